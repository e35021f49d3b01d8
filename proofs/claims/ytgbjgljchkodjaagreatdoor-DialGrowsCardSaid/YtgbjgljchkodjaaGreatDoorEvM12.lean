/-
  The great seat of stage 1: the law DialGrows is true.
-/
import Derived.Test.YtgbjgljchkodjaaGreatDoorEvC11
import Derived.Test.YtgbjgljchkodjaaGreatDoorEvM1
import Derived.Test.YtgbjgljchkodjaaGreatDoorEvQ13
set_option linter.unusedSimpArgs false
set_option linter.unusedVariables false
namespace Go.Proofs
namespace Great
open Go Go.RowKit Go.Aev
set_option maxRecDepth 100000
theorem r28f_two (a : List Ar) : (r28f a).2 = r20 a := rfl
theorem r4_true (a b : List Ar) (w : Int) : r4 a b w = true := by
  unfold r4
  by_cases h1 : r14 a = true
  case neg => rw [if_neg h1]
  rw [if_pos h1]
  by_cases h2 : r14 b = true
  case neg => rw [if_neg h2]
  rw [if_pos h2]
  by_cases h3 : r20 a = 0
  · rw [if_pos h3]
    by_cases hw : 0 ≤ w ∧ w ≤ 43200
    · rw [if_pos hw, grow_eq h1 h3 hw, if_pos h3.symm, if_pos (r28f_two a), if_pos rfl]
      by_cases h4 : r21 a b = 0
      · rw [if_pos h4, if_pos (r22_refl _), if_pos (size_eq h3), covers_ok h4]
        exact decide_eq_true rfl
      · rw [if_neg h4, covers_bad h4, if_neg (by decide), if_pos (r22_refl _), if_pos (size_eq h3)]
    · rw [if_neg hw, grow_arg h3 hw, if_pos rfl, if_pos (r28f_two a), if_pos rfl, if_neg (by decide)]
      by_cases h4 : r21 a b = 0
      · rw [if_pos h4, if_pos (size_eq h3), covers_ok h4]
        exact decide_eq_true rfl
      · rw [if_neg h4, covers_bad h4, if_neg (by decide), if_pos (size_eq h3)]
  · rw [if_neg h3, grow_bad h3, if_pos rfl, if_pos (r28f_two a), if_pos rfl, if_neg (show ¬ (0 : Int) < ((([] : List Ar), r20 a).1.length : Int) from Int.lt_irrefl 0), if_pos (size_bad h3)]
    by_cases h4 : r21 a b = 0
    · exact absurd (both_ok h4).1 h3
    · rw [if_neg h4, covers_bad h4, if_neg (by decide)]
end Great
end Go.Proofs
