/-
  The great seat of stage 1: the law DialSets is true.
-/
import Derived.Test.YtgbjgljchkodjaaGreatDoorEvC9
import Derived.Test.YtgbjgljchkodjaaGreatDoorEvM1
import Derived.Test.YtgbjgljchkodjaaGreatDoorEvQ13
set_option linter.unusedSimpArgs false
set_option linter.unusedVariables false
namespace Go.Proofs
namespace Great
open Go Go.RowKit Go.Aev
set_option maxRecDepth 100000
theorem nrm_pos {a : List Ar} (h : r20 a = 0) : nrm a = r23 a := if_pos h
theorem nrm_neg {a : List Ar} (h : ¬ r20 a = 0) : nrm a = [] := if_neg h
theorem two_pos {g : List Ar → List Ar → List Ar} {a b : List Ar} (h : r21 a b = 0) : two g a b = g a b := if_pos h
theorem two_neg {g : List Ar → List Ar → List Ar} {a b : List Ar} (h : ¬ r21 a b = 0) : two g a b = [] := if_neg h
theorem r3_true (a b : List Ar) : r3 a b = true := by
  unfold r3
  by_cases h1 : r14 a = true
  case neg => rw [if_neg h1]
  rw [if_pos h1]
  by_cases h2 : r14 b = true
  case neg => rw [if_neg h2]
  rw [if_pos h2, if_pos rfl, if_pos rfl]
  by_cases h3 : r20 a = 0
  · rw [if_pos h3, nrm_pos h3]
    by_cases h4 : r21 a b = 0
    · rw [if_pos h4, two_pos h4, two_pos h4, two_pos h4, if_pos (r22_refl _), if_pos (r22_refl _), if_pos (r22_refl _), r22_refl]
    · rw [if_neg h4, two_neg h4, two_neg h4, two_neg h4, if_neg (by decide), if_pos (r22_refl _)]
  · rw [if_neg h3, nrm_neg h3, if_neg (by decide)]
    by_cases h4 : r21 a b = 0
    · rw [if_pos h4, two_pos h4, two_pos h4, two_pos h4, if_pos (r22_refl _), if_pos (r22_refl _), r22_refl]
    · rw [if_neg h4, two_neg h4, two_neg h4, two_neg h4]; rfl
end Great
end Go.Proofs
