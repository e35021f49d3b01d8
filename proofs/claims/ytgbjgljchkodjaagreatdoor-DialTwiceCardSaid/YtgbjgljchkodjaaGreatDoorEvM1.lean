/-
  The great seat of stage 1: the makers of a mark: what the program's functions and the reference's are.
-/
import Derived.Test.YtgbjgljchkodjaaGreatDoorBC
set_option linter.unusedSimpArgs false
set_option linter.unusedVariables false
namespace Go.Proofs
namespace Great
open Go Go.RowKit Go.Aev
set_option maxRecDepth 100000
theorem drop_unc {α : Type} {l : List α} {i : Nat} {x : α} {m : List α} (h : l.drop i = x :: m) : l[i]? = some x ∧ l.drop (i + 1) = m := by
  constructor
  · rw [← List.head?_drop, h]; rfl
  · rw [← List.tail_drop, h]; rfl
theorem wrapS {n : Int} (h : -9223372036854775808 ≤ n ∧ n ≤ 9223372036854775807) : IntKind.i64.wrap n = n := IntWalk.i64_in n h
/-! ### One arc -/
theorem r131_nil (lo hi : Int) : r131 [] lo hi = [⟨lo, hi⟩] := by simp [r131, R131_0, R131_1]
theorem r87_one (f l : Int) (h : -9223372036854775808 ≤ l - f ∧ l - f ≤ 9223372036854775807) : r87 [⟨f, l⟩] = [⟨f, l - f⟩] := by
  simp [r87, R87_2, wrapS h]
theorem spans_one {f l : Int} (h : ArcOk f l) : r87 (r88 [⟨f, l⟩]) = [⟨f, l⟩] := by
  have hw : IntKind.i64.wrap (f + l) = f + l := by apply wrapS; unfold ArcOk at h; omega
  unfold r88 R88_0 R88_0
  simp only [hw, r131_nil]
  by_cases h1 : f + l < 43200
  · rw [if_pos h1, r87_one _ _ (by unfold ArcOk at h; omega), show f + l - f = l by omega]
  · rw [if_neg h1]
    have h2 : 0 ≤ f ∧ f < 43200 ∧ 0 ≤ l ∧ l < 43199 := by unfold ArcOk at h; omega
    have w2 : IntKind.i64.wrap (f + l - 43200) = f + l - 43200 := by apply wrapS; omega
    have w3 : IntKind.i64.wrap (43199 + 1) = 43200 := by rw [wrapS] <;> omega
    have w4 : IntKind.i64.wrap (f + l - 43200 + 1) = f + l - 43199 := by rw [wrapS] <;> omega
    have w5 : IntKind.i64.wrap (43199 - f) = 43199 - f := by apply wrapS; omega
    have w6 : IntKind.i64.wrap (43199 - f + 1) = 43200 - f := by rw [wrapS] <;> omega
    have w7 : IntKind.i64.wrap (43200 - f + (f + l - 43200)) = l := by rw [wrapS] <;> omega
    have e1 : r131 [⟨f, 43199⟩] 0 (f + l - 43200) = [⟨0, f + l - 43200⟩, ⟨f, 43199⟩] := by
      have n1 : ¬ (43200 : Int) < 0 := by omega
      have n2 : f + l - 43199 < f := by omega
      have n3 : ¬ f < 0 := by omega
      simp [r131, R131_0, R131_1, w3, w4, n1, n2, n3]
    rw [w2, e1]
    simp [r87, R87_0, lget, w5, w6, w7]
end Great
end Go.Proofs
