/-
  The great seat of stage 1: the makers of a mark: what the program's functions and the reference's are.
-/
import Derived.Test.YtgbjgljchkodjaaGreatDoorBC
set_option linter.unusedSimpArgs false
set_option linter.unusedVariables false
namespace Go.Proofs
namespace Great
open Go Go.RowKit Go.Aev
set_option maxRecDepth 100000
theorem drop_unc {α : Type} {l : List α} {i : Nat} {x : α} {m : List α} (h : l.drop i = x :: m) : l[i]? = some x ∧ l.drop (i + 1) = m := by
  constructor
  · rw [← List.head?_drop, h]; rfl
  · rw [← List.tail_drop, h]; rfl
theorem R22_0_refl (b : List Ar) : ∀ (m : List Ar) (i : Nat), b.drop i = m → R22_0 b b m i = .inr () := by
  intro m
  induction m with
  | nil => intro i _; rfl
  | cons x m ih =>
    intro i h
    obtain ⟨h1, h2⟩ := drop_unc h
    unfold R22_0
    rw [lget_of h1, if_pos ⟨rfl, rfl⟩]
    exact ih _ h2
theorem r22_refl (b : List Ar) : r22 b b = true := by
  unfold r22
  rw [if_pos rfl, onSum_inr (R22_0_refl b b 0 rfl)]

end Great
end Go.Proofs
