/-
  The great seat of stage 1: the makers of a mark: what the program's functions and the reference's are.
-/
import Derived.Test.YtgbjgljchkodjaaGreatDoorBC
set_option linter.unusedSimpArgs false
set_option linter.unusedVariables false
namespace Go.Proofs
namespace Great
open Go Go.RowKit Go.Aev
set_option maxRecDepth 100000
theorem drop_unc {α : Type} {l : List α} {i : Nat} {x : α} {m : List α} (h : l.drop i = x :: m) : l[i]? = some x ∧ l.drop (i + 1) = m := by
  constructor
  · rw [← List.head?_drop, h]; rfl
  · rw [← List.tail_drop, h]; rfl
theorem wrapS {n : Int} (h : -9223372036854775808 ≤ n ∧ n ≤ 9223372036854775807) : IntKind.i64.wrap n = n := IntWalk.i64_in n h
theorem R22_0_refl (b : List Ar) : ∀ (m : List Ar) (i : Nat), b.drop i = m → R22_0 b b m i = .inr () := by
  intro m
  induction m with
  | nil => intro i _; rfl
  | cons x m ih =>
    intro i h
    obtain ⟨h1, h2⟩ := drop_unc h
    unfold R22_0
    rw [lget_of h1, if_pos ⟨rfl, rfl⟩]
    exact ih _ h2
theorem r22_refl (b : List Ar) : r22 b b = true := by
  unfold r22
  rw [if_pos rfl, onSum_inr (R22_0_refl b b 0 rfl)]

theorem r94_ok {x y w : Int} (h : ArcOk x y) (hw : 0 ≤ w ∧ w ≤ 43200) : ArcOk (r94 x y w).1 (r94 x y w).2 := by
  have h0 : 0 ≤ y ∧ y ≤ 43199 := by unfold ArcOk at h; omega
  have w1 : IntKind.i64.wrap (2 * w) = 2 * w := by apply wrapS; omega
  have w2 : IntKind.i64.wrap (y + 2 * w) = y + 2 * w := by apply wrapS; omega
  unfold r94
  rw [w1, w2]
  split
  · left; exact ⟨rfl, rfl⟩
  · right
    have := angle_range (IntKind.i64.wrap (x - w))
    exact ⟨this.1, this.2, by omega, by omega⟩
end Great
end Go.Proofs
