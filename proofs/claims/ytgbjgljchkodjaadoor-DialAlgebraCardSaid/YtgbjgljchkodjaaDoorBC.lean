/-
  BC: EvA5, EvA6, EvA7, EvM1.
-/
import Derived.Test.YtgbjgljchkodjaaDoorEvA4
section
/-
  The great seat of stage 1: Grow and Angles, by the generator.
-/
set_option linter.unusedSimpArgs false
set_option linter.unusedVariables false
namespace Go.Proofs
namespace Great
open Go Go.RowKit Go.Aev
set_option maxRecDepth 100000
theorem R88_0_len (l : List Ar) : ∀ (m : List Ar) (o : List Sp), (R88_0 l m o).length ≤ 2 * m.length + o.length := by
  intro m
  induction m with
  | nil => intro o; simp [R88_0]
  | cons x m ih =>
    intro o
    unfold R88_0
    split
    · refine Nat.le_trans (ih _) ?_
      have := r131_len o x.f (IntKind.i64.wrap (x.f + x.l))
      simp; omega
    · refine Nat.le_trans (ih _) ?_
      have h1 := r131_len o x.f 43199
      have h2 := r131_len (r131 o x.f 43199) 0 (IntKind.i64.wrap ((IntKind.i64.wrap (x.f + x.l)) - 43200))
      simp; omega
theorem r88_len (l : List Ar) : (r88 l).length ≤ 2 * l.length := by simpa [r88] using R88_0_len l l []

def R31_0 (l : List Ar) (w : Int)  : List Ar → List Ar → (List Ar)
  | [], o => o
  | x1 :: l', o => R31_0 l w l' (o ++ ([(⟨((r94 x1.f x1.l w)).1, ((r94 x1.f x1.l w)).2⟩ : Ar)]))
def r31 (l : List Ar) (w : Int) : List Ar := (r87 ((r88 (R31_0 l w l ([]) : List Ar)) : List Sp))
end Great
end Go.Proofs
end
section
/-
  The great seat of stage 1: DialMakers, by the generator.
-/
set_option linter.unusedSimpArgs false
set_option linter.unusedVariables false
namespace Go.Proofs
namespace Great
open Go Go.RowKit Go.Aev
set_option maxRecDepth 100000
theorem c15s (S : AS) : (evL Tryd.prog E0).call 6 #[] S = some (.bool true, S) := by rw [L_call]; rfl


end Great
end Go.Proofs
end
section
/-
  The great seat of stage 1: Propose, by the generator.
-/
set_option linter.unusedSimpArgs false
set_option linter.unusedVariables false
namespace Go.Proofs
namespace Great
open Go Go.RowKit Go.Aev
set_option maxRecDepth 100000
end Great
end Go.Proofs
end
section
/-
  The great seat of stage 1: the makers of a mark: what the program's functions and the reference's are.
-/
set_option linter.unusedSimpArgs false
set_option linter.unusedVariables false
namespace Go.Proofs
namespace Great
open Go Go.RowKit Go.Aev
set_option maxRecDepth 100000
theorem drop_unc {α : Type} {l : List α} {i : Nat} {x : α} {m : List α} (h : l.drop i = x :: m) : l[i]? = some x ∧ l.drop (i + 1) = m := by
  constructor
  · rw [← List.head?_drop, h]; rfl
  · rw [← List.tail_drop, h]; rfl
theorem errV_z {p : Prop} [Decidable p] : errV p = 0 ↔ p := by unfold errV; split <;> simp [*]
theorem wrapS {n : Int} (h : -9223372036854775808 ≤ n ∧ n ≤ 9223372036854775807) : IntKind.i64.wrap n = n := IntWalk.i64_in n h
theorem R22_0_refl (b : List Ar) : ∀ (m : List Ar) (i : Nat), b.drop i = m → R22_0 b b m i = .inr () := by
  intro m
  induction m with
  | nil => intro i _; rfl
  | cons x m ih =>
    intro i h
    obtain ⟨h1, h2⟩ := drop_unc h
    unfold R22_0
    rw [lget_of h1, if_pos ⟨rfl, rfl⟩]
    exact ih _ h2
theorem r22_refl (b : List Ar) : r22 b b = true := by
  unfold r22
  rw [if_pos rfl, onSum_inr (R22_0_refl b b 0 rfl)]

theorem r94_ok {x y w : Int} (h : ArcOk x y) (hw : 0 ≤ w ∧ w ≤ 43200) : ArcOk (r94 x y w).1 (r94 x y w).2 := by
  have h0 : 0 ≤ y ∧ y ≤ 43199 := by unfold ArcOk at h; omega
  have w1 : IntKind.i64.wrap (2 * w) = 2 * w := by apply wrapS; omega
  have w2 : IntKind.i64.wrap (y + 2 * w) = y + 2 * w := by apply wrapS; omega
  unfold r94
  rw [w1, w2]
  split
  · left; exact ⟨rfl, rfl⟩
  · right
    have := angle_range (IntKind.i64.wrap (x - w))
    exact ⟨this.1, this.2, by omega, by omega⟩
end Great
end Go.Proofs
end
