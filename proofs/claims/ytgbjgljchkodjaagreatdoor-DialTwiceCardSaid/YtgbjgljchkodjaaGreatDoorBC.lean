/-
  BC: EvA5, EvA6, EvA7.
-/
import Derived.Test.YtgbjgljchkodjaaGreatDoorEvA4
section
/-
  The great seat of stage 1: Grow and Angles, by the generator.
-/
set_option linter.unusedSimpArgs false
set_option linter.unusedVariables false
namespace Go.Proofs
namespace Great
open Go Go.RowKit Go.Aev
set_option maxRecDepth 100000
end Great
end Go.Proofs
end
section
/-
  The great seat of stage 1: DialMakers, by the generator.
-/
set_option linter.unusedSimpArgs false
set_option linter.unusedVariables false
namespace Go.Proofs
namespace Great
open Go Go.RowKit Go.Aev
set_option maxRecDepth 100000
theorem c15s (S : AS) : (evL Tryz.prog E0).call 11 #[] S = some (.bool true, S) := by rw [L_call]; rfl


theorem R60_1_len (ks : List K) (a b c d e f s l : Int) (j : Nat) (o : List (Int × Int)) (x : K) : ∀ (m : List K) (p : List (Int × Int)), (R60_1 ks a b c d e f s l j o x m p).length ≤ m.length + p.length := by
  intro m
  induction m with
  | nil => intro o; simp [R60_1]
  | cons x m ih =>
    intro o
    unfold R60_1
    (repeat' split) <;> (refine Nat.le_trans (ih _) ?_; simp; try omega)
theorem R60_0_len (ks : List K) (a b c d e f s l : Int) (h : ks.length ≤ 60) : ∀ (m : List K) (j : Nat) (o : List (Int × Int)), (R60_0 ks a b c d e f s l m j o).length ≤ m.length * 60 + o.length := by
  intro m
  induction m with
  | nil => intro j o; simp [R60_0]
  | cons x m ih =>
    intro j o
    unfold R60_0
    have h1 := R60_1_len ks a b c d e f s l j o x (ks.drop (j + 1)) o
    have h2 := List.length_drop (i := j + 1) (l := ks)
    split <;> (refine Nat.le_trans (ih _ _) ?_; simp only [List.length_cons]; omega)
theorem r60_len (ks : List K) (a b c d e f s l : Int) (h : ks.length ≤ 60) : (r60 ks a b c d e f s l).1.length ≤ 3600 := by
  unfold r60
  have := R60_0_len ks a b c d e f s l h ks 0 []
  split
  · split
    · split
      · simp only [List.length_nil] at this ⊢; omega
      · simp
    · simp
  · simp
end Great
end Go.Proofs
end
section
/-
  The great seat of stage 1: Propose, by the generator.
-/
set_option linter.unusedSimpArgs false
set_option linter.unusedVariables false
namespace Go.Proofs
namespace Great
open Go Go.RowKit Go.Aev
set_option maxRecDepth 100000
end Great
end Go.Proofs
end
