/-
  BC: EvA5, EvA6, EvA7.
-/
import Derived.Test.YtgbjgljchkodjaaGreatDoorEvA4
section
/-
  The great seat of stage 1: Grow and Angles, by the generator.
-/
set_option linter.unusedSimpArgs false
set_option linter.unusedVariables false
namespace Go.Proofs
namespace Great
open Go Go.RowKit Go.Aev
set_option maxRecDepth 100000
end Great
end Go.Proofs
end
section
/-
  The great seat of stage 1: DialMakers, by the generator.
-/
set_option linter.unusedSimpArgs false
set_option linter.unusedVariables false
namespace Go.Proofs
namespace Great
open Go Go.RowKit Go.Aev
set_option maxRecDepth 100000
theorem c15s (S : AS) : (evL Tryz.prog E0).call 11 #[] S = some (.bool true, S) := by rw [L_call]; rfl


theorem R59_0_len (ks : List K) (a b c d e f s l : Int) : ∀ (m : List K) (o : List Int), (R59_0 ks a b c d e f s l m o).length ≤ m.length + o.length := by
  intro m
  induction m with
  | nil => intro o; simp [R59_0]
  | cons x m ih =>
    intro o
    unfold R59_0
    split <;> (refine Nat.le_trans (ih _) ?_; simp; try omega)
theorem r59_len (ks : List K) (a b c d e f s l : Int) : (r59 ks a b c d e f s l).1.length ≤ ks.length := by
  unfold r59
  have := R59_0_len ks a b c d e f s l ks []
  split
  · split
    · split
      · simpa using this
      · simp
    · simp
  · simp
theorem r61_len (i t p a b c d e f s l : Int) : (r61 i t p a b c d e f s l).1.length ≤ 1 := by
  unfold r61
  (repeat' split) <;> simp

end Great
end Go.Proofs
end
section
/-
  The great seat of stage 1: Propose, by the generator.
-/
set_option linter.unusedSimpArgs false
set_option linter.unusedVariables false
namespace Go.Proofs
namespace Great
open Go Go.RowKit Go.Aev
set_option maxRecDepth 100000
end Great
end Go.Proofs
end
