/-
  The great seat of stage 1 at c2f8ee9: Strike and Twice.
-/
import Derived.Test.YtgbjgljchkodjaaGreatDoorEvZ4
set_option linter.unusedSimpArgs false
set_option linter.unusedVariables false
namespace Go.Proofs
namespace Great
open Go Go.RowKit Go.Aev
set_option maxRecDepth 100000
def argV (e : Int) : Value := .tuple #[.agg #[.int .i64 0, .int .i64 0, .int .i64 0, .int .i64 0, .int .i64 0], .int .i64 e]
theorem hitV_is (set tr at_ lo mi di sh f s l : Int) : ∃ a b c d e g : Int, hitV set tr at_ lo mi di sh f s l = .tuple #[.agg #[.int .i64 a, .int .i64 b, .int .i64 c, .int .i64 d, .int .i64 e], .int .i64 g] := by
  unfold hitV
  split <;> exact ⟨_, _, _, _, _, _, rfl⟩
end Great
end Go.Proofs
