/-
  The great seat of stage 1: the law DialGrows, by the generator.
-/
import Derived.Test.YtgbjgljchkodjaaGreatDoorEvM11
set_option linter.unusedSimpArgs false
set_option linter.unusedVariables false
namespace Go.Proofs
namespace Great
open Go Go.RowKit Go.Aev
set_option maxRecDepth 100000
theorem tt4 : inTab Tryz.prog 4 = true := by kernel_rfl
theorem t0_4 : zeroOf Tryz.prog 4 = some (.bool false) := by kernel_rfl
end Great
end Go.Proofs
