/-
  BD: EvA8, EvA9.
-/
import Derived.Test.YtgbjgljchkodjaaGreatDoorBC
section
/-
  The great seat of stage 1: Unread, by the generator.
-/
set_option linter.unusedSimpArgs false
set_option linter.unusedVariables false
namespace Go.Proofs
namespace Great
open Go Go.RowKit Go.Aev
set_option maxRecDepth 100000
theorem tz90 : szOf Tryz.prog 82 = some 1 := by kernel_rfl
theorem tt90 : inTab Tryz.prog 82 = true := by kernel_rfl
theorem t0_90 : zeroOf Tryz.prog 82 = some (.slice none 0 0) := by kernel_rfl
end Great
end Go.Proofs
end
section
/-
  The great seat of stage 1: DialUnread, by the generator.
-/
set_option linter.unusedSimpArgs false
set_option linter.unusedVariables false
namespace Go.Proofs
namespace Great
open Go Go.RowKit Go.Aev
set_option maxRecDepth 100000
end Great
end Go.Proofs
end
