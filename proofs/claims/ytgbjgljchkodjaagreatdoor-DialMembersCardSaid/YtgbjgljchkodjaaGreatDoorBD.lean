/-
  BD: EvA8, EvA9.
-/
import Derived.Test.YtgbjgljchkodjaaGreatDoorBC
section
/-
  The great seat of stage 1: Unread, by the generator.
-/
set_option linter.unusedSimpArgs false
set_option linter.unusedVariables false
namespace Go.Proofs
namespace Great
open Go Go.RowKit Go.Aev
set_option maxRecDepth 100000
theorem tz90 : szOf Tryz.prog 82 = some 1 := by kernel_rfl
theorem tt90 : inTab Tryz.prog 82 = true := by kernel_rfl
theorem t0_90 : zeroOf Tryz.prog 82 = some (.slice none 0 0) := by kernel_rfl
def r7 (ks : List K) (i t p : Int) (tr : Int) (fr : Int) (f s l : Int) : Bool := (if 60 < (ks.length : Int) then true else (if ((r48 (ks : List K) tr fr f s l).1) = ((r49 (ks : List K) tr fr f s l).1) then decide (((r48 (ks : List K) tr fr f s l).2) = ((r49 (ks : List K) tr fr f s l).2)) else false))
end Great
end Go.Proofs
end
section
/-
  The great seat of stage 1: DialUnread, by the generator.
-/
set_option linter.unusedSimpArgs false
set_option linter.unusedVariables false
namespace Go.Proofs
namespace Great
open Go Go.RowKit Go.Aev
set_option maxRecDepth 100000
end Great
end Go.Proofs
end
