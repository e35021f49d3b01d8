/-
  The great seat of stage 1 at c2f8ee9: Twice.
-/
import Derived.Test.YtgbjgljchkodjaaGreatDoorEvZ5
set_option linter.unusedSimpArgs false
set_option linter.unusedVariables false
namespace Go.Proofs
namespace Great
open Go Go.RowKit Go.Aev
set_option maxRecDepth 100000
def TwiceOk (i1 t1 i2 t2 ap : Int) : Prop := i1 ≠ i2 ∧ t1 = t2 ∧ 0 ≤ ap ∧ ap ≤ 60
instance (i1 t1 i2 t2 ap : Int) : Decidable (TwiceOk i1 t1 i2 t2 ap) := by unfold TwiceOk; infer_instance
end Great
end Go.Proofs
