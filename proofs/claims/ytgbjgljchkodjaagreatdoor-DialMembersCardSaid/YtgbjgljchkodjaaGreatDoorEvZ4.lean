/-
  The great seat of stage 1 at c2f8ee9: Strike.
-/
import Derived.Test.YtgbjgljchkodjaaGreatDoorBZ
set_option linter.unusedSimpArgs false
set_option linter.unusedVariables false
namespace Go.Proofs
namespace Great
open Go Go.RowKit Go.Aev
set_option maxRecDepth 100000
def HitOk (set mi di sh f s l : Int) : Prop := cnt (andV set mi) ≤ f ∧ cnt (notV di set) ≤ s ∧ -l ≤ sh ∧ sh ≤ l
instance (set mi di sh f s l : Int) : Decidable (HitOk set mi di sh f s l) := by unfold HitOk; infer_instance
end Great
end Go.Proofs
