/-
  BZZ: EvZ4, EvZ5, EvZ6.
-/
import Derived.Test.YtgbjgljchkodjaaDoorBZ
section
/-
  The great seat of stage 1 at c2f8ee9: Strike.
-/
set_option linter.unusedSimpArgs false
set_option linter.unusedVariables false
namespace Go.Proofs
namespace Great
open Go Go.RowKit Go.Aev
set_option maxRecDepth 100000
def HitOk (set mi di sh f s l : Int) : Prop := cnt (andV set mi) ≤ f ∧ cnt (notV di set) ≤ s ∧ -l ≤ sh ∧ sh ≤ l
instance (set mi di sh f s l : Int) : Decidable (HitOk set mi di sh f s l) := by unfold HitOk; infer_instance
end Great
end Go.Proofs
end
section
/-
  The great seat of stage 1 at c2f8ee9: Strike and Twice.
-/
set_option linter.unusedSimpArgs false
set_option linter.unusedVariables false
namespace Go.Proofs
namespace Great
open Go Go.RowKit Go.Aev
set_option maxRecDepth 100000
end Great
end Go.Proofs
end
section
/-
  The great seat of stage 1 at c2f8ee9: Twice.
-/
set_option linter.unusedSimpArgs false
set_option linter.unusedVariables false
namespace Go.Proofs
namespace Great
open Go Go.RowKit Go.Aev
set_option maxRecDepth 100000
def TwiceOk (i1 t1 i2 t2 ap : Int) : Prop := i1 ≠ i2 ∧ t1 = t2 ∧ 0 ≤ ap ∧ ap ≤ 60
instance (i1 t1 i2 t2 ap : Int) : Decidable (TwiceOk i1 t1 i2 t2 ap) := by unfold TwiceOk; infer_instance
end Great
end Go.Proofs
end
