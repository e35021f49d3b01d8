/-
  BJ: EvA15, EvM3.
-/
import Derived.Test.YtgbjgljchkodjaaDoorBI
section
/-
  The great seat of stage 1: Sharpen, and the law DialKnows, by the generator.
-/
set_option linter.unusedSimpArgs false
set_option linter.unusedVariables false
namespace Go.Proofs
namespace Great
open Go Go.RowKit Go.Aev
set_option maxRecDepth 100000
end Great
end Go.Proofs
end
section
/-
  The great seat of stage 1: what is known of marks: the law's run says true.
-/
set_option linter.unusedSimpArgs false
set_option linter.unusedVariables false
namespace Go.Proofs
namespace Great
open Go Go.RowKit Go.Aev
set_option maxRecDepth 100000
end Great
end Go.Proofs
end
