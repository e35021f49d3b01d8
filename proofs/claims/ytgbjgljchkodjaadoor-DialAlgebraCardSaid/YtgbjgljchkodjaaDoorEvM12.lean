/-
  The great seat of stage 1: the law DialGrows is true.
-/
import Derived.Test.YtgbjgljchkodjaaDoorEvC11
import Derived.Test.YtgbjgljchkodjaaDoorBC
import Derived.Test.YtgbjgljchkodjaaDoorEvQ13
set_option linter.unusedSimpArgs false
set_option linter.unusedVariables false
namespace Go.Proofs
namespace Great
open Go Go.RowKit Go.Aev
set_option maxRecDepth 100000
end Great
end Go.Proofs
