/-
  The great seat of stage 1: the law DialStrikesRead, by the generator.
-/
import Derived.Test.YtgbjgljchkodjaaGreatDoorBT
set_option linter.unusedSimpArgs false
set_option linter.unusedVariables false
namespace Go.Proofs
namespace Great
open Go Go.RowKit Go.Aev
set_option maxRecDepth 100000
end Great
end Go.Proofs
