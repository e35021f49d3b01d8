/-
  BT: EvT1, EvT2.
-/
import Derived.Test.YtgbjgljchkodjaaGreatDoorBJ
import Derived.Test.YtgbjgljchkodjaaGreatDoorEvZ6
section
/-
  The great seat of stage 1: Strike and Twice in numbers; an index that a number picks.
-/
set_option linter.unusedSimpArgs false
set_option linter.unusedVariables false
namespace Go.Proofs
namespace Great
open Go Go.RowKit Go.Aev
set_option maxRecDepth 100000

end Great
end Go.Proofs
end
section
/-
  The great seat of stage 1: has, within, blurred, by the generator.
-/
set_option linter.unusedSimpArgs false
set_option linter.unusedVariables false
namespace Go.Proofs
namespace Great
open Go Go.RowKit Go.Aev
set_option maxRecDepth 100000
end Great
end Go.Proofs
end
