import Derived.Test.YtohfdkdjfoonjaaGreatDoorEvH21
set_option linter.unusedSimpArgs false
set_option linter.unusedVariables false
namespace Go.Proofs
namespace House
open Go Go.RowKit Go.Aev
set_option maxRecDepth 100000
theorem TY_EvH22:type_of% TY_EvH21:=TY_EvH21
end House
end Go.Proofs
