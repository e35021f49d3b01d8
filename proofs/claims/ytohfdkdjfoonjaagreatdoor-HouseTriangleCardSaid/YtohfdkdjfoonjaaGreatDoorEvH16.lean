import Derived.Test.YtohfdkdjfoonjaaGreatDoorEvH15
set_option linter.unusedSimpArgs false
set_option linter.unusedVariables false
namespace Go.Proofs
namespace House
open Go Go.RowKit Go.Aev
set_option maxRecDepth 100000
theorem TY_EvH16:type_of% TY_EvH14:=TY_EvH14
end House
end Go.Proofs
