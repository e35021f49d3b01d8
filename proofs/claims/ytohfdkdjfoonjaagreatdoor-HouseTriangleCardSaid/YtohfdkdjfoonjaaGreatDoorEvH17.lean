import Derived.Test.YtohfdkdjfoonjaaGreatDoorEvH16
set_option linter.unusedSimpArgs false
set_option linter.unusedVariables false
namespace Go.Proofs
namespace House
open Go Go.RowKit Go.Aev
set_option maxRecDepth 100000
theorem TY_EvH17:type_of% TY_EvH16:=TY_EvH16
end House
end Go.Proofs
