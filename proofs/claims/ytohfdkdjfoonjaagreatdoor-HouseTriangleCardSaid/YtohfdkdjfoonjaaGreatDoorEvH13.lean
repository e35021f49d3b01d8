import Derived.Test.YtohfdkdjfoonjaaGreatDoorEvH12
set_option linter.unusedSimpArgs false
set_option linter.unusedVariables false
namespace Go.Proofs
namespace House
open Go Go.RowKit Go.Aev
set_option maxRecDepth 100000
theorem TY_EvH13:type_of% TY_EvH12:=TY_EvH12
end House
end Go.Proofs
