import Derived.Test.YtohfdkdjfoonjaaGreatDoorEvM6
set_option linter.unusedSimpArgs false
set_option linter.unusedVariables false
namespace Go.Proofs
namespace House
open Go Go.RowKit Go.Aev
set_option maxRecDepth 100000
theorem TY_EvH12:type_of% TY_EvH11:=TY_EvH11
end House
end Go.Proofs
