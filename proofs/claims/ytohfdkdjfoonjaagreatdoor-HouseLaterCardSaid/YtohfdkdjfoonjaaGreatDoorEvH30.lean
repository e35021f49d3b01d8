import Derived.Test.YtohfdkdjfoonjaaGreatDoorEvH29
set_option linter.unusedSimpArgs false
set_option linter.unusedVariables false
namespace Go.Proofs
namespace House
open Go Go.RowKit Go.Aev
set_option maxRecDepth 100000
theorem TY_EvH30:type_of% TY_EvH28:=TY_EvH28
end House
end Go.Proofs
