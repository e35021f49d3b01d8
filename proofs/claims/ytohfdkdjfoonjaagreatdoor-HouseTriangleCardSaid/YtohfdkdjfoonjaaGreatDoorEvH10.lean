import Derived.Test.YtohfdkdjfoonjaaGreatDoorEvH9
import Derived.Test.YtohfdkdjfoonjaaGreatDoorEvM3
set_option linter.unusedSimpArgs false
set_option linter.unusedVariables false
namespace Go.Proofs
namespace House
open Go Go.RowKit Go.Aev
set_option maxRecDepth 100000
theorem TY_EvH10:type_of% TY_EvH7:=TY_EvH7
end House
end Go.Proofs
