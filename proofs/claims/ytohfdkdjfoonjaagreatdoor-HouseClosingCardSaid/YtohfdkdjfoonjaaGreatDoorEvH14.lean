import Derived.Test.YtohfdkdjfoonjaaGreatDoorEvM7
import Derived.Test.YtohfdkdjfoonjaaGreatDoorAE6
set_option linter.unusedSimpArgs false
set_option linter.unusedVariables false
namespace Go.Proofs
namespace House
open Go Go.RowKit Go.Aev
set_option maxRecDepth 100000
theorem TY_EvH14:type_of% TY_EvH13:=TY_EvH13
end House
end Go.Proofs
