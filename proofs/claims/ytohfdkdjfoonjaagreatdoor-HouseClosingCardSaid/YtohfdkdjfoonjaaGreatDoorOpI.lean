import Derived.Test.YtohfdkdjfoonjaaGreatDoorBO
set_option linter.unusedSimpArgs false
set_option linter.unusedVariables false
namespace Go.Proofs
namespace House
open Go Go.RowKit Go.Aev
set_option maxRecDepth 100000
theorem opInts:Opens Tryz.prog 54 (List Int):=.slice Tryz.underlying54 opInt (by decide) (by kernel_rfl)
end House
end Go.Proofs
