import Derived.Test.YtohfdkdjfoonjaaGreatDoorEvH38
import Derived.Test.YtohfdkdjfoonjaaGreatDoorEvM21
section
set_option linter.unusedSimpArgs false
set_option linter.unusedVariables false
namespace Go.Proofs
namespace House
open Go Go.RowKit Go.Aev
set_option maxRecDepth 100000
end House
end Go.Proofs
end
section
set_option linter.unusedSimpArgs false
set_option linter.unusedVariables false
namespace Go.Proofs
namespace House
open Go Go.RowKit Go.Aev
set_option maxRecDepth 100000
theorem tz72:szOf Tryz.prog 72=some 1:=by kernel_rfl
theorem tt72:inTab Tryz.prog 72=true:=by kernel_rfl
theorem t0_72:zeroOf Tryz.prog 72=some (.slice none 0 0):=by kernel_rfl
end House
end Go.Proofs
end
section
set_option linter.unusedSimpArgs false
set_option linter.unusedVariables false
namespace Go.Proofs
namespace House
open Go Go.RowKit Go.Aev
set_option maxRecDepth 100000
end House
end Go.Proofs
end
