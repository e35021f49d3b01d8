import Derived.Test.YtohfdkdjfoonjaaGreatDoorBW
import Derived.Test.YtohfdkdjfoonjaaGreatDoorBX
section
set_option linter.unusedSimpArgs false
set_option linter.unusedVariables false
namespace Go.Proofs
namespace House
open Go Go.RowKit Go.Aev
set_option maxRecDepth 100000
end House
end Go.Proofs
end
section
set_option linter.unusedSimpArgs false
set_option linter.unusedVariables false
namespace Go.Proofs
namespace House
open Go Go.RowKit Go.Aev
set_option maxRecDepth 100000
instance:Cel Stp:=⟨3,fun x=>[.int .i64 x.way,.bool x.back,.int .i64 x.at_],fun _=>rfl,fun _=>rfl⟩
end House
end Go.Proofs
end
section
set_option linter.unusedSimpArgs false
set_option linter.unusedVariables false
namespace Go.Proofs
namespace House
open Go Go.RowKit Go.Aev
set_option maxRecDepth 100000
end House
end Go.Proofs
end
section
set_option linter.unusedSimpArgs false
set_option linter.unusedVariables false
namespace Go.Proofs
namespace House
open Go Go.RowKit Go.Aev
set_option maxRecDepth 100000
end House
end Go.Proofs
end
section
set_option linter.unusedSimpArgs false
set_option linter.unusedVariables false
namespace Go.Proofs
namespace House
open Go Go.RowKit Go.Aev
set_option maxRecDepth 100000
end House
end Go.Proofs
end
