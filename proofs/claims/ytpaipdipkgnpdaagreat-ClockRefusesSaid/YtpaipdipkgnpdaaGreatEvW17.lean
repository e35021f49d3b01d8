import Derived.Test.YtpaipdipkgnpdaaGreatBG
set_option linter.unusedSimpArgs false
set_option linter.unusedVariables false
namespace Go.Proofs
namespace Clock
open Go Go.RowKit Go.Aev
set_option maxRecDepth 100000
end Clock
end Go.Proofs
