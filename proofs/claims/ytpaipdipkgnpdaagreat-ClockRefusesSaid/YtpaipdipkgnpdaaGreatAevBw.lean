import Derived.Test.YtpaipdipkgnpdaaGreatAE4
set_option linter.unusedSimpArgs false
set_option linter.unusedVariables false
namespace Go.Aev
open Go Go.RowKit
section
variable {P:Program} {E:Env} {r:Rec}
end
end Go.Aev
