import Derived.Test.YtpaipdipkgnpdaaGreatBV
import Derived.Test.YtpaipdipkgnpdaaGreatAE7
import Derived.Test.YtpaipdipkgnpdaaGreatBU
section
set_option linter.unusedSimpArgs false
set_option linter.unusedVariables false
namespace Go.Proofs
namespace Clock
open Go Go.RowKit Go.Aev
set_option maxRecDepth 100000
theorem tz220:szOf Tryz.prog 220=some 1:=by kernel_rfl
theorem tt220:inTab Tryz.prog 220=true:=by kernel_rfl
theorem t0_220:zeroOf Tryz.prog 220=some (.slice none 0 0):=by kernel_rfl
theorem TY_EvW14:type_of% (And.intro TY_EvW13 (And.intro (And.intro Tryz.underlying220 tz220) (And.intro tt220 t0_220))):=(And.intro TY_EvW13 (And.intro (And.intro Tryz.underlying220 tz220) (And.intro tt220 t0_220)))
end Clock
end Go.Proofs
end
section
set_option linter.unusedSimpArgs false
set_option linter.unusedVariables false
namespace Go.Proofs
namespace Clock
open Go Go.RowKit Go.Aev
set_option maxRecDepth 100000
theorem TY_EvW15:type_of% TY_EvW14:=TY_EvW14
end Clock
end Go.Proofs
end
section
set_option linter.unusedSimpArgs false
set_option linter.unusedVariables false
namespace Go.Proofs
namespace Clock
open Go Go.RowKit Go.Aev
set_option maxRecDepth 100000
theorem TY_EvW16:type_of% TY_EvW15:=TY_EvW15
end Clock
end Go.Proofs
end
