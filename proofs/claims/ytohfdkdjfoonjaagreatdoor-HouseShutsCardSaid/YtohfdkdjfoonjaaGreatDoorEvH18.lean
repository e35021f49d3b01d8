import Derived.Test.YtohfdkdjfoonjaaGreatDoorEvM8
set_option linter.unusedSimpArgs false
set_option linter.unusedVariables false
namespace Go.Proofs
namespace House
open Go Go.RowKit Go.Aev
set_option maxRecDepth 100000
theorem tz154:szOf Tryz.prog 154=some 1:=by kernel_rfl
theorem tt154:inTab Tryz.prog 154=true:=by kernel_rfl
theorem t0_154:zeroOf Tryz.prog 154=some (.int .u64 0):=by kernel_rfl
theorem TY_EvH18:type_of% (And.intro TY_EvH17 (And.intro (And.intro Tryz.underlying154 tz154) (And.intro tt154 t0_154))):=(And.intro TY_EvH17 (And.intro (And.intro Tryz.underlying154 tz154) (And.intro tt154 t0_154)))
end House
end Go.Proofs
