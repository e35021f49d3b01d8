import Derived.Test.YtohfdkdjfoonjaaGreatDoorEvH22
section
set_option linter.unusedSimpArgs false
set_option linter.unusedVariables false
namespace Go.Proofs
namespace House
open Go Go.RowKit Go.Aev
set_option maxRecDepth 100000
theorem TY_EvH23:type_of% TY_EvH22:=TY_EvH22
end House
end Go.Proofs
end
section
set_option linter.unusedSimpArgs false
set_option linter.unusedVariables false
namespace Go.Proofs
namespace House
open Go Go.RowKit Go.Aev
set_option maxRecDepth 100000
abbrev argsP:Pg→Array Value:=fun b=>#[Value.agg (cellsOf b).toArray]
end House
end Go.Proofs
end
section
set_option linter.unusedSimpArgs false
set_option linter.unusedVariables false
namespace Go.Proofs
namespace House
open Go Go.RowKit Go.Aev
set_option maxRecDepth 100000
theorem tz57:szOf Tryz.prog 57=some 2:=by kernel_rfl
theorem tt57:inTab Tryz.prog 57=true:=by kernel_rfl
theorem t0_57:zeroOf Tryz.prog 57=some (.agg #[.slice none 0 0,.int .i64 0]):=by kernel_rfl
theorem tz58:szOf Tryz.prog 58=some 2:=by kernel_rfl
theorem tt58:inTab Tryz.prog 58=true:=by kernel_rfl
theorem t0_58:zeroOf Tryz.prog 58=some (.agg #[.slice none 0 0,.int .i64 0]):=by kernel_rfl
theorem TY_EvH25:type_of% (And.intro TY_EvH23 (And.intro (And.intro (And.intro Tryz.underlying57 tz57) (And.intro tt57 t0_57)) (And.intro (And.intro Tryz.underlying58 tz58) (And.intro tt58 t0_58)))):=(And.intro TY_EvH23 (And.intro (And.intro (And.intro Tryz.underlying57 tz57) (And.intro tt57 t0_57)) (And.intro (And.intro Tryz.underlying58 tz58) (And.intro tt58 t0_58))))
end House
end Go.Proofs
end
