import Derived.Test.YtohfdkdjfoonjaaGreatDoorEvH5
set_option linter.unusedSimpArgs false
set_option linter.unusedVariables false
namespace Go.Proofs
namespace House
open Go Go.RowKit Go.Aev
set_option maxRecDepth 100000
theorem tz29:szOf Tryz.prog 29=some 1:=by kernel_rfl
theorem tt29:inTab Tryz.prog 29=true:=by kernel_rfl
theorem t0_29:zeroOf Tryz.prog 29=some (.int .i64 0):=by kernel_rfl
theorem tz50:szOf Tryz.prog 50=some 3:=by kernel_rfl
theorem tt50:inTab Tryz.prog 50=true:=by kernel_rfl
theorem t0_50:zeroOf Tryz.prog 50=some (.agg #[.int .i64 0,.int .i64 0,.int .i64 0]):=by kernel_rfl
theorem tz51:szOf Tryz.prog 51=some 3:=by kernel_rfl
theorem tt51:inTab Tryz.prog 51=true:=by kernel_rfl
theorem t0_51:zeroOf Tryz.prog 51=some (.agg #[.int .i64 0,.int .i64 0,.int .i64 0]):=by kernel_rfl
theorem TY_EvH6:type_of% (And.intro TY_EvH5 (And.intro (And.intro (And.intro Tryz.underlying29 (And.intro tz29 tt29)) (And.intro t0_29 (And.intro Tryz.underlying50 tz50))) (And.intro (And.intro tt50 (And.intro t0_50 Tryz.underlying51)) (And.intro tz51 (And.intro tt51 t0_51))))):=(And.intro TY_EvH5 (And.intro (And.intro (And.intro Tryz.underlying29 (And.intro tz29 tt29)) (And.intro t0_29 (And.intro Tryz.underlying50 tz50))) (And.intro (And.intro tt50 (And.intro t0_50 Tryz.underlying51)) (And.intro tz51 (And.intro tt51 t0_51)))))
end House
end Go.Proofs
