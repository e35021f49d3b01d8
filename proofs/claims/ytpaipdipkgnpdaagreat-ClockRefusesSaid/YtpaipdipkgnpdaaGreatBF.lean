import Derived.Test.YtpaipdipkgnpdaaGreatBE
import Derived.Test.YtpaipdipkgnpdaaGreatAevBv
section
set_option linter.unusedSimpArgs false
set_option linter.unusedVariables false
namespace Go.Proofs
namespace Clock
open Go Go.RowKit Go.Aev
set_option maxRecDepth 100000
theorem tz92:szOf Tryz.prog 92=some 1:=by kernel_rfl
theorem tt92:inTab Tryz.prog 92=true:=by kernel_rfl
theorem t0_92:zeroOf Tryz.prog 92=some (.slice none 0 0):=by kernel_rfl
theorem tz93:szOf Tryz.prog 93=some 3:=by kernel_rfl
theorem tt93:inTab Tryz.prog 93=true:=by kernel_rfl
theorem t0_93:zeroOf Tryz.prog 93=some (.agg #[.int .i64 0,.int .i64 0,.slice none 0 0]):=by kernel_rfl
theorem tz94:szOf Tryz.prog 94=some 3:=by kernel_rfl
theorem tt94:inTab Tryz.prog 94=true:=by kernel_rfl
theorem t0_94:zeroOf Tryz.prog 94=some (.agg #[.int .i64 0,.int .i64 0,.slice none 0 0]):=by kernel_rfl
theorem tz103:szOf Tryz.prog 103=some 2:=by kernel_rfl
theorem tt103:inTab Tryz.prog 103=true:=by kernel_rfl
theorem t0_103:zeroOf Tryz.prog 103=some (.agg #[.int .i64 0,.int .i64 0]):=by kernel_rfl
theorem tz104:szOf Tryz.prog 104=some 2:=by kernel_rfl
theorem tt104:inTab Tryz.prog 104=true:=by kernel_rfl
theorem t0_104:zeroOf Tryz.prog 104=some (.agg #[.int .i64 0,.int .i64 0]):=by kernel_rfl
theorem tz164:szOf Tryz.prog 164=some 2:=by kernel_rfl
theorem tt164:inTab Tryz.prog 164=true:=by kernel_rfl
theorem t0_164:zeroOf Tryz.prog 164=some (.agg #[.int .i64 0,.int .i64 0]):=by kernel_rfl
theorem tz165:szOf Tryz.prog 165=some 2:=by kernel_rfl
theorem tt165:inTab Tryz.prog 165=true:=by kernel_rfl
theorem t0_165:zeroOf Tryz.prog 165=some (.agg #[.int .i64 0,.int .i64 0]):=by kernel_rfl
theorem TY_EvW2:type_of% (And.intro TY_EvW1 (And.intro (And.intro (And.intro (And.intro Tryz.underlying92 (And.intro tz92 tt92)) (And.intro (And.intro t0_92 Tryz.underlying93) (And.intro tz93 tt93))) (And.intro (And.intro t0_93 (And.intro Tryz.underlying94 tz94)) (And.intro (And.intro tt94 t0_94) (And.intro Tryz.underlying103 tz103)))) (And.intro (And.intro (And.intro tt103 (And.intro t0_103 Tryz.underlying104)) (And.intro (And.intro tz104 tt104) (And.intro t0_104 Tryz.underlying164))) (And.intro (And.intro tz164 (And.intro tt164 t0_164)) (And.intro (And.intro Tryz.underlying165 tz165) (And.intro tt165 t0_165)))))):=(And.intro TY_EvW1 (And.intro (And.intro (And.intro (And.intro Tryz.underlying92 (And.intro tz92 tt92)) (And.intro (And.intro t0_92 Tryz.underlying93) (And.intro tz93 tt93))) (And.intro (And.intro t0_93 (And.intro Tryz.underlying94 tz94)) (And.intro (And.intro tt94 t0_94) (And.intro Tryz.underlying103 tz103)))) (And.intro (And.intro (And.intro tt103 (And.intro t0_103 Tryz.underlying104)) (And.intro (And.intro tz104 tt104) (And.intro t0_104 Tryz.underlying164))) (And.intro (And.intro tz164 (And.intro tt164 t0_164)) (And.intro (And.intro Tryz.underlying165 tz165) (And.intro tt165 t0_165))))))
end Clock
end Go.Proofs
end
section
set_option linter.unusedSimpArgs false
set_option linter.unusedVariables false
namespace Go.Proofs
namespace Clock
open Go Go.RowKit Go.Aev
set_option maxRecDepth 100000
theorem TY_EvW3:type_of% TY_EvW2:=TY_EvW2
end Clock
end Go.Proofs
end
