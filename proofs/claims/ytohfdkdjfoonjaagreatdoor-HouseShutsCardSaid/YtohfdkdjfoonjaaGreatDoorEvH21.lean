import Derived.Test.YtohfdkdjfoonjaaGreatDoorBS
set_option linter.unusedSimpArgs false
set_option linter.unusedVariables false
namespace Go.Proofs
namespace House
open Go Go.RowKit Go.Aev
set_option maxRecDepth 100000
theorem tz134:szOf Tryz.prog 134=some 1:=by kernel_rfl
theorem tt134:inTab Tryz.prog 134=true:=by kernel_rfl
theorem t0_134:zeroOf Tryz.prog 134=some (.slice none 0 0):=by kernel_rfl
theorem tz141:szOf Tryz.prog 141=some 2:=by kernel_rfl
theorem tt141:inTab Tryz.prog 141=true:=by kernel_rfl
theorem t0_141:zeroOf Tryz.prog 141=some (.agg #[.slice none 0 0,.slice none 0 0]):=by kernel_rfl
theorem tz142:szOf Tryz.prog 142=some 2:=by kernel_rfl
theorem tt142:inTab Tryz.prog 142=true:=by kernel_rfl
theorem t0_142:zeroOf Tryz.prog 142=some (.agg #[.slice none 0 0,.slice none 0 0]):=by kernel_rfl
theorem tz148:szOf Tryz.prog 148=some 1:=by kernel_rfl
theorem tt148:inTab Tryz.prog 148=true:=by kernel_rfl
theorem t0_148:zeroOf Tryz.prog 148=some (.slice none 0 0):=by kernel_rfl
theorem TY_EvH21:type_of% (And.intro TY_EvH20 (And.intro (And.intro (And.intro (And.intro Tryz.underlying134 tz134) (And.intro tt134 t0_134)) (And.intro (And.intro Tryz.underlying141 tz141) (And.intro tt141 t0_141))) (And.intro (And.intro (And.intro Tryz.underlying142 tz142) (And.intro tt142 t0_142)) (And.intro (And.intro Tryz.underlying148 tz148) (And.intro tt148 t0_148))))):=(And.intro TY_EvH20 (And.intro (And.intro (And.intro (And.intro Tryz.underlying134 tz134) (And.intro tt134 t0_134)) (And.intro (And.intro Tryz.underlying141 tz141) (And.intro tt141 t0_141))) (And.intro (And.intro (And.intro Tryz.underlying142 tz142) (And.intro tt142 t0_142)) (And.intro (And.intro Tryz.underlying148 tz148) (And.intro tt148 t0_148)))))
end House
end Go.Proofs
