import Derived.Test.YtohfdkdjfoonjaaGreatDoorBT
section
set_option linter.unusedSimpArgs false
set_option linter.unusedVariables false
namespace Go.Proofs
namespace House
open Go Go.RowKit Go.Aev
set_option maxRecDepth 100000
theorem tz125:szOf Tryz.prog 125=some 1:=by kernel_rfl
theorem tt125:inTab Tryz.prog 125=true:=by kernel_rfl
theorem t0_125:zeroOf Tryz.prog 125=some (.nilFunc):=by kernel_rfl
theorem TY_EvH26:type_of% (And.intro TY_EvH25 (And.intro (And.intro Tryz.underlying125 tz125) (And.intro tt125 t0_125))):=(And.intro TY_EvH25 (And.intro (And.intro Tryz.underlying125 tz125) (And.intro tt125 t0_125)))
end House
end Go.Proofs
end
section
set_option linter.unusedSimpArgs false
set_option linter.unusedVariables false
namespace Go.Proofs
namespace House
open Go Go.RowKit Go.Aev
set_option maxRecDepth 100000
theorem tz124:szOf Tryz.prog 124=some 1:=by kernel_rfl
theorem tt124:inTab Tryz.prog 124=true:=by kernel_rfl
theorem t0_124:zeroOf Tryz.prog 124=some (.nilFunc):=by kernel_rfl
theorem TY_EvH27:type_of% (And.intro TY_EvH26 (And.intro (And.intro Tryz.underlying124 tz124) (And.intro tt124 t0_124))):=(And.intro TY_EvH26 (And.intro (And.intro Tryz.underlying124 tz124) (And.intro tt124 t0_124)))
end House
end Go.Proofs
end
