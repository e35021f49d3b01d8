import Derived.Test.YtohfdkdjfoonjaaGreatDoorEvH18
import Derived.Test.YtohfdkdjfoonjaaGreatDoorAE6
section
set_option linter.unusedSimpArgs false
set_option linter.unusedVariables false
namespace Go.Proofs
namespace House
open Go Go.RowKit Go.Aev
set_option maxRecDepth 100000
theorem tz149:szOf Tryz.prog 149=some 1:=by kernel_rfl
theorem tt149:inTab Tryz.prog 149=true:=by kernel_rfl
theorem t0_149:zeroOf Tryz.prog 149=some (.slice none 0 0):=by kernel_rfl
theorem TY_EvH19:type_of% (And.intro TY_EvH18 (And.intro (And.intro Tryz.underlying149 tz149) (And.intro tt149 t0_149))):=(And.intro TY_EvH18 (And.intro (And.intro Tryz.underlying149 tz149) (And.intro tt149 t0_149)))
instance:Inhabited Pg:=⟨⟨0,false,0,0,0,0⟩⟩
instance:Cel Pg:=⟨6,fun x=>[.int .i64 x.way,.bool x.back,.int .i64 x.fr,.int .i64 x.to,.int .i64 x.secs,.int .i64 x.door],fun _=>rfl,fun _=>rfl⟩
instance:Inhabited Gt:=⟨⟨0,0,0,0,0⟩⟩
instance:Flat Gt:=⟨[.i64,.i64,.i64,.i64,.i64],fun x=>[x.way,x.fr,x.to,x.secs,x.door],fun _=>rfl⟩
end House
end Go.Proofs
end
section
set_option linter.unusedSimpArgs false
set_option linter.unusedVariables false
namespace Go.Proofs
namespace House
open Go Go.RowKit Go.Aev
set_option maxRecDepth 100000
theorem tz54:szOf Tryz.prog 54=some 1:=by kernel_rfl
theorem tt54:inTab Tryz.prog 54=true:=by kernel_rfl
theorem t0_54:zeroOf Tryz.prog 54=some (.slice none 0 0):=by kernel_rfl
theorem tz204:szOf Tryz.prog 204=some 1:=by kernel_rfl
theorem tt204:inTab Tryz.prog 204=true:=by kernel_rfl
theorem t0_204:zeroOf Tryz.prog 204=some (.int .u32 0):=by kernel_rfl
theorem tz207:szOf Tryz.prog 207=some 1:=by kernel_rfl
theorem tt207:inTab Tryz.prog 207=true:=by kernel_rfl
theorem t0_207:zeroOf Tryz.prog 207=some (.int .u64 0):=by kernel_rfl
theorem TY_EvH20:type_of% (And.intro TY_EvH19 (And.intro (And.intro (And.intro Tryz.underlying54 (And.intro tz54 tt54)) (And.intro t0_54 (And.intro Tryz.underlying204 tz204))) (And.intro (And.intro tt204 (And.intro t0_204 Tryz.underlying207)) (And.intro tz207 (And.intro tt207 t0_207))))):=(And.intro TY_EvH19 (And.intro (And.intro (And.intro Tryz.underlying54 (And.intro tz54 tt54)) (And.intro t0_54 (And.intro Tryz.underlying204 tz204))) (And.intro (And.intro tt204 (And.intro t0_204 Tryz.underlying207)) (And.intro tz207 (And.intro tt207 t0_207)))))
end House
end Go.Proofs
end
