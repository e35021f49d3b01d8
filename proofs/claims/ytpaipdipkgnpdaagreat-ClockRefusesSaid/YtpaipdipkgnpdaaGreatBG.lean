import Derived.Test.YtpaipdipkgnpdaaGreatBF
import Derived.Test.YtpaipdipkgnpdaaGreatAevBw
section
set_option linter.unusedSimpArgs false
set_option linter.unusedVariables false
namespace Go.Proofs
namespace Clock
open Go Go.RowKit Go.Aev
set_option maxRecDepth 100000
theorem tz34:szOf Tryz.prog 34=some 1:=by kernel_rfl
theorem tt34:inTab Tryz.prog 34=true:=by kernel_rfl
theorem t0_34:zeroOf Tryz.prog 34=some (.int .i64 0):=by kernel_rfl
theorem TY_EvW4:type_of% (And.intro TY_EvW3 (And.intro (And.intro Tryz.underlying34 tz34) (And.intro tt34 t0_34))):=(And.intro TY_EvW3 (And.intro (And.intro Tryz.underlying34 tz34) (And.intro tt34 t0_34)))
end Clock
end Go.Proofs
end
section
set_option linter.unusedSimpArgs false
set_option linter.unusedVariables false
namespace Go.Proofs
namespace Clock
open Go Go.RowKit Go.Aev
set_option maxRecDepth 100000
theorem tz4:szOf Tryz.prog 4=some 1:=by kernel_rfl
theorem tt4:inTab Tryz.prog 4=true:=by kernel_rfl
theorem t0_4:zeroOf Tryz.prog 4=some (.bool false):=by kernel_rfl
theorem TY_EvW5:type_of% (And.intro TY_EvW4 (And.intro (And.intro Tryz.underlying4 tz4) (And.intro tt4 t0_4))):=(And.intro TY_EvW4 (And.intro (And.intro Tryz.underlying4 tz4) (And.intro tt4 t0_4)))
structure Mo where
 time:Int
 micro:Int
deriving DecidableEq
instance:Inhabited Mo:=⟨⟨0,0⟩⟩
instance:Flat Mo:=⟨[.i64,.i64],fun x=>[x.time,x.micro],fun _=>rfl⟩
end Clock
end Go.Proofs
end
section
set_option linter.unusedSimpArgs false
set_option linter.unusedVariables false
namespace Go.Proofs
namespace Clock
open Go Go.RowKit Go.Aev
set_option maxRecDepth 100000
theorem TY_EvW6:type_of% TY_EvW5:=TY_EvW5
end Clock
end Go.Proofs
end
