import Derived.Test.YtohfdkdjfoonjaaGreatDoorBY
import Derived.Test.YtohfdkdjfoonjaaGreatDoorAE6
section
set_option linter.unusedSimpArgs false
set_option linter.unusedVariables false
namespace Go.Proofs
namespace House
open Go Go.RowKit Go.Aev
set_option maxRecDepth 100000
theorem TY_EvH36:type_of% TY_EvH28:=TY_EvH28
set_option maxHeartbeats 2000000 in
theorem c70w (n:Int) (k:Int) (hk:0≤k∧k≤1000000) (S:AS)  :
  ∃ S',(evL Tryz.prog E0).call 70 #[.int .i64 n,.int .i64 k] S=some (.int .i64 (r70 n k),S')∧Agree S S':=by
 generalize hz:(evL Tryz.prog E0).call 70 _ _=z
 rw [L_call,evCall_said rfl Tryz.func70 rfl (by decide) Tryz.ntmps70 Tryz.results70] at hz
 have wd1:decide (IntKind.u64.wrap (max k 1)=0)=false:=decide_eq_false (by rw [u64w (by omega)]; omega)
 try simp (disch:=first|omega|assumption) only [E0_G,SY,setArgs,off,agreeKind,Nat.reduceAdd,Nat.reduceSub,Nat.reduceLT,Nat.reduceBEq,TY_EvH36,wd1] at hz
 have hr:r70 n k=IntKind.i64.wrap (Int.tmod (IntKind.u64.wrap n) (IntKind.u64.wrap (max k 1))):=rfl
 exact fin hz (by rw [hr]) (Agree.refl S)
end House
end Go.Proofs
end
section
set_option linter.unusedSimpArgs false
set_option linter.unusedVariables false
namespace Go.Proofs
namespace House
open Go Go.RowKit Go.Aev
set_option maxRecDepth 100000
end House
end Go.Proofs
end
