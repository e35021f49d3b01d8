import Derived.Test.YtohfdkdjfoonjaaGreatDoorEvM6
section
set_option linter.unusedSimpArgs false
set_option linter.unusedVariables false
namespace Go.Proofs
namespace House
open Go Go.RowKit Go.Aev
set_option maxRecDepth 100000
theorem TY_EvH12:type_of% TY_EvH11:=TY_EvH11
def r93 (a b:Int):Bool:=(r139 a b 0 1073741823)
set_option maxHeartbeats 2000000 in
theorem c93 (a b:Int)  (S:AS)  :
  ∃ S',(evL Tryz.prog E0).call 93 #[.agg #[.int .i64 a,.int .i64 b]] S=some (.bool (r93 a b),S')∧Agree S S':=by
 generalize hz:(evL Tryz.prog E0).call 93 _ _=z
 rw [L_call,evCall_said rfl Tryz.func93 rfl (by decide) Tryz.ntmps93 Tryz.results93] at hz
 obtain ⟨S1,e1,n1,b1,a1⟩:=push_open S (.cells [.int .i64 a,.int .i64 b] 36 0 true true)
 have g1:Agree S S1:=a1
 have y2:aBuild Tryz.prog 36 [(1,.int .i64 1073741823)]=some (.agg #[.int .i64 0,.int .i64 1073741823]):=by kernel_rfl
 obtain ⟨S3,k3,a3⟩:=c139 a b 0 1073741823  S1
 have l3:=a3.1
 have g3:Agree S S3:=g1.trans a3
 try simp (disch:=first|omega|assumption) only [E0_G,SY,setArgs,off,agreeKind,partVals,vals,boxed,ldA,rdCells,aggD,Nat.reduceAdd,Nat.reduceSub,Nat.reduceLT,Nat.reduceBEq,TY_EvH12,e1,b1,y2,k3] at hz
 have hr:r93 a b=(r139 a b 0 1073741823):=rfl
 exact fin hz (by rw [hr]) g3
theorem r141_eq (a b c d:Int):(r141 a b c d).1=max a c∧(r141 a b c d).2=min b d:=⟨rfl,rfl⟩
end House
end Go.Proofs
end
section
set_option linter.unusedSimpArgs false
set_option linter.unusedVariables false
namespace Go.Proofs
namespace House
open Go Go.RowKit Go.Aev
set_option maxRecDepth 100000
theorem TY_EvH13:type_of% TY_EvH12:=TY_EvH12
end House
end Go.Proofs
end
