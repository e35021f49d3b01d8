import Derived.Test.YtohfdkdjfoonjaaGreatDoorEvM6
section
set_option linter.unusedSimpArgs false
set_option linter.unusedVariables false
namespace Go.Proofs
namespace House
open Go Go.RowKit Go.Aev
set_option maxRecDepth 100000
theorem TY_EvH12:type_of% TY_EvH11:=TY_EvH11
def r93 (a b:Int):Bool:=(r139 a b 0 1073741823)
set_option maxHeartbeats 2000000 in
theorem c93 (a b:Int)  (S:AS)  :
  ∃ S',(evL Tryz.prog E0).call 93 #[.agg #[.int .i64 a,.int .i64 b]] S=some (.bool (r93 a b),S')∧Agree S S':=by
 generalize hz:(evL Tryz.prog E0).call 93 _ _=z
 rw [L_call,evCall_said rfl Tryz.func93 rfl (by decide) Tryz.ntmps93 Tryz.results93] at hz
 obtain ⟨S1,e1,n1,b1,a1⟩:=push_open S (.cells [.int .i64 a,.int .i64 b] 36 0 true true)
 have g1:Agree S S1:=a1
 have y2:aBuild Tryz.prog 36 [(1,.int .i64 1073741823)]=some (.agg #[.int .i64 0,.int .i64 1073741823]):=by kernel_rfl
 obtain ⟨S3,k3,a3⟩:=c139 a b 0 1073741823  S1
 have l3:=a3.1
 have g3:Agree S S3:=g1.trans a3
 try simp (disch:=first|omega|assumption) only [E0_G,SY,setArgs,off,agreeKind,partVals,vals,boxed,ldA,rdCells,aggD,Nat.reduceAdd,Nat.reduceSub,Nat.reduceLT,Nat.reduceBEq,TY_EvH12,e1,b1,y2,k3] at hz
 have hr:r93 a b=(r139 a b 0 1073741823):=rfl
 exact fin hz (by rw [hr]) g3
def R142_0 (d:Dr) (ti:Int)  : List Sp→Int→Int
 | [],u0=>u0
 | x4 :: l',u0=>(if (r133 x4.lo x4.hi ((r160 ti).2))=true then R142_0 d ti l' (((r160 ti).1)+x4.hi) else R142_0 d ti l' u0)
def R142_1 (d:Dr) (ti:Int)  : List Sp→Int→Int
 | [],u1=>u1
 | x18 :: l',u1=>(if ti<x18.lo then R142_1 d ti l' (min u1 (x18.lo - 1)) else R142_1 d ti l' u1)
def r142 (d:Dr) (ti:Int):Int:=R142_1 d ti d.shut (R142_0 d ti d.hours ti)
theorem r141_eq (a b c d:Int):(r141 a b c d).1=max a c∧(r141 a b c d).2=min b d:=⟨rfl,rfl⟩
def R140_0 (hours:List Sp) (shut:List Sp) (slo shi:Int)  : Nat→Int→List Sp
 | 0,tv=>[]
 | m'+1,tv=>(if tv≤shi then ((⟨((r141 slo shi tv (r142 (⟨hours,shut⟩:Dr) tv))).1,((r141 slo shi tv (r142 (⟨hours,shut⟩:Dr) tv))).2⟩:Sp) :: R140_0 hours shut slo shi m' (r89 (⟨hours,shut⟩:Dr) ((((r141 slo shi tv (r142 (⟨hours,shut⟩:Dr) tv))).2)+1))) else [])
def r140 (hours:List Sp) (shut:List Sp) (slo shi:Int):List Sp:=R140_0 hours shut slo shi ((shi+1 - slo).toNat+1) (r89 (⟨hours,shut⟩:Dr) slo)
end House
end Go.Proofs
end
section
set_option linter.unusedSimpArgs false
set_option linter.unusedVariables false
namespace Go.Proofs
namespace House
open Go Go.RowKit Go.Aev
set_option maxRecDepth 100000
theorem TY_EvH13:type_of% TY_EvH12:=TY_EvH12
def R95_0 (d:Dr) (ti:Int)  : List Sp→Int→Int
 | [],u0=>u0
 | x5 :: l',u0=>(if ti<(((Int.tdiv ti 86400) * 86400)+x5.lo) then (if ti≤(((Int.tdiv ti 86400) * 86400)+x5.hi) then R95_0 d ti l' (min (min u0 ((((Int.tdiv ti 86400) * 86400)+x5.lo) - 1)) (((Int.tdiv ti 86400) * 86400)+x5.hi)) else R95_0 d ti l' (min u0 ((((Int.tdiv ti 86400) * 86400)+x5.lo) - 1))) else (if ti≤(((Int.tdiv ti 86400) * 86400)+x5.hi) then R95_0 d ti l' (min u0 (((Int.tdiv ti 86400) * 86400)+x5.hi)) else R95_0 d ti l' u0))
def R95_1 (d:Dr) (ti:Int)  : List Sp→Int→Int
 | [],u1=>u1
 | x35 :: l',u1=>(if ti<x35.lo then (if ti≤x35.hi then R95_1 d ti l' (min (min u1 (x35.lo - 1)) x35.hi) else R95_1 d ti l' (min u1 (x35.lo - 1))) else (if ti≤x35.hi then R95_1 d ti l' (min u1 x35.hi) else R95_1 d ti l' u1))
def r95 (d:Dr) (ti:Int):Int:=R95_1 d ti d.shut (R95_0 d ti d.hours (((Int.tdiv ti 86400) * 86400)+86399))
end House
end Go.Proofs
end
