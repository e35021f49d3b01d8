import Derived.Test.YtpaipdipkgnpdaaGreatAE8
import Derived.Test.YtpaipdipkgnpdaaGreatAE7
import Derived.Test.YtpaipdipkgnpdaaGreatAE4
import Derived.Test.YtpaipdipkgnpdaaGreatProg
import Derived.IntWalk
section
set_option linter.unusedSimpArgs false
set_option linter.unusedVariables false
namespace Go.Proofs
namespace Clock
open Go Go.RowKit Go.Aev
set_option maxRecDepth 100000
noncomputable def E0:Env:=symEnv 0 (orcTrue 20 noOrc)
theorem E0_G:E0.G=0:=rfl
theorem E0_same:∀ S,E0.same S S=true:=fun S=>symEnv_same (Agree.refl S)
theorem fin {v v':Value} {S0 S':AS} {z:Option (Value × AS)} (hz:some (v,S')=z) (hv:v=v') (ha:Agree S0 S'):∃ S'',z=some (v',S'')∧Agree S0 S'':=⟨S',by rw [← hz,hv],ha⟩
theorem wr64 {n:Int} (h : -9223372036854775808≤n∧n≤9223372036854775807):IntKind.i64.wrap n=n:=IntWalk.i64_in n h
structure Sp where
 lo:Int
 hi:Int
deriving DecidableEq
instance:Inhabited Sp:=⟨⟨0,0⟩⟩
instance:Flat Sp:=⟨[.i64,.i64],fun x=>[x.lo,x.hi],fun _=>rfl⟩
structure Sk where
 id:Int
 lo:Int
 hi:Int
deriving DecidableEq
instance:Inhabited Sk:=⟨⟨0,0,0⟩⟩
instance:Flat Sk:=⟨[.i64,.i64,.i64],fun x=>[x.id,x.lo,x.hi],fun _=>rfl⟩
structure Sg where
 strike:Int
 lo:Int
 hi:Int
deriving DecidableEq
instance:Inhabited Sg:=⟨⟨0,0,0⟩⟩
instance:Flat Sg:=⟨[.i64,.i64,.i64],fun x=>[x.strike,x.lo,x.hi],fun _=>rfl⟩
structure Stp where
 at_:Int
 lo:Int
 hi:Int
deriving DecidableEq
instance:Inhabited Stp:=⟨⟨0,0,0⟩⟩
instance:Flat Stp:=⟨[.i64,.i64,.i64],fun x=>[x.at_,x.lo,x.hi],fun _=>rfl⟩
structure Nd where
 kind:Int
 n:Int
deriving DecidableEq
instance:Inhabited Nd:=⟨⟨0,0⟩⟩
instance:Flat Nd:=⟨[.i64,.i64],fun x=>[x.kind,x.n],fun _=>rfl⟩
structure Lk where
 fr:Int
 to_:Int
 most:Int
deriving DecidableEq
instance:Inhabited Lk:=⟨⟨0,0,0⟩⟩
instance:Flat Lk:=⟨[.i64,.i64,.i64],fun x=>[x.fr,x.to_,x.most],fun _=>rfl⟩
structure Lg where
 secs:Int
 rate:Int
deriving DecidableEq
instance:Inhabited Lg:=⟨⟨0,0⟩⟩
instance:Flat Lg:=⟨[.i64,.i64],fun x=>[x.secs,x.rate],fun _=>rfl⟩
structure Fx where
 node:Int
 time:Int
deriving DecidableEq
instance:Inhabited Fx:=⟨⟨0,0⟩⟩
instance:Flat Fx:=⟨[.i64,.i64],fun x=>[x.node,x.time],fun _=>rfl⟩
structure Se where
 id:Int
 inLo:Int
 inHi:Int
 outLo:Int
 outHi:Int
 zLo:Int
 zHi:Int
 eLo:Int
 eHi:Int
 rLo:Int
 rHi:Int
 stops:List Stp
structure Rc where
 ses:Se
 strikes:List Sk
 sights:List Sg
abbrev mkRc (id inLo inHi outLo outHi zLo zHi eLo eHi rLo rHi:Int) (stops:List Stp) (strikes:List Sk) (sights:List Sg):Rc:=⟨⟨id,inLo,inHi,outLo,outHi,zLo,zHi,eLo,eHi,rLo,rHi,stops⟩,strikes,sights⟩
structure Rn where
 start:Int
 micro:Int
 legs:List Lg
end Clock
end Go.Proofs
end
section
set_option linter.unusedSimpArgs false
set_option linter.unusedVariables false
namespace Go.Proofs
namespace Clock
open Go Go.RowKit Go.Aev
set_option maxRecDepth 100000
theorem tz3:szOf Tryz.prog 3=some 1:=by kernel_rfl
theorem tt3:inTab Tryz.prog 3=true:=by kernel_rfl
theorem t0_3:zeroOf Tryz.prog 3=some (.int .i64 0):=by kernel_rfl
theorem ti3:(Tryz.prog.info? 3).map (fun i=>Nat.ble i.bytes 65536)=some true:=by kernel_rfl
theorem tv3:(zeroOf Tryz.prog 3).isSome=true:=by kernel_rfl
theorem tz22:szOf Tryz.prog 22=some 2:=by kernel_rfl
theorem tt22:inTab Tryz.prog 22=true:=by kernel_rfl
theorem t0_22:zeroOf Tryz.prog 22=some (.agg #[.int .i64 0,.int .i64 0]):=by kernel_rfl
theorem tz23:szOf Tryz.prog 23=some 2:=by kernel_rfl
theorem tt23:inTab Tryz.prog 23=true:=by kernel_rfl
theorem t0_23:zeroOf Tryz.prog 23=some (.agg #[.int .i64 0,.int .i64 0]):=by kernel_rfl
theorem tz24:szOf Tryz.prog 24=some 1:=by kernel_rfl
theorem tt24:inTab Tryz.prog 24=true:=by kernel_rfl
theorem t0_24:zeroOf Tryz.prog 24=some (.slice none 0 0):=by kernel_rfl
theorem tz25:szOf Tryz.prog 25=some 12:=by kernel_rfl
theorem tt25:inTab Tryz.prog 25=true:=by kernel_rfl
theorem t0_25:zeroOf Tryz.prog 25=some (.agg #[.int .i64 0,.int .i64 0,.int .i64 0,.int .i64 0,.int .i64 0,.int .i64 0,.int .i64 0,.int .i64 0,.int .i64 0,.int .i64 0,.int .i64 0,.slice none 0 0]):=by kernel_rfl
theorem tz26:szOf Tryz.prog 26=some 12:=by kernel_rfl
theorem tt26:inTab Tryz.prog 26=true:=by kernel_rfl
theorem t0_26:zeroOf Tryz.prog 26=some (.agg #[.int .i64 0,.int .i64 0,.int .i64 0,.int .i64 0,.int .i64 0,.int .i64 0,.int .i64 0,.int .i64 0,.int .i64 0,.int .i64 0,.int .i64 0,.slice none 0 0]):=by kernel_rfl
theorem tz27:szOf Tryz.prog 27=some 1:=by kernel_rfl
theorem tt27:inTab Tryz.prog 27=true:=by kernel_rfl
theorem t0_27:zeroOf Tryz.prog 27=some (.slice none 0 0):=by kernel_rfl
theorem tz28:szOf Tryz.prog 28=some 1:=by kernel_rfl
theorem tt28:inTab Tryz.prog 28=true:=by kernel_rfl
theorem t0_28:zeroOf Tryz.prog 28=some (.slice none 0 0):=by kernel_rfl
theorem tz29:szOf Tryz.prog 29=some 14:=by kernel_rfl
theorem tt29:inTab Tryz.prog 29=true:=by kernel_rfl
theorem t0_29:zeroOf Tryz.prog 29=some (.agg #[.int .i64 0,.int .i64 0,.int .i64 0,.int .i64 0,.int .i64 0,.int .i64 0,.int .i64 0,.int .i64 0,.int .i64 0,.int .i64 0,.int .i64 0,.slice none 0 0,.slice none 0 0,.slice none 0 0]):=by kernel_rfl
theorem tz30:szOf Tryz.prog 30=some 14:=by kernel_rfl
theorem tt30:inTab Tryz.prog 30=true:=by kernel_rfl
theorem t0_30:zeroOf Tryz.prog 30=some (.agg #[.int .i64 0,.int .i64 0,.int .i64 0,.int .i64 0,.int .i64 0,.int .i64 0,.int .i64 0,.int .i64 0,.int .i64 0,.int .i64 0,.int .i64 0,.slice none 0 0,.slice none 0 0,.slice none 0 0]):=by kernel_rfl
theorem tz31:szOf Tryz.prog 31=some 1:=by kernel_rfl
theorem tt31:inTab Tryz.prog 31=true:=by kernel_rfl
theorem t0_31:zeroOf Tryz.prog 31=some (.slice none 0 0):=by kernel_rfl
theorem tz36:szOf Tryz.prog 36=some 1:=by kernel_rfl
theorem tt36:inTab Tryz.prog 36=true:=by kernel_rfl
theorem t0_36:zeroOf Tryz.prog 36=some (.slice none 0 0):=by kernel_rfl
theorem tz39:szOf Tryz.prog 39=some 1:=by kernel_rfl
theorem tt39:inTab Tryz.prog 39=true:=by kernel_rfl
theorem t0_39:zeroOf Tryz.prog 39=some (.slice none 0 0):=by kernel_rfl
theorem tz54:szOf Tryz.prog 54=some 1:=by kernel_rfl
theorem tt54:inTab Tryz.prog 54=true:=by kernel_rfl
theorem t0_54:zeroOf Tryz.prog 54=some (.slice none 0 0):=by kernel_rfl
theorem tz106:szOf Tryz.prog 106=some 3:=by kernel_rfl
theorem tt106:inTab Tryz.prog 106=true:=by kernel_rfl
theorem t0_106:zeroOf Tryz.prog 106=some (.agg #[.int .i64 0,.int .i64 0,.int .i64 0]):=by kernel_rfl
theorem tz107:szOf Tryz.prog 107=some 3:=by kernel_rfl
theorem tt107:inTab Tryz.prog 107=true:=by kernel_rfl
theorem t0_107:zeroOf Tryz.prog 107=some (.agg #[.int .i64 0,.int .i64 0,.int .i64 0]):=by kernel_rfl
theorem ti107:(Tryz.prog.info? 107).map (fun i=>Nat.ble i.bytes 65536)=some true:=by kernel_rfl
theorem tv107:(zeroOf Tryz.prog 107).isSome=true:=by kernel_rfl
theorem tz111:szOf Tryz.prog 111=some 3:=by kernel_rfl
theorem tt111:inTab Tryz.prog 111=true:=by kernel_rfl
theorem t0_111:zeroOf Tryz.prog 111=some (.agg #[.int .i64 0,.int .i64 0,.int .i64 0]):=by kernel_rfl
theorem tz112:szOf Tryz.prog 112=some 3:=by kernel_rfl
theorem tt112:inTab Tryz.prog 112=true:=by kernel_rfl
theorem t0_112:zeroOf Tryz.prog 112=some (.agg #[.int .i64 0,.int .i64 0,.int .i64 0]):=by kernel_rfl
theorem tz114:szOf Tryz.prog 114=some 3:=by kernel_rfl
theorem tt114:inTab Tryz.prog 114=true:=by kernel_rfl
theorem t0_114:zeroOf Tryz.prog 114=some (.agg #[.int .i64 0,.int .i64 0,.int .i64 0]):=by kernel_rfl
theorem tz115:szOf Tryz.prog 115=some 3:=by kernel_rfl
theorem tt115:inTab Tryz.prog 115=true:=by kernel_rfl
theorem t0_115:zeroOf Tryz.prog 115=some (.agg #[.int .i64 0,.int .i64 0,.int .i64 0]):=by kernel_rfl
theorem tz116:szOf Tryz.prog 116=some 3:=by kernel_rfl
theorem tt116:inTab Tryz.prog 116=true:=by kernel_rfl
theorem t0_116:zeroOf Tryz.prog 116=some (.agg #[.int .i64 0,.int .i64 0,.int .i64 0]):=by kernel_rfl
theorem tz117:szOf Tryz.prog 117=some 3:=by kernel_rfl
theorem tt117:inTab Tryz.prog 117=true:=by kernel_rfl
theorem t0_117:zeroOf Tryz.prog 117=some (.agg #[.int .i64 0,.int .i64 0,.int .i64 0]):=by kernel_rfl
theorem tz130:szOf Tryz.prog 130=some 2:=by kernel_rfl
theorem tt130:inTab Tryz.prog 130=true:=by kernel_rfl
theorem t0_130:zeroOf Tryz.prog 130=some (.agg #[.int .i64 0,.int .i64 0]):=by kernel_rfl
theorem tz131:szOf Tryz.prog 131=some 2:=by kernel_rfl
theorem tt131:inTab Tryz.prog 131=true:=by kernel_rfl
theorem t0_131:zeroOf Tryz.prog 131=some (.agg #[.int .i64 0,.int .i64 0]):=by kernel_rfl
theorem ti131:(Tryz.prog.info? 131).map (fun i=>Nat.ble i.bytes 65536)=some true:=by kernel_rfl
theorem tv131:(zeroOf Tryz.prog 131).isSome=true:=by kernel_rfl
theorem TY_EvW1:type_of% (And.intro (And.intro (And.intro (And.intro (And.intro (And.intro Tryz.underlying3 (And.intro tz3 tt3)) (And.intro t0_3 (And.intro Tryz.underlying22 tz22))) (And.intro (And.intro tt22 (And.intro t0_22 Tryz.underlying23)) (And.intro tz23 (And.intro tt23 t0_23)))) (And.intro (And.intro (And.intro Tryz.underlying24 (And.intro tz24 tt24)) (And.intro t0_24 (And.intro Tryz.underlying25 tz25))) (And.intro (And.intro tt25 (And.intro t0_25 Tryz.underlying26)) (And.intro tz26 (And.intro tt26 t0_26))))) (And.intro (And.intro (And.intro (And.intro Tryz.underlying27 (And.intro tz27 tt27)) (And.intro t0_27 (And.intro Tryz.underlying28 tz28))) (And.intro (And.intro tt28 (And.intro t0_28 Tryz.underlying29)) (And.intro tz29 (And.intro tt29 t0_29)))) (And.intro (And.intro (And.intro Tryz.underlying30 (And.intro tz30 tt30)) (And.intro t0_30 (And.intro Tryz.underlying31 tz31))) (And.intro (And.intro tt31 (And.intro t0_31 Tryz.underlying36)) (And.intro tz36 (And.intro tt36 t0_36)))))) (And.intro (And.intro (And.intro (And.intro (And.intro Tryz.underlying39 (And.intro tz39 tt39)) (And.intro t0_39 (And.intro Tryz.underlying54 tz54))) (And.intro (And.intro tt54 (And.intro t0_54 Tryz.underlying106)) (And.intro tz106 (And.intro tt106 t0_106)))) (And.intro (And.intro (And.intro Tryz.underlying107 (And.intro tz107 tt107)) (And.intro t0_107 (And.intro Tryz.underlying111 tz111))) (And.intro (And.intro tt111 (And.intro t0_111 Tryz.underlying112)) (And.intro tz112 (And.intro tt112 t0_112))))) (And.intro (And.intro (And.intro (And.intro Tryz.underlying114 (And.intro tz114 tt114)) (And.intro t0_114 (And.intro Tryz.underlying115 tz115))) (And.intro (And.intro tt115 (And.intro t0_115 Tryz.underlying116)) (And.intro tz116 (And.intro tt116 t0_116)))) (And.intro (And.intro (And.intro Tryz.underlying117 (And.intro tz117 tt117)) (And.intro t0_117 (And.intro Tryz.underlying130 tz130))) (And.intro (And.intro tt130 (And.intro t0_130 Tryz.underlying131)) (And.intro tz131 (And.intro tt131 t0_131))))))):=(And.intro (And.intro (And.intro (And.intro (And.intro (And.intro Tryz.underlying3 (And.intro tz3 tt3)) (And.intro t0_3 (And.intro Tryz.underlying22 tz22))) (And.intro (And.intro tt22 (And.intro t0_22 Tryz.underlying23)) (And.intro tz23 (And.intro tt23 t0_23)))) (And.intro (And.intro (And.intro Tryz.underlying24 (And.intro tz24 tt24)) (And.intro t0_24 (And.intro Tryz.underlying25 tz25))) (And.intro (And.intro tt25 (And.intro t0_25 Tryz.underlying26)) (And.intro tz26 (And.intro tt26 t0_26))))) (And.intro (And.intro (And.intro (And.intro Tryz.underlying27 (And.intro tz27 tt27)) (And.intro t0_27 (And.intro Tryz.underlying28 tz28))) (And.intro (And.intro tt28 (And.intro t0_28 Tryz.underlying29)) (And.intro tz29 (And.intro tt29 t0_29)))) (And.intro (And.intro (And.intro Tryz.underlying30 (And.intro tz30 tt30)) (And.intro t0_30 (And.intro Tryz.underlying31 tz31))) (And.intro (And.intro tt31 (And.intro t0_31 Tryz.underlying36)) (And.intro tz36 (And.intro tt36 t0_36)))))) (And.intro (And.intro (And.intro (And.intro (And.intro Tryz.underlying39 (And.intro tz39 tt39)) (And.intro t0_39 (And.intro Tryz.underlying54 tz54))) (And.intro (And.intro tt54 (And.intro t0_54 Tryz.underlying106)) (And.intro tz106 (And.intro tt106 t0_106)))) (And.intro (And.intro (And.intro Tryz.underlying107 (And.intro tz107 tt107)) (And.intro t0_107 (And.intro Tryz.underlying111 tz111))) (And.intro (And.intro tt111 (And.intro t0_111 Tryz.underlying112)) (And.intro tz112 (And.intro tt112 t0_112))))) (And.intro (And.intro (And.intro (And.intro Tryz.underlying114 (And.intro tz114 tt114)) (And.intro t0_114 (And.intro Tryz.underlying115 tz115))) (And.intro (And.intro tt115 (And.intro t0_115 Tryz.underlying116)) (And.intro tz116 (And.intro tt116 t0_116)))) (And.intro (And.intro (And.intro Tryz.underlying117 (And.intro tz117 tt117)) (And.intro t0_117 (And.intro Tryz.underlying130 tz130))) (And.intro (And.intro tt130 (And.intro t0_130 Tryz.underlying131)) (And.intro tz131 (And.intro tt131 t0_131)))))))
def r142 (lo hi:Int) (a:Int) (b:Int):Bool:=(if a≤lo then (if lo≤hi then decide (hi≤b) else false) else false)
set_option maxHeartbeats 2000000 in
theorem c142 (lo hi:Int) (a:Int) (b:Int)  (S:AS)  :
  ∃ S',(evL Tryz.prog E0).call 142 #[.agg #[.int .i64 lo,.int .i64 hi],.int .i64 a,.int .i64 b] S=some (.bool (r142 lo hi a b),S')∧Agree S S':=by
 generalize hz:(evL Tryz.prog E0).call 142 _ _=z
 rw [L_call,evCall_said rfl Tryz.func142 rfl (by decide) Tryz.ntmps142 Tryz.results142] at hz
 obtain ⟨S1,e1,n1,b1,a1⟩:=push_open S (.cells [.int .i64 lo,.int .i64 hi] 23 0 true true)
 have g1:Agree S S1:=a1
 try simp (disch:=first|omega|assumption) only [E0_G,SY,setArgs,off,agreeKind,boxed,ldA,aggD,aField,Nat.reduceAdd,Nat.reduceSub,Nat.reduceLT,Nat.reduceBEq,TY_EvW1,e1,b1] at hz
 rcases dP (a≤lo) with ⟨h2a,h2⟩|⟨h2a,h2⟩
 ·try simp (disch:=first|omega|assumption) only [E0_G,SY,off,agreeKind,ldA,aggD,aField,Nat.reduceAdd,Nat.reduceLT,Nat.reduceBEq,TY_EvW1,b1,h2a] at hz
  rcases dP (lo≤hi) with ⟨h3a,h3⟩|⟨h3a,h3⟩
  ·try simp (disch:=first|omega|assumption) only [E0_G,SY,off,agreeKind,ldA,aggD,aField,Nat.reduceAdd,Nat.reduceLT,Nat.reduceBEq,TY_EvW1,b1,h3a] at hz
   have hr:r142 lo hi a b=decide (hi≤b):=(if_pos h2).trans ((if_pos h3).trans (rfl))
   exact fin hz (by rw [hr]) g1
  try simp (disch:=first|omega|assumption) only [E0_G,SY,off,agreeKind,Nat.reduceAdd,Nat.reduceLT,Nat.reduceBEq,h3a] at hz
  have hr:r142 lo hi a b=false:=(if_pos h2).trans ((if_neg h3).trans (rfl))
  exact fin hz (by rw [hr]) g1
 try simp (disch:=first|omega|assumption) only [E0_G,SY,off,agreeKind,Nat.reduceAdd,Nat.reduceLT,Nat.reduceBEq,h2a] at hz
 have hr:r142 lo hi a b=false:=(if_neg h2).trans (rfl)
 exact fin hz (by rw [hr]) g1
def r141 (n:Int):Bool:=(if 1≤n then decide (n≤1099511627776) else false)
set_option maxHeartbeats 2000000 in
theorem c141 (n:Int)  (S:AS)  :
  ∃ S',(evL Tryz.prog E0).call 141 #[.int .i64 n] S=some (.bool (r141 n),S')∧Agree S S':=by
 generalize hz:(evL Tryz.prog E0).call 141 _ _=z
 rw [L_call,evCall_said rfl Tryz.func141 rfl (by decide) Tryz.ntmps141 Tryz.results141] at hz
 try simp (disch:=first|omega|assumption) only [E0_G,SY,setArgs,off,agreeKind,Nat.reduceAdd,Nat.reduceSub,Nat.reduceLT,Nat.reduceBEq,] at hz
 rcases dP (1≤n) with ⟨h1a,h1⟩|⟨h1a,h1⟩
 ·try simp (disch:=first|omega|assumption) only [E0_G,SY,off,agreeKind,Nat.reduceAdd,Nat.reduceLT,Nat.reduceBEq,h1a] at hz
  have hr:r141 n=decide (n≤1099511627776):=(if_pos h1).trans (rfl)
  exact fin hz (by rw [hr]) (Agree.refl S)
 try simp (disch:=first|omega|assumption) only [E0_G,SY,off,agreeKind,Nat.reduceAdd,Nat.reduceLT,Nat.reduceBEq,h1a] at hz
 have hr:r141 n=false:=(if_neg h1).trans (rfl)
 exact fin hz (by rw [hr]) (Agree.refl S)
def r85 (lo hi:Int):Bool:=(r142 lo hi 0 1073741823)
set_option maxHeartbeats 2000000 in
theorem c85 (lo hi:Int)  (S:AS)  :
  ∃ S',(evL Tryz.prog E0).call 85 #[.agg #[.int .i64 lo,.int .i64 hi]] S=some (.bool (r85 lo hi),S')∧Agree S S':=by
 generalize hz:(evL Tryz.prog E0).call 85 _ _=z
 rw [L_call,evCall_said rfl Tryz.func85 rfl (by decide) Tryz.ntmps85 Tryz.results85] at hz
 obtain ⟨S1,e1,n1,b1,a1⟩:=push_open S (.cells [.int .i64 lo,.int .i64 hi] 23 0 true true)
 have g1:Agree S S1:=a1
 obtain ⟨S2,k2,a2⟩:=c142 lo hi 0 1073741823  S1
 have l2:=a2.1
 have g2:Agree S S2:=g1.trans a2
 try simp (disch:=first|omega|assumption) only [E0_G,SY,setArgs,off,agreeKind,vals,boxed,ldA,rdCells,aggD,Nat.reduceAdd,Nat.reduceSub,Nat.reduceLT,Nat.reduceBEq,TY_EvW1,e1,b1,k2] at hz
 have hr:r85 lo hi=(r142 lo hi 0 1073741823):=rfl
 exact fin hz (by rw [hr]) g2
def r143 (s:Se) (x:Stp):Bool:=(if s.zHi<x.at_ then (if x.at_<s.eLo then (r142 x.lo x.hi 0 36000) else false) else false)
set_option maxHeartbeats 2000000 in
theorem c143 (s:Se) (x:Stp)  (S:AS) (v_s_stops:Value) (hv_s_stops:Lst S v_s_stops s.stops) :
  ∃ S',(evL Tryz.prog E0).call 143 #[.agg #[.int .i64 s.id,.int .i64 s.inLo,.int .i64 s.inHi,.int .i64 s.outLo,.int .i64 s.outHi,.int .i64 s.zLo,.int .i64 s.zHi,.int .i64 s.eLo,.int .i64 s.eHi,.int .i64 s.rLo,.int .i64 s.rHi,v_s_stops],.agg #[.int .i64 x.at_,.int .i64 x.lo,.int .i64 x.hi]] S=some (.bool (r143 s x),S')∧Agree S S':=by
 generalize hz:(evL Tryz.prog E0).call 143 _ _=z
 rw [L_call,evCall_said rfl Tryz.func143 rfl (by decide) Tryz.ntmps143 Tryz.results143] at hz
 obtain ⟨S1,e1,n1,b1,a1⟩:=push_open S (.cells [.int .i64 s.id,.int .i64 s.inLo,.int .i64 s.inHi,.int .i64 s.outLo,.int .i64 s.outHi,.int .i64 s.zLo,.int .i64 s.zHi,.int .i64 s.eLo,.int .i64 s.eHi,.int .i64 s.rLo,.int .i64 s.rHi,v_s_stops] 26 0 true true)
 have g1:Agree S S1:=a1
 obtain ⟨S2,e2,n2,b2,a2⟩:=push_open S1 (.cells [.int .i64 x.at_,.int .i64 x.lo,.int .i64 x.hi] 117 0 true true)
 have v1_2:=(a2.2 S.next (by omega)).trans b1
 have g2:Agree S S2:=g1.trans a2
 try simp (disch:=first|omega|assumption) only [E0_G,SY,setArgs,off,agreeKind,boxed,ldA,aggD,aField,Nat.reduceAdd,Nat.reduceSub,Nat.reduceLT,Nat.reduceBEq,TY_EvW1,e1,v1_2,e2,b2] at hz
 rcases dP (s.zHi<x.at_) with ⟨h3a,h3⟩|⟨h3a,h3⟩
 ·try simp (disch:=first|omega|assumption) only [E0_G,SY,off,agreeKind,ldA,aggD,aField,Nat.reduceAdd,Nat.reduceLT,Nat.reduceBEq,TY_EvW1,v1_2,b2,h3a] at hz
  rcases dP (x.at_<s.eLo) with ⟨h4a,h4⟩|⟨h4a,h4⟩
  ·obtain ⟨S5,k5,a5⟩:=c142 x.lo x.hi 0 36000  S2
   have l5:=a5.1
   have g5:Agree S S5:=g2.trans a5
   try simp (disch:=first|omega|assumption) only [E0_G,SY,off,agreeKind,vals,ldA,rdCells,aggD,aField,Nat.reduceAdd,Nat.reduceLT,Nat.reduceBEq,TY_EvW1,b2,h4a,k5] at hz
   have hr:r143 s x=(r142 x.lo x.hi 0 36000):=(if_pos h3).trans ((if_pos h4).trans (rfl))
   exact fin hz (by rw [hr]) g5
  try simp (disch:=first|omega|assumption) only [E0_G,SY,off,agreeKind,Nat.reduceAdd,Nat.reduceLT,Nat.reduceBEq,h4a] at hz
  have hr:r143 s x=false:=(if_pos h3).trans ((if_neg h4).trans (rfl))
  exact fin hz (by rw [hr]) g2
 try simp (disch:=first|omega|assumption) only [E0_G,SY,off,agreeKind,Nat.reduceAdd,Nat.reduceLT,Nat.reduceBEq,h3a] at hz
 have hr:r143 s x=false:=(if_neg h3).trans (rfl)
 exact fin hz (by rw [hr]) g2
def R82_0 (s:Se)  : List Stp→Nat→Sum (Bool) (Unit)
 | [],k=>.inr ()
 | x17 :: l',k=>(if (r143 s x17)=true then (if 0<(k:Int) then (if x17.at_≤((lget s.stops (k - 1)).at_) then .inl false else R82_0 s l' (k+1)) else R82_0 s l' (k+1)) else .inl false)
def r82 (s:Se):Bool:=(if (r141 s.id)=true then (if (r85 s.inLo s.inHi)=true then (if (r85 s.outLo s.outHi)=true then (if (r142 s.rLo s.rHi 900000 1100000)=true then (if (r142 s.zLo s.zHi 0 43199)=true then (if (r142 s.eLo s.eHi 0 43199)=true then (if s.eLo<s.zLo then false else (if s.eHi<s.zHi then false else (onSum (R82_0 s s.stops 0) (fun (r2:Bool)=>r2) (fun (_:Unit)=>true)))) else false) else false) else false) else false) else false) else false)
set_option maxHeartbeats 2000000 in
theorem c82 (s:Se) (hp:s.stops.length≤12) (S:AS) (v_s_stops:Value) (hv_s_stops:Lst S v_s_stops s.stops) :
  ∃ S',(evL Tryz.prog E0).call 82 #[.agg #[.int .i64 s.id,.int .i64 s.inLo,.int .i64 s.inHi,.int .i64 s.outLo,.int .i64 s.outHi,.int .i64 s.zLo,.int .i64 s.zHi,.int .i64 s.eLo,.int .i64 s.eHi,.int .i64 s.rLo,.int .i64 s.rHi,v_s_stops]] S=some (.bool (r82 s),S')∧Agree S S':=by
 generalize hz:(evL Tryz.prog E0).call 82 _ _=z
 rw [L_call,evCall_said rfl Tryz.func82 rfl (by decide) Tryz.ntmps82 Tryz.results82] at hz
 obtain ⟨S1,e1,n1,b1,a1⟩:=push_open S (.cells [.int .i64 s.id,.int .i64 s.inLo,.int .i64 s.inHi,.int .i64 s.outLo,.int .i64 s.outHi,.int .i64 s.zLo,.int .i64 s.zHi,.int .i64 s.eLo,.int .i64 s.eHi,.int .i64 s.rLo,.int .i64 s.rHi,v_s_stops] 26 0 true true)
 have g1:Agree S S1:=a1
 have s1:E0.same S S1=true:=symEnv_same a1
 obtain ⟨S2,k2,a2⟩:=c141 s.id  S1
 have l2:=a2.1
 have s2:E0.same S1 S2=true:=symEnv_same a2
 have v1_2:=(a2.2 S.next (by omega)).trans b1
 have g2:Agree S S2:=g1.trans a2
 try simp (disch:=first|omega|assumption) only [E0_G,SY,setArgs,off,agreeKind,vals,boxed,ldA,aggD,aField,Nat.reduceAdd,Nat.reduceSub,Nat.reduceLT,Nat.reduceBEq,TY_EvW1,e1,b1,k2] at hz
 rcases dB ((r141 s.id)) with ⟨h3a,h3⟩|⟨h3a,h3⟩
 ·obtain ⟨S4,k4,a4⟩:=c85 s.inLo s.inHi  S2
  have l4:=a4.1
  have s4:E0.same S2 S4=true:=symEnv_same a4
  have v1_4:=(a4.2 S.next (by omega)).trans v1_2
  have g4:Agree S S4:=g2.trans a4
  try simp (disch:=first|omega|assumption) only [E0_G,SY,off,agreeKind,vals,ldA,rdCells,aggD,aField,Nat.reduceAdd,Nat.reduceLT,Nat.reduceBEq,TY_EvW1,v1_2,h3a,k4] at hz
  rcases dB ((r85 s.inLo s.inHi)) with ⟨h5a,h5⟩|⟨h5a,h5⟩
  ·obtain ⟨S6,k6,a6⟩:=c85 s.outLo s.outHi  S4
   have l6:=a6.1
   have s6:E0.same S4 S6=true:=symEnv_same a6
   have v1_6:=(a6.2 S.next (by omega)).trans v1_4
   have g6:Agree S S6:=g4.trans a6
   try simp (disch:=first|omega|assumption) only [E0_G,SY,off,agreeKind,vals,ldA,rdCells,aggD,aField,Nat.reduceAdd,Nat.reduceLT,Nat.reduceBEq,TY_EvW1,v1_4,h5a,k6] at hz
   rcases dB ((r85 s.outLo s.outHi)) with ⟨h7a,h7⟩|⟨h7a,h7⟩
   ·obtain ⟨S8,k8,a8⟩:=c142 s.rLo s.rHi 900000 1100000  S6
    have l8:=a8.1
    have s8:E0.same S6 S8=true:=symEnv_same a8
    have v1_8:=(a8.2 S.next (by omega)).trans v1_6
    have g8:Agree S S8:=g6.trans a8
    try simp (disch:=first|omega|assumption) only [E0_G,SY,off,agreeKind,vals,ldA,rdCells,aggD,aField,Nat.reduceAdd,Nat.reduceLT,Nat.reduceBEq,TY_EvW1,v1_6,h7a,k8] at hz
    rcases dB ((r142 s.rLo s.rHi 900000 1100000)) with ⟨h9a,h9⟩|⟨h9a,h9⟩
    ·obtain ⟨S10,k10,a10⟩:=c142 s.zLo s.zHi 0 43199  S8
     have l10:=a10.1
     have s10:E0.same S8 S10=true:=symEnv_same a10
     have v1_10:=(a10.2 S.next (by omega)).trans v1_8
     have g10:Agree S S10:=g8.trans a10
     try simp (disch:=first|omega|assumption) only [E0_G,SY,off,agreeKind,vals,ldA,rdCells,aggD,aField,Nat.reduceAdd,Nat.reduceLT,Nat.reduceBEq,TY_EvW1,v1_8,h9a,k10] at hz
     rcases dB ((r142 s.zLo s.zHi 0 43199)) with ⟨h11a,h11⟩|⟨h11a,h11⟩
     ·obtain ⟨S12,k12,a12⟩:=c142 s.eLo s.eHi 0 43199  S10
      have l12:=a12.1
      have s12:E0.same S10 S12=true:=symEnv_same a12
      have v1_12:=(a12.2 S.next (by omega)).trans v1_10
      have g12:Agree S S12:=g10.trans a12
      try simp (disch:=first|omega|assumption) only [E0_G,SY,off,agreeKind,vals,ldA,rdCells,aggD,aField,Nat.reduceAdd,Nat.reduceLT,Nat.reduceBEq,TY_EvW1,v1_10,h11a,k12] at hz
      rcases dB ((r142 s.eLo s.eHi 0 43199)) with ⟨h13a,h13⟩|⟨h13a,h13⟩
      ·try simp (disch:=first|omega|assumption) only [E0_G,SY,off,agreeKind,ldA,aggD,aField,Nat.reduceAdd,Nat.reduceLT,Nat.reduceBEq,TY_EvW1,v1_12,h13a] at hz
       rcases dP (s.eLo<s.zLo) with ⟨h14a,h14⟩|⟨h14a,h14⟩
       ·try simp (disch:=first|omega|assumption) only [E0_G,SY,off,agreeKind,Nat.reduceAdd,Nat.reduceLT,Nat.reduceBEq,h14a] at hz
        have hr:r82 s=false:=(if_pos h3).trans ((if_pos h5).trans ((if_pos h7).trans ((if_pos h9).trans ((if_pos h11).trans ((if_pos h13).trans ((if_pos h14).trans (rfl)))))))
        exact fin hz (by rw [hr]) g12
       try simp (disch:=first|omega|assumption) only [E0_G,SY,off,agreeKind,ldA,aggD,aField,Nat.reduceAdd,Nat.reduceLT,Nat.reduceBEq,TY_EvW1,v1_12,h14a] at hz
       rcases dP (s.eHi<s.zHi) with ⟨h15a,h15⟩|⟨h15a,h15⟩
       ·try simp (disch:=first|omega|assumption) only [E0_G,SY,off,agreeKind,Nat.reduceLT,Nat.reduceBEq,h15a] at hz
        have hr:r82 s=false:=(if_pos h3).trans ((if_pos h5).trans ((if_pos h7).trans ((if_pos h9).trans ((if_pos h11).trans ((if_pos h13).trans ((if_neg h14).trans ((if_pos h15).trans (rfl))))))))
        exact fin hz (by rw [hr]) g12
       have w16:=(hv_s_stops.agree g12).len (P:=Tryz.prog) (t:=24) Tryz.underlying24
       try simp (disch:=first|omega|assumption) only [E0_G,SY,off,agreeKind,ldA,aggD,aField,Nat.reduceAdd,Nat.reduceLT,Nat.reduceBEq,TY_EvW1,v1_12,h15a,w16] at hz
       generalize hL17:Rec.loop _ _ _ _=L17 at hz
       obtain ⟨x17,t17,S17e,rfl,hQ17⟩:=loop_met hL17 (fun m t S'=>∃ (k:Nat),m+k=s.stops.length∧k≤s.stops.length∧t.get 1=some (.pointer (some ⟨S.next,0,none⟩))∧t.get 56=some (v_s_stops)∧t.get 57=some (.int .i64 (s.stops.length:Int))∧t.get 58=some (.int .i64 (k:Int))∧S'.heap.get S.next=some (.cells [.int .i64 s.id,.int .i64 s.inLo,.int .i64 s.inHi,.int .i64 s.outLo,.int .i64 s.outHi,.int .i64 s.zLo,.int .i64 s.zHi,.int .i64 s.eLo,.int .i64 s.eHi,.int .i64 s.rLo,.int .i64 s.rHi,v_s_stops] 26 0 true true)∧Agree S S'∧S12.next≤S'.next∧R82_0 s (s.stops.drop k) k=R82_0 s s.stops 0)
        (fun x t S'=>(x=.exit 0∧∃ (k:Nat),S'.heap.get S.next=some (.cells [.int .i64 s.id,.int .i64 s.inLo,.int .i64 s.inHi,.int .i64 s.outLo,.int .i64 s.outHi,.int .i64 s.zLo,.int .i64 s.zHi,.int .i64 s.eLo,.int .i64 s.eHi,.int .i64 s.rLo,.int .i64 s.rHi,v_s_stops] 26 0 true true)∧Agree S S'∧S12.next≤S'.next∧k≤s.stops.length∧R82_0 s s.stops 0=.inr ())∨(x=.ret∧∃ (r2:Bool),t.get 2=some (.bool r2)∧Agree S S'∧R82_0 s s.stops 0=.inl (r2))) (s.stops.length - 0) (by refine ⟨0,?_,?_,?_,?_,?_,?_,v1_12,g12,Nat.le_refl _,rfl⟩<;>first|(simp only [SY,eq_self,Nat.reduceBEq]<;>rfl)|omega|assumption|(simp; omega)|simp) (by
         rintro m t S17 ⟨k,hi17_0,hi17_1,g17_1,g17_56,g17_57,g17_58,bb17_1,ga17,gn17,hd17⟩
         refine .run fun z he=>?_
         try simp (disch:=first|omega|assumption) only [E0_G,SY,off,agreeKind,Nat.reduceLT,Nat.reduceBEq,g17_57,g17_58] at he
         rcases dP ((k:Int)<(s.stops.length:Int)) with ⟨h18a,h18⟩|⟨h18a,h18⟩
         ·have hx17:s.stops[k]?=some (s.stops[k]'(by first|omega|simp; omega)):=List.getElem?_eq_getElem _
          generalize s.stops[k]'_=x17 at hx17
          obtain ⟨id19,of19,cc19,ty19,wr19,ex19,i19,j19,l19,q19⟩:=(hv_s_stops).at (P:=Tryz.prog) (t:=24) Tryz.underlying24 tz117 hx17
          have j19:=(ga17.2 id19 l19).trans j19
          have m19_0:cc19[of19]?=some (.int .i64 x17.at_):=q19 0 (show 0<3 by decide)
          have m19_1:cc19[of19+1]?=some (.int .i64 x17.lo):=q19 1 (show 1<3 by decide)
          have m19_2:cc19[of19+2]?=some (.int .i64 x17.hi):=q19 2 (show 2<3 by decide)
          obtain ⟨S20,e20,n20,b20,a20⟩:=push_open S17 (.cells [.int .i64 0,.int .i64 0,.int .i64 0] 117 0 true true)
          have v1_20:=(a20.2 S.next (by omega)).trans bb17_1
          have g20:Agree S S20:=ga17.trans a20
          have s20:E0.same S17 S20=true:=symEnv_same a20
          obtain ⟨S21,k21,n21,b21,q21⟩:=st_at (o:=0) (c':=[.int .i64 x17.at_,.int .i64 x17.lo,.int .i64 x17.hi]) (v:=.agg #[.int .i64 x17.at_,.int .i64 x17.lo,.int .i64 x17.hi]) tz117 b20 rfl rfl (show 0+3≤3 by decide) rfl
          have v1_21:=(q21 S.next (by omega)).trans v1_20
          have g21:Agree S S21:=⟨by have:=(g20).1; omega,fun id hid=>(q21 id (by have:=(g20).1; omega)).trans ((g20).2 id hid)⟩
          try simp (disch:=first|omega|assumption) only [E0_G,SY,off,agreeKind,allocV,ldA,rdCells,aggD,Nat.reduceAdd,Nat.reduceLT,Nat.reduceBEq,TY_EvW1,g17_56,g17_58,h18a,i19,j19,m19_0,m19_1,m19_2,e20,k21] at he
          rw [code_draws _ _ _ (by kernel_rfl)] at he
          generalize hnd22:needy _=nd22 at he
          obtain ⟨S23,k23,a23⟩:=c143 s x17  S21 (v_s_stops) (hv_s_stops.agree g21)
          have l23:=a23.1
          have s23:E0.same S21 S23=true:=symEnv_same a23
          have v1_23:=(a23.2 S.next (by omega)).trans v1_21
          have v20_23:=(a23.2 S17.next (by omega)).trans b21
          have g23:Agree S S23:=g21.trans a23
          try simp (disch:=first|omega|assumption) only [E0_G,SY,agreeKind,vals,ldA,rdCells,aggD,Nat.reduceAdd,Nat.reduceLT,Nat.reduceBEq,TY_EvW1,g17_1,v1_21,b21,store_agree,store_refl E0_same,k23] at he
          rcases dB ((r143 s x17)) with ⟨h24a,h24⟩|⟨h24a,h24⟩
          ·try simp (disch:=first|omega|assumption) only [E0_G,SY,agreeKind,Nat.reduceAdd,Nat.reduceLT,Nat.reduceBEq,store_refl E0_same,h24a] at he
           rcases dP (0<(k:Int)) with ⟨h25a,h25⟩|⟨h25a,h25⟩
           ·have w26:IntKind.i64.wrap ((k:Int) - 1)=((k - 1:Nat):Int):=by rw [IntWalk.i64_in]<;>omega
            have hx27:s.stops[(k - 1)]?=some (lget s.stops (k - 1)):=lget_some (by first|omega|simp; omega)
            obtain ⟨id27,of27,cc27,ty27,wr27,ex27,i27,j27,l27,q27⟩:=(hv_s_stops).at (P:=Tryz.prog) (t:=24) Tryz.underlying24 tz117 hx27
            have j27:=(g23.2 id27 l27).trans j27
            have m27_0:cc27[of27]?=some (.int .i64 ((lget s.stops (k - 1)).at_)):=q27 0 (show 0<3 by decide)
            have m27_1:cc27[of27+1]?=some (.int .i64 ((lget s.stops (k - 1)).lo)):=q27 1 (show 1<3 by decide)
            have m27_2:cc27[of27+2]?=some (.int .i64 ((lget s.stops (k - 1)).hi)):=q27 2 (show 2<3 by decide)
            try simp (disch:=first|omega|assumption) only [E0_G,SY,agreeKind,ldA,aggD,aField,Nat.reduceAdd,Nat.reduceLT,Nat.reduceBEq,TY_EvW1,g17_1,store_refl E0_same,v1_23,v20_23,h25a,w26,i27,j27,m27_0] at he
            rcases dP (x17.at_≤((lget s.stops (k - 1)).at_)) with ⟨h28a,h28⟩|⟨h28a,h28⟩
            ·try simp (disch:=first|omega|assumption) only [E0_G,SY,off,agreeKind,Nat.reduceLT,store_refl E0_same,h28a] at he
             rw [drop_cons' hx17] at hd17
             have hf:=(show _=(.inl false:Sum (Bool) (Unit)) from (if_pos h24).trans ((if_pos h25).trans ((if_pos h28).trans (rfl)))).symm.trans hd17
             refine .ret he (.inr ⟨rfl,⟨false,?_,g23,hf.symm⟩⟩)<;>first|(simp only [SY,eq_self,Nat.reduceBEq]<;>rfl)|omega|assumption|(simp; omega)|simp
            have w29:IntKind.i64.wrap ((k:Int)+1)=((k+1:Nat):Int):=by rw [IntWalk.i64_in]<;>omega
            try simp (disch:=first|omega|assumption) only [E0_G,SY,off,agreeKind,Nat.reduceAdd,Nat.reduceLT,Nat.reduceBEq,g17_58,store_refl E0_same,h28a,w29] at he
            rw [drop_cons' hx17] at hd17
            have hf:=(show _=(R82_0 s (s.stops.drop (k+1)) (k+1):Sum (Bool) (Unit)) from (if_pos h24).trans ((if_pos h25).trans ((if_neg h28).trans (rfl)))).symm.trans hd17
            refine .next he (m - 1) (by omega) ⟨(k+1),?_,?_,?_,?_,?_,?_,v1_23,g23,by omega,hf⟩<;>first|(simp only [SY,eq_self,Nat.reduceBEq,g17_1,g17_56,g17_57,g17_58]<;>rfl)|omega|assumption|(simp; omega)|simp
           have w30:IntKind.i64.wrap ((k:Int)+1)=((k+1:Nat):Int):=by rw [IntWalk.i64_in]<;>omega
           try simp (disch:=first|omega|assumption) only [E0_G,SY,off,agreeKind,Nat.reduceAdd,Nat.reduceLT,Nat.reduceBEq,g17_58,store_refl E0_same,h25a,w30] at he
           rw [drop_cons' hx17] at hd17
           have hf:=(show _=(R82_0 s (s.stops.drop (k+1)) (k+1):Sum (Bool) (Unit)) from (if_pos h24).trans ((if_neg h25).trans (rfl))).symm.trans hd17
           refine .next he (m - 1) (by omega) ⟨(k+1),?_,?_,?_,?_,?_,?_,v1_23,g23,by omega,hf⟩<;>first|(simp only [SY,eq_self,Nat.reduceBEq,g17_1,g17_56,g17_57,g17_58]<;>rfl)|omega|assumption|(simp; omega)|simp
          try simp (disch:=first|omega|assumption) only [E0_G,SY,off,agreeKind,Nat.reduceAdd,Nat.reduceLT,Nat.reduceBEq,store_refl E0_same,h24a] at he
          rw [drop_cons' hx17] at hd17
          have hf:=(show _=(.inl false:Sum (Bool) (Unit)) from (if_neg h24).trans (rfl)).symm.trans hd17
          refine .ret he (.inr ⟨rfl,⟨false,?_,g23,hf.symm⟩⟩)<;>first|(simp only [SY,eq_self,Nat.reduceBEq]<;>rfl)|omega|assumption|(simp; omega)|simp
         try simp (disch:=first|omega|assumption) only [SY,h18a] at he
         rw [List.drop_eq_nil_of_le (show s.stops.length≤k by omega)] at hd17
         have hf:=(show _=(.inr ():Sum (Bool) (Unit)) from rfl).symm.trans hd17
         refine .exit he (.inl ⟨rfl,⟨k,bb17_1,ga17,by omega,?_,hf.symm⟩⟩)<;>first|(simp only [SY,setArgs,off,agreeKind,partVals,vals,allocV,boxed,ldA,rdCells,oneB,aggD,aField,aFieldV,aExtract,eq_self,ne_eq,if_true,if_false,not_false_eq_true,Nat.reduceAdd,Nat.reduceSub,Nat.reduceMul,Nat.reduceLT,Nat.reduceEqDiff,Nat.reduceBEq,reduceIte,Int.reduceEq,Int.reduceLT,Int.reduceLE,reduceCtorEq,g17_1,g17_56,g17_57,g17_58]<;>rfl)|omega|assumption|(simp; omega)|simp)
       rcases hQ17 with ⟨rfl,hQ17⟩|⟨rfl,hQ17⟩
       ·obtain ⟨k,be17_1,ge17,gm17,hj17_0,hR17⟩:=hQ17
        try simp (disch:=first|omega|assumption) only [E0_G,SY,off,agreeKind,eq_self,if_true,Nat.reduceLT,Nat.reduceBEq] at hz
        have hr:r82 s=true:=(if_pos h3).trans ((if_pos h5).trans ((if_pos h7).trans ((if_pos h9).trans ((if_pos h11).trans ((if_pos h13).trans ((if_neg h14).trans ((if_neg h15).trans ((onSum_inr hR17).trans (rfl)))))))))
        exact fin hz (by rw [hr]) ge17
       obtain ⟨r2,ge17_2,ge17,hR17⟩:=hQ17
       try simp (disch:=first|omega|assumption) only [SY,ge17_2] at hz
       have hr:r82 s=r2:=(if_pos h3).trans ((if_pos h5).trans ((if_pos h7).trans ((if_pos h9).trans ((if_pos h11).trans ((if_pos h13).trans ((if_neg h14).trans ((if_neg h15).trans ((onSum_inl hR17).trans (rfl)))))))))
       exact fin hz (by rw [hr]) ge17
      try simp (disch:=first|omega|assumption) only [E0_G,SY,off,agreeKind,Nat.reduceAdd,Nat.reduceLT,Nat.reduceBEq,h13a] at hz
      have hr:r82 s=false:=(if_pos h3).trans ((if_pos h5).trans ((if_pos h7).trans ((if_pos h9).trans ((if_pos h11).trans ((if_neg h13).trans (rfl))))))
      exact fin hz (by rw [hr]) g12
     try simp (disch:=first|omega|assumption) only [E0_G,SY,off,agreeKind,Nat.reduceAdd,Nat.reduceLT,Nat.reduceBEq,h11a] at hz
     have hr:r82 s=false:=(if_pos h3).trans ((if_pos h5).trans ((if_pos h7).trans ((if_pos h9).trans ((if_neg h11).trans (rfl)))))
     exact fin hz (by rw [hr]) g10
    try simp (disch:=first|omega|assumption) only [E0_G,SY,off,agreeKind,Nat.reduceLT,Nat.reduceBEq,h9a] at hz
    have hr:r82 s=false:=(if_pos h3).trans ((if_pos h5).trans ((if_pos h7).trans ((if_neg h9).trans (rfl))))
    exact fin hz (by rw [hr]) g8
   try simp (disch:=first|omega|assumption) only [E0_G,SY,off,agreeKind,Nat.reduceAdd,Nat.reduceLT,Nat.reduceBEq,h7a] at hz
   have hr:r82 s=false:=(if_pos h3).trans ((if_pos h5).trans ((if_neg h7).trans (rfl)))
   exact fin hz (by rw [hr]) g6
  try simp (disch:=first|omega|assumption) only [E0_G,SY,off,agreeKind,Nat.reduceAdd,Nat.reduceLT,Nat.reduceBEq,h5a] at hz
  have hr:r82 s=false:=(if_pos h3).trans ((if_neg h5).trans (rfl))
  exact fin hz (by rw [hr]) g4
 try simp (disch:=first|omega|assumption) only [E0_G,SY,off,agreeKind,Nat.reduceAdd,Nat.reduceLT,Nat.reduceBEq,h3a] at hz
 have hr:r82 s=false:=(if_neg h3).trans (rfl)
 exact fin hz (by rw [hr]) g2
def r83 (s:Se) (x:Sk):Bool:=(if (r141 x.id)=true then (r142 x.lo x.hi s.zLo s.eHi) else false)
set_option maxHeartbeats 2000000 in
theorem c83 (s:Se) (x:Sk)  (S:AS) (v_s_stops:Value) (hv_s_stops:Lst S v_s_stops s.stops) :
  ∃ S',(evL Tryz.prog E0).call 83 #[.agg #[.int .i64 s.id,.int .i64 s.inLo,.int .i64 s.inHi,.int .i64 s.outLo,.int .i64 s.outHi,.int .i64 s.zLo,.int .i64 s.zHi,.int .i64 s.eLo,.int .i64 s.eHi,.int .i64 s.rLo,.int .i64 s.rHi,v_s_stops],.agg #[.int .i64 x.id,.int .i64 x.lo,.int .i64 x.hi]] S=some (.bool (r83 s x),S')∧Agree S S':=by
 generalize hz:(evL Tryz.prog E0).call 83 _ _=z
 rw [L_call,evCall_said rfl Tryz.func83 rfl (by decide) Tryz.ntmps83 Tryz.results83] at hz
 obtain ⟨S1,e1,n1,b1,a1⟩:=push_open S (.cells [.int .i64 s.id,.int .i64 s.inLo,.int .i64 s.inHi,.int .i64 s.outLo,.int .i64 s.outHi,.int .i64 s.zLo,.int .i64 s.zHi,.int .i64 s.eLo,.int .i64 s.eHi,.int .i64 s.rLo,.int .i64 s.rHi,v_s_stops] 26 0 true true)
 have g1:Agree S S1:=a1
 obtain ⟨S2,e2,n2,b2,a2⟩:=push_open S1 (.cells [.int .i64 x.id,.int .i64 x.lo,.int .i64 x.hi] 112 0 true true)
 have v1_2:=(a2.2 S.next (by omega)).trans b1
 have g2:Agree S S2:=g1.trans a2
 obtain ⟨S3,k3,a3⟩:=c141 x.id  S2
 have l3:=a3.1
 have v1_3:=(a3.2 S.next (by omega)).trans v1_2
 have v2_3:=(a3.2 S1.next (by omega)).trans b2
 have g3:Agree S S3:=g2.trans a3
 try simp (disch:=first|omega|assumption) only [E0_G,SY,setArgs,off,agreeKind,vals,boxed,ldA,aggD,aField,Nat.reduceAdd,Nat.reduceSub,Nat.reduceLT,Nat.reduceBEq,TY_EvW1,e1,e2,b2,k3] at hz
 rcases dB ((r141 x.id)) with ⟨h4a,h4⟩|⟨h4a,h4⟩
 ·obtain ⟨S5,k5,a5⟩:=c142 x.lo x.hi s.zLo s.eHi  S3
  have l5:=a5.1
  have g5:Agree S S5:=g3.trans a5
  try simp (disch:=first|omega|assumption) only [E0_G,SY,off,agreeKind,vals,ldA,rdCells,aggD,aField,Nat.reduceAdd,Nat.reduceLT,Nat.reduceBEq,TY_EvW1,v1_3,v2_3,h4a,k5] at hz
  have hr:r83 s x=(r142 x.lo x.hi s.zLo s.eHi):=(if_pos h4).trans (rfl)
  exact fin hz (by rw [hr]) g5
 try simp (disch:=first|omega|assumption) only [E0_G,SY,off,agreeKind,Nat.reduceAdd,Nat.reduceLT,Nat.reduceBEq,h4a] at hz
 have hr:r83 s x=false:=(if_neg h4).trans (rfl)
 exact fin hz (by rw [hr]) g3
def r145 (x:Sk) (id:Int):Bool:=decide (x.id=id)
set_option maxHeartbeats 2000000 in
theorem c145 (x:Sk) (id:Int)  (S:AS) (p_id:Nat) (g_id:S.heap.get p_id=some (.cells [.int .i64 id] 3 0 true true)) (l_id:p_id<S.next) :
  ∃ S',(evL Tryz.prog E0).call 145 #[.agg #[.int .i64 x.id,.int .i64 x.lo,.int .i64 x.hi],.pointer (some ⟨p_id,0,none⟩)] S=some (.bool (r145 x id),S')∧Agree S S':=by
 generalize hz:(evL Tryz.prog E0).call 145 _ _=z
 rw [L_call,evCall_said rfl Tryz.func145 rfl (by decide) Tryz.ntmps145 Tryz.results145] at hz
 obtain ⟨S1,e1,n1,b1,a1⟩:=push_open S (.cells [.int .i64 x.id,.int .i64 x.lo,.int .i64 x.hi] 112 0 true true)
 have vid_1:=(a1.2 p_id (by omega)).trans g_id
 have g1:Agree S S1:=a1
 try simp (disch:=first|omega|assumption) only [E0_G,SY,setArgs,off,agreeKind,boxed,ldA,aggD,aField,Nat.reduceAdd,Nat.reduceSub,Nat.reduceLT,Nat.reduceBEq,TY_EvW1,vid_1,e1,b1] at hz
 have hr:r145 x id=decide (x.id=id):=rfl
 exact fin hz (by rw [hr]) g1
def R144_0 (l:List Sk) (id:Int)  : List Sk→Nat→Sum (Int) (Unit)
 | [],k=>.inr ()
 | x2 :: l',k=>(if (r145 x2 id)=true then .inl (k:Int) else R144_0 l id l' (k+1))
def r144 (l:List Sk) (id:Int):Int:=(onSum (R144_0 l id l 0) (fun (r4:Int)=>r4) (fun (_:Unit) => -1))
set_option maxHeartbeats 2000000 in
theorem c144 (l:List Sk) (id:Int) (hl:l.length≤100) (S:AS) (v_l:Value) (hv_l:Lst S v_l l) (p_id:Nat) (g_id:S.heap.get p_id=some (.cells [.int .i64 id] 3 0 true true)) (l_id:p_id<S.next) :
  ∃ S',(evL Tryz.prog E0).call 144 #[v_l,.func (.func 145) #[] #[.pointer (some ⟨p_id,0,none⟩)]] S=some (.int .i64 (r144 l id),S')∧Agree S S':=by
 generalize hz:(evL Tryz.prog E0).call 144 _ _=z
 rw [L_call,evCall_said rfl Tryz.func144 rfl (by decide) Tryz.ntmps144 Tryz.results144] at hz
 have w1:=(hv_l).len (P:=Tryz.prog) (t:=27) Tryz.underlying27
 try simp (disch:=first|omega|assumption) only [E0_G,SY,setArgs,off,agreeKind,Nat.reduceAdd,Nat.reduceSub,Nat.reduceLT,Nat.reduceBEq,w1] at hz
 generalize hL2:Rec.loop _ _ _ _=L2 at hz
 obtain ⟨x2,t2,S2e,rfl,hQ2⟩:=loop_met hL2 (fun m t S'=>∃ (k:Nat),m+k=l.length∧k≤l.length∧t.get 0=some (v_l)∧t.get 1=some (.func (.func 145) #[] #[.pointer (some ⟨p_id,0,none⟩)])∧t.get 7=some (.int .i64 (l.length:Int))∧t.get 8=some (.int .i64 (k:Int))∧S'.heap.get p_id=some (.cells [.int .i64 id] 3 0 true true)∧Agree S S'∧S.next≤S'.next∧R144_0 l id (l.drop k) k=R144_0 l id l 0)
  (fun x t S'=>(x=.exit 0∧∃ (k:Nat),S'.heap.get p_id=some (.cells [.int .i64 id] 3 0 true true)∧Agree S S'∧S.next≤S'.next∧k≤l.length∧R144_0 l id l 0=.inr ())∨(x=.ret∧∃ (r4:Int),t.get 4=some (.int .i64 r4)∧Agree S S'∧R144_0 l id l 0=.inl (r4))) (l.length - 0) (by refine ⟨0,?_,?_,?_,?_,?_,?_,g_id,(Agree.refl S),Nat.le_refl _,rfl⟩<;>first|(simp only [SY,eq_self,Nat.reduceBEq]<;>rfl)|omega|assumption|(simp; omega)|simp) (by
   rintro m t S2 ⟨k,hi2_0,hi2_1,g2_0,g2_1,g2_7,g2_8,bb2_id,ga2,gn2,hd2⟩
   refine .run fun z he=>?_
   try simp (disch:=first|omega|assumption) only [E0_G,SY,off,agreeKind,Nat.reduceLT,Nat.reduceBEq,g2_7,g2_8] at he
   rcases dP ((k:Int)<(l.length:Int)) with ⟨h3a,h3⟩|⟨h3a,h3⟩
   ·have hx2:l[k]?=some (l[k]'(by first|omega|simp; omega)):=List.getElem?_eq_getElem _
    generalize l[k]'_=x2 at hx2
    obtain ⟨id4,of4,cc4,ty4,wr4,ex4,i4,j4,l4,q4⟩:=(hv_l).at (P:=Tryz.prog) (t:=27) Tryz.underlying27 tz112 hx2
    have j4:=(ga2.2 id4 l4).trans j4
    have m4_0:cc4[of4]?=some (.int .i64 x2.id):=q4 0 (show 0<3 by decide)
    have m4_1:cc4[of4+1]?=some (.int .i64 x2.lo):=q4 1 (show 1<3 by decide)
    have m4_2:cc4[of4+2]?=some (.int .i64 x2.hi):=q4 2 (show 2<3 by decide)
    obtain ⟨S5,k5,a5⟩:=c145 x2 id  S2 p_id bb2_id (by omega)
    have l5:=a5.1
    have vid_5:=(a5.2 p_id (by omega)).trans bb2_id
    have g5:Agree S S5:=ga2.trans a5
    try simp (disch:=first|omega|assumption) only [E0_G,SY,off,agreeKind,vals,ldA,rdCells,aggD,Nat.reduceAdd,Nat.reduceLT,Nat.reduceBEq,TY_EvW1,g2_0,g2_1,g2_8,h3a,i4,j4,m4_0,m4_1,m4_2,k5] at he
    rcases dB ((r145 x2 id)) with ⟨h6a,h6⟩|⟨h6a,h6⟩
    ·try simp (disch:=first|omega|assumption) only [E0_G,SY,off,agreeKind,Nat.reduceAdd,Nat.reduceLT,Nat.reduceBEq,h6a] at he
     rw [drop_cons' hx2] at hd2
     have hf:=(show _=(.inl (k:Int):Sum (Int) (Unit)) from (if_pos h6).trans (rfl)).symm.trans hd2
     refine .ret he (.inr ⟨rfl,⟨(k:Int),?_,g5,hf.symm⟩⟩)<;>first|(simp only [SY,eq_self,Nat.reduceBEq]<;>rfl)|omega|assumption|(simp; omega)|simp
    have w7:IntKind.i64.wrap ((k:Int)+1)=((k+1:Nat):Int):=by rw [IntWalk.i64_in]<;>omega
    try simp (disch:=first|omega|assumption) only [E0_G,SY,off,agreeKind,Nat.reduceAdd,Nat.reduceLT,Nat.reduceBEq,g2_8,h6a,w7] at he
    rw [drop_cons' hx2] at hd2
    have hf:=(show _=(R144_0 l id (l.drop (k+1)) (k+1):Sum (Int) (Unit)) from (if_neg h6).trans (rfl)).symm.trans hd2
    refine .next he (m - 1) (by omega) ⟨(k+1),?_,?_,?_,?_,?_,?_,vid_5,g5,by omega,hf⟩<;>first|(simp only [SY,eq_self,Nat.reduceBEq,g2_0,g2_1,g2_7,g2_8]<;>rfl)|omega|assumption|(simp; omega)|simp
   try simp (disch:=first|omega|assumption) only [SY,h3a] at he
   rw [List.drop_eq_nil_of_le (show l.length≤k by omega)] at hd2
   have hf:=(show _=(.inr ():Sum (Int) (Unit)) from rfl).symm.trans hd2
   refine .exit he (.inl ⟨rfl,⟨k,bb2_id,ga2,by omega,?_,hf.symm⟩⟩)<;>first|(simp only [SY,setArgs,off,agreeKind,partVals,vals,allocV,boxed,ldA,rdCells,oneB,aggD,aField,aFieldV,aExtract,eq_self,ne_eq,if_true,if_false,not_false_eq_true,Nat.reduceAdd,Nat.reduceSub,Nat.reduceMul,Nat.reduceLT,Nat.reduceEqDiff,Nat.reduceBEq,reduceIte,Int.reduceEq,Int.reduceLT,Int.reduceLE,reduceCtorEq,g2_0,g2_1,g2_7,g2_8]<;>rfl)|omega|assumption|(simp; omega)|simp)
 rcases hQ2 with ⟨rfl,hQ2⟩|⟨rfl,hQ2⟩
 ·obtain ⟨k,be2_id,ge2,gm2,hj2_0,hR2⟩:=hQ2
  try simp (disch:=first|omega|assumption) only [E0_G,SY,off,agreeKind,eq_self,if_true,Nat.reduceLT,Nat.reduceBEq] at hz
  have hr:r144 l id = -1:=(onSum_inr hR2).trans (rfl)
  exact fin hz (by rw [hr]) ge2
 obtain ⟨r4,ge2_4,ge2,hR2⟩:=hQ2
 try simp (disch:=first|omega|assumption) only [SY,ge2_4] at hz
 have hr:r144 l id=r4:=(onSum_inl hR2).trans (rfl)
 exact fin hz (by rw [hr]) ge2
def r84 (l:List Sk) (id:Int):Int:=(r144 (l:List Sk) id)
set_option maxHeartbeats 2000000 in
theorem c84 (l:List Sk) (id:Int) (hl:l.length≤100) (S:AS) (v_l:Value) (hv_l:Lst S v_l l) :
  ∃ S',(evL Tryz.prog E0).call 84 #[v_l,.int .i64 id] S=some (.int .i64 (r84 l id),S')∧Agree S S':=by
 generalize hz:(evL Tryz.prog E0).call 84 _ _=z
 rw [L_call,evCall_said rfl Tryz.func84 rfl (by decide) Tryz.ntmps84 Tryz.results84] at hz
 obtain ⟨S1,e1,n1,b1,a1⟩:=push_open S (.cells [.int .i64 id] 3 0 true true)
 have g1:Agree S S1:=a1
 obtain ⟨S2,k2,a2⟩:=c144 (l:List Sk) id (by first|omega|assumption) S1 (v_l) (hv_l.agree g1) S.next b1 (by omega)
 have l2:=a2.1
 have g2:Agree S S2:=g1.trans a2
 try simp (disch:=first|omega|assumption) only [E0_G,SY,setArgs,off,agreeKind,vals,boxed,Nat.reduceAdd,Nat.reduceSub,Nat.reduceLT,Nat.reduceBEq,e1,op_makeFunc1,k2] at hz
 have hr:r84 l id=(r144 (l:List Sk) id):=rfl
 exact fin hz (by rw [hr]) g2
def R25_0 (r:Rc)  : List Sk→Nat→Sum (Int) (Unit)
 | [],k=>.inr ()
 | x11 :: l',k=>(if (r83 r.ses x11)=true then (if 0≤(r84 (r.strikes.take k:List Sk) x11.id) then .inl 6 else R25_0 r l' (k+1)) else .inl 1)
def R25_1 (r:Rc)  : List Sg→Sum (Int) (Unit)
 | []=>.inr ()
 | x25 :: l'=>(if (r85 x25.lo x25.hi)=true then (if (r84 (r.strikes:List Sk) x25.strike)<0 then .inl 5 else R25_1 r l') else .inl 1)
def r25 (r:Rc):Int:=(if 4<(r.ses.stops.length:Int) then 2 else (if (r82 r.ses)=true then (if 12<(r.strikes.length:Int) then 2 else (if 12<(r.sights.length:Int) then 2 else (onSum (R25_0 r r.strikes 0) (fun (r2:Int)=>r2) (fun (_:Unit)=>(onSum (R25_1 r r.sights) (fun (r2:Int)=>r2) (fun (_:Unit)=>0)))))) else 1))
set_option maxHeartbeats 2000000 in
theorem c25 (r:Rc) (hp:r.ses.stops.length≤12) (hs:r.strikes.length≤20) (hg:r.sights.length≤20) (S:AS) (v_r_ses_stops:Value) (hv_r_ses_stops:Lst S v_r_ses_stops r.ses.stops) (v_r_strikes:Value) (hv_r_strikes:Lst S v_r_strikes r.strikes) (v_r_sights:Value) (hv_r_sights:Lst S v_r_sights r.sights) :
  ∃ S',(evL Tryz.prog E0).call 25 #[.agg #[.int .i64 r.ses.id,.int .i64 r.ses.inLo,.int .i64 r.ses.inHi,.int .i64 r.ses.outLo,.int .i64 r.ses.outHi,.int .i64 r.ses.zLo,.int .i64 r.ses.zHi,.int .i64 r.ses.eLo,.int .i64 r.ses.eHi,.int .i64 r.ses.rLo,.int .i64 r.ses.rHi,v_r_ses_stops,v_r_strikes,v_r_sights]] S=some (.int .i64 (r25 r),S')∧Agree S S':=by
 generalize hz:(evL Tryz.prog E0).call 25 _ _=z
 rw [L_call,evCall_said rfl Tryz.func25 rfl (by decide) Tryz.ntmps25 Tryz.results25] at hz
 obtain ⟨S1,e1,n1,b1,a1⟩:=push_open S (.cells [.int .i64 r.ses.id,.int .i64 r.ses.inLo,.int .i64 r.ses.inHi,.int .i64 r.ses.outLo,.int .i64 r.ses.outHi,.int .i64 r.ses.zLo,.int .i64 r.ses.zHi,.int .i64 r.ses.eLo,.int .i64 r.ses.eHi,.int .i64 r.ses.rLo,.int .i64 r.ses.rHi,v_r_ses_stops,v_r_strikes,v_r_sights] 30 0 true true)
 have g1:Agree S S1:=a1
 have s1:E0.same S S1=true:=symEnv_same a1
 have w2:=(hv_r_ses_stops.agree g1).len (P:=Tryz.prog) (t:=24) Tryz.underlying24
 try simp (disch:=first|omega|assumption) only [E0_G,SY,setArgs,off,agreeKind,boxed,ldA,aggD,aField,Nat.reduceAdd,Nat.reduceSub,Nat.reduceLT,Nat.reduceBEq,TY_EvW1,e1,b1,w2] at hz
 rcases dP (4<(r.ses.stops.length:Int)) with ⟨h3a,h3⟩|⟨h3a,h3⟩
 ·try simp (disch:=first|omega|assumption) only [E0_G,SY,off,agreeKind,Nat.reduceLT,Nat.reduceBEq,h3a] at hz
  have hr:r25 r=2:=(if_pos h3).trans (rfl)
  exact fin hz (by rw [hr]) g1
 obtain ⟨S4,k4,a4⟩:=c82 r.ses (by first|omega|assumption) S1 (v_r_ses_stops) (hv_r_ses_stops.agree g1)
 have l4:=a4.1
 have s4:E0.same S1 S4=true:=symEnv_same a4
 have v1_4:=(a4.2 S.next (by omega)).trans b1
 have g4:Agree S S4:=g1.trans a4
 try simp (disch:=first|omega|assumption) only [E0_G,SY,off,agreeKind,vals,ldA,rdCells,aggD,aField,Nat.reduceAdd,Nat.reduceLT,Nat.reduceBEq,TY_EvW1,b1,h3a,k4] at hz
 rcases dB ((r82 r.ses)) with ⟨h5a,h5⟩|⟨h5a,h5⟩
 ·have w6:=(hv_r_strikes.agree g4).len (P:=Tryz.prog) (t:=27) Tryz.underlying27
  try simp (disch:=first|omega|assumption) only [E0_G,SY,off,agreeKind,ldA,aggD,aField,Nat.reduceAdd,Nat.reduceLT,Nat.reduceBEq,TY_EvW1,v1_4,h5a,w6] at hz
  rcases dP (12<(r.strikes.length:Int)) with ⟨h7a,h7⟩|⟨h7a,h7⟩
  ·try simp (disch:=first|omega|assumption) only [E0_G,SY,off,agreeKind,Nat.reduceAdd,Nat.reduceLT,Nat.reduceBEq,h7a] at hz
   have hr:r25 r=2:=(if_neg h3).trans ((if_pos h5).trans ((if_pos h7).trans (rfl)))
   exact fin hz (by rw [hr]) g4
  have w8:=(hv_r_sights.agree g4).len (P:=Tryz.prog) (t:=28) Tryz.underlying28
  try simp (disch:=first|omega|assumption) only [E0_G,SY,off,agreeKind,ldA,aggD,aField,Nat.reduceAdd,Nat.reduceLT,Nat.reduceBEq,TY_EvW1,v1_4,h7a,w8] at hz
  rcases dP (12<(r.sights.length:Int)) with ⟨h9a,h9⟩|⟨h9a,h9⟩
  ·try simp (disch:=first|omega|assumption) only [E0_G,SY,off,agreeKind,Nat.reduceLT,Nat.reduceBEq,h9a] at hz
   have hr:r25 r=2:=(if_neg h3).trans ((if_pos h5).trans ((if_neg h7).trans ((if_pos h9).trans (rfl))))
   exact fin hz (by rw [hr]) g4
  have w10:=(hv_r_strikes.agree g4).len (P:=Tryz.prog) (t:=27) Tryz.underlying27
  try simp (disch:=first|omega|assumption) only [E0_G,SY,off,agreeKind,ldA,aggD,aField,Nat.reduceAdd,Nat.reduceLT,Nat.reduceBEq,TY_EvW1,v1_4,w6,h9a] at hz
  generalize hL11:Rec.loop _ _ _ _=L11 at hz
  obtain ⟨x11,t11,S11e,rfl,hQ11⟩:=loop_met hL11 (fun m t S'=>∃ (k:Nat),m+k=r.strikes.length∧k≤r.strikes.length∧t.get 1=some (.pointer (some ⟨S.next,0,none⟩))∧t.get 27=some (v_r_strikes)∧t.get 28=some (.int .i64 (r.strikes.length:Int))∧t.get 29=some (.int .i64 (k:Int))∧S'.heap.get S.next=some (.cells [.int .i64 r.ses.id,.int .i64 r.ses.inLo,.int .i64 r.ses.inHi,.int .i64 r.ses.outLo,.int .i64 r.ses.outHi,.int .i64 r.ses.zLo,.int .i64 r.ses.zHi,.int .i64 r.ses.eLo,.int .i64 r.ses.eHi,.int .i64 r.ses.rLo,.int .i64 r.ses.rHi,v_r_ses_stops,v_r_strikes,v_r_sights] 30 0 true true)∧Agree S S'∧S4.next≤S'.next∧R25_0 r (r.strikes.drop k) k=R25_0 r r.strikes 0)
   (fun x t S'=>(x=.exit 0∧∃ (k:Nat),t.get 1=some (.pointer (some ⟨S.next,0,none⟩))∧S'.heap.get S.next=some (.cells [.int .i64 r.ses.id,.int .i64 r.ses.inLo,.int .i64 r.ses.inHi,.int .i64 r.ses.outLo,.int .i64 r.ses.outHi,.int .i64 r.ses.zLo,.int .i64 r.ses.zHi,.int .i64 r.ses.eLo,.int .i64 r.ses.eHi,.int .i64 r.ses.rLo,.int .i64 r.ses.rHi,v_r_ses_stops,v_r_strikes,v_r_sights] 30 0 true true)∧Agree S S'∧S4.next≤S'.next∧k≤r.strikes.length∧R25_0 r r.strikes 0=.inr ())∨(x=.ret∧∃ (r2:Int),t.get 2=some (.int .i64 r2)∧Agree S S'∧R25_0 r r.strikes 0=.inl (r2))) (r.strikes.length - 0) (by refine ⟨0,?_,?_,?_,?_,?_,?_,v1_4,g4,Nat.le_refl _,rfl⟩<;>first|(simp only [SY,eq_self,Nat.reduceBEq]<;>rfl)|omega|assumption|(simp; omega)|simp) (by
    rintro m t S11 ⟨k,hi11_0,hi11_1,g11_1,g11_27,g11_28,g11_29,bb11_1,ga11,gn11,hd11⟩
    refine .run fun z he=>?_
    try simp (disch:=first|omega|assumption) only [E0_G,SY,off,agreeKind,Nat.reduceLT,Nat.reduceBEq,g11_28,g11_29] at he
    rcases dP ((k:Int)<(r.strikes.length:Int)) with ⟨h12a,h12⟩|⟨h12a,h12⟩
    ·have hx11:r.strikes[k]?=some (r.strikes[k]'(by first|omega|simp; omega)):=List.getElem?_eq_getElem _
     generalize r.strikes[k]'_=x11 at hx11
     obtain ⟨id13,of13,cc13,ty13,wr13,ex13,i13,j13,l13,q13⟩:=(hv_r_strikes).at (P:=Tryz.prog) (t:=27) Tryz.underlying27 tz112 hx11
     have j13:=(ga11.2 id13 l13).trans j13
     have m13_0:cc13[of13]?=some (.int .i64 x11.id):=q13 0 (show 0<3 by decide)
     have m13_1:cc13[of13+1]?=some (.int .i64 x11.lo):=q13 1 (show 1<3 by decide)
     have m13_2:cc13[of13+2]?=some (.int .i64 x11.hi):=q13 2 (show 2<3 by decide)
     obtain ⟨S14,e14,n14,b14,a14⟩:=push_open S11 (.cells [.int .i64 0,.int .i64 0,.int .i64 0] 112 0 true true)
     have v1_14:=(a14.2 S.next (by omega)).trans bb11_1
     have g14:Agree S S14:=ga11.trans a14
     have s14:E0.same S11 S14=true:=symEnv_same a14
     obtain ⟨S15,k15,n15,b15,q15⟩:=st_at (o:=0) (c':=[.int .i64 x11.id,.int .i64 x11.lo,.int .i64 x11.hi]) (v:=.agg #[.int .i64 x11.id,.int .i64 x11.lo,.int .i64 x11.hi]) tz112 b14 rfl rfl (show 0+3≤3 by decide) rfl
     have v1_15:=(q15 S.next (by omega)).trans v1_14
     have g15:Agree S S15:=⟨by have:=(g14).1; omega,fun id hid=>(q15 id (by have:=(g14).1; omega)).trans ((g14).2 id hid)⟩
     obtain ⟨S16,k16,a16⟩:=c83 r.ses x11  S15 (v_r_ses_stops) (hv_r_ses_stops.agree g15)
     have l16:=a16.1
     have s16:E0.same S15 S16=true:=symEnv_same a16
     have v1_16:=(a16.2 S.next (by omega)).trans v1_15
     have v14_16:=(a16.2 S11.next (by omega)).trans b15
     have g16:Agree S S16:=g15.trans a16
     try simp (disch:=first|omega|assumption) only [E0_G,SY,off,agreeKind,vals,allocV,ldA,rdCells,aggD,aField,Nat.reduceAdd,Nat.reduceLT,Nat.reduceBEq,TY_EvW1,g11_1,g11_27,g11_29,h12a,i13,j13,m13_0,m13_1,m13_2,e14,v1_15,k15,b15,k16] at he
     rcases dB ((r83 r.ses x11)) with ⟨h17a,h17⟩|⟨h17a,h17⟩
     ·try simp (disch:=first|omega|assumption) only [SY,h17a] at he
      rw [code_draws _ _ _ (by kernel_rfl)] at he
      generalize hnd18:needy _=nd18 at he
      obtain ⟨p19,k19,r19⟩:=Lst.take2 hv_r_strikes g16 (P:=Tryz.prog) (t:=27) Tryz.underlying27 tz112 (i:=k) (by first|omega|simp; omega) (Lst.good hv_r_strikes (by first|omega|simp; omega))
      obtain ⟨S20,k20,a20⟩:=c84 (r.strikes.take k:List Sk) x11.id (by first|omega|(simp; omega)) S16 (p19) (r19.agree g16)
      have l20:=a20.1
      have s20:E0.same S16 S20=true:=symEnv_same a20
      have v1_20:=(a20.2 S.next (by omega)).trans v1_16
      have g20:Agree S S20:=g16.trans a20
      try simp (disch:=first|omega|assumption) only [E0_G,SY,agreeKind,vals,ldA,aggD,aField,Nat.reduceAdd,Nat.reduceLT,Nat.reduceBEq,TY_EvW1,g11_1,v1_16,v14_16,store_agree,store_refl E0_same,k19,k20] at he
      rcases dP (0≤(r84 (r.strikes.take k:List Sk) x11.id)) with ⟨h21a,h21⟩|⟨h21a,h21⟩
      ·try simp (disch:=first|omega|assumption) only [E0_G,SY,off,agreeKind,Nat.reduceLT,store_refl E0_same,h21a] at he
       rw [drop_cons' hx11] at hd11
       have hf:=(show _=(.inl 6:Sum (Int) (Unit)) from (if_pos h17).trans ((if_pos h21).trans (rfl))).symm.trans hd11
       refine .ret he (.inr ⟨rfl,⟨6,?_,g20,hf.symm⟩⟩)<;>first|(simp only [SY,eq_self,Nat.reduceBEq]<;>rfl)|omega|assumption|(simp; omega)|simp
      have w22:IntKind.i64.wrap ((k:Int)+1)=((k+1:Nat):Int):=by rw [IntWalk.i64_in]<;>omega
      try simp (disch:=first|omega|assumption) only [E0_G,SY,off,agreeKind,Nat.reduceAdd,Nat.reduceLT,Nat.reduceBEq,g11_29,store_refl E0_same,h21a,w22] at he
      rw [drop_cons' hx11] at hd11
      have hf:=(show _=(R25_0 r (r.strikes.drop (k+1)) (k+1):Sum (Int) (Unit)) from (if_pos h17).trans ((if_neg h21).trans (rfl))).symm.trans hd11
      refine .next he (m - 1) (by omega) ⟨(k+1),?_,?_,?_,?_,?_,?_,v1_20,g20,by omega,hf⟩<;>first|(simp only [SY,eq_self,Nat.reduceBEq,g11_1,g11_27,g11_28,g11_29]<;>rfl)|omega|assumption|(simp; omega)|simp
     try simp (disch:=first|omega|assumption) only [E0_G,SY,off,agreeKind,Nat.reduceLT,h17a] at he
     rw [drop_cons' hx11] at hd11
     have hf:=(show _=(.inl 1:Sum (Int) (Unit)) from (if_neg h17).trans (rfl)).symm.trans hd11
     refine .ret he (.inr ⟨rfl,⟨1,?_,g16,hf.symm⟩⟩)<;>first|(simp only [SY,eq_self,Nat.reduceBEq]<;>rfl)|omega|assumption|(simp; omega)|simp
    try simp (disch:=first|omega|assumption) only [SY,h12a] at he
    rw [List.drop_eq_nil_of_le (show r.strikes.length≤k by omega)] at hd11
    have hf:=(show _=(.inr ():Sum (Int) (Unit)) from rfl).symm.trans hd11
    refine .exit he (.inl ⟨rfl,⟨k,?_,bb11_1,ga11,by omega,?_,hf.symm⟩⟩)<;>first|(simp only [SY,eq_self,Nat.reduceBEq,g11_1]<;>rfl)|omega|assumption|(simp; omega)|simp)
  rcases hQ11 with ⟨rfl,hQ11⟩|⟨rfl,hQ11⟩
  ·obtain ⟨k,ge11_1,be11_1,ge11,gm11,hj11_0,hR11⟩:=hQ11
   have w24:=(hv_r_sights.agree ge11).len (P:=Tryz.prog) (t:=28) Tryz.underlying28
   try simp (disch:=first|omega|assumption) only [E0_G,SY,off,agreeKind,ldA,aggD,aField,eq_self,if_true,Nat.reduceAdd,Nat.reduceLT,Nat.reduceBEq,TY_EvW1,w8,ge11_1,be11_1] at hz
   generalize hL25:Rec.loop _ _ _ _=L25 at hz
   obtain ⟨x25,t25,S25e,rfl,hQ25⟩:=loop_met hL25 (fun m t S'=>∃ (k:Nat),m+k=r.sights.length∧k≤r.sights.length∧t.get 1=some (.pointer (some ⟨S.next,0,none⟩))∧t.get 49=some (v_r_sights)∧t.get 50=some (.int .i64 (r.sights.length:Int))∧t.get 51=some (.int .i64 (k:Int))∧S'.heap.get S.next=some (.cells [.int .i64 r.ses.id,.int .i64 r.ses.inLo,.int .i64 r.ses.inHi,.int .i64 r.ses.outLo,.int .i64 r.ses.outHi,.int .i64 r.ses.zLo,.int .i64 r.ses.zHi,.int .i64 r.ses.eLo,.int .i64 r.ses.eHi,.int .i64 r.ses.rLo,.int .i64 r.ses.rHi,v_r_ses_stops,v_r_strikes,v_r_sights] 30 0 true true)∧Agree S S'∧S11e.next≤S'.next∧R25_1 r (r.sights.drop k)=R25_1 r r.sights)
    (fun x t S'=>(x=.exit 2∧∃ (k:Nat),S'.heap.get S.next=some (.cells [.int .i64 r.ses.id,.int .i64 r.ses.inLo,.int .i64 r.ses.inHi,.int .i64 r.ses.outLo,.int .i64 r.ses.outHi,.int .i64 r.ses.zLo,.int .i64 r.ses.zHi,.int .i64 r.ses.eLo,.int .i64 r.ses.eHi,.int .i64 r.ses.rLo,.int .i64 r.ses.rHi,v_r_ses_stops,v_r_strikes,v_r_sights] 30 0 true true)∧Agree S S'∧S11e.next≤S'.next∧k≤r.sights.length∧R25_1 r r.sights=.inr ())∨(x=.ret∧∃ (r2:Int),t.get 2=some (.int .i64 r2)∧Agree S S'∧R25_1 r r.sights=.inl (r2))) (r.sights.length - 0) (by refine ⟨0,?_,?_,?_,?_,?_,?_,be11_1,ge11,Nat.le_refl _,rfl⟩<;>first|(simp only [SY,eq_self,Nat.reduceBEq,ge11_1]<;>rfl)|omega|assumption|(simp; omega)|simp) (by
     rintro m t S25 ⟨k,hi25_0,hi25_1,g25_1,g25_49,g25_50,g25_51,bb25_1,ga25,gn25,hd25⟩
     refine .run fun z he=>?_
     try simp (disch:=first|omega|assumption) only [E0_G,SY,off,agreeKind,Nat.reduceLT,Nat.reduceBEq,g25_50,g25_51] at he
     rcases dP ((k:Int)<(r.sights.length:Int)) with ⟨h26a,h26⟩|⟨h26a,h26⟩
     ·have hx25:r.sights[k]?=some (r.sights[k]'(by first|omega|simp; omega)):=List.getElem?_eq_getElem _
      generalize r.sights[k]'_=x25 at hx25
      obtain ⟨id27,of27,cc27,ty27,wr27,ex27,i27,j27,l27,q27⟩:=(hv_r_sights).at (P:=Tryz.prog) (t:=28) Tryz.underlying28 tz115 hx25
      have j27:=(ga25.2 id27 l27).trans j27
      have m27_0:cc27[of27]?=some (.int .i64 x25.strike):=q27 0 (show 0<3 by decide)
      have m27_1:cc27[of27+1]?=some (.int .i64 x25.lo):=q27 1 (show 1<3 by decide)
      have m27_2:cc27[of27+2]?=some (.int .i64 x25.hi):=q27 2 (show 2<3 by decide)
      obtain ⟨S28,e28,n28,b28,a28⟩:=push_open S25 (.cells [.int .i64 0,.int .i64 0,.int .i64 0] 115 0 true true)
      have v1_28:=(a28.2 S.next (by omega)).trans bb25_1
      have g28:Agree S S28:=ga25.trans a28
      have s28:E0.same S25 S28=true:=symEnv_same a28
      obtain ⟨S29,k29,n29,b29,q29⟩:=st_at (o:=0) (c':=[.int .i64 x25.strike,.int .i64 x25.lo,.int .i64 x25.hi]) (v:=.agg #[.int .i64 x25.strike,.int .i64 x25.lo,.int .i64 x25.hi]) tz115 b28 rfl rfl (show 0+3≤3 by decide) rfl
      have v1_29:=(q29 S.next (by omega)).trans v1_28
      have g29:Agree S S29:=⟨by have:=(g28).1; omega,fun id hid=>(q29 id (by have:=(g28).1; omega)).trans ((g28).2 id hid)⟩
      obtain ⟨S30,k30,a30⟩:=c85 x25.lo x25.hi  S29
      have l30:=a30.1
      have s30:E0.same S29 S30=true:=symEnv_same a30
      have v1_30:=(a30.2 S.next (by omega)).trans v1_29
      have v28_30:=(a30.2 S25.next (by omega)).trans b29
      have g30:Agree S S30:=g29.trans a30
      try simp (disch:=first|omega|assumption) only [E0_G,SY,off,agreeKind,vals,allocV,ldA,rdCells,aggD,aField,Nat.reduceAdd,Nat.reduceLT,Nat.reduceBEq,TY_EvW1,g25_49,g25_51,h26a,i27,j27,m27_0,m27_1,m27_2,e28,k29,b29,k30] at he
      rcases dB ((r85 x25.lo x25.hi)) with ⟨h31a,h31⟩|⟨h31a,h31⟩
      ·obtain ⟨S32,k32,a32⟩:=c84 (r.strikes:List Sk) x25.strike (by first|omega|(simp; omega)) S30 (v_r_strikes) (hv_r_strikes.agree g30)
       have l32:=a32.1
       have s32:E0.same S30 S32=true:=symEnv_same a32
       have v1_32:=(a32.2 S.next (by omega)).trans v1_30
       have g32:Agree S S32:=g30.trans a32
       try simp (disch:=first|omega|assumption) only [E0_G,SY,off,agreeKind,vals,ldA,aggD,aField,Nat.reduceAdd,Nat.reduceLT,Nat.reduceBEq,TY_EvW1,g25_1,v1_30,v28_30,h31a,k32] at he
       rcases dP ((r84 (r.strikes:List Sk) x25.strike)<0) with ⟨h33a,h33⟩|⟨h33a,h33⟩
       ·try simp (disch:=first|omega|assumption) only [E0_G,SY,off,agreeKind,Nat.reduceLT,h33a] at he
        rw [drop_cons' hx25] at hd25
        have hf:=(show _=(.inl 5:Sum (Int) (Unit)) from (if_pos h31).trans ((if_pos h33).trans (rfl))).symm.trans hd25
        refine .ret he (.inr ⟨rfl,⟨5,?_,g32,hf.symm⟩⟩)<;>first|(simp only [SY,eq_self,Nat.reduceBEq]<;>rfl)|omega|assumption|(simp; omega)|simp
       have w34:IntKind.i64.wrap ((k:Int)+1)=((k+1:Nat):Int):=by rw [IntWalk.i64_in]<;>omega
       try simp (disch:=first|omega|assumption) only [E0_G,SY,off,agreeKind,Nat.reduceAdd,Nat.reduceLT,Nat.reduceBEq,g25_51,h33a,w34] at he
       rw [drop_cons' hx25] at hd25
       have hf:=(show _=(R25_1 r (r.sights.drop (k+1)):Sum (Int) (Unit)) from (if_pos h31).trans ((if_neg h33).trans (rfl))).symm.trans hd25
       refine .next he (m - 1) (by omega) ⟨(k+1),?_,?_,?_,?_,?_,?_,v1_32,g32,by omega,hf⟩<;>first|(simp only [SY,eq_self,Nat.reduceBEq,g25_1,g25_49,g25_50,g25_51]<;>rfl)|omega|assumption|(simp; omega)|simp
      try simp (disch:=first|omega|assumption) only [E0_G,SY,off,agreeKind,Nat.reduceLT,h31a] at he
      rw [drop_cons' hx25] at hd25
      have hf:=(show _=(.inl 1:Sum (Int) (Unit)) from (if_neg h31).trans (rfl)).symm.trans hd25
      refine .ret he (.inr ⟨rfl,⟨1,?_,g30,hf.symm⟩⟩)<;>first|(simp only [SY,eq_self,Nat.reduceBEq]<;>rfl)|omega|assumption|(simp; omega)|simp
     try simp (disch:=first|omega|assumption) only [SY,h26a] at he
     rw [List.drop_eq_nil_of_le (show r.sights.length≤k by omega)] at hd25
     have hf:=(show _=(.inr ():Sum (Int) (Unit)) from rfl).symm.trans hd25
     refine .exit he (.inl ⟨rfl,⟨k,bb25_1,ga25,by omega,?_,hf.symm⟩⟩)<;>first|(simp only [SY,setArgs,off,agreeKind,partVals,vals,allocV,boxed,ldA,rdCells,oneB,aggD,aField,aFieldV,aExtract,eq_self,ne_eq,if_true,if_false,not_false_eq_true,Nat.reduceAdd,Nat.reduceSub,Nat.reduceMul,Nat.reduceLT,Nat.reduceEqDiff,Nat.reduceBEq,reduceIte,Int.reduceEq,Int.reduceLT,Int.reduceLE,reduceCtorEq,g25_1,g25_49,g25_50,g25_51]<;>rfl)|omega|assumption|(simp; omega)|simp)
   rcases hQ25 with ⟨rfl,hQ25⟩|⟨rfl,hQ25⟩
   ·obtain ⟨k,be25_1,ge25,gm25,hj25_0,hR25⟩:=hQ25
    try simp (disch:=first|omega|assumption) only [E0_G,SY,off,agreeKind,eq_self,if_true,Nat.reduceLT,Nat.reduceBEq] at hz
    have hr:r25 r=0:=(if_neg h3).trans ((if_pos h5).trans ((if_neg h7).trans ((if_neg h9).trans ((onSum_inr hR11).trans ((onSum_inr hR25).trans (rfl))))))
    exact fin hz (by rw [hr]) ge25
   obtain ⟨r2,ge25_2,ge25,hR25⟩:=hQ25
   try simp (disch:=first|omega|assumption) only [SY,ge25_2] at hz
   have hr:r25 r=r2:=(if_neg h3).trans ((if_pos h5).trans ((if_neg h7).trans ((if_neg h9).trans ((onSum_inr hR11).trans ((onSum_inl hR25).trans (rfl))))))
   exact fin hz (by rw [hr]) ge25
  obtain ⟨r2,ge11_2,ge11,hR11⟩:=hQ11
  try simp (disch:=first|omega|assumption) only [SY,ge11_2] at hz
  have hr:r25 r=r2:=(if_neg h3).trans ((if_pos h5).trans ((if_neg h7).trans ((if_neg h9).trans ((onSum_inl hR11).trans (rfl)))))
  exact fin hz (by rw [hr]) ge11
 try simp (disch:=first|omega|assumption) only [E0_G,SY,off,agreeKind,Nat.reduceLT,Nat.reduceBEq,h5a] at hz
 have hr:r25 r=1:=(if_neg h3).trans ((if_neg h5).trans (rfl))
 exact fin hz (by rw [hr]) g4
def r78 (lo hi:Int) (a:Int) (b:Int):Bool:=(if a≤lo then (if lo≤hi then decide (hi≤b) else false) else false)
set_option maxHeartbeats 2000000 in
theorem c78 (lo hi:Int) (a:Int) (b:Int)  (S:AS)  :
  ∃ S',(evL Tryz.prog E0).call 78 #[.agg #[.int .i64 lo,.int .i64 hi],.int .i64 a,.int .i64 b] S=some (.bool (r78 lo hi a b),S')∧Agree S S':=by
 generalize hz:(evL Tryz.prog E0).call 78 _ _=z
 rw [L_call,evCall_said rfl Tryz.func78 rfl (by decide) Tryz.ntmps78 Tryz.results78] at hz
 obtain ⟨S1,e1,n1,b1,a1⟩:=push_open S (.cells [.int .i64 lo,.int .i64 hi] 23 0 true true)
 have g1:Agree S S1:=a1
 try simp (disch:=first|omega|assumption) only [E0_G,SY,setArgs,off,agreeKind,boxed,ldA,aggD,aField,Nat.reduceAdd,Nat.reduceSub,Nat.reduceLT,Nat.reduceBEq,TY_EvW1,e1,b1] at hz
 rcases dP (a≤lo) with ⟨h2a,h2⟩|⟨h2a,h2⟩
 ·try simp (disch:=first|omega|assumption) only [E0_G,SY,off,agreeKind,ldA,aggD,aField,Nat.reduceAdd,Nat.reduceLT,Nat.reduceBEq,TY_EvW1,b1,h2a] at hz
  rcases dP (lo≤hi) with ⟨h3a,h3⟩|⟨h3a,h3⟩
  ·try simp (disch:=first|omega|assumption) only [E0_G,SY,off,agreeKind,ldA,aggD,aField,Nat.reduceAdd,Nat.reduceLT,Nat.reduceBEq,TY_EvW1,b1,h3a] at hz
   have hr:r78 lo hi a b=decide (hi≤b):=(if_pos h2).trans ((if_pos h3).trans (rfl))
   exact fin hz (by rw [hr]) g1
  try simp (disch:=first|omega|assumption) only [E0_G,SY,off,agreeKind,Nat.reduceAdd,Nat.reduceLT,Nat.reduceBEq,h3a] at hz
  have hr:r78 lo hi a b=false:=(if_pos h2).trans ((if_neg h3).trans (rfl))
  exact fin hz (by rw [hr]) g1
 try simp (disch:=first|omega|assumption) only [E0_G,SY,off,agreeKind,Nat.reduceAdd,Nat.reduceLT,Nat.reduceBEq,h2a] at hz
 have hr:r78 lo hi a b=false:=(if_neg h2).trans (rfl)
 exact fin hz (by rw [hr]) g1
def R77_0 (s:Se)  : List Stp→Nat→Sum (Int) (Unit)
 | [],i=>.inr ()
 | x18 :: l',i=>(if x18.at_<(IntKind.i64.wrap (s.zHi+1)) then .inl 1 else (if (IntKind.i64.wrap (s.eLo - 1))<x18.at_ then .inl 1 else (if (r78 x18.lo x18.hi 0 36000)=true then (if 0<(i:Int) then (if x18.at_≤((lget s.stops (i - 1)).at_) then .inl 1 else R77_0 s l' (i+1)) else R77_0 s l' (i+1)) else .inl 1)))
def r77 (s:Se):Int:=(if 4<(s.stops.length:Int) then 2 else (if s.id<1 then 1 else (if 1099511627776<s.id then 1 else (if (r78 s.inLo s.inHi 0 1073741823)=true then (if (r78 s.outLo s.outHi 0 1073741823)=true then (if (r78 s.zLo s.zHi 0 43199)=true then (if (r78 s.eLo s.eHi 0 43199)=true then (if (r78 s.rLo s.rHi 900000 1100000)=true then (if s.eLo<s.zLo then 1 else (if s.eHi<s.zHi then 1 else (onSum (R77_0 s s.stops 0) (fun (r2:Int)=>r2) (fun (_:Unit)=>0)))) else 1) else 1) else 1) else 1) else 1))))
set_option maxHeartbeats 2000000 in
theorem c77 (s:Se) (hp:s.stops.length≤12) (S:AS) (v_s_stops:Value) (hv_s_stops:Lst S v_s_stops s.stops) :
  ∃ S',(evL Tryz.prog E0).call 77 #[.agg #[.int .i64 s.id,.int .i64 s.inLo,.int .i64 s.inHi,.int .i64 s.outLo,.int .i64 s.outHi,.int .i64 s.zLo,.int .i64 s.zHi,.int .i64 s.eLo,.int .i64 s.eHi,.int .i64 s.rLo,.int .i64 s.rHi,v_s_stops]] S=some (.int .i64 (r77 s),S')∧Agree S S':=by
 generalize hz:(evL Tryz.prog E0).call 77 _ _=z
 rw [L_call,evCall_said rfl Tryz.func77 rfl (by decide) Tryz.ntmps77 Tryz.results77] at hz
 obtain ⟨S1,e1,n1,b1,a1⟩:=push_open S (.cells [.int .i64 s.id,.int .i64 s.inLo,.int .i64 s.inHi,.int .i64 s.outLo,.int .i64 s.outHi,.int .i64 s.zLo,.int .i64 s.zHi,.int .i64 s.eLo,.int .i64 s.eHi,.int .i64 s.rLo,.int .i64 s.rHi,v_s_stops] 26 0 true true)
 have g1:Agree S S1:=a1
 have s1:E0.same S S1=true:=symEnv_same a1
 have w2:=(hv_s_stops.agree g1).len (P:=Tryz.prog) (t:=24) Tryz.underlying24
 try simp (disch:=first|omega|assumption) only [E0_G,SY,setArgs,off,agreeKind,boxed,ldA,aggD,aField,Nat.reduceAdd,Nat.reduceSub,Nat.reduceLT,Nat.reduceBEq,TY_EvW1,e1,b1,w2] at hz
 rcases dP (4<(s.stops.length:Int)) with ⟨h3a,h3⟩|⟨h3a,h3⟩
 ·try simp (disch:=first|omega|assumption) only [E0_G,SY,off,agreeKind,Nat.reduceLT,Nat.reduceBEq,h3a] at hz
  have hr:r77 s=2:=(if_pos h3).trans (rfl)
  exact fin hz (by rw [hr]) g1
 try simp (disch:=first|omega|assumption) only [E0_G,SY,off,agreeKind,ldA,aggD,aField,Nat.reduceAdd,Nat.reduceLT,Nat.reduceBEq,TY_EvW1,b1,h3a] at hz
 rcases dP (s.id<1) with ⟨h4a,h4⟩|⟨h4a,h4⟩
 ·try simp (disch:=first|omega|assumption) only [E0_G,SY,off,agreeKind,Nat.reduceAdd,Nat.reduceLT,Nat.reduceBEq,h4a] at hz
  have hr:r77 s=1:=(if_neg h3).trans ((if_pos h4).trans (rfl))
  exact fin hz (by rw [hr]) g1
 try simp (disch:=first|omega|assumption) only [E0_G,SY,off,agreeKind,ldA,aggD,aField,Nat.reduceAdd,Nat.reduceLT,Nat.reduceBEq,TY_EvW1,b1,h4a] at hz
 rcases dP (1099511627776<s.id) with ⟨h5a,h5⟩|⟨h5a,h5⟩
 ·try simp (disch:=first|omega|assumption) only [E0_G,SY,off,agreeKind,Nat.reduceAdd,Nat.reduceLT,Nat.reduceBEq,h5a] at hz
  have hr:r77 s=1:=(if_neg h3).trans ((if_neg h4).trans ((if_pos h5).trans (rfl)))
  exact fin hz (by rw [hr]) g1
 obtain ⟨S6,k6,a6⟩:=c78 s.inLo s.inHi 0 1073741823  S1
 have l6:=a6.1
 have s6:E0.same S1 S6=true:=symEnv_same a6
 have v1_6:=(a6.2 S.next (by omega)).trans b1
 have g6:Agree S S6:=g1.trans a6
 try simp (disch:=first|omega|assumption) only [E0_G,SY,off,agreeKind,vals,ldA,rdCells,aggD,aField,Nat.reduceAdd,Nat.reduceLT,Nat.reduceBEq,TY_EvW1,b1,h5a,k6] at hz
 rcases dB ((r78 s.inLo s.inHi 0 1073741823)) with ⟨h7a,h7⟩|⟨h7a,h7⟩
 ·obtain ⟨S8,k8,a8⟩:=c78 s.outLo s.outHi 0 1073741823  S6
  have l8:=a8.1
  have s8:E0.same S6 S8=true:=symEnv_same a8
  have v1_8:=(a8.2 S.next (by omega)).trans v1_6
  have g8:Agree S S8:=g6.trans a8
  try simp (disch:=first|omega|assumption) only [E0_G,SY,off,agreeKind,vals,ldA,rdCells,aggD,aField,Nat.reduceAdd,Nat.reduceLT,Nat.reduceBEq,TY_EvW1,v1_6,h7a,k8] at hz
  rcases dB ((r78 s.outLo s.outHi 0 1073741823)) with ⟨h9a,h9⟩|⟨h9a,h9⟩
  ·obtain ⟨S10,k10,a10⟩:=c78 s.zLo s.zHi 0 43199  S8
   have l10:=a10.1
   have s10:E0.same S8 S10=true:=symEnv_same a10
   have v1_10:=(a10.2 S.next (by omega)).trans v1_8
   have g10:Agree S S10:=g8.trans a10
   try simp (disch:=first|omega|assumption) only [E0_G,SY,off,agreeKind,vals,ldA,rdCells,aggD,aField,Nat.reduceAdd,Nat.reduceLT,Nat.reduceBEq,TY_EvW1,v1_8,h9a,k10] at hz
   rcases dB ((r78 s.zLo s.zHi 0 43199)) with ⟨h11a,h11⟩|⟨h11a,h11⟩
   ·obtain ⟨S12,k12,a12⟩:=c78 s.eLo s.eHi 0 43199  S10
    have l12:=a12.1
    have s12:E0.same S10 S12=true:=symEnv_same a12
    have v1_12:=(a12.2 S.next (by omega)).trans v1_10
    have g12:Agree S S12:=g10.trans a12
    try simp (disch:=first|omega|assumption) only [E0_G,SY,off,agreeKind,vals,ldA,rdCells,aggD,aField,Nat.reduceAdd,Nat.reduceLT,Nat.reduceBEq,TY_EvW1,v1_10,h11a,k12] at hz
    rcases dB ((r78 s.eLo s.eHi 0 43199)) with ⟨h13a,h13⟩|⟨h13a,h13⟩
    ·obtain ⟨S14,k14,a14⟩:=c78 s.rLo s.rHi 900000 1100000  S12
     have l14:=a14.1
     have s14:E0.same S12 S14=true:=symEnv_same a14
     have v1_14:=(a14.2 S.next (by omega)).trans v1_12
     have g14:Agree S S14:=g12.trans a14
     try simp (disch:=first|omega|assumption) only [E0_G,SY,off,agreeKind,vals,ldA,rdCells,aggD,aField,Nat.reduceAdd,Nat.reduceLT,Nat.reduceBEq,TY_EvW1,v1_12,h13a,k14] at hz
     rcases dB ((r78 s.rLo s.rHi 900000 1100000)) with ⟨h15a,h15⟩|⟨h15a,h15⟩
     ·try simp (disch:=first|omega|assumption) only [E0_G,SY,off,agreeKind,ldA,aggD,aField,Nat.reduceAdd,Nat.reduceLT,Nat.reduceBEq,TY_EvW1,v1_14,h15a] at hz
      rcases dP (s.eLo<s.zLo) with ⟨h16a,h16⟩|⟨h16a,h16⟩
      ·try simp (disch:=first|omega|assumption) only [E0_G,SY,off,agreeKind,Nat.reduceAdd,Nat.reduceLT,Nat.reduceBEq,h16a] at hz
       have hr:r77 s=1:=(if_neg h3).trans ((if_neg h4).trans ((if_neg h5).trans ((if_pos h7).trans ((if_pos h9).trans ((if_pos h11).trans ((if_pos h13).trans ((if_pos h15).trans ((if_pos h16).trans (rfl)))))))))
       exact fin hz (by rw [hr]) g14
      try simp (disch:=first|omega|assumption) only [E0_G,SY,off,agreeKind,ldA,aggD,aField,Nat.reduceAdd,Nat.reduceLT,Nat.reduceBEq,TY_EvW1,v1_14,h16a] at hz
      rcases dP (s.eHi<s.zHi) with ⟨h17a,h17⟩|⟨h17a,h17⟩
      ·try simp (disch:=first|omega|assumption) only [E0_G,SY,off,agreeKind,Nat.reduceLT,Nat.reduceBEq,h17a] at hz
       have hr:r77 s=1:=(if_neg h3).trans ((if_neg h4).trans ((if_neg h5).trans ((if_pos h7).trans ((if_pos h9).trans ((if_pos h11).trans ((if_pos h13).trans ((if_pos h15).trans ((if_neg h16).trans ((if_pos h17).trans (rfl))))))))))
       exact fin hz (by rw [hr]) g14
      try simp (disch:=first|omega|assumption) only [E0_G,SY,off,agreeKind,Nat.reduceLT,h17a] at hz
      generalize hL18:Rec.loop _ _ _ _=L18 at hz
      obtain ⟨x18,t18,S18e,rfl,hQ18⟩:=loop_met hL18 (fun m t S'=>∃ (i:Nat),m+i=s.stops.length∧i≤s.stops.length∧t.get 1=some (.pointer (some ⟨S.next,0,none⟩))∧t.get 3=some (.int .i64 (i:Int))∧S'.heap.get S.next=some (.cells [.int .i64 s.id,.int .i64 s.inLo,.int .i64 s.inHi,.int .i64 s.outLo,.int .i64 s.outHi,.int .i64 s.zLo,.int .i64 s.zHi,.int .i64 s.eLo,.int .i64 s.eHi,.int .i64 s.rLo,.int .i64 s.rHi,v_s_stops] 26 0 true true)∧Agree S S'∧S14.next≤S'.next∧R77_0 s (s.stops.drop i) i=R77_0 s s.stops 0)
       (fun x t S'=>(x=.exit 0∧∃ (i:Nat),S'.heap.get S.next=some (.cells [.int .i64 s.id,.int .i64 s.inLo,.int .i64 s.inHi,.int .i64 s.outLo,.int .i64 s.outHi,.int .i64 s.zLo,.int .i64 s.zHi,.int .i64 s.eLo,.int .i64 s.eHi,.int .i64 s.rLo,.int .i64 s.rHi,v_s_stops] 26 0 true true)∧Agree S S'∧S14.next≤S'.next∧i≤s.stops.length∧R77_0 s s.stops 0=.inr ())∨(x=.ret∧∃ (r2:Int),t.get 2=some (.int .i64 r2)∧Agree S S'∧R77_0 s s.stops 0=.inl (r2))) (s.stops.length - 0) (by refine ⟨0,?_,?_,?_,?_,v1_14,g14,Nat.le_refl _,rfl⟩<;>first|(simp only [SY,eq_self,Nat.reduceBEq]<;>rfl)|omega|assumption|(simp; omega)|simp) (by
        rintro m t S18 ⟨i,hi18_0,hi18_1,g18_1,g18_3,bb18_1,ga18,gn18,hd18⟩
        refine .run fun z he=>?_
        have w19:=(hv_s_stops.agree ga18).len (P:=Tryz.prog) (t:=24) Tryz.underlying24
        try simp (disch:=first|omega|assumption) only [E0_G,SY,off,agreeKind,ldA,aggD,aField,Nat.reduceAdd,Nat.reduceLT,Nat.reduceBEq,TY_EvW1,g18_1,g18_3,bb18_1,w2] at he
        rcases dP ((i:Int)<(s.stops.length:Int)) with ⟨h20a,h20⟩|⟨h20a,h20⟩
        ·have hx18:s.stops[i]?=some (s.stops[i]'(by first|omega|simp; omega)):=List.getElem?_eq_getElem _
         generalize s.stops[i]'_=x18 at hx18
         obtain ⟨id21,of21,cc21,ty21,wr21,ex21,i21,j21,l21,q21⟩:=(hv_s_stops).at (P:=Tryz.prog) (t:=24) Tryz.underlying24 tz117 hx18
         have j21:=(ga18.2 id21 l21).trans j21
         have m21_0:cc21[of21]?=some (.int .i64 x18.at_):=q21 0 (show 0<3 by decide)
         have m21_1:cc21[of21+1]?=some (.int .i64 x18.lo):=q21 1 (show 1<3 by decide)
         have m21_2:cc21[of21+2]?=some (.int .i64 x18.hi):=q21 2 (show 2<3 by decide)
         obtain ⟨S22,e22,n22,b22,a22⟩:=push_open S18 (.cells [.int .i64 0,.int .i64 0,.int .i64 0] 117 0 true true)
         have v1_22:=(a22.2 S.next (by omega)).trans bb18_1
         have g22:Agree S S22:=ga18.trans a22
         have s22:E0.same S18 S22=true:=symEnv_same a22
         obtain ⟨S23,k23,n23,b23,q23⟩:=st_at (o:=0) (c':=[.int .i64 x18.at_,.int .i64 x18.lo,.int .i64 x18.hi]) (v:=.agg #[.int .i64 x18.at_,.int .i64 x18.lo,.int .i64 x18.hi]) tz117 b22 rfl rfl (show 0+3≤3 by decide) rfl
         have v1_23:=(q23 S.next (by omega)).trans v1_22
         have g23:Agree S S23:=⟨by have:=(g22).1; omega,fun id hid=>(q23 id (by have:=(g22).1; omega)).trans ((g22).2 id hid)⟩
         try simp (disch:=first|omega|assumption) only [E0_G,SY,off,agreeKind,allocV,ldA,rdCells,aggD,aField,Nat.reduceAdd,Nat.reduceLT,Nat.reduceBEq,TY_EvW1,g18_1,g18_3,bb18_1,h20a,i21,j21,m21_0,m21_1,m21_2,e22,k23] at he
         rw [code_draws _ _ _ (by kernel_rfl)] at he
         generalize hnd24:needy _=nd24 at he
         try simp (disch:=first|omega|assumption) only [E0_G,SY,agreeKind,ldA,aggD,aField,Nat.reduceAdd,Nat.reduceLT,Nat.reduceBEq,TY_EvW1,g18_1,v1_23,b23,store_refl E0_same] at he
         rcases dP (x18.at_<(IntKind.i64.wrap (s.zHi+1))) with ⟨h25a,h25⟩|⟨h25a,h25⟩
         ·try simp (disch:=first|omega|assumption) only [E0_G,SY,off,agreeKind,Nat.reduceAdd,Nat.reduceLT,Nat.reduceBEq,store_refl E0_same,h25a] at he
          rw [drop_cons' hx18] at hd18
          have hf:=(show _=(.inl 1:Sum (Int) (Unit)) from (if_pos h25).trans (rfl)).symm.trans hd18
          refine .ret he (.inr ⟨rfl,⟨1,?_,g23,hf.symm⟩⟩)<;>first|(simp only [SY,eq_self,Nat.reduceBEq]<;>rfl)|omega|assumption|(simp; omega)|simp
         try simp (disch:=first|omega|assumption) only [E0_G,SY,agreeKind,ldA,aggD,aField,Nat.reduceAdd,Nat.reduceLT,Nat.reduceBEq,TY_EvW1,g18_1,v1_23,b23,store_refl E0_same,h25a] at he
         rcases dP ((IntKind.i64.wrap (s.eLo - 1))<x18.at_) with ⟨h26a,h26⟩|⟨h26a,h26⟩
         ·try simp (disch:=first|omega|assumption) only [E0_G,SY,off,agreeKind,Nat.reduceAdd,Nat.reduceLT,Nat.reduceBEq,store_refl E0_same,h26a] at he
          rw [drop_cons' hx18] at hd18
          have hf:=(show _=(.inl 1:Sum (Int) (Unit)) from (if_neg h25).trans ((if_pos h26).trans (rfl))).symm.trans hd18
          refine .ret he (.inr ⟨rfl,⟨1,?_,g23,hf.symm⟩⟩)<;>first|(simp only [SY,eq_self,Nat.reduceBEq]<;>rfl)|omega|assumption|(simp; omega)|simp
         obtain ⟨S27,k27,a27⟩:=c78 x18.lo x18.hi 0 36000  S23
         have l27:=a27.1
         have s27:E0.same S23 S27=true:=symEnv_same a27
         have v1_27:=(a27.2 S.next (by omega)).trans v1_23
         have v22_27:=(a27.2 S18.next (by omega)).trans b23
         have g27:Agree S S27:=g23.trans a27
         try simp (disch:=first|omega|assumption) only [E0_G,SY,agreeKind,vals,ldA,rdCells,aggD,aField,Nat.reduceAdd,Nat.reduceLT,Nat.reduceBEq,TY_EvW1,b23,store_agree,store_refl E0_same,h26a,k27] at he
         rcases dB ((r78 x18.lo x18.hi 0 36000)) with ⟨h28a,h28⟩|⟨h28a,h28⟩
         ·try simp (disch:=first|omega|assumption) only [E0_G,SY,agreeKind,Nat.reduceAdd,Nat.reduceLT,Nat.reduceBEq,g18_3,store_refl E0_same,h28a] at he
          rcases dP (0<(i:Int)) with ⟨h29a,h29⟩|⟨h29a,h29⟩
          ·have w30:IntKind.i64.wrap ((i:Int) - 1)=((i - 1:Nat):Int):=by rw [IntWalk.i64_in]<;>omega
           have hx31:s.stops[(i - 1)]?=some (lget s.stops (i - 1)):=lget_some (by first|omega|simp; omega)
           obtain ⟨id31,of31,cc31,ty31,wr31,ex31,i31,j31,l31,q31⟩:=(hv_s_stops).at (P:=Tryz.prog) (t:=24) Tryz.underlying24 tz117 hx31
           have j31:=(g27.2 id31 l31).trans j31
           have m31_0:cc31[of31]?=some (.int .i64 ((lget s.stops (i - 1)).at_)):=q31 0 (show 0<3 by decide)
           have m31_1:cc31[of31+1]?=some (.int .i64 ((lget s.stops (i - 1)).lo)):=q31 1 (show 1<3 by decide)
           have m31_2:cc31[of31+2]?=some (.int .i64 ((lget s.stops (i - 1)).hi)):=q31 2 (show 2<3 by decide)
           try simp (disch:=first|omega|assumption) only [E0_G,SY,agreeKind,ldA,aggD,aField,Nat.reduceAdd,Nat.reduceLT,Nat.reduceBEq,TY_EvW1,g18_1,g18_3,store_refl E0_same,v1_27,v22_27,h29a,w30,i31,j31,m31_0] at he
           rcases dP (x18.at_≤((lget s.stops (i - 1)).at_)) with ⟨h32a,h32⟩|⟨h32a,h32⟩
           ·try simp (disch:=first|omega|assumption) only [E0_G,SY,off,agreeKind,Nat.reduceLT,store_refl E0_same,h32a] at he
            rw [drop_cons' hx18] at hd18
            have hf:=(show _=(.inl 1:Sum (Int) (Unit)) from (if_neg h25).trans ((if_neg h26).trans ((if_pos h28).trans ((if_pos h29).trans ((if_pos h32).trans (rfl)))))).symm.trans hd18
            refine .ret he (.inr ⟨rfl,⟨1,?_,g27,hf.symm⟩⟩)<;>first|(simp only [SY,eq_self,Nat.reduceBEq]<;>rfl)|omega|assumption|(simp; omega)|simp
           have w33:IntKind.i64.wrap ((i:Int)+1)=((i+1:Nat):Int):=by rw [IntWalk.i64_in]<;>omega
           try simp (disch:=first|omega|assumption) only [E0_G,SY,off,agreeKind,Nat.reduceAdd,Nat.reduceLT,Nat.reduceBEq,g18_3,store_refl E0_same,h32a,w33] at he
           rw [drop_cons' hx18] at hd18
           have hf:=(show _=(R77_0 s (s.stops.drop (i+1)) (i+1):Sum (Int) (Unit)) from (if_neg h25).trans ((if_neg h26).trans ((if_pos h28).trans ((if_pos h29).trans ((if_neg h32).trans (rfl)))))).symm.trans hd18
           refine .next he (m - 1) (by omega) ⟨(i+1),?_,?_,?_,?_,v1_27,g27,by omega,hf⟩<;>first|(simp only [SY,eq_self,Nat.reduceBEq,g18_1,g18_3]<;>rfl)|omega|assumption|(simp; omega)|simp
          have w34:IntKind.i64.wrap ((i:Int)+1)=((i+1:Nat):Int):=by rw [IntWalk.i64_in]<;>omega
          try simp (disch:=first|omega|assumption) only [E0_G,SY,off,agreeKind,Nat.reduceAdd,Nat.reduceLT,Nat.reduceBEq,g18_3,store_refl E0_same,h29a,w34] at he
          rw [drop_cons' hx18] at hd18
          have hf:=(show _=(R77_0 s (s.stops.drop (i+1)) (i+1):Sum (Int) (Unit)) from (if_neg h25).trans ((if_neg h26).trans ((if_pos h28).trans ((if_neg h29).trans (rfl))))).symm.trans hd18
          refine .next he (m - 1) (by omega) ⟨(i+1),?_,?_,?_,?_,v1_27,g27,by omega,hf⟩<;>first|(simp only [SY,eq_self,Nat.reduceBEq,g18_1,g18_3]<;>rfl)|omega|assumption|(simp; omega)|simp
         try simp (disch:=first|omega|assumption) only [E0_G,SY,off,agreeKind,Nat.reduceAdd,Nat.reduceLT,Nat.reduceBEq,store_refl E0_same,h28a] at he
         rw [drop_cons' hx18] at hd18
         have hf:=(show _=(.inl 1:Sum (Int) (Unit)) from (if_neg h25).trans ((if_neg h26).trans ((if_neg h28).trans (rfl)))).symm.trans hd18
         refine .ret he (.inr ⟨rfl,⟨1,?_,g27,hf.symm⟩⟩)<;>first|(simp only [SY,eq_self,Nat.reduceBEq]<;>rfl)|omega|assumption|(simp; omega)|simp
        try simp (disch:=first|omega|assumption) only [SY,h20a] at he
        rw [List.drop_eq_nil_of_le (show s.stops.length≤i by omega)] at hd18
        have hf:=(show _=(.inr ():Sum (Int) (Unit)) from rfl).symm.trans hd18
        refine .exit he (.inl ⟨rfl,⟨i,bb18_1,ga18,by omega,?_,hf.symm⟩⟩)<;>first|(simp only [SY,setArgs,off,agreeKind,partVals,vals,allocV,boxed,ldA,rdCells,oneB,aggD,aField,aFieldV,aExtract,eq_self,ne_eq,if_true,if_false,not_false_eq_true,Nat.reduceAdd,Nat.reduceSub,Nat.reduceMul,Nat.reduceLT,Nat.reduceEqDiff,Nat.reduceBEq,reduceIte,Int.reduceEq,Int.reduceLT,Int.reduceLE,reduceCtorEq,g18_1,g18_3]<;>rfl)|omega|assumption|(simp; omega)|simp)
      rcases hQ18 with ⟨rfl,hQ18⟩|⟨rfl,hQ18⟩
      ·obtain ⟨i,be18_1,ge18,gm18,hj18_0,hR18⟩:=hQ18
       try simp (disch:=first|omega|assumption) only [E0_G,SY,off,agreeKind,eq_self,if_true,Nat.reduceLT,Nat.reduceBEq] at hz
       have hr:r77 s=0:=(if_neg h3).trans ((if_neg h4).trans ((if_neg h5).trans ((if_pos h7).trans ((if_pos h9).trans ((if_pos h11).trans ((if_pos h13).trans ((if_pos h15).trans ((if_neg h16).trans ((if_neg h17).trans ((onSum_inr hR18).trans (rfl)))))))))))
       exact fin hz (by rw [hr]) ge18
      obtain ⟨r2,ge18_2,ge18,hR18⟩:=hQ18
      try simp (disch:=first|omega|assumption) only [SY,ge18_2] at hz
      have hr:r77 s=r2:=(if_neg h3).trans ((if_neg h4).trans ((if_neg h5).trans ((if_pos h7).trans ((if_pos h9).trans ((if_pos h11).trans ((if_pos h13).trans ((if_pos h15).trans ((if_neg h16).trans ((if_neg h17).trans ((onSum_inl hR18).trans (rfl)))))))))))
      exact fin hz (by rw [hr]) ge18
     try simp (disch:=first|omega|assumption) only [E0_G,SY,off,agreeKind,Nat.reduceLT,Nat.reduceBEq,h15a] at hz
     have hr:r77 s=1:=(if_neg h3).trans ((if_neg h4).trans ((if_neg h5).trans ((if_pos h7).trans ((if_pos h9).trans ((if_pos h11).trans ((if_pos h13).trans ((if_neg h15).trans (rfl))))))))
     exact fin hz (by rw [hr]) g14
    try simp (disch:=first|omega|assumption) only [E0_G,SY,off,agreeKind,Nat.reduceAdd,Nat.reduceLT,Nat.reduceBEq,h13a] at hz
    have hr:r77 s=1:=(if_neg h3).trans ((if_neg h4).trans ((if_neg h5).trans ((if_pos h7).trans ((if_pos h9).trans ((if_pos h11).trans ((if_neg h13).trans (rfl)))))))
    exact fin hz (by rw [hr]) g12
   try simp (disch:=first|omega|assumption) only [E0_G,SY,off,agreeKind,Nat.reduceAdd,Nat.reduceLT,Nat.reduceBEq,h11a] at hz
   have hr:r77 s=1:=(if_neg h3).trans ((if_neg h4).trans ((if_neg h5).trans ((if_pos h7).trans ((if_pos h9).trans ((if_neg h11).trans (rfl))))))
   exact fin hz (by rw [hr]) g10
  try simp (disch:=first|omega|assumption) only [E0_G,SY,off,agreeKind,Nat.reduceAdd,Nat.reduceLT,Nat.reduceBEq,h9a] at hz
  have hr:r77 s=1:=(if_neg h3).trans ((if_neg h4).trans ((if_neg h5).trans ((if_pos h7).trans ((if_neg h9).trans (rfl)))))
  exact fin hz (by rw [hr]) g8
 try simp (disch:=first|omega|assumption) only [E0_G,SY,off,agreeKind,Nat.reduceAdd,Nat.reduceLT,Nat.reduceBEq,h7a] at hz
 have hr:r77 s=1:=(if_neg h3).trans ((if_neg h4).trans ((if_neg h5).trans ((if_neg h7).trans (rfl))))
 exact fin hz (by rw [hr]) g6
def R79_0 (l:List Sk) (id:Int)  : List Sk→Nat→Sum (Int) (Unit)
 | [],i=>.inr ()
 | x1 :: l',i=>(if x1.id=id then .inl (i:Int) else R79_0 l id l' (i+1))
def r79 (l:List Sk) (id:Int):Int:=(onSum (R79_0 l id l 0) (fun (r4:Int)=>r4) (fun (_:Unit) => -1))
set_option maxHeartbeats 2000000 in
theorem c79 (l:List Sk) (id:Int) (hl:l.length≤100) (S:AS) (v_l:Value) (hv_l:Lst S v_l l) :
  ∃ S',(evL Tryz.prog E0).call 79 #[v_l,.int .i64 id] S=some (.int .i64 (r79 l id),S')∧Agree S S':=by
 generalize hz:(evL Tryz.prog E0).call 79 _ _=z
 rw [L_call,evCall_said rfl Tryz.func79 rfl (by decide) Tryz.ntmps79 Tryz.results79] at hz
 try simp (disch:=first|omega|assumption) only [E0_G,SY,setArgs,off,agreeKind,Nat.reduceAdd,Nat.reduceSub,Nat.reduceLT,] at hz
 generalize hL1:Rec.loop _ _ _ _=L1 at hz
 obtain ⟨x1,t1,S1e,rfl,hQ1⟩:=loop_met hL1 (fun m t S'=>∃ (i:Nat),m+i=l.length∧i≤l.length∧t.get 0=some (v_l)∧t.get 1=some (.int .i64 id)∧t.get 5=some (.int .i64 (i:Int))∧Agree S S'∧S.next≤S'.next∧R79_0 l id (l.drop i) i=R79_0 l id l 0)
  (fun x t S'=>(x=.exit 0∧∃ (i:Nat),Agree S S'∧S.next≤S'.next∧i≤l.length∧R79_0 l id l 0=.inr ())∨(x=.ret∧∃ (r4:Int),t.get 4=some (.int .i64 r4)∧Agree S S'∧R79_0 l id l 0=.inl (r4))) (l.length - 0) (by refine ⟨0,?_,?_,?_,?_,?_,(Agree.refl S),Nat.le_refl _,rfl⟩<;>first|(simp only [SY,eq_self,Nat.reduceBEq]<;>rfl)|omega|assumption|(simp; omega)|simp) (by
   rintro m t S1 ⟨i,hi1_0,hi1_1,g1_0,g1_1,g1_5,ga1,gn1,hd1⟩
   refine .run fun z he=>?_
   have w2:=(hv_l.agree ga1).len (P:=Tryz.prog) (t:=27) Tryz.underlying27
   try simp (disch:=first|omega|assumption) only [E0_G,SY,off,agreeKind,Nat.reduceAdd,Nat.reduceLT,Nat.reduceBEq,g1_0,g1_5,w2] at he
   rcases dP ((i:Int)<(l.length:Int)) with ⟨h3a,h3⟩|⟨h3a,h3⟩
   ·have hx1:l[i]?=some (l[i]'(by first|omega|simp; omega)):=List.getElem?_eq_getElem _
    generalize l[i]'_=x1 at hx1
    obtain ⟨id4,of4,cc4,ty4,wr4,ex4,i4,j4,l4,q4⟩:=(hv_l).at (P:=Tryz.prog) (t:=27) Tryz.underlying27 tz112 hx1
    have j4:=(ga1.2 id4 l4).trans j4
    have m4_0:cc4[of4]?=some (.int .i64 x1.id):=q4 0 (show 0<3 by decide)
    have m4_1:cc4[of4+1]?=some (.int .i64 x1.lo):=q4 1 (show 1<3 by decide)
    have m4_2:cc4[of4+2]?=some (.int .i64 x1.hi):=q4 2 (show 2<3 by decide)
    try simp (disch:=first|omega|assumption) only [E0_G,SY,off,agreeKind,ldA,aggD,aField,Nat.reduceAdd,Nat.reduceLT,Nat.reduceBEq,TY_EvW1,g1_0,g1_1,g1_5,h3a,i4,j4,m4_0] at he
    rcases dP (x1.id=id) with ⟨h5a,h5⟩|⟨h5a,h5⟩
    ·try simp (disch:=first|omega|assumption) only [E0_G,SY,off,agreeKind,Nat.reduceAdd,Nat.reduceLT,Nat.reduceBEq,g1_5,h5a] at he
     rw [drop_cons' hx1] at hd1
     have hf:=(show _=(.inl (i:Int):Sum (Int) (Unit)) from (if_pos h5).trans (rfl)).symm.trans hd1
     refine .ret he (.inr ⟨rfl,⟨(i:Int),?_,ga1,hf.symm⟩⟩)<;>first|(simp only [SY,eq_self,Nat.reduceBEq]<;>rfl)|omega|assumption|(simp; omega)|simp
    have w6:IntKind.i64.wrap ((i:Int)+1)=((i+1:Nat):Int):=by rw [IntWalk.i64_in]<;>omega
    try simp (disch:=first|omega|assumption) only [E0_G,SY,off,agreeKind,Nat.reduceAdd,Nat.reduceLT,Nat.reduceBEq,g1_5,h5a,w6] at he
    rw [drop_cons' hx1] at hd1
    have hf:=(show _=(R79_0 l id (l.drop (i+1)) (i+1):Sum (Int) (Unit)) from (if_neg h5).trans (rfl)).symm.trans hd1
    refine .next he (m - 1) (by omega) ⟨(i+1),?_,?_,?_,?_,?_,ga1,by omega,hf⟩<;>first|(simp only [SY,eq_self,Nat.reduceBEq,g1_0,g1_1,g1_5]<;>rfl)|omega|assumption|(simp; omega)|simp
   try simp (disch:=first|omega|assumption) only [SY,h3a] at he
   rw [List.drop_eq_nil_of_le (show l.length≤i by omega)] at hd1
   have hf:=(show _=(.inr ():Sum (Int) (Unit)) from rfl).symm.trans hd1
   refine .exit he (.inl ⟨rfl,⟨i,ga1,by omega,?_,hf.symm⟩⟩)<;>first|(simp only [SY,setArgs,off,agreeKind,partVals,vals,allocV,boxed,ldA,rdCells,oneB,aggD,aField,aFieldV,aExtract,eq_self,ne_eq,if_true,if_false,not_false_eq_true,Nat.reduceAdd,Nat.reduceSub,Nat.reduceMul,Nat.reduceLT,Nat.reduceEqDiff,Nat.reduceBEq,reduceIte,Int.reduceEq,Int.reduceLT,Int.reduceLE,reduceCtorEq,g1_0,g1_1,g1_5]<;>rfl)|omega|assumption|(simp; omega)|simp)
 rcases hQ1 with ⟨rfl,hQ1⟩|⟨rfl,hQ1⟩
 ·obtain ⟨i,ge1,gm1,hj1_0,hR1⟩:=hQ1
  try simp (disch:=first|omega|assumption) only [E0_G,SY,off,agreeKind,eq_self,if_true,Nat.reduceLT,Nat.reduceBEq,] at hz
  have hr:r79 l id = -1:=(onSum_inr hR1).trans (rfl)
  exact fin hz (by rw [hr]) ge1
 obtain ⟨r4,ge1_4,ge1,hR1⟩:=hQ1
 try simp (disch:=first|omega|assumption) only [SY,ge1_4] at hz
 have hr:r79 l id=r4:=(onSum_inl hR1).trans (rfl)
 exact fin hz (by rw [hr]) ge1
def R21_0 (r:Rc)  : List Sk→Nat→Sum (Int) (Unit)
 | [],i=>.inr ()
 | x8 :: l',i=>(if x8.id<1 then .inl 1 else (if 1099511627776<x8.id then .inl 1 else (if (r78 x8.lo x8.hi r.ses.zLo r.ses.eHi)=true then (if (r79 (r.strikes:List Sk) x8.id)<(i:Int) then .inl 6 else R21_0 r l' (i+1)) else .inl 1)))
def R21_1 (r:Rc)  : List Sg→Sum (Int) (Unit)
 | []=>.inr ()
 | x22 :: l'=>(if (r78 x22.lo x22.hi 0 1073741823)=true then (if (r79 (r.strikes:List Sk) x22.strike)<0 then .inl 5 else R21_1 r l') else .inl 1)
def r21 (r:Rc):Int:=(if (r77 r.ses)=0 then (if 12<(r.strikes.length:Int) then 2 else (if 12<(r.sights.length:Int) then 2 else (onSum (R21_0 r r.strikes 0) (fun (r2:Int)=>r2) (fun (_:Unit)=>(onSum (R21_1 r r.sights) (fun (r2:Int)=>r2) (fun (_:Unit)=>0)))))) else (r77 r.ses))
set_option maxHeartbeats 2000000 in
theorem c21 (r:Rc) (hp:r.ses.stops.length≤12) (hs:r.strikes.length≤20) (hg:r.sights.length≤20) (S:AS) (v_r_ses_stops:Value) (hv_r_ses_stops:Lst S v_r_ses_stops r.ses.stops) (v_r_strikes:Value) (hv_r_strikes:Lst S v_r_strikes r.strikes) (v_r_sights:Value) (hv_r_sights:Lst S v_r_sights r.sights) :
  ∃ S',(evL Tryz.prog E0).call 21 #[.agg #[.int .i64 r.ses.id,.int .i64 r.ses.inLo,.int .i64 r.ses.inHi,.int .i64 r.ses.outLo,.int .i64 r.ses.outHi,.int .i64 r.ses.zLo,.int .i64 r.ses.zHi,.int .i64 r.ses.eLo,.int .i64 r.ses.eHi,.int .i64 r.ses.rLo,.int .i64 r.ses.rHi,v_r_ses_stops,v_r_strikes,v_r_sights]] S=some (.int .i64 (r21 r),S')∧Agree S S':=by
 generalize hz:(evL Tryz.prog E0).call 21 _ _=z
 rw [L_call,evCall_said rfl Tryz.func21 rfl (by decide) Tryz.ntmps21 Tryz.results21] at hz
 obtain ⟨S1,e1,n1,b1,a1⟩:=push_open S (.cells [.int .i64 r.ses.id,.int .i64 r.ses.inLo,.int .i64 r.ses.inHi,.int .i64 r.ses.outLo,.int .i64 r.ses.outHi,.int .i64 r.ses.zLo,.int .i64 r.ses.zHi,.int .i64 r.ses.eLo,.int .i64 r.ses.eHi,.int .i64 r.ses.rLo,.int .i64 r.ses.rHi,v_r_ses_stops,v_r_strikes,v_r_sights] 30 0 true true)
 have g1:Agree S S1:=a1
 have s1:E0.same S S1=true:=symEnv_same a1
 obtain ⟨S2,k2,a2⟩:=c77 r.ses (by first|omega|assumption) S1 (v_r_ses_stops) (hv_r_ses_stops.agree g1)
 have l2:=a2.1
 have s2:E0.same S1 S2=true:=symEnv_same a2
 have v1_2:=(a2.2 S.next (by omega)).trans b1
 have g2:Agree S S2:=g1.trans a2
 try simp (disch:=first|omega|assumption) only [E0_G,SY,setArgs,off,agreeKind,vals,boxed,ldA,rdCells,aggD,aField,Nat.reduceAdd,Nat.reduceSub,Nat.reduceLT,Nat.reduceBEq,TY_EvW1,e1,b1,k2] at hz
 rcases dP ((r77 r.ses)=0) with ⟨h3a,h3⟩|⟨h3a,h3⟩
 ·have w4:=(hv_r_strikes.agree g2).len (P:=Tryz.prog) (t:=27) Tryz.underlying27
  try simp (disch:=first|omega|assumption) only [E0_G,SY,off,agreeKind,ldA,aggD,aField,Nat.reduceAdd,Nat.reduceLT,Nat.reduceBEq,TY_EvW1,v1_2,h3a,w4] at hz
  rcases dP (12<(r.strikes.length:Int)) with ⟨h5a,h5⟩|⟨h5a,h5⟩
  ·try simp (disch:=first|omega|assumption) only [E0_G,SY,off,agreeKind,Nat.reduceAdd,Nat.reduceLT,Nat.reduceBEq,h5a] at hz
   have hr:r21 r=2:=(if_pos h3).trans ((if_pos h5).trans (rfl))
   exact fin hz (by rw [hr]) g2
  have w6:=(hv_r_sights.agree g2).len (P:=Tryz.prog) (t:=28) Tryz.underlying28
  try simp (disch:=first|omega|assumption) only [E0_G,SY,off,agreeKind,ldA,aggD,aField,Nat.reduceAdd,Nat.reduceLT,Nat.reduceBEq,TY_EvW1,v1_2,h5a,w6] at hz
  rcases dP (12<(r.sights.length:Int)) with ⟨h7a,h7⟩|⟨h7a,h7⟩
  ·try simp (disch:=first|omega|assumption) only [E0_G,SY,off,agreeKind,Nat.reduceLT,Nat.reduceBEq,h7a] at hz
   have hr:r21 r=2:=(if_pos h3).trans ((if_neg h5).trans ((if_pos h7).trans (rfl)))
   exact fin hz (by rw [hr]) g2
  try simp (disch:=first|omega|assumption) only [E0_G,SY,off,agreeKind,Nat.reduceLT,h7a] at hz
  generalize hL8:Rec.loop _ _ _ _=L8 at hz
  obtain ⟨x8,t8,S8e,rfl,hQ8⟩:=loop_met hL8 (fun m t S'=>∃ (i:Nat),m+i=r.strikes.length∧i≤r.strikes.length∧t.get 1=some (.pointer (some ⟨S.next,0,none⟩))∧t.get 4=some (.int .i64 (i:Int))∧S'.heap.get S.next=some (.cells [.int .i64 r.ses.id,.int .i64 r.ses.inLo,.int .i64 r.ses.inHi,.int .i64 r.ses.outLo,.int .i64 r.ses.outHi,.int .i64 r.ses.zLo,.int .i64 r.ses.zHi,.int .i64 r.ses.eLo,.int .i64 r.ses.eHi,.int .i64 r.ses.rLo,.int .i64 r.ses.rHi,v_r_ses_stops,v_r_strikes,v_r_sights] 30 0 true true)∧Agree S S'∧S2.next≤S'.next∧R21_0 r (r.strikes.drop i) i=R21_0 r r.strikes 0)
   (fun x t S'=>(x=.exit 0∧∃ (i:Nat),t.get 1=some (.pointer (some ⟨S.next,0,none⟩))∧S'.heap.get S.next=some (.cells [.int .i64 r.ses.id,.int .i64 r.ses.inLo,.int .i64 r.ses.inHi,.int .i64 r.ses.outLo,.int .i64 r.ses.outHi,.int .i64 r.ses.zLo,.int .i64 r.ses.zHi,.int .i64 r.ses.eLo,.int .i64 r.ses.eHi,.int .i64 r.ses.rLo,.int .i64 r.ses.rHi,v_r_ses_stops,v_r_strikes,v_r_sights] 30 0 true true)∧Agree S S'∧S2.next≤S'.next∧i≤r.strikes.length∧R21_0 r r.strikes 0=.inr ())∨(x=.ret∧∃ (r2:Int),t.get 2=some (.int .i64 r2)∧Agree S S'∧R21_0 r r.strikes 0=.inl (r2))) (r.strikes.length - 0) (by refine ⟨0,?_,?_,?_,?_,v1_2,g2,Nat.le_refl _,rfl⟩<;>first|(simp only [SY,eq_self,Nat.reduceBEq]<;>rfl)|omega|assumption|(simp; omega)|simp) (by
    rintro m t S8 ⟨i,hi8_0,hi8_1,g8_1,g8_4,bb8_1,ga8,gn8,hd8⟩
    refine .run fun z he=>?_
    have w9:=(hv_r_strikes.agree ga8).len (P:=Tryz.prog) (t:=27) Tryz.underlying27
    try simp (disch:=first|omega|assumption) only [E0_G,SY,off,agreeKind,ldA,aggD,aField,Nat.reduceAdd,Nat.reduceLT,Nat.reduceBEq,TY_EvW1,g8_1,g8_4,bb8_1,w4] at he
    rcases dP ((i:Int)<(r.strikes.length:Int)) with ⟨h10a,h10⟩|⟨h10a,h10⟩
    ·have hx8:r.strikes[i]?=some (r.strikes[i]'(by first|omega|simp; omega)):=List.getElem?_eq_getElem _
     generalize r.strikes[i]'_=x8 at hx8
     obtain ⟨id11,of11,cc11,ty11,wr11,ex11,i11,j11,l11,q11⟩:=(hv_r_strikes).at (P:=Tryz.prog) (t:=27) Tryz.underlying27 tz112 hx8
     have j11:=(ga8.2 id11 l11).trans j11
     have m11_0:cc11[of11]?=some (.int .i64 x8.id):=q11 0 (show 0<3 by decide)
     have m11_1:cc11[of11+1]?=some (.int .i64 x8.lo):=q11 1 (show 1<3 by decide)
     have m11_2:cc11[of11+2]?=some (.int .i64 x8.hi):=q11 2 (show 2<3 by decide)
     obtain ⟨S12,e12,n12,b12,a12⟩:=push_open S8 (.cells [.int .i64 0,.int .i64 0,.int .i64 0] 112 0 true true)
     have v1_12:=(a12.2 S.next (by omega)).trans bb8_1
     have g12:Agree S S12:=ga8.trans a12
     have s12:E0.same S8 S12=true:=symEnv_same a12
     obtain ⟨S13,k13,n13,b13,q13⟩:=st_at (o:=0) (c':=[.int .i64 x8.id,.int .i64 x8.lo,.int .i64 x8.hi]) (v:=.agg #[.int .i64 x8.id,.int .i64 x8.lo,.int .i64 x8.hi]) tz112 b12 rfl rfl (show 0+3≤3 by decide) rfl
     have v1_13:=(q13 S.next (by omega)).trans v1_12
     have g13:Agree S S13:=⟨by have:=(g12).1; omega,fun id hid=>(q13 id (by have:=(g12).1; omega)).trans ((g12).2 id hid)⟩
     try simp (disch:=first|omega|assumption) only [E0_G,SY,off,agreeKind,allocV,ldA,rdCells,aggD,aField,Nat.reduceAdd,Nat.reduceLT,Nat.reduceBEq,TY_EvW1,g8_1,g8_4,bb8_1,h10a,i11,j11,m11_0,m11_1,m11_2,e12,k13,b13] at he
     rcases dP (x8.id<1) with ⟨h14a,h14⟩|⟨h14a,h14⟩
     ·try simp (disch:=first|omega|assumption) only [E0_G,SY,off,agreeKind,Nat.reduceAdd,Nat.reduceLT,Nat.reduceBEq,h14a] at he
      rw [drop_cons' hx8] at hd8
      have hf:=(show _=(.inl 1:Sum (Int) (Unit)) from (if_pos h14).trans (rfl)).symm.trans hd8
      refine .ret he (.inr ⟨rfl,⟨1,?_,g13,hf.symm⟩⟩)<;>first|(simp only [SY,eq_self,Nat.reduceBEq]<;>rfl)|omega|assumption|(simp; omega)|simp
     try simp (disch:=first|omega|assumption) only [E0_G,SY,off,agreeKind,ldA,aggD,aField,Nat.reduceAdd,Nat.reduceLT,Nat.reduceBEq,TY_EvW1,b13,h14a] at he
     rcases dP (1099511627776<x8.id) with ⟨h15a,h15⟩|⟨h15a,h15⟩
     ·try simp (disch:=first|omega|assumption) only [E0_G,SY,off,agreeKind,Nat.reduceAdd,Nat.reduceLT,Nat.reduceBEq,h15a] at he
      rw [drop_cons' hx8] at hd8
      have hf:=(show _=(.inl 1:Sum (Int) (Unit)) from (if_neg h14).trans ((if_pos h15).trans (rfl))).symm.trans hd8
      refine .ret he (.inr ⟨rfl,⟨1,?_,g13,hf.symm⟩⟩)<;>first|(simp only [SY,eq_self,Nat.reduceBEq]<;>rfl)|omega|assumption|(simp; omega)|simp
     obtain ⟨S16,k16,a16⟩:=c78 x8.lo x8.hi r.ses.zLo r.ses.eHi  S13
     have l16:=a16.1
     have s16:E0.same S13 S16=true:=symEnv_same a16
     have v1_16:=(a16.2 S.next (by omega)).trans v1_13
     have v12_16:=(a16.2 S8.next (by omega)).trans b13
     have g16:Agree S S16:=g13.trans a16
     try simp (disch:=first|omega|assumption) only [E0_G,SY,off,agreeKind,vals,ldA,rdCells,aggD,aField,Nat.reduceAdd,Nat.reduceLT,Nat.reduceBEq,TY_EvW1,g8_1,v1_13,b13,h15a,k16] at he
     rcases dB ((r78 x8.lo x8.hi r.ses.zLo r.ses.eHi)) with ⟨h17a,h17⟩|⟨h17a,h17⟩
     ·obtain ⟨S18,k18,a18⟩:=c79 (r.strikes:List Sk) x8.id (by first|omega|assumption) S16 (v_r_strikes) (hv_r_strikes.agree g16)
      have l18:=a18.1
      have s18:E0.same S16 S18=true:=symEnv_same a18
      have v1_18:=(a18.2 S.next (by omega)).trans v1_16
      have g18:Agree S S18:=g16.trans a18
      try simp (disch:=first|omega|assumption) only [E0_G,SY,off,agreeKind,vals,ldA,aggD,aField,Nat.reduceAdd,Nat.reduceLT,Nat.reduceBEq,TY_EvW1,g8_1,g8_4,v1_16,v12_16,h17a,k18] at he
      rcases dP ((r79 (r.strikes:List Sk) x8.id)<(i:Int)) with ⟨h19a,h19⟩|⟨h19a,h19⟩
      ·try simp (disch:=first|omega|assumption) only [E0_G,SY,off,agreeKind,Nat.reduceLT,h19a] at he
       rw [drop_cons' hx8] at hd8
       have hf:=(show _=(.inl 6:Sum (Int) (Unit)) from (if_neg h14).trans ((if_neg h15).trans ((if_pos h17).trans ((if_pos h19).trans (rfl))))).symm.trans hd8
       refine .ret he (.inr ⟨rfl,⟨6,?_,g18,hf.symm⟩⟩)<;>first|(simp only [SY,eq_self,Nat.reduceBEq]<;>rfl)|omega|assumption|(simp; omega)|simp
      have w20:IntKind.i64.wrap ((i:Int)+1)=((i+1:Nat):Int):=by rw [IntWalk.i64_in]<;>omega
      try simp (disch:=first|omega|assumption) only [E0_G,SY,off,agreeKind,Nat.reduceAdd,Nat.reduceLT,Nat.reduceBEq,g8_4,h19a,w20] at he
      rw [drop_cons' hx8] at hd8
      have hf:=(show _=(R21_0 r (r.strikes.drop (i+1)) (i+1):Sum (Int) (Unit)) from (if_neg h14).trans ((if_neg h15).trans ((if_pos h17).trans ((if_neg h19).trans (rfl))))).symm.trans hd8
      refine .next he (m - 1) (by omega) ⟨(i+1),?_,?_,?_,?_,v1_18,g18,by omega,hf⟩<;>first|(simp only [SY,eq_self,Nat.reduceBEq,g8_1,g8_4]<;>rfl)|omega|assumption|(simp; omega)|simp
     try simp (disch:=first|omega|assumption) only [E0_G,SY,off,agreeKind,Nat.reduceLT,h17a] at he
     rw [drop_cons' hx8] at hd8
     have hf:=(show _=(.inl 1:Sum (Int) (Unit)) from (if_neg h14).trans ((if_neg h15).trans ((if_neg h17).trans (rfl)))).symm.trans hd8
     refine .ret he (.inr ⟨rfl,⟨1,?_,g16,hf.symm⟩⟩)<;>first|(simp only [SY,eq_self,Nat.reduceBEq]<;>rfl)|omega|assumption|(simp; omega)|simp
    try simp (disch:=first|omega|assumption) only [SY,h10a] at he
    rw [List.drop_eq_nil_of_le (show r.strikes.length≤i by omega)] at hd8
    have hf:=(show _=(.inr ():Sum (Int) (Unit)) from rfl).symm.trans hd8
    refine .exit he (.inl ⟨rfl,⟨i,?_,bb8_1,ga8,by omega,?_,hf.symm⟩⟩)<;>first|(simp only [SY,eq_self,Nat.reduceBEq,g8_1]<;>rfl)|omega|assumption|(simp; omega)|simp)
  rcases hQ8 with ⟨rfl,hQ8⟩|⟨rfl,hQ8⟩
  ·obtain ⟨i,ge8_1,be8_1,ge8,gm8,hj8_0,hR8⟩:=hQ8
   try simp (disch:=first|omega|assumption) only [E0_G,SY,off,agreeKind,eq_self,if_true,Nat.reduceLT] at hz
   generalize hL22:Rec.loop _ _ _ _=L22 at hz
   obtain ⟨x22,t22,S22e,rfl,hQ22⟩:=loop_met hL22 (fun m t S'=>∃ (i:Nat),m+i=r.sights.length∧i≤r.sights.length∧t.get 1=some (.pointer (some ⟨S.next,0,none⟩))∧t.get 6=some (.int .i64 (i:Int))∧S'.heap.get S.next=some (.cells [.int .i64 r.ses.id,.int .i64 r.ses.inLo,.int .i64 r.ses.inHi,.int .i64 r.ses.outLo,.int .i64 r.ses.outHi,.int .i64 r.ses.zLo,.int .i64 r.ses.zHi,.int .i64 r.ses.eLo,.int .i64 r.ses.eHi,.int .i64 r.ses.rLo,.int .i64 r.ses.rHi,v_r_ses_stops,v_r_strikes,v_r_sights] 30 0 true true)∧Agree S S'∧S8e.next≤S'.next∧R21_1 r (r.sights.drop i)=R21_1 r r.sights)
    (fun x t S'=>(x=.exit 2∧∃ (i:Nat),S'.heap.get S.next=some (.cells [.int .i64 r.ses.id,.int .i64 r.ses.inLo,.int .i64 r.ses.inHi,.int .i64 r.ses.outLo,.int .i64 r.ses.outHi,.int .i64 r.ses.zLo,.int .i64 r.ses.zHi,.int .i64 r.ses.eLo,.int .i64 r.ses.eHi,.int .i64 r.ses.rLo,.int .i64 r.ses.rHi,v_r_ses_stops,v_r_strikes,v_r_sights] 30 0 true true)∧Agree S S'∧S8e.next≤S'.next∧i≤r.sights.length∧R21_1 r r.sights=.inr ())∨(x=.ret∧∃ (r2:Int),t.get 2=some (.int .i64 r2)∧Agree S S'∧R21_1 r r.sights=.inl (r2))) (r.sights.length - 0) (by refine ⟨0,?_,?_,?_,?_,be8_1,ge8,Nat.le_refl _,rfl⟩<;>first|(simp only [SY,eq_self,Nat.reduceBEq,ge8_1]<;>rfl)|omega|assumption|(simp; omega)|simp) (by
     rintro m t S22 ⟨i,hi22_0,hi22_1,g22_1,g22_6,bb22_1,ga22,gn22,hd22⟩
     refine .run fun z he=>?_
     have w23:=(hv_r_sights.agree ga22).len (P:=Tryz.prog) (t:=28) Tryz.underlying28
     try simp (disch:=first|omega|assumption) only [E0_G,SY,off,agreeKind,ldA,aggD,aField,Nat.reduceAdd,Nat.reduceLT,Nat.reduceBEq,TY_EvW1,g22_1,g22_6,bb22_1,w6] at he
     rcases dP ((i:Int)<(r.sights.length:Int)) with ⟨h24a,h24⟩|⟨h24a,h24⟩
     ·have hx22:r.sights[i]?=some (r.sights[i]'(by first|omega|simp; omega)):=List.getElem?_eq_getElem _
      generalize r.sights[i]'_=x22 at hx22
      obtain ⟨id25,of25,cc25,ty25,wr25,ex25,i25,j25,l25,q25⟩:=(hv_r_sights).at (P:=Tryz.prog) (t:=28) Tryz.underlying28 tz115 hx22
      have jr25:=j25
      have j25:=(ga22.2 id25 l25).trans jr25
      have m25_0:cc25[of25]?=some (.int .i64 x22.strike):=q25 0 (show 0<3 by decide)
      have m25_1:cc25[of25+1]?=some (.int .i64 x22.lo):=q25 1 (show 1<3 by decide)
      have m25_2:cc25[of25+2]?=some (.int .i64 x22.hi):=q25 2 (show 2<3 by decide)
      obtain ⟨S26,k26,a26⟩:=c78 x22.lo x22.hi 0 1073741823  S22
      have l26:=a26.1
      have s26:E0.same S22 S26=true:=symEnv_same a26
      have v1_26:=(a26.2 S.next (by omega)).trans bb22_1
      have v25_26:=(a26.2 id25 (by omega)).trans j25
      have g26:Agree S S26:=ga22.trans a26
      try simp (disch:=first|omega|assumption) only [E0_G,SY,off,agreeKind,vals,ldA,rdCells,aggD,aField,Nat.reduceAdd,Nat.reduceLT,Nat.reduceBEq,TY_EvW1,g22_1,g22_6,bb22_1,h24a,i25,j25,m25_1,m25_2,k26] at he
      rcases dB ((r78 x22.lo x22.hi 0 1073741823)) with ⟨h27a,h27⟩|⟨h27a,h27⟩
      ·try simp (disch:=first|omega|assumption) only [SY,h27a] at he
       rw [code_draws _ _ _ (by kernel_rfl)] at he
       generalize hnd28:needy _=nd28 at he
       obtain ⟨id29,of29,cc29,ty29,wr29,ex29,i29,j29,l29,q29⟩:=(hv_r_sights).at (P:=Tryz.prog) (t:=28) Tryz.underlying28 tz115 hx22
       have j29:=(g26.2 id29 l29).trans j29
       have j29_25:=(g26.2 id25 l25).trans jr25
       have m29_0:cc29[of29]?=some (.int .i64 x22.strike):=q29 0 (show 0<3 by decide)
       have m29_1:cc29[of29+1]?=some (.int .i64 x22.lo):=q29 1 (show 1<3 by decide)
       have m29_2:cc29[of29+2]?=some (.int .i64 x22.hi):=q29 2 (show 2<3 by decide)
       obtain ⟨S30,k30,a30⟩:=c79 (r.strikes:List Sk) x22.strike (by first|omega|assumption) S26 (v_r_strikes) (hv_r_strikes.agree g26)
       have l30:=a30.1
       have s30:E0.same S26 S30=true:=symEnv_same a30
       have v1_30:=(a30.2 S.next (by omega)).trans v1_26
       have g30:Agree S S30:=g26.trans a30
       try simp (disch:=first|omega|assumption) only [E0_G,SY,agreeKind,vals,ldA,aggD,aField,Nat.reduceAdd,Nat.reduceLT,Nat.reduceBEq,TY_EvW1,g22_1,g22_6,i25,m25_0,v1_26,v25_26,store_agree,store_refl E0_same,k30] at he
       rcases dP ((r79 (r.strikes:List Sk) x22.strike)<0) with ⟨h31a,h31⟩|⟨h31a,h31⟩
       ·try simp (disch:=first|omega|assumption) only [E0_G,SY,off,agreeKind,Nat.reduceLT,store_refl E0_same,h31a] at he
        rw [drop_cons' hx22] at hd22
        have hf:=(show _=(.inl 5:Sum (Int) (Unit)) from (if_pos h27).trans ((if_pos h31).trans (rfl))).symm.trans hd22
        refine .ret he (.inr ⟨rfl,⟨5,?_,g30,hf.symm⟩⟩)<;>first|(simp only [SY,eq_self,Nat.reduceBEq]<;>rfl)|omega|assumption|(simp; omega)|simp
       have w32:IntKind.i64.wrap ((i:Int)+1)=((i+1:Nat):Int):=by rw [IntWalk.i64_in]<;>omega
       try simp (disch:=first|omega|assumption) only [E0_G,SY,off,agreeKind,Nat.reduceAdd,Nat.reduceLT,Nat.reduceBEq,g22_6,store_refl E0_same,h31a,w32] at he
       rw [drop_cons' hx22] at hd22
       have hf:=(show _=(R21_1 r (r.sights.drop (i+1)):Sum (Int) (Unit)) from (if_pos h27).trans ((if_neg h31).trans (rfl))).symm.trans hd22
       refine .next he (m - 1) (by omega) ⟨(i+1),?_,?_,?_,?_,v1_30,g30,by omega,hf⟩<;>first|(simp only [SY,eq_self,Nat.reduceBEq,g22_1,g22_6]<;>rfl)|omega|assumption|(simp; omega)|simp
      try simp (disch:=first|omega|assumption) only [E0_G,SY,off,agreeKind,Nat.reduceLT,h27a] at he
      rw [drop_cons' hx22] at hd22
      have hf:=(show _=(.inl 1:Sum (Int) (Unit)) from (if_neg h27).trans (rfl)).symm.trans hd22
      refine .ret he (.inr ⟨rfl,⟨1,?_,g26,hf.symm⟩⟩)<;>first|(simp only [SY,eq_self,Nat.reduceBEq]<;>rfl)|omega|assumption|(simp; omega)|simp
     try simp (disch:=first|omega|assumption) only [SY,h24a] at he
     rw [List.drop_eq_nil_of_le (show r.sights.length≤i by omega)] at hd22
     have hf:=(show _=(.inr ():Sum (Int) (Unit)) from rfl).symm.trans hd22
     refine .exit he (.inl ⟨rfl,⟨i,bb22_1,ga22,by omega,?_,hf.symm⟩⟩)<;>first|(simp only [SY,setArgs,off,agreeKind,partVals,vals,allocV,boxed,ldA,rdCells,oneB,aggD,aField,aFieldV,aExtract,eq_self,ne_eq,if_true,if_false,not_false_eq_true,Nat.reduceAdd,Nat.reduceSub,Nat.reduceMul,Nat.reduceLT,Nat.reduceEqDiff,Nat.reduceBEq,reduceIte,Int.reduceEq,Int.reduceLT,Int.reduceLE,reduceCtorEq,g22_1,g22_6]<;>rfl)|omega|assumption|(simp; omega)|simp)
   rcases hQ22 with ⟨rfl,hQ22⟩|⟨rfl,hQ22⟩
   ·obtain ⟨i,be22_1,ge22,gm22,hj22_0,hR22⟩:=hQ22
    try simp (disch:=first|omega|assumption) only [E0_G,SY,off,agreeKind,eq_self,if_true,Nat.reduceLT,Nat.reduceBEq] at hz
    have hr:r21 r=0:=(if_pos h3).trans ((if_neg h5).trans ((if_neg h7).trans ((onSum_inr hR8).trans ((onSum_inr hR22).trans (rfl)))))
    exact fin hz (by rw [hr]) ge22
   obtain ⟨r2,ge22_2,ge22,hR22⟩:=hQ22
   try simp (disch:=first|omega|assumption) only [SY,ge22_2] at hz
   have hr:r21 r=r2:=(if_pos h3).trans ((if_neg h5).trans ((if_neg h7).trans ((onSum_inr hR8).trans ((onSum_inl hR22).trans (rfl)))))
   exact fin hz (by rw [hr]) ge22
  obtain ⟨r2,ge8_2,ge8,hR8⟩:=hQ8
  try simp (disch:=first|omega|assumption) only [SY,ge8_2] at hz
  have hr:r21 r=r2:=(if_pos h3).trans ((if_neg h5).trans ((if_neg h7).trans ((onSum_inl hR8).trans (rfl))))
  exact fin hz (by rw [hr]) ge8
 try simp (disch:=first|omega|assumption) only [E0_G,SY,off,agreeKind,Nat.reduceAdd,Nat.reduceLT,Nat.reduceBEq,h3a] at hz
 have hr:r21 r=(r77 r.ses):=(if_neg h3).trans (rfl)
 exact fin hz (by rw [hr]) g2
def r19 (r:Rc):Bool:=(if (r.ses.stops.length:Int)≤12 then (if (r.strikes.length:Int)≤20 then decide ((r.sights.length:Int)≤20) else false) else false)
set_option maxHeartbeats 2000000 in
theorem c19 (r:Rc)  (S:AS) (v_r_ses_stops:Value) (hv_r_ses_stops:Lst S v_r_ses_stops r.ses.stops) (v_r_strikes:Value) (hv_r_strikes:Lst S v_r_strikes r.strikes) (v_r_sights:Value) (hv_r_sights:Lst S v_r_sights r.sights) :
  ∃ S',(evL Tryz.prog E0).call 19 #[.agg #[.int .i64 r.ses.id,.int .i64 r.ses.inLo,.int .i64 r.ses.inHi,.int .i64 r.ses.outLo,.int .i64 r.ses.outHi,.int .i64 r.ses.zLo,.int .i64 r.ses.zHi,.int .i64 r.ses.eLo,.int .i64 r.ses.eHi,.int .i64 r.ses.rLo,.int .i64 r.ses.rHi,v_r_ses_stops,v_r_strikes,v_r_sights]] S=some (.bool (r19 r),S')∧Agree S S':=by
 generalize hz:(evL Tryz.prog E0).call 19 _ _=z
 rw [L_call,evCall_said rfl Tryz.func19 rfl (by decide) Tryz.ntmps19 Tryz.results19] at hz
 obtain ⟨S1,e1,n1,b1,a1⟩:=push_open S (.cells [.int .i64 r.ses.id,.int .i64 r.ses.inLo,.int .i64 r.ses.inHi,.int .i64 r.ses.outLo,.int .i64 r.ses.outHi,.int .i64 r.ses.zLo,.int .i64 r.ses.zHi,.int .i64 r.ses.eLo,.int .i64 r.ses.eHi,.int .i64 r.ses.rLo,.int .i64 r.ses.rHi,v_r_ses_stops,v_r_strikes,v_r_sights] 30 0 true true)
 have g1:Agree S S1:=a1
 have w2:=(hv_r_ses_stops.agree g1).len (P:=Tryz.prog) (t:=24) Tryz.underlying24
 try simp (disch:=first|omega|assumption) only [E0_G,SY,setArgs,off,agreeKind,boxed,ldA,aggD,aField,Nat.reduceAdd,Nat.reduceSub,Nat.reduceLT,Nat.reduceBEq,TY_EvW1,e1,b1,w2] at hz
 rcases dP ((r.ses.stops.length:Int)≤12) with ⟨h3a,h3⟩|⟨h3a,h3⟩
 ·have w4:=(hv_r_strikes.agree g1).len (P:=Tryz.prog) (t:=27) Tryz.underlying27
  try simp (disch:=first|omega|assumption) only [E0_G,SY,off,agreeKind,ldA,aggD,aField,Nat.reduceAdd,Nat.reduceLT,Nat.reduceBEq,TY_EvW1,b1,h3a,w4] at hz
  rcases dP ((r.strikes.length:Int)≤20) with ⟨h5a,h5⟩|⟨h5a,h5⟩
  ·have w6:=(hv_r_sights.agree g1).len (P:=Tryz.prog) (t:=28) Tryz.underlying28
   try simp (disch:=first|omega|assumption) only [E0_G,SY,off,agreeKind,ldA,aggD,aField,Nat.reduceAdd,Nat.reduceLT,Nat.reduceBEq,TY_EvW1,b1,h5a,w6] at hz
   have hr:r19 r=decide ((r.sights.length:Int)≤20):=(if_pos h3).trans ((if_pos h5).trans (rfl))
   exact fin hz (by rw [hr]) g1
  try simp (disch:=first|omega|assumption) only [E0_G,SY,off,agreeKind,Nat.reduceAdd,Nat.reduceLT,Nat.reduceBEq,h5a] at hz
  have hr:r19 r=false:=(if_pos h3).trans ((if_neg h5).trans (rfl))
  exact fin hz (by rw [hr]) g1
 try simp (disch:=first|omega|assumption) only [E0_G,SY,off,agreeKind,Nat.reduceAdd,Nat.reduceLT,Nat.reduceBEq,h3a] at hz
 have hr:r19 r=false:=(if_neg h3).trans (rfl)
 exact fin hz (by rw [hr]) g1
def r113 (k:Int):(Int × Int):=(3,k)
set_option maxHeartbeats 2000000 in
theorem c113 (k:Int)  (S:AS)  :
  ∃ S',(evL Tryz.prog E0).call 113 #[.int .i64 k] S=some (.agg #[.int .i64 ((r113 k).1),.int .i64 ((r113 k).2)],S')∧Agree S S':=by
 generalize hz:(evL Tryz.prog E0).call 113 _ _=z
 rw [L_call,evCall_said rfl Tryz.func113 rfl (by decide) Tryz.ntmps113 Tryz.results113] at hz
 obtain ⟨S1,e1,n1,b1,a1⟩:=push_open S (.cells [.int .i64 0,.int .i64 0] 131 0 true true)
 have g1:Agree S S1:=a1
 have y2:aBuild Tryz.prog 131 [(0,.int .i64 3),(1,.int .i64 k)]=some (.agg #[.int .i64 3,.int .i64 k]):=by kernel_rfl
 obtain ⟨S3,k3,n3,b3,q3⟩:=st_at (o:=0) (c':=[.int .i64 3,.int .i64 k]) (v:=.agg #[.int .i64 3,.int .i64 k]) tz131 b1 rfl rfl (show 0+2≤2 by decide) rfl
 have g3:Agree S S3:=⟨by have:=(g1).1; omega,fun id hid=>(q3 id (by have:=(g1).1; omega)).trans ((g1).2 id hid)⟩
 try simp (disch:=first|omega|assumption) only [E0_G,SY,setArgs,off,agreeKind,partVals,allocV,ldA,rdCells,aggD,Nat.reduceAdd,Nat.reduceSub,Nat.reduceLT,Nat.reduceBEq,TY_EvW1,e1,y2,k3,b3] at hz
 have hr:r113 k=(3,k):=rfl
 exact fin hz (by rw [hr]) g3
def r98 (k:Int):(Int × Int):=(4,k)
set_option maxHeartbeats 2000000 in
theorem c98 (k:Int)  (S:AS)  :
  ∃ S',(evL Tryz.prog E0).call 98 #[.int .i64 k] S=some (.agg #[.int .i64 ((r98 k).1),.int .i64 ((r98 k).2)],S')∧Agree S S':=by
 generalize hz:(evL Tryz.prog E0).call 98 _ _=z
 rw [L_call,evCall_said rfl Tryz.func98 rfl (by decide) Tryz.ntmps98 Tryz.results98] at hz
 obtain ⟨S1,e1,n1,b1,a1⟩:=push_open S (.cells [.int .i64 0,.int .i64 0] 131 0 true true)
 have g1:Agree S S1:=a1
 have y2:aBuild Tryz.prog 131 [(0,.int .i64 4),(1,.int .i64 k)]=some (.agg #[.int .i64 4,.int .i64 k]):=by kernel_rfl
 obtain ⟨S3,k3,n3,b3,q3⟩:=st_at (o:=0) (c':=[.int .i64 4,.int .i64 k]) (v:=.agg #[.int .i64 4,.int .i64 k]) tz131 b1 rfl rfl (show 0+2≤2 by decide) rfl
 have g3:Agree S S3:=⟨by have:=(g1).1; omega,fun id hid=>(q3 id (by have:=(g1).1; omega)).trans ((g1).2 id hid)⟩
 try simp (disch:=first|omega|assumption) only [E0_G,SY,setArgs,off,agreeKind,partVals,allocV,ldA,rdCells,aggD,Nat.reduceAdd,Nat.reduceSub,Nat.reduceLT,Nat.reduceBEq,TY_EvW1,e1,y2,k3,b3] at hz
 have hr:r98 k=(4,k):=rfl
 exact fin hz (by rw [hr]) g3
end Clock
end Go.Proofs
end
