import Derived.Test.YtohfdkdjfoonjaaGreatDoorEvM8
set_option linter.unusedSimpArgs false
set_option linter.unusedVariables false
namespace Go.Proofs
namespace House
open Go Go.RowKit Go.Aev
set_option maxRecDepth 100000
theorem tz154:szOf Tryz.prog 154=some 1:=by kernel_rfl
theorem tt154:inTab Tryz.prog 154=true:=by kernel_rfl
theorem t0_154:zeroOf Tryz.prog 154=some (.int .u64 0):=by kernel_rfl
theorem TY_EvH18:type_of% (And.intro TY_EvH17 (And.intro (And.intro Tryz.underlying154 tz154) (And.intro tt154 t0_154))):=(And.intro TY_EvH17 (And.intro (And.intro Tryz.underlying154 tz154) (And.intro tt154 t0_154)))
theorem u64w {x:Int} (h:0≤x∧x≤1000000):IntKind.u64.wrap x=x:=by
 have e:IntKind.u64.wrap x=x % (2 ^ 64:Int):=by simp [IntKind.wrap,IntKind.signed,IntKind.bits]
 rw [e]; omega
def r70 (n:Int) (k:Int):Int:=IntKind.i64.wrap (Int.tmod (IntKind.u64.wrap n) (IntKind.u64.wrap (max k 1)))
def r68 (h:Hs):Bool:=(if (r20 h)=true then decide ((r59 h)=0) else false)
set_option maxHeartbeats 2000000 in
theorem c68 (h:Hs)  (S:AS) (v_h_rooms:Value) (hv_h_rooms:LstR S v_h_rooms h.rooms) (v_h_doors:Value) (hv_h_doors:LstR S v_h_doors h.doors) (v_h_ways:Value) (hv_h_ways:Lst S v_h_ways h.ways) :
  ∃ S',(evL Tryz.prog E0).call 68 #[.agg #[v_h_rooms,v_h_doors,v_h_ways]] S=some (.bool (r68 h),S')∧Agree S S':=by
 generalize hz:(evL Tryz.prog E0).call 68 _ _=z
 rw [L_call,evCall_said rfl Tryz.func68 rfl (by decide) Tryz.ntmps68 Tryz.results68] at hz
 obtain ⟨S1,e1,n1,b1,a1⟩:=push_open S (.cells [v_h_rooms,v_h_doors,v_h_ways] 26 0 true true)
 have g1:Agree S S1:=a1
 have s1:E0.same S S1=true:=symEnv_same a1
 obtain ⟨S2,k2,a2⟩:=c20 h  S1 (v_h_rooms) (hv_h_rooms.agree g1) (v_h_doors) (hv_h_doors.agree g1) (v_h_ways) (hv_h_ways.agree g1)
 have l2:=a2.1
 have s2:E0.same S1 S2=true:=symEnv_same a2
 have v1_2:=(a2.2 S.next (by omega)).trans b1
 have g2:Agree S S2:=g1.trans a2
 try simp (disch:=first|omega|assumption) only [E0_G,SY,setArgs,off,agreeKind,partVals,vals,allocV,boxed,ldA,rdCells,oneB,aggD,aField,aFieldV,aExtract,eq_self,ne_eq,if_true,if_false,not_false_eq_true,Nat.reduceAdd,Nat.reduceSub,Nat.reduceMul,Nat.reduceLT,Nat.reduceEqDiff,Nat.reduceBEq,reduceIte,Int.reduceEq,Int.reduceLT,Int.reduceLE,reduceCtorEq,TY_EvH18,s1,e1,b1,k2,s2,v1_2] at hz
 rcases dB ((r20 h)) with ⟨h3a,h3⟩|⟨h3a,h3⟩
 ·obtain ⟨S4,k4,a4⟩:=c59 h (few_of (show r20 h=true by assumption)) S2 (v_h_rooms) (hv_h_rooms.agree g2) (v_h_doors) (hv_h_doors.agree g2) (v_h_ways) (hv_h_ways.agree g2)
  have l4:=a4.1
  have s4:E0.same S2 S4=true:=symEnv_same a4
  have v1_4:=(a4.2 S.next (by omega)).trans v1_2
  have g4:Agree S S4:=g2.trans a4
  try simp (disch:=first|omega|assumption) only [E0_G,SY,setArgs,off,agreeKind,partVals,vals,allocV,boxed,ldA,rdCells,oneB,aggD,aField,aFieldV,aExtract,eq_self,ne_eq,if_true,if_false,not_false_eq_true,Nat.reduceAdd,Nat.reduceSub,Nat.reduceMul,Nat.reduceLT,Nat.reduceEqDiff,Nat.reduceBEq,reduceIte,Int.reduceEq,Int.reduceLT,Int.reduceLE,reduceCtorEq,TY_EvH18,s1,e1,b1,k2,s2,v1_2,h3a,k4,s4,v1_4] at hz
  have hr:r68 h=decide ((r59 h)=0):=(if_pos h3).trans (rfl)
  exact fin hz (by rw [hr]) g4
 try simp (disch:=first|omega|assumption) only [E0_G,SY,setArgs,off,agreeKind,partVals,vals,allocV,boxed,ldA,rdCells,oneB,aggD,aField,aFieldV,aExtract,eq_self,ne_eq,if_true,if_false,not_false_eq_true,Nat.reduceAdd,Nat.reduceSub,Nat.reduceMul,Nat.reduceLT,Nat.reduceEqDiff,Nat.reduceBEq,reduceIte,Int.reduceEq,Int.reduceLT,Int.reduceLE,reduceCtorEq,TY_EvH18,s1,e1,b1,k2,s2,v1_2,h3a] at hz
 have hr:r68 h=false:=(if_neg h3).trans (rfl)
 exact fin hz (by rw [hr]) g2
theorem r68_ok {h:Hs} (e:r68 h=true):Few h∧r59 h=0:=by
 unfold r68 at e
 split at e
 ·rename_i h1
  exact ⟨few_of h1,by simpa using e⟩
 ·cases e
theorem r68_len {h:Hs} (e:r68 h=true):h.doors.length≤30∧h.rooms.length≤1000:=by
 have q:=r68_ok e
 have:=q.1.d; have:=q.1.r
 omega
end House
end Go.Proofs
