import Derived.Test.YtpaipdipkgnpdaaGreatBU
section
set_option linter.unusedSimpArgs false
set_option linter.unusedVariables false
namespace Go.Proofs
namespace Clock
open Go Go.RowKit Go.Aev
set_option maxRecDepth 100000
theorem tz123:szOf Tryz.prog 123=some 3:=by kernel_rfl
theorem tt123:inTab Tryz.prog 123=true:=by kernel_rfl
theorem t0_123:zeroOf Tryz.prog 123=some (.agg #[.slice none 0 0,.map none,.slice none 0 0]):=by kernel_rfl
theorem tz124:szOf Tryz.prog 124=some 3:=by kernel_rfl
theorem tt124:inTab Tryz.prog 124=true:=by kernel_rfl
theorem t0_124:zeroOf Tryz.prog 124=some (.agg #[.slice none 0 0,.map none,.slice none 0 0]):=by kernel_rfl
theorem tz153:szOf Tryz.prog 153=some 3:=by kernel_rfl
theorem tt153:inTab Tryz.prog 153=true:=by kernel_rfl
theorem t0_153:zeroOf Tryz.prog 153=some (.agg #[.slice none 0 0,.slice none 0 0,.slice none 0 0]):=by kernel_rfl
theorem tz154:szOf Tryz.prog 154=some 3:=by kernel_rfl
theorem tt154:inTab Tryz.prog 154=true:=by kernel_rfl
theorem t0_154:zeroOf Tryz.prog 154=some (.agg #[.slice none 0 0,.slice none 0 0,.slice none 0 0]):=by kernel_rfl
theorem TY_EvW10:type_of% (And.intro TY_EvW9 (And.intro (And.intro (And.intro (And.intro Tryz.underlying123 tz123) (And.intro tt123 t0_123)) (And.intro (And.intro Tryz.underlying124 tz124) (And.intro tt124 t0_124))) (And.intro (And.intro (And.intro Tryz.underlying153 tz153) (And.intro tt153 t0_153)) (And.intro (And.intro Tryz.underlying154 tz154) (And.intro tt154 t0_154))))):=(And.intro TY_EvW9 (And.intro (And.intro (And.intro (And.intro Tryz.underlying123 tz123) (And.intro tt123 t0_123)) (And.intro (And.intro Tryz.underlying124 tz124) (And.intro tt124 t0_124))) (And.intro (And.intro (And.intro Tryz.underlying153 tz153) (And.intro tt153 t0_153)) (And.intro (And.intro Tryz.underlying154 tz154) (And.intro tt154 t0_154)))))
end Clock
end Go.Proofs
end
section
set_option linter.unusedSimpArgs false
set_option linter.unusedVariables false
namespace Go.Proofs
namespace Clock
open Go Go.RowKit Go.Aev
set_option maxRecDepth 100000
theorem TY_EvW11:type_of% TY_EvW10:=TY_EvW10
end Clock
end Go.Proofs
end
section
set_option linter.unusedSimpArgs false
set_option linter.unusedVariables false
namespace Go.Proofs
namespace Clock
open Go Go.RowKit Go.Aev
set_option maxRecDepth 100000
theorem tz214:szOf Tryz.prog 214=some 2:=by kernel_rfl
theorem tt214:inTab Tryz.prog 214=true:=by kernel_rfl
theorem t0_214:zeroOf Tryz.prog 214=some (.agg #[.int .i64 0,.int .i64 0]):=by kernel_rfl
theorem tz215:szOf Tryz.prog 215=some 2:=by kernel_rfl
theorem tt215:inTab Tryz.prog 215=true:=by kernel_rfl
theorem t0_215:zeroOf Tryz.prog 215=some (.agg #[.int .i64 0,.int .i64 0]):=by kernel_rfl
theorem TY_EvW12:type_of% (And.intro TY_EvW11 (And.intro (And.intro (And.intro Tryz.underlying214 tz214) (And.intro tt214 t0_214)) (And.intro (And.intro Tryz.underlying215 tz215) (And.intro tt215 t0_215)))):=(And.intro TY_EvW11 (And.intro (And.intro (And.intro Tryz.underlying214 tz214) (And.intro tt214 t0_214)) (And.intro (And.intro Tryz.underlying215 tz215) (And.intro tt215 t0_215))))
def r188 (a b:Int) (s:Se):Int:=IntKind.i64.wrap (Int.tdiv (IntKind.i64.wrap ((IntKind.i64.wrap (b - a)) * 1000000)) s.rHi)
set_option maxHeartbeats 2000000 in
theorem c188 (a b:Int) (s:Se) (h1:1≤s.rLo) (h2:1≤s.rHi) (S:AS) (v_s_stops:Value) (hv_s_stops:Lst S v_s_stops s.stops) (p_s:Nat) (g_s:S.heap.get p_s=some (.cells [.int .i64 s.id,.int .i64 s.inLo,.int .i64 s.inHi,.int .i64 s.outLo,.int .i64 s.outHi,.int .i64 s.zLo,.int .i64 s.zHi,.int .i64 s.eLo,.int .i64 s.eHi,.int .i64 s.rLo,.int .i64 s.rHi,v_s_stops] 26 0 true true)) (l_s:p_s<S.next) :
  ∃ S',(evL Tryz.prog E0).call 188 #[.agg #[.int .i64 a,.int .i64 b],.pointer (some ⟨p_s,0,none⟩)] S=some (.int .i64 (r188 a b s),S')∧Agree S S':=by
 generalize hz:(evL Tryz.prog E0).call 188 _ _=z
 rw [L_call,evCall_said rfl Tryz.func188 rfl (by decide) Tryz.ntmps188 Tryz.results188] at hz
 obtain ⟨S1,e1,n1,b1,a1⟩:=push_open S (.cells [.int .i64 a,.int .i64 b] 215 0 true true)
 have vs_1:=(a1.2 p_s (by omega)).trans g_s
 have g1:Agree S S1:=a1
 have s1:E0.same S S1=true:=symEnv_same a1
 have wd2:decide (s.rHi=0)=false:=decide_eq_false (by omega)
 try simp (disch:=first|omega|assumption) only [E0_G,SY,setArgs,off,agreeKind,boxed,ldA,aggD,aField,Nat.reduceAdd,Nat.reduceSub,Nat.reduceLT,Nat.reduceBEq,TY_EvW12,vs_1,e1,b1,wd2] at hz
 have hr:r188 a b s=IntKind.i64.wrap (Int.tdiv (IntKind.i64.wrap ((IntKind.i64.wrap (b - a)) * 1000000)) s.rHi):=rfl
 exact fin hz (by rw [hr]) g1
def r189 (a b:Int) (s:Se):Int:=IntKind.i64.wrap (Int.tdiv (IntKind.i64.wrap ((IntKind.i64.wrap ((IntKind.i64.wrap ((IntKind.i64.wrap (b - a)) * 1000000))+s.rLo)) - 1)) s.rLo)
set_option maxHeartbeats 2000000 in
theorem c189 (a b:Int) (s:Se) (h1:1≤s.rLo) (h2:1≤s.rHi) (S:AS) (v_s_stops:Value) (hv_s_stops:Lst S v_s_stops s.stops) (p_s:Nat) (g_s:S.heap.get p_s=some (.cells [.int .i64 s.id,.int .i64 s.inLo,.int .i64 s.inHi,.int .i64 s.outLo,.int .i64 s.outHi,.int .i64 s.zLo,.int .i64 s.zHi,.int .i64 s.eLo,.int .i64 s.eHi,.int .i64 s.rLo,.int .i64 s.rHi,v_s_stops] 26 0 true true)) (l_s:p_s<S.next) :
  ∃ S',(evL Tryz.prog E0).call 189 #[.agg #[.int .i64 a,.int .i64 b],.pointer (some ⟨p_s,0,none⟩)] S=some (.int .i64 (r189 a b s),S')∧Agree S S':=by
 generalize hz:(evL Tryz.prog E0).call 189 _ _=z
 rw [L_call,evCall_said rfl Tryz.func189 rfl (by decide) Tryz.ntmps189 Tryz.results189] at hz
 obtain ⟨S1,e1,n1,b1,a1⟩:=push_open S (.cells [.int .i64 a,.int .i64 b] 215 0 true true)
 have vs_1:=(a1.2 p_s (by omega)).trans g_s
 have g1:Agree S S1:=a1
 have s1:E0.same S S1=true:=symEnv_same a1
 have wd2:decide (s.rLo=0)=false:=decide_eq_false (by omega)
 try simp (disch:=first|omega|assumption) only [E0_G,SY,setArgs,off,agreeKind,boxed,ldA,aggD,aField,Nat.reduceAdd,Nat.reduceSub,Nat.reduceLT,Nat.reduceBEq,TY_EvW12,vs_1,e1,b1,wd2] at hz
 have hr:r189 a b s=IntKind.i64.wrap (Int.tdiv (IntKind.i64.wrap ((IntKind.i64.wrap ((IntKind.i64.wrap ((IntKind.i64.wrap (b - a)) * 1000000))+s.rLo)) - 1)) s.rLo):=rfl
 exact fin hz (by rw [hr]) g1
def r191 (a b:Int) (s:Se):(Int × Int):=((r188 a b s),(r189 a b s))
set_option maxHeartbeats 2000000 in
theorem c191 (a b:Int) (s:Se) (h1:1≤s.rLo) (h2:1≤s.rHi) (S:AS) (v_s_stops:Value) (hv_s_stops:Lst S v_s_stops s.stops) (p_s:Nat) (g_s:S.heap.get p_s=some (.cells [.int .i64 s.id,.int .i64 s.inLo,.int .i64 s.inHi,.int .i64 s.outLo,.int .i64 s.outHi,.int .i64 s.zLo,.int .i64 s.zHi,.int .i64 s.eLo,.int .i64 s.eHi,.int .i64 s.rLo,.int .i64 s.rHi,v_s_stops] 26 0 true true)) (l_s:p_s<S.next) :
  ∃ S',(evL Tryz.prog E0).call 191 #[.agg #[.int .i64 a,.int .i64 b],.func (.func 188) #[] #[.pointer (some ⟨p_s,0,none⟩)],.func (.func 189) #[] #[.pointer (some ⟨p_s,0,none⟩)]] S=some (.agg #[.int .i64 ((r191 a b s).1),.int .i64 ((r191 a b s).2)],S')∧Agree S S':=by
 generalize hz:(evL Tryz.prog E0).call 191 _ _=z
 rw [L_call,evCall_said rfl Tryz.func191 rfl (by decide) Tryz.ntmps191 Tryz.results191] at hz
 obtain ⟨S1,e1,n1,b1,a1⟩:=push_open S (.cells [.int .i64 a,.int .i64 b] 215 0 true true)
 have vs_1:=(a1.2 p_s (by omega)).trans g_s
 have g1:Agree S S1:=a1
 have s1:E0.same S S1=true:=symEnv_same a1
 obtain ⟨S2,e2,n2,b2,a2⟩:=push_open S1 (.cells [.int .i64 0,.int .i64 0] 23 0 true true)
 have vs_2:=(a2.2 p_s (by omega)).trans vs_1
 have v1_2:=(a2.2 S.next (by omega)).trans b1
 have g2:Agree S S2:=g1.trans a2
 have s2:E0.same S1 S2=true:=symEnv_same a2
 try simp (disch:=first|omega|assumption) only [E0_G,SY,setArgs,off,agreeKind,allocV,boxed,Nat.reduceAdd,Nat.reduceSub,Nat.reduceLT,Nat.reduceBEq,TY_EvW12,e1,e2] at hz
 rw [code_draws _ _ _ (by kernel_rfl)] at hz
 generalize hnd3:needy _=nd3 at hz
 have nn3_7:nd3 7=false:=by rw [← hnd3]; kernel_rfl
 obtain ⟨S4,k4,a4⟩:=c188 a b s (by omega) (by omega) S2 (v_s_stops) (hv_s_stops.agree g2) p_s vs_2 (by omega)
 have l4:=a4.1
 have s4:E0.same S2 S4=true:=symEnv_same a4
 have vs_4:=(a4.2 p_s (by omega)).trans vs_2
 have v1_4:=(a4.2 S.next (by omega)).trans v1_2
 have v2_4:=(a4.2 S1.next (by omega)).trans b2
 have g4:Agree S S4:=g2.trans a4
 obtain ⟨S5,k5,a5⟩:=c189 a b s (by omega) (by omega) S4 (v_s_stops) (hv_s_stops.agree g4) p_s vs_4 (by omega)
 have l5:=a5.1
 have s5:E0.same S4 S5=true:=symEnv_same a5
 have vs_5:=(a5.2 p_s (by omega)).trans vs_4
 have v1_5:=(a5.2 S.next (by omega)).trans v1_4
 have v2_5:=(a5.2 S1.next (by omega)).trans v2_4
 have g5:Agree S S5:=g4.trans a5
 have y6:aBuild Tryz.prog 23 [(0,.int .i64 (r188 a b s)),(1,.int .i64 (r189 a b s))]=some (.agg #[.int .i64 (r188 a b s),.int .i64 (r189 a b s)]):=by kernel_rfl
 obtain ⟨S7,k7,n7,b7,q7⟩:=st_at (o:=0) (c':=[.int .i64 (r188 a b s),.int .i64 (r189 a b s)]) (v:=.agg #[.int .i64 (r188 a b s),.int .i64 (r189 a b s)]) tz23 v2_5 rfl rfl (show 0+2≤2 by decide) rfl
 have vs_7:=(q7 p_s (by omega)).trans vs_5
 have v1_7:=(q7 S.next (by omega)).trans v1_5
 have g7:Agree S S7:=⟨by have:=(g5).1; omega,fun id hid=>(q7 id (by have:=(g5).1; omega)).trans ((g5).2 id hid)⟩
 try simp (disch:=first|omega|assumption) only [E0_G,SY,agreeKind,partVals,vals,ldA,rdCells,aggD,Nat.reduceAdd,Nat.reduceLT,Nat.reduceBEq,TY_EvW12,v1_2,nn3_7,store_agree,store_refl E0_same,k4,v1_4,k5,y6,k7,b7] at hz
 have hr:r191 a b s=((r188 a b s),(r189 a b s)):=rfl
 exact fin hz (by rw [hr]) g7
end Clock
end Go.Proofs
end
section
set_option linter.unusedSimpArgs false
set_option linter.unusedVariables false
namespace Go.Proofs
namespace Clock
open Go Go.RowKit Go.Aev
set_option maxRecDepth 100000
theorem tz234:szOf Tryz.prog 234=some 1:=by kernel_rfl
theorem tt234:inTab Tryz.prog 234=true:=by kernel_rfl
theorem t0_234:zeroOf Tryz.prog 234=some (.nilFunc):=by kernel_rfl
theorem TY_EvW13:type_of% (And.intro TY_EvW12 (And.intro (And.intro Tryz.underlying234 tz234) (And.intro tt234 t0_234))):=(And.intro TY_EvW12 (And.intro (And.intro Tryz.underlying234 tz234) (And.intro tt234 t0_234)))
def R190_0 (a b:Int) (s:Se)  : List Stp→Nat→Int→Int→Int × Int
 | [],k,lo,hi=>(lo,hi)
 | x7 :: l',k,lo,hi=>(if a≤x7.at_ then (if x7.at_<b then R190_0 a b s l' (k+1) (IntKind.i64.wrap (lo+x7.lo)) (IntKind.i64.wrap (hi+x7.hi)) else R190_0 a b s l' (k+1) lo hi) else R190_0 a b s l' (k+1) lo hi)
def r190 (a b:Int) (s:Se):(Int × Int):=((R190_0 a b s s.stops 0 (((r191 a b s)).1) (((r191 a b s)).2)).1,(R190_0 a b s s.stops 0 (((r191 a b s)).1) (((r191 a b s)).2)).2)
set_option maxHeartbeats 2000000 in
theorem c190 (a b:Int) (s:Se) (h1:1≤s.rLo) (h2:1≤s.rHi) (hp:s.stops.length≤12) (S:AS) (v_s_stops:Value) (hv_s_stops:Lst S v_s_stops s.stops) (p_s:Nat) (g_s:S.heap.get p_s=some (.cells [.int .i64 s.id,.int .i64 s.inLo,.int .i64 s.inHi,.int .i64 s.outLo,.int .i64 s.outHi,.int .i64 s.zLo,.int .i64 s.zHi,.int .i64 s.eLo,.int .i64 s.eHi,.int .i64 s.rLo,.int .i64 s.rHi,v_s_stops] 26 0 true true)) (l_s:p_s<S.next) (p_d:Nat) (g_d:S.heap.get p_d=some (.cells [.func (.func 188) #[] #[.pointer (some ⟨p_s,0,none⟩)]] 234 0 true true)) (l_d:p_d<S.next) (p_u:Nat) (g_u:S.heap.get p_u=some (.cells [.func (.func 189) #[] #[.pointer (some ⟨p_s,0,none⟩)]] 234 0 true true)) (l_u:p_u<S.next) :
  ∃ S',(evL Tryz.prog E0).call 190 #[.agg #[.int .i64 a,.int .i64 b],.pointer (some ⟨p_d,0,none⟩),.pointer (some ⟨p_u,0,none⟩),.pointer (some ⟨p_s,0,none⟩)] S=some (.agg #[.int .i64 ((r190 a b s).1),.int .i64 ((r190 a b s).2)],S')∧Agree S S':=by
 generalize hz:(evL Tryz.prog E0).call 190 _ _=z
 rw [L_call,evCall_said rfl Tryz.func190 rfl (by decide) Tryz.ntmps190 Tryz.results190] at hz
 obtain ⟨S1,e1,n1,b1,a1⟩:=push_open S (.cells [.int .i64 a,.int .i64 b] 215 0 true true)
 have vs_1:=(a1.2 p_s (by omega)).trans g_s
 have vd_1:=(a1.2 p_d (by omega)).trans g_d
 have vu_1:=(a1.2 p_u (by omega)).trans g_u
 have g1:Agree S S1:=a1
 obtain ⟨S2,e2,n2,b2,a2⟩:=push_open S1 (.cells [.int .i64 0,.int .i64 0] 23 0 true true)
 have vs_2:=(a2.2 p_s (by omega)).trans vs_1
 have vd_2:=(a2.2 p_d (by omega)).trans vd_1
 have vu_2:=(a2.2 p_u (by omega)).trans vu_1
 have v1_2:=(a2.2 S.next (by omega)).trans b1
 have g2:Agree S S2:=g1.trans a2
 obtain ⟨S3,k3,a3⟩:=c191 a b s (by omega) (by omega) S2 (v_s_stops) (hv_s_stops.agree g2) p_s vs_2 (by omega)
 have l3:=a3.1
 have vs_3:=(a3.2 p_s (by omega)).trans vs_2
 have v1_3:=(a3.2 S.next (by omega)).trans v1_2
 have v2_3:=(a3.2 S1.next (by omega)).trans b2
 have g3:Agree S S3:=g2.trans a3
 obtain ⟨S4,e4,n4,b4,a4⟩:=push_open S3 (.cells [.int .i64 0,.int .i64 0] 23 0 true true)
 have vs_4:=(a4.2 p_s (by omega)).trans vs_3
 have v1_4:=(a4.2 S.next (by omega)).trans v1_3
 have v2_4:=(a4.2 S1.next (by omega)).trans v2_3
 have g4:Agree S S4:=g3.trans a4
 obtain ⟨S5,k5,n5,b5,q5⟩:=st_at (o:=0) (c':=[.int .i64 (((r191 a b s)).1),.int .i64 (((r191 a b s)).2)]) (v:=.agg #[.int .i64 (((r191 a b s)).1),.int .i64 (((r191 a b s)).2)]) tz23 b4 rfl rfl (show 0+2≤2 by decide) rfl
 have vs_5:=(q5 p_s (by omega)).trans vs_4
 have v1_5:=(q5 S.next (by omega)).trans v1_4
 have v2_5:=(q5 S1.next (by omega)).trans v2_4
 have g5:Agree S S5:=⟨by have:=(g4).1; omega,fun id hid=>(q5 id (by have:=(g4).1; omega)).trans ((g4).2 id hid)⟩
 have w6:=(hv_s_stops.agree g5).len (P:=Tryz.prog) (t:=24) Tryz.underlying24
 try simp (disch:=first|omega|assumption) only [E0_G,SY,setArgs,off,agreeKind,vals,allocV,boxed,ldA,rdCells,aggD,aField,Nat.reduceAdd,Nat.reduceSub,Nat.reduceLT,Nat.reduceBEq,TY_EvW13,e1,vd_2,vu_2,v1_2,e2,k3,e4,vs_5,k5,w6] at hz
 generalize hL7:Rec.loop _ _ _ _=L7 at hz
 obtain ⟨x7,t7,S7e,rfl,hQ7⟩:=loop_met hL7 (fun m t S'=>∃ (k:Nat) (lo:Int) (hi:Int),m+k=s.stops.length∧k≤s.stops.length∧t.get 4=some (.pointer (some ⟨S.next,0,none⟩))∧t.get 5=some (.pointer (some ⟨S1.next,0,none⟩))∧t.get 6=some (.pointer (some ⟨S3.next,0,none⟩))∧t.get 14=some (v_s_stops)∧t.get 15=some (.int .i64 (s.stops.length:Int))∧t.get 16=some (.int .i64 (k:Int))∧S'.heap.get S.next=some (.cells [.int .i64 a,.int .i64 b] 215 0 true true)∧S'.heap.get S1.next=some (.cells [.int .i64 0,.int .i64 0] 23 0 true true)∧S'.heap.get S3.next=some (.cells [.int .i64 lo,.int .i64 hi] 23 0 true true)∧Agree S S'∧S5.next≤S'.next∧R190_0 a b s (s.stops.drop k) k lo hi=R190_0 a b s s.stops 0 (((r191 a b s)).1) (((r191 a b s)).2))
  (fun x t S'=>x=.exit 0∧∃ (k:Nat) (lo:Int) (hi:Int),t.get 5=some (.pointer (some ⟨S1.next,0,none⟩))∧t.get 6=some (.pointer (some ⟨S3.next,0,none⟩))∧S'.heap.get S.next=some (.cells [.int .i64 a,.int .i64 b] 215 0 true true)∧S'.heap.get S1.next=some (.cells [.int .i64 0,.int .i64 0] 23 0 true true)∧S'.heap.get S3.next=some (.cells [.int .i64 lo,.int .i64 hi] 23 0 true true)∧Agree S S'∧S5.next≤S'.next∧k≤s.stops.length∧R190_0 a b s s.stops 0 (((r191 a b s)).1) (((r191 a b s)).2)=(lo,hi)) (s.stops.length - 0) (by refine ⟨0,((r191 a b s)).1,((r191 a b s)).2,?_,?_,?_,?_,?_,?_,?_,?_,v1_5,v2_5,b5,g5,Nat.le_refl _,rfl⟩<;>first|(simp only [SY,eq_self,Nat.reduceBEq]<;>rfl)|omega|assumption|(simp; omega)|simp) (by
   rintro m t S7 ⟨k,lo,hi,hi7_0,hi7_1,g7_4,g7_5,g7_6,g7_14,g7_15,g7_16,bb7_1,bb7_2,bb7_4,ga7,gn7,hd7⟩
   refine .run fun z he=>?_
   try simp (disch:=first|omega|assumption) only [E0_G,SY,off,agreeKind,Nat.reduceLT,Nat.reduceBEq,g7_15,g7_16] at he
   rcases dP ((k:Int)<(s.stops.length:Int)) with ⟨h8a,h8⟩|⟨h8a,h8⟩
   ·have hx7:s.stops[k]?=some (s.stops[k]'(by first|omega|simp; omega)):=List.getElem?_eq_getElem _
    generalize s.stops[k]'_=x7 at hx7
    obtain ⟨id9,of9,cc9,ty9,wr9,ex9,i9,j9,l9,q9⟩:=(hv_s_stops).at (P:=Tryz.prog) (t:=24) Tryz.underlying24 tz117 hx7
    have j9:=(ga7.2 id9 l9).trans j9
    have m9_0:cc9[of9]?=some (.int .i64 x7.at_):=q9 0 (show 0<3 by decide)
    have m9_1:cc9[of9+1]?=some (.int .i64 x7.lo):=q9 1 (show 1<3 by decide)
    have m9_2:cc9[of9+2]?=some (.int .i64 x7.hi):=q9 2 (show 2<3 by decide)
    obtain ⟨S10,e10,n10,b10,a10⟩:=push_open S7 (.cells [.int .i64 0,.int .i64 0,.int .i64 0] 117 0 true true)
    have v1_10:=(a10.2 S.next (by omega)).trans bb7_1
    have v2_10:=(a10.2 S1.next (by omega)).trans bb7_2
    have v4_10:=(a10.2 S3.next (by omega)).trans bb7_4
    have g10:Agree S S10:=ga7.trans a10
    obtain ⟨S11,k11,n11,b11,q11⟩:=st_at (o:=0) (c':=[.int .i64 x7.at_,.int .i64 x7.lo,.int .i64 x7.hi]) (v:=.agg #[.int .i64 x7.at_,.int .i64 x7.lo,.int .i64 x7.hi]) tz117 b10 rfl rfl (show 0+3≤3 by decide) rfl
    have v1_11:=(q11 S.next (by omega)).trans v1_10
    have v2_11:=(q11 S1.next (by omega)).trans v2_10
    have v4_11:=(q11 S3.next (by omega)).trans v4_10
    have g11:Agree S S11:=⟨by have:=(g10).1; omega,fun id hid=>(q11 id (by have:=(g10).1; omega)).trans ((g10).2 id hid)⟩
    try simp (disch:=first|omega|assumption) only [E0_G,SY,off,agreeKind,allocV,ldA,rdCells,aggD,aField,Nat.reduceAdd,Nat.reduceLT,Nat.reduceBEq,TY_EvW13,g7_4,g7_14,g7_16,h8a,i9,j9,m9_0,m9_1,m9_2,e10,v1_11,k11,b11] at he
    rcases dP (a≤x7.at_) with ⟨h12a,h12⟩|⟨h12a,h12⟩
    ·try simp (disch:=first|omega|assumption) only [E0_G,SY,off,agreeKind,ldA,aggD,aField,Nat.reduceAdd,Nat.reduceLT,Nat.reduceBEq,TY_EvW13,g7_4,v1_11,b11,h12a] at he
     rcases dP (x7.at_<b) with ⟨h13a,h13⟩|⟨h13a,h13⟩
     ·obtain ⟨S14,k14,n14,b14,q14⟩:=st_at (o:=0) (c':=[.int .i64 (IntKind.i64.wrap (lo+x7.lo)),.int .i64 hi]) (v:=.int .i64 (IntKind.i64.wrap (lo+x7.lo))) tz3 v4_11 rfl rfl (show 0+1≤2 by decide) rfl
      have v1_14:=(q14 S.next (by omega)).trans v1_11
      have v2_14:=(q14 S1.next (by omega)).trans v2_11
      have v10_14:=(q14 S7.next (by omega)).trans b11
      have g14:Agree S S14:=⟨by have:=(g11).1; omega,fun id hid=>(q14 id (by have:=(g11).1; omega)).trans ((g11).2 id hid)⟩
      obtain ⟨S15,k15,n15,b15,q15⟩:=st_at (o:=1) (c':=[.int .i64 (IntKind.i64.wrap (lo+x7.lo)),.int .i64 (IntKind.i64.wrap (hi+x7.hi))]) (v:=.int .i64 (IntKind.i64.wrap (hi+x7.hi))) tz3 b14 rfl rfl (show 1+1≤2 by decide) rfl
      have v1_15:=(q15 S.next (by omega)).trans v1_14
      have v2_15:=(q15 S1.next (by omega)).trans v2_14
      have g15:Agree S S15:=⟨by have:=(g14).1; omega,fun id hid=>(q15 id (by have:=(g14).1; omega)).trans ((g14).2 id hid)⟩
      have w16:IntKind.i64.wrap ((k:Int)+1)=((k+1:Nat):Int):=by rw [IntWalk.i64_in]<;>omega
      try simp (disch:=first|omega|assumption) only [E0_G,SY,off,agreeKind,ldA,aggD,aField,Nat.reduceAdd,Nat.reduceLT,Nat.reduceBEq,TY_EvW13,g7_6,g7_16,v4_11,b11,h13a,v10_14,k14,b14,k15,w16] at he
      rw [drop_cons' hx7] at hd7
      have hf:=(show _=(R190_0 a b s (s.stops.drop (k+1)) (k+1) (IntKind.i64.wrap (lo+x7.lo)) (IntKind.i64.wrap (hi+x7.hi)):Int × Int) from (if_pos h12).trans ((if_pos h13).trans (rfl))).symm.trans hd7
      refine .next he (m - 1) (by omega) ⟨(k+1),IntKind.i64.wrap (lo+x7.lo),IntKind.i64.wrap (hi+x7.hi),?_,?_,?_,?_,?_,?_,?_,?_,v1_15,v2_15,b15,g15,by omega,hf⟩<;>first|(simp only [SY,eq_self,Nat.reduceBEq,g7_4,g7_5,g7_6,g7_14,g7_15,g7_16]<;>rfl)|omega|assumption|(simp; omega)|simp
     have w17:IntKind.i64.wrap ((k:Int)+1)=((k+1:Nat):Int):=by rw [IntWalk.i64_in]<;>omega
     try simp (disch:=first|omega|assumption) only [E0_G,SY,off,agreeKind,Nat.reduceAdd,Nat.reduceLT,Nat.reduceBEq,g7_16,h13a,w17] at he
     rw [drop_cons' hx7] at hd7
     have hf:=(show _=(R190_0 a b s (s.stops.drop (k+1)) (k+1) lo hi:Int × Int) from (if_pos h12).trans ((if_neg h13).trans (rfl))).symm.trans hd7
     refine .next he (m - 1) (by omega) ⟨(k+1),lo,hi,?_,?_,?_,?_,?_,?_,?_,?_,v1_11,v2_11,v4_11,g11,by omega,hf⟩<;>first|(simp only [SY,eq_self,Nat.reduceBEq,g7_4,g7_5,g7_6,g7_14,g7_15,g7_16]<;>rfl)|omega|assumption|(simp; omega)|simp
    have w18:IntKind.i64.wrap ((k:Int)+1)=((k+1:Nat):Int):=by rw [IntWalk.i64_in]<;>omega
    try simp (disch:=first|omega|assumption) only [E0_G,SY,off,agreeKind,Nat.reduceAdd,Nat.reduceLT,Nat.reduceBEq,g7_16,h12a,w18] at he
    rw [drop_cons' hx7] at hd7
    have hf:=(show _=(R190_0 a b s (s.stops.drop (k+1)) (k+1) lo hi:Int × Int) from (if_neg h12).trans (rfl)).symm.trans hd7
    refine .next he (m - 1) (by omega) ⟨(k+1),lo,hi,?_,?_,?_,?_,?_,?_,?_,?_,v1_11,v2_11,v4_11,g11,by omega,hf⟩<;>first|(simp only [SY,eq_self,Nat.reduceBEq,g7_4,g7_5,g7_6,g7_14,g7_15,g7_16]<;>rfl)|omega|assumption|(simp; omega)|simp
   try simp (disch:=first|omega|assumption) only [SY,h8a] at he
   rw [List.drop_eq_nil_of_le (show s.stops.length≤k by omega)] at hd7
   have hf:=(show _=((lo,hi):Int × Int) from rfl).symm.trans hd7
   refine .exit he ⟨rfl,⟨k,lo,hi,?_,?_,bb7_1,bb7_2,bb7_4,ga7,by omega,?_,hf.symm⟩⟩<;>first|(simp only [SY,eq_self,Nat.reduceBEq,g7_5,g7_6]<;>rfl)|omega|assumption|(simp; omega)|simp)
 obtain ⟨rfl,k,lo,hi,ge7_5,ge7_6,be7_1,be7_2,be7_4,ge7,gm7,hj7_0,hR7⟩:=hQ7
 obtain rfl:lo=(R190_0 a b s s.stops 0 (((r191 a b s)).1) (((r191 a b s)).2)).1:=by rw [hR7]
 obtain rfl:hi=(R190_0 a b s s.stops 0 (((r191 a b s)).1) (((r191 a b s)).2)).2:=by rw [hR7]
 obtain ⟨S20,k20,n20,b20,q20⟩:=st_at (o:=0) (c':=[.int .i64 ((R190_0 a b s s.stops 0 (((r191 a b s)).1) (((r191 a b s)).2)).1),.int .i64 ((R190_0 a b s s.stops 0 (((r191 a b s)).1) (((r191 a b s)).2)).2)]) (v:=.agg #[.int .i64 ((R190_0 a b s s.stops 0 (((r191 a b s)).1) (((r191 a b s)).2)).1),.int .i64 ((R190_0 a b s s.stops 0 (((r191 a b s)).1) (((r191 a b s)).2)).2)]) tz23 be7_2 rfl rfl (show 0+2≤2 by decide) rfl
 have g20:Agree S S20:=⟨by have:=(ge7).1; omega,fun id hid=>(q20 id (by have:=(ge7).1; omega)).trans ((ge7).2 id hid)⟩
 try simp (disch:=first|omega|assumption) only [E0_G,SY,off,agreeKind,ldA,rdCells,aggD,eq_self,if_true,Nat.reduceAdd,Nat.reduceLT,Nat.reduceBEq,TY_EvW13,ge7_5,ge7_6,be7_4,k20,b20] at hz
 have hr:r190 a b s=((R190_0 a b s s.stops 0 (((r191 a b s)).1) (((r191 a b s)).2)).1,(R190_0 a b s s.stops 0 (((r191 a b s)).1) (((r191 a b s)).2)).2):=rfl
 exact fin hz (by rw [hr]) g20
end Clock
end Go.Proofs
end
