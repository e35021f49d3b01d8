import Derived.Test.YtohfdkdjfoonjaaGreatDoorEvH9
import Derived.Test.YtohfdkdjfoonjaaGreatDoorEvM3
set_option linter.unusedSimpArgs false
set_option linter.unusedVariables false
namespace Go.Proofs
namespace House
open Go Go.RowKit Go.Aev
set_option maxRecDepth 100000
theorem TY_EvH10:type_of% TY_EvH7:=TY_EvH7
theorem td_ok {t:Int} (h:0≤t):0≤Int.tdiv t 86400∧Int.tdiv t 86400 * 86400≤t∧t<Int.tdiv t 86400 * 86400+86400∧Int.tdiv t 86400=t / 86400:=by
 have e:Int.tdiv t 86400=t / 86400:=Int.tdiv_eq_ediv_of_nonneg h
 rw [e]; omega
theorem hit_le (day sec:Int):∀ (ys:List (Int × Sp)) (r:Int),hit day sec ys=some r→r≤day+sec:=by
 intro ys
 induction ys with
 | nil=>intro r e; cases e
 | cons b ys ih =>
  intro r e
  unfold hit at e
  split at e
  ·cases e; omega
  ·exact ih r e
theorem hit_ge (day sec:Int) (hs:0≤sec):∀ (ys:List (Int × Sp)) (r:Int),(∀ b ∈ ys,0≤b.2.hi)→hit day sec ys=some r→day≤r:=by
 intro ys
 induction ys with
 | nil=>intro r _ e; cases e
 | cons b ys ih =>
  intro r hb e
  have:=hb b (by simp)
  unfold hit at e
  split at e
  ·cases e; omega
  ·exact ih r (fun c hc=>hb c (by simp [hc])) e
theorem r138_le {l:List Sp} {ti:Int} (ht:0≤ti) (hb:Bd 86399 l):r138 l ti≤ti ∧ -86401≤r138 l ti:=by
 have hq:=r160_ok ht
 unfold r138
 split
 ·omega
 ·rename_i h0
  have hx:=hb (lget l (l.length - 1)) (List.mem_of_getElem? (lget_some (by omega)))
  cases e:hit (r160 ti).1 (r160 ti).2 (r167 l) with
  | some r =>
   have h1:=hit_le _ _ _ _ e
   have h2:=hit_ge _ _ hq.1 _ _ (fun b hb'=>by have:=hb b.2 (r167_mem l _ _ (by omega) b hb'); omega) e
   simp only; omega
  | none=>simp only; omega
def R91_0 (d:Dr) (ti:Int)  : Nat→Int→Sum (Int) (Unit)
 | 0,tv=>.inr ()
 | m'+1,tv=>(if 0≤tv then (if (r137 (d.shut:List Sp) (r138 d.hours tv)).2=true then (if ((((r137 (d.shut:List Sp) (r138 d.hours tv)).1).1) - 1)=tv then .inl tv else R91_0 d ti m' ((((r137 (d.shut:List Sp) (r138 d.hours tv)).1).1) - 1)) else (if (r138 d.hours tv)=tv then .inl tv else R91_0 d ti m' (r138 d.hours tv))) else .inr ())
def r91 (d:Dr) (ti:Int):Int:=(onSum (R91_0 d ti ((ti+1).toNat+1) ti) (fun (r4:Int)=>r4) (fun (_:Unit) => -1))
set_option maxHeartbeats 8000000 in
theorem c91 (d:Dr) (ti:Int) (hD:OkD d) (ht:ti≤1073741823) (S:AS) (v_d_hours:Value) (hv_d_hours:Lst S v_d_hours d.hours) (v_d_shut:Value) (hv_d_shut:Lst S v_d_shut d.shut) :
  ∃ S',(evL Tryz.prog E0).call 91 #[.agg #[v_d_hours,v_d_shut],.int .i64 ti] S=some (.int .i64 (r91 d ti),S')∧Agree S S':=by
 generalize hz:(evL Tryz.prog E0).call 91 _ _=z
 rw [L_call,evCall_said rfl Tryz.func91 rfl (by decide) Tryz.ntmps91 Tryz.results91] at hz
 obtain ⟨S1,e1,n1,b1,a1⟩:=push_open S (.cells [v_d_hours,v_d_shut] 98 0 true true)
 have g1:Agree S S1:=a1
 try simp only [E0_G,SY,setArgs,off,agreeKind,boxed,Nat.reduceAdd,Nat.reduceSub,Nat.reduceLT,Nat.reduceBEq,e1] at hz
 generalize hL2:Rec.loop _ _ _ _=L2 at hz
 obtain ⟨x2,t2,S2e,rfl,hQ2⟩:=loop_met hL2 (fun m t S'=>∃ (tv:Int),tv+1<(m:Int)∧1≤m∧tv≤1073741823∧t.get 1=some (.int .i64 tv)∧t.get 2=some (.pointer (some ⟨S.next,0,none⟩))∧S'.heap.get S.next=some (.cells [v_d_hours,v_d_shut] 98 0 true true)∧Agree S S'∧S1.next≤S'.next∧R91_0 d ti m tv=R91_0 d ti ((ti+1).toNat+1) ti)
  (fun x t S'=>(x=.exit 0∧∃ (tv:Int),S'.heap.get S.next=some (.cells [v_d_hours,v_d_shut] 98 0 true true)∧Agree S S'∧S1.next≤S'.next∧tv≤1073741823∧R91_0 d ti ((ti+1).toNat+1) ti=.inr ())∨(x=.ret∧∃ (r4:Int),t.get 4=some (.int .i64 r4)∧Agree S S'∧R91_0 d ti ((ti+1).toNat+1) ti=.inl (r4))) ((ti+1).toNat+1) (by refine ⟨ti,?_,?_,?_,?_,?_,b1,g1,Nat.le_refl _,rfl⟩<;>first|(simp only [SY,eq_self,Nat.reduceBEq]<;>rfl)|omega|assumption|(simp; omega)|simp) (by
   rintro m t S2 ⟨tv,hi2_0,hi2_1,hi2_2,g2_1,g2_2,bb2_1,ga2,gn2,hd2⟩
   refine .run fun z he=>?_
   try simp only [E0_G,SY,off,agreeKind,Nat.reduceAdd,Nat.reduceLT,Nat.reduceBEq,g2_1] at he
   rcases dP (0≤tv) with ⟨h3a,h3⟩|⟨h3a,h3⟩
   ·obtain ⟨S4,k4,a4⟩:=c138 (d.hours) tv hD.h hD.hl (by omega) S2 (v_d_hours) (hv_d_hours.agree ga2)
    have l4:=a4.1
    have v1_4:=(a4.2 S.next (by omega)).trans bb2_1
    have g4:Agree S S4:=ga2.trans a4
    have p4:=r138_le (l:=d.hours) (show 0≤tv by omega) hD.h
    obtain ⟨S5,k5,a5⟩:=c137 (d.shut:List Sp) (r138 d.hours tv) hD.sl S4 (v_d_shut) (hv_d_shut.agree g4)
    have l5:=a5.1
    have v1_5:=(a5.2 S.next (by omega)).trans v1_4
    have g5:Agree S S5:=g4.trans a5
    obtain ⟨S6,e6,n6,b6,a6⟩:=push_open S5 (.cells [.int .i64 0,.int .i64 0] 36 0 true true)
    have v1_6:=(a6.2 S.next (by omega)).trans v1_5
    have g6:Agree S S6:=g5.trans a6
    obtain ⟨S7,k7,n7,b7,q7⟩:=st_at (o:=0) (c':=[.int .i64 (((r137 (d.shut:List Sp) (r138 d.hours tv)).1).1),.int .i64 (((r137 (d.shut:List Sp) (r138 d.hours tv)).1).2)]) (v:=.agg #[.int .i64 (((r137 (d.shut:List Sp) (r138 d.hours tv)).1).1),.int .i64 (((r137 (d.shut:List Sp) (r138 d.hours tv)).1).2)]) tz36 b6 rfl rfl (show 0+2≤2 by decide) rfl
    have v1_7:=(q7 S.next (by omega)).trans v1_6
    have g7:Agree S S7:=⟨by have:=(g6).1; omega,fun id hid=>(q7 id (by have:=(g6).1; omega)).trans ((g6).2 id hid)⟩
    try simp (disch:=first|omega|assumption) only [E0_G,SY,off,agreeKind,vals,allocV,ldA,aggD,aField,aExtract,Nat.reduceAdd,Nat.reduceLT,Nat.reduceBEq,TY_EvH10,g2_1,g2_2,bb2_1,h3a,k4,v1_4,k5,e6,k7] at he
    rcases dB ((r137 (d.shut:List Sp) (r138 d.hours tv)).2) with ⟨h8a,h8⟩|⟨h8a,h8⟩
    ·have lq9:=r137_ok hD.s h8
     have w10:IntKind.i64.wrap ((((r137 (d.shut:List Sp) (r138 d.hours tv)).1).1) - 1)=(((r137 (d.shut:List Sp) (r138 d.hours tv)).1).1) - 1:=by rw [IntWalk.i64_in]; omega
     try simp (disch:=first|omega|assumption) only [E0_G,SY,off,agreeKind,ldA,aggD,aField,Nat.reduceAdd,Nat.reduceLT,Nat.reduceBEq,TY_EvH10,g2_1,b7,h8a,w10] at he
     rcases dP (((((r137 (d.shut:List Sp) (r138 d.hours tv)).1).1) - 1)=tv) with ⟨h11a,h11⟩|⟨h11a,h11⟩
     ·try simp only [E0_G,SY,off,agreeKind,Nat.reduceAdd,Nat.reduceLT,Nat.reduceBEq,g2_1,h11a] at he
      obtain ⟨m',rfl⟩:∃ m',m=m'+1:=⟨m - 1,by omega⟩
      have hf:=(show _=(.inl tv:Sum (Int) (Unit)) from (if_pos h3).trans ((if_pos h8).trans ((if_pos h11).trans (rfl)))).symm.trans hd2
      refine .ret he (.inr ⟨rfl,⟨tv,?_,g7,hf.symm⟩⟩)<;>first|(simp only [SY,eq_self,Nat.reduceBEq]<;>rfl)|omega|assumption|(simp; omega)|simp
     try simp only [E0_G,SY,off,agreeKind,Nat.reduceAdd,Nat.reduceLT,Nat.reduceBEq,h11a] at he
     obtain ⟨m',rfl⟩:∃ m',m=m'+1:=⟨m - 1,by omega⟩
     have hf:=(show _=(R91_0 d ti m' ((((r137 (d.shut:List Sp) (r138 d.hours tv)).1).1) - 1):Sum (Int) (Unit)) from (if_pos h3).trans ((if_pos h8).trans ((if_neg h11).trans (rfl)))).symm.trans hd2
     refine .next he m' (by omega) ⟨(((r137 (d.shut:List Sp) (r138 d.hours tv)).1).1) - 1,?_,?_,?_,?_,?_,v1_7,g7,by omega,hf⟩<;>first|(simp only [SY,eq_self,Nat.reduceBEq,g2_1,g2_2]<;>rfl)|omega|assumption|(simp; omega)|simp
    try simp only [E0_G,SY,off,agreeKind,Nat.reduceAdd,Nat.reduceLT,Nat.reduceBEq,g2_1,h8a] at he
    rcases dP ((r138 d.hours tv)=tv) with ⟨h12a,h12⟩|⟨h12a,h12⟩
    ·try simp only [E0_G,SY,off,agreeKind,Nat.reduceAdd,Nat.reduceLT,Nat.reduceBEq,g2_1,h12a] at he
     obtain ⟨m',rfl⟩:∃ m',m=m'+1:=⟨m - 1,by omega⟩
     have hf:=(show _=(.inl tv:Sum (Int) (Unit)) from (if_pos h3).trans ((if_neg h8).trans ((if_pos h12).trans (rfl)))).symm.trans hd2
     refine .ret he (.inr ⟨rfl,⟨tv,?_,g7,hf.symm⟩⟩)<;>first|(simp only [SY,eq_self,Nat.reduceBEq]<;>rfl)|omega|assumption|(simp; omega)|simp
    try simp only [E0_G,SY,off,agreeKind,Nat.reduceAdd,Nat.reduceLT,Nat.reduceBEq,h12a] at he
    obtain ⟨m',rfl⟩:∃ m',m=m'+1:=⟨m - 1,by omega⟩
    have hf:=(show _=(R91_0 d ti m' (r138 d.hours tv):Sum (Int) (Unit)) from (if_pos h3).trans ((if_neg h8).trans ((if_neg h12).trans (rfl)))).symm.trans hd2
    refine .next he m' (by omega) ⟨r138 d.hours tv,?_,?_,?_,?_,?_,v1_7,g7,by omega,hf⟩<;>first|(simp only [SY,eq_self,Nat.reduceBEq,g2_1,g2_2]<;>rfl)|omega|assumption|(simp; omega)|simp
   try simp only [SY,h3a] at he
   obtain ⟨m',rfl⟩:∃ m',m=m'+1:=⟨m - 1,by omega⟩
   have hf:=(show _=(.inr ():Sum (Int) (Unit)) from (if_neg h3).trans (rfl)).symm.trans hd2
   refine .exit he (.inl ⟨rfl,⟨tv,bb2_1,ga2,by omega,?_,hf.symm⟩⟩)<;>first|(simp only [SY,setArgs,off,agreeKind,partVals,vals,allocV,boxed,ldA,rdCells,oneB,aggD,aField,aFieldV,aExtract,eq_self,ne_eq,if_true,if_false,not_false_eq_true,Nat.reduceAdd,Nat.reduceSub,Nat.reduceMul,Nat.reduceLT,Nat.reduceEqDiff,Nat.reduceBEq,reduceIte,Int.reduceEq,Int.reduceLT,Int.reduceLE,reduceCtorEq,g2_1,g2_2]<;>rfl)|omega|assumption|(simp; omega)|simp)
 rcases hQ2 with ⟨rfl,hQ2⟩|⟨rfl,hQ2⟩
 ·obtain ⟨tv,be2_1,ge2,gm2,hj2_0,hR2⟩:=hQ2
  try simp only [E0_G,SY,off,agreeKind,eq_self,if_true,Nat.reduceLT,Nat.reduceBEq] at hz
  have hr:r91 d ti = -1:=(onSum_inr hR2).trans (rfl)
  exact fin hz (by rw [hr]) ge2
 obtain ⟨r4,ge2_4,ge2,hR2⟩:=hQ2
 try simp only [SY,ge2_4] at hz
 have hr:r91 d ti=r4:=(onSum_inl hR2).trans (rfl)
 exact fin hz (by rw [hr]) ge2
def R90_1 (d:Dr) (ti:Int) (kv:Nat) (b0:Int):List Sp→Int→Int
 | [],b1=>b1
 | x8 :: l',b1=>(if ti<((((Int.tdiv ti 86400) * 86400)+((kv:Int) * 86400))+x8.lo) then (if ((((Int.tdiv ti 86400) * 86400)+((kv:Int) * 86400))+x8.lo)<b1 then (if (r86 d ((((Int.tdiv ti 86400) * 86400)+((kv:Int) * 86400))+x8.lo))=true then R90_1 d ti kv b0 l' ((((Int.tdiv ti 86400) * 86400)+((kv:Int) * 86400))+x8.lo) else R90_1 d ti kv b0 l' b1) else R90_1 d ti kv b0 l' b1) else R90_1 d ti kv b0 l' b1)
def R90_0 (d:Dr) (ti:Int)  : Nat→Nat→Int→Int
 | 0,kv,b0=>b0
 | m'+1,kv,b0=>(if (kv:Int)<2 then R90_0 d ti m' (kv+1) (R90_1 d ti kv b0 d.hours b0) else b0)
def R90_4 (d:Dr) (ti:Int) (jv:Nat) (b2:Int) (x27:Sp) (k3:Nat) (b3:Int):Nat→Nat→Int→Int
 | 0,j4,b4=>b4
 | m'+1,j4,b4=>(if (j4:Int)<2 then (if ti<(((((Int.tdiv (x27.hi+1) 86400) * 86400)+86400) - ((j4:Int) * 86400))+((lget d.hours k3).lo)) then (if (((((Int.tdiv (x27.hi+1) 86400) * 86400)+86400) - ((j4:Int) * 86400))+((lget d.hours k3).lo))<b4 then (if (r86 d (((((Int.tdiv (x27.hi+1) 86400) * 86400)+86400) - ((j4:Int) * 86400))+((lget d.hours k3).lo)))=true then R90_4 d ti jv b2 x27 k3 b3 m' (j4+1) (((((Int.tdiv (x27.hi+1) 86400) * 86400)+86400) - ((j4:Int) * 86400))+((lget d.hours k3).lo)) else R90_4 d ti jv b2 x27 k3 b3 m' (j4+1) b4) else R90_4 d ti jv b2 x27 k3 b3 m' (j4+1) b4) else R90_4 d ti jv b2 x27 k3 b3 m' (j4+1) b4) else b4)
def R90_3 (d:Dr) (ti:Int) (jv:Nat) (b2:Int) (x27:Sp):List Sp→Nat→Int→Int
 | [],k3,b3=>b3
 | _x :: l',k3,b3=>R90_3 d ti jv b2 x27 l' (k3+1) (R90_4 d ti jv b2 x27 k3 b3 3 0 b3)
def R90_2 (d:Dr) (ti:Int)  : List Sp→Nat→Int→Int
 | [],jv,b2=>b2
 | x27 :: l',jv,b2=>(if ti<(x27.hi+1) then (if (x27.hi+1)<b2 then (if (r86 d (x27.hi+1))=true then R90_2 d ti l' (jv+1) (R90_3 d ti jv b2 x27 d.hours 0 (x27.hi+1)) else R90_2 d ti l' (jv+1) (R90_3 d ti jv b2 x27 d.hours 0 b2)) else R90_2 d ti l' (jv+1) (R90_3 d ti jv b2 x27 d.hours 0 b2)) else R90_2 d ti l' (jv+1) (R90_3 d ti jv b2 x27 d.hours 0 b2))
def r90 (d:Dr) (ti:Int):Int:=(if (r86 d ti)=true then ti else R90_2 d ti d.shut 0 (R90_0 d ti 3 0 1073741824))
set_option maxHeartbeats 16000000 in
theorem c90 (d:Dr) (ti:Int) (hD:OkD d) (ht:0≤ti∧ti≤1073741823) (S:AS) (v_d_hours:Value) (hv_d_hours:Lst S v_d_hours d.hours) (v_d_shut:Value) (hv_d_shut:Lst S v_d_shut d.shut) :
  ∃ S',(evL Tryz.prog E0).call 90 #[.agg #[v_d_hours,v_d_shut],.int .i64 ti] S=some (.int .i64 (r90 d ti),S')∧Agree S S':=by
 have hdh:=hD.hl; have hds:=hD.sl
 generalize hz:(evL Tryz.prog E0).call 90 _ _=z
 rw [L_call,evCall_said rfl Tryz.func90 rfl (by decide) Tryz.ntmps90 Tryz.results90] at hz
 obtain ⟨S1,e1,n1,b1,a1⟩:=push_open S (.cells [v_d_hours,v_d_shut] 98 0 true true)
 have g1:Agree S S1:=a1
 obtain ⟨S2,k2,a2⟩:=c86 d ti hD S1 (v_d_hours) (hv_d_hours.agree g1) (v_d_shut) (hv_d_shut.agree g1)
 have l2:=a2.1
 have v1_2:=(a2.2 S.next (by omega)).trans b1
 have g2:Agree S S2:=g1.trans a2
 try simp only [E0_G,SY,setArgs,off,agreeKind,vals,boxed,ldA,rdCells,aggD,Nat.reduceAdd,Nat.reduceSub,Nat.reduceLT,Nat.reduceBEq,TY_EvH10,e1,b1,k2] at hz
 rcases dB ((r86 d ti)) with ⟨h3a,h3⟩|⟨h3a,h3⟩
 ·try simp only [E0_G,SY,off,agreeKind,Nat.reduceAdd,Nat.reduceLT,Nat.reduceBEq,h3a] at hz
  have hr:r90 d ti=ti:=(if_pos h3).trans (rfl)
  exact fin hz (by rw [hr]) g2
 have w4:IntKind.i64.wrap (Int.tdiv ti 86400)=Int.tdiv ti 86400:=by have:=td_ok (t:=ti) (by omega); rw [IntWalk.i64_in]; omega
 have q4:=td_ok (t:=ti) (by omega)
 have w5:IntKind.i64.wrap ((Int.tdiv ti 86400) * 86400)=(Int.tdiv ti 86400) * 86400:=by rw [IntWalk.i64_in]; omega
 try simp only [E0_G,SY,off,agreeKind,Nat.reduceAdd,Nat.reduceLT,Nat.reduceBEq,Int.reduceEq,h3a,w4,w5] at hz
 generalize hL6:Rec.loop _ _ _ _=L6 at hz
 obtain ⟨x6,t6,S6e,rfl,hQ6⟩:=loop_met hL6 (fun m t S'=>∃ (kv:Nat) (b0:Int),m+kv=3∧kv≤2∧0≤b0∧b0≤1073741824∧t.get 1=some (.int .i64 ti)∧t.get 2=some (.pointer (some ⟨S.next,0,none⟩))∧t.get 6=some (.int .i64 b0)∧t.get 7=some (.int .i64 ((Int.tdiv ti 86400) * 86400))∧t.get 8=some (.int .i64 (kv:Int))∧S'.heap.get S.next=some (.cells [v_d_hours,v_d_shut] 98 0 true true)∧Agree S S'∧S2.next≤S'.next∧R90_0 d ti m kv b0=R90_0 d ti 3 0 1073741824)
  (fun x t S'=>x=.exit 0∧∃ (kv:Nat) (b0:Int),t.get 1=some (.int .i64 ti)∧t.get 2=some (.pointer (some ⟨S.next,0,none⟩))∧t.get 6=some (.int .i64 b0)∧S'.heap.get S.next=some (.cells [v_d_hours,v_d_shut] 98 0 true true)∧Agree S S'∧S2.next≤S'.next∧kv≤2∧0≤b0∧b0≤1073741824∧R90_0 d ti 3 0 1073741824=b0) 3 (by refine ⟨0,1073741824,?_,?_,?_,?_,?_,?_,?_,?_,?_,v1_2,g2,Nat.le_refl _,rfl⟩<;>first|(simp only [SY,eq_self,Nat.reduceBEq,Int.reduceLE]<;>rfl)|omega|assumption|(simp; omega)|simp) (by
   rintro m t S6 ⟨kv,b0,hi6_0,hi6_1,hi6_2,hi6_3,g6_1,g6_2,g6_6,g6_7,g6_8,bb6_1,ga6,gn6,hd6⟩
   refine .run fun z he=>?_
   try simp only [E0_G,SY,off,agreeKind,Nat.reduceAdd,Nat.reduceLT,Nat.reduceBEq,g6_8] at he
   rcases dP ((kv:Int)<2) with ⟨h7a,h7⟩|⟨h7a,h7⟩
   ·try simp only [E0_G,SY,off,agreeKind,Nat.reduceLT,h7a] at he
    generalize hL8:Rec.loop _ _ _ _=L8 at he
    obtain ⟨x8,t8,S8e,rfl,hQ8⟩:=loop_met hL8 (fun m t S'=>∃ (iv:Nat) (b1:Int),m+iv=d.hours.length∧kv<2∧0≤b1∧b1≤1073741824∧iv≤d.hours.length∧t.get 1=some (.int .i64 ti)∧t.get 2=some (.pointer (some ⟨S.next,0,none⟩))∧t.get 6=some (.int .i64 b1)∧t.get 7=some (.int .i64 ((Int.tdiv ti 86400) * 86400))∧t.get 8=some (.int .i64 (kv:Int))∧t.get 9=some (.int .i64 (iv:Int))∧S'.heap.get S.next=some (.cells [v_d_hours,v_d_shut] 98 0 true true)∧Agree S S'∧S6.next≤S'.next∧R90_1 d ti kv b0 (d.hours.drop iv) b1=R90_1 d ti kv b0 d.hours b0)
     (fun x t S'=>x=.exit 2∧∃ (iv:Nat) (b1:Int),t.get 1=some (.int .i64 ti)∧t.get 2=some (.pointer (some ⟨S.next,0,none⟩))∧t.get 6=some (.int .i64 b1)∧t.get 7=some (.int .i64 ((Int.tdiv ti 86400) * 86400))∧t.get 8=some (.int .i64 (kv:Int))∧S'.heap.get S.next=some (.cells [v_d_hours,v_d_shut] 98 0 true true)∧Agree S S'∧S6.next≤S'.next∧kv<2∧0≤b1∧b1≤1073741824∧iv≤d.hours.length∧R90_1 d ti kv b0 d.hours b0=b1) (d.hours.length - 0) (by refine ⟨0,b0,?_,?_,?_,?_,?_,?_,?_,?_,?_,?_,?_,bb6_1,ga6,Nat.le_refl _,rfl⟩<;>first|(simp only [SY,eq_self,Nat.reduceBEq,g6_1,g6_2,g6_6,g6_7,g6_8]<;>rfl)|omega|assumption|(simp; omega)|simp) (by
      rintro m t S8 ⟨iv,b1,hi8_0,hi8_1,hi8_2,hi8_3,hi8_4,g8_1,g8_2,g8_6,g8_7,g8_8,g8_9,bb8_1,ga8,gn8,hd8⟩
      refine .run fun z he=>?_
      have w9:=(hv_d_hours.agree ga8).len (P:=Tryz.prog) (t:=40) Tryz.underlying40
      try simp (disch:=first|omega|assumption) only [E0_G,SY,off,agreeKind,ldA,aggD,aField,Nat.reduceAdd,Nat.reduceLT,Nat.reduceBEq,TY_EvH10,g8_2,g8_9,bb8_1,w9] at he
      rcases dP ((iv:Int)<(d.hours.length:Int)) with ⟨h10a,h10⟩|⟨h10a,h10⟩
      ·have w11:IntKind.i64.wrap ((kv:Int) * 86400)=(kv:Int) * 86400:=by rw [IntWalk.i64_in]; omega
       have w12:IntKind.i64.wrap (((Int.tdiv ti 86400) * 86400)+((kv:Int) * 86400))=((Int.tdiv ti 86400) * 86400)+((kv:Int) * 86400):=by rw [IntWalk.i64_in]; omega
       have hx8:d.hours[iv]?=some (d.hours[iv]'(by first|omega|simp; omega)):=List.getElem?_eq_getElem _
       generalize d.hours[iv]'_=x8 at hx8
       have eb14:=hD.h _ (List.mem_of_getElem? hx8)
       obtain ⟨id13,of13,cc13,ty13,wr13,ex13,i13,j13,l13,q13⟩:=(hv_d_hours).at (P:=Tryz.prog) (t:=40) Tryz.underlying40 tz36 hx8
       have j13:=(ga8.2 id13 l13).trans j13
       have m13_0:cc13[of13]?=some (.int .i64 x8.lo):=q13 0 (show 0<2 by decide)
       have m13_1:cc13[of13+1]?=some (.int .i64 x8.hi):=q13 1 (show 1<2 by decide)
       have w15:IntKind.i64.wrap ((((Int.tdiv ti 86400) * 86400)+((kv:Int) * 86400))+x8.lo)=(((Int.tdiv ti 86400) * 86400)+((kv:Int) * 86400))+x8.lo:=by rw [IntWalk.i64_in]; omega
       try simp (disch:=first|omega|assumption) only [E0_G,SY,off,agreeKind,ldA,aggD,aField,Nat.reduceAdd,Nat.reduceLT,Nat.reduceBEq,TY_EvH10,g8_1,g8_2,g8_7,g8_8,g8_9,bb8_1,h10a,w11,w12,i13,j13,m13_0,w15] at he
       rcases dP (ti<((((Int.tdiv ti 86400) * 86400)+((kv:Int) * 86400))+x8.lo)) with ⟨h16a,h16⟩|⟨h16a,h16⟩
       ·try simp only [E0_G,SY,off,agreeKind,Nat.reduceAdd,Nat.reduceLT,Nat.reduceBEq,g8_6,h16a] at he
        rcases dP (((((Int.tdiv ti 86400) * 86400)+((kv:Int) * 86400))+x8.lo)<b1) with ⟨h17a,h17⟩|⟨h17a,h17⟩
        ·obtain ⟨S18,k18,a18⟩:=c86 d ((((Int.tdiv ti 86400) * 86400)+((kv:Int) * 86400))+x8.lo) hD S8 (v_d_hours) (hv_d_hours.agree ga8) (v_d_shut) (hv_d_shut.agree ga8)
         have l18:=a18.1
         have v1_18:=(a18.2 S.next (by omega)).trans bb8_1
         have g18:Agree S S18:=ga8.trans a18
         try simp only [E0_G,SY,off,agreeKind,vals,ldA,rdCells,aggD,Nat.reduceAdd,Nat.reduceLT,Nat.reduceBEq,TY_EvH10,g8_2,bb8_1,h17a,k18] at he
         rcases dB ((r86 d ((((Int.tdiv ti 86400) * 86400)+((kv:Int) * 86400))+x8.lo))) with ⟨h19a,h19⟩|⟨h19a,h19⟩
         ·have w20:IntKind.i64.wrap ((iv:Int)+1)=((iv+1:Nat):Int):=by rw [IntWalk.i64_in]<;>omega
          try simp only [E0_G,SY,off,agreeKind,Nat.reduceAdd,Nat.reduceLT,Nat.reduceBEq,g8_9,h19a,w20] at he
          rw [drop_cons' hx8] at hd8
          have hf:=(show _=(R90_1 d ti kv b0 (d.hours.drop (iv+1)) ((((Int.tdiv ti 86400) * 86400)+((kv:Int) * 86400))+x8.lo):Int) from (if_pos h16).trans ((if_pos h17).trans ((if_pos h19).trans (rfl)))).symm.trans hd8
          refine .next he (m - 1) (by omega) ⟨(iv+1),(((Int.tdiv ti 86400) * 86400)+((kv:Int) * 86400))+x8.lo,?_,?_,?_,?_,?_,?_,?_,?_,?_,?_,?_,v1_18,g18,by omega,hf⟩<;>first|(simp only [SY,eq_self,Nat.reduceBEq,g8_1,g8_2,g8_6,g8_7,g8_8,g8_9]<;>rfl)|omega|assumption|(simp; omega)|simp
         have w21:IntKind.i64.wrap ((iv:Int)+1)=((iv+1:Nat):Int):=by rw [IntWalk.i64_in]<;>omega
         try simp only [E0_G,SY,off,agreeKind,Nat.reduceAdd,Nat.reduceLT,Nat.reduceBEq,g8_9,h19a,w21] at he
         rw [drop_cons' hx8] at hd8
         have hf:=(show _=(R90_1 d ti kv b0 (d.hours.drop (iv+1)) b1:Int) from (if_pos h16).trans ((if_pos h17).trans ((if_neg h19).trans (rfl)))).symm.trans hd8
         refine .next he (m - 1) (by omega) ⟨(iv+1),b1,?_,?_,?_,?_,?_,?_,?_,?_,?_,?_,?_,v1_18,g18,by omega,hf⟩<;>first|(simp only [SY,eq_self,Nat.reduceBEq,g8_1,g8_2,g8_6,g8_7,g8_8,g8_9]<;>rfl)|omega|assumption|(simp; omega)|simp
        have w22:IntKind.i64.wrap ((iv:Int)+1)=((iv+1:Nat):Int):=by rw [IntWalk.i64_in]<;>omega
        try simp only [E0_G,SY,off,agreeKind,Nat.reduceAdd,Nat.reduceLT,Nat.reduceBEq,g8_9,h17a,w22] at he
        rw [drop_cons' hx8] at hd8
        have hf:=(show _=(R90_1 d ti kv b0 (d.hours.drop (iv+1)) b1:Int) from (if_pos h16).trans ((if_neg h17).trans (rfl))).symm.trans hd8
        refine .next he (m - 1) (by omega) ⟨(iv+1),b1,?_,?_,?_,?_,?_,?_,?_,?_,?_,?_,?_,bb8_1,ga8,by omega,hf⟩<;>first|(simp only [SY,eq_self,Nat.reduceBEq,g8_1,g8_2,g8_6,g8_7,g8_8,g8_9]<;>rfl)|omega|assumption|(simp; omega)|simp
       have w23:IntKind.i64.wrap ((iv:Int)+1)=((iv+1:Nat):Int):=by rw [IntWalk.i64_in]<;>omega
       try simp only [E0_G,SY,off,agreeKind,Nat.reduceAdd,Nat.reduceLT,Nat.reduceBEq,g8_9,h16a,w23] at he
       rw [drop_cons' hx8] at hd8
       have hf:=(show _=(R90_1 d ti kv b0 (d.hours.drop (iv+1)) b1:Int) from (if_neg h16).trans (rfl)).symm.trans hd8
       refine .next he (m - 1) (by omega) ⟨(iv+1),b1,?_,?_,?_,?_,?_,?_,?_,?_,?_,?_,?_,bb8_1,ga8,by omega,hf⟩<;>first|(simp only [SY,eq_self,Nat.reduceBEq,g8_1,g8_2,g8_6,g8_7,g8_8,g8_9]<;>rfl)|omega|assumption|(simp; omega)|simp
      try simp only [SY,h10a] at he
      rw [List.drop_eq_nil_of_le (show d.hours.length≤iv by omega)] at hd8
      have hf:=(show _=(b1:Int) from rfl).symm.trans hd8
      refine .exit he ⟨rfl,⟨iv,b1,?_,?_,?_,?_,?_,bb8_1,ga8,by omega,?_,?_,?_,?_,hf.symm⟩⟩<;>first|(simp only [SY,eq_self,Nat.reduceBEq,g8_1,g8_2,g8_6,g8_7,g8_8]<;>rfl)|omega|assumption|(simp; omega)|simp)
    obtain ⟨rfl,iv,b1,ge8_1,ge8_2,ge8_6,ge8_7,ge8_8,be8_1,ge8,gm8,hj8_0,hj8_1,hj8_2,hj8_3,hR8⟩:=hQ8
    obtain rfl:b1=R90_1 d ti kv b0 d.hours b0:=hR8.symm
    have w25:IntKind.i64.wrap ((kv:Int)+1)=((kv+1:Nat):Int):=by rw [IntWalk.i64_in]<;>omega
    try simp only [E0_G,SY,off,agreeKind,eq_self,if_true,Nat.reduceAdd,Nat.reduceLT,Nat.reduceBEq,ge8_8,w25] at he
    obtain ⟨m',rfl⟩:∃ m',m=m'+1:=⟨m - 1,by omega⟩
    have hf:=(show _=(R90_0 d ti m' (kv+1) (R90_1 d ti kv b0 d.hours b0):Int) from (if_pos h7).trans (rfl)).symm.trans hd6
    refine .next he m' (by omega) ⟨(kv+1),R90_1 d ti kv b0 d.hours b0,?_,?_,?_,?_,?_,?_,?_,?_,?_,be8_1,ge8,by omega,hf⟩<;>first|(simp only [SY,eq_self,Nat.reduceBEq,ge8_1,ge8_2,ge8_6,ge8_7,ge8_8]<;>rfl)|omega|assumption|(simp; omega)|simp
   try simp only [SY,h7a] at he
   obtain ⟨m',rfl⟩:∃ m',m=m'+1:=⟨m - 1,by omega⟩
   have hf:=(show _=(b0:Int) from (if_neg h7).trans (rfl)).symm.trans hd6
   refine .exit he ⟨rfl,⟨kv,b0,?_,?_,?_,bb6_1,ga6,by omega,?_,?_,?_,hf.symm⟩⟩<;>first|(simp only [SY,eq_self,Nat.reduceBEq,g6_1,g6_2,g6_6]<;>rfl)|omega|assumption|(simp; omega)|simp)
 obtain ⟨rfl,kv,b0,ge6_1,ge6_2,ge6_6,be6_1,ge6,gm6,hj6_0,hj6_1,hj6_2,hR6⟩:=hQ6
 obtain rfl:b0=R90_0 d ti 3 0 1073741824:=hR6.symm
 try simp only [E0_G,SY,off,agreeKind,eq_self,if_true,Nat.reduceLT] at hz
 generalize hL27:Rec.loop _ _ _ _=L27 at hz
 obtain ⟨x27,t27,S27e,rfl,hQ27⟩:=loop_met hL27 (fun m t S'=>∃ (jv:Nat) (b2:Int),m+jv=d.shut.length∧0≤b2∧b2≤1073741824∧jv≤d.shut.length∧t.get 1=some (.int .i64 ti)∧t.get 2=some (.pointer (some ⟨S.next,0,none⟩))∧t.get 6=some (.int .i64 b2)∧t.get 12=some (.int .i64 (jv:Int))∧S'.heap.get S.next=some (.cells [v_d_hours,v_d_shut] 98 0 true true)∧Agree S S'∧S6e.next≤S'.next∧R90_2 d ti (d.shut.drop jv) jv b2=R90_2 d ti d.shut 0 (R90_0 d ti 3 0 1073741824))
  (fun x t S'=>x=.exit 4∧∃ (jv:Nat) (b2:Int),t.get 6=some (.int .i64 b2)∧S'.heap.get S.next=some (.cells [v_d_hours,v_d_shut] 98 0 true true)∧Agree S S'∧S6e.next≤S'.next∧0≤b2∧b2≤1073741824∧jv≤d.shut.length∧R90_2 d ti d.shut 0 (R90_0 d ti 3 0 1073741824)=b2) (d.shut.length - 0) (by refine ⟨0,R90_0 d ti 3 0 1073741824,?_,?_,?_,?_,?_,?_,?_,?_,be6_1,ge6,Nat.le_refl _,rfl⟩<;>first|(simp only [SY,eq_self,Nat.reduceBEq,ge6_1,ge6_2,ge6_6]<;>rfl)|omega|assumption|(simp; omega)|simp) (by
   rintro m t S27 ⟨jv,b2,hi27_0,hi27_1,hi27_2,hi27_3,g27_1,g27_2,g27_6,g27_12,bb27_1,ga27,gn27,hd27⟩
   refine .run fun z he=>?_
   have w28:=(hv_d_shut.agree ga27).len (P:=Tryz.prog) (t:=40) Tryz.underlying40
   try simp (disch:=first|omega|assumption) only [E0_G,SY,off,agreeKind,ldA,aggD,aField,Nat.reduceAdd,Nat.reduceLT,Nat.reduceBEq,TY_EvH10,g27_2,g27_12,bb27_1,w28] at he
   rcases dP ((jv:Int)<(d.shut.length:Int)) with ⟨h29a,h29⟩|⟨h29a,h29⟩
   ·have hx27:d.shut[jv]?=some (d.shut[jv]'(by first|omega|simp; omega)):=List.getElem?_eq_getElem _
    generalize d.shut[jv]'_=x27 at hx27
    have eb31:=hD.s _ (List.mem_of_getElem? hx27)
    obtain ⟨id30,of30,cc30,ty30,wr30,ex30,i30,j30,l30,q30⟩:=(hv_d_shut).at (P:=Tryz.prog) (t:=40) Tryz.underlying40 tz36 hx27
    have j30:=(ga27.2 id30 l30).trans j30
    have m30_0:cc30[of30]?=some (.int .i64 x27.lo):=q30 0 (show 0<2 by decide)
    have m30_1:cc30[of30+1]?=some (.int .i64 x27.hi):=q30 1 (show 1<2 by decide)
    have w32:IntKind.i64.wrap (x27.hi+1)=x27.hi+1:=by rw [IntWalk.i64_in]; omega
    try simp (disch:=first|omega|assumption) only [E0_G,SY,off,agreeKind,ldA,aggD,aField,Nat.reduceAdd,Nat.reduceLT,Nat.reduceBEq,TY_EvH10,g27_1,g27_2,g27_12,bb27_1,h29a,i30,j30,m30_1,w32] at he
    rcases dP (ti<(x27.hi+1)) with ⟨h33a,h33⟩|⟨h33a,h33⟩
    ·try simp only [E0_G,SY,off,agreeKind,Nat.reduceAdd,Nat.reduceLT,Nat.reduceBEq,g27_6,h33a] at he
     rcases dP ((x27.hi+1)<b2) with ⟨h34a,h34⟩|⟨h34a,h34⟩
     ·obtain ⟨S35,k35,a35⟩:=c86 d (x27.hi+1) hD S27 (v_d_hours) (hv_d_hours.agree ga27) (v_d_shut) (hv_d_shut.agree ga27)
      have l35:=a35.1
      have v1_35:=(a35.2 S.next (by omega)).trans bb27_1
      have g35:Agree S S35:=ga27.trans a35
      try simp only [E0_G,SY,off,agreeKind,vals,ldA,rdCells,aggD,Nat.reduceAdd,Nat.reduceLT,Nat.reduceBEq,TY_EvH10,g27_2,bb27_1,h34a,k35] at he
      rcases dB ((r86 d (x27.hi+1))) with ⟨h36a,h36⟩|⟨h36a,h36⟩
      ·have w37:IntKind.i64.wrap (Int.tdiv (x27.hi+1) 86400)=Int.tdiv (x27.hi+1) 86400:=by have:=td_ok (t:=(x27.hi+1)) (by omega); rw [IntWalk.i64_in]; omega
       have q37:=td_ok (t:=(x27.hi+1)) (by omega)
       have w38:IntKind.i64.wrap ((Int.tdiv (x27.hi+1) 86400) * 86400)=(Int.tdiv (x27.hi+1) 86400) * 86400:=by rw [IntWalk.i64_in]; omega
       have w39:IntKind.i64.wrap (((Int.tdiv (x27.hi+1) 86400) * 86400)+86400)=((Int.tdiv (x27.hi+1) 86400) * 86400)+86400:=by rw [IntWalk.i64_in]; omega
       try simp only [E0_G,SY,off,agreeKind,Nat.reduceAdd,Nat.reduceLT,Nat.reduceBEq,Int.reduceEq,h36a,w37,w38,w39] at he
       generalize hL40:Rec.loop _ _ _ _=L40 at he
       obtain ⟨x40,t40,S40e,rfl,hQ40⟩:=loop_met hL40 (fun m t S'=>∃ (k3:Nat) (b3:Int),m+k3=d.hours.length∧0≤b3∧b3≤1073741824∧k3≤d.hours.length∧t.get 1=some (.int .i64 ti)∧t.get 2=some (.pointer (some ⟨S.next,0,none⟩))∧t.get 6=some (.int .i64 b3)∧t.get 12=some (.int .i64 (jv:Int))∧t.get 15=some (.int .i64 (((Int.tdiv (x27.hi+1) 86400) * 86400)+86400))∧t.get 16=some (.int .i64 (k3:Int))∧S'.heap.get S.next=some (.cells [v_d_hours,v_d_shut] 98 0 true true)∧Agree S S'∧S35.next≤S'.next∧R90_3 d ti jv b2 x27 (d.hours.drop k3) k3 b3=R90_3 d ti jv b2 x27 d.hours 0 (x27.hi+1))
        (fun x t S'=>x=.exit 6∧∃ (k3:Nat) (b3:Int),t.get 1=some (.int .i64 ti)∧t.get 2=some (.pointer (some ⟨S.next,0,none⟩))∧t.get 6=some (.int .i64 b3)∧t.get 12=some (.int .i64 (jv:Int))∧S'.heap.get S.next=some (.cells [v_d_hours,v_d_shut] 98 0 true true)∧Agree S S'∧S35.next≤S'.next∧0≤b3∧b3≤1073741824∧k3≤d.hours.length∧R90_3 d ti jv b2 x27 d.hours 0 (x27.hi+1)=b3) (d.hours.length - 0) (by refine ⟨0,x27.hi+1,?_,?_,?_,?_,?_,?_,?_,?_,?_,?_,v1_35,g35,Nat.le_refl _,rfl⟩<;>first|(simp only [SY,eq_self,Nat.reduceBEq,g27_1,g27_2,g27_6,g27_12]<;>rfl)|omega|assumption|(simp; omega)|simp) (by
         rintro m t S40 ⟨k3,b3,hi40_0,hi40_1,hi40_2,hi40_3,g40_1,g40_2,g40_6,g40_12,g40_15,g40_16,bb40_1,ga40,gn40,hd40⟩
         refine .run fun z he=>?_
         have w41:=(hv_d_hours.agree ga40).len (P:=Tryz.prog) (t:=40) Tryz.underlying40
         try simp (disch:=first|omega|assumption) only [E0_G,SY,off,agreeKind,ldA,aggD,aField,Nat.reduceAdd,Nat.reduceLT,Nat.reduceBEq,TY_EvH10,g40_2,g40_16,bb40_1,w41] at he
         rcases dP ((k3:Int)<(d.hours.length:Int)) with ⟨h42a,h42⟩|⟨h42a,h42⟩
         ·try simp only [E0_G,SY,off,agreeKind,Nat.reduceLT,h42a] at he
          generalize hL43:Rec.loop _ _ _ _=L43 at he
          obtain ⟨x43,t43,S43e,rfl,hQ43⟩:=loop_met hL43 (fun m t S'=>∃ (j4:Nat) (b4:Int),m+j4=3∧j4≤2∧0≤b4∧b4≤1073741824∧t.get 1=some (.int .i64 ti)∧t.get 2=some (.pointer (some ⟨S.next,0,none⟩))∧t.get 6=some (.int .i64 b4)∧t.get 12=some (.int .i64 (jv:Int))∧t.get 15=some (.int .i64 (((Int.tdiv (x27.hi+1) 86400) * 86400)+86400))∧t.get 16=some (.int .i64 (k3:Int))∧t.get 17=some (.int .i64 (j4:Int))∧S'.heap.get S.next=some (.cells [v_d_hours,v_d_shut] 98 0 true true)∧Agree S S'∧S40.next≤S'.next∧R90_4 d ti jv b2 x27 k3 b3 m j4 b4=R90_4 d ti jv b2 x27 k3 b3 3 0 b3)
           (fun x t S'=>x=.exit 8∧∃ (j4:Nat) (b4:Int),t.get 1=some (.int .i64 ti)∧t.get 2=some (.pointer (some ⟨S.next,0,none⟩))∧t.get 6=some (.int .i64 b4)∧t.get 12=some (.int .i64 (jv:Int))∧t.get 15=some (.int .i64 (((Int.tdiv (x27.hi+1) 86400) * 86400)+86400))∧t.get 16=some (.int .i64 (k3:Int))∧S'.heap.get S.next=some (.cells [v_d_hours,v_d_shut] 98 0 true true)∧Agree S S'∧S40.next≤S'.next∧j4≤2∧0≤b4∧b4≤1073741824∧R90_4 d ti jv b2 x27 k3 b3 3 0 b3=b4) 3 (by refine ⟨0,b3,?_,?_,?_,?_,?_,?_,?_,?_,?_,?_,?_,bb40_1,ga40,Nat.le_refl _,rfl⟩<;>first|(simp only [SY,eq_self,Nat.reduceBEq,g40_1,g40_2,g40_6,g40_12,g40_15,g40_16]<;>rfl)|omega|assumption|(simp; omega)|simp) (by
            rintro m t S43 ⟨j4,b4,hi43_0,hi43_1,hi43_2,hi43_3,g43_1,g43_2,g43_6,g43_12,g43_15,g43_16,g43_17,bb43_1,ga43,gn43,hd43⟩
            refine .run fun z he=>?_
            try simp only [E0_G,SY,off,agreeKind,Nat.reduceAdd,Nat.reduceLT,Nat.reduceBEq,g43_17] at he
            rcases dP ((j4:Int)<2) with ⟨h44a,h44⟩|⟨h44a,h44⟩
            ·have w45:IntKind.i64.wrap ((j4:Int) * 86400)=(j4:Int) * 86400:=by rw [IntWalk.i64_in]; omega
             have w46:IntKind.i64.wrap ((((Int.tdiv (x27.hi+1) 86400) * 86400)+86400) - ((j4:Int) * 86400))=(((Int.tdiv (x27.hi+1) 86400) * 86400)+86400) - ((j4:Int) * 86400):=by rw [IntWalk.i64_in]; omega
             have hx47:d.hours[k3]?=some (lget d.hours k3):=lget_some (by first|omega|simp; omega)
             have eb48:=hD.h _ (List.mem_of_getElem? hx47)
             obtain ⟨id47,of47,cc47,ty47,wr47,ex47,i47,j47,l47,q47⟩:=(hv_d_hours).at (P:=Tryz.prog) (t:=40) Tryz.underlying40 tz36 hx47
             have j47:=(ga43.2 id47 l47).trans j47
             have m47_0:cc47[of47]?=some (.int .i64 ((lget d.hours k3).lo)):=q47 0 (show 0<2 by decide)
             have m47_1:cc47[of47+1]?=some (.int .i64 ((lget d.hours k3).hi)):=q47 1 (show 1<2 by decide)
             have w49:IntKind.i64.wrap (((((Int.tdiv (x27.hi+1) 86400) * 86400)+86400) - ((j4:Int) * 86400))+((lget d.hours k3).lo))=((((Int.tdiv (x27.hi+1) 86400) * 86400)+86400) - ((j4:Int) * 86400))+((lget d.hours k3).lo):=by rw [IntWalk.i64_in]; omega
             try simp (disch:=first|omega|assumption) only [E0_G,SY,off,agreeKind,ldA,aggD,aField,Nat.reduceAdd,Nat.reduceLT,Nat.reduceBEq,TY_EvH10,g43_1,g43_2,g43_15,g43_16,g43_17,bb43_1,h44a,w45,w46,i47,j47,m47_0,w49] at he
             rcases dP (ti<(((((Int.tdiv (x27.hi+1) 86400) * 86400)+86400) - ((j4:Int) * 86400))+((lget d.hours k3).lo))) with ⟨h50a,h50⟩|⟨h50a,h50⟩
             ·try simp only [E0_G,SY,off,agreeKind,Nat.reduceAdd,Nat.reduceLT,Nat.reduceBEq,g43_6,h50a] at he
              rcases dP ((((((Int.tdiv (x27.hi+1) 86400) * 86400)+86400) - ((j4:Int) * 86400))+((lget d.hours k3).lo))<b4) with ⟨h51a,h51⟩|⟨h51a,h51⟩
              ·obtain ⟨S52,k52,a52⟩:=c86 d (((((Int.tdiv (x27.hi+1) 86400) * 86400)+86400) - ((j4:Int) * 86400))+((lget d.hours k3).lo)) hD S43 (v_d_hours) (hv_d_hours.agree ga43) (v_d_shut) (hv_d_shut.agree ga43)
               have l52:=a52.1
               have v1_52:=(a52.2 S.next (by omega)).trans bb43_1
               have g52:Agree S S52:=ga43.trans a52
               try simp only [E0_G,SY,off,agreeKind,vals,ldA,rdCells,aggD,Nat.reduceAdd,Nat.reduceLT,Nat.reduceBEq,TY_EvH10,g43_2,bb43_1,h51a,k52] at he
               rcases dB ((r86 d (((((Int.tdiv (x27.hi+1) 86400) * 86400)+86400) - ((j4:Int) * 86400))+((lget d.hours k3).lo)))) with ⟨h53a,h53⟩|⟨h53a,h53⟩
               ·have w54:IntKind.i64.wrap ((j4:Int)+1)=((j4+1:Nat):Int):=by rw [IntWalk.i64_in]<;>omega
                try simp only [E0_G,SY,off,agreeKind,Nat.reduceAdd,Nat.reduceLT,Nat.reduceBEq,g43_17,h53a,w54] at he
                obtain ⟨m',rfl⟩:∃ m',m=m'+1:=⟨m - 1,by omega⟩
                have hf:=(show _=(R90_4 d ti jv b2 x27 k3 b3 m' (j4+1) (((((Int.tdiv (x27.hi+1) 86400) * 86400)+86400) - ((j4:Int) * 86400))+((lget d.hours k3).lo)):Int) from (if_pos h44).trans ((if_pos h50).trans ((if_pos h51).trans ((if_pos h53).trans (rfl))))).symm.trans hd43
                refine .next he m' (by omega) ⟨(j4+1),((((Int.tdiv (x27.hi+1) 86400) * 86400)+86400) - ((j4:Int) * 86400))+((lget d.hours k3).lo),?_,?_,?_,?_,?_,?_,?_,?_,?_,?_,?_,v1_52,g52,by omega,hf⟩<;>first|(simp only [SY,eq_self,Nat.reduceBEq,g43_1,g43_2,g43_6,g43_12,g43_15,g43_16,g43_17]<;>rfl)|omega|assumption|(simp; omega)|simp
               have w55:IntKind.i64.wrap ((j4:Int)+1)=((j4+1:Nat):Int):=by rw [IntWalk.i64_in]<;>omega
               try simp only [E0_G,SY,off,agreeKind,Nat.reduceAdd,Nat.reduceLT,Nat.reduceBEq,g43_17,h53a,w55] at he
               obtain ⟨m',rfl⟩:∃ m',m=m'+1:=⟨m - 1,by omega⟩
               have hf:=(show _=(R90_4 d ti jv b2 x27 k3 b3 m' (j4+1) b4:Int) from (if_pos h44).trans ((if_pos h50).trans ((if_pos h51).trans ((if_neg h53).trans (rfl))))).symm.trans hd43
               refine .next he m' (by omega) ⟨(j4+1),b4,?_,?_,?_,?_,?_,?_,?_,?_,?_,?_,?_,v1_52,g52,by omega,hf⟩<;>first|(simp only [SY,eq_self,Nat.reduceBEq,g43_1,g43_2,g43_6,g43_12,g43_15,g43_16,g43_17]<;>rfl)|omega|assumption|(simp; omega)|simp
              have w56:IntKind.i64.wrap ((j4:Int)+1)=((j4+1:Nat):Int):=by rw [IntWalk.i64_in]<;>omega
              try simp only [E0_G,SY,off,agreeKind,Nat.reduceAdd,Nat.reduceLT,Nat.reduceBEq,g43_17,h51a,w56] at he
              obtain ⟨m',rfl⟩:∃ m',m=m'+1:=⟨m - 1,by omega⟩
              have hf:=(show _=(R90_4 d ti jv b2 x27 k3 b3 m' (j4+1) b4:Int) from (if_pos h44).trans ((if_pos h50).trans ((if_neg h51).trans (rfl)))).symm.trans hd43
              refine .next he m' (by omega) ⟨(j4+1),b4,?_,?_,?_,?_,?_,?_,?_,?_,?_,?_,?_,bb43_1,ga43,by omega,hf⟩<;>first|(simp only [SY,eq_self,Nat.reduceBEq,g43_1,g43_2,g43_6,g43_12,g43_15,g43_16,g43_17]<;>rfl)|omega|assumption|(simp; omega)|simp
             have w57:IntKind.i64.wrap ((j4:Int)+1)=((j4+1:Nat):Int):=by rw [IntWalk.i64_in]<;>omega
             try simp only [E0_G,SY,off,agreeKind,Nat.reduceAdd,Nat.reduceLT,Nat.reduceBEq,g43_17,h50a,w57] at he
             obtain ⟨m',rfl⟩:∃ m',m=m'+1:=⟨m - 1,by omega⟩
             have hf:=(show _=(R90_4 d ti jv b2 x27 k3 b3 m' (j4+1) b4:Int) from (if_pos h44).trans ((if_neg h50).trans (rfl))).symm.trans hd43
             refine .next he m' (by omega) ⟨(j4+1),b4,?_,?_,?_,?_,?_,?_,?_,?_,?_,?_,?_,bb43_1,ga43,by omega,hf⟩<;>first|(simp only [SY,eq_self,Nat.reduceBEq,g43_1,g43_2,g43_6,g43_12,g43_15,g43_16,g43_17]<;>rfl)|omega|assumption|(simp; omega)|simp
            try simp only [SY,h44a] at he
            obtain ⟨m',rfl⟩:∃ m',m=m'+1:=⟨m - 1,by omega⟩
            have hf:=(show _=(b4:Int) from (if_neg h44).trans (rfl)).symm.trans hd43
            refine .exit he ⟨rfl,⟨j4,b4,?_,?_,?_,?_,?_,?_,bb43_1,ga43,by omega,?_,?_,?_,hf.symm⟩⟩<;>first|(simp only [SY,eq_self,Nat.reduceBEq,g43_1,g43_2,g43_6,g43_12,g43_15,g43_16]<;>rfl)|omega|assumption|(simp; omega)|simp)
          obtain ⟨rfl,j4,b4,ge43_1,ge43_2,ge43_6,ge43_12,ge43_15,ge43_16,be43_1,ge43,gm43,hj43_0,hj43_1,hj43_2,hR43⟩:=hQ43
          obtain rfl:b4=R90_4 d ti jv b2 x27 k3 b3 3 0 b3:=hR43.symm
          have w59:IntKind.i64.wrap ((k3:Int)+1)=((k3+1:Nat):Int):=by rw [IntWalk.i64_in]<;>omega
          try simp only [E0_G,SY,off,agreeKind,eq_self,if_true,Nat.reduceAdd,Nat.reduceLT,Nat.reduceBEq,ge43_16,w59] at he
          rw [drop_cons' (List.getElem?_eq_getElem (show k3<_ by omega))] at hd40
          have hf:=(show _=(R90_3 d ti jv b2 x27 (d.hours.drop (k3+1)) (k3+1) (R90_4 d ti jv b2 x27 k3 b3 3 0 b3):Int) from rfl).symm.trans hd40
          refine .next he (m - 1) (by omega) ⟨(k3+1),R90_4 d ti jv b2 x27 k3 b3 3 0 b3,?_,?_,?_,?_,?_,?_,?_,?_,?_,?_,be43_1,ge43,by omega,hf⟩<;>first|(simp only [SY,eq_self,Nat.reduceBEq,ge43_1,ge43_2,ge43_6,ge43_12,ge43_15,ge43_16]<;>rfl)|omega|assumption|(simp; omega)|simp
         try simp only [SY,h42a] at he
         rw [List.drop_eq_nil_of_le (show d.hours.length≤k3 by omega)] at hd40
         have hf:=(show _=(b3:Int) from rfl).symm.trans hd40
         refine .exit he ⟨rfl,⟨k3,b3,?_,?_,?_,?_,bb40_1,ga40,by omega,?_,?_,?_,hf.symm⟩⟩<;>first|(simp only [SY,eq_self,Nat.reduceBEq,g40_1,g40_2,g40_6,g40_12]<;>rfl)|omega|assumption|(simp; omega)|simp)
       obtain ⟨rfl,k3,b3,ge40_1,ge40_2,ge40_6,ge40_12,be40_1,ge40,gm40,hj40_0,hj40_1,hj40_2,hR40⟩:=hQ40
       obtain rfl:b3=R90_3 d ti jv b2 x27 d.hours 0 (x27.hi+1):=hR40.symm
       have w61:IntKind.i64.wrap ((jv:Int)+1)=((jv+1:Nat):Int):=by rw [IntWalk.i64_in]<;>omega
       try simp only [E0_G,SY,off,agreeKind,eq_self,if_true,Nat.reduceAdd,Nat.reduceLT,Nat.reduceBEq,ge40_12,w61] at he
       rw [drop_cons' hx27] at hd27
       have hf:=(show _=(R90_2 d ti (d.shut.drop (jv+1)) (jv+1) (R90_3 d ti jv b2 x27 d.hours 0 (x27.hi+1)):Int) from (if_pos h33).trans ((if_pos h34).trans ((if_pos h36).trans (rfl)))).symm.trans hd27
       refine .next he (m - 1) (by omega) ⟨(jv+1),R90_3 d ti jv b2 x27 d.hours 0 (x27.hi+1),?_,?_,?_,?_,?_,?_,?_,?_,be40_1,ge40,by omega,hf⟩<;>first|(simp only [SY,eq_self,Nat.reduceBEq,ge40_1,ge40_2,ge40_6,ge40_12]<;>rfl)|omega|assumption|(simp; omega)|simp
      have w62:IntKind.i64.wrap (Int.tdiv (x27.hi+1) 86400)=Int.tdiv (x27.hi+1) 86400:=by have:=td_ok (t:=(x27.hi+1)) (by omega); rw [IntWalk.i64_in]; omega
      have q62:=td_ok (t:=(x27.hi+1)) (by omega)
      have w63:IntKind.i64.wrap ((Int.tdiv (x27.hi+1) 86400) * 86400)=(Int.tdiv (x27.hi+1) 86400) * 86400:=by rw [IntWalk.i64_in]; omega
      have w64:IntKind.i64.wrap (((Int.tdiv (x27.hi+1) 86400) * 86400)+86400)=((Int.tdiv (x27.hi+1) 86400) * 86400)+86400:=by rw [IntWalk.i64_in]; omega
      try simp only [E0_G,SY,off,agreeKind,Nat.reduceAdd,Nat.reduceLT,Nat.reduceBEq,Int.reduceEq,h36a,w62,w63,w64] at he
      generalize hL65:Rec.loop _ _ _ _=L65 at he
      obtain ⟨x65,t65,S65e,rfl,hQ65⟩:=loop_met hL65 (fun m t S'=>∃ (k3:Nat) (b3:Int),m+k3=d.hours.length∧0≤b3∧b3≤1073741824∧k3≤d.hours.length∧t.get 1=some (.int .i64 ti)∧t.get 2=some (.pointer (some ⟨S.next,0,none⟩))∧t.get 6=some (.int .i64 b3)∧t.get 12=some (.int .i64 (jv:Int))∧t.get 15=some (.int .i64 (((Int.tdiv (x27.hi+1) 86400) * 86400)+86400))∧t.get 16=some (.int .i64 (k3:Int))∧S'.heap.get S.next=some (.cells [v_d_hours,v_d_shut] 98 0 true true)∧Agree S S'∧S35.next≤S'.next∧R90_3 d ti jv b2 x27 (d.hours.drop k3) k3 b3=R90_3 d ti jv b2 x27 d.hours 0 b2)
       (fun x t S'=>x=.exit 6∧∃ (k3:Nat) (b3:Int),t.get 1=some (.int .i64 ti)∧t.get 2=some (.pointer (some ⟨S.next,0,none⟩))∧t.get 6=some (.int .i64 b3)∧t.get 12=some (.int .i64 (jv:Int))∧S'.heap.get S.next=some (.cells [v_d_hours,v_d_shut] 98 0 true true)∧Agree S S'∧S35.next≤S'.next∧0≤b3∧b3≤1073741824∧k3≤d.hours.length∧R90_3 d ti jv b2 x27 d.hours 0 b2=b3) (d.hours.length - 0) (by refine ⟨0,b2,?_,?_,?_,?_,?_,?_,?_,?_,?_,?_,v1_35,g35,Nat.le_refl _,rfl⟩<;>first|(simp only [SY,eq_self,Nat.reduceBEq,g27_1,g27_2,g27_6,g27_12]<;>rfl)|omega|assumption|(simp; omega)|simp) (by
        rintro m t S65 ⟨k3,b3,hi65_0,hi65_1,hi65_2,hi65_3,g65_1,g65_2,g65_6,g65_12,g65_15,g65_16,bb65_1,ga65,gn65,hd65⟩
        refine .run fun z he=>?_
        have w66:=(hv_d_hours.agree ga65).len (P:=Tryz.prog) (t:=40) Tryz.underlying40
        try simp (disch:=first|omega|assumption) only [E0_G,SY,off,agreeKind,ldA,aggD,aField,Nat.reduceAdd,Nat.reduceLT,Nat.reduceBEq,TY_EvH10,g65_2,g65_16,bb65_1,w66] at he
        rcases dP ((k3:Int)<(d.hours.length:Int)) with ⟨h67a,h67⟩|⟨h67a,h67⟩
        ·try simp only [E0_G,SY,off,agreeKind,Nat.reduceLT,h67a] at he
         generalize hL68:Rec.loop _ _ _ _=L68 at he
         obtain ⟨x68,t68,S68e,rfl,hQ68⟩:=loop_met hL68 (fun m t S'=>∃ (j4:Nat) (b4:Int),m+j4=3∧j4≤2∧0≤b4∧b4≤1073741824∧t.get 1=some (.int .i64 ti)∧t.get 2=some (.pointer (some ⟨S.next,0,none⟩))∧t.get 6=some (.int .i64 b4)∧t.get 12=some (.int .i64 (jv:Int))∧t.get 15=some (.int .i64 (((Int.tdiv (x27.hi+1) 86400) * 86400)+86400))∧t.get 16=some (.int .i64 (k3:Int))∧t.get 17=some (.int .i64 (j4:Int))∧S'.heap.get S.next=some (.cells [v_d_hours,v_d_shut] 98 0 true true)∧Agree S S'∧S65.next≤S'.next∧R90_4 d ti jv b2 x27 k3 b3 m j4 b4=R90_4 d ti jv b2 x27 k3 b3 3 0 b3)
          (fun x t S'=>x=.exit 8∧∃ (j4:Nat) (b4:Int),t.get 1=some (.int .i64 ti)∧t.get 2=some (.pointer (some ⟨S.next,0,none⟩))∧t.get 6=some (.int .i64 b4)∧t.get 12=some (.int .i64 (jv:Int))∧t.get 15=some (.int .i64 (((Int.tdiv (x27.hi+1) 86400) * 86400)+86400))∧t.get 16=some (.int .i64 (k3:Int))∧S'.heap.get S.next=some (.cells [v_d_hours,v_d_shut] 98 0 true true)∧Agree S S'∧S65.next≤S'.next∧j4≤2∧0≤b4∧b4≤1073741824∧R90_4 d ti jv b2 x27 k3 b3 3 0 b3=b4) 3 (by refine ⟨0,b3,?_,?_,?_,?_,?_,?_,?_,?_,?_,?_,?_,bb65_1,ga65,Nat.le_refl _,rfl⟩<;>first|(simp only [SY,eq_self,Nat.reduceBEq,g65_1,g65_2,g65_6,g65_12,g65_15,g65_16]<;>rfl)|omega|assumption|(simp; omega)|simp) (by
           rintro m t S68 ⟨j4,b4,hi68_0,hi68_1,hi68_2,hi68_3,g68_1,g68_2,g68_6,g68_12,g68_15,g68_16,g68_17,bb68_1,ga68,gn68,hd68⟩
           refine .run fun z he=>?_
           try simp only [E0_G,SY,off,agreeKind,Nat.reduceAdd,Nat.reduceLT,Nat.reduceBEq,g68_17] at he
           rcases dP ((j4:Int)<2) with ⟨h69a,h69⟩|⟨h69a,h69⟩
           ·have w70:IntKind.i64.wrap ((j4:Int) * 86400)=(j4:Int) * 86400:=by rw [IntWalk.i64_in]; omega
            have w71:IntKind.i64.wrap ((((Int.tdiv (x27.hi+1) 86400) * 86400)+86400) - ((j4:Int) * 86400))=(((Int.tdiv (x27.hi+1) 86400) * 86400)+86400) - ((j4:Int) * 86400):=by rw [IntWalk.i64_in]; omega
            have hx72:d.hours[k3]?=some (lget d.hours k3):=lget_some (by first|omega|simp; omega)
            have eb73:=hD.h _ (List.mem_of_getElem? hx72)
            obtain ⟨id72,of72,cc72,ty72,wr72,ex72,i72,j72,l72,q72⟩:=(hv_d_hours).at (P:=Tryz.prog) (t:=40) Tryz.underlying40 tz36 hx72
            have j72:=(ga68.2 id72 l72).trans j72
            have m72_0:cc72[of72]?=some (.int .i64 ((lget d.hours k3).lo)):=q72 0 (show 0<2 by decide)
            have m72_1:cc72[of72+1]?=some (.int .i64 ((lget d.hours k3).hi)):=q72 1 (show 1<2 by decide)
            have w74:IntKind.i64.wrap (((((Int.tdiv (x27.hi+1) 86400) * 86400)+86400) - ((j4:Int) * 86400))+((lget d.hours k3).lo))=((((Int.tdiv (x27.hi+1) 86400) * 86400)+86400) - ((j4:Int) * 86400))+((lget d.hours k3).lo):=by rw [IntWalk.i64_in]; omega
            try simp (disch:=first|omega|assumption) only [E0_G,SY,off,agreeKind,ldA,aggD,aField,Nat.reduceAdd,Nat.reduceLT,Nat.reduceBEq,TY_EvH10,g68_1,g68_2,g68_15,g68_16,g68_17,bb68_1,h69a,w70,w71,i72,j72,m72_0,w74] at he
            rcases dP (ti<(((((Int.tdiv (x27.hi+1) 86400) * 86400)+86400) - ((j4:Int) * 86400))+((lget d.hours k3).lo))) with ⟨h75a,h75⟩|⟨h75a,h75⟩
            ·try simp only [E0_G,SY,off,agreeKind,Nat.reduceAdd,Nat.reduceLT,Nat.reduceBEq,g68_6,h75a] at he
             rcases dP ((((((Int.tdiv (x27.hi+1) 86400) * 86400)+86400) - ((j4:Int) * 86400))+((lget d.hours k3).lo))<b4) with ⟨h76a,h76⟩|⟨h76a,h76⟩
             ·obtain ⟨S77,k77,a77⟩:=c86 d (((((Int.tdiv (x27.hi+1) 86400) * 86400)+86400) - ((j4:Int) * 86400))+((lget d.hours k3).lo)) hD S68 (v_d_hours) (hv_d_hours.agree ga68) (v_d_shut) (hv_d_shut.agree ga68)
              have l77:=a77.1
              have v1_77:=(a77.2 S.next (by omega)).trans bb68_1
              have g77:Agree S S77:=ga68.trans a77
              try simp only [E0_G,SY,off,agreeKind,vals,ldA,rdCells,aggD,Nat.reduceAdd,Nat.reduceLT,Nat.reduceBEq,TY_EvH10,g68_2,bb68_1,h76a,k77] at he
              rcases dB ((r86 d (((((Int.tdiv (x27.hi+1) 86400) * 86400)+86400) - ((j4:Int) * 86400))+((lget d.hours k3).lo)))) with ⟨h78a,h78⟩|⟨h78a,h78⟩
              ·have w79:IntKind.i64.wrap ((j4:Int)+1)=((j4+1:Nat):Int):=by rw [IntWalk.i64_in]<;>omega
               try simp only [E0_G,SY,off,agreeKind,Nat.reduceAdd,Nat.reduceLT,Nat.reduceBEq,g68_17,h78a,w79] at he
               obtain ⟨m',rfl⟩:∃ m',m=m'+1:=⟨m - 1,by omega⟩
               have hf:=(show _=(R90_4 d ti jv b2 x27 k3 b3 m' (j4+1) (((((Int.tdiv (x27.hi+1) 86400) * 86400)+86400) - ((j4:Int) * 86400))+((lget d.hours k3).lo)):Int) from (if_pos h69).trans ((if_pos h75).trans ((if_pos h76).trans ((if_pos h78).trans (rfl))))).symm.trans hd68
               refine .next he m' (by omega) ⟨(j4+1),((((Int.tdiv (x27.hi+1) 86400) * 86400)+86400) - ((j4:Int) * 86400))+((lget d.hours k3).lo),?_,?_,?_,?_,?_,?_,?_,?_,?_,?_,?_,v1_77,g77,by omega,hf⟩<;>first|(simp only [SY,eq_self,Nat.reduceBEq,g68_1,g68_2,g68_6,g68_12,g68_15,g68_16,g68_17]<;>rfl)|omega|assumption|(simp; omega)|simp
              have w80:IntKind.i64.wrap ((j4:Int)+1)=((j4+1:Nat):Int):=by rw [IntWalk.i64_in]<;>omega
              try simp only [E0_G,SY,off,agreeKind,Nat.reduceAdd,Nat.reduceLT,Nat.reduceBEq,g68_17,h78a,w80] at he
              obtain ⟨m',rfl⟩:∃ m',m=m'+1:=⟨m - 1,by omega⟩
              have hf:=(show _=(R90_4 d ti jv b2 x27 k3 b3 m' (j4+1) b4:Int) from (if_pos h69).trans ((if_pos h75).trans ((if_pos h76).trans ((if_neg h78).trans (rfl))))).symm.trans hd68
              refine .next he m' (by omega) ⟨(j4+1),b4,?_,?_,?_,?_,?_,?_,?_,?_,?_,?_,?_,v1_77,g77,by omega,hf⟩<;>first|(simp only [SY,eq_self,Nat.reduceBEq,g68_1,g68_2,g68_6,g68_12,g68_15,g68_16,g68_17]<;>rfl)|omega|assumption|(simp; omega)|simp
             have w81:IntKind.i64.wrap ((j4:Int)+1)=((j4+1:Nat):Int):=by rw [IntWalk.i64_in]<;>omega
             try simp only [E0_G,SY,off,agreeKind,Nat.reduceAdd,Nat.reduceLT,Nat.reduceBEq,g68_17,h76a,w81] at he
             obtain ⟨m',rfl⟩:∃ m',m=m'+1:=⟨m - 1,by omega⟩
             have hf:=(show _=(R90_4 d ti jv b2 x27 k3 b3 m' (j4+1) b4:Int) from (if_pos h69).trans ((if_pos h75).trans ((if_neg h76).trans (rfl)))).symm.trans hd68
             refine .next he m' (by omega) ⟨(j4+1),b4,?_,?_,?_,?_,?_,?_,?_,?_,?_,?_,?_,bb68_1,ga68,by omega,hf⟩<;>first|(simp only [SY,eq_self,Nat.reduceBEq,g68_1,g68_2,g68_6,g68_12,g68_15,g68_16,g68_17]<;>rfl)|omega|assumption|(simp; omega)|simp
            have w82:IntKind.i64.wrap ((j4:Int)+1)=((j4+1:Nat):Int):=by rw [IntWalk.i64_in]<;>omega
            try simp only [E0_G,SY,off,agreeKind,Nat.reduceAdd,Nat.reduceLT,Nat.reduceBEq,g68_17,h75a,w82] at he
            obtain ⟨m',rfl⟩:∃ m',m=m'+1:=⟨m - 1,by omega⟩
            have hf:=(show _=(R90_4 d ti jv b2 x27 k3 b3 m' (j4+1) b4:Int) from (if_pos h69).trans ((if_neg h75).trans (rfl))).symm.trans hd68
            refine .next he m' (by omega) ⟨(j4+1),b4,?_,?_,?_,?_,?_,?_,?_,?_,?_,?_,?_,bb68_1,ga68,by omega,hf⟩<;>first|(simp only [SY,eq_self,Nat.reduceBEq,g68_1,g68_2,g68_6,g68_12,g68_15,g68_16,g68_17]<;>rfl)|omega|assumption|(simp; omega)|simp
           try simp only [SY,h69a] at he
           obtain ⟨m',rfl⟩:∃ m',m=m'+1:=⟨m - 1,by omega⟩
           have hf:=(show _=(b4:Int) from (if_neg h69).trans (rfl)).symm.trans hd68
           refine .exit he ⟨rfl,⟨j4,b4,?_,?_,?_,?_,?_,?_,bb68_1,ga68,by omega,?_,?_,?_,hf.symm⟩⟩<;>first|(simp only [SY,eq_self,Nat.reduceBEq,g68_1,g68_2,g68_6,g68_12,g68_15,g68_16]<;>rfl)|omega|assumption|(simp; omega)|simp)
         obtain ⟨rfl,j4,b4,ge68_1,ge68_2,ge68_6,ge68_12,ge68_15,ge68_16,be68_1,ge68,gm68,hj68_0,hj68_1,hj68_2,hR68⟩:=hQ68
         obtain rfl:b4=R90_4 d ti jv b2 x27 k3 b3 3 0 b3:=hR68.symm
         have w84:IntKind.i64.wrap ((k3:Int)+1)=((k3+1:Nat):Int):=by rw [IntWalk.i64_in]<;>omega
         try simp only [E0_G,SY,off,agreeKind,eq_self,if_true,Nat.reduceAdd,Nat.reduceLT,Nat.reduceBEq,ge68_16,w84] at he
         rw [drop_cons' (List.getElem?_eq_getElem (show k3<_ by omega))] at hd65
         have hf:=(show _=(R90_3 d ti jv b2 x27 (d.hours.drop (k3+1)) (k3+1) (R90_4 d ti jv b2 x27 k3 b3 3 0 b3):Int) from rfl).symm.trans hd65
         refine .next he (m - 1) (by omega) ⟨(k3+1),R90_4 d ti jv b2 x27 k3 b3 3 0 b3,?_,?_,?_,?_,?_,?_,?_,?_,?_,?_,be68_1,ge68,by omega,hf⟩<;>first|(simp only [SY,eq_self,Nat.reduceBEq,ge68_1,ge68_2,ge68_6,ge68_12,ge68_15,ge68_16]<;>rfl)|omega|assumption|(simp; omega)|simp
        try simp only [SY,h67a] at he
        rw [List.drop_eq_nil_of_le (show d.hours.length≤k3 by omega)] at hd65
        have hf:=(show _=(b3:Int) from rfl).symm.trans hd65
        refine .exit he ⟨rfl,⟨k3,b3,?_,?_,?_,?_,bb65_1,ga65,by omega,?_,?_,?_,hf.symm⟩⟩<;>first|(simp only [SY,eq_self,Nat.reduceBEq,g65_1,g65_2,g65_6,g65_12]<;>rfl)|omega|assumption|(simp; omega)|simp)
      obtain ⟨rfl,k3,b3,ge65_1,ge65_2,ge65_6,ge65_12,be65_1,ge65,gm65,hj65_0,hj65_1,hj65_2,hR65⟩:=hQ65
      obtain rfl:b3=R90_3 d ti jv b2 x27 d.hours 0 b2:=hR65.symm
      have w86:IntKind.i64.wrap ((jv:Int)+1)=((jv+1:Nat):Int):=by rw [IntWalk.i64_in]<;>omega
      try simp only [E0_G,SY,off,agreeKind,eq_self,if_true,Nat.reduceAdd,Nat.reduceLT,Nat.reduceBEq,ge65_12,w86] at he
      rw [drop_cons' hx27] at hd27
      have hf:=(show _=(R90_2 d ti (d.shut.drop (jv+1)) (jv+1) (R90_3 d ti jv b2 x27 d.hours 0 b2):Int) from (if_pos h33).trans ((if_pos h34).trans ((if_neg h36).trans (rfl)))).symm.trans hd27
      refine .next he (m - 1) (by omega) ⟨(jv+1),R90_3 d ti jv b2 x27 d.hours 0 b2,?_,?_,?_,?_,?_,?_,?_,?_,be65_1,ge65,by omega,hf⟩<;>first|(simp only [SY,eq_self,Nat.reduceBEq,ge65_1,ge65_2,ge65_6,ge65_12]<;>rfl)|omega|assumption|(simp; omega)|simp
     have w87:IntKind.i64.wrap (Int.tdiv (x27.hi+1) 86400)=Int.tdiv (x27.hi+1) 86400:=by have:=td_ok (t:=(x27.hi+1)) (by omega); rw [IntWalk.i64_in]; omega
     have q87:=td_ok (t:=(x27.hi+1)) (by omega)
     have w88:IntKind.i64.wrap ((Int.tdiv (x27.hi+1) 86400) * 86400)=(Int.tdiv (x27.hi+1) 86400) * 86400:=by rw [IntWalk.i64_in]; omega
     have w89:IntKind.i64.wrap (((Int.tdiv (x27.hi+1) 86400) * 86400)+86400)=((Int.tdiv (x27.hi+1) 86400) * 86400)+86400:=by rw [IntWalk.i64_in]; omega
     try simp only [E0_G,SY,off,agreeKind,Nat.reduceAdd,Nat.reduceLT,Nat.reduceBEq,Int.reduceEq,h34a,w87,w88,w89] at he
     generalize hL90:Rec.loop _ _ _ _=L90 at he
     obtain ⟨x90,t90,S90e,rfl,hQ90⟩:=loop_met hL90 (fun m t S'=>∃ (k3:Nat) (b3:Int),m+k3=d.hours.length∧0≤b3∧b3≤1073741824∧k3≤d.hours.length∧t.get 1=some (.int .i64 ti)∧t.get 2=some (.pointer (some ⟨S.next,0,none⟩))∧t.get 6=some (.int .i64 b3)∧t.get 12=some (.int .i64 (jv:Int))∧t.get 15=some (.int .i64 (((Int.tdiv (x27.hi+1) 86400) * 86400)+86400))∧t.get 16=some (.int .i64 (k3:Int))∧S'.heap.get S.next=some (.cells [v_d_hours,v_d_shut] 98 0 true true)∧Agree S S'∧S27.next≤S'.next∧R90_3 d ti jv b2 x27 (d.hours.drop k3) k3 b3=R90_3 d ti jv b2 x27 d.hours 0 b2)
      (fun x t S'=>x=.exit 6∧∃ (k3:Nat) (b3:Int),t.get 1=some (.int .i64 ti)∧t.get 2=some (.pointer (some ⟨S.next,0,none⟩))∧t.get 6=some (.int .i64 b3)∧t.get 12=some (.int .i64 (jv:Int))∧S'.heap.get S.next=some (.cells [v_d_hours,v_d_shut] 98 0 true true)∧Agree S S'∧S27.next≤S'.next∧0≤b3∧b3≤1073741824∧k3≤d.hours.length∧R90_3 d ti jv b2 x27 d.hours 0 b2=b3) (d.hours.length - 0) (by refine ⟨0,b2,?_,?_,?_,?_,?_,?_,?_,?_,?_,?_,bb27_1,ga27,Nat.le_refl _,rfl⟩<;>first|(simp only [SY,eq_self,Nat.reduceBEq,g27_1,g27_2,g27_6,g27_12]<;>rfl)|omega|assumption|(simp; omega)|simp) (by
       rintro m t S90 ⟨k3,b3,hi90_0,hi90_1,hi90_2,hi90_3,g90_1,g90_2,g90_6,g90_12,g90_15,g90_16,bb90_1,ga90,gn90,hd90⟩
       refine .run fun z he=>?_
       have w91:=(hv_d_hours.agree ga90).len (P:=Tryz.prog) (t:=40) Tryz.underlying40
       try simp (disch:=first|omega|assumption) only [E0_G,SY,off,agreeKind,ldA,aggD,aField,Nat.reduceAdd,Nat.reduceLT,Nat.reduceBEq,TY_EvH10,g90_2,g90_16,bb90_1,w91] at he
       rcases dP ((k3:Int)<(d.hours.length:Int)) with ⟨h92a,h92⟩|⟨h92a,h92⟩
       ·try simp only [E0_G,SY,off,agreeKind,Nat.reduceLT,h92a] at he
        generalize hL93:Rec.loop _ _ _ _=L93 at he
        obtain ⟨x93,t93,S93e,rfl,hQ93⟩:=loop_met hL93 (fun m t S'=>∃ (j4:Nat) (b4:Int),m+j4=3∧j4≤2∧0≤b4∧b4≤1073741824∧t.get 1=some (.int .i64 ti)∧t.get 2=some (.pointer (some ⟨S.next,0,none⟩))∧t.get 6=some (.int .i64 b4)∧t.get 12=some (.int .i64 (jv:Int))∧t.get 15=some (.int .i64 (((Int.tdiv (x27.hi+1) 86400) * 86400)+86400))∧t.get 16=some (.int .i64 (k3:Int))∧t.get 17=some (.int .i64 (j4:Int))∧S'.heap.get S.next=some (.cells [v_d_hours,v_d_shut] 98 0 true true)∧Agree S S'∧S90.next≤S'.next∧R90_4 d ti jv b2 x27 k3 b3 m j4 b4=R90_4 d ti jv b2 x27 k3 b3 3 0 b3)
         (fun x t S'=>x=.exit 8∧∃ (j4:Nat) (b4:Int),t.get 1=some (.int .i64 ti)∧t.get 2=some (.pointer (some ⟨S.next,0,none⟩))∧t.get 6=some (.int .i64 b4)∧t.get 12=some (.int .i64 (jv:Int))∧t.get 15=some (.int .i64 (((Int.tdiv (x27.hi+1) 86400) * 86400)+86400))∧t.get 16=some (.int .i64 (k3:Int))∧S'.heap.get S.next=some (.cells [v_d_hours,v_d_shut] 98 0 true true)∧Agree S S'∧S90.next≤S'.next∧j4≤2∧0≤b4∧b4≤1073741824∧R90_4 d ti jv b2 x27 k3 b3 3 0 b3=b4) 3 (by refine ⟨0,b3,?_,?_,?_,?_,?_,?_,?_,?_,?_,?_,?_,bb90_1,ga90,Nat.le_refl _,rfl⟩<;>first|(simp only [SY,eq_self,Nat.reduceBEq,g90_1,g90_2,g90_6,g90_12,g90_15,g90_16]<;>rfl)|omega|assumption|(simp; omega)|simp) (by
          rintro m t S93 ⟨j4,b4,hi93_0,hi93_1,hi93_2,hi93_3,g93_1,g93_2,g93_6,g93_12,g93_15,g93_16,g93_17,bb93_1,ga93,gn93,hd93⟩
          refine .run fun z he=>?_
          try simp only [E0_G,SY,off,agreeKind,Nat.reduceAdd,Nat.reduceLT,Nat.reduceBEq,g93_17] at he
          rcases dP ((j4:Int)<2) with ⟨h94a,h94⟩|⟨h94a,h94⟩
          ·have w95:IntKind.i64.wrap ((j4:Int) * 86400)=(j4:Int) * 86400:=by rw [IntWalk.i64_in]; omega
           have w96:IntKind.i64.wrap ((((Int.tdiv (x27.hi+1) 86400) * 86400)+86400) - ((j4:Int) * 86400))=(((Int.tdiv (x27.hi+1) 86400) * 86400)+86400) - ((j4:Int) * 86400):=by rw [IntWalk.i64_in]; omega
           have hx97:d.hours[k3]?=some (lget d.hours k3):=lget_some (by first|omega|simp; omega)
           have eb98:=hD.h _ (List.mem_of_getElem? hx97)
           obtain ⟨id97,of97,cc97,ty97,wr97,ex97,i97,j97,l97,q97⟩:=(hv_d_hours).at (P:=Tryz.prog) (t:=40) Tryz.underlying40 tz36 hx97
           have j97:=(ga93.2 id97 l97).trans j97
           have m97_0:cc97[of97]?=some (.int .i64 ((lget d.hours k3).lo)):=q97 0 (show 0<2 by decide)
           have m97_1:cc97[of97+1]?=some (.int .i64 ((lget d.hours k3).hi)):=q97 1 (show 1<2 by decide)
           have w99:IntKind.i64.wrap (((((Int.tdiv (x27.hi+1) 86400) * 86400)+86400) - ((j4:Int) * 86400))+((lget d.hours k3).lo))=((((Int.tdiv (x27.hi+1) 86400) * 86400)+86400) - ((j4:Int) * 86400))+((lget d.hours k3).lo):=by rw [IntWalk.i64_in]; omega
           try simp (disch:=first|omega|assumption) only [E0_G,SY,off,agreeKind,ldA,aggD,aField,Nat.reduceAdd,Nat.reduceLT,Nat.reduceBEq,TY_EvH10,g93_1,g93_2,g93_15,g93_16,g93_17,bb93_1,h94a,w95,w96,i97,j97,m97_0,w99] at he
           rcases dP (ti<(((((Int.tdiv (x27.hi+1) 86400) * 86400)+86400) - ((j4:Int) * 86400))+((lget d.hours k3).lo))) with ⟨h100a,h100⟩|⟨h100a,h100⟩
           ·try simp only [E0_G,SY,off,agreeKind,Nat.reduceAdd,Nat.reduceLT,Nat.reduceBEq,g93_6,h100a] at he
            rcases dP ((((((Int.tdiv (x27.hi+1) 86400) * 86400)+86400) - ((j4:Int) * 86400))+((lget d.hours k3).lo))<b4) with ⟨h101a,h101⟩|⟨h101a,h101⟩
            ·obtain ⟨S102,k102,a102⟩:=c86 d (((((Int.tdiv (x27.hi+1) 86400) * 86400)+86400) - ((j4:Int) * 86400))+((lget d.hours k3).lo)) hD S93 (v_d_hours) (hv_d_hours.agree ga93) (v_d_shut) (hv_d_shut.agree ga93)
             have l102:=a102.1
             have v1_102:=(a102.2 S.next (by omega)).trans bb93_1
             have g102:Agree S S102:=ga93.trans a102
             try simp only [E0_G,SY,off,agreeKind,vals,ldA,rdCells,aggD,Nat.reduceAdd,Nat.reduceLT,Nat.reduceBEq,TY_EvH10,g93_2,bb93_1,h101a,k102] at he
             rcases dB ((r86 d (((((Int.tdiv (x27.hi+1) 86400) * 86400)+86400) - ((j4:Int) * 86400))+((lget d.hours k3).lo)))) with ⟨h103a,h103⟩|⟨h103a,h103⟩
             ·have w104:IntKind.i64.wrap ((j4:Int)+1)=((j4+1:Nat):Int):=by rw [IntWalk.i64_in]<;>omega
              try simp only [E0_G,SY,off,agreeKind,Nat.reduceAdd,Nat.reduceLT,Nat.reduceBEq,g93_17,h103a,w104] at he
              obtain ⟨m',rfl⟩:∃ m',m=m'+1:=⟨m - 1,by omega⟩
              have hf:=(show _=(R90_4 d ti jv b2 x27 k3 b3 m' (j4+1) (((((Int.tdiv (x27.hi+1) 86400) * 86400)+86400) - ((j4:Int) * 86400))+((lget d.hours k3).lo)):Int) from (if_pos h94).trans ((if_pos h100).trans ((if_pos h101).trans ((if_pos h103).trans (rfl))))).symm.trans hd93
              refine .next he m' (by omega) ⟨(j4+1),((((Int.tdiv (x27.hi+1) 86400) * 86400)+86400) - ((j4:Int) * 86400))+((lget d.hours k3).lo),?_,?_,?_,?_,?_,?_,?_,?_,?_,?_,?_,v1_102,g102,by omega,hf⟩<;>first|(simp only [SY,eq_self,Nat.reduceBEq,g93_1,g93_2,g93_6,g93_12,g93_15,g93_16,g93_17]<;>rfl)|omega|assumption|(simp; omega)|simp
             have w105:IntKind.i64.wrap ((j4:Int)+1)=((j4+1:Nat):Int):=by rw [IntWalk.i64_in]<;>omega
             try simp only [E0_G,SY,off,agreeKind,Nat.reduceAdd,Nat.reduceLT,Nat.reduceBEq,g93_17,h103a,w105] at he
             obtain ⟨m',rfl⟩:∃ m',m=m'+1:=⟨m - 1,by omega⟩
             have hf:=(show _=(R90_4 d ti jv b2 x27 k3 b3 m' (j4+1) b4:Int) from (if_pos h94).trans ((if_pos h100).trans ((if_pos h101).trans ((if_neg h103).trans (rfl))))).symm.trans hd93
             refine .next he m' (by omega) ⟨(j4+1),b4,?_,?_,?_,?_,?_,?_,?_,?_,?_,?_,?_,v1_102,g102,by omega,hf⟩<;>first|(simp only [SY,eq_self,Nat.reduceBEq,g93_1,g93_2,g93_6,g93_12,g93_15,g93_16,g93_17]<;>rfl)|omega|assumption|(simp; omega)|simp
            have w106:IntKind.i64.wrap ((j4:Int)+1)=((j4+1:Nat):Int):=by rw [IntWalk.i64_in]<;>omega
            try simp only [E0_G,SY,off,agreeKind,Nat.reduceAdd,Nat.reduceLT,Nat.reduceBEq,g93_17,h101a,w106] at he
            obtain ⟨m',rfl⟩:∃ m',m=m'+1:=⟨m - 1,by omega⟩
            have hf:=(show _=(R90_4 d ti jv b2 x27 k3 b3 m' (j4+1) b4:Int) from (if_pos h94).trans ((if_pos h100).trans ((if_neg h101).trans (rfl)))).symm.trans hd93
            refine .next he m' (by omega) ⟨(j4+1),b4,?_,?_,?_,?_,?_,?_,?_,?_,?_,?_,?_,bb93_1,ga93,by omega,hf⟩<;>first|(simp only [SY,eq_self,Nat.reduceBEq,g93_1,g93_2,g93_6,g93_12,g93_15,g93_16,g93_17]<;>rfl)|omega|assumption|(simp; omega)|simp
           have w107:IntKind.i64.wrap ((j4:Int)+1)=((j4+1:Nat):Int):=by rw [IntWalk.i64_in]<;>omega
           try simp only [E0_G,SY,off,agreeKind,Nat.reduceAdd,Nat.reduceLT,Nat.reduceBEq,g93_17,h100a,w107] at he
           obtain ⟨m',rfl⟩:∃ m',m=m'+1:=⟨m - 1,by omega⟩
           have hf:=(show _=(R90_4 d ti jv b2 x27 k3 b3 m' (j4+1) b4:Int) from (if_pos h94).trans ((if_neg h100).trans (rfl))).symm.trans hd93
           refine .next he m' (by omega) ⟨(j4+1),b4,?_,?_,?_,?_,?_,?_,?_,?_,?_,?_,?_,bb93_1,ga93,by omega,hf⟩<;>first|(simp only [SY,eq_self,Nat.reduceBEq,g93_1,g93_2,g93_6,g93_12,g93_15,g93_16,g93_17]<;>rfl)|omega|assumption|(simp; omega)|simp
          try simp only [SY,h94a] at he
          obtain ⟨m',rfl⟩:∃ m',m=m'+1:=⟨m - 1,by omega⟩
          have hf:=(show _=(b4:Int) from (if_neg h94).trans (rfl)).symm.trans hd93
          refine .exit he ⟨rfl,⟨j4,b4,?_,?_,?_,?_,?_,?_,bb93_1,ga93,by omega,?_,?_,?_,hf.symm⟩⟩<;>first|(simp only [SY,eq_self,Nat.reduceBEq,g93_1,g93_2,g93_6,g93_12,g93_15,g93_16]<;>rfl)|omega|assumption|(simp; omega)|simp)
        obtain ⟨rfl,j4,b4,ge93_1,ge93_2,ge93_6,ge93_12,ge93_15,ge93_16,be93_1,ge93,gm93,hj93_0,hj93_1,hj93_2,hR93⟩:=hQ93
        obtain rfl:b4=R90_4 d ti jv b2 x27 k3 b3 3 0 b3:=hR93.symm
        have w109:IntKind.i64.wrap ((k3:Int)+1)=((k3+1:Nat):Int):=by rw [IntWalk.i64_in]<;>omega
        try simp only [E0_G,SY,off,agreeKind,eq_self,if_true,Nat.reduceAdd,Nat.reduceLT,Nat.reduceBEq,ge93_16,w109] at he
        rw [drop_cons' (List.getElem?_eq_getElem (show k3<_ by omega))] at hd90
        have hf:=(show _=(R90_3 d ti jv b2 x27 (d.hours.drop (k3+1)) (k3+1) (R90_4 d ti jv b2 x27 k3 b3 3 0 b3):Int) from rfl).symm.trans hd90
        refine .next he (m - 1) (by omega) ⟨(k3+1),R90_4 d ti jv b2 x27 k3 b3 3 0 b3,?_,?_,?_,?_,?_,?_,?_,?_,?_,?_,be93_1,ge93,by omega,hf⟩<;>first|(simp only [SY,eq_self,Nat.reduceBEq,ge93_1,ge93_2,ge93_6,ge93_12,ge93_15,ge93_16]<;>rfl)|omega|assumption|(simp; omega)|simp
       try simp only [SY,h92a] at he
       rw [List.drop_eq_nil_of_le (show d.hours.length≤k3 by omega)] at hd90
       have hf:=(show _=(b3:Int) from rfl).symm.trans hd90
       refine .exit he ⟨rfl,⟨k3,b3,?_,?_,?_,?_,bb90_1,ga90,by omega,?_,?_,?_,hf.symm⟩⟩<;>first|(simp only [SY,eq_self,Nat.reduceBEq,g90_1,g90_2,g90_6,g90_12]<;>rfl)|omega|assumption|(simp; omega)|simp)
     obtain ⟨rfl,k3,b3,ge90_1,ge90_2,ge90_6,ge90_12,be90_1,ge90,gm90,hj90_0,hj90_1,hj90_2,hR90⟩:=hQ90
     obtain rfl:b3=R90_3 d ti jv b2 x27 d.hours 0 b2:=hR90.symm
     have w111:IntKind.i64.wrap ((jv:Int)+1)=((jv+1:Nat):Int):=by rw [IntWalk.i64_in]<;>omega
     try simp only [E0_G,SY,off,agreeKind,eq_self,if_true,Nat.reduceAdd,Nat.reduceLT,Nat.reduceBEq,ge90_12,w111] at he
     rw [drop_cons' hx27] at hd27
     have hf:=(show _=(R90_2 d ti (d.shut.drop (jv+1)) (jv+1) (R90_3 d ti jv b2 x27 d.hours 0 b2):Int) from (if_pos h33).trans ((if_neg h34).trans (rfl))).symm.trans hd27
     refine .next he (m - 1) (by omega) ⟨(jv+1),R90_3 d ti jv b2 x27 d.hours 0 b2,?_,?_,?_,?_,?_,?_,?_,?_,be90_1,ge90,by omega,hf⟩<;>first|(simp only [SY,eq_self,Nat.reduceBEq,ge90_1,ge90_2,ge90_6,ge90_12]<;>rfl)|omega|assumption|(simp; omega)|simp
    have w112:IntKind.i64.wrap (Int.tdiv (x27.hi+1) 86400)=Int.tdiv (x27.hi+1) 86400:=by have:=td_ok (t:=(x27.hi+1)) (by omega); rw [IntWalk.i64_in]; omega
    have q112:=td_ok (t:=(x27.hi+1)) (by omega)
    have w113:IntKind.i64.wrap ((Int.tdiv (x27.hi+1) 86400) * 86400)=(Int.tdiv (x27.hi+1) 86400) * 86400:=by rw [IntWalk.i64_in]; omega
    have w114:IntKind.i64.wrap (((Int.tdiv (x27.hi+1) 86400) * 86400)+86400)=((Int.tdiv (x27.hi+1) 86400) * 86400)+86400:=by rw [IntWalk.i64_in]; omega
    try simp only [E0_G,SY,off,agreeKind,Nat.reduceAdd,Nat.reduceLT,Nat.reduceBEq,Int.reduceEq,h33a,w112,w113,w114] at he
    generalize hL115:Rec.loop _ _ _ _=L115 at he
    obtain ⟨x115,t115,S115e,rfl,hQ115⟩:=loop_met hL115 (fun m t S'=>∃ (k3:Nat) (b3:Int),m+k3=d.hours.length∧0≤b3∧b3≤1073741824∧k3≤d.hours.length∧t.get 1=some (.int .i64 ti)∧t.get 2=some (.pointer (some ⟨S.next,0,none⟩))∧t.get 6=some (.int .i64 b3)∧t.get 12=some (.int .i64 (jv:Int))∧t.get 15=some (.int .i64 (((Int.tdiv (x27.hi+1) 86400) * 86400)+86400))∧t.get 16=some (.int .i64 (k3:Int))∧S'.heap.get S.next=some (.cells [v_d_hours,v_d_shut] 98 0 true true)∧Agree S S'∧S27.next≤S'.next∧R90_3 d ti jv b2 x27 (d.hours.drop k3) k3 b3=R90_3 d ti jv b2 x27 d.hours 0 b2)
     (fun x t S'=>x=.exit 6∧∃ (k3:Nat) (b3:Int),t.get 1=some (.int .i64 ti)∧t.get 2=some (.pointer (some ⟨S.next,0,none⟩))∧t.get 6=some (.int .i64 b3)∧t.get 12=some (.int .i64 (jv:Int))∧S'.heap.get S.next=some (.cells [v_d_hours,v_d_shut] 98 0 true true)∧Agree S S'∧S27.next≤S'.next∧0≤b3∧b3≤1073741824∧k3≤d.hours.length∧R90_3 d ti jv b2 x27 d.hours 0 b2=b3) (d.hours.length - 0) (by refine ⟨0,b2,?_,?_,?_,?_,?_,?_,?_,?_,?_,?_,bb27_1,ga27,Nat.le_refl _,rfl⟩<;>first|(simp only [SY,eq_self,Nat.reduceBEq,g27_1,g27_2,g27_6,g27_12]<;>rfl)|omega|assumption|(simp; omega)|simp) (by
      rintro m t S115 ⟨k3,b3,hi115_0,hi115_1,hi115_2,hi115_3,g115_1,g115_2,g115_6,g115_12,g115_15,g115_16,bb115_1,ga115,gn115,hd115⟩
      refine .run fun z he=>?_
      have w116:=(hv_d_hours.agree ga115).len (P:=Tryz.prog) (t:=40) Tryz.underlying40
      try simp (disch:=first|omega|assumption) only [E0_G,SY,off,agreeKind,ldA,aggD,aField,Nat.reduceAdd,Nat.reduceLT,Nat.reduceBEq,TY_EvH10,g115_2,g115_16,bb115_1,w116] at he
      rcases dP ((k3:Int)<(d.hours.length:Int)) with ⟨h117a,h117⟩|⟨h117a,h117⟩
      ·try simp only [E0_G,SY,off,agreeKind,Nat.reduceLT,h117a] at he
       generalize hL118:Rec.loop _ _ _ _=L118 at he
       obtain ⟨x118,t118,S118e,rfl,hQ118⟩:=loop_met hL118 (fun m t S'=>∃ (j4:Nat) (b4:Int),m+j4=3∧j4≤2∧0≤b4∧b4≤1073741824∧t.get 1=some (.int .i64 ti)∧t.get 2=some (.pointer (some ⟨S.next,0,none⟩))∧t.get 6=some (.int .i64 b4)∧t.get 12=some (.int .i64 (jv:Int))∧t.get 15=some (.int .i64 (((Int.tdiv (x27.hi+1) 86400) * 86400)+86400))∧t.get 16=some (.int .i64 (k3:Int))∧t.get 17=some (.int .i64 (j4:Int))∧S'.heap.get S.next=some (.cells [v_d_hours,v_d_shut] 98 0 true true)∧Agree S S'∧S115.next≤S'.next∧R90_4 d ti jv b2 x27 k3 b3 m j4 b4=R90_4 d ti jv b2 x27 k3 b3 3 0 b3)
        (fun x t S'=>x=.exit 8∧∃ (j4:Nat) (b4:Int),t.get 1=some (.int .i64 ti)∧t.get 2=some (.pointer (some ⟨S.next,0,none⟩))∧t.get 6=some (.int .i64 b4)∧t.get 12=some (.int .i64 (jv:Int))∧t.get 15=some (.int .i64 (((Int.tdiv (x27.hi+1) 86400) * 86400)+86400))∧t.get 16=some (.int .i64 (k3:Int))∧S'.heap.get S.next=some (.cells [v_d_hours,v_d_shut] 98 0 true true)∧Agree S S'∧S115.next≤S'.next∧j4≤2∧0≤b4∧b4≤1073741824∧R90_4 d ti jv b2 x27 k3 b3 3 0 b3=b4) 3 (by refine ⟨0,b3,?_,?_,?_,?_,?_,?_,?_,?_,?_,?_,?_,bb115_1,ga115,Nat.le_refl _,rfl⟩<;>first|(simp only [SY,eq_self,Nat.reduceBEq,g115_1,g115_2,g115_6,g115_12,g115_15,g115_16]<;>rfl)|omega|assumption|(simp; omega)|simp) (by
         rintro m t S118 ⟨j4,b4,hi118_0,hi118_1,hi118_2,hi118_3,g118_1,g118_2,g118_6,g118_12,g118_15,g118_16,g118_17,bb118_1,ga118,gn118,hd118⟩
         refine .run fun z he=>?_
         try simp only [E0_G,SY,off,agreeKind,Nat.reduceAdd,Nat.reduceLT,Nat.reduceBEq,g118_17] at he
         rcases dP ((j4:Int)<2) with ⟨h119a,h119⟩|⟨h119a,h119⟩
         ·have w120:IntKind.i64.wrap ((j4:Int) * 86400)=(j4:Int) * 86400:=by rw [IntWalk.i64_in]; omega
          have w121:IntKind.i64.wrap ((((Int.tdiv (x27.hi+1) 86400) * 86400)+86400) - ((j4:Int) * 86400))=(((Int.tdiv (x27.hi+1) 86400) * 86400)+86400) - ((j4:Int) * 86400):=by rw [IntWalk.i64_in]; omega
          have hx122:d.hours[k3]?=some (lget d.hours k3):=lget_some (by first|omega|simp; omega)
          have eb123:=hD.h _ (List.mem_of_getElem? hx122)
          obtain ⟨id122,of122,cc122,ty122,wr122,ex122,i122,j122,l122,q122⟩:=(hv_d_hours).at (P:=Tryz.prog) (t:=40) Tryz.underlying40 tz36 hx122
          have j122:=(ga118.2 id122 l122).trans j122
          have m122_0:cc122[of122]?=some (.int .i64 ((lget d.hours k3).lo)):=q122 0 (show 0<2 by decide)
          have m122_1:cc122[of122+1]?=some (.int .i64 ((lget d.hours k3).hi)):=q122 1 (show 1<2 by decide)
          have w124:IntKind.i64.wrap (((((Int.tdiv (x27.hi+1) 86400) * 86400)+86400) - ((j4:Int) * 86400))+((lget d.hours k3).lo))=((((Int.tdiv (x27.hi+1) 86400) * 86400)+86400) - ((j4:Int) * 86400))+((lget d.hours k3).lo):=by rw [IntWalk.i64_in]; omega
          try simp (disch:=first|omega|assumption) only [E0_G,SY,off,agreeKind,ldA,aggD,aField,Nat.reduceAdd,Nat.reduceLT,Nat.reduceBEq,TY_EvH10,g118_1,g118_2,g118_15,g118_16,g118_17,bb118_1,h119a,w120,w121,i122,j122,m122_0,w124] at he
          rcases dP (ti<(((((Int.tdiv (x27.hi+1) 86400) * 86400)+86400) - ((j4:Int) * 86400))+((lget d.hours k3).lo))) with ⟨h125a,h125⟩|⟨h125a,h125⟩
          ·try simp only [E0_G,SY,off,agreeKind,Nat.reduceAdd,Nat.reduceLT,Nat.reduceBEq,g118_6,h125a] at he
           rcases dP ((((((Int.tdiv (x27.hi+1) 86400) * 86400)+86400) - ((j4:Int) * 86400))+((lget d.hours k3).lo))<b4) with ⟨h126a,h126⟩|⟨h126a,h126⟩
           ·obtain ⟨S127,k127,a127⟩:=c86 d (((((Int.tdiv (x27.hi+1) 86400) * 86400)+86400) - ((j4:Int) * 86400))+((lget d.hours k3).lo)) hD S118 (v_d_hours) (hv_d_hours.agree ga118) (v_d_shut) (hv_d_shut.agree ga118)
            have l127:=a127.1
            have v1_127:=(a127.2 S.next (by omega)).trans bb118_1
            have g127:Agree S S127:=ga118.trans a127
            try simp only [E0_G,SY,off,agreeKind,vals,ldA,rdCells,aggD,Nat.reduceAdd,Nat.reduceLT,Nat.reduceBEq,TY_EvH10,g118_2,bb118_1,h126a,k127] at he
            rcases dB ((r86 d (((((Int.tdiv (x27.hi+1) 86400) * 86400)+86400) - ((j4:Int) * 86400))+((lget d.hours k3).lo)))) with ⟨h128a,h128⟩|⟨h128a,h128⟩
            ·have w129:IntKind.i64.wrap ((j4:Int)+1)=((j4+1:Nat):Int):=by rw [IntWalk.i64_in]<;>omega
             try simp only [E0_G,SY,off,agreeKind,Nat.reduceAdd,Nat.reduceLT,Nat.reduceBEq,g118_17,h128a,w129] at he
             obtain ⟨m',rfl⟩:∃ m',m=m'+1:=⟨m - 1,by omega⟩
             have hf:=(show _=(R90_4 d ti jv b2 x27 k3 b3 m' (j4+1) (((((Int.tdiv (x27.hi+1) 86400) * 86400)+86400) - ((j4:Int) * 86400))+((lget d.hours k3).lo)):Int) from (if_pos h119).trans ((if_pos h125).trans ((if_pos h126).trans ((if_pos h128).trans (rfl))))).symm.trans hd118
             refine .next he m' (by omega) ⟨(j4+1),((((Int.tdiv (x27.hi+1) 86400) * 86400)+86400) - ((j4:Int) * 86400))+((lget d.hours k3).lo),?_,?_,?_,?_,?_,?_,?_,?_,?_,?_,?_,v1_127,g127,by omega,hf⟩<;>first|(simp only [SY,eq_self,Nat.reduceBEq,g118_1,g118_2,g118_6,g118_12,g118_15,g118_16,g118_17]<;>rfl)|omega|assumption|(simp; omega)|simp
            have w130:IntKind.i64.wrap ((j4:Int)+1)=((j4+1:Nat):Int):=by rw [IntWalk.i64_in]<;>omega
            try simp only [E0_G,SY,off,agreeKind,Nat.reduceAdd,Nat.reduceLT,Nat.reduceBEq,g118_17,h128a,w130] at he
            obtain ⟨m',rfl⟩:∃ m',m=m'+1:=⟨m - 1,by omega⟩
            have hf:=(show _=(R90_4 d ti jv b2 x27 k3 b3 m' (j4+1) b4:Int) from (if_pos h119).trans ((if_pos h125).trans ((if_pos h126).trans ((if_neg h128).trans (rfl))))).symm.trans hd118
            refine .next he m' (by omega) ⟨(j4+1),b4,?_,?_,?_,?_,?_,?_,?_,?_,?_,?_,?_,v1_127,g127,by omega,hf⟩<;>first|(simp only [SY,eq_self,Nat.reduceBEq,g118_1,g118_2,g118_6,g118_12,g118_15,g118_16,g118_17]<;>rfl)|omega|assumption|(simp; omega)|simp
           have w131:IntKind.i64.wrap ((j4:Int)+1)=((j4+1:Nat):Int):=by rw [IntWalk.i64_in]<;>omega
           try simp only [E0_G,SY,off,agreeKind,Nat.reduceAdd,Nat.reduceLT,Nat.reduceBEq,g118_17,h126a,w131] at he
           obtain ⟨m',rfl⟩:∃ m',m=m'+1:=⟨m - 1,by omega⟩
           have hf:=(show _=(R90_4 d ti jv b2 x27 k3 b3 m' (j4+1) b4:Int) from (if_pos h119).trans ((if_pos h125).trans ((if_neg h126).trans (rfl)))).symm.trans hd118
           refine .next he m' (by omega) ⟨(j4+1),b4,?_,?_,?_,?_,?_,?_,?_,?_,?_,?_,?_,bb118_1,ga118,by omega,hf⟩<;>first|(simp only [SY,eq_self,Nat.reduceBEq,g118_1,g118_2,g118_6,g118_12,g118_15,g118_16,g118_17]<;>rfl)|omega|assumption|(simp; omega)|simp
          have w132:IntKind.i64.wrap ((j4:Int)+1)=((j4+1:Nat):Int):=by rw [IntWalk.i64_in]<;>omega
          try simp only [E0_G,SY,off,agreeKind,Nat.reduceAdd,Nat.reduceLT,Nat.reduceBEq,g118_17,h125a,w132] at he
          obtain ⟨m',rfl⟩:∃ m',m=m'+1:=⟨m - 1,by omega⟩
          have hf:=(show _=(R90_4 d ti jv b2 x27 k3 b3 m' (j4+1) b4:Int) from (if_pos h119).trans ((if_neg h125).trans (rfl))).symm.trans hd118
          refine .next he m' (by omega) ⟨(j4+1),b4,?_,?_,?_,?_,?_,?_,?_,?_,?_,?_,?_,bb118_1,ga118,by omega,hf⟩<;>first|(simp only [SY,eq_self,Nat.reduceBEq,g118_1,g118_2,g118_6,g118_12,g118_15,g118_16,g118_17]<;>rfl)|omega|assumption|(simp; omega)|simp
         try simp only [SY,h119a] at he
         obtain ⟨m',rfl⟩:∃ m',m=m'+1:=⟨m - 1,by omega⟩
         have hf:=(show _=(b4:Int) from (if_neg h119).trans (rfl)).symm.trans hd118
         refine .exit he ⟨rfl,⟨j4,b4,?_,?_,?_,?_,?_,?_,bb118_1,ga118,by omega,?_,?_,?_,hf.symm⟩⟩<;>first|(simp only [SY,eq_self,Nat.reduceBEq,g118_1,g118_2,g118_6,g118_12,g118_15,g118_16]<;>rfl)|omega|assumption|(simp; omega)|simp)
       obtain ⟨rfl,j4,b4,ge118_1,ge118_2,ge118_6,ge118_12,ge118_15,ge118_16,be118_1,ge118,gm118,hj118_0,hj118_1,hj118_2,hR118⟩:=hQ118
       obtain rfl:b4=R90_4 d ti jv b2 x27 k3 b3 3 0 b3:=hR118.symm
       have w134:IntKind.i64.wrap ((k3:Int)+1)=((k3+1:Nat):Int):=by rw [IntWalk.i64_in]<;>omega
       try simp only [E0_G,SY,off,agreeKind,eq_self,if_true,Nat.reduceAdd,Nat.reduceLT,Nat.reduceBEq,ge118_16,w134] at he
       rw [drop_cons' (List.getElem?_eq_getElem (show k3<_ by omega))] at hd115
       have hf:=(show _=(R90_3 d ti jv b2 x27 (d.hours.drop (k3+1)) (k3+1) (R90_4 d ti jv b2 x27 k3 b3 3 0 b3):Int) from rfl).symm.trans hd115
       refine .next he (m - 1) (by omega) ⟨(k3+1),R90_4 d ti jv b2 x27 k3 b3 3 0 b3,?_,?_,?_,?_,?_,?_,?_,?_,?_,?_,be118_1,ge118,by omega,hf⟩<;>first|(simp only [SY,eq_self,Nat.reduceBEq,ge118_1,ge118_2,ge118_6,ge118_12,ge118_15,ge118_16]<;>rfl)|omega|assumption|(simp; omega)|simp
      try simp only [SY,h117a] at he
      rw [List.drop_eq_nil_of_le (show d.hours.length≤k3 by omega)] at hd115
      have hf:=(show _=(b3:Int) from rfl).symm.trans hd115
      refine .exit he ⟨rfl,⟨k3,b3,?_,?_,?_,?_,bb115_1,ga115,by omega,?_,?_,?_,hf.symm⟩⟩<;>first|(simp only [SY,eq_self,Nat.reduceBEq,g115_1,g115_2,g115_6,g115_12]<;>rfl)|omega|assumption|(simp; omega)|simp)
    obtain ⟨rfl,k3,b3,ge115_1,ge115_2,ge115_6,ge115_12,be115_1,ge115,gm115,hj115_0,hj115_1,hj115_2,hR115⟩:=hQ115
    obtain rfl:b3=R90_3 d ti jv b2 x27 d.hours 0 b2:=hR115.symm
    have w136:IntKind.i64.wrap ((jv:Int)+1)=((jv+1:Nat):Int):=by rw [IntWalk.i64_in]<;>omega
    try simp only [E0_G,SY,off,agreeKind,eq_self,if_true,Nat.reduceAdd,Nat.reduceLT,Nat.reduceBEq,ge115_12,w136] at he
    rw [drop_cons' hx27] at hd27
    have hf:=(show _=(R90_2 d ti (d.shut.drop (jv+1)) (jv+1) (R90_3 d ti jv b2 x27 d.hours 0 b2):Int) from (if_neg h33).trans (rfl)).symm.trans hd27
    refine .next he (m - 1) (by omega) ⟨(jv+1),R90_3 d ti jv b2 x27 d.hours 0 b2,?_,?_,?_,?_,?_,?_,?_,?_,be115_1,ge115,by omega,hf⟩<;>first|(simp only [SY,eq_self,Nat.reduceBEq,ge115_1,ge115_2,ge115_6,ge115_12]<;>rfl)|omega|assumption|(simp; omega)|simp
   try simp only [SY,h29a] at he
   rw [List.drop_eq_nil_of_le (show d.shut.length≤jv by omega)] at hd27
   have hf:=(show _=(b2:Int) from rfl).symm.trans hd27
   refine .exit he ⟨rfl,⟨jv,b2,?_,bb27_1,ga27,by omega,?_,?_,?_,hf.symm⟩⟩<;>first|(simp only [SY,eq_self,Nat.reduceBEq,g27_6]<;>rfl)|omega|assumption|(simp; omega)|simp)
 obtain ⟨rfl,jv,b2,ge27_6,be27_1,ge27,gm27,hj27_0,hj27_1,hj27_2,hR27⟩:=hQ27
 obtain rfl:b2=R90_2 d ti d.shut 0 (R90_0 d ti 3 0 1073741824):=hR27.symm
 try simp only [E0_G,SY,off,agreeKind,eq_self,if_true,Nat.reduceAdd,Nat.reduceLT,Nat.reduceBEq,ge27_6] at hz
 have hr:r90 d ti=R90_2 d ti d.shut 0 (R90_0 d ti 3 0 1073741824):=(if_neg h3).trans (rfl)
 exact fin hz (by rw [hr]) ge27
def R92_1 (d:Dr) (ti:Int) (kv:Nat) (b0:Int):List Sp→Int→Int
 | [],b1=>b1
 | x8 :: l',b1=>(if 0≤((((Int.tdiv ti 86400) * 86400) - ((kv:Int) * 86400))+x8.hi) then (if ((((Int.tdiv ti 86400) * 86400) - ((kv:Int) * 86400))+x8.hi)<ti then (if b1<((((Int.tdiv ti 86400) * 86400) - ((kv:Int) * 86400))+x8.hi) then (if (r86 d ((((Int.tdiv ti 86400) * 86400) - ((kv:Int) * 86400))+x8.hi))=true then R92_1 d ti kv b0 l' ((((Int.tdiv ti 86400) * 86400) - ((kv:Int) * 86400))+x8.hi) else R92_1 d ti kv b0 l' b1) else R92_1 d ti kv b0 l' b1) else R92_1 d ti kv b0 l' b1) else R92_1 d ti kv b0 l' b1)
def R92_0 (d:Dr) (ti:Int)  : Nat→Nat→Int→Int
 | 0,kv,b0=>b0
 | m'+1,kv,b0=>(if (kv:Int)<2 then R92_0 d ti m' (kv+1) (R92_1 d ti kv b0 d.hours b0) else b0)
def R92_4 (d:Dr) (ti:Int) (jv:Nat) (b2:Int) (x29:Sp) (k3:Nat) (b3:Int):Nat→Nat→Int→Int
 | 0,j4,b4=>b4
 | m'+1,j4,b4=>(if (j4:Int)<2 then (if 0≤(((((Int.tdiv (x29.lo - 1) 86400) * 86400) - 86400)+((j4:Int) * 86400))+((lget d.hours k3).hi)) then (if (((((Int.tdiv (x29.lo - 1) 86400) * 86400) - 86400)+((j4:Int) * 86400))+((lget d.hours k3).hi))<ti then (if b4<(((((Int.tdiv (x29.lo - 1) 86400) * 86400) - 86400)+((j4:Int) * 86400))+((lget d.hours k3).hi)) then (if (r86 d (((((Int.tdiv (x29.lo - 1) 86400) * 86400) - 86400)+((j4:Int) * 86400))+((lget d.hours k3).hi)))=true then R92_4 d ti jv b2 x29 k3 b3 m' (j4+1) (((((Int.tdiv (x29.lo - 1) 86400) * 86400) - 86400)+((j4:Int) * 86400))+((lget d.hours k3).hi)) else R92_4 d ti jv b2 x29 k3 b3 m' (j4+1) b4) else R92_4 d ti jv b2 x29 k3 b3 m' (j4+1) b4) else R92_4 d ti jv b2 x29 k3 b3 m' (j4+1) b4) else R92_4 d ti jv b2 x29 k3 b3 m' (j4+1) b4) else b4)
def R92_3 (d:Dr) (ti:Int) (jv:Nat) (b2:Int) (x29:Sp):List Sp→Nat→Int→Int
 | [],k3,b3=>b3
 | _x :: l',k3,b3=>R92_3 d ti jv b2 x29 l' (k3+1) (R92_4 d ti jv b2 x29 k3 b3 3 0 b3)
def R92_2 (d:Dr) (ti:Int)  : List Sp→Nat→Int→Int
 | [],jv,b2=>b2
 | x29 :: l',jv,b2=>(if 0≤(x29.lo - 1) then (if (x29.lo - 1)<ti then (if b2<(x29.lo - 1) then (if (r86 d (x29.lo - 1))=true then R92_2 d ti l' (jv+1) (R92_3 d ti jv b2 x29 d.hours 0 (x29.lo - 1)) else R92_2 d ti l' (jv+1) (R92_3 d ti jv b2 x29 d.hours 0 b2)) else R92_2 d ti l' (jv+1) (R92_3 d ti jv b2 x29 d.hours 0 b2)) else R92_2 d ti l' (jv+1) (R92_3 d ti jv b2 x29 d.hours 0 b2)) else R92_2 d ti l' (jv+1) b2)
def r92 (d:Dr) (ti:Int):Int:=(if (r86 d ti)=true then ti else R92_2 d ti d.shut 0 (R92_0 d ti 3 0 (-1)))
set_option maxHeartbeats 16000000 in
theorem c92 (d:Dr) (ti:Int) (hD:OkD d) (ht:0≤ti∧ti≤1073741823) (S:AS) (v_d_hours:Value) (hv_d_hours:Lst S v_d_hours d.hours) (v_d_shut:Value) (hv_d_shut:Lst S v_d_shut d.shut) :
  ∃ S',(evL Tryz.prog E0).call 92 #[.agg #[v_d_hours,v_d_shut],.int .i64 ti] S=some (.int .i64 (r92 d ti),S')∧Agree S S':=by
 have hdh:=hD.hl; have hds:=hD.sl
 generalize hz:(evL Tryz.prog E0).call 92 _ _=z
 rw [L_call,evCall_said rfl Tryz.func92 rfl (by decide) Tryz.ntmps92 Tryz.results92] at hz
 obtain ⟨S1,e1,n1,b1,a1⟩:=push_open S (.cells [v_d_hours,v_d_shut] 98 0 true true)
 have g1:Agree S S1:=a1
 obtain ⟨S2,k2,a2⟩:=c86 d ti hD S1 (v_d_hours) (hv_d_hours.agree g1) (v_d_shut) (hv_d_shut.agree g1)
 have l2:=a2.1
 have v1_2:=(a2.2 S.next (by omega)).trans b1
 have g2:Agree S S2:=g1.trans a2
 try simp only [E0_G,SY,setArgs,off,agreeKind,vals,boxed,ldA,rdCells,aggD,Nat.reduceAdd,Nat.reduceSub,Nat.reduceLT,Nat.reduceBEq,TY_EvH10,e1,b1,k2] at hz
 rcases dB ((r86 d ti)) with ⟨h3a,h3⟩|⟨h3a,h3⟩
 ·try simp only [E0_G,SY,off,agreeKind,Nat.reduceAdd,Nat.reduceLT,Nat.reduceBEq,h3a] at hz
  have hr:r92 d ti=ti:=(if_pos h3).trans (rfl)
  exact fin hz (by rw [hr]) g2
 have w4:IntKind.i64.wrap (Int.tdiv ti 86400)=Int.tdiv ti 86400:=by have:=td_ok (t:=ti) (by omega); rw [IntWalk.i64_in]; omega
 have q4:=td_ok (t:=ti) (by omega)
 have w5:IntKind.i64.wrap ((Int.tdiv ti 86400) * 86400)=(Int.tdiv ti 86400) * 86400:=by rw [IntWalk.i64_in]; omega
 try simp only [E0_G,SY,off,agreeKind,Nat.reduceAdd,Nat.reduceLT,Nat.reduceBEq,Int.reduceEq,h3a,w4,w5] at hz
 generalize hL6:Rec.loop _ _ _ _=L6 at hz
 obtain ⟨x6,t6,S6e,rfl,hQ6⟩:=loop_met hL6 (fun m t S'=>∃ (kv:Nat) (b0:Int),m+kv=3∧kv≤2 ∧ -1≤b0∧b0≤1073741823∧t.get 1=some (.int .i64 ti)∧t.get 2=some (.pointer (some ⟨S.next,0,none⟩))∧t.get 6=some (.int .i64 b0)∧t.get 7=some (.int .i64 ((Int.tdiv ti 86400) * 86400))∧t.get 8=some (.int .i64 (kv:Int))∧S'.heap.get S.next=some (.cells [v_d_hours,v_d_shut] 98 0 true true)∧Agree S S'∧S2.next≤S'.next∧R92_0 d ti m kv b0=R92_0 d ti 3 0 (-1))
  (fun x t S'=>x=.exit 0∧∃ (kv:Nat) (b0:Int),t.get 1=some (.int .i64 ti)∧t.get 2=some (.pointer (some ⟨S.next,0,none⟩))∧t.get 6=some (.int .i64 b0)∧S'.heap.get S.next=some (.cells [v_d_hours,v_d_shut] 98 0 true true)∧Agree S S'∧S2.next≤S'.next∧kv≤2 ∧ -1≤b0∧b0≤1073741823∧R92_0 d ti 3 0 (-1)=b0) 3 (by refine ⟨0,-1,?_,?_,?_,?_,?_,?_,?_,?_,?_,v1_2,g2,Nat.le_refl _,rfl⟩<;>first|(simp only [SY,eq_self,Nat.reduceBEq,Int.reduceLE]<;>rfl)|omega|assumption|(simp; omega)|simp) (by
   rintro m t S6 ⟨kv,b0,hi6_0,hi6_1,hi6_2,hi6_3,g6_1,g6_2,g6_6,g6_7,g6_8,bb6_1,ga6,gn6,hd6⟩
   refine .run fun z he=>?_
   try simp only [E0_G,SY,off,agreeKind,Nat.reduceAdd,Nat.reduceLT,Nat.reduceBEq,g6_8] at he
   rcases dP ((kv:Int)<2) with ⟨h7a,h7⟩|⟨h7a,h7⟩
   ·try simp only [E0_G,SY,off,agreeKind,Nat.reduceLT,h7a] at he
    generalize hL8:Rec.loop _ _ _ _=L8 at he
    obtain ⟨x8,t8,S8e,rfl,hQ8⟩:=loop_met hL8 (fun m t S'=>∃ (iv:Nat) (b1:Int),m+iv=d.hours.length∧kv<2 ∧ -1≤b1∧b1≤1073741823∧iv≤d.hours.length∧t.get 1=some (.int .i64 ti)∧t.get 2=some (.pointer (some ⟨S.next,0,none⟩))∧t.get 6=some (.int .i64 b1)∧t.get 7=some (.int .i64 ((Int.tdiv ti 86400) * 86400))∧t.get 8=some (.int .i64 (kv:Int))∧t.get 9=some (.int .i64 (iv:Int))∧S'.heap.get S.next=some (.cells [v_d_hours,v_d_shut] 98 0 true true)∧Agree S S'∧S6.next≤S'.next∧R92_1 d ti kv b0 (d.hours.drop iv) b1=R92_1 d ti kv b0 d.hours b0)
     (fun x t S'=>x=.exit 2∧∃ (iv:Nat) (b1:Int),t.get 1=some (.int .i64 ti)∧t.get 2=some (.pointer (some ⟨S.next,0,none⟩))∧t.get 6=some (.int .i64 b1)∧t.get 7=some (.int .i64 ((Int.tdiv ti 86400) * 86400))∧t.get 8=some (.int .i64 (kv:Int))∧S'.heap.get S.next=some (.cells [v_d_hours,v_d_shut] 98 0 true true)∧Agree S S'∧S6.next≤S'.next∧kv<2 ∧ -1≤b1∧b1≤1073741823∧iv≤d.hours.length∧R92_1 d ti kv b0 d.hours b0=b1) (d.hours.length - 0) (by refine ⟨0,b0,?_,?_,?_,?_,?_,?_,?_,?_,?_,?_,?_,bb6_1,ga6,Nat.le_refl _,rfl⟩<;>first|(simp only [SY,eq_self,Nat.reduceBEq,g6_1,g6_2,g6_6,g6_7,g6_8]<;>rfl)|omega|assumption|(simp; omega)|simp) (by
      rintro m t S8 ⟨iv,b1,hi8_0,hi8_1,hi8_2,hi8_3,hi8_4,g8_1,g8_2,g8_6,g8_7,g8_8,g8_9,bb8_1,ga8,gn8,hd8⟩
      refine .run fun z he=>?_
      have w9:=(hv_d_hours.agree ga8).len (P:=Tryz.prog) (t:=40) Tryz.underlying40
      try simp (disch:=first|omega|assumption) only [E0_G,SY,off,agreeKind,ldA,aggD,aField,Nat.reduceAdd,Nat.reduceLT,Nat.reduceBEq,TY_EvH10,g8_2,g8_9,bb8_1,w9] at he
      rcases dP ((iv:Int)<(d.hours.length:Int)) with ⟨h10a,h10⟩|⟨h10a,h10⟩
      ·have w11:IntKind.i64.wrap ((kv:Int) * 86400)=(kv:Int) * 86400:=by rw [IntWalk.i64_in]; omega
       have w12:IntKind.i64.wrap (((Int.tdiv ti 86400) * 86400) - ((kv:Int) * 86400))=((Int.tdiv ti 86400) * 86400) - ((kv:Int) * 86400):=by rw [IntWalk.i64_in]; omega
       have hx8:d.hours[iv]?=some (d.hours[iv]'(by first|omega|simp; omega)):=List.getElem?_eq_getElem _
       generalize d.hours[iv]'_=x8 at hx8
       have eb14:=hD.h _ (List.mem_of_getElem? hx8)
       obtain ⟨id13,of13,cc13,ty13,wr13,ex13,i13,j13,l13,q13⟩:=(hv_d_hours).at (P:=Tryz.prog) (t:=40) Tryz.underlying40 tz36 hx8
       have j13:=(ga8.2 id13 l13).trans j13
       have m13_0:cc13[of13]?=some (.int .i64 x8.lo):=q13 0 (show 0<2 by decide)
       have m13_1:cc13[of13+1]?=some (.int .i64 x8.hi):=q13 1 (show 1<2 by decide)
       have w15:IntKind.i64.wrap ((((Int.tdiv ti 86400) * 86400) - ((kv:Int) * 86400))+x8.hi)=(((Int.tdiv ti 86400) * 86400) - ((kv:Int) * 86400))+x8.hi:=by rw [IntWalk.i64_in]; omega
       try simp (disch:=first|omega|assumption) only [E0_G,SY,off,agreeKind,ldA,aggD,aField,Nat.reduceAdd,Nat.reduceLT,Nat.reduceBEq,TY_EvH10,g8_2,g8_7,g8_8,g8_9,bb8_1,h10a,w11,w12,i13,j13,m13_1,w15] at he
       rcases dP (0≤((((Int.tdiv ti 86400) * 86400) - ((kv:Int) * 86400))+x8.hi)) with ⟨h16a,h16⟩|⟨h16a,h16⟩
       ·try simp only [E0_G,SY,off,agreeKind,Nat.reduceAdd,Nat.reduceLT,Nat.reduceBEq,g8_1,h16a] at he
        rcases dP (((((Int.tdiv ti 86400) * 86400) - ((kv:Int) * 86400))+x8.hi)<ti) with ⟨h17a,h17⟩|⟨h17a,h17⟩
        ·try simp only [E0_G,SY,off,agreeKind,Nat.reduceAdd,Nat.reduceLT,Nat.reduceBEq,g8_6,h17a] at he
         rcases dP (b1<((((Int.tdiv ti 86400) * 86400) - ((kv:Int) * 86400))+x8.hi)) with ⟨h18a,h18⟩|⟨h18a,h18⟩
         ·obtain ⟨S19,k19,a19⟩:=c86 d ((((Int.tdiv ti 86400) * 86400) - ((kv:Int) * 86400))+x8.hi) hD S8 (v_d_hours) (hv_d_hours.agree ga8) (v_d_shut) (hv_d_shut.agree ga8)
          have l19:=a19.1
          have v1_19:=(a19.2 S.next (by omega)).trans bb8_1
          have g19:Agree S S19:=ga8.trans a19
          try simp only [E0_G,SY,off,agreeKind,vals,ldA,rdCells,aggD,Nat.reduceAdd,Nat.reduceLT,Nat.reduceBEq,TY_EvH10,g8_2,bb8_1,h18a,k19] at he
          rcases dB ((r86 d ((((Int.tdiv ti 86400) * 86400) - ((kv:Int) * 86400))+x8.hi))) with ⟨h20a,h20⟩|⟨h20a,h20⟩
          ·have w21:IntKind.i64.wrap ((iv:Int)+1)=((iv+1:Nat):Int):=by rw [IntWalk.i64_in]<;>omega
           try simp only [E0_G,SY,off,agreeKind,Nat.reduceAdd,Nat.reduceLT,Nat.reduceBEq,g8_9,h20a,w21] at he
           rw [drop_cons' hx8] at hd8
           have hf:=(show _=(R92_1 d ti kv b0 (d.hours.drop (iv+1)) ((((Int.tdiv ti 86400) * 86400) - ((kv:Int) * 86400))+x8.hi):Int) from (if_pos h16).trans ((if_pos h17).trans ((if_pos h18).trans ((if_pos h20).trans (rfl))))).symm.trans hd8
           refine .next he (m - 1) (by omega) ⟨(iv+1),(((Int.tdiv ti 86400) * 86400) - ((kv:Int) * 86400))+x8.hi,?_,?_,?_,?_,?_,?_,?_,?_,?_,?_,?_,v1_19,g19,by omega,hf⟩<;>first|(simp only [SY,eq_self,Nat.reduceBEq,g8_1,g8_2,g8_6,g8_7,g8_8,g8_9]<;>rfl)|omega|assumption|(simp; omega)|simp
          have w22:IntKind.i64.wrap ((iv:Int)+1)=((iv+1:Nat):Int):=by rw [IntWalk.i64_in]<;>omega
          try simp only [E0_G,SY,off,agreeKind,Nat.reduceAdd,Nat.reduceLT,Nat.reduceBEq,g8_9,h20a,w22] at he
          rw [drop_cons' hx8] at hd8
          have hf:=(show _=(R92_1 d ti kv b0 (d.hours.drop (iv+1)) b1:Int) from (if_pos h16).trans ((if_pos h17).trans ((if_pos h18).trans ((if_neg h20).trans (rfl))))).symm.trans hd8
          refine .next he (m - 1) (by omega) ⟨(iv+1),b1,?_,?_,?_,?_,?_,?_,?_,?_,?_,?_,?_,v1_19,g19,by omega,hf⟩<;>first|(simp only [SY,eq_self,Nat.reduceBEq,g8_1,g8_2,g8_6,g8_7,g8_8,g8_9]<;>rfl)|omega|assumption|(simp; omega)|simp
         have w23:IntKind.i64.wrap ((iv:Int)+1)=((iv+1:Nat):Int):=by rw [IntWalk.i64_in]<;>omega
         try simp only [E0_G,SY,off,agreeKind,Nat.reduceAdd,Nat.reduceLT,Nat.reduceBEq,g8_9,h18a,w23] at he
         rw [drop_cons' hx8] at hd8
         have hf:=(show _=(R92_1 d ti kv b0 (d.hours.drop (iv+1)) b1:Int) from (if_pos h16).trans ((if_pos h17).trans ((if_neg h18).trans (rfl)))).symm.trans hd8
         refine .next he (m - 1) (by omega) ⟨(iv+1),b1,?_,?_,?_,?_,?_,?_,?_,?_,?_,?_,?_,bb8_1,ga8,by omega,hf⟩<;>first|(simp only [SY,eq_self,Nat.reduceBEq,g8_1,g8_2,g8_6,g8_7,g8_8,g8_9]<;>rfl)|omega|assumption|(simp; omega)|simp
        have w24:IntKind.i64.wrap ((iv:Int)+1)=((iv+1:Nat):Int):=by rw [IntWalk.i64_in]<;>omega
        try simp only [E0_G,SY,off,agreeKind,Nat.reduceAdd,Nat.reduceLT,Nat.reduceBEq,g8_9,h17a,w24] at he
        rw [drop_cons' hx8] at hd8
        have hf:=(show _=(R92_1 d ti kv b0 (d.hours.drop (iv+1)) b1:Int) from (if_pos h16).trans ((if_neg h17).trans (rfl))).symm.trans hd8
        refine .next he (m - 1) (by omega) ⟨(iv+1),b1,?_,?_,?_,?_,?_,?_,?_,?_,?_,?_,?_,bb8_1,ga8,by omega,hf⟩<;>first|(simp only [SY,eq_self,Nat.reduceBEq,g8_1,g8_2,g8_6,g8_7,g8_8,g8_9]<;>rfl)|omega|assumption|(simp; omega)|simp
       have w25:IntKind.i64.wrap ((iv:Int)+1)=((iv+1:Nat):Int):=by rw [IntWalk.i64_in]<;>omega
       try simp only [E0_G,SY,off,agreeKind,Nat.reduceAdd,Nat.reduceLT,Nat.reduceBEq,g8_9,h16a,w25] at he
       rw [drop_cons' hx8] at hd8
       have hf:=(show _=(R92_1 d ti kv b0 (d.hours.drop (iv+1)) b1:Int) from (if_neg h16).trans (rfl)).symm.trans hd8
       refine .next he (m - 1) (by omega) ⟨(iv+1),b1,?_,?_,?_,?_,?_,?_,?_,?_,?_,?_,?_,bb8_1,ga8,by omega,hf⟩<;>first|(simp only [SY,eq_self,Nat.reduceBEq,g8_1,g8_2,g8_6,g8_7,g8_8,g8_9]<;>rfl)|omega|assumption|(simp; omega)|simp
      try simp only [SY,h10a] at he
      rw [List.drop_eq_nil_of_le (show d.hours.length≤iv by omega)] at hd8
      have hf:=(show _=(b1:Int) from rfl).symm.trans hd8
      refine .exit he ⟨rfl,⟨iv,b1,?_,?_,?_,?_,?_,bb8_1,ga8,by omega,?_,?_,?_,?_,hf.symm⟩⟩<;>first|(simp only [SY,eq_self,Nat.reduceBEq,g8_1,g8_2,g8_6,g8_7,g8_8]<;>rfl)|omega|assumption|(simp; omega)|simp)
    obtain ⟨rfl,iv,b1,ge8_1,ge8_2,ge8_6,ge8_7,ge8_8,be8_1,ge8,gm8,hj8_0,hj8_1,hj8_2,hj8_3,hR8⟩:=hQ8
    obtain rfl:b1=R92_1 d ti kv b0 d.hours b0:=hR8.symm
    have w27:IntKind.i64.wrap ((kv:Int)+1)=((kv+1:Nat):Int):=by rw [IntWalk.i64_in]<;>omega
    try simp only [E0_G,SY,off,agreeKind,eq_self,if_true,Nat.reduceAdd,Nat.reduceLT,Nat.reduceBEq,ge8_8,w27] at he
    obtain ⟨m',rfl⟩:∃ m',m=m'+1:=⟨m - 1,by omega⟩
    have hf:=(show _=(R92_0 d ti m' (kv+1) (R92_1 d ti kv b0 d.hours b0):Int) from (if_pos h7).trans (rfl)).symm.trans hd6
    refine .next he m' (by omega) ⟨(kv+1),R92_1 d ti kv b0 d.hours b0,?_,?_,?_,?_,?_,?_,?_,?_,?_,be8_1,ge8,by omega,hf⟩<;>first|(simp only [SY,eq_self,Nat.reduceBEq,ge8_1,ge8_2,ge8_6,ge8_7,ge8_8]<;>rfl)|omega|assumption|(simp; omega)|simp
   try simp only [SY,h7a] at he
   obtain ⟨m',rfl⟩:∃ m',m=m'+1:=⟨m - 1,by omega⟩
   have hf:=(show _=(b0:Int) from (if_neg h7).trans (rfl)).symm.trans hd6
   refine .exit he ⟨rfl,⟨kv,b0,?_,?_,?_,bb6_1,ga6,by omega,?_,?_,?_,hf.symm⟩⟩<;>first|(simp only [SY,eq_self,Nat.reduceBEq,g6_1,g6_2,g6_6]<;>rfl)|omega|assumption|(simp; omega)|simp)
 obtain ⟨rfl,kv,b0,ge6_1,ge6_2,ge6_6,be6_1,ge6,gm6,hj6_0,hj6_1,hj6_2,hR6⟩:=hQ6
 obtain rfl:b0=R92_0 d ti 3 0 (-1):=hR6.symm
 try simp only [E0_G,SY,off,agreeKind,eq_self,if_true,Nat.reduceLT] at hz
 generalize hL29:Rec.loop _ _ _ _=L29 at hz
 obtain ⟨x29,t29,S29e,rfl,hQ29⟩:=loop_met hL29 (fun m t S'=>∃ (jv:Nat) (b2:Int),m+jv=d.shut.length ∧ -1≤b2∧b2≤1073741823∧jv≤d.shut.length∧t.get 1=some (.int .i64 ti)∧t.get 2=some (.pointer (some ⟨S.next,0,none⟩))∧t.get 6=some (.int .i64 b2)∧t.get 12=some (.int .i64 (jv:Int))∧S'.heap.get S.next=some (.cells [v_d_hours,v_d_shut] 98 0 true true)∧Agree S S'∧S6e.next≤S'.next∧R92_2 d ti (d.shut.drop jv) jv b2=R92_2 d ti d.shut 0 (R92_0 d ti 3 0 (-1)))
  (fun x t S'=>x=.exit 4∧∃ (jv:Nat) (b2:Int),t.get 6=some (.int .i64 b2)∧S'.heap.get S.next=some (.cells [v_d_hours,v_d_shut] 98 0 true true)∧Agree S S'∧S6e.next≤S'.next ∧ -1≤b2∧b2≤1073741823∧jv≤d.shut.length∧R92_2 d ti d.shut 0 (R92_0 d ti 3 0 (-1))=b2) (d.shut.length - 0) (by refine ⟨0,R92_0 d ti 3 0 (-1),?_,?_,?_,?_,?_,?_,?_,?_,be6_1,ge6,Nat.le_refl _,rfl⟩<;>first|(simp only [SY,eq_self,Nat.reduceBEq,ge6_1,ge6_2,ge6_6]<;>rfl)|omega|assumption|(simp; omega)|simp) (by
   rintro m t S29 ⟨jv,b2,hi29_0,hi29_1,hi29_2,hi29_3,g29_1,g29_2,g29_6,g29_12,bb29_1,ga29,gn29,hd29⟩
   refine .run fun z he=>?_
   have w30:=(hv_d_shut.agree ga29).len (P:=Tryz.prog) (t:=40) Tryz.underlying40
   try simp (disch:=first|omega|assumption) only [E0_G,SY,off,agreeKind,ldA,aggD,aField,Nat.reduceAdd,Nat.reduceLT,Nat.reduceBEq,TY_EvH10,g29_2,g29_12,bb29_1,w30] at he
   rcases dP ((jv:Int)<(d.shut.length:Int)) with ⟨h31a,h31⟩|⟨h31a,h31⟩
   ·have hx29:d.shut[jv]?=some (d.shut[jv]'(by first|omega|simp; omega)):=List.getElem?_eq_getElem _
    generalize d.shut[jv]'_=x29 at hx29
    have eb33:=hD.s _ (List.mem_of_getElem? hx29)
    obtain ⟨id32,of32,cc32,ty32,wr32,ex32,i32,j32,l32,q32⟩:=(hv_d_shut).at (P:=Tryz.prog) (t:=40) Tryz.underlying40 tz36 hx29
    have j32:=(ga29.2 id32 l32).trans j32
    have m32_0:cc32[of32]?=some (.int .i64 x29.lo):=q32 0 (show 0<2 by decide)
    have m32_1:cc32[of32+1]?=some (.int .i64 x29.hi):=q32 1 (show 1<2 by decide)
    have w34:IntKind.i64.wrap (x29.lo - 1)=x29.lo - 1:=by rw [IntWalk.i64_in]; omega
    try simp (disch:=first|omega|assumption) only [E0_G,SY,off,agreeKind,ldA,aggD,aField,Nat.reduceAdd,Nat.reduceLT,Nat.reduceBEq,TY_EvH10,g29_2,g29_12,bb29_1,h31a,i32,j32,m32_0,w34] at he
    rcases dP (0≤(x29.lo - 1)) with ⟨h35a,h35⟩|⟨h35a,h35⟩
    ·try simp only [E0_G,SY,off,agreeKind,Nat.reduceAdd,Nat.reduceLT,Nat.reduceBEq,g29_1,h35a] at he
     rcases dP ((x29.lo - 1)<ti) with ⟨h36a,h36⟩|⟨h36a,h36⟩
     ·try simp only [E0_G,SY,off,agreeKind,Nat.reduceAdd,Nat.reduceLT,Nat.reduceBEq,g29_6,h36a] at he
      rcases dP (b2<(x29.lo - 1)) with ⟨h37a,h37⟩|⟨h37a,h37⟩
      ·obtain ⟨S38,k38,a38⟩:=c86 d (x29.lo - 1) hD S29 (v_d_hours) (hv_d_hours.agree ga29) (v_d_shut) (hv_d_shut.agree ga29)
       have l38:=a38.1
       have v1_38:=(a38.2 S.next (by omega)).trans bb29_1
       have g38:Agree S S38:=ga29.trans a38
       try simp only [E0_G,SY,off,agreeKind,vals,ldA,rdCells,aggD,Nat.reduceAdd,Nat.reduceLT,Nat.reduceBEq,TY_EvH10,g29_2,bb29_1,h37a,k38] at he
       rcases dB ((r86 d (x29.lo - 1))) with ⟨h39a,h39⟩|⟨h39a,h39⟩
       ·try simp only [E0_G,SY,off,agreeKind,Nat.reduceAdd,Nat.reduceLT,Nat.reduceBEq,h39a] at he
        have h40a:decide ((x29.lo - 1)<0)=false:=decide_eq_false (by omega)
        have w41:IntKind.i64.wrap (Int.tdiv (x29.lo - 1) 86400)=Int.tdiv (x29.lo - 1) 86400:=by have:=td_ok (t:=(x29.lo - 1)) (by omega); rw [IntWalk.i64_in]; omega
        have q41:=td_ok (t:=(x29.lo - 1)) (by omega)
        have w42:IntKind.i64.wrap ((Int.tdiv (x29.lo - 1) 86400) * 86400)=(Int.tdiv (x29.lo - 1) 86400) * 86400:=by rw [IntWalk.i64_in]; omega
        have w43:IntKind.i64.wrap (((Int.tdiv (x29.lo - 1) 86400) * 86400) - 86400)=((Int.tdiv (x29.lo - 1) 86400) * 86400) - 86400:=by rw [IntWalk.i64_in]; omega
        try simp only [E0_G,SY,off,agreeKind,Nat.reduceAdd,Nat.reduceLT,Nat.reduceBEq,Int.reduceEq,h40a,w41,w42,w43] at he
        generalize hL44:Rec.loop _ _ _ _=L44 at he
        obtain ⟨x44,t44,S44e,rfl,hQ44⟩:=loop_met hL44 (fun m t S'=>∃ (k3:Nat) (b3:Int),m+k3=d.hours.length ∧ -1≤b3∧b3≤1073741823∧k3≤d.hours.length∧t.get 1=some (.int .i64 ti)∧t.get 2=some (.pointer (some ⟨S.next,0,none⟩))∧t.get 6=some (.int .i64 b3)∧t.get 12=some (.int .i64 (jv:Int))∧t.get 15=some (.int .i64 (((Int.tdiv (x29.lo - 1) 86400) * 86400) - 86400))∧t.get 16=some (.int .i64 (k3:Int))∧S'.heap.get S.next=some (.cells [v_d_hours,v_d_shut] 98 0 true true)∧Agree S S'∧S38.next≤S'.next∧R92_3 d ti jv b2 x29 (d.hours.drop k3) k3 b3=R92_3 d ti jv b2 x29 d.hours 0 (x29.lo - 1))
         (fun x t S'=>x=.exit 6∧∃ (k3:Nat) (b3:Int),t.get 1=some (.int .i64 ti)∧t.get 2=some (.pointer (some ⟨S.next,0,none⟩))∧t.get 6=some (.int .i64 b3)∧t.get 12=some (.int .i64 (jv:Int))∧S'.heap.get S.next=some (.cells [v_d_hours,v_d_shut] 98 0 true true)∧Agree S S'∧S38.next≤S'.next ∧ -1≤b3∧b3≤1073741823∧k3≤d.hours.length∧R92_3 d ti jv b2 x29 d.hours 0 (x29.lo - 1)=b3) (d.hours.length - 0) (by refine ⟨0,x29.lo - 1,?_,?_,?_,?_,?_,?_,?_,?_,?_,?_,v1_38,g38,Nat.le_refl _,rfl⟩<;>first|(simp only [SY,eq_self,Nat.reduceBEq,g29_1,g29_2,g29_6,g29_12]<;>rfl)|omega|assumption|(simp; omega)|simp) (by
          rintro m t S44 ⟨k3,b3,hi44_0,hi44_1,hi44_2,hi44_3,g44_1,g44_2,g44_6,g44_12,g44_15,g44_16,bb44_1,ga44,gn44,hd44⟩
          refine .run fun z he=>?_
          have w45:=(hv_d_hours.agree ga44).len (P:=Tryz.prog) (t:=40) Tryz.underlying40
          try simp (disch:=first|omega|assumption) only [E0_G,SY,off,agreeKind,ldA,aggD,aField,Nat.reduceAdd,Nat.reduceLT,Nat.reduceBEq,TY_EvH10,g44_2,g44_16,bb44_1,w45] at he
          rcases dP ((k3:Int)<(d.hours.length:Int)) with ⟨h46a,h46⟩|⟨h46a,h46⟩
          ·try simp only [E0_G,SY,off,agreeKind,Nat.reduceLT,h46a] at he
           generalize hL47:Rec.loop _ _ _ _=L47 at he
           obtain ⟨x47,t47,S47e,rfl,hQ47⟩:=loop_met hL47 (fun m t S'=>∃ (j4:Nat) (b4:Int),m+j4=3∧j4≤2 ∧ -1≤b4∧b4≤1073741823∧t.get 1=some (.int .i64 ti)∧t.get 2=some (.pointer (some ⟨S.next,0,none⟩))∧t.get 6=some (.int .i64 b4)∧t.get 12=some (.int .i64 (jv:Int))∧t.get 15=some (.int .i64 (((Int.tdiv (x29.lo - 1) 86400) * 86400) - 86400))∧t.get 16=some (.int .i64 (k3:Int))∧t.get 17=some (.int .i64 (j4:Int))∧S'.heap.get S.next=some (.cells [v_d_hours,v_d_shut] 98 0 true true)∧Agree S S'∧S44.next≤S'.next∧R92_4 d ti jv b2 x29 k3 b3 m j4 b4=R92_4 d ti jv b2 x29 k3 b3 3 0 b3)
            (fun x t S'=>x=.exit 8∧∃ (j4:Nat) (b4:Int),t.get 1=some (.int .i64 ti)∧t.get 2=some (.pointer (some ⟨S.next,0,none⟩))∧t.get 6=some (.int .i64 b4)∧t.get 12=some (.int .i64 (jv:Int))∧t.get 15=some (.int .i64 (((Int.tdiv (x29.lo - 1) 86400) * 86400) - 86400))∧t.get 16=some (.int .i64 (k3:Int))∧S'.heap.get S.next=some (.cells [v_d_hours,v_d_shut] 98 0 true true)∧Agree S S'∧S44.next≤S'.next∧j4≤2 ∧ -1≤b4∧b4≤1073741823∧R92_4 d ti jv b2 x29 k3 b3 3 0 b3=b4) 3 (by refine ⟨0,b3,?_,?_,?_,?_,?_,?_,?_,?_,?_,?_,?_,bb44_1,ga44,Nat.le_refl _,rfl⟩<;>first|(simp only [SY,eq_self,Nat.reduceBEq,g44_1,g44_2,g44_6,g44_12,g44_15,g44_16]<;>rfl)|omega|assumption|(simp; omega)|simp) (by
             rintro m t S47 ⟨j4,b4,hi47_0,hi47_1,hi47_2,hi47_3,g47_1,g47_2,g47_6,g47_12,g47_15,g47_16,g47_17,bb47_1,ga47,gn47,hd47⟩
             refine .run fun z he=>?_
             try simp only [E0_G,SY,off,agreeKind,Nat.reduceAdd,Nat.reduceLT,Nat.reduceBEq,g47_17] at he
             rcases dP ((j4:Int)<2) with ⟨h48a,h48⟩|⟨h48a,h48⟩
             ·have w49:IntKind.i64.wrap ((j4:Int) * 86400)=(j4:Int) * 86400:=by rw [IntWalk.i64_in]; omega
              have w50:IntKind.i64.wrap ((((Int.tdiv (x29.lo - 1) 86400) * 86400) - 86400)+((j4:Int) * 86400))=(((Int.tdiv (x29.lo - 1) 86400) * 86400) - 86400)+((j4:Int) * 86400):=by rw [IntWalk.i64_in]; omega
              have hx51:d.hours[k3]?=some (lget d.hours k3):=lget_some (by first|omega|simp; omega)
              have eb52:=hD.h _ (List.mem_of_getElem? hx51)
              obtain ⟨id51,of51,cc51,ty51,wr51,ex51,i51,j51,l51,q51⟩:=(hv_d_hours).at (P:=Tryz.prog) (t:=40) Tryz.underlying40 tz36 hx51
              have j51:=(ga47.2 id51 l51).trans j51
              have m51_0:cc51[of51]?=some (.int .i64 ((lget d.hours k3).lo)):=q51 0 (show 0<2 by decide)
              have m51_1:cc51[of51+1]?=some (.int .i64 ((lget d.hours k3).hi)):=q51 1 (show 1<2 by decide)
              have w53:IntKind.i64.wrap (((((Int.tdiv (x29.lo - 1) 86400) * 86400) - 86400)+((j4:Int) * 86400))+((lget d.hours k3).hi))=((((Int.tdiv (x29.lo - 1) 86400) * 86400) - 86400)+((j4:Int) * 86400))+((lget d.hours k3).hi):=by rw [IntWalk.i64_in]; omega
              try simp (disch:=first|omega|assumption) only [E0_G,SY,off,agreeKind,ldA,aggD,aField,Nat.reduceAdd,Nat.reduceLT,Nat.reduceBEq,TY_EvH10,g47_2,g47_15,g47_16,g47_17,bb47_1,h48a,w49,w50,i51,j51,m51_1,w53] at he
              rcases dP (0≤(((((Int.tdiv (x29.lo - 1) 86400) * 86400) - 86400)+((j4:Int) * 86400))+((lget d.hours k3).hi))) with ⟨h54a,h54⟩|⟨h54a,h54⟩
              ·try simp only [E0_G,SY,off,agreeKind,Nat.reduceAdd,Nat.reduceLT,Nat.reduceBEq,g47_1,h54a] at he
               rcases dP ((((((Int.tdiv (x29.lo - 1) 86400) * 86400) - 86400)+((j4:Int) * 86400))+((lget d.hours k3).hi))<ti) with ⟨h55a,h55⟩|⟨h55a,h55⟩
               ·try simp only [E0_G,SY,off,agreeKind,Nat.reduceAdd,Nat.reduceLT,Nat.reduceBEq,g47_6,h55a] at he
                rcases dP (b4<(((((Int.tdiv (x29.lo - 1) 86400) * 86400) - 86400)+((j4:Int) * 86400))+((lget d.hours k3).hi))) with ⟨h56a,h56⟩|⟨h56a,h56⟩
                ·obtain ⟨S57,k57,a57⟩:=c86 d (((((Int.tdiv (x29.lo - 1) 86400) * 86400) - 86400)+((j4:Int) * 86400))+((lget d.hours k3).hi)) hD S47 (v_d_hours) (hv_d_hours.agree ga47) (v_d_shut) (hv_d_shut.agree ga47)
                 have l57:=a57.1
                 have v1_57:=(a57.2 S.next (by omega)).trans bb47_1
                 have g57:Agree S S57:=ga47.trans a57
                 try simp only [E0_G,SY,off,agreeKind,vals,ldA,rdCells,aggD,Nat.reduceAdd,Nat.reduceLT,Nat.reduceBEq,TY_EvH10,g47_2,bb47_1,h56a,k57] at he
                 rcases dB ((r86 d (((((Int.tdiv (x29.lo - 1) 86400) * 86400) - 86400)+((j4:Int) * 86400))+((lget d.hours k3).hi)))) with ⟨h58a,h58⟩|⟨h58a,h58⟩
                 ·have w59:IntKind.i64.wrap ((j4:Int)+1)=((j4+1:Nat):Int):=by rw [IntWalk.i64_in]<;>omega
                  try simp only [E0_G,SY,off,agreeKind,Nat.reduceAdd,Nat.reduceLT,Nat.reduceBEq,g47_17,h58a,w59] at he
                  obtain ⟨m',rfl⟩:∃ m',m=m'+1:=⟨m - 1,by omega⟩
                  have hf:=(show _=(R92_4 d ti jv b2 x29 k3 b3 m' (j4+1) (((((Int.tdiv (x29.lo - 1) 86400) * 86400) - 86400)+((j4:Int) * 86400))+((lget d.hours k3).hi)):Int) from (if_pos h48).trans ((if_pos h54).trans ((if_pos h55).trans ((if_pos h56).trans ((if_pos h58).trans (rfl)))))).symm.trans hd47
                  refine .next he m' (by omega) ⟨(j4+1),((((Int.tdiv (x29.lo - 1) 86400) * 86400) - 86400)+((j4:Int) * 86400))+((lget d.hours k3).hi),?_,?_,?_,?_,?_,?_,?_,?_,?_,?_,?_,v1_57,g57,by omega,hf⟩<;>first|(simp only [SY,eq_self,Nat.reduceBEq,g47_1,g47_2,g47_6,g47_12,g47_15,g47_16,g47_17]<;>rfl)|omega|assumption|(simp; omega)|simp
                 have w60:IntKind.i64.wrap ((j4:Int)+1)=((j4+1:Nat):Int):=by rw [IntWalk.i64_in]<;>omega
                 try simp only [E0_G,SY,off,agreeKind,Nat.reduceAdd,Nat.reduceLT,Nat.reduceBEq,g47_17,h58a,w60] at he
                 obtain ⟨m',rfl⟩:∃ m',m=m'+1:=⟨m - 1,by omega⟩
                 have hf:=(show _=(R92_4 d ti jv b2 x29 k3 b3 m' (j4+1) b4:Int) from (if_pos h48).trans ((if_pos h54).trans ((if_pos h55).trans ((if_pos h56).trans ((if_neg h58).trans (rfl)))))).symm.trans hd47
                 refine .next he m' (by omega) ⟨(j4+1),b4,?_,?_,?_,?_,?_,?_,?_,?_,?_,?_,?_,v1_57,g57,by omega,hf⟩<;>first|(simp only [SY,eq_self,Nat.reduceBEq,g47_1,g47_2,g47_6,g47_12,g47_15,g47_16,g47_17]<;>rfl)|omega|assumption|(simp; omega)|simp
                have w61:IntKind.i64.wrap ((j4:Int)+1)=((j4+1:Nat):Int):=by rw [IntWalk.i64_in]<;>omega
                try simp only [E0_G,SY,off,agreeKind,Nat.reduceAdd,Nat.reduceLT,Nat.reduceBEq,g47_17,h56a,w61] at he
                obtain ⟨m',rfl⟩:∃ m',m=m'+1:=⟨m - 1,by omega⟩
                have hf:=(show _=(R92_4 d ti jv b2 x29 k3 b3 m' (j4+1) b4:Int) from (if_pos h48).trans ((if_pos h54).trans ((if_pos h55).trans ((if_neg h56).trans (rfl))))).symm.trans hd47
                refine .next he m' (by omega) ⟨(j4+1),b4,?_,?_,?_,?_,?_,?_,?_,?_,?_,?_,?_,bb47_1,ga47,by omega,hf⟩<;>first|(simp only [SY,eq_self,Nat.reduceBEq,g47_1,g47_2,g47_6,g47_12,g47_15,g47_16,g47_17]<;>rfl)|omega|assumption|(simp; omega)|simp
               have w62:IntKind.i64.wrap ((j4:Int)+1)=((j4+1:Nat):Int):=by rw [IntWalk.i64_in]<;>omega
               try simp only [E0_G,SY,off,agreeKind,Nat.reduceAdd,Nat.reduceLT,Nat.reduceBEq,g47_17,h55a,w62] at he
               obtain ⟨m',rfl⟩:∃ m',m=m'+1:=⟨m - 1,by omega⟩
               have hf:=(show _=(R92_4 d ti jv b2 x29 k3 b3 m' (j4+1) b4:Int) from (if_pos h48).trans ((if_pos h54).trans ((if_neg h55).trans (rfl)))).symm.trans hd47
               refine .next he m' (by omega) ⟨(j4+1),b4,?_,?_,?_,?_,?_,?_,?_,?_,?_,?_,?_,bb47_1,ga47,by omega,hf⟩<;>first|(simp only [SY,eq_self,Nat.reduceBEq,g47_1,g47_2,g47_6,g47_12,g47_15,g47_16,g47_17]<;>rfl)|omega|assumption|(simp; omega)|simp
              have w63:IntKind.i64.wrap ((j4:Int)+1)=((j4+1:Nat):Int):=by rw [IntWalk.i64_in]<;>omega
              try simp only [E0_G,SY,off,agreeKind,Nat.reduceAdd,Nat.reduceLT,Nat.reduceBEq,g47_17,h54a,w63] at he
              obtain ⟨m',rfl⟩:∃ m',m=m'+1:=⟨m - 1,by omega⟩
              have hf:=(show _=(R92_4 d ti jv b2 x29 k3 b3 m' (j4+1) b4:Int) from (if_pos h48).trans ((if_neg h54).trans (rfl))).symm.trans hd47
              refine .next he m' (by omega) ⟨(j4+1),b4,?_,?_,?_,?_,?_,?_,?_,?_,?_,?_,?_,bb47_1,ga47,by omega,hf⟩<;>first|(simp only [SY,eq_self,Nat.reduceBEq,g47_1,g47_2,g47_6,g47_12,g47_15,g47_16,g47_17]<;>rfl)|omega|assumption|(simp; omega)|simp
             try simp only [SY,h48a] at he
             obtain ⟨m',rfl⟩:∃ m',m=m'+1:=⟨m - 1,by omega⟩
             have hf:=(show _=(b4:Int) from (if_neg h48).trans (rfl)).symm.trans hd47
             refine .exit he ⟨rfl,⟨j4,b4,?_,?_,?_,?_,?_,?_,bb47_1,ga47,by omega,?_,?_,?_,hf.symm⟩⟩<;>first|(simp only [SY,eq_self,Nat.reduceBEq,g47_1,g47_2,g47_6,g47_12,g47_15,g47_16]<;>rfl)|omega|assumption|(simp; omega)|simp)
           obtain ⟨rfl,j4,b4,ge47_1,ge47_2,ge47_6,ge47_12,ge47_15,ge47_16,be47_1,ge47,gm47,hj47_0,hj47_1,hj47_2,hR47⟩:=hQ47
           obtain rfl:b4=R92_4 d ti jv b2 x29 k3 b3 3 0 b3:=hR47.symm
           have w65:IntKind.i64.wrap ((k3:Int)+1)=((k3+1:Nat):Int):=by rw [IntWalk.i64_in]<;>omega
           try simp only [E0_G,SY,off,agreeKind,eq_self,if_true,Nat.reduceAdd,Nat.reduceLT,Nat.reduceBEq,ge47_16,w65] at he
           rw [drop_cons' (List.getElem?_eq_getElem (show k3<_ by omega))] at hd44
           have hf:=(show _=(R92_3 d ti jv b2 x29 (d.hours.drop (k3+1)) (k3+1) (R92_4 d ti jv b2 x29 k3 b3 3 0 b3):Int) from rfl).symm.trans hd44
           refine .next he (m - 1) (by omega) ⟨(k3+1),R92_4 d ti jv b2 x29 k3 b3 3 0 b3,?_,?_,?_,?_,?_,?_,?_,?_,?_,?_,be47_1,ge47,by omega,hf⟩<;>first|(simp only [SY,eq_self,Nat.reduceBEq,ge47_1,ge47_2,ge47_6,ge47_12,ge47_15,ge47_16]<;>rfl)|omega|assumption|(simp; omega)|simp
          try simp only [SY,h46a] at he
          rw [List.drop_eq_nil_of_le (show d.hours.length≤k3 by omega)] at hd44
          have hf:=(show _=(b3:Int) from rfl).symm.trans hd44
          refine .exit he ⟨rfl,⟨k3,b3,?_,?_,?_,?_,bb44_1,ga44,by omega,?_,?_,?_,hf.symm⟩⟩<;>first|(simp only [SY,eq_self,Nat.reduceBEq,g44_1,g44_2,g44_6,g44_12]<;>rfl)|omega|assumption|(simp; omega)|simp)
        obtain ⟨rfl,k3,b3,ge44_1,ge44_2,ge44_6,ge44_12,be44_1,ge44,gm44,hj44_0,hj44_1,hj44_2,hR44⟩:=hQ44
        obtain rfl:b3=R92_3 d ti jv b2 x29 d.hours 0 (x29.lo - 1):=hR44.symm
        have w67:IntKind.i64.wrap ((jv:Int)+1)=((jv+1:Nat):Int):=by rw [IntWalk.i64_in]<;>omega
        try simp only [E0_G,SY,off,agreeKind,eq_self,if_true,Nat.reduceAdd,Nat.reduceLT,Nat.reduceBEq,ge44_12,w67] at he
        rw [drop_cons' hx29] at hd29
        have hf:=(show _=(R92_2 d ti (d.shut.drop (jv+1)) (jv+1) (R92_3 d ti jv b2 x29 d.hours 0 (x29.lo - 1)):Int) from (if_pos h35).trans ((if_pos h36).trans ((if_pos h37).trans ((if_pos h39).trans (rfl))))).symm.trans hd29
        refine .next he (m - 1) (by omega) ⟨(jv+1),R92_3 d ti jv b2 x29 d.hours 0 (x29.lo - 1),?_,?_,?_,?_,?_,?_,?_,?_,be44_1,ge44,by omega,hf⟩<;>first|(simp only [SY,eq_self,Nat.reduceBEq,ge44_1,ge44_2,ge44_6,ge44_12]<;>rfl)|omega|assumption|(simp; omega)|simp
       try simp only [E0_G,SY,off,agreeKind,Nat.reduceAdd,Nat.reduceLT,Nat.reduceBEq,h39a] at he
       have h68a:decide ((x29.lo - 1)<0)=false:=decide_eq_false (by omega)
       have w69:IntKind.i64.wrap (Int.tdiv (x29.lo - 1) 86400)=Int.tdiv (x29.lo - 1) 86400:=by have:=td_ok (t:=(x29.lo - 1)) (by omega); rw [IntWalk.i64_in]; omega
       have q69:=td_ok (t:=(x29.lo - 1)) (by omega)
       have w70:IntKind.i64.wrap ((Int.tdiv (x29.lo - 1) 86400) * 86400)=(Int.tdiv (x29.lo - 1) 86400) * 86400:=by rw [IntWalk.i64_in]; omega
       have w71:IntKind.i64.wrap (((Int.tdiv (x29.lo - 1) 86400) * 86400) - 86400)=((Int.tdiv (x29.lo - 1) 86400) * 86400) - 86400:=by rw [IntWalk.i64_in]; omega
       try simp only [E0_G,SY,off,agreeKind,Nat.reduceAdd,Nat.reduceLT,Nat.reduceBEq,Int.reduceEq,h68a,w69,w70,w71] at he
       generalize hL72:Rec.loop _ _ _ _=L72 at he
       obtain ⟨x72,t72,S72e,rfl,hQ72⟩:=loop_met hL72 (fun m t S'=>∃ (k3:Nat) (b3:Int),m+k3=d.hours.length ∧ -1≤b3∧b3≤1073741823∧k3≤d.hours.length∧t.get 1=some (.int .i64 ti)∧t.get 2=some (.pointer (some ⟨S.next,0,none⟩))∧t.get 6=some (.int .i64 b3)∧t.get 12=some (.int .i64 (jv:Int))∧t.get 15=some (.int .i64 (((Int.tdiv (x29.lo - 1) 86400) * 86400) - 86400))∧t.get 16=some (.int .i64 (k3:Int))∧S'.heap.get S.next=some (.cells [v_d_hours,v_d_shut] 98 0 true true)∧Agree S S'∧S38.next≤S'.next∧R92_3 d ti jv b2 x29 (d.hours.drop k3) k3 b3=R92_3 d ti jv b2 x29 d.hours 0 b2)
        (fun x t S'=>x=.exit 6∧∃ (k3:Nat) (b3:Int),t.get 1=some (.int .i64 ti)∧t.get 2=some (.pointer (some ⟨S.next,0,none⟩))∧t.get 6=some (.int .i64 b3)∧t.get 12=some (.int .i64 (jv:Int))∧S'.heap.get S.next=some (.cells [v_d_hours,v_d_shut] 98 0 true true)∧Agree S S'∧S38.next≤S'.next ∧ -1≤b3∧b3≤1073741823∧k3≤d.hours.length∧R92_3 d ti jv b2 x29 d.hours 0 b2=b3) (d.hours.length - 0) (by refine ⟨0,b2,?_,?_,?_,?_,?_,?_,?_,?_,?_,?_,v1_38,g38,Nat.le_refl _,rfl⟩<;>first|(simp only [SY,eq_self,Nat.reduceBEq,g29_1,g29_2,g29_6,g29_12]<;>rfl)|omega|assumption|(simp; omega)|simp) (by
         rintro m t S72 ⟨k3,b3,hi72_0,hi72_1,hi72_2,hi72_3,g72_1,g72_2,g72_6,g72_12,g72_15,g72_16,bb72_1,ga72,gn72,hd72⟩
         refine .run fun z he=>?_
         have w73:=(hv_d_hours.agree ga72).len (P:=Tryz.prog) (t:=40) Tryz.underlying40
         try simp (disch:=first|omega|assumption) only [E0_G,SY,off,agreeKind,ldA,aggD,aField,Nat.reduceAdd,Nat.reduceLT,Nat.reduceBEq,TY_EvH10,g72_2,g72_16,bb72_1,w73] at he
         rcases dP ((k3:Int)<(d.hours.length:Int)) with ⟨h74a,h74⟩|⟨h74a,h74⟩
         ·try simp only [E0_G,SY,off,agreeKind,Nat.reduceLT,h74a] at he
          generalize hL75:Rec.loop _ _ _ _=L75 at he
          obtain ⟨x75,t75,S75e,rfl,hQ75⟩:=loop_met hL75 (fun m t S'=>∃ (j4:Nat) (b4:Int),m+j4=3∧j4≤2 ∧ -1≤b4∧b4≤1073741823∧t.get 1=some (.int .i64 ti)∧t.get 2=some (.pointer (some ⟨S.next,0,none⟩))∧t.get 6=some (.int .i64 b4)∧t.get 12=some (.int .i64 (jv:Int))∧t.get 15=some (.int .i64 (((Int.tdiv (x29.lo - 1) 86400) * 86400) - 86400))∧t.get 16=some (.int .i64 (k3:Int))∧t.get 17=some (.int .i64 (j4:Int))∧S'.heap.get S.next=some (.cells [v_d_hours,v_d_shut] 98 0 true true)∧Agree S S'∧S72.next≤S'.next∧R92_4 d ti jv b2 x29 k3 b3 m j4 b4=R92_4 d ti jv b2 x29 k3 b3 3 0 b3)
           (fun x t S'=>x=.exit 8∧∃ (j4:Nat) (b4:Int),t.get 1=some (.int .i64 ti)∧t.get 2=some (.pointer (some ⟨S.next,0,none⟩))∧t.get 6=some (.int .i64 b4)∧t.get 12=some (.int .i64 (jv:Int))∧t.get 15=some (.int .i64 (((Int.tdiv (x29.lo - 1) 86400) * 86400) - 86400))∧t.get 16=some (.int .i64 (k3:Int))∧S'.heap.get S.next=some (.cells [v_d_hours,v_d_shut] 98 0 true true)∧Agree S S'∧S72.next≤S'.next∧j4≤2 ∧ -1≤b4∧b4≤1073741823∧R92_4 d ti jv b2 x29 k3 b3 3 0 b3=b4) 3 (by refine ⟨0,b3,?_,?_,?_,?_,?_,?_,?_,?_,?_,?_,?_,bb72_1,ga72,Nat.le_refl _,rfl⟩<;>first|(simp only [SY,eq_self,Nat.reduceBEq,g72_1,g72_2,g72_6,g72_12,g72_15,g72_16]<;>rfl)|omega|assumption|(simp; omega)|simp) (by
            rintro m t S75 ⟨j4,b4,hi75_0,hi75_1,hi75_2,hi75_3,g75_1,g75_2,g75_6,g75_12,g75_15,g75_16,g75_17,bb75_1,ga75,gn75,hd75⟩
            refine .run fun z he=>?_
            try simp only [E0_G,SY,off,agreeKind,Nat.reduceAdd,Nat.reduceLT,Nat.reduceBEq,g75_17] at he
            rcases dP ((j4:Int)<2) with ⟨h76a,h76⟩|⟨h76a,h76⟩
            ·have w77:IntKind.i64.wrap ((j4:Int) * 86400)=(j4:Int) * 86400:=by rw [IntWalk.i64_in]; omega
             have w78:IntKind.i64.wrap ((((Int.tdiv (x29.lo - 1) 86400) * 86400) - 86400)+((j4:Int) * 86400))=(((Int.tdiv (x29.lo - 1) 86400) * 86400) - 86400)+((j4:Int) * 86400):=by rw [IntWalk.i64_in]; omega
             have hx79:d.hours[k3]?=some (lget d.hours k3):=lget_some (by first|omega|simp; omega)
             have eb80:=hD.h _ (List.mem_of_getElem? hx79)
             obtain ⟨id79,of79,cc79,ty79,wr79,ex79,i79,j79,l79,q79⟩:=(hv_d_hours).at (P:=Tryz.prog) (t:=40) Tryz.underlying40 tz36 hx79
             have j79:=(ga75.2 id79 l79).trans j79
             have m79_0:cc79[of79]?=some (.int .i64 ((lget d.hours k3).lo)):=q79 0 (show 0<2 by decide)
             have m79_1:cc79[of79+1]?=some (.int .i64 ((lget d.hours k3).hi)):=q79 1 (show 1<2 by decide)
             have w81:IntKind.i64.wrap (((((Int.tdiv (x29.lo - 1) 86400) * 86400) - 86400)+((j4:Int) * 86400))+((lget d.hours k3).hi))=((((Int.tdiv (x29.lo - 1) 86400) * 86400) - 86400)+((j4:Int) * 86400))+((lget d.hours k3).hi):=by rw [IntWalk.i64_in]; omega
             try simp (disch:=first|omega|assumption) only [E0_G,SY,off,agreeKind,ldA,aggD,aField,Nat.reduceAdd,Nat.reduceLT,Nat.reduceBEq,TY_EvH10,g75_2,g75_15,g75_16,g75_17,bb75_1,h76a,w77,w78,i79,j79,m79_1,w81] at he
             rcases dP (0≤(((((Int.tdiv (x29.lo - 1) 86400) * 86400) - 86400)+((j4:Int) * 86400))+((lget d.hours k3).hi))) with ⟨h82a,h82⟩|⟨h82a,h82⟩
             ·try simp only [E0_G,SY,off,agreeKind,Nat.reduceAdd,Nat.reduceLT,Nat.reduceBEq,g75_1,h82a] at he
              rcases dP ((((((Int.tdiv (x29.lo - 1) 86400) * 86400) - 86400)+((j4:Int) * 86400))+((lget d.hours k3).hi))<ti) with ⟨h83a,h83⟩|⟨h83a,h83⟩
              ·try simp only [E0_G,SY,off,agreeKind,Nat.reduceAdd,Nat.reduceLT,Nat.reduceBEq,g75_6,h83a] at he
               rcases dP (b4<(((((Int.tdiv (x29.lo - 1) 86400) * 86400) - 86400)+((j4:Int) * 86400))+((lget d.hours k3).hi))) with ⟨h84a,h84⟩|⟨h84a,h84⟩
               ·obtain ⟨S85,k85,a85⟩:=c86 d (((((Int.tdiv (x29.lo - 1) 86400) * 86400) - 86400)+((j4:Int) * 86400))+((lget d.hours k3).hi)) hD S75 (v_d_hours) (hv_d_hours.agree ga75) (v_d_shut) (hv_d_shut.agree ga75)
                have l85:=a85.1
                have v1_85:=(a85.2 S.next (by omega)).trans bb75_1
                have g85:Agree S S85:=ga75.trans a85
                try simp only [E0_G,SY,off,agreeKind,vals,ldA,rdCells,aggD,Nat.reduceAdd,Nat.reduceLT,Nat.reduceBEq,TY_EvH10,g75_2,bb75_1,h84a,k85] at he
                rcases dB ((r86 d (((((Int.tdiv (x29.lo - 1) 86400) * 86400) - 86400)+((j4:Int) * 86400))+((lget d.hours k3).hi)))) with ⟨h86a,h86⟩|⟨h86a,h86⟩
                ·have w87:IntKind.i64.wrap ((j4:Int)+1)=((j4+1:Nat):Int):=by rw [IntWalk.i64_in]<;>omega
                 try simp only [E0_G,SY,off,agreeKind,Nat.reduceAdd,Nat.reduceLT,Nat.reduceBEq,g75_17,h86a,w87] at he
                 obtain ⟨m',rfl⟩:∃ m',m=m'+1:=⟨m - 1,by omega⟩
                 have hf:=(show _=(R92_4 d ti jv b2 x29 k3 b3 m' (j4+1) (((((Int.tdiv (x29.lo - 1) 86400) * 86400) - 86400)+((j4:Int) * 86400))+((lget d.hours k3).hi)):Int) from (if_pos h76).trans ((if_pos h82).trans ((if_pos h83).trans ((if_pos h84).trans ((if_pos h86).trans (rfl)))))).symm.trans hd75
                 refine .next he m' (by omega) ⟨(j4+1),((((Int.tdiv (x29.lo - 1) 86400) * 86400) - 86400)+((j4:Int) * 86400))+((lget d.hours k3).hi),?_,?_,?_,?_,?_,?_,?_,?_,?_,?_,?_,v1_85,g85,by omega,hf⟩<;>first|(simp only [SY,eq_self,Nat.reduceBEq,g75_1,g75_2,g75_6,g75_12,g75_15,g75_16,g75_17]<;>rfl)|omega|assumption|(simp; omega)|simp
                have w88:IntKind.i64.wrap ((j4:Int)+1)=((j4+1:Nat):Int):=by rw [IntWalk.i64_in]<;>omega
                try simp only [E0_G,SY,off,agreeKind,Nat.reduceAdd,Nat.reduceLT,Nat.reduceBEq,g75_17,h86a,w88] at he
                obtain ⟨m',rfl⟩:∃ m',m=m'+1:=⟨m - 1,by omega⟩
                have hf:=(show _=(R92_4 d ti jv b2 x29 k3 b3 m' (j4+1) b4:Int) from (if_pos h76).trans ((if_pos h82).trans ((if_pos h83).trans ((if_pos h84).trans ((if_neg h86).trans (rfl)))))).symm.trans hd75
                refine .next he m' (by omega) ⟨(j4+1),b4,?_,?_,?_,?_,?_,?_,?_,?_,?_,?_,?_,v1_85,g85,by omega,hf⟩<;>first|(simp only [SY,eq_self,Nat.reduceBEq,g75_1,g75_2,g75_6,g75_12,g75_15,g75_16,g75_17]<;>rfl)|omega|assumption|(simp; omega)|simp
               have w89:IntKind.i64.wrap ((j4:Int)+1)=((j4+1:Nat):Int):=by rw [IntWalk.i64_in]<;>omega
               try simp only [E0_G,SY,off,agreeKind,Nat.reduceAdd,Nat.reduceLT,Nat.reduceBEq,g75_17,h84a,w89] at he
               obtain ⟨m',rfl⟩:∃ m',m=m'+1:=⟨m - 1,by omega⟩
               have hf:=(show _=(R92_4 d ti jv b2 x29 k3 b3 m' (j4+1) b4:Int) from (if_pos h76).trans ((if_pos h82).trans ((if_pos h83).trans ((if_neg h84).trans (rfl))))).symm.trans hd75
               refine .next he m' (by omega) ⟨(j4+1),b4,?_,?_,?_,?_,?_,?_,?_,?_,?_,?_,?_,bb75_1,ga75,by omega,hf⟩<;>first|(simp only [SY,eq_self,Nat.reduceBEq,g75_1,g75_2,g75_6,g75_12,g75_15,g75_16,g75_17]<;>rfl)|omega|assumption|(simp; omega)|simp
              have w90:IntKind.i64.wrap ((j4:Int)+1)=((j4+1:Nat):Int):=by rw [IntWalk.i64_in]<;>omega
              try simp only [E0_G,SY,off,agreeKind,Nat.reduceAdd,Nat.reduceLT,Nat.reduceBEq,g75_17,h83a,w90] at he
              obtain ⟨m',rfl⟩:∃ m',m=m'+1:=⟨m - 1,by omega⟩
              have hf:=(show _=(R92_4 d ti jv b2 x29 k3 b3 m' (j4+1) b4:Int) from (if_pos h76).trans ((if_pos h82).trans ((if_neg h83).trans (rfl)))).symm.trans hd75
              refine .next he m' (by omega) ⟨(j4+1),b4,?_,?_,?_,?_,?_,?_,?_,?_,?_,?_,?_,bb75_1,ga75,by omega,hf⟩<;>first|(simp only [SY,eq_self,Nat.reduceBEq,g75_1,g75_2,g75_6,g75_12,g75_15,g75_16,g75_17]<;>rfl)|omega|assumption|(simp; omega)|simp
             have w91:IntKind.i64.wrap ((j4:Int)+1)=((j4+1:Nat):Int):=by rw [IntWalk.i64_in]<;>omega
             try simp only [E0_G,SY,off,agreeKind,Nat.reduceAdd,Nat.reduceLT,Nat.reduceBEq,g75_17,h82a,w91] at he
             obtain ⟨m',rfl⟩:∃ m',m=m'+1:=⟨m - 1,by omega⟩
             have hf:=(show _=(R92_4 d ti jv b2 x29 k3 b3 m' (j4+1) b4:Int) from (if_pos h76).trans ((if_neg h82).trans (rfl))).symm.trans hd75
             refine .next he m' (by omega) ⟨(j4+1),b4,?_,?_,?_,?_,?_,?_,?_,?_,?_,?_,?_,bb75_1,ga75,by omega,hf⟩<;>first|(simp only [SY,eq_self,Nat.reduceBEq,g75_1,g75_2,g75_6,g75_12,g75_15,g75_16,g75_17]<;>rfl)|omega|assumption|(simp; omega)|simp
            try simp only [SY,h76a] at he
            obtain ⟨m',rfl⟩:∃ m',m=m'+1:=⟨m - 1,by omega⟩
            have hf:=(show _=(b4:Int) from (if_neg h76).trans (rfl)).symm.trans hd75
            refine .exit he ⟨rfl,⟨j4,b4,?_,?_,?_,?_,?_,?_,bb75_1,ga75,by omega,?_,?_,?_,hf.symm⟩⟩<;>first|(simp only [SY,eq_self,Nat.reduceBEq,g75_1,g75_2,g75_6,g75_12,g75_15,g75_16]<;>rfl)|omega|assumption|(simp; omega)|simp)
          obtain ⟨rfl,j4,b4,ge75_1,ge75_2,ge75_6,ge75_12,ge75_15,ge75_16,be75_1,ge75,gm75,hj75_0,hj75_1,hj75_2,hR75⟩:=hQ75
          obtain rfl:b4=R92_4 d ti jv b2 x29 k3 b3 3 0 b3:=hR75.symm
          have w93:IntKind.i64.wrap ((k3:Int)+1)=((k3+1:Nat):Int):=by rw [IntWalk.i64_in]<;>omega
          try simp only [E0_G,SY,off,agreeKind,eq_self,if_true,Nat.reduceAdd,Nat.reduceLT,Nat.reduceBEq,ge75_16,w93] at he
          rw [drop_cons' (List.getElem?_eq_getElem (show k3<_ by omega))] at hd72
          have hf:=(show _=(R92_3 d ti jv b2 x29 (d.hours.drop (k3+1)) (k3+1) (R92_4 d ti jv b2 x29 k3 b3 3 0 b3):Int) from rfl).symm.trans hd72
          refine .next he (m - 1) (by omega) ⟨(k3+1),R92_4 d ti jv b2 x29 k3 b3 3 0 b3,?_,?_,?_,?_,?_,?_,?_,?_,?_,?_,be75_1,ge75,by omega,hf⟩<;>first|(simp only [SY,eq_self,Nat.reduceBEq,ge75_1,ge75_2,ge75_6,ge75_12,ge75_15,ge75_16]<;>rfl)|omega|assumption|(simp; omega)|simp
         try simp only [SY,h74a] at he
         rw [List.drop_eq_nil_of_le (show d.hours.length≤k3 by omega)] at hd72
         have hf:=(show _=(b3:Int) from rfl).symm.trans hd72
         refine .exit he ⟨rfl,⟨k3,b3,?_,?_,?_,?_,bb72_1,ga72,by omega,?_,?_,?_,hf.symm⟩⟩<;>first|(simp only [SY,eq_self,Nat.reduceBEq,g72_1,g72_2,g72_6,g72_12]<;>rfl)|omega|assumption|(simp; omega)|simp)
       obtain ⟨rfl,k3,b3,ge72_1,ge72_2,ge72_6,ge72_12,be72_1,ge72,gm72,hj72_0,hj72_1,hj72_2,hR72⟩:=hQ72
       obtain rfl:b3=R92_3 d ti jv b2 x29 d.hours 0 b2:=hR72.symm
       have w95:IntKind.i64.wrap ((jv:Int)+1)=((jv+1:Nat):Int):=by rw [IntWalk.i64_in]<;>omega
       try simp only [E0_G,SY,off,agreeKind,eq_self,if_true,Nat.reduceAdd,Nat.reduceLT,Nat.reduceBEq,ge72_12,w95] at he
       rw [drop_cons' hx29] at hd29
       have hf:=(show _=(R92_2 d ti (d.shut.drop (jv+1)) (jv+1) (R92_3 d ti jv b2 x29 d.hours 0 b2):Int) from (if_pos h35).trans ((if_pos h36).trans ((if_pos h37).trans ((if_neg h39).trans (rfl))))).symm.trans hd29
       refine .next he (m - 1) (by omega) ⟨(jv+1),R92_3 d ti jv b2 x29 d.hours 0 b2,?_,?_,?_,?_,?_,?_,?_,?_,be72_1,ge72,by omega,hf⟩<;>first|(simp only [SY,eq_self,Nat.reduceBEq,ge72_1,ge72_2,ge72_6,ge72_12]<;>rfl)|omega|assumption|(simp; omega)|simp
      try simp only [E0_G,SY,off,agreeKind,Nat.reduceAdd,Nat.reduceLT,Nat.reduceBEq,h37a] at he
      have h96a:decide ((x29.lo - 1)<0)=false:=decide_eq_false (by omega)
      have w97:IntKind.i64.wrap (Int.tdiv (x29.lo - 1) 86400)=Int.tdiv (x29.lo - 1) 86400:=by have:=td_ok (t:=(x29.lo - 1)) (by omega); rw [IntWalk.i64_in]; omega
      have q97:=td_ok (t:=(x29.lo - 1)) (by omega)
      have w98:IntKind.i64.wrap ((Int.tdiv (x29.lo - 1) 86400) * 86400)=(Int.tdiv (x29.lo - 1) 86400) * 86400:=by rw [IntWalk.i64_in]; omega
      have w99:IntKind.i64.wrap (((Int.tdiv (x29.lo - 1) 86400) * 86400) - 86400)=((Int.tdiv (x29.lo - 1) 86400) * 86400) - 86400:=by rw [IntWalk.i64_in]; omega
      try simp only [E0_G,SY,off,agreeKind,Nat.reduceAdd,Nat.reduceLT,Nat.reduceBEq,Int.reduceEq,h96a,w97,w98,w99] at he
      generalize hL100:Rec.loop _ _ _ _=L100 at he
      obtain ⟨x100,t100,S100e,rfl,hQ100⟩:=loop_met hL100 (fun m t S'=>∃ (k3:Nat) (b3:Int),m+k3=d.hours.length ∧ -1≤b3∧b3≤1073741823∧k3≤d.hours.length∧t.get 1=some (.int .i64 ti)∧t.get 2=some (.pointer (some ⟨S.next,0,none⟩))∧t.get 6=some (.int .i64 b3)∧t.get 12=some (.int .i64 (jv:Int))∧t.get 15=some (.int .i64 (((Int.tdiv (x29.lo - 1) 86400) * 86400) - 86400))∧t.get 16=some (.int .i64 (k3:Int))∧S'.heap.get S.next=some (.cells [v_d_hours,v_d_shut] 98 0 true true)∧Agree S S'∧S29.next≤S'.next∧R92_3 d ti jv b2 x29 (d.hours.drop k3) k3 b3=R92_3 d ti jv b2 x29 d.hours 0 b2)
       (fun x t S'=>x=.exit 6∧∃ (k3:Nat) (b3:Int),t.get 1=some (.int .i64 ti)∧t.get 2=some (.pointer (some ⟨S.next,0,none⟩))∧t.get 6=some (.int .i64 b3)∧t.get 12=some (.int .i64 (jv:Int))∧S'.heap.get S.next=some (.cells [v_d_hours,v_d_shut] 98 0 true true)∧Agree S S'∧S29.next≤S'.next ∧ -1≤b3∧b3≤1073741823∧k3≤d.hours.length∧R92_3 d ti jv b2 x29 d.hours 0 b2=b3) (d.hours.length - 0) (by refine ⟨0,b2,?_,?_,?_,?_,?_,?_,?_,?_,?_,?_,bb29_1,ga29,Nat.le_refl _,rfl⟩<;>first|(simp only [SY,eq_self,Nat.reduceBEq,g29_1,g29_2,g29_6,g29_12]<;>rfl)|omega|assumption|(simp; omega)|simp) (by
        rintro m t S100 ⟨k3,b3,hi100_0,hi100_1,hi100_2,hi100_3,g100_1,g100_2,g100_6,g100_12,g100_15,g100_16,bb100_1,ga100,gn100,hd100⟩
        refine .run fun z he=>?_
        have w101:=(hv_d_hours.agree ga100).len (P:=Tryz.prog) (t:=40) Tryz.underlying40
        try simp (disch:=first|omega|assumption) only [E0_G,SY,off,agreeKind,ldA,aggD,aField,Nat.reduceAdd,Nat.reduceLT,Nat.reduceBEq,TY_EvH10,g100_2,g100_16,bb100_1,w101] at he
        rcases dP ((k3:Int)<(d.hours.length:Int)) with ⟨h102a,h102⟩|⟨h102a,h102⟩
        ·try simp only [E0_G,SY,off,agreeKind,Nat.reduceLT,h102a] at he
         generalize hL103:Rec.loop _ _ _ _=L103 at he
         obtain ⟨x103,t103,S103e,rfl,hQ103⟩:=loop_met hL103 (fun m t S'=>∃ (j4:Nat) (b4:Int),m+j4=3∧j4≤2 ∧ -1≤b4∧b4≤1073741823∧t.get 1=some (.int .i64 ti)∧t.get 2=some (.pointer (some ⟨S.next,0,none⟩))∧t.get 6=some (.int .i64 b4)∧t.get 12=some (.int .i64 (jv:Int))∧t.get 15=some (.int .i64 (((Int.tdiv (x29.lo - 1) 86400) * 86400) - 86400))∧t.get 16=some (.int .i64 (k3:Int))∧t.get 17=some (.int .i64 (j4:Int))∧S'.heap.get S.next=some (.cells [v_d_hours,v_d_shut] 98 0 true true)∧Agree S S'∧S100.next≤S'.next∧R92_4 d ti jv b2 x29 k3 b3 m j4 b4=R92_4 d ti jv b2 x29 k3 b3 3 0 b3)
          (fun x t S'=>x=.exit 8∧∃ (j4:Nat) (b4:Int),t.get 1=some (.int .i64 ti)∧t.get 2=some (.pointer (some ⟨S.next,0,none⟩))∧t.get 6=some (.int .i64 b4)∧t.get 12=some (.int .i64 (jv:Int))∧t.get 15=some (.int .i64 (((Int.tdiv (x29.lo - 1) 86400) * 86400) - 86400))∧t.get 16=some (.int .i64 (k3:Int))∧S'.heap.get S.next=some (.cells [v_d_hours,v_d_shut] 98 0 true true)∧Agree S S'∧S100.next≤S'.next∧j4≤2 ∧ -1≤b4∧b4≤1073741823∧R92_4 d ti jv b2 x29 k3 b3 3 0 b3=b4) 3 (by refine ⟨0,b3,?_,?_,?_,?_,?_,?_,?_,?_,?_,?_,?_,bb100_1,ga100,Nat.le_refl _,rfl⟩<;>first|(simp only [SY,eq_self,Nat.reduceBEq,g100_1,g100_2,g100_6,g100_12,g100_15,g100_16]<;>rfl)|omega|assumption|(simp; omega)|simp) (by
           rintro m t S103 ⟨j4,b4,hi103_0,hi103_1,hi103_2,hi103_3,g103_1,g103_2,g103_6,g103_12,g103_15,g103_16,g103_17,bb103_1,ga103,gn103,hd103⟩
           refine .run fun z he=>?_
           try simp only [E0_G,SY,off,agreeKind,Nat.reduceAdd,Nat.reduceLT,Nat.reduceBEq,g103_17] at he
           rcases dP ((j4:Int)<2) with ⟨h104a,h104⟩|⟨h104a,h104⟩
           ·have w105:IntKind.i64.wrap ((j4:Int) * 86400)=(j4:Int) * 86400:=by rw [IntWalk.i64_in]; omega
            have w106:IntKind.i64.wrap ((((Int.tdiv (x29.lo - 1) 86400) * 86400) - 86400)+((j4:Int) * 86400))=(((Int.tdiv (x29.lo - 1) 86400) * 86400) - 86400)+((j4:Int) * 86400):=by rw [IntWalk.i64_in]; omega
            have hx107:d.hours[k3]?=some (lget d.hours k3):=lget_some (by first|omega|simp; omega)
            have eb108:=hD.h _ (List.mem_of_getElem? hx107)
            obtain ⟨id107,of107,cc107,ty107,wr107,ex107,i107,j107,l107,q107⟩:=(hv_d_hours).at (P:=Tryz.prog) (t:=40) Tryz.underlying40 tz36 hx107
            have j107:=(ga103.2 id107 l107).trans j107
            have m107_0:cc107[of107]?=some (.int .i64 ((lget d.hours k3).lo)):=q107 0 (show 0<2 by decide)
            have m107_1:cc107[of107+1]?=some (.int .i64 ((lget d.hours k3).hi)):=q107 1 (show 1<2 by decide)
            have w109:IntKind.i64.wrap (((((Int.tdiv (x29.lo - 1) 86400) * 86400) - 86400)+((j4:Int) * 86400))+((lget d.hours k3).hi))=((((Int.tdiv (x29.lo - 1) 86400) * 86400) - 86400)+((j4:Int) * 86400))+((lget d.hours k3).hi):=by rw [IntWalk.i64_in]; omega
            try simp (disch:=first|omega|assumption) only [E0_G,SY,off,agreeKind,ldA,aggD,aField,Nat.reduceAdd,Nat.reduceLT,Nat.reduceBEq,TY_EvH10,g103_2,g103_15,g103_16,g103_17,bb103_1,h104a,w105,w106,i107,j107,m107_1,w109] at he
            rcases dP (0≤(((((Int.tdiv (x29.lo - 1) 86400) * 86400) - 86400)+((j4:Int) * 86400))+((lget d.hours k3).hi))) with ⟨h110a,h110⟩|⟨h110a,h110⟩
            ·try simp only [E0_G,SY,off,agreeKind,Nat.reduceAdd,Nat.reduceLT,Nat.reduceBEq,g103_1,h110a] at he
             rcases dP ((((((Int.tdiv (x29.lo - 1) 86400) * 86400) - 86400)+((j4:Int) * 86400))+((lget d.hours k3).hi))<ti) with ⟨h111a,h111⟩|⟨h111a,h111⟩
             ·try simp only [E0_G,SY,off,agreeKind,Nat.reduceAdd,Nat.reduceLT,Nat.reduceBEq,g103_6,h111a] at he
              rcases dP (b4<(((((Int.tdiv (x29.lo - 1) 86400) * 86400) - 86400)+((j4:Int) * 86400))+((lget d.hours k3).hi))) with ⟨h112a,h112⟩|⟨h112a,h112⟩
              ·obtain ⟨S113,k113,a113⟩:=c86 d (((((Int.tdiv (x29.lo - 1) 86400) * 86400) - 86400)+((j4:Int) * 86400))+((lget d.hours k3).hi)) hD S103 (v_d_hours) (hv_d_hours.agree ga103) (v_d_shut) (hv_d_shut.agree ga103)
               have l113:=a113.1
               have v1_113:=(a113.2 S.next (by omega)).trans bb103_1
               have g113:Agree S S113:=ga103.trans a113
               try simp only [E0_G,SY,off,agreeKind,vals,ldA,rdCells,aggD,Nat.reduceAdd,Nat.reduceLT,Nat.reduceBEq,TY_EvH10,g103_2,bb103_1,h112a,k113] at he
               rcases dB ((r86 d (((((Int.tdiv (x29.lo - 1) 86400) * 86400) - 86400)+((j4:Int) * 86400))+((lget d.hours k3).hi)))) with ⟨h114a,h114⟩|⟨h114a,h114⟩
               ·have w115:IntKind.i64.wrap ((j4:Int)+1)=((j4+1:Nat):Int):=by rw [IntWalk.i64_in]<;>omega
                try simp only [E0_G,SY,off,agreeKind,Nat.reduceAdd,Nat.reduceLT,Nat.reduceBEq,g103_17,h114a,w115] at he
                obtain ⟨m',rfl⟩:∃ m',m=m'+1:=⟨m - 1,by omega⟩
                have hf:=(show _=(R92_4 d ti jv b2 x29 k3 b3 m' (j4+1) (((((Int.tdiv (x29.lo - 1) 86400) * 86400) - 86400)+((j4:Int) * 86400))+((lget d.hours k3).hi)):Int) from (if_pos h104).trans ((if_pos h110).trans ((if_pos h111).trans ((if_pos h112).trans ((if_pos h114).trans (rfl)))))).symm.trans hd103
                refine .next he m' (by omega) ⟨(j4+1),((((Int.tdiv (x29.lo - 1) 86400) * 86400) - 86400)+((j4:Int) * 86400))+((lget d.hours k3).hi),?_,?_,?_,?_,?_,?_,?_,?_,?_,?_,?_,v1_113,g113,by omega,hf⟩<;>first|(simp only [SY,eq_self,Nat.reduceBEq,g103_1,g103_2,g103_6,g103_12,g103_15,g103_16,g103_17]<;>rfl)|omega|assumption|(simp; omega)|simp
               have w116:IntKind.i64.wrap ((j4:Int)+1)=((j4+1:Nat):Int):=by rw [IntWalk.i64_in]<;>omega
               try simp only [E0_G,SY,off,agreeKind,Nat.reduceAdd,Nat.reduceLT,Nat.reduceBEq,g103_17,h114a,w116] at he
               obtain ⟨m',rfl⟩:∃ m',m=m'+1:=⟨m - 1,by omega⟩
               have hf:=(show _=(R92_4 d ti jv b2 x29 k3 b3 m' (j4+1) b4:Int) from (if_pos h104).trans ((if_pos h110).trans ((if_pos h111).trans ((if_pos h112).trans ((if_neg h114).trans (rfl)))))).symm.trans hd103
               refine .next he m' (by omega) ⟨(j4+1),b4,?_,?_,?_,?_,?_,?_,?_,?_,?_,?_,?_,v1_113,g113,by omega,hf⟩<;>first|(simp only [SY,eq_self,Nat.reduceBEq,g103_1,g103_2,g103_6,g103_12,g103_15,g103_16,g103_17]<;>rfl)|omega|assumption|(simp; omega)|simp
              have w117:IntKind.i64.wrap ((j4:Int)+1)=((j4+1:Nat):Int):=by rw [IntWalk.i64_in]<;>omega
              try simp only [E0_G,SY,off,agreeKind,Nat.reduceAdd,Nat.reduceLT,Nat.reduceBEq,g103_17,h112a,w117] at he
              obtain ⟨m',rfl⟩:∃ m',m=m'+1:=⟨m - 1,by omega⟩
              have hf:=(show _=(R92_4 d ti jv b2 x29 k3 b3 m' (j4+1) b4:Int) from (if_pos h104).trans ((if_pos h110).trans ((if_pos h111).trans ((if_neg h112).trans (rfl))))).symm.trans hd103
              refine .next he m' (by omega) ⟨(j4+1),b4,?_,?_,?_,?_,?_,?_,?_,?_,?_,?_,?_,bb103_1,ga103,by omega,hf⟩<;>first|(simp only [SY,eq_self,Nat.reduceBEq,g103_1,g103_2,g103_6,g103_12,g103_15,g103_16,g103_17]<;>rfl)|omega|assumption|(simp; omega)|simp
             have w118:IntKind.i64.wrap ((j4:Int)+1)=((j4+1:Nat):Int):=by rw [IntWalk.i64_in]<;>omega
             try simp only [E0_G,SY,off,agreeKind,Nat.reduceAdd,Nat.reduceLT,Nat.reduceBEq,g103_17,h111a,w118] at he
             obtain ⟨m',rfl⟩:∃ m',m=m'+1:=⟨m - 1,by omega⟩
             have hf:=(show _=(R92_4 d ti jv b2 x29 k3 b3 m' (j4+1) b4:Int) from (if_pos h104).trans ((if_pos h110).trans ((if_neg h111).trans (rfl)))).symm.trans hd103
             refine .next he m' (by omega) ⟨(j4+1),b4,?_,?_,?_,?_,?_,?_,?_,?_,?_,?_,?_,bb103_1,ga103,by omega,hf⟩<;>first|(simp only [SY,eq_self,Nat.reduceBEq,g103_1,g103_2,g103_6,g103_12,g103_15,g103_16,g103_17]<;>rfl)|omega|assumption|(simp; omega)|simp
            have w119:IntKind.i64.wrap ((j4:Int)+1)=((j4+1:Nat):Int):=by rw [IntWalk.i64_in]<;>omega
            try simp only [E0_G,SY,off,agreeKind,Nat.reduceAdd,Nat.reduceLT,Nat.reduceBEq,g103_17,h110a,w119] at he
            obtain ⟨m',rfl⟩:∃ m',m=m'+1:=⟨m - 1,by omega⟩
            have hf:=(show _=(R92_4 d ti jv b2 x29 k3 b3 m' (j4+1) b4:Int) from (if_pos h104).trans ((if_neg h110).trans (rfl))).symm.trans hd103
            refine .next he m' (by omega) ⟨(j4+1),b4,?_,?_,?_,?_,?_,?_,?_,?_,?_,?_,?_,bb103_1,ga103,by omega,hf⟩<;>first|(simp only [SY,eq_self,Nat.reduceBEq,g103_1,g103_2,g103_6,g103_12,g103_15,g103_16,g103_17]<;>rfl)|omega|assumption|(simp; omega)|simp
           try simp only [SY,h104a] at he
           obtain ⟨m',rfl⟩:∃ m',m=m'+1:=⟨m - 1,by omega⟩
           have hf:=(show _=(b4:Int) from (if_neg h104).trans (rfl)).symm.trans hd103
           refine .exit he ⟨rfl,⟨j4,b4,?_,?_,?_,?_,?_,?_,bb103_1,ga103,by omega,?_,?_,?_,hf.symm⟩⟩<;>first|(simp only [SY,eq_self,Nat.reduceBEq,g103_1,g103_2,g103_6,g103_12,g103_15,g103_16]<;>rfl)|omega|assumption|(simp; omega)|simp)
         obtain ⟨rfl,j4,b4,ge103_1,ge103_2,ge103_6,ge103_12,ge103_15,ge103_16,be103_1,ge103,gm103,hj103_0,hj103_1,hj103_2,hR103⟩:=hQ103
         obtain rfl:b4=R92_4 d ti jv b2 x29 k3 b3 3 0 b3:=hR103.symm
         have w121:IntKind.i64.wrap ((k3:Int)+1)=((k3+1:Nat):Int):=by rw [IntWalk.i64_in]<;>omega
         try simp only [E0_G,SY,off,agreeKind,eq_self,if_true,Nat.reduceAdd,Nat.reduceLT,Nat.reduceBEq,ge103_16,w121] at he
         rw [drop_cons' (List.getElem?_eq_getElem (show k3<_ by omega))] at hd100
         have hf:=(show _=(R92_3 d ti jv b2 x29 (d.hours.drop (k3+1)) (k3+1) (R92_4 d ti jv b2 x29 k3 b3 3 0 b3):Int) from rfl).symm.trans hd100
         refine .next he (m - 1) (by omega) ⟨(k3+1),R92_4 d ti jv b2 x29 k3 b3 3 0 b3,?_,?_,?_,?_,?_,?_,?_,?_,?_,?_,be103_1,ge103,by omega,hf⟩<;>first|(simp only [SY,eq_self,Nat.reduceBEq,ge103_1,ge103_2,ge103_6,ge103_12,ge103_15,ge103_16]<;>rfl)|omega|assumption|(simp; omega)|simp
        try simp only [SY,h102a] at he
        rw [List.drop_eq_nil_of_le (show d.hours.length≤k3 by omega)] at hd100
        have hf:=(show _=(b3:Int) from rfl).symm.trans hd100
        refine .exit he ⟨rfl,⟨k3,b3,?_,?_,?_,?_,bb100_1,ga100,by omega,?_,?_,?_,hf.symm⟩⟩<;>first|(simp only [SY,eq_self,Nat.reduceBEq,g100_1,g100_2,g100_6,g100_12]<;>rfl)|omega|assumption|(simp; omega)|simp)
      obtain ⟨rfl,k3,b3,ge100_1,ge100_2,ge100_6,ge100_12,be100_1,ge100,gm100,hj100_0,hj100_1,hj100_2,hR100⟩:=hQ100
      obtain rfl:b3=R92_3 d ti jv b2 x29 d.hours 0 b2:=hR100.symm
      have w123:IntKind.i64.wrap ((jv:Int)+1)=((jv+1:Nat):Int):=by rw [IntWalk.i64_in]<;>omega
      try simp only [E0_G,SY,off,agreeKind,eq_self,if_true,Nat.reduceAdd,Nat.reduceLT,Nat.reduceBEq,ge100_12,w123] at he
      rw [drop_cons' hx29] at hd29
      have hf:=(show _=(R92_2 d ti (d.shut.drop (jv+1)) (jv+1) (R92_3 d ti jv b2 x29 d.hours 0 b2):Int) from (if_pos h35).trans ((if_pos h36).trans ((if_neg h37).trans (rfl)))).symm.trans hd29
      refine .next he (m - 1) (by omega) ⟨(jv+1),R92_3 d ti jv b2 x29 d.hours 0 b2,?_,?_,?_,?_,?_,?_,?_,?_,be100_1,ge100,by omega,hf⟩<;>first|(simp only [SY,eq_self,Nat.reduceBEq,ge100_1,ge100_2,ge100_6,ge100_12]<;>rfl)|omega|assumption|(simp; omega)|simp
     try simp only [E0_G,SY,off,agreeKind,Nat.reduceAdd,Nat.reduceLT,Nat.reduceBEq,h36a] at he
     have h124a:decide ((x29.lo - 1)<0)=false:=decide_eq_false (by omega)
     have w125:IntKind.i64.wrap (Int.tdiv (x29.lo - 1) 86400)=Int.tdiv (x29.lo - 1) 86400:=by have:=td_ok (t:=(x29.lo - 1)) (by omega); rw [IntWalk.i64_in]; omega
     have q125:=td_ok (t:=(x29.lo - 1)) (by omega)
     have w126:IntKind.i64.wrap ((Int.tdiv (x29.lo - 1) 86400) * 86400)=(Int.tdiv (x29.lo - 1) 86400) * 86400:=by rw [IntWalk.i64_in]; omega
     have w127:IntKind.i64.wrap (((Int.tdiv (x29.lo - 1) 86400) * 86400) - 86400)=((Int.tdiv (x29.lo - 1) 86400) * 86400) - 86400:=by rw [IntWalk.i64_in]; omega
     try simp only [E0_G,SY,off,agreeKind,Nat.reduceAdd,Nat.reduceLT,Nat.reduceBEq,Int.reduceEq,h124a,w125,w126,w127] at he
     generalize hL128:Rec.loop _ _ _ _=L128 at he
     obtain ⟨x128,t128,S128e,rfl,hQ128⟩:=loop_met hL128 (fun m t S'=>∃ (k3:Nat) (b3:Int),m+k3=d.hours.length ∧ -1≤b3∧b3≤1073741823∧k3≤d.hours.length∧t.get 1=some (.int .i64 ti)∧t.get 2=some (.pointer (some ⟨S.next,0,none⟩))∧t.get 6=some (.int .i64 b3)∧t.get 12=some (.int .i64 (jv:Int))∧t.get 15=some (.int .i64 (((Int.tdiv (x29.lo - 1) 86400) * 86400) - 86400))∧t.get 16=some (.int .i64 (k3:Int))∧S'.heap.get S.next=some (.cells [v_d_hours,v_d_shut] 98 0 true true)∧Agree S S'∧S29.next≤S'.next∧R92_3 d ti jv b2 x29 (d.hours.drop k3) k3 b3=R92_3 d ti jv b2 x29 d.hours 0 b2)
      (fun x t S'=>x=.exit 6∧∃ (k3:Nat) (b3:Int),t.get 1=some (.int .i64 ti)∧t.get 2=some (.pointer (some ⟨S.next,0,none⟩))∧t.get 6=some (.int .i64 b3)∧t.get 12=some (.int .i64 (jv:Int))∧S'.heap.get S.next=some (.cells [v_d_hours,v_d_shut] 98 0 true true)∧Agree S S'∧S29.next≤S'.next ∧ -1≤b3∧b3≤1073741823∧k3≤d.hours.length∧R92_3 d ti jv b2 x29 d.hours 0 b2=b3) (d.hours.length - 0) (by refine ⟨0,b2,?_,?_,?_,?_,?_,?_,?_,?_,?_,?_,bb29_1,ga29,Nat.le_refl _,rfl⟩<;>first|(simp only [SY,eq_self,Nat.reduceBEq,g29_1,g29_2,g29_6,g29_12]<;>rfl)|omega|assumption|(simp; omega)|simp) (by
       rintro m t S128 ⟨k3,b3,hi128_0,hi128_1,hi128_2,hi128_3,g128_1,g128_2,g128_6,g128_12,g128_15,g128_16,bb128_1,ga128,gn128,hd128⟩
       refine .run fun z he=>?_
       have w129:=(hv_d_hours.agree ga128).len (P:=Tryz.prog) (t:=40) Tryz.underlying40
       try simp (disch:=first|omega|assumption) only [E0_G,SY,off,agreeKind,ldA,aggD,aField,Nat.reduceAdd,Nat.reduceLT,Nat.reduceBEq,TY_EvH10,g128_2,g128_16,bb128_1,w129] at he
       rcases dP ((k3:Int)<(d.hours.length:Int)) with ⟨h130a,h130⟩|⟨h130a,h130⟩
       ·try simp only [E0_G,SY,off,agreeKind,Nat.reduceLT,h130a] at he
        generalize hL131:Rec.loop _ _ _ _=L131 at he
        obtain ⟨x131,t131,S131e,rfl,hQ131⟩:=loop_met hL131 (fun m t S'=>∃ (j4:Nat) (b4:Int),m+j4=3∧j4≤2 ∧ -1≤b4∧b4≤1073741823∧t.get 1=some (.int .i64 ti)∧t.get 2=some (.pointer (some ⟨S.next,0,none⟩))∧t.get 6=some (.int .i64 b4)∧t.get 12=some (.int .i64 (jv:Int))∧t.get 15=some (.int .i64 (((Int.tdiv (x29.lo - 1) 86400) * 86400) - 86400))∧t.get 16=some (.int .i64 (k3:Int))∧t.get 17=some (.int .i64 (j4:Int))∧S'.heap.get S.next=some (.cells [v_d_hours,v_d_shut] 98 0 true true)∧Agree S S'∧S128.next≤S'.next∧R92_4 d ti jv b2 x29 k3 b3 m j4 b4=R92_4 d ti jv b2 x29 k3 b3 3 0 b3)
         (fun x t S'=>x=.exit 8∧∃ (j4:Nat) (b4:Int),t.get 1=some (.int .i64 ti)∧t.get 2=some (.pointer (some ⟨S.next,0,none⟩))∧t.get 6=some (.int .i64 b4)∧t.get 12=some (.int .i64 (jv:Int))∧t.get 15=some (.int .i64 (((Int.tdiv (x29.lo - 1) 86400) * 86400) - 86400))∧t.get 16=some (.int .i64 (k3:Int))∧S'.heap.get S.next=some (.cells [v_d_hours,v_d_shut] 98 0 true true)∧Agree S S'∧S128.next≤S'.next∧j4≤2 ∧ -1≤b4∧b4≤1073741823∧R92_4 d ti jv b2 x29 k3 b3 3 0 b3=b4) 3 (by refine ⟨0,b3,?_,?_,?_,?_,?_,?_,?_,?_,?_,?_,?_,bb128_1,ga128,Nat.le_refl _,rfl⟩<;>first|(simp only [SY,eq_self,Nat.reduceBEq,g128_1,g128_2,g128_6,g128_12,g128_15,g128_16]<;>rfl)|omega|assumption|(simp; omega)|simp) (by
          rintro m t S131 ⟨j4,b4,hi131_0,hi131_1,hi131_2,hi131_3,g131_1,g131_2,g131_6,g131_12,g131_15,g131_16,g131_17,bb131_1,ga131,gn131,hd131⟩
          refine .run fun z he=>?_
          try simp only [E0_G,SY,off,agreeKind,Nat.reduceAdd,Nat.reduceLT,Nat.reduceBEq,g131_17] at he
          rcases dP ((j4:Int)<2) with ⟨h132a,h132⟩|⟨h132a,h132⟩
          ·have w133:IntKind.i64.wrap ((j4:Int) * 86400)=(j4:Int) * 86400:=by rw [IntWalk.i64_in]; omega
           have w134:IntKind.i64.wrap ((((Int.tdiv (x29.lo - 1) 86400) * 86400) - 86400)+((j4:Int) * 86400))=(((Int.tdiv (x29.lo - 1) 86400) * 86400) - 86400)+((j4:Int) * 86400):=by rw [IntWalk.i64_in]; omega
           have hx135:d.hours[k3]?=some (lget d.hours k3):=lget_some (by first|omega|simp; omega)
           have eb136:=hD.h _ (List.mem_of_getElem? hx135)
           obtain ⟨id135,of135,cc135,ty135,wr135,ex135,i135,j135,l135,q135⟩:=(hv_d_hours).at (P:=Tryz.prog) (t:=40) Tryz.underlying40 tz36 hx135
           have j135:=(ga131.2 id135 l135).trans j135
           have m135_0:cc135[of135]?=some (.int .i64 ((lget d.hours k3).lo)):=q135 0 (show 0<2 by decide)
           have m135_1:cc135[of135+1]?=some (.int .i64 ((lget d.hours k3).hi)):=q135 1 (show 1<2 by decide)
           have w137:IntKind.i64.wrap (((((Int.tdiv (x29.lo - 1) 86400) * 86400) - 86400)+((j4:Int) * 86400))+((lget d.hours k3).hi))=((((Int.tdiv (x29.lo - 1) 86400) * 86400) - 86400)+((j4:Int) * 86400))+((lget d.hours k3).hi):=by rw [IntWalk.i64_in]; omega
           try simp (disch:=first|omega|assumption) only [E0_G,SY,off,agreeKind,ldA,aggD,aField,Nat.reduceAdd,Nat.reduceLT,Nat.reduceBEq,TY_EvH10,g131_2,g131_15,g131_16,g131_17,bb131_1,h132a,w133,w134,i135,j135,m135_1,w137] at he
           rcases dP (0≤(((((Int.tdiv (x29.lo - 1) 86400) * 86400) - 86400)+((j4:Int) * 86400))+((lget d.hours k3).hi))) with ⟨h138a,h138⟩|⟨h138a,h138⟩
           ·try simp only [E0_G,SY,off,agreeKind,Nat.reduceAdd,Nat.reduceLT,Nat.reduceBEq,g131_1,h138a] at he
            rcases dP ((((((Int.tdiv (x29.lo - 1) 86400) * 86400) - 86400)+((j4:Int) * 86400))+((lget d.hours k3).hi))<ti) with ⟨h139a,h139⟩|⟨h139a,h139⟩
            ·try simp only [E0_G,SY,off,agreeKind,Nat.reduceAdd,Nat.reduceLT,Nat.reduceBEq,g131_6,h139a] at he
             rcases dP (b4<(((((Int.tdiv (x29.lo - 1) 86400) * 86400) - 86400)+((j4:Int) * 86400))+((lget d.hours k3).hi))) with ⟨h140a,h140⟩|⟨h140a,h140⟩
             ·obtain ⟨S141,k141,a141⟩:=c86 d (((((Int.tdiv (x29.lo - 1) 86400) * 86400) - 86400)+((j4:Int) * 86400))+((lget d.hours k3).hi)) hD S131 (v_d_hours) (hv_d_hours.agree ga131) (v_d_shut) (hv_d_shut.agree ga131)
              have l141:=a141.1
              have v1_141:=(a141.2 S.next (by omega)).trans bb131_1
              have g141:Agree S S141:=ga131.trans a141
              try simp only [E0_G,SY,off,agreeKind,vals,ldA,rdCells,aggD,Nat.reduceAdd,Nat.reduceLT,Nat.reduceBEq,TY_EvH10,g131_2,bb131_1,h140a,k141] at he
              rcases dB ((r86 d (((((Int.tdiv (x29.lo - 1) 86400) * 86400) - 86400)+((j4:Int) * 86400))+((lget d.hours k3).hi)))) with ⟨h142a,h142⟩|⟨h142a,h142⟩
              ·have w143:IntKind.i64.wrap ((j4:Int)+1)=((j4+1:Nat):Int):=by rw [IntWalk.i64_in]<;>omega
               try simp only [E0_G,SY,off,agreeKind,Nat.reduceAdd,Nat.reduceLT,Nat.reduceBEq,g131_17,h142a,w143] at he
               obtain ⟨m',rfl⟩:∃ m',m=m'+1:=⟨m - 1,by omega⟩
               have hf:=(show _=(R92_4 d ti jv b2 x29 k3 b3 m' (j4+1) (((((Int.tdiv (x29.lo - 1) 86400) * 86400) - 86400)+((j4:Int) * 86400))+((lget d.hours k3).hi)):Int) from (if_pos h132).trans ((if_pos h138).trans ((if_pos h139).trans ((if_pos h140).trans ((if_pos h142).trans (rfl)))))).symm.trans hd131
               refine .next he m' (by omega) ⟨(j4+1),((((Int.tdiv (x29.lo - 1) 86400) * 86400) - 86400)+((j4:Int) * 86400))+((lget d.hours k3).hi),?_,?_,?_,?_,?_,?_,?_,?_,?_,?_,?_,v1_141,g141,by omega,hf⟩<;>first|(simp only [SY,eq_self,Nat.reduceBEq,g131_1,g131_2,g131_6,g131_12,g131_15,g131_16,g131_17]<;>rfl)|omega|assumption|(simp; omega)|simp
              have w144:IntKind.i64.wrap ((j4:Int)+1)=((j4+1:Nat):Int):=by rw [IntWalk.i64_in]<;>omega
              try simp only [E0_G,SY,off,agreeKind,Nat.reduceAdd,Nat.reduceLT,Nat.reduceBEq,g131_17,h142a,w144] at he
              obtain ⟨m',rfl⟩:∃ m',m=m'+1:=⟨m - 1,by omega⟩
              have hf:=(show _=(R92_4 d ti jv b2 x29 k3 b3 m' (j4+1) b4:Int) from (if_pos h132).trans ((if_pos h138).trans ((if_pos h139).trans ((if_pos h140).trans ((if_neg h142).trans (rfl)))))).symm.trans hd131
              refine .next he m' (by omega) ⟨(j4+1),b4,?_,?_,?_,?_,?_,?_,?_,?_,?_,?_,?_,v1_141,g141,by omega,hf⟩<;>first|(simp only [SY,eq_self,Nat.reduceBEq,g131_1,g131_2,g131_6,g131_12,g131_15,g131_16,g131_17]<;>rfl)|omega|assumption|(simp; omega)|simp
             have w145:IntKind.i64.wrap ((j4:Int)+1)=((j4+1:Nat):Int):=by rw [IntWalk.i64_in]<;>omega
             try simp only [E0_G,SY,off,agreeKind,Nat.reduceAdd,Nat.reduceLT,Nat.reduceBEq,g131_17,h140a,w145] at he
             obtain ⟨m',rfl⟩:∃ m',m=m'+1:=⟨m - 1,by omega⟩
             have hf:=(show _=(R92_4 d ti jv b2 x29 k3 b3 m' (j4+1) b4:Int) from (if_pos h132).trans ((if_pos h138).trans ((if_pos h139).trans ((if_neg h140).trans (rfl))))).symm.trans hd131
             refine .next he m' (by omega) ⟨(j4+1),b4,?_,?_,?_,?_,?_,?_,?_,?_,?_,?_,?_,bb131_1,ga131,by omega,hf⟩<;>first|(simp only [SY,eq_self,Nat.reduceBEq,g131_1,g131_2,g131_6,g131_12,g131_15,g131_16,g131_17]<;>rfl)|omega|assumption|(simp; omega)|simp
            have w146:IntKind.i64.wrap ((j4:Int)+1)=((j4+1:Nat):Int):=by rw [IntWalk.i64_in]<;>omega
            try simp only [E0_G,SY,off,agreeKind,Nat.reduceAdd,Nat.reduceLT,Nat.reduceBEq,g131_17,h139a,w146] at he
            obtain ⟨m',rfl⟩:∃ m',m=m'+1:=⟨m - 1,by omega⟩
            have hf:=(show _=(R92_4 d ti jv b2 x29 k3 b3 m' (j4+1) b4:Int) from (if_pos h132).trans ((if_pos h138).trans ((if_neg h139).trans (rfl)))).symm.trans hd131
            refine .next he m' (by omega) ⟨(j4+1),b4,?_,?_,?_,?_,?_,?_,?_,?_,?_,?_,?_,bb131_1,ga131,by omega,hf⟩<;>first|(simp only [SY,eq_self,Nat.reduceBEq,g131_1,g131_2,g131_6,g131_12,g131_15,g131_16,g131_17]<;>rfl)|omega|assumption|(simp; omega)|simp
           have w147:IntKind.i64.wrap ((j4:Int)+1)=((j4+1:Nat):Int):=by rw [IntWalk.i64_in]<;>omega
           try simp only [E0_G,SY,off,agreeKind,Nat.reduceAdd,Nat.reduceLT,Nat.reduceBEq,g131_17,h138a,w147] at he
           obtain ⟨m',rfl⟩:∃ m',m=m'+1:=⟨m - 1,by omega⟩
           have hf:=(show _=(R92_4 d ti jv b2 x29 k3 b3 m' (j4+1) b4:Int) from (if_pos h132).trans ((if_neg h138).trans (rfl))).symm.trans hd131
           refine .next he m' (by omega) ⟨(j4+1),b4,?_,?_,?_,?_,?_,?_,?_,?_,?_,?_,?_,bb131_1,ga131,by omega,hf⟩<;>first|(simp only [SY,eq_self,Nat.reduceBEq,g131_1,g131_2,g131_6,g131_12,g131_15,g131_16,g131_17]<;>rfl)|omega|assumption|(simp; omega)|simp
          try simp only [SY,h132a] at he
          obtain ⟨m',rfl⟩:∃ m',m=m'+1:=⟨m - 1,by omega⟩
          have hf:=(show _=(b4:Int) from (if_neg h132).trans (rfl)).symm.trans hd131
          refine .exit he ⟨rfl,⟨j4,b4,?_,?_,?_,?_,?_,?_,bb131_1,ga131,by omega,?_,?_,?_,hf.symm⟩⟩<;>first|(simp only [SY,eq_self,Nat.reduceBEq,g131_1,g131_2,g131_6,g131_12,g131_15,g131_16]<;>rfl)|omega|assumption|(simp; omega)|simp)
        obtain ⟨rfl,j4,b4,ge131_1,ge131_2,ge131_6,ge131_12,ge131_15,ge131_16,be131_1,ge131,gm131,hj131_0,hj131_1,hj131_2,hR131⟩:=hQ131
        obtain rfl:b4=R92_4 d ti jv b2 x29 k3 b3 3 0 b3:=hR131.symm
        have w149:IntKind.i64.wrap ((k3:Int)+1)=((k3+1:Nat):Int):=by rw [IntWalk.i64_in]<;>omega
        try simp only [E0_G,SY,off,agreeKind,eq_self,if_true,Nat.reduceAdd,Nat.reduceLT,Nat.reduceBEq,ge131_16,w149] at he
        rw [drop_cons' (List.getElem?_eq_getElem (show k3<_ by omega))] at hd128
        have hf:=(show _=(R92_3 d ti jv b2 x29 (d.hours.drop (k3+1)) (k3+1) (R92_4 d ti jv b2 x29 k3 b3 3 0 b3):Int) from rfl).symm.trans hd128
        refine .next he (m - 1) (by omega) ⟨(k3+1),R92_4 d ti jv b2 x29 k3 b3 3 0 b3,?_,?_,?_,?_,?_,?_,?_,?_,?_,?_,be131_1,ge131,by omega,hf⟩<;>first|(simp only [SY,eq_self,Nat.reduceBEq,ge131_1,ge131_2,ge131_6,ge131_12,ge131_15,ge131_16]<;>rfl)|omega|assumption|(simp; omega)|simp
       try simp only [SY,h130a] at he
       rw [List.drop_eq_nil_of_le (show d.hours.length≤k3 by omega)] at hd128
       have hf:=(show _=(b3:Int) from rfl).symm.trans hd128
       refine .exit he ⟨rfl,⟨k3,b3,?_,?_,?_,?_,bb128_1,ga128,by omega,?_,?_,?_,hf.symm⟩⟩<;>first|(simp only [SY,eq_self,Nat.reduceBEq,g128_1,g128_2,g128_6,g128_12]<;>rfl)|omega|assumption|(simp; omega)|simp)
     obtain ⟨rfl,k3,b3,ge128_1,ge128_2,ge128_6,ge128_12,be128_1,ge128,gm128,hj128_0,hj128_1,hj128_2,hR128⟩:=hQ128
     obtain rfl:b3=R92_3 d ti jv b2 x29 d.hours 0 b2:=hR128.symm
     have w151:IntKind.i64.wrap ((jv:Int)+1)=((jv+1:Nat):Int):=by rw [IntWalk.i64_in]<;>omega
     try simp only [E0_G,SY,off,agreeKind,eq_self,if_true,Nat.reduceAdd,Nat.reduceLT,Nat.reduceBEq,ge128_12,w151] at he
     rw [drop_cons' hx29] at hd29
     have hf:=(show _=(R92_2 d ti (d.shut.drop (jv+1)) (jv+1) (R92_3 d ti jv b2 x29 d.hours 0 b2):Int) from (if_pos h35).trans ((if_neg h36).trans (rfl))).symm.trans hd29
     refine .next he (m - 1) (by omega) ⟨(jv+1),R92_3 d ti jv b2 x29 d.hours 0 b2,?_,?_,?_,?_,?_,?_,?_,?_,be128_1,ge128,by omega,hf⟩<;>first|(simp only [SY,eq_self,Nat.reduceBEq,ge128_1,ge128_2,ge128_6,ge128_12]<;>rfl)|omega|assumption|(simp; omega)|simp
    try simp only [E0_G,SY,off,agreeKind,Nat.reduceAdd,Nat.reduceLT,Nat.reduceBEq,h35a] at he
    have h152a:decide ((x29.lo - 1)<0)=true:=decide_eq_true (by omega)
    have w153:IntKind.i64.wrap ((jv:Int)+1)=((jv+1:Nat):Int):=by rw [IntWalk.i64_in]<;>omega
    try simp only [E0_G,SY,off,agreeKind,eq_self,if_true,Nat.reduceAdd,Nat.reduceLT,Nat.reduceBEq,g29_12,h152a,w153] at he
    rw [drop_cons' hx29] at hd29
    have hf:=(show _=(R92_2 d ti (d.shut.drop (jv+1)) (jv+1) b2:Int) from (if_neg h35).trans (rfl)).symm.trans hd29
    refine .next he (m - 1) (by omega) ⟨(jv+1),b2,?_,?_,?_,?_,?_,?_,?_,?_,bb29_1,ga29,by omega,hf⟩<;>first|(simp only [SY,eq_self,Nat.reduceBEq,g29_1,g29_2,g29_6,g29_12]<;>rfl)|omega|assumption|(simp; omega)|simp
   try simp only [SY,h31a] at he
   rw [List.drop_eq_nil_of_le (show d.shut.length≤jv by omega)] at hd29
   have hf:=(show _=(b2:Int) from rfl).symm.trans hd29
   refine .exit he ⟨rfl,⟨jv,b2,?_,bb29_1,ga29,by omega,?_,?_,?_,hf.symm⟩⟩<;>first|(simp only [SY,eq_self,Nat.reduceBEq,g29_6]<;>rfl)|omega|assumption|(simp; omega)|simp)
 obtain ⟨rfl,jv,b2,ge29_6,be29_1,ge29,gm29,hj29_0,hj29_1,hj29_2,hR29⟩:=hQ29
 obtain rfl:b2=R92_2 d ti d.shut 0 (R92_0 d ti 3 0 (-1)):=hR29.symm
 try simp only [E0_G,SY,off,agreeKind,eq_self,if_true,Nat.reduceAdd,Nat.reduceLT,Nat.reduceBEq,ge29_6] at hz
 have hr:r92 d ti=R92_2 d ti d.shut 0 (R92_0 d ti 3 0 (-1)):=(if_neg h3).trans (rfl)
 exact fin hz (by rw [hr]) ge29
end House
end Go.Proofs
