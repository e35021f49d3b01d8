import Derived.Test.YtohfdkdjfoonjaaGreatDoorBAH
import Derived.Test.YtohfdkdjfoonjaaGreatDoorEvM3
set_option linter.unusedSimpArgs false
set_option linter.unusedVariables false
namespace Go.Proofs
namespace House
open Go Go.RowKit Go.Aev
set_option maxRecDepth 100000
theorem TY_EvH10:type_of% TY_EvH7:=TY_EvH7
theorem td_ok {t:Int} (h:0≤t):0≤Int.tdiv t 86400∧Int.tdiv t 86400 * 86400≤t∧t<Int.tdiv t 86400 * 86400+86400∧Int.tdiv t 86400=t / 86400:=by
 have e:Int.tdiv t 86400=t / 86400:=Int.tdiv_eq_ediv_of_nonneg h
 rw [e]; omega
theorem hit_le (day sec:Int):∀ (ys:List (Int × Sp)) (r:Int),hit day sec ys=some r→r≤day+sec:=by
 intro ys
 induction ys with
 | nil=>intro r e; cases e
 | cons b ys ih =>
  intro r e
  unfold hit at e
  split at e
  ·cases e; omega
  ·exact ih r e
theorem hit_ge (day sec:Int) (hs:0≤sec):∀ (ys:List (Int × Sp)) (r:Int),(∀ b ∈ ys,0≤b.2.hi)→hit day sec ys=some r→day≤r:=by
 intro ys
 induction ys with
 | nil=>intro r _ e; cases e
 | cons b ys ih =>
  intro r hb e
  have:=hb b (by simp)
  unfold hit at e
  split at e
  ·cases e; omega
  ·exact ih r (fun c hc=>hb c (by simp [hc])) e
theorem r138_le {l:List Sp} {ti:Int} (ht:0≤ti) (hb:Bd 86399 l):r138 l ti≤ti ∧ -86401≤r138 l ti:=by
 have hq:=r160_ok ht
 unfold r138
 split
 ·omega
 ·rename_i h0
  have hx:=hb (lget l (l.length - 1)) (List.mem_of_getElem? (lget_some (by omega)))
  cases e:hit (r160 ti).1 (r160 ti).2 (r167 l) with
  | some r =>
   have h1:=hit_le _ _ _ _ e
   have h2:=hit_ge _ _ hq.1 _ _ (fun b hb'=>by have:=hb b.2 (r167_mem l _ _ (by omega) b hb'); omega) e
   simp only; omega
  | none=>simp only; omega
def R91_0 (d:Dr) (ti:Int)  : Nat→Int→Sum (Int) (Unit)
 | 0,tv=>.inr ()
 | m'+1,tv=>(if 0≤tv then (if (r137 (d.shut:List Sp) (r138 d.hours tv)).2=true then (if ((((r137 (d.shut:List Sp) (r138 d.hours tv)).1).1) - 1)=tv then .inl tv else R91_0 d ti m' ((((r137 (d.shut:List Sp) (r138 d.hours tv)).1).1) - 1)) else (if (r138 d.hours tv)=tv then .inl tv else R91_0 d ti m' (r138 d.hours tv))) else .inr ())
def r91 (d:Dr) (ti:Int):Int:=(onSum (R91_0 d ti ((ti+1).toNat+1) ti) (fun (r4:Int)=>r4) (fun (_:Unit) => -1))
set_option maxHeartbeats 8000000 in
theorem c91 (d:Dr) (ti:Int) (hD:OkD d) (ht:ti≤1073741823) (S:AS) (v_d_hours:Value) (hv_d_hours:Lst S v_d_hours d.hours) (v_d_shut:Value) (hv_d_shut:Lst S v_d_shut d.shut) :
  ∃ S',(evL Tryz.prog E0).call 91 #[.agg #[v_d_hours,v_d_shut],.int .i64 ti] S=some (.int .i64 (r91 d ti),S')∧Agree S S':=by
 generalize hz:(evL Tryz.prog E0).call 91 _ _=z
 rw [L_call,evCall_said rfl Tryz.func91 rfl (by decide) Tryz.ntmps91 Tryz.results91] at hz
 obtain ⟨S1,e1,n1,b1,a1⟩:=push_open S (.cells [v_d_hours,v_d_shut] 98 0 true true)
 have g1:Agree S S1:=a1
 try simp only [E0_G,SY,setArgs,off,agreeKind,boxed,Nat.reduceAdd,Nat.reduceSub,Nat.reduceLT,Nat.reduceBEq,e1] at hz
 generalize hL2:Rec.loop _ _ _ _=L2 at hz
 obtain ⟨x2,t2,S2e,rfl,hQ2⟩:=loop_met hL2 (fun m t S'=>∃ (tv:Int),tv+1<(m:Int)∧1≤m∧tv≤1073741823∧t.get 1=some (.int .i64 tv)∧t.get 2=some (.pointer (some ⟨S.next,0,none⟩))∧S'.heap.get S.next=some (.cells [v_d_hours,v_d_shut] 98 0 true true)∧Agree S S'∧S1.next≤S'.next∧R91_0 d ti m tv=R91_0 d ti ((ti+1).toNat+1) ti)
  (fun x t S'=>(x=.exit 0∧∃ (tv:Int),S'.heap.get S.next=some (.cells [v_d_hours,v_d_shut] 98 0 true true)∧Agree S S'∧S1.next≤S'.next∧tv≤1073741823∧R91_0 d ti ((ti+1).toNat+1) ti=.inr ())∨(x=.ret∧∃ (r4:Int),t.get 4=some (.int .i64 r4)∧Agree S S'∧R91_0 d ti ((ti+1).toNat+1) ti=.inl (r4))) ((ti+1).toNat+1) (by refine ⟨ti,?_,?_,?_,?_,?_,b1,g1,Nat.le_refl _,rfl⟩<;>first|(simp only [SY,eq_self,Nat.reduceBEq]<;>rfl)|omega|assumption|(simp; omega)|simp) (by
   rintro m t S2 ⟨tv,hi2_0,hi2_1,hi2_2,g2_1,g2_2,bb2_1,ga2,gn2,hd2⟩
   refine .run fun z he=>?_
   try simp only [E0_G,SY,off,agreeKind,Nat.reduceAdd,Nat.reduceLT,Nat.reduceBEq,g2_1] at he
   rcases dP (0≤tv) with ⟨h3a,h3⟩|⟨h3a,h3⟩
   ·obtain ⟨S4,k4,a4⟩:=c138 (d.hours) tv hD.h hD.hl (by omega) S2 (v_d_hours) (hv_d_hours.agree ga2)
    have l4:=a4.1
    have v1_4:=(a4.2 S.next (by omega)).trans bb2_1
    have g4:Agree S S4:=ga2.trans a4
    have p4:=r138_le (l:=d.hours) (show 0≤tv by omega) hD.h
    obtain ⟨S5,k5,a5⟩:=c137 (d.shut:List Sp) (r138 d.hours tv) hD.sl S4 (v_d_shut) (hv_d_shut.agree g4)
    have l5:=a5.1
    have v1_5:=(a5.2 S.next (by omega)).trans v1_4
    have g5:Agree S S5:=g4.trans a5
    obtain ⟨S6,e6,n6,b6,a6⟩:=push_open S5 (.cells [.int .i64 0,.int .i64 0] 36 0 true true)
    have v1_6:=(a6.2 S.next (by omega)).trans v1_5
    have g6:Agree S S6:=g5.trans a6
    obtain ⟨S7,k7,n7,b7,q7⟩:=st_at (o:=0) (c':=[.int .i64 (((r137 (d.shut:List Sp) (r138 d.hours tv)).1).1),.int .i64 (((r137 (d.shut:List Sp) (r138 d.hours tv)).1).2)]) (v:=.agg #[.int .i64 (((r137 (d.shut:List Sp) (r138 d.hours tv)).1).1),.int .i64 (((r137 (d.shut:List Sp) (r138 d.hours tv)).1).2)]) tz36 b6 rfl rfl (show 0+2≤2 by decide) rfl
    have v1_7:=(q7 S.next (by omega)).trans v1_6
    have g7:Agree S S7:=⟨by have:=(g6).1; omega,fun id hid=>(q7 id (by have:=(g6).1; omega)).trans ((g6).2 id hid)⟩
    try simp (disch:=first|omega|assumption) only [E0_G,SY,off,agreeKind,vals,allocV,ldA,aggD,aField,aExtract,Nat.reduceAdd,Nat.reduceLT,Nat.reduceBEq,TY_EvH10,g2_1,g2_2,bb2_1,h3a,k4,v1_4,k5,e6,k7] at he
    rcases dB ((r137 (d.shut:List Sp) (r138 d.hours tv)).2) with ⟨h8a,h8⟩|⟨h8a,h8⟩
    ·have lq9:=r137_ok hD.s h8
     have w10:IntKind.i64.wrap ((((r137 (d.shut:List Sp) (r138 d.hours tv)).1).1) - 1)=(((r137 (d.shut:List Sp) (r138 d.hours tv)).1).1) - 1:=by rw [IntWalk.i64_in]; omega
     try simp (disch:=first|omega|assumption) only [E0_G,SY,off,agreeKind,ldA,aggD,aField,Nat.reduceAdd,Nat.reduceLT,Nat.reduceBEq,TY_EvH10,g2_1,b7,h8a,w10] at he
     rcases dP (((((r137 (d.shut:List Sp) (r138 d.hours tv)).1).1) - 1)=tv) with ⟨h11a,h11⟩|⟨h11a,h11⟩
     ·try simp only [E0_G,SY,off,agreeKind,Nat.reduceAdd,Nat.reduceLT,Nat.reduceBEq,g2_1,h11a] at he
      obtain ⟨m',rfl⟩:∃ m',m=m'+1:=⟨m - 1,by omega⟩
      have hf:=(show _=(.inl tv:Sum (Int) (Unit)) from (if_pos h3).trans ((if_pos h8).trans ((if_pos h11).trans (rfl)))).symm.trans hd2
      refine .ret he (.inr ⟨rfl,⟨tv,?_,g7,hf.symm⟩⟩)<;>first|(simp only [SY,eq_self,Nat.reduceBEq]<;>rfl)|omega|assumption|(simp; omega)|simp
     try simp only [E0_G,SY,off,agreeKind,Nat.reduceAdd,Nat.reduceLT,Nat.reduceBEq,h11a] at he
     obtain ⟨m',rfl⟩:∃ m',m=m'+1:=⟨m - 1,by omega⟩
     have hf:=(show _=(R91_0 d ti m' ((((r137 (d.shut:List Sp) (r138 d.hours tv)).1).1) - 1):Sum (Int) (Unit)) from (if_pos h3).trans ((if_pos h8).trans ((if_neg h11).trans (rfl)))).symm.trans hd2
     refine .next he m' (by omega) ⟨(((r137 (d.shut:List Sp) (r138 d.hours tv)).1).1) - 1,?_,?_,?_,?_,?_,v1_7,g7,by omega,hf⟩<;>first|(simp only [SY,eq_self,Nat.reduceBEq,g2_1,g2_2]<;>rfl)|omega|assumption|(simp; omega)|simp
    try simp only [E0_G,SY,off,agreeKind,Nat.reduceAdd,Nat.reduceLT,Nat.reduceBEq,g2_1,h8a] at he
    rcases dP ((r138 d.hours tv)=tv) with ⟨h12a,h12⟩|⟨h12a,h12⟩
    ·try simp only [E0_G,SY,off,agreeKind,Nat.reduceAdd,Nat.reduceLT,Nat.reduceBEq,g2_1,h12a] at he
     obtain ⟨m',rfl⟩:∃ m',m=m'+1:=⟨m - 1,by omega⟩
     have hf:=(show _=(.inl tv:Sum (Int) (Unit)) from (if_pos h3).trans ((if_neg h8).trans ((if_pos h12).trans (rfl)))).symm.trans hd2
     refine .ret he (.inr ⟨rfl,⟨tv,?_,g7,hf.symm⟩⟩)<;>first|(simp only [SY,eq_self,Nat.reduceBEq]<;>rfl)|omega|assumption|(simp; omega)|simp
    try simp only [E0_G,SY,off,agreeKind,Nat.reduceAdd,Nat.reduceLT,Nat.reduceBEq,h12a] at he
    obtain ⟨m',rfl⟩:∃ m',m=m'+1:=⟨m - 1,by omega⟩
    have hf:=(show _=(R91_0 d ti m' (r138 d.hours tv):Sum (Int) (Unit)) from (if_pos h3).trans ((if_neg h8).trans ((if_neg h12).trans (rfl)))).symm.trans hd2
    refine .next he m' (by omega) ⟨r138 d.hours tv,?_,?_,?_,?_,?_,v1_7,g7,by omega,hf⟩<;>first|(simp only [SY,eq_self,Nat.reduceBEq,g2_1,g2_2]<;>rfl)|omega|assumption|(simp; omega)|simp
   try simp only [SY,h3a] at he
   obtain ⟨m',rfl⟩:∃ m',m=m'+1:=⟨m - 1,by omega⟩
   have hf:=(show _=(.inr ():Sum (Int) (Unit)) from (if_neg h3).trans (rfl)).symm.trans hd2
   refine .exit he (.inl ⟨rfl,⟨tv,bb2_1,ga2,by omega,?_,hf.symm⟩⟩)<;>first|(simp only [SY,setArgs,off,agreeKind,partVals,vals,allocV,boxed,ldA,rdCells,oneB,aggD,aField,aFieldV,aExtract,eq_self,ne_eq,if_true,if_false,not_false_eq_true,Nat.reduceAdd,Nat.reduceSub,Nat.reduceMul,Nat.reduceLT,Nat.reduceEqDiff,Nat.reduceBEq,reduceIte,Int.reduceEq,Int.reduceLT,Int.reduceLE,reduceCtorEq,g2_1,g2_2]<;>rfl)|omega|assumption|(simp; omega)|simp)
 rcases hQ2 with ⟨rfl,hQ2⟩|⟨rfl,hQ2⟩
 ·obtain ⟨tv,be2_1,ge2,gm2,hj2_0,hR2⟩:=hQ2
  try simp only [E0_G,SY,off,agreeKind,eq_self,if_true,Nat.reduceLT,Nat.reduceBEq] at hz
  have hr:r91 d ti = -1:=(onSum_inr hR2).trans (rfl)
  exact fin hz (by rw [hr]) ge2
 obtain ⟨r4,ge2_4,ge2,hR2⟩:=hQ2
 try simp only [SY,ge2_4] at hz
 have hr:r91 d ti=r4:=(onSum_inl hR2).trans (rfl)
 exact fin hz (by rw [hr]) ge2
def R90_1 (d:Dr) (ti:Int) (kv:Nat) (b0:Int):List Sp→Int→Int
 | [],b1=>b1
 | x8 :: l',b1=>(if ti<((((Int.tdiv ti 86400) * 86400)+((kv:Int) * 86400))+x8.lo) then (if ((((Int.tdiv ti 86400) * 86400)+((kv:Int) * 86400))+x8.lo)<b1 then (if (r86 d ((((Int.tdiv ti 86400) * 86400)+((kv:Int) * 86400))+x8.lo))=true then R90_1 d ti kv b0 l' ((((Int.tdiv ti 86400) * 86400)+((kv:Int) * 86400))+x8.lo) else R90_1 d ti kv b0 l' b1) else R90_1 d ti kv b0 l' b1) else R90_1 d ti kv b0 l' b1)
def R90_0 (d:Dr) (ti:Int)  : Nat→Nat→Int→Int
 | 0,kv,b0=>b0
 | m'+1,kv,b0=>(if (kv:Int)<2 then R90_0 d ti m' (kv+1) (R90_1 d ti kv b0 d.hours b0) else b0)
def R90_4 (d:Dr) (ti:Int) (jv:Nat) (b2:Int) (x27:Sp) (k3:Nat) (b3:Int):Nat→Nat→Int→Int
 | 0,j4,b4=>b4
 | m'+1,j4,b4=>(if (j4:Int)<2 then (if ti<(((((Int.tdiv (x27.hi+1) 86400) * 86400)+86400) - ((j4:Int) * 86400))+((lget d.hours k3).lo)) then (if (((((Int.tdiv (x27.hi+1) 86400) * 86400)+86400) - ((j4:Int) * 86400))+((lget d.hours k3).lo))<b4 then (if (r86 d (((((Int.tdiv (x27.hi+1) 86400) * 86400)+86400) - ((j4:Int) * 86400))+((lget d.hours k3).lo)))=true then R90_4 d ti jv b2 x27 k3 b3 m' (j4+1) (((((Int.tdiv (x27.hi+1) 86400) * 86400)+86400) - ((j4:Int) * 86400))+((lget d.hours k3).lo)) else R90_4 d ti jv b2 x27 k3 b3 m' (j4+1) b4) else R90_4 d ti jv b2 x27 k3 b3 m' (j4+1) b4) else R90_4 d ti jv b2 x27 k3 b3 m' (j4+1) b4) else b4)
def R90_3 (d:Dr) (ti:Int) (jv:Nat) (b2:Int) (x27:Sp):List Sp→Nat→Int→Int
 | [],k3,b3=>b3
 | _x :: l',k3,b3=>R90_3 d ti jv b2 x27 l' (k3+1) (R90_4 d ti jv b2 x27 k3 b3 3 0 b3)
def R90_2 (d:Dr) (ti:Int)  : List Sp→Nat→Int→Int
 | [],jv,b2=>b2
 | x27 :: l',jv,b2=>(if ti<(x27.hi+1) then (if (x27.hi+1)<b2 then (if (r86 d (x27.hi+1))=true then R90_2 d ti l' (jv+1) (R90_3 d ti jv b2 x27 d.hours 0 (x27.hi+1)) else R90_2 d ti l' (jv+1) (R90_3 d ti jv b2 x27 d.hours 0 b2)) else R90_2 d ti l' (jv+1) (R90_3 d ti jv b2 x27 d.hours 0 b2)) else R90_2 d ti l' (jv+1) (R90_3 d ti jv b2 x27 d.hours 0 b2))
def r90 (d:Dr) (ti:Int):Int:=(if (r86 d ti)=true then ti else R90_2 d ti d.shut 0 (R90_0 d ti 3 0 1073741824))
def R92_1 (d:Dr) (ti:Int) (kv:Nat) (b0:Int):List Sp→Int→Int
 | [],b1=>b1
 | x8 :: l',b1=>(if 0≤((((Int.tdiv ti 86400) * 86400) - ((kv:Int) * 86400))+x8.hi) then (if ((((Int.tdiv ti 86400) * 86400) - ((kv:Int) * 86400))+x8.hi)<ti then (if b1<((((Int.tdiv ti 86400) * 86400) - ((kv:Int) * 86400))+x8.hi) then (if (r86 d ((((Int.tdiv ti 86400) * 86400) - ((kv:Int) * 86400))+x8.hi))=true then R92_1 d ti kv b0 l' ((((Int.tdiv ti 86400) * 86400) - ((kv:Int) * 86400))+x8.hi) else R92_1 d ti kv b0 l' b1) else R92_1 d ti kv b0 l' b1) else R92_1 d ti kv b0 l' b1) else R92_1 d ti kv b0 l' b1)
def R92_0 (d:Dr) (ti:Int)  : Nat→Nat→Int→Int
 | 0,kv,b0=>b0
 | m'+1,kv,b0=>(if (kv:Int)<2 then R92_0 d ti m' (kv+1) (R92_1 d ti kv b0 d.hours b0) else b0)
def R92_4 (d:Dr) (ti:Int) (jv:Nat) (b2:Int) (x29:Sp) (k3:Nat) (b3:Int):Nat→Nat→Int→Int
 | 0,j4,b4=>b4
 | m'+1,j4,b4=>(if (j4:Int)<2 then (if 0≤(((((Int.tdiv (x29.lo - 1) 86400) * 86400) - 86400)+((j4:Int) * 86400))+((lget d.hours k3).hi)) then (if (((((Int.tdiv (x29.lo - 1) 86400) * 86400) - 86400)+((j4:Int) * 86400))+((lget d.hours k3).hi))<ti then (if b4<(((((Int.tdiv (x29.lo - 1) 86400) * 86400) - 86400)+((j4:Int) * 86400))+((lget d.hours k3).hi)) then (if (r86 d (((((Int.tdiv (x29.lo - 1) 86400) * 86400) - 86400)+((j4:Int) * 86400))+((lget d.hours k3).hi)))=true then R92_4 d ti jv b2 x29 k3 b3 m' (j4+1) (((((Int.tdiv (x29.lo - 1) 86400) * 86400) - 86400)+((j4:Int) * 86400))+((lget d.hours k3).hi)) else R92_4 d ti jv b2 x29 k3 b3 m' (j4+1) b4) else R92_4 d ti jv b2 x29 k3 b3 m' (j4+1) b4) else R92_4 d ti jv b2 x29 k3 b3 m' (j4+1) b4) else R92_4 d ti jv b2 x29 k3 b3 m' (j4+1) b4) else b4)
def R92_3 (d:Dr) (ti:Int) (jv:Nat) (b2:Int) (x29:Sp):List Sp→Nat→Int→Int
 | [],k3,b3=>b3
 | _x :: l',k3,b3=>R92_3 d ti jv b2 x29 l' (k3+1) (R92_4 d ti jv b2 x29 k3 b3 3 0 b3)
def R92_2 (d:Dr) (ti:Int)  : List Sp→Nat→Int→Int
 | [],jv,b2=>b2
 | x29 :: l',jv,b2=>(if 0≤(x29.lo - 1) then (if (x29.lo - 1)<ti then (if b2<(x29.lo - 1) then (if (r86 d (x29.lo - 1))=true then R92_2 d ti l' (jv+1) (R92_3 d ti jv b2 x29 d.hours 0 (x29.lo - 1)) else R92_2 d ti l' (jv+1) (R92_3 d ti jv b2 x29 d.hours 0 b2)) else R92_2 d ti l' (jv+1) (R92_3 d ti jv b2 x29 d.hours 0 b2)) else R92_2 d ti l' (jv+1) (R92_3 d ti jv b2 x29 d.hours 0 b2)) else R92_2 d ti l' (jv+1) b2)
def r92 (d:Dr) (ti:Int):Int:=(if (r86 d ti)=true then ti else R92_2 d ti d.shut 0 (R92_0 d ti 3 0 (-1)))
end House
end Go.Proofs
