import Derived.Test.YtohfdkdjfoonjaaGreatDoorEvH9
import Derived.Test.YtohfdkdjfoonjaaGreatDoorEvM3
set_option linter.unusedSimpArgs false
set_option linter.unusedVariables false
namespace Go.Proofs
namespace House
open Go Go.RowKit Go.Aev
set_option maxRecDepth 100000
theorem TY_EvH10:type_of% TY_EvH7:=TY_EvH7
theorem td_ok {t:Int} (h:0≤t):0≤Int.tdiv t 86400∧Int.tdiv t 86400 * 86400≤t∧t<Int.tdiv t 86400 * 86400+86400∧Int.tdiv t 86400=t / 86400:=by
 have e:Int.tdiv t 86400=t / 86400:=Int.tdiv_eq_ediv_of_nonneg h
 rw [e]; omega
def R91_0 (d:Dr) (ti:Int)  : Nat→Int→Sum (Int) (Unit)
 | 0,tv=>.inr ()
 | m'+1,tv=>(if 0≤tv then (if (r137 (d.shut:List Sp) (r138 d.hours tv)).2=true then (if ((((r137 (d.shut:List Sp) (r138 d.hours tv)).1).1) - 1)=tv then .inl tv else R91_0 d ti m' ((((r137 (d.shut:List Sp) (r138 d.hours tv)).1).1) - 1)) else (if (r138 d.hours tv)=tv then .inl tv else R91_0 d ti m' (r138 d.hours tv))) else .inr ())
def r91 (d:Dr) (ti:Int):Int:=(onSum (R91_0 d ti ((ti+1).toNat+1) ti) (fun (r4:Int)=>r4) (fun (_:Unit) => -1))
def R90_1 (d:Dr) (ti:Int) (kv:Nat) (b0:Int):List Sp→Int→Int
 | [],b1=>b1
 | x8 :: l',b1=>(if ti<((((Int.tdiv ti 86400) * 86400)+((kv:Int) * 86400))+x8.lo) then (if ((((Int.tdiv ti 86400) * 86400)+((kv:Int) * 86400))+x8.lo)<b1 then (if (r86 d ((((Int.tdiv ti 86400) * 86400)+((kv:Int) * 86400))+x8.lo))=true then R90_1 d ti kv b0 l' ((((Int.tdiv ti 86400) * 86400)+((kv:Int) * 86400))+x8.lo) else R90_1 d ti kv b0 l' b1) else R90_1 d ti kv b0 l' b1) else R90_1 d ti kv b0 l' b1)
def R90_0 (d:Dr) (ti:Int)  : Nat→Nat→Int→Int
 | 0,kv,b0=>b0
 | m'+1,kv,b0=>(if (kv:Int)<2 then R90_0 d ti m' (kv+1) (R90_1 d ti kv b0 d.hours b0) else b0)
def R90_4 (d:Dr) (ti:Int) (jv:Nat) (b2:Int) (x27:Sp) (k3:Nat) (b3:Int):Nat→Nat→Int→Int
 | 0,j4,b4=>b4
 | m'+1,j4,b4=>(if (j4:Int)<2 then (if ti<(((((Int.tdiv (x27.hi+1) 86400) * 86400)+86400) - ((j4:Int) * 86400))+((lget d.hours k3).lo)) then (if (((((Int.tdiv (x27.hi+1) 86400) * 86400)+86400) - ((j4:Int) * 86400))+((lget d.hours k3).lo))<b4 then (if (r86 d (((((Int.tdiv (x27.hi+1) 86400) * 86400)+86400) - ((j4:Int) * 86400))+((lget d.hours k3).lo)))=true then R90_4 d ti jv b2 x27 k3 b3 m' (j4+1) (((((Int.tdiv (x27.hi+1) 86400) * 86400)+86400) - ((j4:Int) * 86400))+((lget d.hours k3).lo)) else R90_4 d ti jv b2 x27 k3 b3 m' (j4+1) b4) else R90_4 d ti jv b2 x27 k3 b3 m' (j4+1) b4) else R90_4 d ti jv b2 x27 k3 b3 m' (j4+1) b4) else b4)
def R90_3 (d:Dr) (ti:Int) (jv:Nat) (b2:Int) (x27:Sp):List Sp→Nat→Int→Int
 | [],k3,b3=>b3
 | _x :: l',k3,b3=>R90_3 d ti jv b2 x27 l' (k3+1) (R90_4 d ti jv b2 x27 k3 b3 3 0 b3)
def R90_2 (d:Dr) (ti:Int)  : List Sp→Nat→Int→Int
 | [],jv,b2=>b2
 | x27 :: l',jv,b2=>(if ti<(x27.hi+1) then (if (x27.hi+1)<b2 then (if (r86 d (x27.hi+1))=true then R90_2 d ti l' (jv+1) (R90_3 d ti jv b2 x27 d.hours 0 (x27.hi+1)) else R90_2 d ti l' (jv+1) (R90_3 d ti jv b2 x27 d.hours 0 b2)) else R90_2 d ti l' (jv+1) (R90_3 d ti jv b2 x27 d.hours 0 b2)) else R90_2 d ti l' (jv+1) (R90_3 d ti jv b2 x27 d.hours 0 b2))
def r90 (d:Dr) (ti:Int):Int:=(if (r86 d ti)=true then ti else R90_2 d ti d.shut 0 (R90_0 d ti 3 0 1073741824))
set_option maxHeartbeats 16000000 in
theorem c90 (d:Dr) (ti:Int) (hD:OkD d) (ht:0≤ti∧ti≤1073741823) (S:AS) (v_d_hours:Value) (hv_d_hours:Lst S v_d_hours d.hours) (v_d_shut:Value) (hv_d_shut:Lst S v_d_shut d.shut) :
  ∃ S',(evL Tryz.prog E0).call 90 #[.agg #[v_d_hours,v_d_shut],.int .i64 ti] S=some (.int .i64 (r90 d ti),S')∧Agree S S':=by
 have hdh:=hD.hl; have hds:=hD.sl
 generalize hz:(evL Tryz.prog E0).call 90 _ _=z
 rw [L_call,evCall_said rfl Tryz.func90 rfl (by decide) Tryz.ntmps90 Tryz.results90] at hz
 obtain ⟨S1,e1,n1,b1,a1⟩:=push_open S (.cells [v_d_hours,v_d_shut] 98 0 true true)
 have g1:Agree S S1:=a1
 obtain ⟨S2,k2,a2⟩:=c86 d ti hD S1 (v_d_hours) (hv_d_hours.agree g1) (v_d_shut) (hv_d_shut.agree g1)
 have l2:=a2.1
 have v1_2:=(a2.2 S.next (by omega)).trans b1
 have g2:Agree S S2:=g1.trans a2
 try simp only [E0_G,SY,setArgs,off,agreeKind,vals,boxed,ldA,rdCells,aggD,Nat.reduceAdd,Nat.reduceSub,Nat.reduceLT,Nat.reduceBEq,TY_EvH10,e1,b1,k2] at hz
 rcases dB ((r86 d ti)) with ⟨h3a,h3⟩|⟨h3a,h3⟩
 ·try simp only [E0_G,SY,off,agreeKind,Nat.reduceAdd,Nat.reduceLT,Nat.reduceBEq,h3a] at hz
  have hr:r90 d ti=ti:=(if_pos h3).trans (rfl)
  exact fin hz (by rw [hr]) g2
 have w4:IntKind.i64.wrap (Int.tdiv ti 86400)=Int.tdiv ti 86400:=by have:=td_ok (t:=ti) (by omega); rw [IntWalk.i64_in]; omega
 have q4:=td_ok (t:=ti) (by omega)
 have w5:IntKind.i64.wrap ((Int.tdiv ti 86400) * 86400)=(Int.tdiv ti 86400) * 86400:=by rw [IntWalk.i64_in]; omega
 try simp only [E0_G,SY,off,agreeKind,Nat.reduceAdd,Nat.reduceLT,Nat.reduceBEq,Int.reduceEq,h3a,w4,w5] at hz
 generalize hL6:Rec.loop _ _ _ _=L6 at hz
 obtain ⟨x6,t6,S6e,rfl,hQ6⟩:=loop_met hL6 (fun m t S'=>∃ (kv:Nat) (b0:Int),m+kv=3∧kv≤2∧0≤b0∧b0≤1073741824∧t.get 1=some (.int .i64 ti)∧t.get 2=some (.pointer (some ⟨S.next,0,none⟩))∧t.get 6=some (.int .i64 b0)∧t.get 7=some (.int .i64 ((Int.tdiv ti 86400) * 86400))∧t.get 8=some (.int .i64 (kv:Int))∧S'.heap.get S.next=some (.cells [v_d_hours,v_d_shut] 98 0 true true)∧Agree S S'∧S2.next≤S'.next∧R90_0 d ti m kv b0=R90_0 d ti 3 0 1073741824)
  (fun x t S'=>x=.exit 0∧∃ (kv:Nat) (b0:Int),t.get 1=some (.int .i64 ti)∧t.get 2=some (.pointer (some ⟨S.next,0,none⟩))∧t.get 6=some (.int .i64 b0)∧S'.heap.get S.next=some (.cells [v_d_hours,v_d_shut] 98 0 true true)∧Agree S S'∧S2.next≤S'.next∧kv≤2∧0≤b0∧b0≤1073741824∧R90_0 d ti 3 0 1073741824=b0) 3 (by refine ⟨0,1073741824,?_,?_,?_,?_,?_,?_,?_,?_,?_,v1_2,g2,Nat.le_refl _,rfl⟩<;>first|(simp only [SY,eq_self,Nat.reduceBEq,Int.reduceLE]<;>rfl)|omega|assumption|(simp; omega)|simp) (by
   rintro m t S6 ⟨kv,b0,hi6_0,hi6_1,hi6_2,hi6_3,g6_1,g6_2,g6_6,g6_7,g6_8,bb6_1,ga6,gn6,hd6⟩
   refine .run fun z he=>?_
   try simp only [E0_G,SY,off,agreeKind,Nat.reduceAdd,Nat.reduceLT,Nat.reduceBEq,g6_8] at he
   rcases dP ((kv:Int)<2) with ⟨h7a,h7⟩|⟨h7a,h7⟩
   ·try simp only [E0_G,SY,off,agreeKind,Nat.reduceLT,h7a] at he
    generalize hL8:Rec.loop _ _ _ _=L8 at he
    obtain ⟨x8,t8,S8e,rfl,hQ8⟩:=loop_met hL8 (fun m t S'=>∃ (iv:Nat) (b1:Int),m+iv=d.hours.length∧kv<2∧0≤b1∧b1≤1073741824∧iv≤d.hours.length∧t.get 1=some (.int .i64 ti)∧t.get 2=some (.pointer (some ⟨S.next,0,none⟩))∧t.get 6=some (.int .i64 b1)∧t.get 7=some (.int .i64 ((Int.tdiv ti 86400) * 86400))∧t.get 8=some (.int .i64 (kv:Int))∧t.get 9=some (.int .i64 (iv:Int))∧S'.heap.get S.next=some (.cells [v_d_hours,v_d_shut] 98 0 true true)∧Agree S S'∧S6.next≤S'.next∧R90_1 d ti kv b0 (d.hours.drop iv) b1=R90_1 d ti kv b0 d.hours b0)
     (fun x t S'=>x=.exit 2∧∃ (iv:Nat) (b1:Int),t.get 1=some (.int .i64 ti)∧t.get 2=some (.pointer (some ⟨S.next,0,none⟩))∧t.get 6=some (.int .i64 b1)∧t.get 7=some (.int .i64 ((Int.tdiv ti 86400) * 86400))∧t.get 8=some (.int .i64 (kv:Int))∧S'.heap.get S.next=some (.cells [v_d_hours,v_d_shut] 98 0 true true)∧Agree S S'∧S6.next≤S'.next∧kv<2∧0≤b1∧b1≤1073741824∧iv≤d.hours.length∧R90_1 d ti kv b0 d.hours b0=b1) (d.hours.length - 0) (by refine ⟨0,b0,?_,?_,?_,?_,?_,?_,?_,?_,?_,?_,?_,bb6_1,ga6,Nat.le_refl _,rfl⟩<;>first|(simp only [SY,eq_self,Nat.reduceBEq,g6_1,g6_2,g6_6,g6_7,g6_8]<;>rfl)|omega|assumption|(simp; omega)|simp) (by
      rintro m t S8 ⟨iv,b1,hi8_0,hi8_1,hi8_2,hi8_3,hi8_4,g8_1,g8_2,g8_6,g8_7,g8_8,g8_9,bb8_1,ga8,gn8,hd8⟩
      refine .run fun z he=>?_
      have w9:=(hv_d_hours.agree ga8).len (P:=Tryz.prog) (t:=40) Tryz.underlying40
      try simp (disch:=first|omega|assumption) only [E0_G,SY,off,agreeKind,ldA,aggD,aField,Nat.reduceAdd,Nat.reduceLT,Nat.reduceBEq,TY_EvH10,g8_2,g8_9,bb8_1,w9] at he
      rcases dP ((iv:Int)<(d.hours.length:Int)) with ⟨h10a,h10⟩|⟨h10a,h10⟩
      ·have w11:IntKind.i64.wrap ((kv:Int) * 86400)=(kv:Int) * 86400:=by rw [IntWalk.i64_in]; omega
       have w12:IntKind.i64.wrap (((Int.tdiv ti 86400) * 86400)+((kv:Int) * 86400))=((Int.tdiv ti 86400) * 86400)+((kv:Int) * 86400):=by rw [IntWalk.i64_in]; omega
       have hx8:d.hours[iv]?=some (d.hours[iv]'(by first|omega|simp; omega)):=List.getElem?_eq_getElem _
       generalize d.hours[iv]'_=x8 at hx8
       have eb14:=hD.h _ (List.mem_of_getElem? hx8)
       obtain ⟨id13,of13,cc13,ty13,wr13,ex13,i13,j13,l13,q13⟩:=(hv_d_hours).at (P:=Tryz.prog) (t:=40) Tryz.underlying40 tz36 hx8
       have j13:=(ga8.2 id13 l13).trans j13
       have m13_0:cc13[of13]?=some (.int .i64 x8.lo):=q13 0 (show 0<2 by decide)
       have m13_1:cc13[of13+1]?=some (.int .i64 x8.hi):=q13 1 (show 1<2 by decide)
       have w15:IntKind.i64.wrap ((((Int.tdiv ti 86400) * 86400)+((kv:Int) * 86400))+x8.lo)=(((Int.tdiv ti 86400) * 86400)+((kv:Int) * 86400))+x8.lo:=by rw [IntWalk.i64_in]; omega
       try simp (disch:=first|omega|assumption) only [E0_G,SY,off,agreeKind,ldA,aggD,aField,Nat.reduceAdd,Nat.reduceLT,Nat.reduceBEq,TY_EvH10,g8_1,g8_2,g8_7,g8_8,g8_9,bb8_1,h10a,w11,w12,i13,j13,m13_0,w15] at he
       rcases dP (ti<((((Int.tdiv ti 86400) * 86400)+((kv:Int) * 86400))+x8.lo)) with ⟨h16a,h16⟩|⟨h16a,h16⟩
       ·try simp only [E0_G,SY,off,agreeKind,Nat.reduceAdd,Nat.reduceLT,Nat.reduceBEq,g8_6,h16a] at he
        rcases dP (((((Int.tdiv ti 86400) * 86400)+((kv:Int) * 86400))+x8.lo)<b1) with ⟨h17a,h17⟩|⟨h17a,h17⟩
        ·obtain ⟨S18,k18,a18⟩:=c86 d ((((Int.tdiv ti 86400) * 86400)+((kv:Int) * 86400))+x8.lo) hD S8 (v_d_hours) (hv_d_hours.agree ga8) (v_d_shut) (hv_d_shut.agree ga8)
         have l18:=a18.1
         have v1_18:=(a18.2 S.next (by omega)).trans bb8_1
         have g18:Agree S S18:=ga8.trans a18
         try simp only [E0_G,SY,off,agreeKind,vals,ldA,rdCells,aggD,Nat.reduceAdd,Nat.reduceLT,Nat.reduceBEq,TY_EvH10,g8_2,bb8_1,h17a,k18] at he
         rcases dB ((r86 d ((((Int.tdiv ti 86400) * 86400)+((kv:Int) * 86400))+x8.lo))) with ⟨h19a,h19⟩|⟨h19a,h19⟩
         ·have w20:IntKind.i64.wrap ((iv:Int)+1)=((iv+1:Nat):Int):=by rw [IntWalk.i64_in]<;>omega
          try simp only [E0_G,SY,off,agreeKind,Nat.reduceAdd,Nat.reduceLT,Nat.reduceBEq,g8_9,h19a,w20] at he
          rw [drop_cons' hx8] at hd8
          have hf:=(show _=(R90_1 d ti kv b0 (d.hours.drop (iv+1)) ((((Int.tdiv ti 86400) * 86400)+((kv:Int) * 86400))+x8.lo):Int) from (if_pos h16).trans ((if_pos h17).trans ((if_pos h19).trans (rfl)))).symm.trans hd8
          refine .next he (m - 1) (by omega) ⟨(iv+1),(((Int.tdiv ti 86400) * 86400)+((kv:Int) * 86400))+x8.lo,?_,?_,?_,?_,?_,?_,?_,?_,?_,?_,?_,v1_18,g18,by omega,hf⟩<;>first|(simp only [SY,eq_self,Nat.reduceBEq,g8_1,g8_2,g8_6,g8_7,g8_8,g8_9]<;>rfl)|omega|assumption|(simp; omega)|simp
         have w21:IntKind.i64.wrap ((iv:Int)+1)=((iv+1:Nat):Int):=by rw [IntWalk.i64_in]<;>omega
         try simp only [E0_G,SY,off,agreeKind,Nat.reduceAdd,Nat.reduceLT,Nat.reduceBEq,g8_9,h19a,w21] at he
         rw [drop_cons' hx8] at hd8
         have hf:=(show _=(R90_1 d ti kv b0 (d.hours.drop (iv+1)) b1:Int) from (if_pos h16).trans ((if_pos h17).trans ((if_neg h19).trans (rfl)))).symm.trans hd8
         refine .next he (m - 1) (by omega) ⟨(iv+1),b1,?_,?_,?_,?_,?_,?_,?_,?_,?_,?_,?_,v1_18,g18,by omega,hf⟩<;>first|(simp only [SY,eq_self,Nat.reduceBEq,g8_1,g8_2,g8_6,g8_7,g8_8,g8_9]<;>rfl)|omega|assumption|(simp; omega)|simp
        have w22:IntKind.i64.wrap ((iv:Int)+1)=((iv+1:Nat):Int):=by rw [IntWalk.i64_in]<;>omega
        try simp only [E0_G,SY,off,agreeKind,Nat.reduceAdd,Nat.reduceLT,Nat.reduceBEq,g8_9,h17a,w22] at he
        rw [drop_cons' hx8] at hd8
        have hf:=(show _=(R90_1 d ti kv b0 (d.hours.drop (iv+1)) b1:Int) from (if_pos h16).trans ((if_neg h17).trans (rfl))).symm.trans hd8
        refine .next he (m - 1) (by omega) ⟨(iv+1),b1,?_,?_,?_,?_,?_,?_,?_,?_,?_,?_,?_,bb8_1,ga8,by omega,hf⟩<;>first|(simp only [SY,eq_self,Nat.reduceBEq,g8_1,g8_2,g8_6,g8_7,g8_8,g8_9]<;>rfl)|omega|assumption|(simp; omega)|simp
       have w23:IntKind.i64.wrap ((iv:Int)+1)=((iv+1:Nat):Int):=by rw [IntWalk.i64_in]<;>omega
       try simp only [E0_G,SY,off,agreeKind,Nat.reduceAdd,Nat.reduceLT,Nat.reduceBEq,g8_9,h16a,w23] at he
       rw [drop_cons' hx8] at hd8
       have hf:=(show _=(R90_1 d ti kv b0 (d.hours.drop (iv+1)) b1:Int) from (if_neg h16).trans (rfl)).symm.trans hd8
       refine .next he (m - 1) (by omega) ⟨(iv+1),b1,?_,?_,?_,?_,?_,?_,?_,?_,?_,?_,?_,bb8_1,ga8,by omega,hf⟩<;>first|(simp only [SY,eq_self,Nat.reduceBEq,g8_1,g8_2,g8_6,g8_7,g8_8,g8_9]<;>rfl)|omega|assumption|(simp; omega)|simp
      try simp only [SY,h10a] at he
      rw [List.drop_eq_nil_of_le (show d.hours.length≤iv by omega)] at hd8
      have hf:=(show _=(b1:Int) from rfl).symm.trans hd8
      refine .exit he ⟨rfl,⟨iv,b1,?_,?_,?_,?_,?_,bb8_1,ga8,by omega,?_,?_,?_,?_,hf.symm⟩⟩<;>first|(simp only [SY,eq_self,Nat.reduceBEq,g8_1,g8_2,g8_6,g8_7,g8_8]<;>rfl)|omega|assumption|(simp; omega)|simp)
    obtain ⟨rfl,iv,b1,ge8_1,ge8_2,ge8_6,ge8_7,ge8_8,be8_1,ge8,gm8,hj8_0,hj8_1,hj8_2,hj8_3,hR8⟩:=hQ8
    obtain rfl:b1=R90_1 d ti kv b0 d.hours b0:=hR8.symm
    have w25:IntKind.i64.wrap ((kv:Int)+1)=((kv+1:Nat):Int):=by rw [IntWalk.i64_in]<;>omega
    try simp only [E0_G,SY,off,agreeKind,eq_self,if_true,Nat.reduceAdd,Nat.reduceLT,Nat.reduceBEq,ge8_8,w25] at he
    obtain ⟨m',rfl⟩:∃ m',m=m'+1:=⟨m - 1,by omega⟩
    have hf:=(show _=(R90_0 d ti m' (kv+1) (R90_1 d ti kv b0 d.hours b0):Int) from (if_pos h7).trans (rfl)).symm.trans hd6
    refine .next he m' (by omega) ⟨(kv+1),R90_1 d ti kv b0 d.hours b0,?_,?_,?_,?_,?_,?_,?_,?_,?_,be8_1,ge8,by omega,hf⟩<;>first|(simp only [SY,eq_self,Nat.reduceBEq,ge8_1,ge8_2,ge8_6,ge8_7,ge8_8]<;>rfl)|omega|assumption|(simp; omega)|simp
   try simp only [SY,h7a] at he
   obtain ⟨m',rfl⟩:∃ m',m=m'+1:=⟨m - 1,by omega⟩
   have hf:=(show _=(b0:Int) from (if_neg h7).trans (rfl)).symm.trans hd6
   refine .exit he ⟨rfl,⟨kv,b0,?_,?_,?_,bb6_1,ga6,by omega,?_,?_,?_,hf.symm⟩⟩<;>first|(simp only [SY,eq_self,Nat.reduceBEq,g6_1,g6_2,g6_6]<;>rfl)|omega|assumption|(simp; omega)|simp)
 obtain ⟨rfl,kv,b0,ge6_1,ge6_2,ge6_6,be6_1,ge6,gm6,hj6_0,hj6_1,hj6_2,hR6⟩:=hQ6
 obtain rfl:b0=R90_0 d ti 3 0 1073741824:=hR6.symm
 try simp only [E0_G,SY,off,agreeKind,eq_self,if_true,Nat.reduceLT] at hz
 generalize hL27:Rec.loop _ _ _ _=L27 at hz
 obtain ⟨x27,t27,S27e,rfl,hQ27⟩:=loop_met hL27 (fun m t S'=>∃ (jv:Nat) (b2:Int),m+jv=d.shut.length∧0≤b2∧b2≤1073741824∧jv≤d.shut.length∧t.get 1=some (.int .i64 ti)∧t.get 2=some (.pointer (some ⟨S.next,0,none⟩))∧t.get 6=some (.int .i64 b2)∧t.get 12=some (.int .i64 (jv:Int))∧S'.heap.get S.next=some (.cells [v_d_hours,v_d_shut] 98 0 true true)∧Agree S S'∧S6e.next≤S'.next∧R90_2 d ti (d.shut.drop jv) jv b2=R90_2 d ti d.shut 0 (R90_0 d ti 3 0 1073741824))
  (fun x t S'=>x=.exit 4∧∃ (jv:Nat) (b2:Int),t.get 6=some (.int .i64 b2)∧S'.heap.get S.next=some (.cells [v_d_hours,v_d_shut] 98 0 true true)∧Agree S S'∧S6e.next≤S'.next∧0≤b2∧b2≤1073741824∧jv≤d.shut.length∧R90_2 d ti d.shut 0 (R90_0 d ti 3 0 1073741824)=b2) (d.shut.length - 0) (by refine ⟨0,R90_0 d ti 3 0 1073741824,?_,?_,?_,?_,?_,?_,?_,?_,be6_1,ge6,Nat.le_refl _,rfl⟩<;>first|(simp only [SY,eq_self,Nat.reduceBEq,ge6_1,ge6_2,ge6_6]<;>rfl)|omega|assumption|(simp; omega)|simp) (by
   rintro m t S27 ⟨jv,b2,hi27_0,hi27_1,hi27_2,hi27_3,g27_1,g27_2,g27_6,g27_12,bb27_1,ga27,gn27,hd27⟩
   refine .run fun z he=>?_
   have w28:=(hv_d_shut.agree ga27).len (P:=Tryz.prog) (t:=40) Tryz.underlying40
   try simp (disch:=first|omega|assumption) only [E0_G,SY,off,agreeKind,ldA,aggD,aField,Nat.reduceAdd,Nat.reduceLT,Nat.reduceBEq,TY_EvH10,g27_2,g27_12,bb27_1,w28] at he
   rcases dP ((jv:Int)<(d.shut.length:Int)) with ⟨h29a,h29⟩|⟨h29a,h29⟩
   ·have hx27:d.shut[jv]?=some (d.shut[jv]'(by first|omega|simp; omega)):=List.getElem?_eq_getElem _
    generalize d.shut[jv]'_=x27 at hx27
    have eb31:=hD.s _ (List.mem_of_getElem? hx27)
    obtain ⟨id30,of30,cc30,ty30,wr30,ex30,i30,j30,l30,q30⟩:=(hv_d_shut).at (P:=Tryz.prog) (t:=40) Tryz.underlying40 tz36 hx27
    have j30:=(ga27.2 id30 l30).trans j30
    have m30_0:cc30[of30]?=some (.int .i64 x27.lo):=q30 0 (show 0<2 by decide)
    have m30_1:cc30[of30+1]?=some (.int .i64 x27.hi):=q30 1 (show 1<2 by decide)
    have w32:IntKind.i64.wrap (x27.hi+1)=x27.hi+1:=by rw [IntWalk.i64_in]; omega
    try simp (disch:=first|omega|assumption) only [E0_G,SY,off,agreeKind,ldA,aggD,aField,Nat.reduceAdd,Nat.reduceLT,Nat.reduceBEq,TY_EvH10,g27_1,g27_2,g27_12,bb27_1,h29a,i30,j30,m30_1,w32] at he
    rcases dP (ti<(x27.hi+1)) with ⟨h33a,h33⟩|⟨h33a,h33⟩
    ·try simp only [E0_G,SY,off,agreeKind,Nat.reduceAdd,Nat.reduceLT,Nat.reduceBEq,g27_6,h33a] at he
     rcases dP ((x27.hi+1)<b2) with ⟨h34a,h34⟩|⟨h34a,h34⟩
     ·obtain ⟨S35,k35,a35⟩:=c86 d (x27.hi+1) hD S27 (v_d_hours) (hv_d_hours.agree ga27) (v_d_shut) (hv_d_shut.agree ga27)
      have l35:=a35.1
      have v1_35:=(a35.2 S.next (by omega)).trans bb27_1
      have g35:Agree S S35:=ga27.trans a35
      try simp only [E0_G,SY,off,agreeKind,vals,ldA,rdCells,aggD,Nat.reduceAdd,Nat.reduceLT,Nat.reduceBEq,TY_EvH10,g27_2,bb27_1,h34a,k35] at he
      rcases dB ((r86 d (x27.hi+1))) with ⟨h36a,h36⟩|⟨h36a,h36⟩
      ·have w37:IntKind.i64.wrap (Int.tdiv (x27.hi+1) 86400)=Int.tdiv (x27.hi+1) 86400:=by have:=td_ok (t:=(x27.hi+1)) (by omega); rw [IntWalk.i64_in]; omega
       have q37:=td_ok (t:=(x27.hi+1)) (by omega)
       have w38:IntKind.i64.wrap ((Int.tdiv (x27.hi+1) 86400) * 86400)=(Int.tdiv (x27.hi+1) 86400) * 86400:=by rw [IntWalk.i64_in]; omega
       have w39:IntKind.i64.wrap (((Int.tdiv (x27.hi+1) 86400) * 86400)+86400)=((Int.tdiv (x27.hi+1) 86400) * 86400)+86400:=by rw [IntWalk.i64_in]; omega
       try simp only [E0_G,SY,off,agreeKind,Nat.reduceAdd,Nat.reduceLT,Nat.reduceBEq,Int.reduceEq,h36a,w37,w38,w39] at he
       generalize hL40:Rec.loop _ _ _ _=L40 at he
       obtain ⟨x40,t40,S40e,rfl,hQ40⟩:=loop_met hL40 (fun m t S'=>∃ (k3:Nat) (b3:Int),m+k3=d.hours.length∧0≤b3∧b3≤1073741824∧k3≤d.hours.length∧t.get 1=some (.int .i64 ti)∧t.get 2=some (.pointer (some ⟨S.next,0,none⟩))∧t.get 6=some (.int .i64 b3)∧t.get 12=some (.int .i64 (jv:Int))∧t.get 15=some (.int .i64 (((Int.tdiv (x27.hi+1) 86400) * 86400)+86400))∧t.get 16=some (.int .i64 (k3:Int))∧S'.heap.get S.next=some (.cells [v_d_hours,v_d_shut] 98 0 true true)∧Agree S S'∧S35.next≤S'.next∧R90_3 d ti jv b2 x27 (d.hours.drop k3) k3 b3=R90_3 d ti jv b2 x27 d.hours 0 (x27.hi+1))
        (fun x t S'=>x=.exit 6∧∃ (k3:Nat) (b3:Int),t.get 1=some (.int .i64 ti)∧t.get 2=some (.pointer (some ⟨S.next,0,none⟩))∧t.get 6=some (.int .i64 b3)∧t.get 12=some (.int .i64 (jv:Int))∧S'.heap.get S.next=some (.cells [v_d_hours,v_d_shut] 98 0 true true)∧Agree S S'∧S35.next≤S'.next∧0≤b3∧b3≤1073741824∧k3≤d.hours.length∧R90_3 d ti jv b2 x27 d.hours 0 (x27.hi+1)=b3) (d.hours.length - 0) (by refine ⟨0,x27.hi+1,?_,?_,?_,?_,?_,?_,?_,?_,?_,?_,v1_35,g35,Nat.le_refl _,rfl⟩<;>first|(simp only [SY,eq_self,Nat.reduceBEq,g27_1,g27_2,g27_6,g27_12]<;>rfl)|omega|assumption|(simp; omega)|simp) (by
         rintro m t S40 ⟨k3,b3,hi40_0,hi40_1,hi40_2,hi40_3,g40_1,g40_2,g40_6,g40_12,g40_15,g40_16,bb40_1,ga40,gn40,hd40⟩
         refine .run fun z he=>?_
         have w41:=(hv_d_hours.agree ga40).len (P:=Tryz.prog) (t:=40) Tryz.underlying40
         try simp (disch:=first|omega|assumption) only [E0_G,SY,off,agreeKind,ldA,aggD,aField,Nat.reduceAdd,Nat.reduceLT,Nat.reduceBEq,TY_EvH10,g40_2,g40_16,bb40_1,w41] at he
         rcases dP ((k3:Int)<(d.hours.length:Int)) with ⟨h42a,h42⟩|⟨h42a,h42⟩
         ·try simp only [E0_G,SY,off,agreeKind,Nat.reduceLT,h42a] at he
          generalize hL43:Rec.loop _ _ _ _=L43 at he
          obtain ⟨x43,t43,S43e,rfl,hQ43⟩:=loop_met hL43 (fun m t S'=>∃ (j4:Nat) (b4:Int),m+j4=3∧j4≤2∧0≤b4∧b4≤1073741824∧t.get 1=some (.int .i64 ti)∧t.get 2=some (.pointer (some ⟨S.next,0,none⟩))∧t.get 6=some (.int .i64 b4)∧t.get 12=some (.int .i64 (jv:Int))∧t.get 15=some (.int .i64 (((Int.tdiv (x27.hi+1) 86400) * 86400)+86400))∧t.get 16=some (.int .i64 (k3:Int))∧t.get 17=some (.int .i64 (j4:Int))∧S'.heap.get S.next=some (.cells [v_d_hours,v_d_shut] 98 0 true true)∧Agree S S'∧S40.next≤S'.next∧R90_4 d ti jv b2 x27 k3 b3 m j4 b4=R90_4 d ti jv b2 x27 k3 b3 3 0 b3)
           (fun x t S'=>x=.exit 8∧∃ (j4:Nat) (b4:Int),t.get 1=some (.int .i64 ti)∧t.get 2=some (.pointer (some ⟨S.next,0,none⟩))∧t.get 6=some (.int .i64 b4)∧t.get 12=some (.int .i64 (jv:Int))∧t.get 15=some (.int .i64 (((Int.tdiv (x27.hi+1) 86400) * 86400)+86400))∧t.get 16=some (.int .i64 (k3:Int))∧S'.heap.get S.next=some (.cells [v_d_hours,v_d_shut] 98 0 true true)∧Agree S S'∧S40.next≤S'.next∧j4≤2∧0≤b4∧b4≤1073741824∧R90_4 d ti jv b2 x27 k3 b3 3 0 b3=b4) 3 (by refine ⟨0,b3,?_,?_,?_,?_,?_,?_,?_,?_,?_,?_,?_,bb40_1,ga40,Nat.le_refl _,rfl⟩<;>first|(simp only [SY,eq_self,Nat.reduceBEq,g40_1,g40_2,g40_6,g40_12,g40_15,g40_16]<;>rfl)|omega|assumption|(simp; omega)|simp) (by
            rintro m t S43 ⟨j4,b4,hi43_0,hi43_1,hi43_2,hi43_3,g43_1,g43_2,g43_6,g43_12,g43_15,g43_16,g43_17,bb43_1,ga43,gn43,hd43⟩
            refine .run fun z he=>?_
            try simp only [E0_G,SY,off,agreeKind,Nat.reduceAdd,Nat.reduceLT,Nat.reduceBEq,g43_17] at he
            rcases dP ((j4:Int)<2) with ⟨h44a,h44⟩|⟨h44a,h44⟩
            ·have w45:IntKind.i64.wrap ((j4:Int) * 86400)=(j4:Int) * 86400:=by rw [IntWalk.i64_in]; omega
             have w46:IntKind.i64.wrap ((((Int.tdiv (x27.hi+1) 86400) * 86400)+86400) - ((j4:Int) * 86400))=(((Int.tdiv (x27.hi+1) 86400) * 86400)+86400) - ((j4:Int) * 86400):=by rw [IntWalk.i64_in]; omega
             have hx47:d.hours[k3]?=some (lget d.hours k3):=lget_some (by first|omega|simp; omega)
             have eb48:=hD.h _ (List.mem_of_getElem? hx47)
             obtain ⟨id47,of47,cc47,ty47,wr47,ex47,i47,j47,l47,q47⟩:=(hv_d_hours).at (P:=Tryz.prog) (t:=40) Tryz.underlying40 tz36 hx47
             have j47:=(ga43.2 id47 l47).trans j47
             have m47_0:cc47[of47]?=some (.int .i64 ((lget d.hours k3).lo)):=q47 0 (show 0<2 by decide)
             have m47_1:cc47[of47+1]?=some (.int .i64 ((lget d.hours k3).hi)):=q47 1 (show 1<2 by decide)
             have w49:IntKind.i64.wrap (((((Int.tdiv (x27.hi+1) 86400) * 86400)+86400) - ((j4:Int) * 86400))+((lget d.hours k3).lo))=((((Int.tdiv (x27.hi+1) 86400) * 86400)+86400) - ((j4:Int) * 86400))+((lget d.hours k3).lo):=by rw [IntWalk.i64_in]; omega
             try simp (disch:=first|omega|assumption) only [E0_G,SY,off,agreeKind,ldA,aggD,aField,Nat.reduceAdd,Nat.reduceLT,Nat.reduceBEq,TY_EvH10,g43_1,g43_2,g43_15,g43_16,g43_17,bb43_1,h44a,w45,w46,i47,j47,m47_0,w49] at he
             rcases dP (ti<(((((Int.tdiv (x27.hi+1) 86400) * 86400)+86400) - ((j4:Int) * 86400))+((lget d.hours k3).lo))) with ⟨h50a,h50⟩|⟨h50a,h50⟩
             ·try simp only [E0_G,SY,off,agreeKind,Nat.reduceAdd,Nat.reduceLT,Nat.reduceBEq,g43_6,h50a] at he
              rcases dP ((((((Int.tdiv (x27.hi+1) 86400) * 86400)+86400) - ((j4:Int) * 86400))+((lget d.hours k3).lo))<b4) with ⟨h51a,h51⟩|⟨h51a,h51⟩
              ·obtain ⟨S52,k52,a52⟩:=c86 d (((((Int.tdiv (x27.hi+1) 86400) * 86400)+86400) - ((j4:Int) * 86400))+((lget d.hours k3).lo)) hD S43 (v_d_hours) (hv_d_hours.agree ga43) (v_d_shut) (hv_d_shut.agree ga43)
               have l52:=a52.1
               have v1_52:=(a52.2 S.next (by omega)).trans bb43_1
               have g52:Agree S S52:=ga43.trans a52
               try simp only [E0_G,SY,off,agreeKind,vals,ldA,rdCells,aggD,Nat.reduceAdd,Nat.reduceLT,Nat.reduceBEq,TY_EvH10,g43_2,bb43_1,h51a,k52] at he
               rcases dB ((r86 d (((((Int.tdiv (x27.hi+1) 86400) * 86400)+86400) - ((j4:Int) * 86400))+((lget d.hours k3).lo)))) with ⟨h53a,h53⟩|⟨h53a,h53⟩
               ·have w54:IntKind.i64.wrap ((j4:Int)+1)=((j4+1:Nat):Int):=by rw [IntWalk.i64_in]<;>omega
                try simp only [E0_G,SY,off,agreeKind,Nat.reduceAdd,Nat.reduceLT,Nat.reduceBEq,g43_17,h53a,w54] at he
                obtain ⟨m',rfl⟩:∃ m',m=m'+1:=⟨m - 1,by omega⟩
                have hf:=(show _=(R90_4 d ti jv b2 x27 k3 b3 m' (j4+1) (((((Int.tdiv (x27.hi+1) 86400) * 86400)+86400) - ((j4:Int) * 86400))+((lget d.hours k3).lo)):Int) from (if_pos h44).trans ((if_pos h50).trans ((if_pos h51).trans ((if_pos h53).trans (rfl))))).symm.trans hd43
                refine .next he m' (by omega) ⟨(j4+1),((((Int.tdiv (x27.hi+1) 86400) * 86400)+86400) - ((j4:Int) * 86400))+((lget d.hours k3).lo),?_,?_,?_,?_,?_,?_,?_,?_,?_,?_,?_,v1_52,g52,by omega,hf⟩<;>first|(simp only [SY,eq_self,Nat.reduceBEq,g43_1,g43_2,g43_6,g43_12,g43_15,g43_16,g43_17]<;>rfl)|omega|assumption|(simp; omega)|simp
               have w55:IntKind.i64.wrap ((j4:Int)+1)=((j4+1:Nat):Int):=by rw [IntWalk.i64_in]<;>omega
               try simp only [E0_G,SY,off,agreeKind,Nat.reduceAdd,Nat.reduceLT,Nat.reduceBEq,g43_17,h53a,w55] at he
               obtain ⟨m',rfl⟩:∃ m',m=m'+1:=⟨m - 1,by omega⟩
               have hf:=(show _=(R90_4 d ti jv b2 x27 k3 b3 m' (j4+1) b4:Int) from (if_pos h44).trans ((if_pos h50).trans ((if_pos h51).trans ((if_neg h53).trans (rfl))))).symm.trans hd43
               refine .next he m' (by omega) ⟨(j4+1),b4,?_,?_,?_,?_,?_,?_,?_,?_,?_,?_,?_,v1_52,g52,by omega,hf⟩<;>first|(simp only [SY,eq_self,Nat.reduceBEq,g43_1,g43_2,g43_6,g43_12,g43_15,g43_16,g43_17]<;>rfl)|omega|assumption|(simp; omega)|simp
              have w56:IntKind.i64.wrap ((j4:Int)+1)=((j4+1:Nat):Int):=by rw [IntWalk.i64_in]<;>omega
              try simp only [E0_G,SY,off,agreeKind,Nat.reduceAdd,Nat.reduceLT,Nat.reduceBEq,g43_17,h51a,w56] at he
              obtain ⟨m',rfl⟩:∃ m',m=m'+1:=⟨m - 1,by omega⟩
              have hf:=(show _=(R90_4 d ti jv b2 x27 k3 b3 m' (j4+1) b4:Int) from (if_pos h44).trans ((if_pos h50).trans ((if_neg h51).trans (rfl)))).symm.trans hd43
              refine .next he m' (by omega) ⟨(j4+1),b4,?_,?_,?_,?_,?_,?_,?_,?_,?_,?_,?_,bb43_1,ga43,by omega,hf⟩<;>first|(simp only [SY,eq_self,Nat.reduceBEq,g43_1,g43_2,g43_6,g43_12,g43_15,g43_16,g43_17]<;>rfl)|omega|assumption|(simp; omega)|simp
             have w57:IntKind.i64.wrap ((j4:Int)+1)=((j4+1:Nat):Int):=by rw [IntWalk.i64_in]<;>omega
             try simp only [E0_G,SY,off,agreeKind,Nat.reduceAdd,Nat.reduceLT,Nat.reduceBEq,g43_17,h50a,w57] at he
             obtain ⟨m',rfl⟩:∃ m',m=m'+1:=⟨m - 1,by omega⟩
             have hf:=(show _=(R90_4 d ti jv b2 x27 k3 b3 m' (j4+1) b4:Int) from (if_pos h44).trans ((if_neg h50).trans (rfl))).symm.trans hd43
             refine .next he m' (by omega) ⟨(j4+1),b4,?_,?_,?_,?_,?_,?_,?_,?_,?_,?_,?_,bb43_1,ga43,by omega,hf⟩<;>first|(simp only [SY,eq_self,Nat.reduceBEq,g43_1,g43_2,g43_6,g43_12,g43_15,g43_16,g43_17]<;>rfl)|omega|assumption|(simp; omega)|simp
            try simp only [SY,h44a] at he
            obtain ⟨m',rfl⟩:∃ m',m=m'+1:=⟨m - 1,by omega⟩
            have hf:=(show _=(b4:Int) from (if_neg h44).trans (rfl)).symm.trans hd43
            refine .exit he ⟨rfl,⟨j4,b4,?_,?_,?_,?_,?_,?_,bb43_1,ga43,by omega,?_,?_,?_,hf.symm⟩⟩<;>first|(simp only [SY,eq_self,Nat.reduceBEq,g43_1,g43_2,g43_6,g43_12,g43_15,g43_16]<;>rfl)|omega|assumption|(simp; omega)|simp)
          obtain ⟨rfl,j4,b4,ge43_1,ge43_2,ge43_6,ge43_12,ge43_15,ge43_16,be43_1,ge43,gm43,hj43_0,hj43_1,hj43_2,hR43⟩:=hQ43
          obtain rfl:b4=R90_4 d ti jv b2 x27 k3 b3 3 0 b3:=hR43.symm
          have w59:IntKind.i64.wrap ((k3:Int)+1)=((k3+1:Nat):Int):=by rw [IntWalk.i64_in]<;>omega
          try simp only [E0_G,SY,off,agreeKind,eq_self,if_true,Nat.reduceAdd,Nat.reduceLT,Nat.reduceBEq,ge43_16,w59] at he
          rw [drop_cons' (List.getElem?_eq_getElem (show k3<_ by omega))] at hd40
          have hf:=(show _=(R90_3 d ti jv b2 x27 (d.hours.drop (k3+1)) (k3+1) (R90_4 d ti jv b2 x27 k3 b3 3 0 b3):Int) from rfl).symm.trans hd40
          refine .next he (m - 1) (by omega) ⟨(k3+1),R90_4 d ti jv b2 x27 k3 b3 3 0 b3,?_,?_,?_,?_,?_,?_,?_,?_,?_,?_,be43_1,ge43,by omega,hf⟩<;>first|(simp only [SY,eq_self,Nat.reduceBEq,ge43_1,ge43_2,ge43_6,ge43_12,ge43_15,ge43_16]<;>rfl)|omega|assumption|(simp; omega)|simp
         try simp only [SY,h42a] at he
         rw [List.drop_eq_nil_of_le (show d.hours.length≤k3 by omega)] at hd40
         have hf:=(show _=(b3:Int) from rfl).symm.trans hd40
         refine .exit he ⟨rfl,⟨k3,b3,?_,?_,?_,?_,bb40_1,ga40,by omega,?_,?_,?_,hf.symm⟩⟩<;>first|(simp only [SY,eq_self,Nat.reduceBEq,g40_1,g40_2,g40_6,g40_12]<;>rfl)|omega|assumption|(simp; omega)|simp)
       obtain ⟨rfl,k3,b3,ge40_1,ge40_2,ge40_6,ge40_12,be40_1,ge40,gm40,hj40_0,hj40_1,hj40_2,hR40⟩:=hQ40
       obtain rfl:b3=R90_3 d ti jv b2 x27 d.hours 0 (x27.hi+1):=hR40.symm
       have w61:IntKind.i64.wrap ((jv:Int)+1)=((jv+1:Nat):Int):=by rw [IntWalk.i64_in]<;>omega
       try simp only [E0_G,SY,off,agreeKind,eq_self,if_true,Nat.reduceAdd,Nat.reduceLT,Nat.reduceBEq,ge40_12,w61] at he
       rw [drop_cons' hx27] at hd27
       have hf:=(show _=(R90_2 d ti (d.shut.drop (jv+1)) (jv+1) (R90_3 d ti jv b2 x27 d.hours 0 (x27.hi+1)):Int) from (if_pos h33).trans ((if_pos h34).trans ((if_pos h36).trans (rfl)))).symm.trans hd27
       refine .next he (m - 1) (by omega) ⟨(jv+1),R90_3 d ti jv b2 x27 d.hours 0 (x27.hi+1),?_,?_,?_,?_,?_,?_,?_,?_,be40_1,ge40,by omega,hf⟩<;>first|(simp only [SY,eq_self,Nat.reduceBEq,ge40_1,ge40_2,ge40_6,ge40_12]<;>rfl)|omega|assumption|(simp; omega)|simp
      have w62:IntKind.i64.wrap (Int.tdiv (x27.hi+1) 86400)=Int.tdiv (x27.hi+1) 86400:=by have:=td_ok (t:=(x27.hi+1)) (by omega); rw [IntWalk.i64_in]; omega
      have q62:=td_ok (t:=(x27.hi+1)) (by omega)
      have w63:IntKind.i64.wrap ((Int.tdiv (x27.hi+1) 86400) * 86400)=(Int.tdiv (x27.hi+1) 86400) * 86400:=by rw [IntWalk.i64_in]; omega
      have w64:IntKind.i64.wrap (((Int.tdiv (x27.hi+1) 86400) * 86400)+86400)=((Int.tdiv (x27.hi+1) 86400) * 86400)+86400:=by rw [IntWalk.i64_in]; omega
      try simp only [E0_G,SY,off,agreeKind,Nat.reduceAdd,Nat.reduceLT,Nat.reduceBEq,Int.reduceEq,h36a,w62,w63,w64] at he
      generalize hL65:Rec.loop _ _ _ _=L65 at he
      obtain ⟨x65,t65,S65e,rfl,hQ65⟩:=loop_met hL65 (fun m t S'=>∃ (k3:Nat) (b3:Int),m+k3=d.hours.length∧0≤b3∧b3≤1073741824∧k3≤d.hours.length∧t.get 1=some (.int .i64 ti)∧t.get 2=some (.pointer (some ⟨S.next,0,none⟩))∧t.get 6=some (.int .i64 b3)∧t.get 12=some (.int .i64 (jv:Int))∧t.get 15=some (.int .i64 (((Int.tdiv (x27.hi+1) 86400) * 86400)+86400))∧t.get 16=some (.int .i64 (k3:Int))∧S'.heap.get S.next=some (.cells [v_d_hours,v_d_shut] 98 0 true true)∧Agree S S'∧S35.next≤S'.next∧R90_3 d ti jv b2 x27 (d.hours.drop k3) k3 b3=R90_3 d ti jv b2 x27 d.hours 0 b2)
       (fun x t S'=>x=.exit 6∧∃ (k3:Nat) (b3:Int),t.get 1=some (.int .i64 ti)∧t.get 2=some (.pointer (some ⟨S.next,0,none⟩))∧t.get 6=some (.int .i64 b3)∧t.get 12=some (.int .i64 (jv:Int))∧S'.heap.get S.next=some (.cells [v_d_hours,v_d_shut] 98 0 true true)∧Agree S S'∧S35.next≤S'.next∧0≤b3∧b3≤1073741824∧k3≤d.hours.length∧R90_3 d ti jv b2 x27 d.hours 0 b2=b3) (d.hours.length - 0) (by refine ⟨0,b2,?_,?_,?_,?_,?_,?_,?_,?_,?_,?_,v1_35,g35,Nat.le_refl _,rfl⟩<;>first|(simp only [SY,eq_self,Nat.reduceBEq,g27_1,g27_2,g27_6,g27_12]<;>rfl)|omega|assumption|(simp; omega)|simp) (by
        rintro m t S65 ⟨k3,b3,hi65_0,hi65_1,hi65_2,hi65_3,g65_1,g65_2,g65_6,g65_12,g65_15,g65_16,bb65_1,ga65,gn65,hd65⟩
        refine .run fun z he=>?_
        have w66:=(hv_d_hours.agree ga65).len (P:=Tryz.prog) (t:=40) Tryz.underlying40
        try simp (disch:=first|omega|assumption) only [E0_G,SY,off,agreeKind,ldA,aggD,aField,Nat.reduceAdd,Nat.reduceLT,Nat.reduceBEq,TY_EvH10,g65_2,g65_16,bb65_1,w66] at he
        rcases dP ((k3:Int)<(d.hours.length:Int)) with ⟨h67a,h67⟩|⟨h67a,h67⟩
        ·try simp only [E0_G,SY,off,agreeKind,Nat.reduceLT,h67a] at he
         generalize hL68:Rec.loop _ _ _ _=L68 at he
         obtain ⟨x68,t68,S68e,rfl,hQ68⟩:=loop_met hL68 (fun m t S'=>∃ (j4:Nat) (b4:Int),m+j4=3∧j4≤2∧0≤b4∧b4≤1073741824∧t.get 1=some (.int .i64 ti)∧t.get 2=some (.pointer (some ⟨S.next,0,none⟩))∧t.get 6=some (.int .i64 b4)∧t.get 12=some (.int .i64 (jv:Int))∧t.get 15=some (.int .i64 (((Int.tdiv (x27.hi+1) 86400) * 86400)+86400))∧t.get 16=some (.int .i64 (k3:Int))∧t.get 17=some (.int .i64 (j4:Int))∧S'.heap.get S.next=some (.cells [v_d_hours,v_d_shut] 98 0 true true)∧Agree S S'∧S65.next≤S'.next∧R90_4 d ti jv b2 x27 k3 b3 m j4 b4=R90_4 d ti jv b2 x27 k3 b3 3 0 b3)
          (fun x t S'=>x=.exit 8∧∃ (j4:Nat) (b4:Int),t.get 1=some (.int .i64 ti)∧t.get 2=some (.pointer (some ⟨S.next,0,none⟩))∧t.get 6=some (.int .i64 b4)∧t.get 12=some (.int .i64 (jv:Int))∧t.get 15=some (.int .i64 (((Int.tdiv (x27.hi+1) 86400) * 86400)+86400))∧t.get 16=some (.int .i64 (k3:Int))∧S'.heap.get S.next=some (.cells [v_d_hours,v_d_shut] 98 0 true true)∧Agree S S'∧S65.next≤S'.next∧j4≤2∧0≤b4∧b4≤1073741824∧R90_4 d ti jv b2 x27 k3 b3 3 0 b3=b4) 3 (by refine ⟨0,b3,?_,?_,?_,?_,?_,?_,?_,?_,?_,?_,?_,bb65_1,ga65,Nat.le_refl _,rfl⟩<;>first|(simp only [SY,eq_self,Nat.reduceBEq,g65_1,g65_2,g65_6,g65_12,g65_15,g65_16]<;>rfl)|omega|assumption|(simp; omega)|simp) (by
           rintro m t S68 ⟨j4,b4,hi68_0,hi68_1,hi68_2,hi68_3,g68_1,g68_2,g68_6,g68_12,g68_15,g68_16,g68_17,bb68_1,ga68,gn68,hd68⟩
           refine .run fun z he=>?_
           try simp only [E0_G,SY,off,agreeKind,Nat.reduceAdd,Nat.reduceLT,Nat.reduceBEq,g68_17] at he
           rcases dP ((j4:Int)<2) with ⟨h69a,h69⟩|⟨h69a,h69⟩
           ·have w70:IntKind.i64.wrap ((j4:Int) * 86400)=(j4:Int) * 86400:=by rw [IntWalk.i64_in]; omega
            have w71:IntKind.i64.wrap ((((Int.tdiv (x27.hi+1) 86400) * 86400)+86400) - ((j4:Int) * 86400))=(((Int.tdiv (x27.hi+1) 86400) * 86400)+86400) - ((j4:Int) * 86400):=by rw [IntWalk.i64_in]; omega
            have hx72:d.hours[k3]?=some (lget d.hours k3):=lget_some (by first|omega|simp; omega)
            have eb73:=hD.h _ (List.mem_of_getElem? hx72)
            obtain ⟨id72,of72,cc72,ty72,wr72,ex72,i72,j72,l72,q72⟩:=(hv_d_hours).at (P:=Tryz.prog) (t:=40) Tryz.underlying40 tz36 hx72
            have j72:=(ga68.2 id72 l72).trans j72
            have m72_0:cc72[of72]?=some (.int .i64 ((lget d.hours k3).lo)):=q72 0 (show 0<2 by decide)
            have m72_1:cc72[of72+1]?=some (.int .i64 ((lget d.hours k3).hi)):=q72 1 (show 1<2 by decide)
            have w74:IntKind.i64.wrap (((((Int.tdiv (x27.hi+1) 86400) * 86400)+86400) - ((j4:Int) * 86400))+((lget d.hours k3).lo))=((((Int.tdiv (x27.hi+1) 86400) * 86400)+86400) - ((j4:Int) * 86400))+((lget d.hours k3).lo):=by rw [IntWalk.i64_in]; omega
            try simp (disch:=first|omega|assumption) only [E0_G,SY,off,agreeKind,ldA,aggD,aField,Nat.reduceAdd,Nat.reduceLT,Nat.reduceBEq,TY_EvH10,g68_1,g68_2,g68_15,g68_16,g68_17,bb68_1,h69a,w70,w71,i72,j72,m72_0,w74] at he
            rcases dP (ti<(((((Int.tdiv (x27.hi+1) 86400) * 86400)+86400) - ((j4:Int) * 86400))+((lget d.hours k3).lo))) with ⟨h75a,h75⟩|⟨h75a,h75⟩
            ·try simp only [E0_G,SY,off,agreeKind,Nat.reduceAdd,Nat.reduceLT,Nat.reduceBEq,g68_6,h75a] at he
             rcases dP ((((((Int.tdiv (x27.hi+1) 86400) * 86400)+86400) - ((j4:Int) * 86400))+((lget d.hours k3).lo))<b4) with ⟨h76a,h76⟩|⟨h76a,h76⟩
             ·obtain ⟨S77,k77,a77⟩:=c86 d (((((Int.tdiv (x27.hi+1) 86400) * 86400)+86400) - ((j4:Int) * 86400))+((lget d.hours k3).lo)) hD S68 (v_d_hours) (hv_d_hours.agree ga68) (v_d_shut) (hv_d_shut.agree ga68)
              have l77:=a77.1
              have v1_77:=(a77.2 S.next (by omega)).trans bb68_1
              have g77:Agree S S77:=ga68.trans a77
              try simp only [E0_G,SY,off,agreeKind,vals,ldA,rdCells,aggD,Nat.reduceAdd,Nat.reduceLT,Nat.reduceBEq,TY_EvH10,g68_2,bb68_1,h76a,k77] at he
              rcases dB ((r86 d (((((Int.tdiv (x27.hi+1) 86400) * 86400)+86400) - ((j4:Int) * 86400))+((lget d.hours k3).lo)))) with ⟨h78a,h78⟩|⟨h78a,h78⟩
              ·have w79:IntKind.i64.wrap ((j4:Int)+1)=((j4+1:Nat):Int):=by rw [IntWalk.i64_in]<;>omega
               try simp only [E0_G,SY,off,agreeKind,Nat.reduceAdd,Nat.reduceLT,Nat.reduceBEq,g68_17,h78a,w79] at he
               obtain ⟨m',rfl⟩:∃ m',m=m'+1:=⟨m - 1,by omega⟩
               have hf:=(show _=(R90_4 d ti jv b2 x27 k3 b3 m' (j4+1) (((((Int.tdiv (x27.hi+1) 86400) * 86400)+86400) - ((j4:Int) * 86400))+((lget d.hours k3).lo)):Int) from (if_pos h69).trans ((if_pos h75).trans ((if_pos h76).trans ((if_pos h78).trans (rfl))))).symm.trans hd68
               refine .next he m' (by omega) ⟨(j4+1),((((Int.tdiv (x27.hi+1) 86400) * 86400)+86400) - ((j4:Int) * 86400))+((lget d.hours k3).lo),?_,?_,?_,?_,?_,?_,?_,?_,?_,?_,?_,v1_77,g77,by omega,hf⟩<;>first|(simp only [SY,eq_self,Nat.reduceBEq,g68_1,g68_2,g68_6,g68_12,g68_15,g68_16,g68_17]<;>rfl)|omega|assumption|(simp; omega)|simp
              have w80:IntKind.i64.wrap ((j4:Int)+1)=((j4+1:Nat):Int):=by rw [IntWalk.i64_in]<;>omega
              try simp only [E0_G,SY,off,agreeKind,Nat.reduceAdd,Nat.reduceLT,Nat.reduceBEq,g68_17,h78a,w80] at he
              obtain ⟨m',rfl⟩:∃ m',m=m'+1:=⟨m - 1,by omega⟩
              have hf:=(show _=(R90_4 d ti jv b2 x27 k3 b3 m' (j4+1) b4:Int) from (if_pos h69).trans ((if_pos h75).trans ((if_pos h76).trans ((if_neg h78).trans (rfl))))).symm.trans hd68
              refine .next he m' (by omega) ⟨(j4+1),b4,?_,?_,?_,?_,?_,?_,?_,?_,?_,?_,?_,v1_77,g77,by omega,hf⟩<;>first|(simp only [SY,eq_self,Nat.reduceBEq,g68_1,g68_2,g68_6,g68_12,g68_15,g68_16,g68_17]<;>rfl)|omega|assumption|(simp; omega)|simp
             have w81:IntKind.i64.wrap ((j4:Int)+1)=((j4+1:Nat):Int):=by rw [IntWalk.i64_in]<;>omega
             try simp only [E0_G,SY,off,agreeKind,Nat.reduceAdd,Nat.reduceLT,Nat.reduceBEq,g68_17,h76a,w81] at he
             obtain ⟨m',rfl⟩:∃ m',m=m'+1:=⟨m - 1,by omega⟩
             have hf:=(show _=(R90_4 d ti jv b2 x27 k3 b3 m' (j4+1) b4:Int) from (if_pos h69).trans ((if_pos h75).trans ((if_neg h76).trans (rfl)))).symm.trans hd68
             refine .next he m' (by omega) ⟨(j4+1),b4,?_,?_,?_,?_,?_,?_,?_,?_,?_,?_,?_,bb68_1,ga68,by omega,hf⟩<;>first|(simp only [SY,eq_self,Nat.reduceBEq,g68_1,g68_2,g68_6,g68_12,g68_15,g68_16,g68_17]<;>rfl)|omega|assumption|(simp; omega)|simp
            have w82:IntKind.i64.wrap ((j4:Int)+1)=((j4+1:Nat):Int):=by rw [IntWalk.i64_in]<;>omega
            try simp only [E0_G,SY,off,agreeKind,Nat.reduceAdd,Nat.reduceLT,Nat.reduceBEq,g68_17,h75a,w82] at he
            obtain ⟨m',rfl⟩:∃ m',m=m'+1:=⟨m - 1,by omega⟩
            have hf:=(show _=(R90_4 d ti jv b2 x27 k3 b3 m' (j4+1) b4:Int) from (if_pos h69).trans ((if_neg h75).trans (rfl))).symm.trans hd68
            refine .next he m' (by omega) ⟨(j4+1),b4,?_,?_,?_,?_,?_,?_,?_,?_,?_,?_,?_,bb68_1,ga68,by omega,hf⟩<;>first|(simp only [SY,eq_self,Nat.reduceBEq,g68_1,g68_2,g68_6,g68_12,g68_15,g68_16,g68_17]<;>rfl)|omega|assumption|(simp; omega)|simp
           try simp only [SY,h69a] at he
           obtain ⟨m',rfl⟩:∃ m',m=m'+1:=⟨m - 1,by omega⟩
           have hf:=(show _=(b4:Int) from (if_neg h69).trans (rfl)).symm.trans hd68
           refine .exit he ⟨rfl,⟨j4,b4,?_,?_,?_,?_,?_,?_,bb68_1,ga68,by omega,?_,?_,?_,hf.symm⟩⟩<;>first|(simp only [SY,eq_self,Nat.reduceBEq,g68_1,g68_2,g68_6,g68_12,g68_15,g68_16]<;>rfl)|omega|assumption|(simp; omega)|simp)
         obtain ⟨rfl,j4,b4,ge68_1,ge68_2,ge68_6,ge68_12,ge68_15,ge68_16,be68_1,ge68,gm68,hj68_0,hj68_1,hj68_2,hR68⟩:=hQ68
         obtain rfl:b4=R90_4 d ti jv b2 x27 k3 b3 3 0 b3:=hR68.symm
         have w84:IntKind.i64.wrap ((k3:Int)+1)=((k3+1:Nat):Int):=by rw [IntWalk.i64_in]<;>omega
         try simp only [E0_G,SY,off,agreeKind,eq_self,if_true,Nat.reduceAdd,Nat.reduceLT,Nat.reduceBEq,ge68_16,w84] at he
         rw [drop_cons' (List.getElem?_eq_getElem (show k3<_ by omega))] at hd65
         have hf:=(show _=(R90_3 d ti jv b2 x27 (d.hours.drop (k3+1)) (k3+1) (R90_4 d ti jv b2 x27 k3 b3 3 0 b3):Int) from rfl).symm.trans hd65
         refine .next he (m - 1) (by omega) ⟨(k3+1),R90_4 d ti jv b2 x27 k3 b3 3 0 b3,?_,?_,?_,?_,?_,?_,?_,?_,?_,?_,be68_1,ge68,by omega,hf⟩<;>first|(simp only [SY,eq_self,Nat.reduceBEq,ge68_1,ge68_2,ge68_6,ge68_12,ge68_15,ge68_16]<;>rfl)|omega|assumption|(simp; omega)|simp
        try simp only [SY,h67a] at he
        rw [List.drop_eq_nil_of_le (show d.hours.length≤k3 by omega)] at hd65
        have hf:=(show _=(b3:Int) from rfl).symm.trans hd65
        refine .exit he ⟨rfl,⟨k3,b3,?_,?_,?_,?_,bb65_1,ga65,by omega,?_,?_,?_,hf.symm⟩⟩<;>first|(simp only [SY,eq_self,Nat.reduceBEq,g65_1,g65_2,g65_6,g65_12]<;>rfl)|omega|assumption|(simp; omega)|simp)
      obtain ⟨rfl,k3,b3,ge65_1,ge65_2,ge65_6,ge65_12,be65_1,ge65,gm65,hj65_0,hj65_1,hj65_2,hR65⟩:=hQ65
      obtain rfl:b3=R90_3 d ti jv b2 x27 d.hours 0 b2:=hR65.symm
      have w86:IntKind.i64.wrap ((jv:Int)+1)=((jv+1:Nat):Int):=by rw [IntWalk.i64_in]<;>omega
      try simp only [E0_G,SY,off,agreeKind,eq_self,if_true,Nat.reduceAdd,Nat.reduceLT,Nat.reduceBEq,ge65_12,w86] at he
      rw [drop_cons' hx27] at hd27
      have hf:=(show _=(R90_2 d ti (d.shut.drop (jv+1)) (jv+1) (R90_3 d ti jv b2 x27 d.hours 0 b2):Int) from (if_pos h33).trans ((if_pos h34).trans ((if_neg h36).trans (rfl)))).symm.trans hd27
      refine .next he (m - 1) (by omega) ⟨(jv+1),R90_3 d ti jv b2 x27 d.hours 0 b2,?_,?_,?_,?_,?_,?_,?_,?_,be65_1,ge65,by omega,hf⟩<;>first|(simp only [SY,eq_self,Nat.reduceBEq,ge65_1,ge65_2,ge65_6,ge65_12]<;>rfl)|omega|assumption|(simp; omega)|simp
     have w87:IntKind.i64.wrap (Int.tdiv (x27.hi+1) 86400)=Int.tdiv (x27.hi+1) 86400:=by have:=td_ok (t:=(x27.hi+1)) (by omega); rw [IntWalk.i64_in]; omega
     have q87:=td_ok (t:=(x27.hi+1)) (by omega)
     have w88:IntKind.i64.wrap ((Int.tdiv (x27.hi+1) 86400) * 86400)=(Int.tdiv (x27.hi+1) 86400) * 86400:=by rw [IntWalk.i64_in]; omega
     have w89:IntKind.i64.wrap (((Int.tdiv (x27.hi+1) 86400) * 86400)+86400)=((Int.tdiv (x27.hi+1) 86400) * 86400)+86400:=by rw [IntWalk.i64_in]; omega
     try simp only [E0_G,SY,off,agreeKind,Nat.reduceAdd,Nat.reduceLT,Nat.reduceBEq,Int.reduceEq,h34a,w87,w88,w89] at he
     generalize hL90:Rec.loop _ _ _ _=L90 at he
     obtain ⟨x90,t90,S90e,rfl,hQ90⟩:=loop_met hL90 (fun m t S'=>∃ (k3:Nat) (b3:Int),m+k3=d.hours.length∧0≤b3∧b3≤1073741824∧k3≤d.hours.length∧t.get 1=some (.int .i64 ti)∧t.get 2=some (.pointer (some ⟨S.next,0,none⟩))∧t.get 6=some (.int .i64 b3)∧t.get 12=some (.int .i64 (jv:Int))∧t.get 15=some (.int .i64 (((Int.tdiv (x27.hi+1) 86400) * 86400)+86400))∧t.get 16=some (.int .i64 (k3:Int))∧S'.heap.get S.next=some (.cells [v_d_hours,v_d_shut] 98 0 true true)∧Agree S S'∧S27.next≤S'.next∧R90_3 d ti jv b2 x27 (d.hours.drop k3) k3 b3=R90_3 d ti jv b2 x27 d.hours 0 b2)
      (fun x t S'=>x=.exit 6∧∃ (k3:Nat) (b3:Int),t.get 1=some (.int .i64 ti)∧t.get 2=some (.pointer (some ⟨S.next,0,none⟩))∧t.get 6=some (.int .i64 b3)∧t.get 12=some (.int .i64 (jv:Int))∧S'.heap.get S.next=some (.cells [v_d_hours,v_d_shut] 98 0 true true)∧Agree S S'∧S27.next≤S'.next∧0≤b3∧b3≤1073741824∧k3≤d.hours.length∧R90_3 d ti jv b2 x27 d.hours 0 b2=b3) (d.hours.length - 0) (by refine ⟨0,b2,?_,?_,?_,?_,?_,?_,?_,?_,?_,?_,bb27_1,ga27,Nat.le_refl _,rfl⟩<;>first|(simp only [SY,eq_self,Nat.reduceBEq,g27_1,g27_2,g27_6,g27_12]<;>rfl)|omega|assumption|(simp; omega)|simp) (by
       rintro m t S90 ⟨k3,b3,hi90_0,hi90_1,hi90_2,hi90_3,g90_1,g90_2,g90_6,g90_12,g90_15,g90_16,bb90_1,ga90,gn90,hd90⟩
       refine .run fun z he=>?_
       have w91:=(hv_d_hours.agree ga90).len (P:=Tryz.prog) (t:=40) Tryz.underlying40
       try simp (disch:=first|omega|assumption) only [E0_G,SY,off,agreeKind,ldA,aggD,aField,Nat.reduceAdd,Nat.reduceLT,Nat.reduceBEq,TY_EvH10,g90_2,g90_16,bb90_1,w91] at he
       rcases dP ((k3:Int)<(d.hours.length:Int)) with ⟨h92a,h92⟩|⟨h92a,h92⟩
       ·try simp only [E0_G,SY,off,agreeKind,Nat.reduceLT,h92a] at he
        generalize hL93:Rec.loop _ _ _ _=L93 at he
        obtain ⟨x93,t93,S93e,rfl,hQ93⟩:=loop_met hL93 (fun m t S'=>∃ (j4:Nat) (b4:Int),m+j4=3∧j4≤2∧0≤b4∧b4≤1073741824∧t.get 1=some (.int .i64 ti)∧t.get 2=some (.pointer (some ⟨S.next,0,none⟩))∧t.get 6=some (.int .i64 b4)∧t.get 12=some (.int .i64 (jv:Int))∧t.get 15=some (.int .i64 (((Int.tdiv (x27.hi+1) 86400) * 86400)+86400))∧t.get 16=some (.int .i64 (k3:Int))∧t.get 17=some (.int .i64 (j4:Int))∧S'.heap.get S.next=some (.cells [v_d_hours,v_d_shut] 98 0 true true)∧Agree S S'∧S90.next≤S'.next∧R90_4 d ti jv b2 x27 k3 b3 m j4 b4=R90_4 d ti jv b2 x27 k3 b3 3 0 b3)
         (fun x t S'=>x=.exit 8∧∃ (j4:Nat) (b4:Int),t.get 1=some (.int .i64 ti)∧t.get 2=some (.pointer (some ⟨S.next,0,none⟩))∧t.get 6=some (.int .i64 b4)∧t.get 12=some (.int .i64 (jv:Int))∧t.get 15=some (.int .i64 (((Int.tdiv (x27.hi+1) 86400) * 86400)+86400))∧t.get 16=some (.int .i64 (k3:Int))∧S'.heap.get S.next=some (.cells [v_d_hours,v_d_shut] 98 0 true true)∧Agree S S'∧S90.next≤S'.next∧j4≤2∧0≤b4∧b4≤1073741824∧R90_4 d ti jv b2 x27 k3 b3 3 0 b3=b4) 3 (by refine ⟨0,b3,?_,?_,?_,?_,?_,?_,?_,?_,?_,?_,?_,bb90_1,ga90,Nat.le_refl _,rfl⟩<;>first|(simp only [SY,eq_self,Nat.reduceBEq,g90_1,g90_2,g90_6,g90_12,g90_15,g90_16]<;>rfl)|omega|assumption|(simp; omega)|simp) (by
          rintro m t S93 ⟨j4,b4,hi93_0,hi93_1,hi93_2,hi93_3,g93_1,g93_2,g93_6,g93_12,g93_15,g93_16,g93_17,bb93_1,ga93,gn93,hd93⟩
          refine .run fun z he=>?_
          try simp only [E0_G,SY,off,agreeKind,Nat.reduceAdd,Nat.reduceLT,Nat.reduceBEq,g93_17] at he
          rcases dP ((j4:Int)<2) with ⟨h94a,h94⟩|⟨h94a,h94⟩
          ·have w95:IntKind.i64.wrap ((j4:Int) * 86400)=(j4:Int) * 86400:=by rw [IntWalk.i64_in]; omega
           have w96:IntKind.i64.wrap ((((Int.tdiv (x27.hi+1) 86400) * 86400)+86400) - ((j4:Int) * 86400))=(((Int.tdiv (x27.hi+1) 86400) * 86400)+86400) - ((j4:Int) * 86400):=by rw [IntWalk.i64_in]; omega
           have hx97:d.hours[k3]?=some (lget d.hours k3):=lget_some (by first|omega|simp; omega)
           have eb98:=hD.h _ (List.mem_of_getElem? hx97)
           obtain ⟨id97,of97,cc97,ty97,wr97,ex97,i97,j97,l97,q97⟩:=(hv_d_hours).at (P:=Tryz.prog) (t:=40) Tryz.underlying40 tz36 hx97
           have j97:=(ga93.2 id97 l97).trans j97
           have m97_0:cc97[of97]?=some (.int .i64 ((lget d.hours k3).lo)):=q97 0 (show 0<2 by decide)
           have m97_1:cc97[of97+1]?=some (.int .i64 ((lget d.hours k3).hi)):=q97 1 (show 1<2 by decide)
           have w99:IntKind.i64.wrap (((((Int.tdiv (x27.hi+1) 86400) * 86400)+86400) - ((j4:Int) * 86400))+((lget d.hours k3).lo))=((((Int.tdiv (x27.hi+1) 86400) * 86400)+86400) - ((j4:Int) * 86400))+((lget d.hours k3).lo):=by rw [IntWalk.i64_in]; omega
           try simp (disch:=first|omega|assumption) only [E0_G,SY,off,agreeKind,ldA,aggD,aField,Nat.reduceAdd,Nat.reduceLT,Nat.reduceBEq,TY_EvH10,g93_1,g93_2,g93_15,g93_16,g93_17,bb93_1,h94a,w95,w96,i97,j97,m97_0,w99] at he
           rcases dP (ti<(((((Int.tdiv (x27.hi+1) 86400) * 86400)+86400) - ((j4:Int) * 86400))+((lget d.hours k3).lo))) with ⟨h100a,h100⟩|⟨h100a,h100⟩
           ·try simp only [E0_G,SY,off,agreeKind,Nat.reduceAdd,Nat.reduceLT,Nat.reduceBEq,g93_6,h100a] at he
            rcases dP ((((((Int.tdiv (x27.hi+1) 86400) * 86400)+86400) - ((j4:Int) * 86400))+((lget d.hours k3).lo))<b4) with ⟨h101a,h101⟩|⟨h101a,h101⟩
            ·obtain ⟨S102,k102,a102⟩:=c86 d (((((Int.tdiv (x27.hi+1) 86400) * 86400)+86400) - ((j4:Int) * 86400))+((lget d.hours k3).lo)) hD S93 (v_d_hours) (hv_d_hours.agree ga93) (v_d_shut) (hv_d_shut.agree ga93)
             have l102:=a102.1
             have v1_102:=(a102.2 S.next (by omega)).trans bb93_1
             have g102:Agree S S102:=ga93.trans a102
             try simp only [E0_G,SY,off,agreeKind,vals,ldA,rdCells,aggD,Nat.reduceAdd,Nat.reduceLT,Nat.reduceBEq,TY_EvH10,g93_2,bb93_1,h101a,k102] at he
             rcases dB ((r86 d (((((Int.tdiv (x27.hi+1) 86400) * 86400)+86400) - ((j4:Int) * 86400))+((lget d.hours k3).lo)))) with ⟨h103a,h103⟩|⟨h103a,h103⟩
             ·have w104:IntKind.i64.wrap ((j4:Int)+1)=((j4+1:Nat):Int):=by rw [IntWalk.i64_in]<;>omega
              try simp only [E0_G,SY,off,agreeKind,Nat.reduceAdd,Nat.reduceLT,Nat.reduceBEq,g93_17,h103a,w104] at he
              obtain ⟨m',rfl⟩:∃ m',m=m'+1:=⟨m - 1,by omega⟩
              have hf:=(show _=(R90_4 d ti jv b2 x27 k3 b3 m' (j4+1) (((((Int.tdiv (x27.hi+1) 86400) * 86400)+86400) - ((j4:Int) * 86400))+((lget d.hours k3).lo)):Int) from (if_pos h94).trans ((if_pos h100).trans ((if_pos h101).trans ((if_pos h103).trans (rfl))))).symm.trans hd93
              refine .next he m' (by omega) ⟨(j4+1),((((Int.tdiv (x27.hi+1) 86400) * 86400)+86400) - ((j4:Int) * 86400))+((lget d.hours k3).lo),?_,?_,?_,?_,?_,?_,?_,?_,?_,?_,?_,v1_102,g102,by omega,hf⟩<;>first|(simp only [SY,eq_self,Nat.reduceBEq,g93_1,g93_2,g93_6,g93_12,g93_15,g93_16,g93_17]<;>rfl)|omega|assumption|(simp; omega)|simp
             have w105:IntKind.i64.wrap ((j4:Int)+1)=((j4+1:Nat):Int):=by rw [IntWalk.i64_in]<;>omega
             try simp only [E0_G,SY,off,agreeKind,Nat.reduceAdd,Nat.reduceLT,Nat.reduceBEq,g93_17,h103a,w105] at he
             obtain ⟨m',rfl⟩:∃ m',m=m'+1:=⟨m - 1,by omega⟩
             have hf:=(show _=(R90_4 d ti jv b2 x27 k3 b3 m' (j4+1) b4:Int) from (if_pos h94).trans ((if_pos h100).trans ((if_pos h101).trans ((if_neg h103).trans (rfl))))).symm.trans hd93
             refine .next he m' (by omega) ⟨(j4+1),b4,?_,?_,?_,?_,?_,?_,?_,?_,?_,?_,?_,v1_102,g102,by omega,hf⟩<;>first|(simp only [SY,eq_self,Nat.reduceBEq,g93_1,g93_2,g93_6,g93_12,g93_15,g93_16,g93_17]<;>rfl)|omega|assumption|(simp; omega)|simp
            have w106:IntKind.i64.wrap ((j4:Int)+1)=((j4+1:Nat):Int):=by rw [IntWalk.i64_in]<;>omega
            try simp only [E0_G,SY,off,agreeKind,Nat.reduceAdd,Nat.reduceLT,Nat.reduceBEq,g93_17,h101a,w106] at he
            obtain ⟨m',rfl⟩:∃ m',m=m'+1:=⟨m - 1,by omega⟩
            have hf:=(show _=(R90_4 d ti jv b2 x27 k3 b3 m' (j4+1) b4:Int) from (if_pos h94).trans ((if_pos h100).trans ((if_neg h101).trans (rfl)))).symm.trans hd93
            refine .next he m' (by omega) ⟨(j4+1),b4,?_,?_,?_,?_,?_,?_,?_,?_,?_,?_,?_,bb93_1,ga93,by omega,hf⟩<;>first|(simp only [SY,eq_self,Nat.reduceBEq,g93_1,g93_2,g93_6,g93_12,g93_15,g93_16,g93_17]<;>rfl)|omega|assumption|(simp; omega)|simp
           have w107:IntKind.i64.wrap ((j4:Int)+1)=((j4+1:Nat):Int):=by rw [IntWalk.i64_in]<;>omega
           try simp only [E0_G,SY,off,agreeKind,Nat.reduceAdd,Nat.reduceLT,Nat.reduceBEq,g93_17,h100a,w107] at he
           obtain ⟨m',rfl⟩:∃ m',m=m'+1:=⟨m - 1,by omega⟩
           have hf:=(show _=(R90_4 d ti jv b2 x27 k3 b3 m' (j4+1) b4:Int) from (if_pos h94).trans ((if_neg h100).trans (rfl))).symm.trans hd93
           refine .next he m' (by omega) ⟨(j4+1),b4,?_,?_,?_,?_,?_,?_,?_,?_,?_,?_,?_,bb93_1,ga93,by omega,hf⟩<;>first|(simp only [SY,eq_self,Nat.reduceBEq,g93_1,g93_2,g93_6,g93_12,g93_15,g93_16,g93_17]<;>rfl)|omega|assumption|(simp; omega)|simp
          try simp only [SY,h94a] at he
          obtain ⟨m',rfl⟩:∃ m',m=m'+1:=⟨m - 1,by omega⟩
          have hf:=(show _=(b4:Int) from (if_neg h94).trans (rfl)).symm.trans hd93
          refine .exit he ⟨rfl,⟨j4,b4,?_,?_,?_,?_,?_,?_,bb93_1,ga93,by omega,?_,?_,?_,hf.symm⟩⟩<;>first|(simp only [SY,eq_self,Nat.reduceBEq,g93_1,g93_2,g93_6,g93_12,g93_15,g93_16]<;>rfl)|omega|assumption|(simp; omega)|simp)
        obtain ⟨rfl,j4,b4,ge93_1,ge93_2,ge93_6,ge93_12,ge93_15,ge93_16,be93_1,ge93,gm93,hj93_0,hj93_1,hj93_2,hR93⟩:=hQ93
        obtain rfl:b4=R90_4 d ti jv b2 x27 k3 b3 3 0 b3:=hR93.symm
        have w109:IntKind.i64.wrap ((k3:Int)+1)=((k3+1:Nat):Int):=by rw [IntWalk.i64_in]<;>omega
        try simp only [E0_G,SY,off,agreeKind,eq_self,if_true,Nat.reduceAdd,Nat.reduceLT,Nat.reduceBEq,ge93_16,w109] at he
        rw [drop_cons' (List.getElem?_eq_getElem (show k3<_ by omega))] at hd90
        have hf:=(show _=(R90_3 d ti jv b2 x27 (d.hours.drop (k3+1)) (k3+1) (R90_4 d ti jv b2 x27 k3 b3 3 0 b3):Int) from rfl).symm.trans hd90
        refine .next he (m - 1) (by omega) ⟨(k3+1),R90_4 d ti jv b2 x27 k3 b3 3 0 b3,?_,?_,?_,?_,?_,?_,?_,?_,?_,?_,be93_1,ge93,by omega,hf⟩<;>first|(simp only [SY,eq_self,Nat.reduceBEq,ge93_1,ge93_2,ge93_6,ge93_12,ge93_15,ge93_16]<;>rfl)|omega|assumption|(simp; omega)|simp
       try simp only [SY,h92a] at he
       rw [List.drop_eq_nil_of_le (show d.hours.length≤k3 by omega)] at hd90
       have hf:=(show _=(b3:Int) from rfl).symm.trans hd90
       refine .exit he ⟨rfl,⟨k3,b3,?_,?_,?_,?_,bb90_1,ga90,by omega,?_,?_,?_,hf.symm⟩⟩<;>first|(simp only [SY,eq_self,Nat.reduceBEq,g90_1,g90_2,g90_6,g90_12]<;>rfl)|omega|assumption|(simp; omega)|simp)
     obtain ⟨rfl,k3,b3,ge90_1,ge90_2,ge90_6,ge90_12,be90_1,ge90,gm90,hj90_0,hj90_1,hj90_2,hR90⟩:=hQ90
     obtain rfl:b3=R90_3 d ti jv b2 x27 d.hours 0 b2:=hR90.symm
     have w111:IntKind.i64.wrap ((jv:Int)+1)=((jv+1:Nat):Int):=by rw [IntWalk.i64_in]<;>omega
     try simp only [E0_G,SY,off,agreeKind,eq_self,if_true,Nat.reduceAdd,Nat.reduceLT,Nat.reduceBEq,ge90_12,w111] at he
     rw [drop_cons' hx27] at hd27
     have hf:=(show _=(R90_2 d ti (d.shut.drop (jv+1)) (jv+1) (R90_3 d ti jv b2 x27 d.hours 0 b2):Int) from (if_pos h33).trans ((if_neg h34).trans (rfl))).symm.trans hd27
     refine .next he (m - 1) (by omega) ⟨(jv+1),R90_3 d ti jv b2 x27 d.hours 0 b2,?_,?_,?_,?_,?_,?_,?_,?_,be90_1,ge90,by omega,hf⟩<;>first|(simp only [SY,eq_self,Nat.reduceBEq,ge90_1,ge90_2,ge90_6,ge90_12]<;>rfl)|omega|assumption|(simp; omega)|simp
    have w112:IntKind.i64.wrap (Int.tdiv (x27.hi+1) 86400)=Int.tdiv (x27.hi+1) 86400:=by have:=td_ok (t:=(x27.hi+1)) (by omega); rw [IntWalk.i64_in]; omega
    have q112:=td_ok (t:=(x27.hi+1)) (by omega)
    have w113:IntKind.i64.wrap ((Int.tdiv (x27.hi+1) 86400) * 86400)=(Int.tdiv (x27.hi+1) 86400) * 86400:=by rw [IntWalk.i64_in]; omega
    have w114:IntKind.i64.wrap (((Int.tdiv (x27.hi+1) 86400) * 86400)+86400)=((Int.tdiv (x27.hi+1) 86400) * 86400)+86400:=by rw [IntWalk.i64_in]; omega
    try simp only [E0_G,SY,off,agreeKind,Nat.reduceAdd,Nat.reduceLT,Nat.reduceBEq,Int.reduceEq,h33a,w112,w113,w114] at he
    generalize hL115:Rec.loop _ _ _ _=L115 at he
    obtain ⟨x115,t115,S115e,rfl,hQ115⟩:=loop_met hL115 (fun m t S'=>∃ (k3:Nat) (b3:Int),m+k3=d.hours.length∧0≤b3∧b3≤1073741824∧k3≤d.hours.length∧t.get 1=some (.int .i64 ti)∧t.get 2=some (.pointer (some ⟨S.next,0,none⟩))∧t.get 6=some (.int .i64 b3)∧t.get 12=some (.int .i64 (jv:Int))∧t.get 15=some (.int .i64 (((Int.tdiv (x27.hi+1) 86400) * 86400)+86400))∧t.get 16=some (.int .i64 (k3:Int))∧S'.heap.get S.next=some (.cells [v_d_hours,v_d_shut] 98 0 true true)∧Agree S S'∧S27.next≤S'.next∧R90_3 d ti jv b2 x27 (d.hours.drop k3) k3 b3=R90_3 d ti jv b2 x27 d.hours 0 b2)
     (fun x t S'=>x=.exit 6∧∃ (k3:Nat) (b3:Int),t.get 1=some (.int .i64 ti)∧t.get 2=some (.pointer (some ⟨S.next,0,none⟩))∧t.get 6=some (.int .i64 b3)∧t.get 12=some (.int .i64 (jv:Int))∧S'.heap.get S.next=some (.cells [v_d_hours,v_d_shut] 98 0 true true)∧Agree S S'∧S27.next≤S'.next∧0≤b3∧b3≤1073741824∧k3≤d.hours.length∧R90_3 d ti jv b2 x27 d.hours 0 b2=b3) (d.hours.length - 0) (by refine ⟨0,b2,?_,?_,?_,?_,?_,?_,?_,?_,?_,?_,bb27_1,ga27,Nat.le_refl _,rfl⟩<;>first|(simp only [SY,eq_self,Nat.reduceBEq,g27_1,g27_2,g27_6,g27_12]<;>rfl)|omega|assumption|(simp; omega)|simp) (by
      rintro m t S115 ⟨k3,b3,hi115_0,hi115_1,hi115_2,hi115_3,g115_1,g115_2,g115_6,g115_12,g115_15,g115_16,bb115_1,ga115,gn115,hd115⟩
      refine .run fun z he=>?_
      have w116:=(hv_d_hours.agree ga115).len (P:=Tryz.prog) (t:=40) Tryz.underlying40
      try simp (disch:=first|omega|assumption) only [E0_G,SY,off,agreeKind,ldA,aggD,aField,Nat.reduceAdd,Nat.reduceLT,Nat.reduceBEq,TY_EvH10,g115_2,g115_16,bb115_1,w116] at he
      rcases dP ((k3:Int)<(d.hours.length:Int)) with ⟨h117a,h117⟩|⟨h117a,h117⟩
      ·try simp only [E0_G,SY,off,agreeKind,Nat.reduceLT,h117a] at he
       generalize hL118:Rec.loop _ _ _ _=L118 at he
       obtain ⟨x118,t118,S118e,rfl,hQ118⟩:=loop_met hL118 (fun m t S'=>∃ (j4:Nat) (b4:Int),m+j4=3∧j4≤2∧0≤b4∧b4≤1073741824∧t.get 1=some (.int .i64 ti)∧t.get 2=some (.pointer (some ⟨S.next,0,none⟩))∧t.get 6=some (.int .i64 b4)∧t.get 12=some (.int .i64 (jv:Int))∧t.get 15=some (.int .i64 (((Int.tdiv (x27.hi+1) 86400) * 86400)+86400))∧t.get 16=some (.int .i64 (k3:Int))∧t.get 17=some (.int .i64 (j4:Int))∧S'.heap.get S.next=some (.cells [v_d_hours,v_d_shut] 98 0 true true)∧Agree S S'∧S115.next≤S'.next∧R90_4 d ti jv b2 x27 k3 b3 m j4 b4=R90_4 d ti jv b2 x27 k3 b3 3 0 b3)
        (fun x t S'=>x=.exit 8∧∃ (j4:Nat) (b4:Int),t.get 1=some (.int .i64 ti)∧t.get 2=some (.pointer (some ⟨S.next,0,none⟩))∧t.get 6=some (.int .i64 b4)∧t.get 12=some (.int .i64 (jv:Int))∧t.get 15=some (.int .i64 (((Int.tdiv (x27.hi+1) 86400) * 86400)+86400))∧t.get 16=some (.int .i64 (k3:Int))∧S'.heap.get S.next=some (.cells [v_d_hours,v_d_shut] 98 0 true true)∧Agree S S'∧S115.next≤S'.next∧j4≤2∧0≤b4∧b4≤1073741824∧R90_4 d ti jv b2 x27 k3 b3 3 0 b3=b4) 3 (by refine ⟨0,b3,?_,?_,?_,?_,?_,?_,?_,?_,?_,?_,?_,bb115_1,ga115,Nat.le_refl _,rfl⟩<;>first|(simp only [SY,eq_self,Nat.reduceBEq,g115_1,g115_2,g115_6,g115_12,g115_15,g115_16]<;>rfl)|omega|assumption|(simp; omega)|simp) (by
         rintro m t S118 ⟨j4,b4,hi118_0,hi118_1,hi118_2,hi118_3,g118_1,g118_2,g118_6,g118_12,g118_15,g118_16,g118_17,bb118_1,ga118,gn118,hd118⟩
         refine .run fun z he=>?_
         try simp only [E0_G,SY,off,agreeKind,Nat.reduceAdd,Nat.reduceLT,Nat.reduceBEq,g118_17] at he
         rcases dP ((j4:Int)<2) with ⟨h119a,h119⟩|⟨h119a,h119⟩
         ·have w120:IntKind.i64.wrap ((j4:Int) * 86400)=(j4:Int) * 86400:=by rw [IntWalk.i64_in]; omega
          have w121:IntKind.i64.wrap ((((Int.tdiv (x27.hi+1) 86400) * 86400)+86400) - ((j4:Int) * 86400))=(((Int.tdiv (x27.hi+1) 86400) * 86400)+86400) - ((j4:Int) * 86400):=by rw [IntWalk.i64_in]; omega
          have hx122:d.hours[k3]?=some (lget d.hours k3):=lget_some (by first|omega|simp; omega)
          have eb123:=hD.h _ (List.mem_of_getElem? hx122)
          obtain ⟨id122,of122,cc122,ty122,wr122,ex122,i122,j122,l122,q122⟩:=(hv_d_hours).at (P:=Tryz.prog) (t:=40) Tryz.underlying40 tz36 hx122
          have j122:=(ga118.2 id122 l122).trans j122
          have m122_0:cc122[of122]?=some (.int .i64 ((lget d.hours k3).lo)):=q122 0 (show 0<2 by decide)
          have m122_1:cc122[of122+1]?=some (.int .i64 ((lget d.hours k3).hi)):=q122 1 (show 1<2 by decide)
          have w124:IntKind.i64.wrap (((((Int.tdiv (x27.hi+1) 86400) * 86400)+86400) - ((j4:Int) * 86400))+((lget d.hours k3).lo))=((((Int.tdiv (x27.hi+1) 86400) * 86400)+86400) - ((j4:Int) * 86400))+((lget d.hours k3).lo):=by rw [IntWalk.i64_in]; omega
          try simp (disch:=first|omega|assumption) only [E0_G,SY,off,agreeKind,ldA,aggD,aField,Nat.reduceAdd,Nat.reduceLT,Nat.reduceBEq,TY_EvH10,g118_1,g118_2,g118_15,g118_16,g118_17,bb118_1,h119a,w120,w121,i122,j122,m122_0,w124] at he
          rcases dP (ti<(((((Int.tdiv (x27.hi+1) 86400) * 86400)+86400) - ((j4:Int) * 86400))+((lget d.hours k3).lo))) with ⟨h125a,h125⟩|⟨h125a,h125⟩
          ·try simp only [E0_G,SY,off,agreeKind,Nat.reduceAdd,Nat.reduceLT,Nat.reduceBEq,g118_6,h125a] at he
           rcases dP ((((((Int.tdiv (x27.hi+1) 86400) * 86400)+86400) - ((j4:Int) * 86400))+((lget d.hours k3).lo))<b4) with ⟨h126a,h126⟩|⟨h126a,h126⟩
           ·obtain ⟨S127,k127,a127⟩:=c86 d (((((Int.tdiv (x27.hi+1) 86400) * 86400)+86400) - ((j4:Int) * 86400))+((lget d.hours k3).lo)) hD S118 (v_d_hours) (hv_d_hours.agree ga118) (v_d_shut) (hv_d_shut.agree ga118)
            have l127:=a127.1
            have v1_127:=(a127.2 S.next (by omega)).trans bb118_1
            have g127:Agree S S127:=ga118.trans a127
            try simp only [E0_G,SY,off,agreeKind,vals,ldA,rdCells,aggD,Nat.reduceAdd,Nat.reduceLT,Nat.reduceBEq,TY_EvH10,g118_2,bb118_1,h126a,k127] at he
            rcases dB ((r86 d (((((Int.tdiv (x27.hi+1) 86400) * 86400)+86400) - ((j4:Int) * 86400))+((lget d.hours k3).lo)))) with ⟨h128a,h128⟩|⟨h128a,h128⟩
            ·have w129:IntKind.i64.wrap ((j4:Int)+1)=((j4+1:Nat):Int):=by rw [IntWalk.i64_in]<;>omega
             try simp only [E0_G,SY,off,agreeKind,Nat.reduceAdd,Nat.reduceLT,Nat.reduceBEq,g118_17,h128a,w129] at he
             obtain ⟨m',rfl⟩:∃ m',m=m'+1:=⟨m - 1,by omega⟩
             have hf:=(show _=(R90_4 d ti jv b2 x27 k3 b3 m' (j4+1) (((((Int.tdiv (x27.hi+1) 86400) * 86400)+86400) - ((j4:Int) * 86400))+((lget d.hours k3).lo)):Int) from (if_pos h119).trans ((if_pos h125).trans ((if_pos h126).trans ((if_pos h128).trans (rfl))))).symm.trans hd118
             refine .next he m' (by omega) ⟨(j4+1),((((Int.tdiv (x27.hi+1) 86400) * 86400)+86400) - ((j4:Int) * 86400))+((lget d.hours k3).lo),?_,?_,?_,?_,?_,?_,?_,?_,?_,?_,?_,v1_127,g127,by omega,hf⟩<;>first|(simp only [SY,eq_self,Nat.reduceBEq,g118_1,g118_2,g118_6,g118_12,g118_15,g118_16,g118_17]<;>rfl)|omega|assumption|(simp; omega)|simp
            have w130:IntKind.i64.wrap ((j4:Int)+1)=((j4+1:Nat):Int):=by rw [IntWalk.i64_in]<;>omega
            try simp only [E0_G,SY,off,agreeKind,Nat.reduceAdd,Nat.reduceLT,Nat.reduceBEq,g118_17,h128a,w130] at he
            obtain ⟨m',rfl⟩:∃ m',m=m'+1:=⟨m - 1,by omega⟩
            have hf:=(show _=(R90_4 d ti jv b2 x27 k3 b3 m' (j4+1) b4:Int) from (if_pos h119).trans ((if_pos h125).trans ((if_pos h126).trans ((if_neg h128).trans (rfl))))).symm.trans hd118
            refine .next he m' (by omega) ⟨(j4+1),b4,?_,?_,?_,?_,?_,?_,?_,?_,?_,?_,?_,v1_127,g127,by omega,hf⟩<;>first|(simp only [SY,eq_self,Nat.reduceBEq,g118_1,g118_2,g118_6,g118_12,g118_15,g118_16,g118_17]<;>rfl)|omega|assumption|(simp; omega)|simp
           have w131:IntKind.i64.wrap ((j4:Int)+1)=((j4+1:Nat):Int):=by rw [IntWalk.i64_in]<;>omega
           try simp only [E0_G,SY,off,agreeKind,Nat.reduceAdd,Nat.reduceLT,Nat.reduceBEq,g118_17,h126a,w131] at he
           obtain ⟨m',rfl⟩:∃ m',m=m'+1:=⟨m - 1,by omega⟩
           have hf:=(show _=(R90_4 d ti jv b2 x27 k3 b3 m' (j4+1) b4:Int) from (if_pos h119).trans ((if_pos h125).trans ((if_neg h126).trans (rfl)))).symm.trans hd118
           refine .next he m' (by omega) ⟨(j4+1),b4,?_,?_,?_,?_,?_,?_,?_,?_,?_,?_,?_,bb118_1,ga118,by omega,hf⟩<;>first|(simp only [SY,eq_self,Nat.reduceBEq,g118_1,g118_2,g118_6,g118_12,g118_15,g118_16,g118_17]<;>rfl)|omega|assumption|(simp; omega)|simp
          have w132:IntKind.i64.wrap ((j4:Int)+1)=((j4+1:Nat):Int):=by rw [IntWalk.i64_in]<;>omega
          try simp only [E0_G,SY,off,agreeKind,Nat.reduceAdd,Nat.reduceLT,Nat.reduceBEq,g118_17,h125a,w132] at he
          obtain ⟨m',rfl⟩:∃ m',m=m'+1:=⟨m - 1,by omega⟩
          have hf:=(show _=(R90_4 d ti jv b2 x27 k3 b3 m' (j4+1) b4:Int) from (if_pos h119).trans ((if_neg h125).trans (rfl))).symm.trans hd118
          refine .next he m' (by omega) ⟨(j4+1),b4,?_,?_,?_,?_,?_,?_,?_,?_,?_,?_,?_,bb118_1,ga118,by omega,hf⟩<;>first|(simp only [SY,eq_self,Nat.reduceBEq,g118_1,g118_2,g118_6,g118_12,g118_15,g118_16,g118_17]<;>rfl)|omega|assumption|(simp; omega)|simp
         try simp only [SY,h119a] at he
         obtain ⟨m',rfl⟩:∃ m',m=m'+1:=⟨m - 1,by omega⟩
         have hf:=(show _=(b4:Int) from (if_neg h119).trans (rfl)).symm.trans hd118
         refine .exit he ⟨rfl,⟨j4,b4,?_,?_,?_,?_,?_,?_,bb118_1,ga118,by omega,?_,?_,?_,hf.symm⟩⟩<;>first|(simp only [SY,eq_self,Nat.reduceBEq,g118_1,g118_2,g118_6,g118_12,g118_15,g118_16]<;>rfl)|omega|assumption|(simp; omega)|simp)
       obtain ⟨rfl,j4,b4,ge118_1,ge118_2,ge118_6,ge118_12,ge118_15,ge118_16,be118_1,ge118,gm118,hj118_0,hj118_1,hj118_2,hR118⟩:=hQ118
       obtain rfl:b4=R90_4 d ti jv b2 x27 k3 b3 3 0 b3:=hR118.symm
       have w134:IntKind.i64.wrap ((k3:Int)+1)=((k3+1:Nat):Int):=by rw [IntWalk.i64_in]<;>omega
       try simp only [E0_G,SY,off,agreeKind,eq_self,if_true,Nat.reduceAdd,Nat.reduceLT,Nat.reduceBEq,ge118_16,w134] at he
       rw [drop_cons' (List.getElem?_eq_getElem (show k3<_ by omega))] at hd115
       have hf:=(show _=(R90_3 d ti jv b2 x27 (d.hours.drop (k3+1)) (k3+1) (R90_4 d ti jv b2 x27 k3 b3 3 0 b3):Int) from rfl).symm.trans hd115
       refine .next he (m - 1) (by omega) ⟨(k3+1),R90_4 d ti jv b2 x27 k3 b3 3 0 b3,?_,?_,?_,?_,?_,?_,?_,?_,?_,?_,be118_1,ge118,by omega,hf⟩<;>first|(simp only [SY,eq_self,Nat.reduceBEq,ge118_1,ge118_2,ge118_6,ge118_12,ge118_15,ge118_16]<;>rfl)|omega|assumption|(simp; omega)|simp
      try simp only [SY,h117a] at he
      rw [List.drop_eq_nil_of_le (show d.hours.length≤k3 by omega)] at hd115
      have hf:=(show _=(b3:Int) from rfl).symm.trans hd115
      refine .exit he ⟨rfl,⟨k3,b3,?_,?_,?_,?_,bb115_1,ga115,by omega,?_,?_,?_,hf.symm⟩⟩<;>first|(simp only [SY,eq_self,Nat.reduceBEq,g115_1,g115_2,g115_6,g115_12]<;>rfl)|omega|assumption|(simp; omega)|simp)
    obtain ⟨rfl,k3,b3,ge115_1,ge115_2,ge115_6,ge115_12,be115_1,ge115,gm115,hj115_0,hj115_1,hj115_2,hR115⟩:=hQ115
    obtain rfl:b3=R90_3 d ti jv b2 x27 d.hours 0 b2:=hR115.symm
    have w136:IntKind.i64.wrap ((jv:Int)+1)=((jv+1:Nat):Int):=by rw [IntWalk.i64_in]<;>omega
    try simp only [E0_G,SY,off,agreeKind,eq_self,if_true,Nat.reduceAdd,Nat.reduceLT,Nat.reduceBEq,ge115_12,w136] at he
    rw [drop_cons' hx27] at hd27
    have hf:=(show _=(R90_2 d ti (d.shut.drop (jv+1)) (jv+1) (R90_3 d ti jv b2 x27 d.hours 0 b2):Int) from (if_neg h33).trans (rfl)).symm.trans hd27
    refine .next he (m - 1) (by omega) ⟨(jv+1),R90_3 d ti jv b2 x27 d.hours 0 b2,?_,?_,?_,?_,?_,?_,?_,?_,be115_1,ge115,by omega,hf⟩<;>first|(simp only [SY,eq_self,Nat.reduceBEq,ge115_1,ge115_2,ge115_6,ge115_12]<;>rfl)|omega|assumption|(simp; omega)|simp
   try simp only [SY,h29a] at he
   rw [List.drop_eq_nil_of_le (show d.shut.length≤jv by omega)] at hd27
   have hf:=(show _=(b2:Int) from rfl).symm.trans hd27
   refine .exit he ⟨rfl,⟨jv,b2,?_,bb27_1,ga27,by omega,?_,?_,?_,hf.symm⟩⟩<;>first|(simp only [SY,eq_self,Nat.reduceBEq,g27_6]<;>rfl)|omega|assumption|(simp; omega)|simp)
 obtain ⟨rfl,jv,b2,ge27_6,be27_1,ge27,gm27,hj27_0,hj27_1,hj27_2,hR27⟩:=hQ27
 obtain rfl:b2=R90_2 d ti d.shut 0 (R90_0 d ti 3 0 1073741824):=hR27.symm
 try simp only [E0_G,SY,off,agreeKind,eq_self,if_true,Nat.reduceAdd,Nat.reduceLT,Nat.reduceBEq,ge27_6] at hz
 have hr:r90 d ti=R90_2 d ti d.shut 0 (R90_0 d ti 3 0 1073741824):=(if_neg h3).trans (rfl)
 exact fin hz (by rw [hr]) ge27
def R92_1 (d:Dr) (ti:Int) (kv:Nat) (b0:Int):List Sp→Int→Int
 | [],b1=>b1
 | x8 :: l',b1=>(if 0≤((((Int.tdiv ti 86400) * 86400) - ((kv:Int) * 86400))+x8.hi) then (if ((((Int.tdiv ti 86400) * 86400) - ((kv:Int) * 86400))+x8.hi)<ti then (if b1<((((Int.tdiv ti 86400) * 86400) - ((kv:Int) * 86400))+x8.hi) then (if (r86 d ((((Int.tdiv ti 86400) * 86400) - ((kv:Int) * 86400))+x8.hi))=true then R92_1 d ti kv b0 l' ((((Int.tdiv ti 86400) * 86400) - ((kv:Int) * 86400))+x8.hi) else R92_1 d ti kv b0 l' b1) else R92_1 d ti kv b0 l' b1) else R92_1 d ti kv b0 l' b1) else R92_1 d ti kv b0 l' b1)
def R92_0 (d:Dr) (ti:Int)  : Nat→Nat→Int→Int
 | 0,kv,b0=>b0
 | m'+1,kv,b0=>(if (kv:Int)<2 then R92_0 d ti m' (kv+1) (R92_1 d ti kv b0 d.hours b0) else b0)
def R92_4 (d:Dr) (ti:Int) (jv:Nat) (b2:Int) (x29:Sp) (k3:Nat) (b3:Int):Nat→Nat→Int→Int
 | 0,j4,b4=>b4
 | m'+1,j4,b4=>(if (j4:Int)<2 then (if 0≤(((((Int.tdiv (x29.lo - 1) 86400) * 86400) - 86400)+((j4:Int) * 86400))+((lget d.hours k3).hi)) then (if (((((Int.tdiv (x29.lo - 1) 86400) * 86400) - 86400)+((j4:Int) * 86400))+((lget d.hours k3).hi))<ti then (if b4<(((((Int.tdiv (x29.lo - 1) 86400) * 86400) - 86400)+((j4:Int) * 86400))+((lget d.hours k3).hi)) then (if (r86 d (((((Int.tdiv (x29.lo - 1) 86400) * 86400) - 86400)+((j4:Int) * 86400))+((lget d.hours k3).hi)))=true then R92_4 d ti jv b2 x29 k3 b3 m' (j4+1) (((((Int.tdiv (x29.lo - 1) 86400) * 86400) - 86400)+((j4:Int) * 86400))+((lget d.hours k3).hi)) else R92_4 d ti jv b2 x29 k3 b3 m' (j4+1) b4) else R92_4 d ti jv b2 x29 k3 b3 m' (j4+1) b4) else R92_4 d ti jv b2 x29 k3 b3 m' (j4+1) b4) else R92_4 d ti jv b2 x29 k3 b3 m' (j4+1) b4) else b4)
def R92_3 (d:Dr) (ti:Int) (jv:Nat) (b2:Int) (x29:Sp):List Sp→Nat→Int→Int
 | [],k3,b3=>b3
 | _x :: l',k3,b3=>R92_3 d ti jv b2 x29 l' (k3+1) (R92_4 d ti jv b2 x29 k3 b3 3 0 b3)
def R92_2 (d:Dr) (ti:Int)  : List Sp→Nat→Int→Int
 | [],jv,b2=>b2
 | x29 :: l',jv,b2=>(if 0≤(x29.lo - 1) then (if (x29.lo - 1)<ti then (if b2<(x29.lo - 1) then (if (r86 d (x29.lo - 1))=true then R92_2 d ti l' (jv+1) (R92_3 d ti jv b2 x29 d.hours 0 (x29.lo - 1)) else R92_2 d ti l' (jv+1) (R92_3 d ti jv b2 x29 d.hours 0 b2)) else R92_2 d ti l' (jv+1) (R92_3 d ti jv b2 x29 d.hours 0 b2)) else R92_2 d ti l' (jv+1) (R92_3 d ti jv b2 x29 d.hours 0 b2)) else R92_2 d ti l' (jv+1) b2)
def r92 (d:Dr) (ti:Int):Int:=(if (r86 d ti)=true then ti else R92_2 d ti d.shut 0 (R92_0 d ti 3 0 (-1)))
end House
end Go.Proofs
