import Derived.Test.YtohfdkdjfoonjaaGreatDoorEvH12
set_option linter.unusedSimpArgs false
set_option linter.unusedVariables false
namespace Go.Proofs
namespace House
open Go Go.RowKit Go.Aev
set_option maxRecDepth 100000
theorem TY_EvH13:type_of% TY_EvH12:=TY_EvH12
def R95_0 (d:Dr) (ti:Int)  : List Sp→Int→Int
 | [],u0=>u0
 | x5 :: l',u0=>(if ti<(((Int.tdiv ti 86400) * 86400)+x5.lo) then (if ti≤(((Int.tdiv ti 86400) * 86400)+x5.hi) then R95_0 d ti l' (min (min u0 ((((Int.tdiv ti 86400) * 86400)+x5.lo) - 1)) (((Int.tdiv ti 86400) * 86400)+x5.hi)) else R95_0 d ti l' (min u0 ((((Int.tdiv ti 86400) * 86400)+x5.lo) - 1))) else (if ti≤(((Int.tdiv ti 86400) * 86400)+x5.hi) then R95_0 d ti l' (min u0 (((Int.tdiv ti 86400) * 86400)+x5.hi)) else R95_0 d ti l' u0))
def R95_1 (d:Dr) (ti:Int)  : List Sp→Int→Int
 | [],u1=>u1
 | x35 :: l',u1=>(if ti<x35.lo then (if ti≤x35.hi then R95_1 d ti l' (min (min u1 (x35.lo - 1)) x35.hi) else R95_1 d ti l' (min u1 (x35.lo - 1))) else (if ti≤x35.hi then R95_1 d ti l' (min u1 x35.hi) else R95_1 d ti l' u1))
def r95 (d:Dr) (ti:Int):Int:=R95_1 d ti d.shut (R95_0 d ti d.hours (((Int.tdiv ti 86400) * 86400)+86399))
set_option maxHeartbeats 4000000 in
theorem c95 (d:Dr) (ti:Int) (hD:OkD d) (ht:0≤ti∧ti≤1073741823) (S:AS) (v_d_hours:Value) (hv_d_hours:Lst S v_d_hours d.hours) (v_d_shut:Value) (hv_d_shut:Lst S v_d_shut d.shut) :
  ∃ S',(evL Tryz.prog E0).call 95 #[.agg #[v_d_hours,v_d_shut],.int .i64 ti] S=some (.int .i64 (r95 d ti),S')∧Agree S S':=by
 have hdh:=hD.hl; have hds:=hD.sl
 generalize hz:(evL Tryz.prog E0).call 95 _ _=z
 rw [L_call,evCall_said rfl Tryz.func95 rfl (by decide) Tryz.ntmps95 Tryz.results95] at hz
 obtain ⟨S1,e1,n1,b1,a1⟩:=push_open S (.cells [v_d_hours,v_d_shut] 98 0 true true)
 have g1:Agree S S1:=a1
 have w2:IntKind.i64.wrap (Int.tdiv ti 86400)=Int.tdiv ti 86400:=by have:=td_ok (t:=ti) (by omega); rw [IntWalk.i64_in]; omega
 have q2:=td_ok (t:=ti) (by omega)
 have w3:IntKind.i64.wrap ((Int.tdiv ti 86400) * 86400)=(Int.tdiv ti 86400) * 86400:=by rw [IntWalk.i64_in]; omega
 have w4:IntKind.i64.wrap (((Int.tdiv ti 86400) * 86400)+86399)=((Int.tdiv ti 86400) * 86400)+86399:=by rw [IntWalk.i64_in]; omega
 try simp (disch:=first|omega|assumption) only [E0_G,SY,setArgs,off,agreeKind,boxed,Nat.reduceAdd,Nat.reduceSub,Nat.reduceLT,Nat.reduceBEq,Int.reduceEq,e1,w2,w3,w4] at hz
 generalize hL5:Rec.loop _ _ _ _=L5 at hz
 obtain ⟨x5,t5,S5e,rfl,hQ5⟩:=loop_met hL5 (fun m t S'=>∃ (kv:Nat) (u0:Int),m+kv=d.hours.length∧ti≤u0∧u0≤1073914623∧kv≤d.hours.length∧t.get 1=some (.int .i64 ti)∧t.get 2=some (.pointer (some ⟨S.next,0,none⟩))∧t.get 5=some (.int .i64 ((Int.tdiv ti 86400) * 86400))∧t.get 6=some (.int .i64 u0)∧t.get 7=some (.int .i64 (kv:Int))∧S'.heap.get S.next=some (.cells [v_d_hours,v_d_shut] 98 0 true true)∧Agree S S'∧S1.next≤S'.next∧R95_0 d ti (d.hours.drop kv) u0=R95_0 d ti d.hours (((Int.tdiv ti 86400) * 86400)+86399))
  (fun x t S'=>x=.exit 0∧∃ (kv:Nat) (u0:Int),t.get 1=some (.int .i64 ti)∧t.get 2=some (.pointer (some ⟨S.next,0,none⟩))∧t.get 6=some (.int .i64 u0)∧S'.heap.get S.next=some (.cells [v_d_hours,v_d_shut] 98 0 true true)∧Agree S S'∧S1.next≤S'.next∧ti≤u0∧u0≤1073914623∧kv≤d.hours.length∧R95_0 d ti d.hours (((Int.tdiv ti 86400) * 86400)+86399)=u0) (d.hours.length - 0) ⟨0,((Int.tdiv ti 86400) * 86400)+86399,by first|rfl|omega|(simp; omega)|simp,by first|rfl|omega|(simp; omega)|simp,by first|rfl|omega|(simp; omega)|simp,by first|rfl|omega|(simp; omega)|simp,by simp only [SY,eq_self,Nat.reduceBEq]<;>rfl,by simp only [SY,eq_self,Nat.reduceBEq]<;>rfl,by simp only [SY,eq_self,Nat.reduceBEq]<;>rfl,by simp only [SY,eq_self,Nat.reduceBEq]<;>rfl,by simp only [SY,Nat.reduceBEq]<;>rfl,b1,g1,Nat.le_refl _,rfl⟩ (by
   rintro m t S5 ⟨kv,u0,hi5_0,hi5_1,hi5_2,hi5_3,g5_1,g5_2,g5_5,g5_6,g5_7,bb5_1,ga5,gn5,hd5⟩
   refine .run fun z he=>?_
   have w6:=(hv_d_hours.agree ga5).len (P:=Tryz.prog) (t:=40) Tryz.underlying40
   try simp (disch:=first|omega|assumption) only [E0_G,SY,off,agreeKind,ldA,aggD,aField,Nat.reduceAdd,Nat.reduceLT,Nat.reduceBEq,TY_EvH13,g5_2,g5_7,bb5_1,w6] at he
   rcases dP ((kv:Int)<(d.hours.length:Int)) with ⟨h7a,h7⟩|⟨h7a,h7⟩
   ·have hx5:d.hours[kv]?=some (d.hours[kv]'(by first|omega|simp; omega)):=List.getElem?_eq_getElem _
    generalize d.hours[kv]'_=x5 at hx5
    have eb9:=hD.h _ (List.mem_of_getElem? hx5)
    obtain ⟨id8,of8,cc8,ty8,wr8,ex8,i8,j8,l8,q8⟩:=(hv_d_hours).at (P:=Tryz.prog) (t:=40) Tryz.underlying40 tz36 hx5
    have jr8:=j8
    have j8:=(ga5.2 id8 l8).trans jr8
    have m8_0:cc8[of8]?=some (.int .i64 x5.lo):=q8 0 (show 0<2 by decide)
    have m8_1:cc8[of8+1]?=some (.int .i64 x5.hi):=q8 1 (show 1<2 by decide)
    have w10:IntKind.i64.wrap (((Int.tdiv ti 86400) * 86400)+x5.lo)=((Int.tdiv ti 86400) * 86400)+x5.lo:=by rw [IntWalk.i64_in]; omega
    try simp (disch:=first|omega|assumption) only [E0_G,SY,off,agreeKind,ldA,aggD,aField,Nat.reduceAdd,Nat.reduceLT,Nat.reduceBEq,TY_EvH13,g5_1,g5_2,g5_5,g5_7,bb5_1,h7a,i8,j8,m8_0,w10] at he
    rcases dP (ti<(((Int.tdiv ti 86400) * 86400)+x5.lo)) with ⟨h11a,h11⟩|⟨h11a,h11⟩
    ·have eb13:=hD.h _ (List.mem_of_getElem? hx5)
     obtain ⟨id12,of12,cc12,ty12,wr12,ex12,i12,j12,l12,q12⟩:=(hv_d_hours).at (P:=Tryz.prog) (t:=40) Tryz.underlying40 tz36 hx5
     have jr12:=j12
     have j12:=(ga5.2 id12 l12).trans jr12
     have j12_8:=(ga5.2 id8 l8).trans jr8
     have m12_0:cc12[of12]?=some (.int .i64 x5.lo):=q12 0 (show 0<2 by decide)
     have m12_1:cc12[of12+1]?=some (.int .i64 x5.hi):=q12 1 (show 1<2 by decide)
     have w14:IntKind.i64.wrap (((Int.tdiv ti 86400) * 86400)+x5.lo)=((Int.tdiv ti 86400) * 86400)+x5.lo:=by rw [IntWalk.i64_in]; omega
     have w15:IntKind.i64.wrap ((((Int.tdiv ti 86400) * 86400)+x5.lo) - 1)=(((Int.tdiv ti 86400) * 86400)+x5.lo) - 1:=by rw [IntWalk.i64_in]; omega
     have eb17:=hD.h _ (List.mem_of_getElem? hx5)
     obtain ⟨id16,of16,cc16,ty16,wr16,ex16,i16,j16,l16,q16⟩:=(hv_d_hours).at (P:=Tryz.prog) (t:=40) Tryz.underlying40 tz36 hx5
     have jr16:=j16
     have j16:=(ga5.2 id16 l16).trans jr16
     have j16_8:=(ga5.2 id8 l8).trans jr8
     have j16_12:=(ga5.2 id12 l12).trans jr12
     have m16_0:cc16[of16]?=some (.int .i64 x5.lo):=q16 0 (show 0<2 by decide)
     have m16_1:cc16[of16+1]?=some (.int .i64 x5.hi):=q16 1 (show 1<2 by decide)
     have w18:IntKind.i64.wrap (((Int.tdiv ti 86400) * 86400)+x5.hi)=((Int.tdiv ti 86400) * 86400)+x5.hi:=by rw [IntWalk.i64_in]; omega
     try simp (disch:=first|omega|assumption) only [E0_G,SY,off,agreeKind,ldA,aggD,aField,Nat.reduceAdd,Nat.reduceLT,Nat.reduceBEq,TY_EvH13,g5_1,g5_2,g5_5,g5_6,g5_7,bb5_1,i8,j8,m8_0,m8_1,w10,h11a,w15,w18] at he
     rcases dP (ti≤(((Int.tdiv ti 86400) * 86400)+x5.hi)) with ⟨h19a,h19⟩|⟨h19a,h19⟩
     ·have eb21:=hD.h _ (List.mem_of_getElem? hx5)
      obtain ⟨id20,of20,cc20,ty20,wr20,ex20,i20,j20,l20,q20⟩:=(hv_d_hours).at (P:=Tryz.prog) (t:=40) Tryz.underlying40 tz36 hx5
      have j20:=(ga5.2 id20 l20).trans j20
      have j20_8:=(ga5.2 id8 l8).trans jr8
      have j20_12:=(ga5.2 id12 l12).trans jr12
      have j20_16:=(ga5.2 id16 l16).trans jr16
      have m20_0:cc20[of20]?=some (.int .i64 x5.lo):=q20 0 (show 0<2 by decide)
      have m20_1:cc20[of20+1]?=some (.int .i64 x5.hi):=q20 1 (show 1<2 by decide)
      have w22:IntKind.i64.wrap (((Int.tdiv ti 86400) * 86400)+x5.hi)=((Int.tdiv ti 86400) * 86400)+x5.hi:=by rw [IntWalk.i64_in]; omega
      have w23:IntKind.i64.wrap ((kv:Int)+1)=((kv+1:Nat):Int):=by rw [IntWalk.i64_in]<;>omega
      try simp (disch:=first|omega|assumption) only [E0_G,SY,off,agreeKind,ldA,aggD,aField,Nat.reduceAdd,Nat.reduceLT,Nat.reduceBEq,TY_EvH13,g5_2,g5_5,g5_6,g5_7,bb5_1,i8,j8,m8_1,w18,h19a,w23] at he
      rw [drop_cons' hx5] at hd5
      have hf:=(show _=(R95_0 d ti (d.hours.drop (kv+1)) (min (min u0 ((((Int.tdiv ti 86400) * 86400)+x5.lo) - 1)) (((Int.tdiv ti 86400) * 86400)+x5.hi)):Int) from (if_pos h11).trans ((if_pos h19).trans (rfl))).symm.trans hd5
      exact .next he (m - 1) (by omega) ⟨(kv+1),min (min u0 ((((Int.tdiv ti 86400) * 86400)+x5.lo) - 1)) (((Int.tdiv ti 86400) * 86400)+x5.hi),by first|omega|(simp; omega)|simp,by first|omega|(simp; omega)|simp,by first|omega|(simp; omega)|simp,by first|omega|(simp; omega)|simp,(by simp only [SY,eq_self,Nat.reduceBEq,g5_1]<;>rfl),(by simp only [SY,eq_self,Nat.reduceBEq,g5_2]<;>rfl),(by simp only [SY,eq_self,Nat.reduceBEq,g5_5]<;>rfl),(by simp only [SY,eq_self,Nat.reduceBEq,g5_6]<;>rfl),(by simp only [SY,eq_self,Nat.reduceBEq,g5_7]<;>rfl),bb5_1,ga5,by omega,hf⟩
     have w24:IntKind.i64.wrap ((kv:Int)+1)=((kv+1:Nat):Int):=by rw [IntWalk.i64_in]<;>omega
     try simp (disch:=first|omega|assumption) only [E0_G,SY,off,agreeKind,Nat.reduceAdd,Nat.reduceLT,Nat.reduceBEq,g5_7,h19a,w24] at he
     rw [drop_cons' hx5] at hd5
     have hf:=(show _=(R95_0 d ti (d.hours.drop (kv+1)) (min u0 ((((Int.tdiv ti 86400) * 86400)+x5.lo) - 1)):Int) from (if_pos h11).trans ((if_neg h19).trans (rfl))).symm.trans hd5
     exact .next he (m - 1) (by omega) ⟨(kv+1),min u0 ((((Int.tdiv ti 86400) * 86400)+x5.lo) - 1),by first|omega|(simp; omega)|simp,by first|omega|(simp; omega)|simp,by first|omega|(simp; omega)|simp,by first|omega|(simp; omega)|simp,(by simp only [SY,eq_self,Nat.reduceBEq,g5_1]<;>rfl),(by simp only [SY,eq_self,Nat.reduceBEq,g5_2]<;>rfl),(by simp only [SY,eq_self,Nat.reduceBEq,g5_5]<;>rfl),(by simp only [SY,eq_self,Nat.reduceBEq,g5_6]<;>rfl),(by simp only [SY,eq_self,Nat.reduceBEq,g5_7]<;>rfl),bb5_1,ga5,by omega,hf⟩
    have eb26:=hD.h _ (List.mem_of_getElem? hx5)
    obtain ⟨id25,of25,cc25,ty25,wr25,ex25,i25,j25,l25,q25⟩:=(hv_d_hours).at (P:=Tryz.prog) (t:=40) Tryz.underlying40 tz36 hx5
    have jr25:=j25
    have j25:=(ga5.2 id25 l25).trans jr25
    have j25_8:=(ga5.2 id8 l8).trans jr8
    have m25_0:cc25[of25]?=some (.int .i64 x5.lo):=q25 0 (show 0<2 by decide)
    have m25_1:cc25[of25+1]?=some (.int .i64 x5.hi):=q25 1 (show 1<2 by decide)
    have w27:IntKind.i64.wrap (((Int.tdiv ti 86400) * 86400)+x5.hi)=((Int.tdiv ti 86400) * 86400)+x5.hi:=by rw [IntWalk.i64_in]; omega
    try simp (disch:=first|omega|assumption) only [E0_G,SY,off,agreeKind,ldA,aggD,aField,Nat.reduceAdd,Nat.reduceLT,Nat.reduceBEq,TY_EvH13,g5_1,g5_2,g5_5,g5_7,bb5_1,i8,j8,m8_1,h11a,w27] at he
    rcases dP (ti≤(((Int.tdiv ti 86400) * 86400)+x5.hi)) with ⟨h28a,h28⟩|⟨h28a,h28⟩
    ·have eb30:=hD.h _ (List.mem_of_getElem? hx5)
     obtain ⟨id29,of29,cc29,ty29,wr29,ex29,i29,j29,l29,q29⟩:=(hv_d_hours).at (P:=Tryz.prog) (t:=40) Tryz.underlying40 tz36 hx5
     have j29:=(ga5.2 id29 l29).trans j29
     have j29_8:=(ga5.2 id8 l8).trans jr8
     have j29_25:=(ga5.2 id25 l25).trans jr25
     have m29_0:cc29[of29]?=some (.int .i64 x5.lo):=q29 0 (show 0<2 by decide)
     have m29_1:cc29[of29+1]?=some (.int .i64 x5.hi):=q29 1 (show 1<2 by decide)
     have w31:IntKind.i64.wrap (((Int.tdiv ti 86400) * 86400)+x5.hi)=((Int.tdiv ti 86400) * 86400)+x5.hi:=by rw [IntWalk.i64_in]; omega
     have w32:IntKind.i64.wrap ((kv:Int)+1)=((kv+1:Nat):Int):=by rw [IntWalk.i64_in]<;>omega
     try simp (disch:=first|omega|assumption) only [E0_G,SY,off,agreeKind,ldA,aggD,aField,Nat.reduceAdd,Nat.reduceLT,Nat.reduceBEq,TY_EvH13,g5_2,g5_5,g5_6,g5_7,bb5_1,i8,j8,m8_1,w27,h28a,w32] at he
     rw [drop_cons' hx5] at hd5
     have hf:=(show _=(R95_0 d ti (d.hours.drop (kv+1)) (min u0 (((Int.tdiv ti 86400) * 86400)+x5.hi)):Int) from (if_neg h11).trans ((if_pos h28).trans (rfl))).symm.trans hd5
     exact .next he (m - 1) (by omega) ⟨(kv+1),min u0 (((Int.tdiv ti 86400) * 86400)+x5.hi),by first|omega|(simp; omega)|simp,by first|omega|(simp; omega)|simp,by first|omega|(simp; omega)|simp,by first|omega|(simp; omega)|simp,(by simp only [SY,eq_self,Nat.reduceBEq,g5_1]<;>rfl),(by simp only [SY,eq_self,Nat.reduceBEq,g5_2]<;>rfl),(by simp only [SY,eq_self,Nat.reduceBEq,g5_5]<;>rfl),(by simp only [SY,eq_self,Nat.reduceBEq,g5_6]<;>rfl),(by simp only [SY,eq_self,Nat.reduceBEq,g5_7]<;>rfl),bb5_1,ga5,by omega,hf⟩
    have w33:IntKind.i64.wrap ((kv:Int)+1)=((kv+1:Nat):Int):=by rw [IntWalk.i64_in]<;>omega
    try simp (disch:=first|omega|assumption) only [E0_G,SY,off,agreeKind,Nat.reduceAdd,Nat.reduceLT,Nat.reduceBEq,g5_7,h28a,w33] at he
    rw [drop_cons' hx5] at hd5
    have hf:=(show _=(R95_0 d ti (d.hours.drop (kv+1)) u0:Int) from (if_neg h11).trans ((if_neg h28).trans (rfl))).symm.trans hd5
    exact .next he (m - 1) (by omega) ⟨(kv+1),u0,by first|omega|(simp; omega)|simp,by first|omega|(simp; omega)|simp,by first|omega|(simp; omega)|simp,by first|omega|(simp; omega)|simp,(by simp only [SY,eq_self,Nat.reduceBEq,g5_1]<;>rfl),(by simp only [SY,eq_self,Nat.reduceBEq,g5_2]<;>rfl),(by simp only [SY,eq_self,Nat.reduceBEq,g5_5]<;>rfl),(by simp only [SY,eq_self,Nat.reduceBEq,g5_6]<;>rfl),(by simp only [SY,eq_self,Nat.reduceBEq,g5_7]<;>rfl),bb5_1,ga5,by omega,hf⟩
   try simp (disch:=first|omega|assumption) only [SY,h7a] at he
   rw [List.drop_eq_nil_of_le (show d.hours.length≤kv by omega)] at hd5
   have hf:=(show _=(u0:Int) from rfl).symm.trans hd5
   exact .exit he ⟨rfl,⟨kv,u0,(by simp only [SY,eq_self,Nat.reduceBEq,g5_1]<;>rfl),(by simp only [SY,eq_self,Nat.reduceBEq,g5_2]<;>rfl),(by simp only [SY,eq_self,Nat.reduceBEq,g5_6]<;>rfl),bb5_1,ga5,by omega,by first|omega|assumption|simp,by first|omega|assumption|simp,by first|omega|assumption|simp,hf.symm⟩⟩)
 obtain ⟨rfl,kv,u0,ge5_1,ge5_2,ge5_6,be5_1,ge5,gm5,hj5_0,hj5_1,hj5_2,hR5⟩:=hQ5
 obtain rfl:u0=R95_0 d ti d.hours (((Int.tdiv ti 86400) * 86400)+86399):=hR5.symm
 try simp (disch:=first|omega|assumption) only [E0_G,SY,off,agreeKind,eq_self,if_true,Nat.reduceLT] at hz
 generalize hL35:Rec.loop _ _ _ _=L35 at hz
 obtain ⟨x35,t35,S35e,rfl,hQ35⟩:=loop_met hL35 (fun m t S'=>∃ (kv1:Nat) (u1:Int),m+kv1=d.shut.length∧ti≤u1∧u1≤1073914623∧kv1≤d.shut.length∧t.get 1=some (.int .i64 ti)∧t.get 2=some (.pointer (some ⟨S.next,0,none⟩))∧t.get 6=some (.int .i64 u1)∧t.get 8=some (.int .i64 (kv1:Int))∧S'.heap.get S.next=some (.cells [v_d_hours,v_d_shut] 98 0 true true)∧Agree S S'∧S5e.next≤S'.next∧R95_1 d ti (d.shut.drop kv1) u1=R95_1 d ti d.shut (R95_0 d ti d.hours (((Int.tdiv ti 86400) * 86400)+86399)))
  (fun x t S'=>x=.exit 2∧∃ (kv1:Nat) (u1:Int),t.get 6=some (.int .i64 u1)∧S'.heap.get S.next=some (.cells [v_d_hours,v_d_shut] 98 0 true true)∧Agree S S'∧S5e.next≤S'.next∧ti≤u1∧u1≤1073914623∧kv1≤d.shut.length∧R95_1 d ti d.shut (R95_0 d ti d.hours (((Int.tdiv ti 86400) * 86400)+86399))=u1) (d.shut.length - 0) ⟨0,R95_0 d ti d.hours (((Int.tdiv ti 86400) * 86400)+86399),by first|rfl|omega|(simp; omega)|simp,by first|rfl|omega|(simp; omega)|simp,by first|rfl|omega|(simp; omega)|simp,by first|rfl|omega|(simp; omega)|simp,by simp only [SY,eq_self,Nat.reduceBEq,ge5_1]<;>rfl,by simp only [SY,eq_self,Nat.reduceBEq,ge5_2]<;>rfl,by simp only [SY,eq_self,Nat.reduceBEq,ge5_6]<;>rfl,by simp only [SY,Nat.reduceBEq]<;>rfl,be5_1,ge5,Nat.le_refl _,rfl⟩ (by
   rintro m t S35 ⟨kv1,u1,hi35_0,hi35_1,hi35_2,hi35_3,g35_1,g35_2,g35_6,g35_8,bb35_1,ga35,gn35,hd35⟩
   refine .run fun z he=>?_
   have w36:=(hv_d_shut.agree ga35).len (P:=Tryz.prog) (t:=40) Tryz.underlying40
   try simp (disch:=first|omega|assumption) only [E0_G,SY,off,agreeKind,ldA,aggD,aField,Nat.reduceAdd,Nat.reduceLT,Nat.reduceBEq,TY_EvH13,g35_2,g35_8,bb35_1,w36] at he
   rcases dP ((kv1:Int)<(d.shut.length:Int)) with ⟨h37a,h37⟩|⟨h37a,h37⟩
   ·have hx35:d.shut[kv1]?=some (d.shut[kv1]'(by first|omega|simp; omega)):=List.getElem?_eq_getElem _
    generalize d.shut[kv1]'_=x35 at hx35
    have eb39:=hD.s _ (List.mem_of_getElem? hx35)
    obtain ⟨id38,of38,cc38,ty38,wr38,ex38,i38,j38,l38,q38⟩:=(hv_d_shut).at (P:=Tryz.prog) (t:=40) Tryz.underlying40 tz36 hx35
    have jr38:=j38
    have j38:=(ga35.2 id38 l38).trans jr38
    have m38_0:cc38[of38]?=some (.int .i64 x35.lo):=q38 0 (show 0<2 by decide)
    have m38_1:cc38[of38+1]?=some (.int .i64 x35.hi):=q38 1 (show 1<2 by decide)
    try simp (disch:=first|omega|assumption) only [E0_G,SY,off,agreeKind,ldA,aggD,aField,Nat.reduceAdd,Nat.reduceLT,Nat.reduceBEq,TY_EvH13,g35_1,g35_2,g35_8,bb35_1,h37a,i38,j38,m38_0] at he
    rcases dP (ti<x35.lo) with ⟨h40a,h40⟩|⟨h40a,h40⟩
    ·have eb42:=hD.s _ (List.mem_of_getElem? hx35)
     obtain ⟨id41,of41,cc41,ty41,wr41,ex41,i41,j41,l41,q41⟩:=(hv_d_shut).at (P:=Tryz.prog) (t:=40) Tryz.underlying40 tz36 hx35
     have jr41:=j41
     have j41:=(ga35.2 id41 l41).trans jr41
     have j41_38:=(ga35.2 id38 l38).trans jr38
     have m41_0:cc41[of41]?=some (.int .i64 x35.lo):=q41 0 (show 0<2 by decide)
     have m41_1:cc41[of41+1]?=some (.int .i64 x35.hi):=q41 1 (show 1<2 by decide)
     have w43:IntKind.i64.wrap (x35.lo - 1)=x35.lo - 1:=by rw [IntWalk.i64_in]; omega
     have eb45:=hD.s _ (List.mem_of_getElem? hx35)
     obtain ⟨id44,of44,cc44,ty44,wr44,ex44,i44,j44,l44,q44⟩:=(hv_d_shut).at (P:=Tryz.prog) (t:=40) Tryz.underlying40 tz36 hx35
     have jr44:=j44
     have j44:=(ga35.2 id44 l44).trans jr44
     have j44_38:=(ga35.2 id38 l38).trans jr38
     have j44_41:=(ga35.2 id41 l41).trans jr41
     have m44_0:cc44[of44]?=some (.int .i64 x35.lo):=q44 0 (show 0<2 by decide)
     have m44_1:cc44[of44+1]?=some (.int .i64 x35.hi):=q44 1 (show 1<2 by decide)
     try simp (disch:=first|omega|assumption) only [E0_G,SY,off,agreeKind,ldA,aggD,aField,Nat.reduceAdd,Nat.reduceLT,Nat.reduceBEq,TY_EvH13,g35_1,g35_2,g35_6,g35_8,bb35_1,i38,j38,m38_0,m38_1,h40a,w43] at he
     rcases dP (ti≤x35.hi) with ⟨h46a,h46⟩|⟨h46a,h46⟩
     ·have eb48:=hD.s _ (List.mem_of_getElem? hx35)
      obtain ⟨id47,of47,cc47,ty47,wr47,ex47,i47,j47,l47,q47⟩:=(hv_d_shut).at (P:=Tryz.prog) (t:=40) Tryz.underlying40 tz36 hx35
      have j47:=(ga35.2 id47 l47).trans j47
      have j47_38:=(ga35.2 id38 l38).trans jr38
      have j47_41:=(ga35.2 id41 l41).trans jr41
      have j47_44:=(ga35.2 id44 l44).trans jr44
      have m47_0:cc47[of47]?=some (.int .i64 x35.lo):=q47 0 (show 0<2 by decide)
      have m47_1:cc47[of47+1]?=some (.int .i64 x35.hi):=q47 1 (show 1<2 by decide)
      have w49:IntKind.i64.wrap ((kv1:Int)+1)=((kv1+1:Nat):Int):=by rw [IntWalk.i64_in]<;>omega
      try simp (disch:=first|omega|assumption) only [E0_G,SY,off,agreeKind,ldA,aggD,aField,Nat.reduceAdd,Nat.reduceLT,Nat.reduceBEq,TY_EvH13,g35_2,g35_6,g35_8,bb35_1,i38,j38,m38_1,h46a,w49] at he
      rw [drop_cons' hx35] at hd35
      have hf:=(show _=(R95_1 d ti (d.shut.drop (kv1+1)) (min (min u1 (x35.lo - 1)) x35.hi):Int) from (if_pos h40).trans ((if_pos h46).trans (rfl))).symm.trans hd35
      exact .next he (m - 1) (by omega) ⟨(kv1+1),min (min u1 (x35.lo - 1)) x35.hi,by first|omega|(simp; omega)|simp,by first|omega|(simp; omega)|simp,by first|omega|(simp; omega)|simp,by first|omega|(simp; omega)|simp,(by simp only [SY,eq_self,Nat.reduceBEq,g35_1]<;>rfl),(by simp only [SY,eq_self,Nat.reduceBEq,g35_2]<;>rfl),(by simp only [SY,eq_self,Nat.reduceBEq,g35_6]<;>rfl),(by simp only [SY,eq_self,Nat.reduceBEq,g35_8]<;>rfl),bb35_1,ga35,by omega,hf⟩
     have w50:IntKind.i64.wrap ((kv1:Int)+1)=((kv1+1:Nat):Int):=by rw [IntWalk.i64_in]<;>omega
     try simp (disch:=first|omega|assumption) only [E0_G,SY,off,agreeKind,Nat.reduceAdd,Nat.reduceLT,Nat.reduceBEq,g35_8,h46a,w50] at he
     rw [drop_cons' hx35] at hd35
     have hf:=(show _=(R95_1 d ti (d.shut.drop (kv1+1)) (min u1 (x35.lo - 1)):Int) from (if_pos h40).trans ((if_neg h46).trans (rfl))).symm.trans hd35
     exact .next he (m - 1) (by omega) ⟨(kv1+1),min u1 (x35.lo - 1),by first|omega|(simp; omega)|simp,by first|omega|(simp; omega)|simp,by first|omega|(simp; omega)|simp,by first|omega|(simp; omega)|simp,(by simp only [SY,eq_self,Nat.reduceBEq,g35_1]<;>rfl),(by simp only [SY,eq_self,Nat.reduceBEq,g35_2]<;>rfl),(by simp only [SY,eq_self,Nat.reduceBEq,g35_6]<;>rfl),(by simp only [SY,eq_self,Nat.reduceBEq,g35_8]<;>rfl),bb35_1,ga35,by omega,hf⟩
    have eb52:=hD.s _ (List.mem_of_getElem? hx35)
    obtain ⟨id51,of51,cc51,ty51,wr51,ex51,i51,j51,l51,q51⟩:=(hv_d_shut).at (P:=Tryz.prog) (t:=40) Tryz.underlying40 tz36 hx35
    have jr51:=j51
    have j51:=(ga35.2 id51 l51).trans jr51
    have j51_38:=(ga35.2 id38 l38).trans jr38
    have m51_0:cc51[of51]?=some (.int .i64 x35.lo):=q51 0 (show 0<2 by decide)
    have m51_1:cc51[of51+1]?=some (.int .i64 x35.hi):=q51 1 (show 1<2 by decide)
    try simp (disch:=first|omega|assumption) only [E0_G,SY,off,agreeKind,ldA,aggD,aField,Nat.reduceAdd,Nat.reduceLT,Nat.reduceBEq,TY_EvH13,g35_1,g35_2,g35_8,bb35_1,i38,j38,m38_1,h40a] at he
    rcases dP (ti≤x35.hi) with ⟨h53a,h53⟩|⟨h53a,h53⟩
    ·have eb55:=hD.s _ (List.mem_of_getElem? hx35)
     obtain ⟨id54,of54,cc54,ty54,wr54,ex54,i54,j54,l54,q54⟩:=(hv_d_shut).at (P:=Tryz.prog) (t:=40) Tryz.underlying40 tz36 hx35
     have j54:=(ga35.2 id54 l54).trans j54
     have j54_38:=(ga35.2 id38 l38).trans jr38
     have j54_51:=(ga35.2 id51 l51).trans jr51
     have m54_0:cc54[of54]?=some (.int .i64 x35.lo):=q54 0 (show 0<2 by decide)
     have m54_1:cc54[of54+1]?=some (.int .i64 x35.hi):=q54 1 (show 1<2 by decide)
     have w56:IntKind.i64.wrap ((kv1:Int)+1)=((kv1+1:Nat):Int):=by rw [IntWalk.i64_in]<;>omega
     try simp (disch:=first|omega|assumption) only [E0_G,SY,off,agreeKind,ldA,aggD,aField,Nat.reduceAdd,Nat.reduceLT,Nat.reduceBEq,TY_EvH13,g35_2,g35_6,g35_8,bb35_1,i38,j38,m38_1,h53a,w56] at he
     rw [drop_cons' hx35] at hd35
     have hf:=(show _=(R95_1 d ti (d.shut.drop (kv1+1)) (min u1 x35.hi):Int) from (if_neg h40).trans ((if_pos h53).trans (rfl))).symm.trans hd35
     exact .next he (m - 1) (by omega) ⟨(kv1+1),min u1 x35.hi,by first|omega|(simp; omega)|simp,by first|omega|(simp; omega)|simp,by first|omega|(simp; omega)|simp,by first|omega|(simp; omega)|simp,(by simp only [SY,eq_self,Nat.reduceBEq,g35_1]<;>rfl),(by simp only [SY,eq_self,Nat.reduceBEq,g35_2]<;>rfl),(by simp only [SY,eq_self,Nat.reduceBEq,g35_6]<;>rfl),(by simp only [SY,eq_self,Nat.reduceBEq,g35_8]<;>rfl),bb35_1,ga35,by omega,hf⟩
    have w57:IntKind.i64.wrap ((kv1:Int)+1)=((kv1+1:Nat):Int):=by rw [IntWalk.i64_in]<;>omega
    try simp (disch:=first|omega|assumption) only [E0_G,SY,off,agreeKind,Nat.reduceAdd,Nat.reduceLT,Nat.reduceBEq,g35_8,h53a,w57] at he
    rw [drop_cons' hx35] at hd35
    have hf:=(show _=(R95_1 d ti (d.shut.drop (kv1+1)) u1:Int) from (if_neg h40).trans ((if_neg h53).trans (rfl))).symm.trans hd35
    exact .next he (m - 1) (by omega) ⟨(kv1+1),u1,by first|omega|(simp; omega)|simp,by first|omega|(simp; omega)|simp,by first|omega|(simp; omega)|simp,by first|omega|(simp; omega)|simp,(by simp only [SY,eq_self,Nat.reduceBEq,g35_1]<;>rfl),(by simp only [SY,eq_self,Nat.reduceBEq,g35_2]<;>rfl),(by simp only [SY,eq_self,Nat.reduceBEq,g35_6]<;>rfl),(by simp only [SY,eq_self,Nat.reduceBEq,g35_8]<;>rfl),bb35_1,ga35,by omega,hf⟩
   try simp (disch:=first|omega|assumption) only [SY,h37a] at he
   rw [List.drop_eq_nil_of_le (show d.shut.length≤kv1 by omega)] at hd35
   have hf:=(show _=(u1:Int) from rfl).symm.trans hd35
   exact .exit he ⟨rfl,⟨kv1,u1,(by simp only [SY,eq_self,Nat.reduceBEq,g35_6]<;>rfl),bb35_1,ga35,by omega,by first|omega|assumption|simp,by first|omega|assumption|simp,by first|omega|assumption|simp,hf.symm⟩⟩)
 obtain ⟨rfl,kv1,u1,ge35_6,be35_1,ge35,gm35,hj35_0,hj35_1,hj35_2,hR35⟩:=hQ35
 obtain rfl:u1=R95_1 d ti d.shut (R95_0 d ti d.hours (((Int.tdiv ti 86400) * 86400)+86399)):=hR35.symm
 try simp (disch:=first|omega|assumption) only [E0_G,SY,off,agreeKind,eq_self,if_true,Nat.reduceAdd,Nat.reduceLT,Nat.reduceBEq,ge35_6] at hz
 have hr:r95 d ti=R95_1 d ti d.shut (R95_0 d ti d.hours (((Int.tdiv ti 86400) * 86400)+86399)):=rfl
 exact fin hz (by rw [hr]) ge35
end House
end Go.Proofs
