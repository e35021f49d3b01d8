import Derived.Test.YtohfdkdjfoonjaaGreatDoorEvM6
set_option linter.unusedSimpArgs false
set_option linter.unusedVariables false
namespace Go.Proofs
namespace House
open Go Go.RowKit Go.Aev
set_option maxRecDepth 100000
theorem TY_EvH12:type_of% TY_EvH11:=TY_EvH11
def r93 (a b:Int):Bool:=(r139 a b 0 1073741823)
set_option maxHeartbeats 2000000 in
theorem c93 (a b:Int)  (S:AS)  :
  ∃ S',(evL Tryz.prog E0).call 93 #[.agg #[.int .i64 a,.int .i64 b]] S=some (.bool (r93 a b),S')∧Agree S S':=by
 generalize hz:(evL Tryz.prog E0).call 93 _ _=z
 rw [L_call,evCall_said rfl Tryz.func93 rfl (by decide) Tryz.ntmps93 Tryz.results93] at hz
 obtain ⟨S1,e1,n1,b1,a1⟩:=push_open S (.cells [.int .i64 a,.int .i64 b] 36 0 true true)
 have g1:Agree S S1:=a1
 have y2:aBuild Tryz.prog 36 [(1,.int .i64 1073741823)]=some (.agg #[.int .i64 0,.int .i64 1073741823]):=by kernel_rfl
 obtain ⟨S3,k3,a3⟩:=c139 a b 0 1073741823  S1
 have l3:=a3.1
 have g3:Agree S S3:=g1.trans a3
 try simp (disch:=first|omega|assumption) only [E0_G,SY,setArgs,off,agreeKind,partVals,vals,boxed,ldA,rdCells,aggD,Nat.reduceAdd,Nat.reduceSub,Nat.reduceLT,Nat.reduceBEq,TY_EvH12,e1,b1,y2,k3] at hz
 have hr:r93 a b=(r139 a b 0 1073741823):=rfl
 exact fin hz (by rw [hr]) g3
def R142_0 (d:Dr) (ti:Int)  : List Sp→Int→Int
 | [],u0=>u0
 | x4 :: l',u0=>(if (r133 x4.lo x4.hi ((r160 ti).2))=true then R142_0 d ti l' (((r160 ti).1)+x4.hi) else R142_0 d ti l' u0)
def R142_1 (d:Dr) (ti:Int)  : List Sp→Int→Int
 | [],u1=>u1
 | x18 :: l',u1=>(if ti<x18.lo then R142_1 d ti l' (min u1 (x18.lo - 1)) else R142_1 d ti l' u1)
def r142 (d:Dr) (ti:Int):Int:=R142_1 d ti d.shut (R142_0 d ti d.hours ti)
set_option maxHeartbeats 4000000 in
theorem c142 (d:Dr) (ti:Int) (hD:OkD d) (ht:0≤ti∧ti≤1073741823) (S:AS) (v_d_hours:Value) (hv_d_hours:Lst S v_d_hours d.hours) (v_d_shut:Value) (hv_d_shut:Lst S v_d_shut d.shut) :
  ∃ S',(evL Tryz.prog E0).call 142 #[.agg #[v_d_hours,v_d_shut],.int .i64 ti] S=some (.int .i64 (r142 d ti),S')∧Agree S S':=by
 have hdh:=hD.hl; have hds:=hD.sl; have hq:=r160_ok ht.1
 generalize hz:(evL Tryz.prog E0).call 142 _ _=z
 rw [L_call,evCall_said rfl Tryz.func142 rfl (by decide) Tryz.ntmps142 Tryz.results142] at hz
 obtain ⟨S1,e1,n1,b1,a1⟩:=push_open S (.cells [v_d_hours,v_d_shut] 98 0 true true)
 have g1:Agree S S1:=a1
 obtain ⟨S2,k2,a2⟩:=c160 ti (by omega) S1
 have l2:=a2.1
 have v1_2:=(a2.2 S.next (by omega)).trans b1
 have g2:Agree S S2:=g1.trans a2
 have p2:=r160_ok (show 0≤ti by omega)
 have w3:=(hv_d_hours.agree g2).len (P:=Tryz.prog) (t:=40) Tryz.underlying40
 try simp (disch:=first|omega|assumption) only [E0_G,SY,setArgs,off,agreeKind,vals,boxed,ldA,aggD,aField,aExtract,Nat.reduceAdd,Nat.reduceSub,Nat.reduceLT,Nat.reduceBEq,TY_EvH12,e1,k2,v1_2,w3] at hz
 generalize hL4:Rec.loop _ _ _ _=L4 at hz
 obtain ⟨x4,t4,S4e,rfl,hQ4⟩:=loop_met hL4 (fun m t S'=>∃ (kv:Nat) (u0:Int),m+kv=d.hours.length∧ti≤u0∧u0≤1073914623∧kv≤d.hours.length∧t.get 1=some (.int .i64 ti)∧t.get 2=some (.pointer (some ⟨S.next,0,none⟩))∧t.get 5=some (.int .i64 u0)∧t.get 6=some (.int .i64 ((r160 ti).1))∧t.get 7=some (.int .i64 ((r160 ti).2))∧t.get 19=some (v_d_hours)∧t.get 20=some (.int .i64 (d.hours.length:Int))∧t.get 21=some (.int .i64 (kv:Int))∧S'.heap.get S.next=some (.cells [v_d_hours,v_d_shut] 98 0 true true)∧Agree S S'∧S2.next≤S'.next∧R142_0 d ti (d.hours.drop kv) u0=R142_0 d ti d.hours ti)
  (fun x t S'=>x=.exit 0∧∃ (kv:Nat) (u0:Int),t.get 1=some (.int .i64 ti)∧t.get 2=some (.pointer (some ⟨S.next,0,none⟩))∧t.get 5=some (.int .i64 u0)∧S'.heap.get S.next=some (.cells [v_d_hours,v_d_shut] 98 0 true true)∧Agree S S'∧S2.next≤S'.next∧ti≤u0∧u0≤1073914623∧kv≤d.hours.length∧R142_0 d ti d.hours ti=u0) (d.hours.length - 0) ⟨0,ti,by first|rfl|omega|(simp; omega)|simp,by first|rfl|omega|(simp; omega)|simp,by first|rfl|omega|(simp; omega)|simp,by first|rfl|omega|(simp; omega)|simp,by simp only [SY,eq_self,Nat.reduceBEq]<;>rfl,by simp only [SY,eq_self,Nat.reduceBEq]<;>rfl,by simp only [SY,eq_self,Nat.reduceBEq]<;>rfl,by simp only [SY,eq_self,Nat.reduceBEq]<;>rfl,by simp only [SY,eq_self,Nat.reduceBEq]<;>rfl,by simp only [SY,eq_self,Nat.reduceBEq]<;>rfl,by simp only [SY,eq_self,Nat.reduceBEq]<;>rfl,by simp only [SY,Nat.reduceBEq]<;>rfl,v1_2,g2,Nat.le_refl _,rfl⟩ (by
   rintro m t S4 ⟨kv,u0,hi4_0,hi4_1,hi4_2,hi4_3,g4_1,g4_2,g4_5,g4_6,g4_7,g4_19,g4_20,g4_21,bb4_1,ga4,gn4,hd4⟩
   refine .run fun z he=>?_
   try simp (disch:=first|omega|assumption) only [E0_G,SY,off,agreeKind,Nat.reduceLT,Nat.reduceBEq,g4_20,g4_21] at he
   rcases dP ((kv:Int)<(d.hours.length:Int)) with ⟨h5a,h5⟩|⟨h5a,h5⟩
   ·have hx4:d.hours[kv]?=some (d.hours[kv]'(by first|omega|simp; omega)):=List.getElem?_eq_getElem _
    generalize d.hours[kv]'_=x4 at hx4
    have eb7:=hD.h _ (List.mem_of_getElem? hx4)
    obtain ⟨id6,of6,cc6,ty6,wr6,ex6,i6,j6,l6,q6⟩:=(hv_d_hours).at (P:=Tryz.prog) (t:=40) Tryz.underlying40 tz36 hx4
    have j6:=(ga4.2 id6 l6).trans j6
    have m6_0:cc6[of6]?=some (.int .i64 x4.lo):=q6 0 (show 0<2 by decide)
    have m6_1:cc6[of6+1]?=some (.int .i64 x4.hi):=q6 1 (show 1<2 by decide)
    obtain ⟨S8,e8,n8,b8,a8⟩:=push_open S4 (.cells [.int .i64 0,.int .i64 0] 36 0 true true)
    have v1_8:=(a8.2 S.next (by omega)).trans bb4_1
    have g8:Agree S S8:=ga4.trans a8
    obtain ⟨S9,k9,n9,b9,q9⟩:=st_at (o:=0) (c':=[.int .i64 x4.lo,.int .i64 x4.hi]) (v:=.agg #[.int .i64 x4.lo,.int .i64 x4.hi]) tz36 b8 rfl rfl (show 0+2≤2 by decide) rfl
    have v1_9:=(q9 S.next (by omega)).trans v1_8
    have g9:Agree S S9:=⟨by have:=(g8).1; omega,fun id hid=>(q9 id (by have:=(g8).1; omega)).trans ((g8).2 id hid)⟩
    obtain ⟨S10,k10,a10⟩:=c133 x4.lo x4.hi ((r160 ti).2)  S9
    have l10:=a10.1
    have v1_10:=(a10.2 S.next (by omega)).trans v1_9
    have v8_10:=(a10.2 S4.next (by omega)).trans b9
    have g10:Agree S S10:=g9.trans a10
    try simp (disch:=first|omega|assumption) only [E0_G,SY,off,agreeKind,vals,allocV,ldA,rdCells,aggD,Nat.reduceAdd,Nat.reduceLT,Nat.reduceBEq,TY_EvH12,g4_7,g4_19,g4_21,h5a,i6,j6,m6_0,m6_1,e8,k9,b9,k10] at he
    rcases dB ((r133 x4.lo x4.hi ((r160 ti).2))) with ⟨h11a,h11⟩|⟨h11a,h11⟩
    ·have lq12:=r133_iff.1 h11
     have w13:IntKind.i64.wrap (((r160 ti).1)+x4.hi)=((r160 ti).1)+x4.hi:=by rw [IntWalk.i64_in]; omega
     have w14:IntKind.i64.wrap ((kv:Int)+1)=((kv+1:Nat):Int):=by rw [IntWalk.i64_in]<;>omega
     try simp (disch:=first|omega|assumption) only [E0_G,SY,off,agreeKind,ldA,aggD,aField,Nat.reduceAdd,Nat.reduceLT,Nat.reduceBEq,TY_EvH12,g4_6,g4_21,v8_10,h11a,w13,w14] at he
     rw [drop_cons' hx4] at hd4
     have hf:=(show _=(R142_0 d ti (d.hours.drop (kv+1)) (((r160 ti).1)+x4.hi):Int) from (if_pos h11).trans (rfl)).symm.trans hd4
     exact .next he (m - 1) (by omega) ⟨(kv+1),((r160 ti).1)+x4.hi,by first|omega|(simp; omega)|simp,by first|omega|(simp; omega)|simp,by first|omega|(simp; omega)|simp,by first|omega|(simp; omega)|simp,(by simp only [SY,eq_self,Nat.reduceBEq,g4_1]<;>rfl),(by simp only [SY,eq_self,Nat.reduceBEq,g4_2]<;>rfl),(by simp only [SY,eq_self,Nat.reduceBEq,g4_5]<;>rfl),(by simp only [SY,eq_self,Nat.reduceBEq,g4_6]<;>rfl),(by simp only [SY,eq_self,Nat.reduceBEq,g4_7]<;>rfl),(by simp only [SY,eq_self,Nat.reduceBEq,g4_19]<;>rfl),(by simp only [SY,eq_self,Nat.reduceBEq,g4_20]<;>rfl),(by simp only [SY,eq_self,Nat.reduceBEq,g4_21]<;>rfl),v1_10,g10,by omega,hf⟩
    have w15:IntKind.i64.wrap ((kv:Int)+1)=((kv+1:Nat):Int):=by rw [IntWalk.i64_in]<;>omega
    try simp (disch:=first|omega|assumption) only [E0_G,SY,off,agreeKind,Nat.reduceAdd,Nat.reduceLT,Nat.reduceBEq,g4_21,h11a,w15] at he
    rw [drop_cons' hx4] at hd4
    have hf:=(show _=(R142_0 d ti (d.hours.drop (kv+1)) u0:Int) from (if_neg h11).trans (rfl)).symm.trans hd4
    exact .next he (m - 1) (by omega) ⟨(kv+1),u0,by first|omega|(simp; omega)|simp,by first|omega|(simp; omega)|simp,by first|omega|(simp; omega)|simp,by first|omega|(simp; omega)|simp,(by simp only [SY,eq_self,Nat.reduceBEq,g4_1]<;>rfl),(by simp only [SY,eq_self,Nat.reduceBEq,g4_2]<;>rfl),(by simp only [SY,eq_self,Nat.reduceBEq,g4_5]<;>rfl),(by simp only [SY,eq_self,Nat.reduceBEq,g4_6]<;>rfl),(by simp only [SY,eq_self,Nat.reduceBEq,g4_7]<;>rfl),(by simp only [SY,eq_self,Nat.reduceBEq,g4_19]<;>rfl),(by simp only [SY,eq_self,Nat.reduceBEq,g4_20]<;>rfl),(by simp only [SY,eq_self,Nat.reduceBEq,g4_21]<;>rfl),v1_10,g10,by omega,hf⟩
   try simp (disch:=first|omega|assumption) only [SY,h5a] at he
   rw [List.drop_eq_nil_of_le (show d.hours.length≤kv by omega)] at hd4
   have hf:=(show _=(u0:Int) from rfl).symm.trans hd4
   exact .exit he ⟨rfl,⟨kv,u0,(by simp only [SY,eq_self,Nat.reduceBEq,g4_1]<;>rfl),(by simp only [SY,eq_self,Nat.reduceBEq,g4_2]<;>rfl),(by simp only [SY,eq_self,Nat.reduceBEq,g4_5]<;>rfl),bb4_1,ga4,by omega,by first|omega|assumption|simp,by first|omega|assumption|simp,by first|omega|assumption|simp,hf.symm⟩⟩)
 obtain ⟨rfl,kv,u0,ge4_1,ge4_2,ge4_5,be4_1,ge4,gm4,hj4_0,hj4_1,hj4_2,hR4⟩:=hQ4
 obtain rfl:u0=R142_0 d ti d.hours ti:=hR4.symm
 have w17:=(hv_d_shut.agree ge4).len (P:=Tryz.prog) (t:=40) Tryz.underlying40
 try simp (disch:=first|omega|assumption) only [E0_G,SY,off,agreeKind,ldA,aggD,aField,eq_self,if_true,Nat.reduceAdd,Nat.reduceLT,Nat.reduceBEq,TY_EvH12,ge4_2,be4_1,w17] at hz
 generalize hL18:Rec.loop _ _ _ _=L18 at hz
 obtain ⟨x18,t18,S18e,rfl,hQ18⟩:=loop_met hL18 (fun m t S'=>∃ (jv:Nat) (u1:Int),m+jv=d.shut.length∧ti≤u1∧u1≤1073914623∧jv≤d.shut.length∧t.get 1=some (.int .i64 ti)∧t.get 5=some (.int .i64 u1)∧t.get 34=some (v_d_shut)∧t.get 35=some (.int .i64 (d.shut.length:Int))∧t.get 36=some (.int .i64 (jv:Int))∧Agree S S'∧S4e.next≤S'.next∧R142_1 d ti (d.shut.drop jv) u1=R142_1 d ti d.shut (R142_0 d ti d.hours ti))
  (fun x t S'=>x=.exit 2∧∃ (jv:Nat) (u1:Int),t.get 5=some (.int .i64 u1)∧Agree S S'∧S4e.next≤S'.next∧ti≤u1∧u1≤1073914623∧jv≤d.shut.length∧R142_1 d ti d.shut (R142_0 d ti d.hours ti)=u1) (d.shut.length - 0) ⟨0,R142_0 d ti d.hours ti,by first|rfl|omega|(simp; omega)|simp,by first|rfl|omega|(simp; omega)|simp,by first|rfl|omega|(simp; omega)|simp,by first|rfl|omega|(simp; omega)|simp,by simp only [SY,eq_self,Nat.reduceBEq,ge4_1]<;>rfl,by simp only [SY,eq_self,Nat.reduceBEq,ge4_5]<;>rfl,by simp only [SY,eq_self,Nat.reduceBEq]<;>rfl,by simp only [SY,eq_self,Nat.reduceBEq]<;>rfl,by simp only [SY,Nat.reduceBEq]<;>rfl,ge4,Nat.le_refl _,rfl⟩ (by
   rintro m t S18 ⟨jv,u1,hi18_0,hi18_1,hi18_2,hi18_3,g18_1,g18_5,g18_34,g18_35,g18_36,ga18,gn18,hd18⟩
   refine .run fun z he=>?_
   try simp (disch:=first|omega|assumption) only [E0_G,SY,off,agreeKind,Nat.reduceLT,Nat.reduceBEq,g18_35,g18_36] at he
   rcases dP ((jv:Int)<(d.shut.length:Int)) with ⟨h19a,h19⟩|⟨h19a,h19⟩
   ·have hx18:d.shut[jv]?=some (d.shut[jv]'(by first|omega|simp; omega)):=List.getElem?_eq_getElem _
    generalize d.shut[jv]'_=x18 at hx18
    have eb21:=hD.s _ (List.mem_of_getElem? hx18)
    obtain ⟨id20,of20,cc20,ty20,wr20,ex20,i20,j20,l20,q20⟩:=(hv_d_shut).at (P:=Tryz.prog) (t:=40) Tryz.underlying40 tz36 hx18
    have j20:=(ga18.2 id20 l20).trans j20
    have m20_0:cc20[of20]?=some (.int .i64 x18.lo):=q20 0 (show 0<2 by decide)
    have m20_1:cc20[of20+1]?=some (.int .i64 x18.hi):=q20 1 (show 1<2 by decide)
    obtain ⟨S22,e22,n22,b22,a22⟩:=push_open S18 (.cells [.int .i64 0,.int .i64 0] 36 0 true true)
    have g22:Agree S S22:=ga18.trans a22
    obtain ⟨S23,k23,n23,b23,q23⟩:=st_at (o:=0) (c':=[.int .i64 x18.lo,.int .i64 x18.hi]) (v:=.agg #[.int .i64 x18.lo,.int .i64 x18.hi]) tz36 b22 rfl rfl (show 0+2≤2 by decide) rfl
    have g23:Agree S S23:=⟨by have:=(g22).1; omega,fun id hid=>(q23 id (by have:=(g22).1; omega)).trans ((g22).2 id hid)⟩
    try simp (disch:=first|omega|assumption) only [E0_G,SY,off,agreeKind,allocV,ldA,rdCells,aggD,aField,Nat.reduceAdd,Nat.reduceLT,Nat.reduceBEq,TY_EvH12,g18_1,g18_34,g18_36,h19a,i20,j20,m20_0,m20_1,e22,k23,b23] at he
    rcases dP (ti<x18.lo) with ⟨h24a,h24⟩|⟨h24a,h24⟩
    ·have w25:IntKind.i64.wrap (x18.lo - 1)=x18.lo - 1:=by rw [IntWalk.i64_in]; omega
     have w26:IntKind.i64.wrap ((jv:Int)+1)=((jv+1:Nat):Int):=by rw [IntWalk.i64_in]<;>omega
     try simp (disch:=first|omega|assumption) only [E0_G,SY,off,agreeKind,ldA,aggD,aField,Nat.reduceAdd,Nat.reduceLT,Nat.reduceBEq,TY_EvH12,g18_5,g18_36,b23,h24a,w25,w26] at he
     rw [drop_cons' hx18] at hd18
     have hf:=(show _=(R142_1 d ti (d.shut.drop (jv+1)) (min u1 (x18.lo - 1)):Int) from (if_pos h24).trans (rfl)).symm.trans hd18
     exact .next he (m - 1) (by omega) ⟨(jv+1),min u1 (x18.lo - 1),by first|omega|(simp; omega)|simp,by first|omega|(simp; omega)|simp,by first|omega|(simp; omega)|simp,by first|omega|(simp; omega)|simp,(by simp only [SY,eq_self,Nat.reduceBEq,g18_1]<;>rfl),(by simp only [SY,eq_self,Nat.reduceBEq,g18_5]<;>rfl),(by simp only [SY,eq_self,Nat.reduceBEq,g18_34]<;>rfl),(by simp only [SY,eq_self,Nat.reduceBEq,g18_35]<;>rfl),(by simp only [SY,eq_self,Nat.reduceBEq,g18_36]<;>rfl),g23,by omega,hf⟩
    have w27:IntKind.i64.wrap ((jv:Int)+1)=((jv+1:Nat):Int):=by rw [IntWalk.i64_in]<;>omega
    try simp (disch:=first|omega|assumption) only [E0_G,SY,off,agreeKind,Nat.reduceAdd,Nat.reduceLT,Nat.reduceBEq,g18_36,h24a,w27] at he
    rw [drop_cons' hx18] at hd18
    have hf:=(show _=(R142_1 d ti (d.shut.drop (jv+1)) u1:Int) from (if_neg h24).trans (rfl)).symm.trans hd18
    exact .next he (m - 1) (by omega) ⟨(jv+1),u1,by first|omega|(simp; omega)|simp,by first|omega|(simp; omega)|simp,by first|omega|(simp; omega)|simp,by first|omega|(simp; omega)|simp,(by simp only [SY,eq_self,Nat.reduceBEq,g18_1]<;>rfl),(by simp only [SY,eq_self,Nat.reduceBEq,g18_5]<;>rfl),(by simp only [SY,eq_self,Nat.reduceBEq,g18_34]<;>rfl),(by simp only [SY,eq_self,Nat.reduceBEq,g18_35]<;>rfl),(by simp only [SY,eq_self,Nat.reduceBEq,g18_36]<;>rfl),g23,by omega,hf⟩
   try simp (disch:=first|omega|assumption) only [SY,h19a] at he
   rw [List.drop_eq_nil_of_le (show d.shut.length≤jv by omega)] at hd18
   have hf:=(show _=(u1:Int) from rfl).symm.trans hd18
   exact .exit he ⟨rfl,⟨jv,u1,(by simp only [SY,eq_self,Nat.reduceBEq,g18_5]<;>rfl),ga18,by omega,by first|omega|assumption|simp,by first|omega|assumption|simp,by first|omega|assumption|simp,hf.symm⟩⟩)
 obtain ⟨rfl,jv,u1,ge18_5,ge18,gm18,hj18_0,hj18_1,hj18_2,hR18⟩:=hQ18
 obtain rfl:u1=R142_1 d ti d.shut (R142_0 d ti d.hours ti):=hR18.symm
 try simp (disch:=first|omega|assumption) only [E0_G,SY,off,agreeKind,eq_self,if_true,Nat.reduceAdd,Nat.reduceLT,Nat.reduceBEq,ge18_5] at hz
 have hr:r142 d ti=R142_1 d ti d.shut (R142_0 d ti d.hours ti):=rfl
 exact fin hz (by rw [hr]) ge18
theorem nx_ge {d:Dr} (hO:OkO d) {t:Int} (ht:0≤t∧t≤1073741824):t≤r89 d t∧r89 d t≤1073741824:=by
 rcases r89_nx hO ht.1 with ⟨h1,_⟩|⟨h1,h2,_⟩<;>omega
theorem R142_0_ge {d:Dr} (hD:OkD d) {ti:Int} (ht:0≤ti∧ti≤1073741823):∀ (m:List Sp) (u:Int),Bd 86399 m→ti≤u→u≤1073914623→ti≤R142_0 d ti m u∧R142_0 d ti m u≤1073914623:=by
 have hq:=r160_ok ht.1
 intro m
 induction m with
 | nil=>intro u _ h1 h2; exact ⟨h1,h2⟩
 | cons x m ih =>
  intro u hb h1 h2
  have hx:=hb x (by simp)
  have hb':Bd 86399 m:=fun y hy=>hb y (by simp [hy])
  rw [R142_0]
  split
  ·rename_i h
   have h:=r133_iff.1 h
   exact ih _ hb' (by omega) (by omega)
  ·exact ih _ hb' h1 h2
theorem R142_1_ge (d:Dr) (ti:Int):∀ (m:List Sp) (u:Int),ti≤u→u≤1073914623→ti≤R142_1 d ti m u∧R142_1 d ti m u≤1073914623:=by
 intro m
 induction m with
 | nil=>intro u h1 h2; exact ⟨h1,h2⟩
 | cons x m ih =>
  intro u h1 h2
  rw [R142_1]
  split
  ·exact ih _ (by omega) (by omega)
  ·exact ih _ h1 h2
theorem r142_ge {d:Dr} (hD:OkD d) {ti:Int} (ht:0≤ti∧ti≤1073741823):ti≤r142 d ti∧r142 d ti≤1073914623:=by
 have h1:=R142_0_ge hD ht d.hours ti hD.h (by omega) (by omega)
 exact R142_1_ge d ti d.shut _ h1.1 h1.2
theorem r141_eq (a b c d:Int):(r141 a b c d).1=max a c∧(r141 a b c d).2=min b d:=⟨rfl,rfl⟩
def R140_0 (hours:List Sp) (shut:List Sp) (slo shi:Int)  : Nat→Int→List Sp
 | 0,tv=>[]
 | m'+1,tv=>(if tv≤shi then ((⟨((r141 slo shi tv (r142 (⟨hours,shut⟩:Dr) tv))).1,((r141 slo shi tv (r142 (⟨hours,shut⟩:Dr) tv))).2⟩:Sp) :: R140_0 hours shut slo shi m' (r89 (⟨hours,shut⟩:Dr) ((((r141 slo shi tv (r142 (⟨hours,shut⟩:Dr) tv))).2)+1))) else [])
def r140 (hours:List Sp) (shut:List Sp) (slo shi:Int):List Sp:=R140_0 hours shut slo shi ((shi+1 - slo).toNat+1) (r89 (⟨hours,shut⟩:Dr) slo)
set_option maxHeartbeats 8000000 in
theorem it140 (hours:List Sp) (shut:List Sp) (slo shi:Int) (hO:OkO (⟨hours,shut⟩:Dr)) (hs:0≤slo∧slo≤shi∧shi≤1073741823) (S:AS) (y:Nat) (I:Nat→(Nat→Prop)→AS→Prop) (T0:Nat→Prop) (hy:YieldOk Tryz.prog E0 S y (fun b:Sp=>Value.agg (cellsOf b).toArray) (r140 hours shut slo shi) I) (h0:I 0 T0 S) (v_hours:Value) (hv_hours:Lst S v_hours hours) (nv_hours:∀ b,blkOf v_hours=some b→¬ T0 b) (v_shut:Value) (hv_shut:Lst S v_shut shut) (nv_shut:∀ b,blkOf v_shut=some b→¬ T0 b) (p_d:Nat) (g_d:S.heap.get p_d=some (.cells [v_hours,v_shut] 98 0 true true)) (l_d:p_d<S.next) (n_d:¬ T0 p_d) (p_s:Nat) (g_s:S.heap.get p_s=some (.cells [.int .i64 slo,.int .i64 shi] 36 0 true true)) (l_s:p_s<S.next) (n_s:¬ T0 p_s) :
  ∃ S' T',(evL Tryz.prog E0).call 140 #[.func (.yield y) #[] #[],.pointer (some ⟨p_d,0,none⟩),.pointer (some ⟨p_s,0,none⟩)] S=some (.tuple #[],S')∧I (r140 hours shut slo shi).length T' S'∧Off T0 S S'∧Wider T0 S T':=by
 have hbeg:(r140 hours shut slo shi).drop 0=R140_0 hours shut slo shi ((shi+1 - slo).toNat+1) (r89 (⟨hours,shut⟩:Dr) slo):=rfl
 generalize hz:(evL Tryz.prog E0).call 140 _ _=z
 rw [L_call,evCall_said rfl Tryz.func140 rfl (by decide) Tryz.ntmps140 Tryz.results140] at hz
 obtain ⟨S1,k1,a1⟩:=c89 (⟨hours,shut⟩:Dr) slo hO.o (by omega) S (v_hours) ((hv_hours.off (Off.refl T0 S) nv_hours)) (v_shut) ((hv_shut.off (Off.refl T0 S) nv_shut))
 have l1:=a1.1
 have s1:E0.same S S1=true:=symEnv_same a1
 have vd_1:=(a1.2 p_d (by omega)).trans g_d
 have vs_1:=(a1.2 p_s (by omega)).trans g_s
 have g1:Off T0 S S1:=Off.agree (Off.refl T0 S) a1
 have hI1:=hy.keep _ _ _ _ h0 a1.1 (fun id hid _=>a1.2 id hid)
 have p1:=nx_ge hO (show 0≤slo∧slo≤1073741824 by omega)
 try simp (disch:=first|omega|assumption) only [E0_G,SY,setArgs,off,agreeKind,vals,ldA,rdCells,aggD,aField,Nat.reduceAdd,Nat.reduceSub,Nat.reduceLT,Nat.reduceBEq,TY_EvH12,g_d,g_s,k1] at hz
 generalize hL2:Rec.loop _ _ _ _=L2 at hz
 obtain ⟨x2,t2,S2e,rfl,hQ2⟩:=loop_met hL2 (fun m t S'=>∃ (cI:Nat) (TI:Nat→Prop) (tv:Int),shi+1 - tv<(m:Int)∧1≤m∧0≤tv∧slo≤tv∧tv≤1073741824∧cI≤(r140 hours shut slo shi).length∧t.get 0=some (.func (.yield y) #[] #[])∧t.get 1=some (.pointer (some ⟨p_d,0,none⟩))∧t.get 2=some (.pointer (some ⟨p_s,0,none⟩))∧t.get 4=some (.int .i64 tv)∧S'.heap.get p_d=some (.cells [v_hours,v_shut] 98 0 true true)∧S'.heap.get p_s=some (.cells [.int .i64 slo,.int .i64 shi] 36 0 true true)∧Off T0 S S'∧S1.next≤S'.next∧I cI TI S'∧Wider T0 S TI∧¬ TI p_d∧¬ TI p_s∧(r140 hours shut slo shi).drop cI=R140_0 hours shut slo shi m tv)
  (fun x t S'=>x=.exit 0∧∃ (cI:Nat) (TI:Nat→Prop) (tv:Int),S'.heap.get p_d=some (.cells [v_hours,v_shut] 98 0 true true)∧S'.heap.get p_s=some (.cells [.int .i64 slo,.int .i64 shi] 36 0 true true)∧Off T0 S S'∧S1.next≤S'.next∧I cI TI S'∧Wider T0 S TI∧¬ TI p_d∧¬ TI p_s∧0≤tv∧slo≤tv∧tv≤1073741824∧cI≤(r140 hours shut slo shi).length∧(r140 hours shut slo shi).drop cI=[]) ((shi+1 - slo).toNat+1) ⟨0,T0,(r89 (⟨hours,shut⟩:Dr) slo),by first|rfl|omega|(simp; omega)|simp,by first|rfl|omega|(simp; omega)|simp,by first|rfl|omega|(simp; omega)|simp,by first|rfl|omega|(simp; omega)|simp,by first|rfl|omega|(simp; omega)|simp,by first|rfl|omega|(simp; omega)|simp,by simp only [SY,eq_self,Nat.reduceBEq]<;>rfl,by simp only [SY,eq_self,Nat.reduceBEq]<;>rfl,by simp only [SY,eq_self,Nat.reduceBEq]<;>rfl,by simp only [SY,eq_self,Nat.reduceBEq]<;>rfl,vd_1,vs_1,g1,Nat.le_refl _,hI1,(Wider.refl T0 S),n_d,n_s,rfl⟩ (by
   rintro m t S2 ⟨cI,TI,tv,hi2_0,hi2_1,hi2_2,hi2_3,hi2_4,hi2_5,g2_0,g2_1,g2_2,g2_4,bb2_d,bb2_s,ga2,gn2,hI2,ww2,nt2_d,nt2_s,hd2⟩
   refine .run fun z he=>?_
   try simp (disch:=first|omega|assumption) only [E0_G,SY,off,agreeKind,ldA,aggD,aField,Nat.reduceAdd,Nat.reduceLT,Nat.reduceBEq,TY_EvH12,g2_2,g2_4,bb2_s] at he
   rcases dP (tv≤shi) with ⟨h3a,h3⟩|⟨h3a,h3⟩
   ·try simp (disch:=first|omega|assumption) only [SY,h3a] at he
    rw [code_draws2 _ _ _ 7 36 (some 5) (by kernel_rfl) (by kernel_rfl) (by kernel_rfl)] at he
    generalize hnd4:needy _=nd4 at he
    obtain ⟨S5,e5,n5,b5,a5⟩:=push_open S2 .resv
    have nt5:¬ TI S2.next:=fun h=>by have:=hy.low _ _ _ hI2 _ h; omega
    have vd_5:=(a5.2 p_d (by omega)).trans bb2_d
    have vs_5:=(a5.2 p_s (by omega)).trans bb2_s
    have g5:Off T0 S S5:=Off.agree ga2 a5
    have hI5:=hy.keep _ _ _ _ hI2 a5.1 (fun id hid _=>a5.2 id hid)
    have nn4_8:nd4 8=false:=by rw [← hnd4]; kernel_rfl
    obtain ⟨S6,k6,a6⟩:=c142 (⟨hours,shut⟩:Dr) tv hO.o (by omega) S5 (v_hours) ((hv_hours.off g5 nv_hours)) (v_shut) ((hv_shut.off g5 nv_shut))
    have l6:=a6.1
    have s6:E0.same S5 S6=true:=symEnv_same a6
    have vd_6:=(a6.2 p_d (by omega)).trans vd_5
    have vs_6:=(a6.2 p_s (by omega)).trans vs_5
    have v5_6:=(a6.2 S2.next (by omega)).trans b5
    have g6:Off T0 S S6:=Off.agree g5 a6
    have hI6:=hy.keep _ _ _ _ hI5 a6.1 (fun id hid _=>a6.2 id hid)
    have p6:=r142_ge hO.o (show 0≤tv∧tv≤1073741823 by omega)
    have y7:aBuild Tryz.prog 36 [(0,.int .i64 tv),(1,.int .i64 (r142 (⟨hours,shut⟩:Dr) tv))]=some (.agg #[.int .i64 tv,.int .i64 (r142 (⟨hours,shut⟩:Dr) tv)]):=by kernel_rfl
    obtain ⟨S8,k8,a8⟩:=c141 slo shi tv (r142 (⟨hours,shut⟩:Dr) tv)  S6
    have l8:=a8.1
    have s8:E0.same S6 S8=true:=symEnv_same a8
    have vd_8:=(a8.2 p_d (by omega)).trans vd_6
    have vs_8:=(a8.2 p_s (by omega)).trans vs_6
    have v5_8:=(a8.2 S2.next (by omega)).trans v5_6
    have g8:Off T0 S S8:=Off.agree g6 a8
    have hI8:=hy.keep _ _ _ _ hI6 a8.1 (fun id hid _=>a8.2 id hid)
    have p8:=r141_eq slo shi tv (r142 (⟨hours,shut⟩:Dr) tv)
    try simp (disch:=first|omega|assumption) only [E0_G,SY,agreeKind,partVals,vals,ldA,rdCells,aggD,Nat.reduceAdd,Nat.reduceLT,Nat.reduceBEq,TY_EvH12,g2_1,g2_2,g2_4,vd_5,vs_5,e5,start2_list,List.take_succ_cons,List.take_zero,List.drop_succ_cons,List.drop_zero,store_agree,store_refl E0_same,k6,y7,k8] at he
    obtain ⟨S9,k9,n9,b9,q9⟩:=fill_at (P:=Tryz.prog) (e:=36) (c:=[.int .i64 0,.int .i64 0]) v5_8 (by kernel_rfl) (by kernel_rfl)
    have vd_9:=(q9 p_d (by omega)).trans vd_8
    have vs_9:=(q9 p_s (by omega)).trans vs_8
    have g9:Off T0 S S9:=Off.put g8 (by omega) n9 q9
    have hI9:=hy.keep _ _ _ _ hI8 (by omega) (fun id hid hh=>q9 id (fun e=>hh.elim (fun h'=>nt5 (e ▸ h')) (fun h'=>by omega)))
    obtain ⟨S10,k10,n10,b10,q10⟩:=st_at (o:=0) (c':=[.int .i64 (((r141 slo shi tv (r142 (⟨hours,shut⟩:Dr) tv))).1),.int .i64 (((r141 slo shi tv (r142 (⟨hours,shut⟩:Dr) tv))).2)]) (v:=.agg #[.int .i64 (((r141 slo shi tv (r142 (⟨hours,shut⟩:Dr) tv))).1),.int .i64 (((r141 slo shi tv (r142 (⟨hours,shut⟩:Dr) tv))).2)]) tz36 b9 rfl rfl (show 0+2≤2 by decide) rfl
    have vd_10:=(q10 p_d (by omega)).trans vd_9
    have vs_10:=(q10 p_s (by omega)).trans vs_9
    have g10:Off T0 S S10:=Off.put g9 (by omega) n10 q10
    have hI10:=hy.keep _ _ _ _ hI9 (by omega) (fun id hid hh=>q10 id (fun e=>hh.elim (fun h'=>nt5 (e ▸ h')) (fun h'=>by omega)))
    obtain ⟨m',rfl⟩:∃ m',m=m'+1:=⟨m - 1,by omega⟩
    have yy11:=drop_unc (x:=(⟨((r141 slo shi tv (r142 (⟨hours,shut⟩:Dr) tv))).1,((r141 slo shi tv (r142 (⟨hours,shut⟩:Dr) tv))).2⟩:Sp)) (hd2.trans ((if_pos h3).trans (rfl)))
    obtain ⟨S11,T11,k11,hI11,f11,w11⟩:=hy.step _ _ _ _ yy11.1 hI10
    replace k11:(evL Tryz.prog E0).round y #[.agg #[.int .i64 (((r141 slo shi tv (r142 (⟨hours,shut⟩:Dr) tv))).1),.int .i64 (((r141 slo shi tv (r142 (⟨hours,shut⟩:Dr) tv))).2)]] S10=some (.bool true,S11):=k11
    have l11:=f11.1
    have cl11:=(List.getElem?_eq_some_iff.1 yy11.1).1
    have vd_11:=(f11.2 p_d (by omega) nt2_d).trans vd_10
    have ntd_11:¬ T11 p_d:=w11.not (by omega) nt2_d
    have vs_11:=(f11.2 p_s (by omega) nt2_s).trans vs_10
    have nts_11:¬ T11 p_s:=w11.not (by omega) nt2_s
    have v5_11:=(f11.2 S2.next (by omega) nt5).trans b10
    have nt5_11:¬ T11 S2.next:=w11.not (by omega) nt5
    have g11:Off T0 S S11:=Off.trans g10 ww2 f11
    have ww11:Wider T0 S T11:=Wider.trans ww2 w11 (g10).1
    have w12:IntKind.i64.wrap ((((r141 slo shi tv (r142 (⟨hours,shut⟩:Dr) tv))).2)+1)=(((r141 slo shi tv (r142 (⟨hours,shut⟩:Dr) tv))).2)+1:=by rw [IntWalk.i64_in]; omega
    obtain ⟨S13,k13,a13⟩:=c89 (⟨hours,shut⟩:Dr) ((((r141 slo shi tv (r142 (⟨hours,shut⟩:Dr) tv))).2)+1) hO.o (by omega) S11 (v_hours) ((hv_hours.off g11 nv_hours)) (v_shut) ((hv_shut.off g11 nv_shut))
    have l13:=a13.1
    have s13:E0.same S11 S13=true:=symEnv_same a13
    have vd_13:=(a13.2 p_d (by omega)).trans vd_11
    have vs_13:=(a13.2 p_s (by omega)).trans vs_11
    have g13:Off T0 S S13:=Off.agree g11 a13
    have hI13:=hy.keep _ _ _ _ hI11 a13.1 (fun id hid _=>a13.2 id hid)
    have p13:=nx_ge hO (show 0≤((((r141 slo shi tv (r142 (⟨hours,shut⟩:Dr) tv))).2)+1)∧((((r141 slo shi tv (r142 (⟨hours,shut⟩:Dr) tv))).2)+1)≤1073741824 by omega)
    try simp (disch:=first|omega|assumption) only [E0_G,SY,off,agreeKind,vals,ldA,rdCells,aggD,aField,Nat.reduceAdd,Nat.reduceLT,Nat.reduceBEq,TY_EvH12,calledV_yield,firstOf_none,op_round,roundV_some,g2_0,g2_1,nn4_8,store_agree,store_refl E0_same,k9,k10,b10,k11,vd_11,v5_11,w12,k13] at he
    have hf:=yy11.2.trans (show _=(R140_0 hours shut slo shi m' (r89 (⟨hours,shut⟩:Dr) ((((r141 slo shi tv (r142 (⟨hours,shut⟩:Dr) tv))).2)+1)):List Sp) from rfl)
    exact .next he m' (by omega) ⟨(cI+1),T11,(r89 (⟨hours,shut⟩:Dr) ((((r141 slo shi tv (r142 (⟨hours,shut⟩:Dr) tv))).2)+1)),by first|omega|(simp; omega)|simp,by first|omega|(simp; omega)|simp,by first|omega|(simp; omega)|simp,by first|omega|(simp; omega)|simp,by first|omega|(simp; omega)|simp,by first|omega|(simp; omega)|simp,(by simp only [SY,eq_self,Nat.reduceBEq,g2_0]<;>rfl),(by simp only [SY,eq_self,Nat.reduceBEq,g2_1]<;>rfl),(by simp only [SY,eq_self,Nat.reduceBEq,g2_2]<;>rfl),(by simp only [SY,eq_self,Nat.reduceBEq,g2_4]<;>rfl),vd_13,vs_13,g13,by omega,hI13,ww11,ntd_11,nts_11,hf⟩
   try simp (disch:=first|omega|assumption) only [SY,h3a] at he
   obtain ⟨m',rfl⟩:∃ m',m=m'+1:=⟨m - 1,by omega⟩
   have hf:=hd2.trans (show _=([]:List Sp) from (if_neg h3).trans (rfl))
   exact .exit he ⟨rfl,⟨cI,TI,tv,bb2_d,bb2_s,ga2,by omega,hI2,ww2,nt2_d,nt2_s,by first|omega|assumption|simp,by first|omega|assumption|simp,by first|omega|assumption|simp,by first|omega|assumption|simp,hf⟩⟩)
 obtain ⟨rfl,cI,TI,tv,be2_d,be2_s,ge2,gm2,hIe2,we2,nte2_d,nte2_s,hj2_0,hj2_1,hj2_2,hj2_3,hR2⟩:=hQ2
 try simp (disch:=first|omega|assumption) only [SY,eq_self,if_true] at hz
 have hc:cI=(r140 hours shut slo shi).length:=Nat.le_antisymm (by omega) (drop_end hR2)
 exact ⟨S2e,TI,hz.symm,(hc ▸ hIe2),ge2,we2⟩
end House
end Go.Proofs
