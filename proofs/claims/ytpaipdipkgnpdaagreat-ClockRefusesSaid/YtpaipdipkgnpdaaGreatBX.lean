import Derived.Test.YtpaipdipkgnpdaaGreatBW
import Derived.Test.YtpaipdipkgnpdaaGreatAevCb
section
set_option linter.unusedSimpArgs false
set_option linter.unusedVariables false
namespace Go.Proofs
namespace Clock
open Go Go.RowKit Go.Aev
set_option maxRecDepth 100000
theorem TY_EvW18:type_of% TY_EvW16:=TY_EvW16
def R186_0 (id inLo inHi outLo outHi zLo zHi eLo eHi rLo rHi:Int) (stops:List Stp) (strikes:List Sk) (sights:List Sg)  : List Sk→Nat→List (Nd × Sp)
 | [],kv=>[((⟨2,0⟩:Nd),(⟨eLo,eHi⟩:Sp))]
 | x4 :: l',kv=>(((⟨((r113 (kv:Int))).1,((r113 (kv:Int))).2⟩:Nd),(⟨x4.lo,x4.hi⟩:Sp)) :: R186_0 id inLo inHi outLo outHi zLo zHi eLo eHi rLo rHi stops strikes sights l' (kv+1))
def r186 (id inLo inHi outLo outHi zLo zHi eLo eHi rLo rHi:Int) (stops:List Stp) (strikes:List Sk) (sights:List Sg):List (Nd × Sp):=((⟨1,0⟩:Nd),(⟨zLo,zHi⟩:Sp)) :: R186_0 id inLo inHi outLo outHi zLo zHi eLo eHi rLo rHi stops strikes sights strikes 0
set_option maxHeartbeats 8000000 in
theorem it186 (id inLo inHi outLo outHi zLo zHi eLo eHi rLo rHi:Int) (stops:List Stp) (strikes:List Sk) (sights:List Sg) (hk:strikes.length≤100) (hg:sights.length≤1000) (S:AS) (y:Nat) (I J:Nat→(Nat→Prop)→AS→Prop) (T0:Nat→Prop) (hy:YieldS Tryz.prog E0 S y (fun b:Nd × Sp=>#[Value.agg (cellsOf b.1).toArray,Value.agg (cellsOf b.2).toArray]) (r186 id inLo inHi outLo outHi zLo zHi eLo eHi rLo rHi stops strikes sights) I J) (h0:I 0 T0 S) (v_stops:Value) (hv_stops:Lst S v_stops stops) (nv_stops:∀ b,blkOf v_stops=some b→¬ T0 b) (v_strikes:Value) (hv_strikes:Lst S v_strikes strikes) (nv_strikes:∀ b,blkOf v_strikes=some b→¬ T0 b) (v_sights:Value) (hv_sights:Lst S v_sights sights) (nv_sights:∀ b,blkOf v_sights=some b→¬ T0 b) (p_r:Nat) (g_r:S.heap.get p_r=some (.cells [.int .i64 id,.int .i64 inLo,.int .i64 inHi,.int .i64 outLo,.int .i64 outHi,.int .i64 zLo,.int .i64 zHi,.int .i64 eLo,.int .i64 eHi,.int .i64 rLo,.int .i64 rHi,v_stops,v_strikes,v_sights] 30 0 true true)) (l_r:p_r<S.next) (n_r:¬ T0 p_r) :
  ∃ S' T',(evL Tryz.prog E0).call 186 #[.func (.yield y) #[] #[],.pointer (some ⟨p_r,0,none⟩)] S=some (.tuple #[],S')∧(I (r186 id inLo inHi outLo outHi zLo zHi eLo eHi rLo rHi stops strikes sights).length T' S'∨∃ i b,(r186 id inLo inHi outLo outHi zLo zHi eLo eHi rLo rHi stops strikes sights)[i]?=some b∧J i T' S')∧Off T0 S S'∧Wider T0 S T':=by
 have hbeg:(r186 id inLo inHi outLo outHi zLo zHi eLo eHi rLo rHi stops strikes sights).drop 0=((⟨1,0⟩:Nd),(⟨zLo,zHi⟩:Sp)) :: R186_0 id inLo inHi outLo outHi zLo zHi eLo eHi rLo rHi stops strikes sights strikes 0:=rfl
 generalize hz:(evL Tryz.prog E0).call 186 _ _=z
 rw [L_call,evCall_said rfl Tryz.func186 rfl (by decide) Tryz.ntmps186 Tryz.results186] at hz
 have y1:aBuild Tryz.prog 131 [(0,.int .i64 1)]=some (.agg #[.int .i64 1,.int .i64 0]):=by kernel_rfl
 have yy2:=drop_unc (x:=((⟨1,0⟩:Nd),(⟨zLo,zHi⟩:Sp))) (hbeg.trans (rfl))
 have hq2:=yy2.2
 rcases hy.step _ _ _ _ yy2.1 h0 with ⟨S2,T2,k2,hI2,f2,w2⟩|⟨S2,T2,k2,hI2,f2,w2⟩
 ·replace k2:(evL Tryz.prog E0).round y #[.agg #[.int .i64 1,.int .i64 0],.agg #[.int .i64 zLo,.int .i64 zHi]] S=some (.bool true,S2):=k2
  have l2:=f2.1
  have cl2:=(List.getElem?_eq_some_iff.1 yy2.1).1
  have vr_2:=(f2.2 p_r (by omega) n_r).trans g_r
  have ntr_2:¬ T2 p_r:=w2.not (by omega) n_r
  have g2:Off T0 S S2:=Off.trans (Off.refl T0 S) (Wider.refl T0 S) f2
  have ww2:Wider T0 S T2:=Wider.trans (Wider.refl T0 S) w2 ((Off.refl T0 S)).1
  have w3:=((hv_strikes.off g2 nv_strikes)).len (P:=Tryz.prog) (t:=27) Tryz.underlying27
  try simp (disch:=first|omega|assumption) only [E0_G,SY,setArgs,off,agreeKind,partVals,vals,ldA,rdCells,aggD,aField,Nat.reduceAdd,Nat.reduceSub,Nat.reduceLT,Nat.reduceBEq,TY_EvW18,calledV_yield,firstOf_none,op_round,roundV_some,g_r,y1,k2,vr_2,w3] at hz
  generalize hL4:Rec.loop _ _ _ _=L4 at hz
  obtain ⟨x4,t4,S4e,rfl,hQ4⟩:=loop_met hL4 (fun m t S'=>∃ (cI:Nat) (TI:Nat→Prop) (kv:Nat),m+kv=strikes.length∧kv≤strikes.length∧cI≤(r186 id inLo inHi outLo outHi zLo zHi eLo eHi rLo rHi stops strikes sights).length∧t.get 0=some (.func (.yield y) #[] #[])∧t.get 1=some (.pointer (some ⟨p_r,0,none⟩))∧t.get 13=some (v_strikes)∧t.get 14=some (.int .i64 (strikes.length:Int))∧t.get 15=some (.int .i64 (kv:Int))∧S'.heap.get p_r=some (.cells [.int .i64 id,.int .i64 inLo,.int .i64 inHi,.int .i64 outLo,.int .i64 outHi,.int .i64 zLo,.int .i64 zHi,.int .i64 eLo,.int .i64 eHi,.int .i64 rLo,.int .i64 rHi,v_stops,v_strikes,v_sights] 30 0 true true)∧Off T0 S S'∧S2.next≤S'.next∧I cI TI S'∧Wider T0 S TI∧¬ TI p_r∧(r186 id inLo inHi outLo outHi zLo zHi eLo eHi rLo rHi stops strikes sights).drop cI=R186_0 id inLo inHi outLo outHi zLo zHi eLo eHi rLo rHi stops strikes sights (strikes.drop kv) kv)
   (fun x t S'=>(x=.exit 0∧∃ (cI:Nat) (TI:Nat→Prop) (kv:Nat),t.get 0=some (.func (.yield y) #[] #[])∧t.get 1=some (.pointer (some ⟨p_r,0,none⟩))∧S'.heap.get p_r=some (.cells [.int .i64 id,.int .i64 inLo,.int .i64 inHi,.int .i64 outLo,.int .i64 outHi,.int .i64 zLo,.int .i64 zHi,.int .i64 eLo,.int .i64 eHi,.int .i64 rLo,.int .i64 rHi,v_stops,v_strikes,v_sights] 30 0 true true)∧Off T0 S S'∧S2.next≤S'.next∧I cI TI S'∧Wider T0 S TI∧¬ TI p_r∧kv≤strikes.length∧cI≤(r186 id inLo inHi outLo outHi zLo zHi eLo eHi rLo rHi stops strikes sights).length∧(r186 id inLo inHi outLo outHi zLo zHi eLo eHi rLo rHi stops strikes sights).drop cI=[((⟨2,0⟩:Nd),(⟨eLo,eHi⟩:Sp))])∨(x=.ret∧∃ (cI:Nat) (TI:Nat→Prop) (bI:Nd × Sp),(r186 id inLo inHi outLo outHi zLo zHi eLo eHi rLo rHi stops strikes sights)[cI]?=some bI∧J cI TI S'∧Off T0 S S'∧Wider T0 S TI)) (strikes.length - 0) (by refine ⟨(0+1),T2,0,?_,?_,?_,?_,?_,?_,?_,?_,vr_2,g2,Nat.le_refl _,hI2,ww2,ntr_2,yy2.2⟩<;>first|(simp only [SY,eq_self,Nat.reduceBEq]<;>rfl)|omega|assumption|(simp; omega)|simp) (by
    rintro m t S4 ⟨cI,TI,kv,hi4_0,hi4_1,hi4_2,g4_0,g4_1,g4_13,g4_14,g4_15,bb4_r,ga4,gn4,hI4,ww4,nt4_r,hd4⟩
    refine .run fun z he=>?_
    try simp (disch:=first|omega|assumption) only [E0_G,SY,off,agreeKind,Nat.reduceLT,Nat.reduceBEq,g4_14,g4_15] at he
    rcases dP ((kv:Int)<(strikes.length:Int)) with ⟨h5a,h5⟩|⟨h5a,h5⟩
    ·have hx4:strikes[kv]?=some (strikes[kv]'(by first|omega|simp; omega)):=List.getElem?_eq_getElem _
     generalize strikes[kv]'_=x4 at hx4
     obtain ⟨id6,of6,cc6,ty6,wr6,ex6,i6,j6,l6,q6,bb6⟩:=(hv_strikes).at2 (P:=Tryz.prog) (t:=27) Tryz.underlying27 tz112 hx4
     have j6:=(ga4.2 id6 l6 (nv_strikes _ bb6)).trans j6
     have nt6:¬ TI id6:=ww4.not l6 (nv_strikes _ bb6)
     have m6_0:cc6[of6]?=some (.int .i64 x4.id):=q6 0 (show 0<3 by decide)
     have m6_1:cc6[of6+1]?=some (.int .i64 x4.lo):=q6 1 (show 1<3 by decide)
     have m6_2:cc6[of6+2]?=some (.int .i64 x4.hi):=q6 2 (show 2<3 by decide)
     obtain ⟨S7,e7,n7,b7,a7⟩:=push_open S4 (.cells [.int .i64 0,.int .i64 0,.int .i64 0] 112 0 true true)
     have nt7:¬ TI S4.next:=fun h=>by have:=hy.low _ _ _ hI4 _ h; omega
     have vr_7:=(a7.2 p_r (by omega)).trans bb4_r
     have v6_7:=(a7.2 id6 (by omega)).trans j6
     have g7:Off T0 S S7:=Off.agree ga4 a7
     have hI7:=hy.keep _ _ _ _ hI4 a7.1 (fun id hid _=>a7.2 id hid)
     have s7:E0.same S4 S7=true:=symEnv_same a7
     obtain ⟨S8,k8,n8,b8,q8⟩:=st_at (o:=0) (c':=[.int .i64 x4.id,.int .i64 x4.lo,.int .i64 x4.hi]) (v:=.agg #[.int .i64 x4.id,.int .i64 x4.lo,.int .i64 x4.hi]) tz112 b7 rfl rfl (show 0+3≤3 by decide) rfl
     have vr_8:=(q8 p_r (by omega)).trans vr_7
     have v6_8:=(q8 id6 (by omega)).trans v6_7
     have g8:Off T0 S S8:=Off.put g7 (by omega) n8 q8
     have hI8:=hy.keep _ _ _ _ hI7 (by omega) (fun id hid hh=>q8 id (fun e=>hh.elim (fun h'=>nt7 (e ▸ h')) (fun h'=>by omega)))
     try simp (disch:=first|omega|assumption) only [E0_G,SY,off,agreeKind,allocV,ldA,rdCells,aggD,Nat.reduceAdd,Nat.reduceLT,Nat.reduceBEq,TY_EvW18,g4_13,g4_15,h5a,i6,j6,m6_0,m6_1,m6_2,e7,k8] at he
     rw [code_draws _ _ _ (by kernel_rfl)] at he
     generalize hnd9:needy _=nd9 at he
     have nn9_5:nd9 5=false:=by rw [← hnd9]; kernel_rfl
     obtain ⟨S10,k10,a10⟩:=c113 (kv:Int)  S8
     have l10:=a10.1
     have s10:E0.same S8 S10=true:=symEnv_same a10
     have vr_10:=(a10.2 p_r (by omega)).trans vr_8
     have v6_10:=(a10.2 id6 (by omega)).trans v6_8
     have v7_10:=(a10.2 S4.next (by omega)).trans b8
     have g10:Off T0 S S10:=Off.agree g8 a10
     have hI10:=hy.keep _ _ _ _ hI8 a10.1 (fun id hid _=>a10.2 id hid)
     rw [drop_cons' hx4] at hd4
     have yy11:=drop_unc (x:=((⟨((r113 (kv:Int))).1,((r113 (kv:Int))).2⟩:Nd),(⟨x4.lo,x4.hi⟩:Sp))) (hd4.trans (rfl))
     have hq11:=yy11.2
     rcases hy.step _ _ _ _ yy11.1 hI10 with ⟨S11,T11,k11,hI11,f11,w11⟩|⟨S11,T11,k11,hI11,f11,w11⟩
     ·replace k11:(evL Tryz.prog E0).round y #[.agg #[.int .i64 (((r113 (kv:Int))).1),.int .i64 (((r113 (kv:Int))).2)],.agg #[.int .i64 x4.lo,.int .i64 x4.hi]] S10=some (.bool true,S11):=k11
      have l11:=f11.1
      have cl11:=(List.getElem?_eq_some_iff.1 yy11.1).1
      have vr_11:=(f11.2 p_r (by omega) nt4_r).trans vr_10
      have ntr_11:¬ T11 p_r:=w11.not (by omega) nt4_r
      have v6_11:=(f11.2 id6 (by omega) nt6).trans v6_10
      have nt6_11:¬ T11 id6:=w11.not (by omega) nt6
      have v7_11:=(f11.2 S4.next (by omega) nt7).trans v7_10
      have nt7_11:¬ T11 S4.next:=w11.not (by omega) nt7
      have g11:Off T0 S S11:=Off.trans g10 ww4 f11
      have ww11:Wider T0 S T11:=Wider.trans ww4 w11 (g10).1
      have w12:IntKind.i64.wrap ((kv:Int)+1)=((kv+1:Nat):Int):=by rw [IntWalk.i64_in]<;>omega
      try simp (disch:=first|omega|assumption) only [E0_G,SY,off,agreeKind,vals,ldA,rdCells,aggD,aField,Nat.reduceAdd,Nat.reduceLT,Nat.reduceBEq,TY_EvW18,calledV_yield,firstOf_none,op_round,roundV_some,g4_0,g4_15,nn9_5,store_agree,store_refl E0_same,k10,v7_10,k11,w12] at he
      have hf:=yy11.2.trans (show _=(R186_0 id inLo inHi outLo outHi zLo zHi eLo eHi rLo rHi stops strikes sights (strikes.drop (kv+1)) (kv+1):List (Nd × Sp)) from rfl)
      refine .next he (m - 1) (by omega) ⟨(cI+1),T11,(kv+1),?_,?_,?_,?_,?_,?_,?_,?_,vr_11,g11,by omega,hI11,ww11,ntr_11,hf⟩<;>first|(simp only [SY,eq_self,Nat.reduceBEq,g4_0,g4_1,g4_13,g4_14,g4_15]<;>rfl)|omega|assumption|(simp; omega)|simp
     replace k11:(evL Tryz.prog E0).round y #[.agg #[.int .i64 (((r113 (kv:Int))).1),.int .i64 (((r113 (kv:Int))).2)],.agg #[.int .i64 x4.lo,.int .i64 x4.hi]] S10=some (.bool false,S11):=k11
     have l11:=f11.1
     have cl11:=(List.getElem?_eq_some_iff.1 yy11.1).1
     have vr_11:=(f11.2 p_r (by omega) nt4_r).trans vr_10
     have ntr_11:¬ T11 p_r:=w11.not (by omega) nt4_r
     have v6_11:=(f11.2 id6 (by omega) nt6).trans v6_10
     have nt6_11:¬ T11 id6:=w11.not (by omega) nt6
     have v7_11:=(f11.2 S4.next (by omega) nt7).trans v7_10
     have nt7_11:¬ T11 S4.next:=w11.not (by omega) nt7
     have g11:Off T0 S S11:=Off.trans g10 ww4 f11
     have ww11:Wider T0 S T11:=Wider.trans ww4 w11 (g10).1
     try simp (disch:=first|omega|assumption) only [E0_G,SY,agreeKind,vals,ldA,rdCells,aggD,aField,Nat.reduceAdd,Nat.reduceLT,Nat.reduceBEq,TY_EvW18,calledV_yield,firstOf_none,op_round,roundV_some,g4_0,nn9_5,store_agree,store_refl E0_same,k10,v7_10,k11] at he
     exact .ret he (.inr ⟨rfl,cI,T11,_,yy11.1,hI11,g11,ww11⟩)
    try simp (disch:=first|omega|assumption) only [SY,h5a] at he
    rw [List.drop_eq_nil_of_le (show strikes.length≤kv by omega)] at hd4
    have hf:=hd4.trans (show _=([((⟨2,0⟩:Nd),(⟨eLo,eHi⟩:Sp))]:List (Nd × Sp)) from rfl)
    refine .exit he (.inl ⟨rfl,⟨cI,TI,kv,?_,?_,bb4_r,ga4,by omega,hI4,ww4,nt4_r,?_,?_,hf⟩⟩)<;>first|(simp only [SY,eq_self,Nat.reduceBEq,g4_0,g4_1]<;>rfl)|omega|assumption|(simp; omega)|simp)
  rcases hQ4 with ⟨rfl,hQ4⟩|⟨rfl,hQ4⟩
  ·obtain ⟨cI,TI,kv,ge4_0,ge4_1,be4_r,ge4,gm4,hIe4,we4,nte4_r,hj4_0,hj4_1,hR4⟩:=hQ4
   have y14:aBuild Tryz.prog 131 [(0,.int .i64 2)]=some (.agg #[.int .i64 2,.int .i64 0]):=by kernel_rfl
   have yy15:=drop_unc (x:=((⟨2,0⟩:Nd),(⟨eLo,eHi⟩:Sp))) (hR4.trans (rfl))
   have hq15:=yy15.2
   rcases hy.step _ _ _ _ yy15.1 hIe4 with ⟨S15,T15,k15,hI15,f15,w15⟩|⟨S15,T15,k15,hI15,f15,w15⟩
   ·replace k15:(evL Tryz.prog E0).round y #[.agg #[.int .i64 2,.int .i64 0],.agg #[.int .i64 eLo,.int .i64 eHi]] S4e=some (.bool true,S15):=k15
    have l15:=f15.1
    have cl15:=(List.getElem?_eq_some_iff.1 yy15.1).1
    have vr_15:=(f15.2 p_r (by omega) nte4_r).trans be4_r
    have ntr_15:¬ T15 p_r:=w15.not (by omega) nte4_r
    have g15:Off T0 S S15:=Off.trans ge4 we4 f15
    have ww15:Wider T0 S T15:=Wider.trans we4 w15 (ge4).1
    try simp (disch:=first|omega|assumption) only [E0_G,SY,off,agreeKind,partVals,vals,ldA,rdCells,aggD,aField,eq_self,if_true,Nat.reduceAdd,Nat.reduceLT,Nat.reduceBEq,TY_EvW18,calledV_yield,firstOf_none,op_round,roundV_some,ge4_0,ge4_1,be4_r,y14,k15] at hz
    have hc:(cI+1)=(r186 id inLo inHi outLo outHi zLo zHi eLo eHi rLo rHi stops strikes sights).length:=Nat.le_antisymm (by omega) (drop_end yy15.2)
    exact ⟨S15,T15,hz.symm,.inl (hc ▸ hI15),g15,ww15⟩
   replace k15:(evL Tryz.prog E0).round y #[.agg #[.int .i64 2,.int .i64 0],.agg #[.int .i64 eLo,.int .i64 eHi]] S4e=some (.bool false,S15):=k15
   have l15:=f15.1
   have cl15:=(List.getElem?_eq_some_iff.1 yy15.1).1
   have vr_15:=(f15.2 p_r (by omega) nte4_r).trans be4_r
   have ntr_15:¬ T15 p_r:=w15.not (by omega) nte4_r
   have g15:Off T0 S S15:=Off.trans ge4 we4 f15
   have ww15:Wider T0 S T15:=Wider.trans we4 w15 (ge4).1
   try simp (disch:=first|omega|assumption) only [E0_G,SY,off,agreeKind,partVals,vals,ldA,rdCells,aggD,aField,eq_self,if_true,Nat.reduceAdd,Nat.reduceLT,Nat.reduceBEq,TY_EvW18,calledV_yield,firstOf_none,op_round,roundV_some,ge4_0,ge4_1,be4_r,y14,k15] at hz
   exact ⟨S15,T15,hz.symm,.inr ⟨cI,_,yy15.1,hI15⟩,g15,ww15⟩
  obtain ⟨cI,TI,bI,hb4,hJ4,ge4,we4⟩:=hQ4
  try simp (disch:=first|omega|assumption) only [SY] at hz
  exact ⟨S4e,TI,hz.symm,.inr ⟨cI,_,hb4,hJ4⟩,ge4,we4⟩
 replace k2:(evL Tryz.prog E0).round y #[.agg #[.int .i64 1,.int .i64 0],.agg #[.int .i64 zLo,.int .i64 zHi]] S=some (.bool false,S2):=k2
 have l2:=f2.1
 have cl2:=(List.getElem?_eq_some_iff.1 yy2.1).1
 have vr_2:=(f2.2 p_r (by omega) n_r).trans g_r
 have ntr_2:¬ T2 p_r:=w2.not (by omega) n_r
 have g2:Off T0 S S2:=Off.trans (Off.refl T0 S) (Wider.refl T0 S) f2
 have ww2:Wider T0 S T2:=Wider.trans (Wider.refl T0 S) w2 ((Off.refl T0 S)).1
 try simp (disch:=first|omega|assumption) only [E0_G,SY,setArgs,off,agreeKind,partVals,vals,ldA,rdCells,aggD,aField,Nat.reduceAdd,Nat.reduceSub,Nat.reduceLT,Nat.reduceBEq,TY_EvW18,calledV_yield,firstOf_none,op_round,roundV_some,g_r,y1,k2] at hz
 exact ⟨S2,T2,hz.symm,.inr ⟨0,_,yy2.1,hI2⟩,g2,ww2⟩
def R187_0 (id inLo inHi outLo outHi zLo zHi eLo eHi rLo rHi:Int) (stops:List Stp) (strikes:List Sk) (sights:List Sg)  : List Sg→List (Nd × Sp)
 | []=>[]
 | x6 :: l'=>(((⟨((r113 (r84 (strikes:List Sk) x6.strike))).1,((r113 (r84 (strikes:List Sk) x6.strike))).2⟩:Nd),(⟨x6.lo,x6.hi⟩:Sp)) :: R187_0 id inLo inHi outLo outHi zLo zHi eLo eHi rLo rHi stops strikes sights l')
def r187 (id inLo inHi outLo outHi zLo zHi eLo eHi rLo rHi:Int) (stops:List Stp) (strikes:List Sk) (sights:List Sg):List (Nd × Sp):=((⟨1,0⟩:Nd),(⟨inLo,inHi⟩:Sp)) :: ((⟨2,0⟩:Nd),(⟨outLo,outHi⟩:Sp)) :: R187_0 id inLo inHi outLo outHi zLo zHi eLo eHi rLo rHi stops strikes sights sights
set_option maxHeartbeats 8000000 in
theorem it187 (id inLo inHi outLo outHi zLo zHi eLo eHi rLo rHi:Int) (stops:List Stp) (strikes:List Sk) (sights:List Sg) (hk:strikes.length≤100) (hg:sights.length≤1000) (S:AS) (y:Nat) (I J:Nat→(Nat→Prop)→AS→Prop) (T0:Nat→Prop) (hy:YieldS Tryz.prog E0 S y (fun b:Nd × Sp=>#[Value.agg (cellsOf b.1).toArray,Value.agg (cellsOf b.2).toArray]) (r187 id inLo inHi outLo outHi zLo zHi eLo eHi rLo rHi stops strikes sights) I J) (h0:I 0 T0 S) (v_stops:Value) (hv_stops:Lst S v_stops stops) (nv_stops:∀ b,blkOf v_stops=some b→¬ T0 b) (v_strikes:Value) (hv_strikes:Lst S v_strikes strikes) (nv_strikes:∀ b,blkOf v_strikes=some b→¬ T0 b) (v_sights:Value) (hv_sights:Lst S v_sights sights) (nv_sights:∀ b,blkOf v_sights=some b→¬ T0 b) (p_r:Nat) (g_r:S.heap.get p_r=some (.cells [.int .i64 id,.int .i64 inLo,.int .i64 inHi,.int .i64 outLo,.int .i64 outHi,.int .i64 zLo,.int .i64 zHi,.int .i64 eLo,.int .i64 eHi,.int .i64 rLo,.int .i64 rHi,v_stops,v_strikes,v_sights] 30 0 true true)) (l_r:p_r<S.next) (n_r:¬ T0 p_r) :
  ∃ S' T',(evL Tryz.prog E0).call 187 #[.func (.yield y) #[] #[],.pointer (some ⟨p_r,0,none⟩)] S=some (.tuple #[],S')∧(I (r187 id inLo inHi outLo outHi zLo zHi eLo eHi rLo rHi stops strikes sights).length T' S'∨∃ i b,(r187 id inLo inHi outLo outHi zLo zHi eLo eHi rLo rHi stops strikes sights)[i]?=some b∧J i T' S')∧Off T0 S S'∧Wider T0 S T':=by
 have hbeg:(r187 id inLo inHi outLo outHi zLo zHi eLo eHi rLo rHi stops strikes sights).drop 0=((⟨1,0⟩:Nd),(⟨inLo,inHi⟩:Sp)) :: ((⟨2,0⟩:Nd),(⟨outLo,outHi⟩:Sp)) :: R187_0 id inLo inHi outLo outHi zLo zHi eLo eHi rLo rHi stops strikes sights sights:=rfl
 generalize hz:(evL Tryz.prog E0).call 187 _ _=z
 rw [L_call,evCall_said rfl Tryz.func187 rfl (by decide) Tryz.ntmps187 Tryz.results187] at hz
 have y1:aBuild Tryz.prog 131 [(0,.int .i64 1)]=some (.agg #[.int .i64 1,.int .i64 0]):=by kernel_rfl
 have yy2:=drop_unc (x:=((⟨1,0⟩:Nd),(⟨inLo,inHi⟩:Sp))) (hbeg.trans (rfl))
 have hq2:=yy2.2
 rcases hy.step _ _ _ _ yy2.1 h0 with ⟨S2,T2,k2,hI2,f2,w2⟩|⟨S2,T2,k2,hI2,f2,w2⟩
 ·replace k2:(evL Tryz.prog E0).round y #[.agg #[.int .i64 1,.int .i64 0],.agg #[.int .i64 inLo,.int .i64 inHi]] S=some (.bool true,S2):=k2
  have l2:=f2.1
  have cl2:=(List.getElem?_eq_some_iff.1 yy2.1).1
  have vr_2:=(f2.2 p_r (by omega) n_r).trans g_r
  have ntr_2:¬ T2 p_r:=w2.not (by omega) n_r
  have g2:Off T0 S S2:=Off.trans (Off.refl T0 S) (Wider.refl T0 S) f2
  have ww2:Wider T0 S T2:=Wider.trans (Wider.refl T0 S) w2 ((Off.refl T0 S)).1
  have y3:aBuild Tryz.prog 131 [(0,.int .i64 2)]=some (.agg #[.int .i64 2,.int .i64 0]):=by kernel_rfl
  have yy4:=drop_unc (x:=((⟨2,0⟩:Nd),(⟨outLo,outHi⟩:Sp))) (yy2.2.trans (rfl))
  have hq4:=yy4.2
  rcases hy.step _ _ _ _ yy4.1 hI2 with ⟨S4,T4,k4,hI4,f4,w4⟩|⟨S4,T4,k4,hI4,f4,w4⟩
  ·replace k4:(evL Tryz.prog E0).round y #[.agg #[.int .i64 2,.int .i64 0],.agg #[.int .i64 outLo,.int .i64 outHi]] S2=some (.bool true,S4):=k4
   have l4:=f4.1
   have cl4:=(List.getElem?_eq_some_iff.1 yy4.1).1
   have vr_4:=(f4.2 p_r (by omega) ntr_2).trans vr_2
   have ntr_4:¬ T4 p_r:=w4.not (by omega) ntr_2
   have g4:Off T0 S S4:=Off.trans g2 ww2 f4
   have ww4:Wider T0 S T4:=Wider.trans ww2 w4 (g2).1
   have w5:=((hv_sights.off g4 nv_sights)).len (P:=Tryz.prog) (t:=28) Tryz.underlying28
   try simp (disch:=first|omega|assumption) only [E0_G,SY,setArgs,off,agreeKind,partVals,vals,ldA,rdCells,aggD,aField,Nat.reduceAdd,Nat.reduceSub,Nat.reduceLT,Nat.reduceBEq,TY_EvW18,calledV_yield,firstOf_none,op_round,roundV_some,g_r,y1,k2,vr_2,y3,k4,vr_4,w5] at hz
   generalize hL6:Rec.loop _ _ _ _=L6 at hz
   obtain ⟨x6,t6,S6e,rfl,hQ6⟩:=loop_met hL6 (fun m t S'=>∃ (cI:Nat) (TI:Nat→Prop) (kv:Nat),m+kv=sights.length∧kv≤sights.length∧cI≤(r187 id inLo inHi outLo outHi zLo zHi eLo eHi rLo rHi stops strikes sights).length∧t.get 0=some (.func (.yield y) #[] #[])∧t.get 1=some (.pointer (some ⟨p_r,0,none⟩))∧t.get 22=some (v_sights)∧t.get 23=some (.int .i64 (sights.length:Int))∧t.get 24=some (.int .i64 (kv:Int))∧S'.heap.get p_r=some (.cells [.int .i64 id,.int .i64 inLo,.int .i64 inHi,.int .i64 outLo,.int .i64 outHi,.int .i64 zLo,.int .i64 zHi,.int .i64 eLo,.int .i64 eHi,.int .i64 rLo,.int .i64 rHi,v_stops,v_strikes,v_sights] 30 0 true true)∧Off T0 S S'∧S4.next≤S'.next∧I cI TI S'∧Wider T0 S TI∧¬ TI p_r∧(r187 id inLo inHi outLo outHi zLo zHi eLo eHi rLo rHi stops strikes sights).drop cI=R187_0 id inLo inHi outLo outHi zLo zHi eLo eHi rLo rHi stops strikes sights (sights.drop kv))
    (fun x t S'=>(x=.exit 0∧∃ (cI:Nat) (TI:Nat→Prop) (kv:Nat),S'.heap.get p_r=some (.cells [.int .i64 id,.int .i64 inLo,.int .i64 inHi,.int .i64 outLo,.int .i64 outHi,.int .i64 zLo,.int .i64 zHi,.int .i64 eLo,.int .i64 eHi,.int .i64 rLo,.int .i64 rHi,v_stops,v_strikes,v_sights] 30 0 true true)∧Off T0 S S'∧S4.next≤S'.next∧I cI TI S'∧Wider T0 S TI∧¬ TI p_r∧kv≤sights.length∧cI≤(r187 id inLo inHi outLo outHi zLo zHi eLo eHi rLo rHi stops strikes sights).length∧(r187 id inLo inHi outLo outHi zLo zHi eLo eHi rLo rHi stops strikes sights).drop cI=[])∨(x=.ret∧∃ (cI:Nat) (TI:Nat→Prop) (bI:Nd × Sp),(r187 id inLo inHi outLo outHi zLo zHi eLo eHi rLo rHi stops strikes sights)[cI]?=some bI∧J cI TI S'∧Off T0 S S'∧Wider T0 S TI)) (sights.length - 0) (by refine ⟨((0+1)+1),T4,0,?_,?_,?_,?_,?_,?_,?_,?_,vr_4,g4,Nat.le_refl _,hI4,ww4,ntr_4,yy4.2⟩<;>first|(simp only [SY,eq_self,Nat.reduceAdd,Nat.reduceBEq]<;>rfl)|omega|assumption|(simp; omega)|simp) (by
     rintro m t S6 ⟨cI,TI,kv,hi6_0,hi6_1,hi6_2,g6_0,g6_1,g6_22,g6_23,g6_24,bb6_r,ga6,gn6,hI6,ww6,nt6_r,hd6⟩
     refine .run fun z he=>?_
     try simp (disch:=first|omega|assumption) only [E0_G,SY,off,agreeKind,Nat.reduceLT,Nat.reduceBEq,g6_23,g6_24] at he
     rcases dP ((kv:Int)<(sights.length:Int)) with ⟨h7a,h7⟩|⟨h7a,h7⟩
     ·have hx6:sights[kv]?=some (sights[kv]'(by first|omega|simp; omega)):=List.getElem?_eq_getElem _
      generalize sights[kv]'_=x6 at hx6
      obtain ⟨id8,of8,cc8,ty8,wr8,ex8,i8,j8,l8,q8,bb8⟩:=(hv_sights).at2 (P:=Tryz.prog) (t:=28) Tryz.underlying28 tz115 hx6
      have j8:=(ga6.2 id8 l8 (nv_sights _ bb8)).trans j8
      have nt8:¬ TI id8:=ww6.not l8 (nv_sights _ bb8)
      have m8_0:cc8[of8]?=some (.int .i64 x6.strike):=q8 0 (show 0<3 by decide)
      have m8_1:cc8[of8+1]?=some (.int .i64 x6.lo):=q8 1 (show 1<3 by decide)
      have m8_2:cc8[of8+2]?=some (.int .i64 x6.hi):=q8 2 (show 2<3 by decide)
      obtain ⟨S9,e9,n9,b9,a9⟩:=push_open S6 (.cells [.int .i64 0,.int .i64 0,.int .i64 0] 115 0 true true)
      have nt9:¬ TI S6.next:=fun h=>by have:=hy.low _ _ _ hI6 _ h; omega
      have vr_9:=(a9.2 p_r (by omega)).trans bb6_r
      have v8_9:=(a9.2 id8 (by omega)).trans j8
      have g9:Off T0 S S9:=Off.agree ga6 a9
      have hI9:=hy.keep _ _ _ _ hI6 a9.1 (fun id hid _=>a9.2 id hid)
      have s9:E0.same S6 S9=true:=symEnv_same a9
      obtain ⟨S10,k10,n10,b10,q10⟩:=st_at (o:=0) (c':=[.int .i64 x6.strike,.int .i64 x6.lo,.int .i64 x6.hi]) (v:=.agg #[.int .i64 x6.strike,.int .i64 x6.lo,.int .i64 x6.hi]) tz115 b9 rfl rfl (show 0+3≤3 by decide) rfl
      have vr_10:=(q10 p_r (by omega)).trans vr_9
      have v8_10:=(q10 id8 (by omega)).trans v8_9
      have g10:Off T0 S S10:=Off.put g9 (by omega) n10 q10
      have hI10:=hy.keep _ _ _ _ hI9 (by omega) (fun id hid hh=>q10 id (fun e=>hh.elim (fun h'=>nt9 (e ▸ h')) (fun h'=>by omega)))
      try simp (disch:=first|omega|assumption) only [E0_G,SY,off,agreeKind,allocV,ldA,rdCells,aggD,Nat.reduceAdd,Nat.reduceLT,Nat.reduceBEq,TY_EvW18,g6_22,g6_24,h7a,i8,j8,m8_0,m8_1,m8_2,e9,k10] at he
      rw [code_draws _ _ _ (by kernel_rfl)] at he
      generalize hnd11:needy _=nd11 at he
      have nn11_9:nd11 9=false:=by rw [← hnd11]; kernel_rfl
      obtain ⟨S12,k12,a12⟩:=c84 (strikes:List Sk) x6.strike (by first|omega|(simp; omega)) S10 (v_strikes) ((hv_strikes.off g10 nv_strikes))
      have l12:=a12.1
      have s12:E0.same S10 S12=true:=symEnv_same a12
      have vr_12:=(a12.2 p_r (by omega)).trans vr_10
      have v8_12:=(a12.2 id8 (by omega)).trans v8_10
      have v9_12:=(a12.2 S6.next (by omega)).trans b10
      have g12:Off T0 S S12:=Off.agree g10 a12
      have hI12:=hy.keep _ _ _ _ hI10 a12.1 (fun id hid _=>a12.2 id hid)
      obtain ⟨S13,k13,a13⟩:=c113 (r84 (strikes:List Sk) x6.strike)  S12
      have l13:=a13.1
      have s13:E0.same S12 S13=true:=symEnv_same a13
      have vr_13:=(a13.2 p_r (by omega)).trans vr_12
      have v8_13:=(a13.2 id8 (by omega)).trans v8_12
      have v9_13:=(a13.2 S6.next (by omega)).trans v9_12
      have g13:Off T0 S S13:=Off.agree g12 a13
      have hI13:=hy.keep _ _ _ _ hI12 a13.1 (fun id hid _=>a13.2 id hid)
      rw [drop_cons' hx6] at hd6
      have yy14:=drop_unc (x:=((⟨((r113 (r84 (strikes:List Sk) x6.strike))).1,((r113 (r84 (strikes:List Sk) x6.strike))).2⟩:Nd),(⟨x6.lo,x6.hi⟩:Sp))) (hd6.trans (rfl))
      have hq14:=yy14.2
      rcases hy.step _ _ _ _ yy14.1 hI13 with ⟨S14,T14,k14,hI14,f14,w14⟩|⟨S14,T14,k14,hI14,f14,w14⟩
      ·replace k14:(evL Tryz.prog E0).round y #[.agg #[.int .i64 (((r113 (r84 (strikes:List Sk) x6.strike))).1),.int .i64 (((r113 (r84 (strikes:List Sk) x6.strike))).2)],.agg #[.int .i64 x6.lo,.int .i64 x6.hi]] S13=some (.bool true,S14):=k14
       have l14:=f14.1
       have cl14:=(List.getElem?_eq_some_iff.1 yy14.1).1
       have vr_14:=(f14.2 p_r (by omega) nt6_r).trans vr_13
       have ntr_14:¬ T14 p_r:=w14.not (by omega) nt6_r
       have v8_14:=(f14.2 id8 (by omega) nt8).trans v8_13
       have nt8_14:¬ T14 id8:=w14.not (by omega) nt8
       have v9_14:=(f14.2 S6.next (by omega) nt9).trans v9_13
       have nt9_14:¬ T14 S6.next:=w14.not (by omega) nt9
       have g14:Off T0 S S14:=Off.trans g13 ww6 f14
       have ww14:Wider T0 S T14:=Wider.trans ww6 w14 (g13).1
       have w15:IntKind.i64.wrap ((kv:Int)+1)=((kv+1:Nat):Int):=by rw [IntWalk.i64_in]<;>omega
       try simp (disch:=first|omega|assumption) only [E0_G,SY,off,agreeKind,vals,ldA,rdCells,aggD,aField,Nat.reduceAdd,Nat.reduceLT,Nat.reduceBEq,TY_EvW18,calledV_yield,firstOf_none,op_round,roundV_some,g6_0,g6_1,g6_24,vr_10,b10,nn11_9,store_agree,store_refl E0_same,k12,k13,v9_13,k14,w15] at he
       have hf:=yy14.2.trans (show _=(R187_0 id inLo inHi outLo outHi zLo zHi eLo eHi rLo rHi stops strikes sights (sights.drop (kv+1)):List (Nd × Sp)) from rfl)
       refine .next he (m - 1) (by omega) ⟨(cI+1),T14,(kv+1),?_,?_,?_,?_,?_,?_,?_,?_,vr_14,g14,by omega,hI14,ww14,ntr_14,hf⟩<;>first|(simp only [SY,eq_self,Nat.reduceBEq,g6_0,g6_1,g6_22,g6_23,g6_24]<;>rfl)|omega|assumption|(simp; omega)|simp
      replace k14:(evL Tryz.prog E0).round y #[.agg #[.int .i64 (((r113 (r84 (strikes:List Sk) x6.strike))).1),.int .i64 (((r113 (r84 (strikes:List Sk) x6.strike))).2)],.agg #[.int .i64 x6.lo,.int .i64 x6.hi]] S13=some (.bool false,S14):=k14
      have l14:=f14.1
      have cl14:=(List.getElem?_eq_some_iff.1 yy14.1).1
      have vr_14:=(f14.2 p_r (by omega) nt6_r).trans vr_13
      have ntr_14:¬ T14 p_r:=w14.not (by omega) nt6_r
      have v8_14:=(f14.2 id8 (by omega) nt8).trans v8_13
      have nt8_14:¬ T14 id8:=w14.not (by omega) nt8
      have v9_14:=(f14.2 S6.next (by omega) nt9).trans v9_13
      have nt9_14:¬ T14 S6.next:=w14.not (by omega) nt9
      have g14:Off T0 S S14:=Off.trans g13 ww6 f14
      have ww14:Wider T0 S T14:=Wider.trans ww6 w14 (g13).1
      try simp (disch:=first|omega|assumption) only [E0_G,SY,agreeKind,vals,ldA,rdCells,aggD,aField,Nat.reduceAdd,Nat.reduceLT,Nat.reduceBEq,TY_EvW18,calledV_yield,firstOf_none,op_round,roundV_some,g6_0,g6_1,vr_10,b10,nn11_9,store_agree,store_refl E0_same,k12,k13,v9_13,k14] at he
      exact .ret he (.inr ⟨rfl,cI,T14,_,yy14.1,hI14,g14,ww14⟩)
     try simp (disch:=first|omega|assumption) only [SY,h7a] at he
     rw [List.drop_eq_nil_of_le (show sights.length≤kv by omega)] at hd6
     have hf:=hd6.trans (show _=([]:List (Nd × Sp)) from rfl)
     refine .exit he (.inl ⟨rfl,⟨cI,TI,kv,bb6_r,ga6,by omega,hI6,ww6,nt6_r,?_,?_,hf⟩⟩)<;>first|(simp only [SY,setArgs,off,agreeKind,partVals,vals,allocV,boxed,ldA,rdCells,oneB,aggD,aField,aFieldV,aExtract,eq_self,ne_eq,if_true,if_false,not_false_eq_true,Nat.reduceAdd,Nat.reduceSub,Nat.reduceMul,Nat.reduceLT,Nat.reduceEqDiff,Nat.reduceBEq,reduceIte,Int.reduceEq,Int.reduceLT,Int.reduceLE,reduceCtorEq,g6_0,g6_1,g6_22,g6_23,g6_24]<;>rfl)|omega|assumption|(simp; omega)|simp)
   rcases hQ6 with ⟨rfl,hQ6⟩|⟨rfl,hQ6⟩
   ·obtain ⟨cI,TI,kv,be6_r,ge6,gm6,hIe6,we6,nte6_r,hj6_0,hj6_1,hR6⟩:=hQ6
    try simp (disch:=first|omega|assumption) only [SY,eq_self,if_true] at hz
    have hc:cI=(r187 id inLo inHi outLo outHi zLo zHi eLo eHi rLo rHi stops strikes sights).length:=Nat.le_antisymm (by omega) (drop_end hR6)
    exact ⟨S6e,TI,hz.symm,.inl (hc ▸ hIe6),ge6,we6⟩
   obtain ⟨cI,TI,bI,hb6,hJ6,ge6,we6⟩:=hQ6
   try simp (disch:=first|omega|assumption) only [SY] at hz
   exact ⟨S6e,TI,hz.symm,.inr ⟨cI,_,hb6,hJ6⟩,ge6,we6⟩
  replace k4:(evL Tryz.prog E0).round y #[.agg #[.int .i64 2,.int .i64 0],.agg #[.int .i64 outLo,.int .i64 outHi]] S2=some (.bool false,S4):=k4
  have l4:=f4.1
  have cl4:=(List.getElem?_eq_some_iff.1 yy4.1).1
  have vr_4:=(f4.2 p_r (by omega) ntr_2).trans vr_2
  have ntr_4:¬ T4 p_r:=w4.not (by omega) ntr_2
  have g4:Off T0 S S4:=Off.trans g2 ww2 f4
  have ww4:Wider T0 S T4:=Wider.trans ww2 w4 (g2).1
  try simp (disch:=first|omega|assumption) only [E0_G,SY,setArgs,off,agreeKind,partVals,vals,ldA,rdCells,aggD,aField,Nat.reduceAdd,Nat.reduceSub,Nat.reduceLT,Nat.reduceBEq,TY_EvW18,calledV_yield,firstOf_none,op_round,roundV_some,g_r,y1,k2,vr_2,y3,k4] at hz
  exact ⟨S4,T4,hz.symm,.inr ⟨(0+1),_,yy4.1,hI4⟩,g4,ww4⟩
 replace k2:(evL Tryz.prog E0).round y #[.agg #[.int .i64 1,.int .i64 0],.agg #[.int .i64 inLo,.int .i64 inHi]] S=some (.bool false,S2):=k2
 have l2:=f2.1
 have cl2:=(List.getElem?_eq_some_iff.1 yy2.1).1
 have vr_2:=(f2.2 p_r (by omega) n_r).trans g_r
 have ntr_2:¬ T2 p_r:=w2.not (by omega) n_r
 have g2:Off T0 S S2:=Off.trans (Off.refl T0 S) (Wider.refl T0 S) f2
 have ww2:Wider T0 S T2:=Wider.trans (Wider.refl T0 S) w2 ((Off.refl T0 S)).1
 try simp (disch:=first|omega|assumption) only [E0_G,SY,setArgs,off,agreeKind,partVals,vals,ldA,rdCells,aggD,aField,Nat.reduceAdd,Nat.reduceSub,Nat.reduceLT,Nat.reduceBEq,TY_EvW18,calledV_yield,firstOf_none,op_round,roundV_some,g_r,y1,k2] at hz
 exact ⟨S2,T2,hz.symm,.inr ⟨0,_,yy2.1,hI2⟩,g2,ww2⟩
end Clock
end Go.Proofs
end
section
set_option linter.unusedSimpArgs false
set_option linter.unusedVariables false
namespace Go.Proofs
namespace Clock
open Go Go.RowKit Go.Aev
set_option maxRecDepth 100000
abbrev ndV (x:Nd):Value:=.agg #[.int .i64 x.kind,.int .i64 x.n]
abbrev mapN (es:List (Nd × Int)):List (Value × Value):=es.map fun x=>(ndV x.1,.int .i64 x.2)
def nLook:List (Nd × Int)→Nd→Option Int
 | [],_=>none
 | (q,v) :: es,k=>if k=q then some v else nLook es k
def nPut:List (Nd × Int)→Nd→Int→List (Nd × Int)
 | [],k,v=>[(k,v)]
 | (q,u) :: es,k,v=>if k=q then (k,v) :: es else (q,u) :: nPut es k v
abbrev nAt (es:List (Nd × Int)) (k:Nd):Int:=(nLook es k).getD 0
theorem eqP_nd (a b:Nd):eqP Tryz.prog 8 131 (ndV a) (ndV b)=some (decide (a=b)):=by
 have h:eqP Tryz.prog 8 131 (ndV a) (ndV b)=some ((a.kind == b.kind) && ((a.n == b.n) && true)):=by kernel_rfl
 rw [h]
 obtain ⟨a1,a2⟩:=a; obtain ⟨b1,b2⟩:=b
 congr 1
 by_cases h1:a1=b1<;>by_cases h2:a2=b2<;>simp [h1,h2]
theorem findE_nd (k:Nd):∀ (es:List (Nd × Int)) (i:Nat),(nLook es k=none∧findE Tryz.prog 131 (ndV k) (mapN es) i=some none)∨∃ v j,nLook es k=some v∧findE Tryz.prog 131 (ndV k) (mapN es) i=some (some (j,.int .i64 v)):=by
 intro es
 induction es with
 | nil=>intro i; exact .inl ⟨rfl,rfl⟩
 | cons x es ih =>
  intro i
  obtain ⟨q,v⟩:=x
  show (nLook ((q,v) :: es) k=none∧findE Tryz.prog 131 (ndV k) ((ndV q,.int .i64 v) :: mapN es) i=some none)∨_
  have e0:findE Tryz.prog 131 (ndV k) (mapN ((q,v) :: es)) i=findE Tryz.prog 131 (ndV k) ((ndV q,.int .i64 v) :: mapN es) i:=rfl
  by_cases h:k=q
  ·subst h
   refine .inr ⟨v,i,by simp [nLook],?_⟩
   have hb:(Instr.sameBits 10000 (ndV k) (ndV k) && selfB 8 (ndV k))=true:=by simp [Instr.sameBits,selfB]
   rw [e0,findE,eqP_nd,decide_eq_true rfl]
   simp only [hb]
  ·have e1:nLook ((q,v) :: es) k=nLook es k:=by simp [nLook,h]
   have e2:findE Tryz.prog 131 (ndV k) ((ndV q,.int .i64 v) :: mapN es) i=findE Tryz.prog 131 (ndV k) (mapN es) (i+1):=by
    rw [findE,eqP_nd,decide_eq_false h]
   rw [e1,e2]
   rcases ih (i+1) with h1|⟨v1,j,h1,h2⟩
   ·exact .inl h1
   ·exact .inr ⟨v1,j,h1,by rw [e0,e2]; exact h2⟩
theorem aFind_nd (k:Nd) (es:List (Nd × Int)) {fs:Array Field}:aFind Tryz.prog 131 (.struct fs) (ndV k) (mapN es)=findE Tryz.prog 131 (ndV k) (mapN es) 0:=by
 have hc:(aggD (.struct fs) && chkP Tryz.prog 8 131 (ndV k) && selfB 8 (ndV k))=true:=by
  have h1:chkP Tryz.prog 8 131 (ndV k)=true:=by kernel_rfl
  have h2:selfB 8 (ndV k)=true:=rfl
  rw [h1,h2]; rfl
 unfold aFind
 have hp:plainB (.struct fs) (ndV k)=false:=rfl
 rw [hp]
 simp only [hc]
theorem look_nd {S:AS} {id cl:Nat} {es:List (Nd × Int)} (hg:S.heap.get id=some (.mapb (mapN es) cl)) (k:Nd) :
  aLookup Tryz.prog 122 (.map (some id)) (ndV k) false S=some (.int .i64 (nAt es k)):=by
 unfold aLookup
 rw [Tryz.underlying122]
 simp only [Tryz.underlying131,hg]
 rw [aFind_nd]
 rcases findE_nd k es 0 with ⟨h1,h2⟩|⟨v,j,h1,h2⟩
 ·rw [h2]; simp only [nAt,h1]; kernel_rfl
 ·rw [h2]; simp only [nAt,h1]; rfl
theorem findE_put (k:Nd) (v:Int):∀ (es:List (Nd × Int)) (i:Nat),(findE Tryz.prog 131 (ndV k) (mapN es) i=some none∧mapN (nPut es k v)=mapN es++[(ndV k,.int .i64 v)]) ∨
  ∃ j u,findE Tryz.prog 131 (ndV k) (mapN es) i=some (some (i+j,u))∧mapN (nPut es k v)=(mapN es).set j (ndV k,.int .i64 v):=by
 intro es
 induction es with
 | nil=>intro i; exact .inl ⟨rfl,rfl⟩
 | cons x es ih =>
  intro i
  obtain ⟨q,u⟩:=x
  have e0:findE Tryz.prog 131 (ndV k) (mapN ((q,u) :: es)) i=findE Tryz.prog 131 (ndV k) ((ndV q,.int .i64 u) :: mapN es) i:=rfl
  by_cases h:k=q
  ·subst h
   refine .inr ⟨0,.int .i64 u,?_,by simp [nPut,mapN]⟩
   have hb:(Instr.sameBits 10000 (ndV k) (ndV k) && selfB 8 (ndV k))=true:=by simp [Instr.sameBits,selfB]
   rw [e0,findE,eqP_nd,decide_eq_true rfl]
   simp only [hb,Nat.add_zero]
  ·have e2:findE Tryz.prog 131 (ndV k) ((ndV q,.int .i64 u) :: mapN es) i=findE Tryz.prog 131 (ndV k) (mapN es) (i+1):=by
    rw [findE,eqP_nd,decide_eq_false h]
   rw [e0,e2]
   have e3:mapN (nPut ((q,u) :: es) k v)=(ndV q,.int .i64 u) :: mapN (nPut es k v):=by simp [nPut,h,mapN]
   rw [e3]
   rcases ih (i+1) with ⟨h1,h2⟩|⟨j,w,h1,h2⟩
   ·exact .inl ⟨h1,by rw [h2]; rfl⟩
   ·refine .inr ⟨j+1,w,?_,by rw [h2]; rfl⟩
    rw [h1,show i+1+j=i+(j+1) by omega]
theorem put_nd {S:AS} {id cl:Nat} {es:List (Nd × Int)} (hg:S.heap.get id=some (.mapb (mapN es) cl)) (k:Nd) (v:Int) :
  ∃ S' cl',aMapUpdate Tryz.prog 122 (.map (some id)) (ndV k) (.int .i64 v) S=some S'∧S'.next=S.next∧S'.heap.get id=some (.mapb (mapN (nPut es k v)) cl')∧∀ q,q≠id→S'.heap.get q=S.heap.get q:=by
 unfold aMapUpdate
 rw [Tryz.underlying122]
 simp only [Tryz.underlying131,hg]
 rw [aFind_nd]
 rcases findE_put k v es 0 with ⟨h1,h2⟩|⟨j,u,h1,h2⟩
 ·rw [h1]
  exact ⟨_,cl+1,rfl,rfl,by simp [T.get_set,h2],fun q hq=>by simp [T.get_set,hq]⟩
 ·rw [h1]
  simp only [Nat.zero_add]
  exact ⟨_,cl,rfl,rfl,by simp [T.get_set,h2],fun q hq=>by simp [T.get_set,hq]⟩
abbrev argsE:Nd × Sp→Array Value:=fun b=>#[Value.agg (cellsOf b.1).toArray,Value.agg (cellsOf b.2).toArray]
abbrev argsL:Lk→Array Value:=fun b=>#[Value.agg (cellsOf b).toArray]
abbrev rcCells (r:Rc) (v0 v1 v2:Value):List Value:=[.int .i64 r.ses.id,.int .i64 r.ses.inLo,.int .i64 r.ses.inHi,.int .i64 r.ses.outLo,.int .i64 r.ses.outHi,.int .i64 r.ses.zLo,.int .i64 r.ses.zHi,.int .i64 r.ses.eLo,.int .i64 r.ses.eHi,.int .i64 r.ses.rLo,.int .i64 r.ses.rHi,v0,v1,v2]
def BxR (K:Nat→Prop) (S:AS) (p:Nat) (r:Rc):Prop:=∃ v0 v1 v2,S.heap.get p=some (.cells (rcCells r v0 v1 v2) 30 0 true true)∧p<S.next∧¬ K p∧Lst S v0 r.ses.stops∧Lst S v1 r.strikes∧Lst S v2 r.sights ∧
 (∀ b,blkOf v0=some b→¬ K b)∧(∀ b,blkOf v1=some b→¬ K b)∧∀ b,blkOf v2=some b→¬ K b
theorem BxR.off {K:Nat→Prop} {S S':AS} {p:Nat} {r:Rc} (h:BxR K S p r) (a:Off K S S'):BxR K S' p r:=by
 obtain ⟨v0,v1,v2,hp,lp,kp,h0,h1,h2,k0,k1,k2⟩:=h
 exact ⟨v0,v1,v2,(a.2 p lp kp).trans hp,by have:=a.1; omega,kp,h0.off a k0,h1.off a k1,h2.off a k2,k0,k1,k2⟩
theorem lst_low {α:Type} [Cel α] {S:AS} {v:Value} {l:List α} (h:Lst S v l) (hn:0<S.next) {b:Nat} (hb:blkOf v=some b):b<S.next:=by
 rcases h with ⟨_,h|h⟩|⟨id,off,c,ty,cap,wr,ex,h1,h2,h3,h4,h5⟩
 ·subst h; simp [blkOf] at hb
 ·subst h; simp [blkOf] at hb; omega
 ·subst h1; simp only [blkOf,Option.some.injEq] at hb; omega
def tolds (r:Rc):List (Nd × Sp):=r187 r.ses.id r.ses.inLo r.ses.inHi r.ses.outLo r.ses.outHi r.ses.zLo r.ses.zHi r.ses.eLo r.ses.eHi r.ses.rLo r.ses.rHi r.ses.stops r.strikes r.sights
def rowsR (r:Rc):List (Nd × Sp):=r186 r.ses.id r.ses.inLo r.ses.inHi r.ses.outLo r.ses.outHi r.ses.zLo r.ses.zHi r.ses.eLo r.ses.eHi r.ses.rLo r.ses.rHi r.ses.stops r.strikes r.sights
theorem feed187 (r:Rc) (hk:r.strikes.length≤100) (hg:r.sights.length≤1000) (K:Nat→Prop) (S:AS) (p:Nat) (h:BxR K S p r):Feeds Tryz.prog E0 K S 187 #[] #[.pointer (some ⟨p,0,none⟩)] argsE (tolds r):=by
 intro Sx y I U0 ha hT hy hI
 obtain ⟨v0,v1,v2,hp,lp,kp,h0,h1,h2,k0,k1,k2⟩:=h
 have lb:=ha.1
 obtain ⟨S',U',hc,hIJ,hoff,hw⟩:=it187 r.ses.id r.ses.inLo r.ses.inHi r.ses.outLo r.ses.outHi r.ses.zLo r.ses.zHi r.ses.eLo r.ses.eHi r.ses.rLo r.ses.rHi r.ses.stops r.strikes r.sights hk hg Sx y I (fun _ _ _=>False) U0 hy hI
  v0 (h0.off ha k0) (fun b hb hu=>by have:=lst_low h0 (by omega) hb; exact (hT b hu).elim (fun h=>by omega) (k0 b hb)) v1 (h1.off ha k1) (fun b hb hu=>by have:=lst_low h1 (by omega) hb; exact (hT b hu).elim (fun h=>by omega) (k1 b hb)) v2 (h2.off ha k2) (fun b hb hu=>by have:=lst_low h2 (by omega) hb; exact (hT b hu).elim (fun h=>by omega) (k2 b hb))
  p ((ha.2 p lp kp).trans hp) (by omega) (fun hu=>(hT p hu).elim (fun h=>by omega) kp)
 rcases hIJ with hI'|⟨_,_,_,hF⟩
 ·exact ⟨S',U',hc,hI',hoff,hw⟩
 ·exact hF.elim
theorem feed186 (r:Rc) (hk:r.strikes.length≤100) (hg:r.sights.length≤1000) (K:Nat→Prop) (S:AS) (p:Nat) (h:BxR K S p r):Feeds Tryz.prog E0 K S 186 #[] #[.pointer (some ⟨p,0,none⟩)] argsE (rowsR r):=by
 intro Sx y I U0 ha hT hy hI
 obtain ⟨v0,v1,v2,hp,lp,kp,h0,h1,h2,k0,k1,k2⟩:=h
 have lb:=ha.1
 obtain ⟨S',U',hc,hIJ,hoff,hw⟩:=it186 r.ses.id r.ses.inLo r.ses.inHi r.ses.outLo r.ses.outHi r.ses.zLo r.ses.zHi r.ses.eLo r.ses.eHi r.ses.rLo r.ses.rHi r.ses.stops r.strikes r.sights hk hg Sx y I (fun _ _ _=>False) U0 hy hI
  v0 (h0.off ha k0) (fun b hb hu=>by have:=lst_low h0 (by omega) hb; exact (hT b hu).elim (fun h=>by omega) (k0 b hb)) v1 (h1.off ha k1) (fun b hb hu=>by have:=lst_low h1 (by omega) hb; exact (hT b hu).elim (fun h=>by omega) (k1 b hb)) v2 (h2.off ha k2) (fun b hb hu=>by have:=lst_low h2 (by omega) hb; exact (hT b hu).elim (fun h=>by omega) (k2 b hb))
  p ((ha.2 p lp kp).trans hp) (by omega) (fun hu=>(hT p hu).elim (fun h=>by omega) kp)
 rcases hIJ with hI'|⟨_,_,_,hF⟩
 ·exact ⟨S',U',hc,hI',hoff,hw⟩
 ·exact hF.elim
theorem c166 (r:Rc) (v0 v1 v2:Value) (K:Nat→Prop) (S:AS) (hK:∀ id,K id→id<S.next) (h0:Lst S v0 r.ses.stops) (h1:Lst S v1 r.strikes) (h2:Lst S v2 r.sights) (k0:∀ b,blkOf v0=some b→¬ K b) (k1:∀ b,blkOf v1=some b→¬ K b) (k2:∀ b,blkOf v2=some b→¬ K b) :
  ∃ S',(evL Tryz.prog E0).call 166 #[.agg (rcCells r v0 v1 v2).toArray] S=some (.func (.func 187) #[] #[.pointer (some ⟨S.next,0,none⟩)],S')∧Agree S S'∧BxR K S' S.next r:=by
 obtain ⟨S1,e1,n1,b1,a1⟩:=push_open S (.cells (rcCells r v0 v1 v2) 30 0 true true)
 refine ⟨S1,?_,a1,v0,v1,v2,b1,by omega,fun h=>by have:=hK _ h; omega,h0.agree a1,h1.agree a1,h2.agree a1,k0,k1,k2⟩
 rw [L_call,evCall_said rfl Tryz.func166 rfl (by decide) Tryz.ntmps166 Tryz.results166]
 simp (disch:=first|omega|assumption) only [E0_G,SY,setArgs,off,agreeKind,partVals,vals,allocV,boxed,ldA,rdCells,oneB,aggD,aField,aFieldV,aExtract,eq_self,ne_eq,if_true,if_false,not_false_eq_true,Nat.reduceAdd,Nat.reduceSub,Nat.reduceMul,Nat.reduceLT,Nat.reduceEqDiff,Nat.reduceBEq,reduceIte,Int.reduceEq,Int.reduceLT,Int.reduceLE,reduceCtorEq,e1,op_makeFunc1]
theorem c163 (r:Rc) (v0 v1 v2:Value) (K:Nat→Prop) (S:AS) (hK:∀ id,K id→id<S.next) (h0:Lst S v0 r.ses.stops) (h1:Lst S v1 r.strikes) (h2:Lst S v2 r.sights) (k0:∀ b,blkOf v0=some b→¬ K b) (k1:∀ b,blkOf v1=some b→¬ K b) (k2:∀ b,blkOf v2=some b→¬ K b) :
  ∃ S',(evL Tryz.prog E0).call 163 #[.agg (rcCells r v0 v1 v2).toArray] S=some (.func (.func 186) #[] #[.pointer (some ⟨S.next,0,none⟩)],S')∧Agree S S'∧BxR K S' S.next r:=by
 obtain ⟨S1,e1,n1,b1,a1⟩:=push_open S (.cells (rcCells r v0 v1 v2) 30 0 true true)
 refine ⟨S1,?_,a1,v0,v1,v2,b1,by omega,fun h=>by have:=hK _ h; omega,h0.agree a1,h1.agree a1,h2.agree a1,k0,k1,k2⟩
 rw [L_call,evCall_said rfl Tryz.func163 rfl (by decide) Tryz.ntmps163 Tryz.results163]
 simp (disch:=first|omega|assumption) only [E0_G,SY,setArgs,off,agreeKind,partVals,vals,allocV,boxed,ldA,rdCells,oneB,aggD,aField,aFieldV,aExtract,eq_self,ne_eq,if_true,if_false,not_false_eq_true,Nat.reduceAdd,Nat.reduceSub,Nat.reduceMul,Nat.reduceLT,Nat.reduceEqDiff,Nat.reduceBEq,reduceIte,Int.reduceEq,Int.reduceLT,Int.reduceLE,reduceCtorEq,e1,op_makeFunc1]
end Clock
end Go.Proofs
end
section
set_option linter.unusedSimpArgs false
set_option linter.unusedVariables false
namespace Go.Proofs
namespace Clock
open Go Go.RowKit Go.Aev
set_option maxRecDepth 100000
def findR:Code→Option (Code × Code)
 | .rangeFunc _ _ A B=>some (A,B)
 | .seq x y=>match findR x with
  | some r=>some r
  | none=>findR y
 | .block _ c=>findR c
 | .loop c=>findR c
 | .cond _ x y=>match findR x with
  | some r=>some r
  | none=>findR y
 | _=>none
noncomputable def R132:Code × Code:=((Tryz.f132.body.bind findR).getD (.skip,.skip))
set_option maxHeartbeats 8000000 in
theorem rg132 (kf:FuncId) (cs ds:Array Value) (ys l0:List Lk) (hyl:l0.length+ys.length≤1000000) (ho:∀ a S',E0.orc kf a S'=none) (K:Nat→Prop) (S:AS) (t:T Value) (d:List Nat) (z:Option (X × St)) (S0:AS) (hit:Feeds Tryz.prog E0 K S0 kf cs ds argsL ys) (ag0:Off K S0 S) (p2:Nat) (po:Option Addr) (no co:Nat)
  (g2:t.get 2=some (.pointer (some ⟨p2,0,none⟩))) (g6:t.get 6=some (.func (.func kf) cs ds)) (h2:S.heap.get p2=some (.cells [.slice po no co] 39 0 true true)) (l2:p2<S.next) (l0':S0.next≤p2) (o0:Own 107 S0.next S (.slice po no co) l0) (hp2:blkOf (.slice po no co)≠some p2)
  (hz:evCode Tryz.prog E0 (evL Tryz.prog E0) none (.rangeFunc (.tmp 6) #[7] R132.1 R132.2) ⟨⟨t,13⟩,d,S⟩=z) :
  ∃ S' po' no' co',z=some (.normal,⟨⟨t,13⟩,S.next :: d,S'⟩)∧S.next<S'.next∧S'.heap.get p2=some (.cells [.slice po' no' co'] 39 0 true true)∧Own 107 S0.next S' (.slice po' no' co') (l0++ys)∧blkOf (.slice po' no' co')≠some S.next ∧
   S'.heap.get S.next=some (.dfd true)∧∀ q,q<S.next→q≠p2→blkOf (.slice po no co)≠some q→S'.heap.get q=S.heap.get q:=by
 obtain ⟨S',U',rfl,⟨hn,_,po',no',co',hp,ow,hne,rfl⟩,hd,hlt,hoff,hw,hnd⟩:=range_feed hz g6 ho hit ag0
  (fun i U S'=>S.next≤S'.next∧i≤ys.length∧∃ po' no' co',S'.heap.get p2=some (.cells [.slice po' no' co'] 39 0 true true)∧Own 107 S0.next S' (.slice po' no' co') (l0++ys.take i)∧blkOf (.slice po' no' co')≠some p2∧U=fun id=>id=p2∨blkOf (.slice po' no' co')=some id)
  (fun id=>id=p2∨blkOf (.slice po no co)=some id)
  (by
   rintro id (h|h)
   ·exact .inl (by omega)
   ·exact .inl (Nat.le_of_not_lt fun hl=>o0.ne hl h))
  ⟨Nat.le_refl _,Nat.zero_le _,po,no,co,h2,by simpa using o0,hp2,rfl⟩
  (by
   rintro i U S1 ⟨hn,hi,po',no',co',hp,ow,hne,rfl⟩ id (h|h)
   ·omega
   ·exact ow.lt h)
  (by
   rintro i U S1 S2 ⟨hn,hi,po',no',co',hp,ow,hne,rfl⟩ hle hk
   exact ⟨by omega,hi,po',no',co',(hk p2 (by omega) (.inl (.inl rfl))).trans hp,ow.frame hle (fun id hid hb=>hk id hid (.inl (.inr hb))),hne,rfl⟩)
  (by
   rintro y L hb hy i U S' b hbi ⟨hn',hi,po',no',co',h9',ow',hne',rfl⟩ hoff hU hny' hyU hL
   have hi2:i<ys.length:=(List.getElem?_eq_some_iff.1 hbi).1
   have htk:l0++ys.take (i+1)=(l0++ys.take i)++[b]:=by rw [List.take_add_one,hbi]; simp
   rw [htk]
   have hlen:(l0++ys.take i).length≤1000000:=by rw [List.length_append,List.length_take]; omega
   generalize l0++ys.take i=L1 at *
   have hby:blkOf (.slice po' no' co')≠some y:=fun h=>hyU (.inr h)
   obtain ⟨S4,rr1,rr2,U',rr3,rr4,rr5⟩:=round_in (P:=Tryz.prog) (E:=E0) (l:=y) (bs:=[Value.agg (cellsOf b).toArray]) hb rfl hL (Q:=fun S4=>S4.heap.get y=some (.loop L)∧∃ U':Nat→Prop,
     (S.next≤S4.next∧i+1≤ys.length∧∃ po' no' co',S4.heap.get p2=some (.cells [.slice po' no' co'] 39 0 true true)∧Own 107 S0.next S4 (.slice po' no' co') (L1++[b])∧blkOf (.slice po' no' co')≠some p2∧U'=fun id=>id=p2∨blkOf (.slice po' no' co')=some id) ∧
      Off (fun id=>(id=p2∨blkOf (.slice po' no' co')=some id)∨id=y) S' S4∧Wider (fun id=>id=p2∨blkOf (.slice po' no' co')=some id) S' U') (by
    intro zA hA
    change evCode _ _ _ _ (Code.region 2 _ _) ⟨⟨t.set 7 (some (.agg #[.int .i64 b.fr,.int .i64 b.to_,.int .i64 b.most])),13⟩,[],S'⟩=_ at hA
    obtain ⟨S5,e5,n5,b5,a5⟩:=push_open S' (.cells [.int .i64 0,.int .i64 0,.int .i64 0] 107 0 true true)
    obtain ⟨S6,e6,n6,b6,q6⟩:=st_at (P:=Tryz.prog) (o:=0) (c':=[.int .i64 b.fr,.int .i64 b.to_,.int .i64 b.most]) (v:=.agg #[.int .i64 b.fr,.int .i64 b.to_,.int .i64 b.most]) tz107 b5 rfl rfl (show 0+3≤3 by decide) rfl
    simp (disch:=first|omega|assumption) only [E0_G,SY,off,agreeKind,allocV,Nat.reduceAdd,Nat.reduceLT,Nat.reduceBEq,TY_EvW18,e5,e6] at hA
    refine ⟨_,S6,hA.symm,(q6 y (by omega)).trans ((a5.2 y (by omega)).trans hL),?_⟩
    intro S7 n7 b7 q7 zB hB
    change evCode _ _ _ _ (Code.block 1 (Code.region 3 _ _)) _=_ at hB
    have u3:S7.heap.get p2=some (.cells [.slice po' no' co'] 39 0 true true):=(q7 p2 (by omega)).trans ((q6 p2 (by omega)).trans ((a5.2 p2 (by omega)).trans h9'))
    have u6:S7.heap.get S'.next=some (.cells [.int .i64 b.fr,.int .i64 b.to_,.int .i64 b.most] 107 0 true true):=(q7 S'.next (by omega)).trans b6
    have ow7:Own 107 S0.next S7 (.slice po' no' co') L1:=ow'.frame (by omega) fun id hid hbk=>(q7 id (fun e=>hby (by rw [← e]; exact hbk))).trans ((q6 id (by omega)).trans (a5.2 id hid))
    obtain ⟨S8,e8,n8,b8,a8⟩:=push_open S7 (.cells [.int .i64 b.fr,.int .i64 b.to_,.int .i64 b.most] 107 3 true true)
    have o8:Own 107 S7.next S8 (.slice (some ⟨S7.next,0,none⟩) 1 1) ([b]:List Lk):=.inr ⟨_,true,rfl,Nat.le_refl _,by omega,b8⟩
    obtain ⟨u,S9,k9,o9,n9,f9,d9⟩:=own_append (P:=Tryz.prog) (t:=39) (tx:=39) (n:=2) (v:=.slice po' no' co') (ow7.agree a8) o8.rows (by omega) (by omega) (by simp) Tryz.underlying39 Tryz.underlying39 ti107 tv107 rfl tz107
    obtain ⟨pu,nu,cu,rfl⟩:=own_slice o9
    have v3:S9.heap.get p2=some (.cells [.slice po' no' co'] 39 0 true true):=(f9 p2 (by omega) hne').trans ((a8.2 p2 (by omega)).trans u3)
    obtain ⟨S10,k10,n10,b10,q10⟩:=st_at (P:=Tryz.prog) (o:=0) (c':=[.slice pu nu cu]) (v:=.slice pu nu cu) tz39 v3 rfl rfl (show 0+1≤1 by decide) rfl
    have d3:=d9 p2 (by omega) hne'
    have y8:aBuildSlice Tryz.prog 39 1 [(0,.agg #[.int .i64 b.fr,.int .i64 b.to_,.int .i64 b.most])] S7=some (.slice (some ⟨S7.next,0,none⟩) 1 1,S7.push (.cells [.int .i64 b.fr,.int .i64 b.to_,.int .i64 b.most] 107 3 true true)):=by kernel_rfl
    simp (disch:=first|omega|assumption) only [E0_G,SY,off,agreeKind,partVals,ldA,rdCells,aggD,Nat.reduceAdd,Nat.reduceLT,Nat.reduceBEq,TY_EvW18,g2,u3,u6,y8,e8,k9,k10] at hB
    have dy:=d9 y (by omega) hby
    refine ⟨_,_,S10,hB.symm,(q10 y (by omega)).trans ((f9 y (by omega) hby).trans ((a8.2 y (by omega)).trans b7)),?_⟩
    intro S11 n11 b11 q11
    refine ⟨b11,_,⟨by omega,by omega,pu,nu,cu,(q11 p2 (by omega)).trans b10,?_,d3,rfl⟩,?_,?_⟩
    ·exact o9.frame (by omega) fun id hid hbk=>(q11 id (fun e=>dy (by rw [← e]; exact hbk))).trans (q10 id (fun e=>d3 (by rw [← e]; exact hbk)))
    ·exact ⟨by omega,fun id hid hT=>(q11 id (fun e=>hT (.inr e))).trans ((q10 id (fun e=>hT (.inl (.inl e)))).trans ((f9 id (by omega) (fun h=>hT (.inl (.inr h)))).trans ((a8.2 id (by omega)).trans ((q7 id (fun e=>hT (.inr e))).trans ((q6 id (by omega)).trans (a5.2 id hid))))))⟩
    ·intro id hT
     refine hT.elim (fun h=>.inl (.inl h)) fun h=>?_
     by_cases hid:id<S'.next
     ·by_cases ho':blkOf (.slice po' no' co')=some id
      ·exact .inl (.inr ho')
      ·exact absurd h (d9 id (by omega) ho')
     ·exact .inr (by omega))
   exact ⟨S4,U',rr1,rr2,rr3,rr4,rr5⟩)
 rw [List.take_length] at ow
 exact ⟨S',po',no',co',rfl,hlt,hp,ow,fun h=>hnd (.inr h),hd,fun q hq h1 h3=>hoff.2 q hq (fun h=>h.elim h1 h3)⟩
set_option maxHeartbeats 4000000 in
theorem c132 (kf:FuncId) (cs ds:Array Value) (ys l0:List Lk) (hyl:l0.length+ys.length≤1000000) (ho:∀ a S',E0.orc kf a S'=none) (K:Nat→Prop) (S0 S:AS) (hit:Feeds Tryz.prog E0 K S0 kf cs ds argsL ys) (ag:Off K S0 S) (v0:Value) (o0:Own 107 S0.next S v0 l0) :
  ∃ v S',(evL Tryz.prog E0).call 132 #[v0,.func (.func kf) cs ds] S=some (v,S')∧Own 107 S0.next S' v (l0++ys)∧S.next≤S'.next∧∀ q,q<S.next→blkOf v0≠some q→S'.heap.get q=S.heap.get q:=by
 obtain ⟨po,no,co,rfl⟩:=own_slice o0
 have ag1:=ag.1
 generalize hz:(evL Tryz.prog E0).call 132 _ _=z
 rw [L_call,evCall_said rfl Tryz.func132 rfl (by decide) Tryz.ntmps132 Tryz.results132] at hz
 obtain ⟨S1,e1,n1,b1,a1⟩:=push_open S (.cells [.slice po no co] 39 0 true true)
 simp (disch:=first|omega|assumption) only [E0_G,SY,setArgs,off,agreeKind,boxed,Nat.reduceAdd,Nat.reduceSub,Nat.reduceLT,Nat.reduceBEq,e1] at hz
 generalize hR:evCode Tryz.prog E0 (evL Tryz.prog E0) none (.rangeFunc _ _ _ _) _=R at hz
 obtain ⟨S2,po',no',co',rfl,n2,b2,o2,ne2,t2,f2⟩:=rg132 kf cs ds ys l0 hyl ho K S1 _ _ _ S0 hit (Off.agree ag a1) S.next po no co (by simp only [SY,eq_self,Nat.reduceBEq]<;>rfl) (by simp only [SY,eq_self,Nat.reduceBEq]<;>rfl) b1 (by omega) ag1 (o0.agree a1) (o0.new (Nat.le_refl _)) hR
 simp (disch:=first|omega|assumption) only [E0_G,SY,off,agreeKind,ldA,aggD,Nat.reduceAdd,Nat.reduceLT,Nat.reduceBEq,TY_EvW18,b2] at hz
 obtain ⟨S3,k3,n3,q3⟩:=take1 t2
 rw [handed_take k3] at hz
 simp (disch:=first|omega|assumption) only [SY,Nat.reduceBEq] at hz
 refine ⟨_,S3,hz.symm,o2.frame (by omega) fun id hid hb=>q3 id (fun e=>ne2 (by rw [← e]; exact hb)),by omega,fun q hq h=>?_⟩
 exact (q3 q (by omega)).trans ((f2 q (by omega) (by omega) h).trans (a1.2 q hq))
end Clock
end Go.Proofs
end
