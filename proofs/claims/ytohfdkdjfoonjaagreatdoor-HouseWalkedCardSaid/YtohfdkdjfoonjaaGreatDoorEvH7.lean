import Derived.Test.YtohfdkdjfoonjaaGreatDoorEvH6
import Derived.Test.YtohfdkdjfoonjaaGreatDoorAE6
set_option linter.unusedSimpArgs false
set_option linter.unusedVariables false
namespace Go.Proofs
namespace House
open Go Go.RowKit Go.Aev
set_option maxRecDepth 100000
theorem TY_EvH7:type_of% TY_EvH6:=TY_EvH6
def R167_0 (l:List Sp)  : Nat→Int→List (Int × Sp)
 | 0,iv=>[]
 | m'+1,iv=>(if 0≤iv then ((iv,(lget l (Int.toNat iv))) :: R167_0 l m' (iv - 1)) else [])
def r167 (l:List Sp):List (Int × Sp):=R167_0 l (l.length+1) ((l.length:Int) - 1)
set_option maxHeartbeats 2000000 in
theorem it167 (l:List Sp) (hn:l.length≤12) (S:AS) (y:Nat) (I J:Nat→(Nat→Prop)→AS→Prop) (T0:Nat→Prop) (hy:YieldS Tryz.prog E0 S y (fun b:Int × Sp=>#[Value.int .i64 b.1,Value.agg (cellsOf b.2).toArray]) (r167 l) I J) (h0:I 0 T0 S) (v_l:Value) (hv_l:Lst S v_l l) (nv_l:∀ b,blkOf v_l=some b→¬ T0 b) (p_b:Nat) (g_b:S.heap.get p_b=some (.cells [v_l] 40 0 true true)) (l_b:p_b<S.next) (n_b:¬ T0 p_b) :
  ∃ S' T',(evL Tryz.prog E0).call 167 #[.func (.yield y) #[] #[],.pointer (some ⟨p_b,0,none⟩)] S=some (.tuple #[],S')∧(I (r167 l).length T' S'∨∃ i b,(r167 l)[i]?=some b∧J i T' S')∧Off T0 S S'∧Wider T0 S T':=by
 have hbeg:(r167 l).drop 0=R167_0 l (l.length+1) ((l.length:Int) - 1):=rfl
 generalize hz:(evL Tryz.prog E0).call 167 _ _=z
 rw [L_call,evCall_said rfl Tryz.func167 rfl (by decide) Tryz.ntmps167 Tryz.results167] at hz
 have w1:=((hv_l.off (Off.refl T0 S) nv_l)).len (P:=Tryz.prog) (t:=40) Tryz.underlying40
 have w2:IntKind.i64.wrap ((l.length:Int) - 1)=(l.length:Int) - 1:=by rw [IntWalk.i64_in]; omega
 try simp (disch:=first|omega|assumption) only [E0_G,SY,setArgs,off,agreeKind,partVals,vals,allocV,boxed,ldA,rdCells,oneB,aggD,aField,aFieldV,aExtract,eq_self,ne_eq,if_true,if_false,not_false_eq_true,Nat.reduceAdd,Nat.reduceSub,Nat.reduceMul,Nat.reduceLT,Nat.reduceEqDiff,Nat.reduceBEq,reduceIte,Int.reduceEq,Int.reduceLT,Int.reduceLE,reduceCtorEq,TY_EvH7,calledV_yield,firstOf_none,op_round,roundV_some,g_b,w1,w2] at hz
 generalize hL3:Rec.loop _ _ _ _=L3 at hz
 obtain ⟨x3,t3,S3e,rfl,hQ3⟩:=loop_met hL3 (fun m t S'=>∃ (cI:Nat) (TI:Nat→Prop) (iv:Int),(m:Int)=iv+2 ∧ -1≤iv∧iv<(l.length:Int)∧cI≤(r167 l).length∧t.get 0=some (.func (.yield y) #[] #[])∧t.get 1=some (.pointer (some ⟨p_b,0,none⟩))∧t.get 3=some (.int .i64 iv)∧S'.heap.get p_b=some (.cells [v_l] 40 0 true true)∧Off T0 S S'∧S.next≤S'.next∧I cI TI S'∧Wider T0 S TI∧¬ TI p_b∧(r167 l).drop cI=R167_0 l m iv)
  (fun x t S'=>(x=.exit 0∧∃ (cI:Nat) (TI:Nat→Prop) (iv:Int),S'.heap.get p_b=some (.cells [v_l] 40 0 true true)∧Off T0 S S'∧S.next≤S'.next∧I cI TI S'∧Wider T0 S TI∧¬ TI p_b ∧ -1≤iv∧iv<(l.length:Int)∧cI≤(r167 l).length∧(r167 l).drop cI=[])∨(x=.ret∧∃ (cI:Nat) (TI:Nat→Prop) (bI:Int × Sp),(r167 l)[cI]?=some bI∧J cI TI S'∧Off T0 S S'∧Wider T0 S TI)) (l.length+1) ⟨0,T0,(l.length:Int) - 1,by first|rfl|omega|(simp; omega)|simp,by first|rfl|omega|(simp; omega)|simp,by first|rfl|omega|(simp; omega)|simp,by first|rfl|omega|(simp; omega)|simp,by simp only [SY,setArgs,off,agreeKind,partVals,vals,allocV,boxed,ldA,rdCells,oneB,aggD,aField,aFieldV,aExtract,eq_self,ne_eq,if_true,if_false,not_false_eq_true,Nat.reduceAdd,Nat.reduceSub,Nat.reduceMul,Nat.reduceLT,Nat.reduceEqDiff,Nat.reduceBEq,reduceIte,Int.reduceEq,Int.reduceLT,Int.reduceLE,reduceCtorEq,g_b]<;>rfl,by simp only [SY,setArgs,off,agreeKind,partVals,vals,allocV,boxed,ldA,rdCells,oneB,aggD,aField,aFieldV,aExtract,eq_self,ne_eq,if_true,if_false,not_false_eq_true,Nat.reduceAdd,Nat.reduceSub,Nat.reduceMul,Nat.reduceLT,Nat.reduceEqDiff,Nat.reduceBEq,reduceIte,Int.reduceEq,Int.reduceLT,Int.reduceLE,reduceCtorEq,g_b]<;>rfl,by simp only [SY,setArgs,off,agreeKind,partVals,vals,allocV,boxed,ldA,rdCells,oneB,aggD,aField,aFieldV,aExtract,eq_self,ne_eq,if_true,if_false,not_false_eq_true,Nat.reduceAdd,Nat.reduceSub,Nat.reduceMul,Nat.reduceLT,Nat.reduceEqDiff,Nat.reduceBEq,reduceIte,Int.reduceEq,Int.reduceLT,Int.reduceLE,reduceCtorEq,g_b]<;>rfl,g_b,(Off.refl T0 S),Nat.le_refl _,h0,(Wider.refl T0 S),n_b,rfl⟩ (by
   rintro m t S3 ⟨cI,TI,iv,hi3_0,hi3_1,hi3_2,hi3_3,g3_0,g3_1,g3_3,bb3_b,ga3,gn3,hI3,ww3,nt3_b,hd3⟩
   refine .run fun z he=>?_
   try simp (disch:=first|omega|assumption) only [E0_G,SY,setArgs,off,agreeKind,partVals,vals,allocV,boxed,ldA,rdCells,oneB,aggD,aField,aFieldV,aExtract,eq_self,ne_eq,if_true,if_false,not_false_eq_true,Nat.reduceAdd,Nat.reduceSub,Nat.reduceMul,Nat.reduceLT,Nat.reduceEqDiff,Nat.reduceBEq,reduceIte,Int.reduceEq,Int.reduceLT,Int.reduceLE,reduceCtorEq,TY_EvH7,calledV_yield,firstOf_none,op_round,roundV_some,g3_0,g3_1,g3_3,bb3_b,w1,w2] at he
   rcases dP (0≤iv) with ⟨h4a,h4⟩|⟨h4a,h4⟩
   ·have qz5:((Int.toNat iv:Nat):Int)=iv:=Int.toNat_of_nonneg (by first|omega|simp; omega)
    have hx6:l[(Int.toNat iv)]?=some (lget l (Int.toNat iv)):=lget_some (by first|omega|simp; omega)
    obtain ⟨id6,of6,cc6,ty6,wr6,ex6,i6,j6,l6,q6,bb6⟩:=(hv_l).at2 (P:=Tryz.prog) (t:=40) Tryz.underlying40 tz36 hx6
    have j6:=(ga3.2 id6 l6 (nv_l _ bb6)).trans j6
    have nt6:¬ TI id6:=ww3.not l6 (nv_l _ bb6)
    have m6_0:cc6[of6]?=some (.int .i64 ((lget l (Int.toNat iv)).lo)):=q6 0 (show 0<2 by decide)
    have m6_1:cc6[of6+1]?=some (.int .i64 ((lget l (Int.toNat iv)).hi)):=q6 1 (show 1<2 by decide)
    rw [qz5] at i6
    obtain ⟨m',rfl⟩:∃ m',m=m'+1:=⟨m - 1,by omega⟩
    have yy7:=drop_unc (x:=(iv,(lget l (Int.toNat iv)))) (hd3.trans ((if_pos h4).trans (rfl)))
    rcases hy.step _ _ _ _ yy7.1 hI3 with ⟨S7,T7,k7,hI7,f7,w7⟩|⟨S7,T7,k7,hI7,f7,w7⟩
    ·replace k7:(evL Tryz.prog E0).round y #[.int .i64 iv,.agg #[.int .i64 ((lget l (Int.toNat iv)).lo),.int .i64 ((lget l (Int.toNat iv)).hi)]] S3=some (.bool true,S7):=k7
     have l7:=f7.1
     have cl7:=(List.getElem?_eq_some_iff.1 yy7.1).1
     have vb_7:=(f7.2 p_b (by omega) nt3_b).trans bb3_b
     have ntb_7:¬ T7 p_b:=w7.not (by omega) nt3_b
     have v6_7:=(f7.2 id6 (by omega) nt6).trans j6
     have nt6_7:¬ T7 id6:=w7.not (by omega) nt6
     have g7:Off T0 S S7:=Off.trans ga3 ww3 f7
     have ww7:Wider T0 S T7:=Wider.trans ww3 w7 (ga3).1
     have w8:IntKind.i64.wrap (iv - 1)=iv - 1:=by rw [IntWalk.i64_in]; omega
     try simp (disch:=first|omega|assumption) only [E0_G,SY,setArgs,off,agreeKind,partVals,vals,allocV,boxed,ldA,rdCells,oneB,aggD,aField,aFieldV,aExtract,eq_self,ne_eq,if_true,if_false,not_false_eq_true,Nat.reduceAdd,Nat.reduceSub,Nat.reduceMul,Nat.reduceLT,Nat.reduceEqDiff,Nat.reduceBEq,reduceIte,Int.reduceEq,Int.reduceLT,Int.reduceLE,reduceCtorEq,TY_EvH7,calledV_yield,firstOf_none,op_round,roundV_some,g3_0,g3_1,g3_3,bb3_b,w1,w2,h4a,i6,j6,m6_0,m6_1,k7,vb_7,v6_7,w8] at he
     have hf:=yy7.2.trans (show _=(R167_0 l m' (iv - 1):List (Int × Sp)) from rfl)
     exact .next he m' (by omega) ⟨(cI+1),T7,iv - 1,by first|omega|(simp; omega)|simp,by first|omega|(simp; omega)|simp,by first|omega|(simp; omega)|simp,by first|omega|(simp; omega)|simp,(by simp only [SY,setArgs,off,agreeKind,partVals,vals,allocV,boxed,ldA,rdCells,oneB,aggD,aField,aFieldV,aExtract,eq_self,ne_eq,if_true,if_false,not_false_eq_true,Nat.reduceAdd,Nat.reduceSub,Nat.reduceMul,Nat.reduceLT,Nat.reduceEqDiff,Nat.reduceBEq,reduceIte,Int.reduceEq,Int.reduceLT,Int.reduceLE,reduceCtorEq,g3_0,g3_1,g3_3]<;>rfl),(by simp only [SY,setArgs,off,agreeKind,partVals,vals,allocV,boxed,ldA,rdCells,oneB,aggD,aField,aFieldV,aExtract,eq_self,ne_eq,if_true,if_false,not_false_eq_true,Nat.reduceAdd,Nat.reduceSub,Nat.reduceMul,Nat.reduceLT,Nat.reduceEqDiff,Nat.reduceBEq,reduceIte,Int.reduceEq,Int.reduceLT,Int.reduceLE,reduceCtorEq,g3_0,g3_1,g3_3]<;>rfl),(by simp only [SY,setArgs,off,agreeKind,partVals,vals,allocV,boxed,ldA,rdCells,oneB,aggD,aField,aFieldV,aExtract,eq_self,ne_eq,if_true,if_false,not_false_eq_true,Nat.reduceAdd,Nat.reduceSub,Nat.reduceMul,Nat.reduceLT,Nat.reduceEqDiff,Nat.reduceBEq,reduceIte,Int.reduceEq,Int.reduceLT,Int.reduceLE,reduceCtorEq,g3_0,g3_1,g3_3]<;>rfl),vb_7,g7,by omega,hI7,ww7,ntb_7,hf⟩
    replace k7:(evL Tryz.prog E0).round y #[.int .i64 iv,.agg #[.int .i64 ((lget l (Int.toNat iv)).lo),.int .i64 ((lget l (Int.toNat iv)).hi)]] S3=some (.bool false,S7):=k7
    have l7:=f7.1
    have cl7:=(List.getElem?_eq_some_iff.1 yy7.1).1
    have vb_7:=(f7.2 p_b (by omega) nt3_b).trans bb3_b
    have ntb_7:¬ T7 p_b:=w7.not (by omega) nt3_b
    have v6_7:=(f7.2 id6 (by omega) nt6).trans j6
    have nt6_7:¬ T7 id6:=w7.not (by omega) nt6
    have g7:Off T0 S S7:=Off.trans ga3 ww3 f7
    have ww7:Wider T0 S T7:=Wider.trans ww3 w7 (ga3).1
    try simp (disch:=first|omega|assumption) only [E0_G,SY,setArgs,off,agreeKind,partVals,vals,allocV,boxed,ldA,rdCells,oneB,aggD,aField,aFieldV,aExtract,eq_self,ne_eq,if_true,if_false,not_false_eq_true,Nat.reduceAdd,Nat.reduceSub,Nat.reduceMul,Nat.reduceLT,Nat.reduceEqDiff,Nat.reduceBEq,reduceIte,Int.reduceEq,Int.reduceLT,Int.reduceLE,reduceCtorEq,TY_EvH7,calledV_yield,firstOf_none,op_round,roundV_some,g3_0,g3_1,g3_3,bb3_b,w1,w2,h4a,i6,j6,m6_0,m6_1,k7,vb_7,v6_7] at he
    exact .ret he (.inr ⟨rfl,cI,T7,_,yy7.1,hI7,g7,ww7⟩)
   try simp (disch:=first|omega|assumption) only [E0_G,SY,setArgs,off,agreeKind,partVals,vals,allocV,boxed,ldA,rdCells,oneB,aggD,aField,aFieldV,aExtract,eq_self,ne_eq,if_true,if_false,not_false_eq_true,Nat.reduceAdd,Nat.reduceSub,Nat.reduceMul,Nat.reduceLT,Nat.reduceEqDiff,Nat.reduceBEq,reduceIte,Int.reduceEq,Int.reduceLT,Int.reduceLE,reduceCtorEq,TY_EvH7,calledV_yield,firstOf_none,op_round,roundV_some,g3_0,g3_1,g3_3,bb3_b,w1,w2,h4a] at he
   obtain ⟨m',rfl⟩:∃ m',m=m'+1:=⟨m - 1,by omega⟩
   have hf:=hd3.trans (show _=([]:List (Int × Sp)) from (if_neg h4).trans (rfl))
   exact .exit he (.inl ⟨rfl,⟨cI,TI,iv,bb3_b,ga3,by omega,hI3,ww3,nt3_b,by first|omega|assumption|simp,by first|omega|assumption|simp,by first|omega|assumption|simp,hf⟩⟩))
 rcases hQ3 with ⟨rfl,hQ3⟩|⟨rfl,hQ3⟩
 ·obtain ⟨cI,TI,iv,be3_b,ge3,gm3,hIe3,we3,nte3_b,hj3_0,hj3_1,hj3_2,hR3⟩:=hQ3
  try simp (disch:=first|omega|assumption) only [E0_G,SY,setArgs,off,agreeKind,partVals,vals,allocV,boxed,ldA,rdCells,oneB,aggD,aField,aFieldV,aExtract,eq_self,ne_eq,if_true,if_false,not_false_eq_true,Nat.reduceAdd,Nat.reduceSub,Nat.reduceMul,Nat.reduceLT,Nat.reduceEqDiff,Nat.reduceBEq,reduceIte,Int.reduceEq,Int.reduceLT,Int.reduceLE,reduceCtorEq,TY_EvH7,calledV_yield,firstOf_none,op_round,roundV_some,w1,w2,be3_b] at hz
  have hc:cI=(r167 l).length:=Nat.le_antisymm (by omega) (drop_end hR3)
  exact ⟨S3e,TI,hz.symm,.inl (hc ▸ hIe3),ge3,we3⟩
 obtain ⟨cI,TI,bI,hb3,hJ3,ge3,we3⟩:=hQ3
 try simp (disch:=first|omega|assumption) only [E0_G,SY,setArgs,off,agreeKind,partVals,vals,allocV,boxed,ldA,rdCells,oneB,aggD,aField,aFieldV,aExtract,eq_self,ne_eq,if_true,if_false,not_false_eq_true,Nat.reduceAdd,Nat.reduceSub,Nat.reduceMul,Nat.reduceLT,Nat.reduceEqDiff,Nat.reduceBEq,reduceIte,Int.reduceEq,Int.reduceLT,Int.reduceLE,reduceCtorEq,TY_EvH7,calledV_yield,firstOf_none,op_round,roundV_some] at hz
 exact ⟨S3e,TI,hz.symm,.inr ⟨cI,_,hb3,hJ3⟩,ge3,we3⟩
end House
end Go.Proofs
