import Derived.Test.YtohfdkdjfoonjaaGreatDoorEvH6
import Derived.Test.YtohfdkdjfoonjaaGreatDoorAE6
section
set_option linter.unusedSimpArgs false
set_option linter.unusedVariables false
namespace Go.Proofs
namespace House
open Go Go.RowKit Go.Aev
set_option maxRecDepth 100000
theorem TY_EvH7:type_of% TY_EvH6:=TY_EvH6
def R167_0 (l:List Sp)  : Nat→Int→List (Int × Sp)
 | 0,iv=>[]
 | m'+1,iv=>(if 0≤iv then ((iv,(lget l (Int.toNat iv))) :: R167_0 l m' (iv - 1)) else [])
def r167 (l:List Sp):List (Int × Sp):=R167_0 l (l.length+1) ((l.length:Int) - 1)
set_option maxHeartbeats 2000000 in
theorem it167 (l:List Sp) (hn:l.length≤12) (S:AS) (y:Nat) (I J:Nat→(Nat→Prop)→AS→Prop) (T0:Nat→Prop) (hy:YieldS Tryz.prog E0 S y (fun b:Int × Sp=>#[Value.int .i64 b.1,Value.agg (cellsOf b.2).toArray]) (r167 l) I J) (h0:I 0 T0 S) (v_l:Value) (hv_l:Lst S v_l l) (nv_l:∀ b,blkOf v_l=some b→¬ T0 b) (p_b:Nat) (g_b:S.heap.get p_b=some (.cells [v_l] 40 0 true true)) (l_b:p_b<S.next) (n_b:¬ T0 p_b) :
  ∃ S' T',(evL Tryz.prog E0).call 167 #[.func (.yield y) #[] #[],.pointer (some ⟨p_b,0,none⟩)] S=some (.tuple #[],S')∧(I (r167 l).length T' S'∨∃ i b,(r167 l)[i]?=some b∧J i T' S')∧Off T0 S S'∧Wider T0 S T':=by
 have hbeg:(r167 l).drop 0=R167_0 l (l.length+1) ((l.length:Int) - 1):=rfl
 generalize hz:(evL Tryz.prog E0).call 167 _ _=z
 rw [L_call,evCall_said rfl Tryz.func167 rfl (by decide) Tryz.ntmps167 Tryz.results167] at hz
 have w1:=((hv_l.off (Off.refl T0 S) nv_l)).len (P:=Tryz.prog) (t:=40) Tryz.underlying40
 have w2:IntKind.i64.wrap ((l.length:Int) - 1)=(l.length:Int) - 1:=by rw [IntWalk.i64_in]; omega
 try simp (disch:=first|omega|assumption) only [E0_G,SY,setArgs,off,agreeKind,partVals,vals,allocV,boxed,ldA,rdCells,oneB,aggD,aField,aFieldV,aExtract,eq_self,ne_eq,if_true,if_false,not_false_eq_true,Nat.reduceAdd,Nat.reduceSub,Nat.reduceMul,Nat.reduceLT,Nat.reduceEqDiff,Nat.reduceBEq,reduceIte,Int.reduceEq,Int.reduceLT,Int.reduceLE,reduceCtorEq,TY_EvH7,calledV_yield,firstOf_none,op_round,roundV_some,g_b,w1,w2] at hz
 generalize hL3:Rec.loop _ _ _ _=L3 at hz
 obtain ⟨x3,t3,S3e,rfl,hQ3⟩:=loop_met hL3 (fun m t S'=>∃ (cI:Nat) (TI:Nat→Prop) (iv:Int),(m:Int)=iv+2 ∧ -1≤iv∧iv<(l.length:Int)∧cI≤(r167 l).length∧t.get 0=some (.func (.yield y) #[] #[])∧t.get 1=some (.pointer (some ⟨p_b,0,none⟩))∧t.get 3=some (.int .i64 iv)∧S'.heap.get p_b=some (.cells [v_l] 40 0 true true)∧Off T0 S S'∧S.next≤S'.next∧I cI TI S'∧Wider T0 S TI∧¬ TI p_b∧(r167 l).drop cI=R167_0 l m iv)
  (fun x t S'=>(x=.exit 0∧∃ (cI:Nat) (TI:Nat→Prop) (iv:Int),S'.heap.get p_b=some (.cells [v_l] 40 0 true true)∧Off T0 S S'∧S.next≤S'.next∧I cI TI S'∧Wider T0 S TI∧¬ TI p_b ∧ -1≤iv∧iv<(l.length:Int)∧cI≤(r167 l).length∧(r167 l).drop cI=[])∨(x=.ret∧∃ (cI:Nat) (TI:Nat→Prop) (bI:Int × Sp),(r167 l)[cI]?=some bI∧J cI TI S'∧Off T0 S S'∧Wider T0 S TI)) (l.length+1) ⟨0,T0,(l.length:Int) - 1,by first|rfl|omega|(simp; omega)|simp,by first|rfl|omega|(simp; omega)|simp,by first|rfl|omega|(simp; omega)|simp,by first|rfl|omega|(simp; omega)|simp,by simp only [SY,setArgs,off,agreeKind,partVals,vals,allocV,boxed,ldA,rdCells,oneB,aggD,aField,aFieldV,aExtract,eq_self,ne_eq,if_true,if_false,not_false_eq_true,Nat.reduceAdd,Nat.reduceSub,Nat.reduceMul,Nat.reduceLT,Nat.reduceEqDiff,Nat.reduceBEq,reduceIte,Int.reduceEq,Int.reduceLT,Int.reduceLE,reduceCtorEq,g_b]<;>rfl,by simp only [SY,setArgs,off,agreeKind,partVals,vals,allocV,boxed,ldA,rdCells,oneB,aggD,aField,aFieldV,aExtract,eq_self,ne_eq,if_true,if_false,not_false_eq_true,Nat.reduceAdd,Nat.reduceSub,Nat.reduceMul,Nat.reduceLT,Nat.reduceEqDiff,Nat.reduceBEq,reduceIte,Int.reduceEq,Int.reduceLT,Int.reduceLE,reduceCtorEq,g_b]<;>rfl,by simp only [SY,setArgs,off,agreeKind,partVals,vals,allocV,boxed,ldA,rdCells,oneB,aggD,aField,aFieldV,aExtract,eq_self,ne_eq,if_true,if_false,not_false_eq_true,Nat.reduceAdd,Nat.reduceSub,Nat.reduceMul,Nat.reduceLT,Nat.reduceEqDiff,Nat.reduceBEq,reduceIte,Int.reduceEq,Int.reduceLT,Int.reduceLE,reduceCtorEq,g_b]<;>rfl,g_b,(Off.refl T0 S),Nat.le_refl _,h0,(Wider.refl T0 S),n_b,rfl⟩ (by
   rintro m t S3 ⟨cI,TI,iv,hi3_0,hi3_1,hi3_2,hi3_3,g3_0,g3_1,g3_3,bb3_b,ga3,gn3,hI3,ww3,nt3_b,hd3⟩
   refine .run fun z he=>?_
   try simp (disch:=first|omega|assumption) only [E0_G,SY,setArgs,off,agreeKind,partVals,vals,allocV,boxed,ldA,rdCells,oneB,aggD,aField,aFieldV,aExtract,eq_self,ne_eq,if_true,if_false,not_false_eq_true,Nat.reduceAdd,Nat.reduceSub,Nat.reduceMul,Nat.reduceLT,Nat.reduceEqDiff,Nat.reduceBEq,reduceIte,Int.reduceEq,Int.reduceLT,Int.reduceLE,reduceCtorEq,TY_EvH7,calledV_yield,firstOf_none,op_round,roundV_some,g3_0,g3_1,g3_3,bb3_b,w1,w2] at he
   rcases dP (0≤iv) with ⟨h4a,h4⟩|⟨h4a,h4⟩
   ·have qz5:((Int.toNat iv:Nat):Int)=iv:=Int.toNat_of_nonneg (by first|omega|simp; omega)
    have hx6:l[(Int.toNat iv)]?=some (lget l (Int.toNat iv)):=lget_some (by first|omega|simp; omega)
    obtain ⟨id6,of6,cc6,ty6,wr6,ex6,i6,j6,l6,q6,bb6⟩:=(hv_l).at2 (P:=Tryz.prog) (t:=40) Tryz.underlying40 tz36 hx6
    have j6:=(ga3.2 id6 l6 (nv_l _ bb6)).trans j6
    have nt6:¬ TI id6:=ww3.not l6 (nv_l _ bb6)
    have m6_0:cc6[of6]?=some (.int .i64 ((lget l (Int.toNat iv)).lo)):=q6 0 (show 0<2 by decide)
    have m6_1:cc6[of6+1]?=some (.int .i64 ((lget l (Int.toNat iv)).hi)):=q6 1 (show 1<2 by decide)
    rw [qz5] at i6
    obtain ⟨m',rfl⟩:∃ m',m=m'+1:=⟨m - 1,by omega⟩
    have yy7:=drop_unc (x:=(iv,(lget l (Int.toNat iv)))) (hd3.trans ((if_pos h4).trans (rfl)))
    rcases hy.step _ _ _ _ yy7.1 hI3 with ⟨S7,T7,k7,hI7,f7,w7⟩|⟨S7,T7,k7,hI7,f7,w7⟩
    ·replace k7:(evL Tryz.prog E0).round y #[.int .i64 iv,.agg #[.int .i64 ((lget l (Int.toNat iv)).lo),.int .i64 ((lget l (Int.toNat iv)).hi)]] S3=some (.bool true,S7):=k7
     have l7:=f7.1
     have cl7:=(List.getElem?_eq_some_iff.1 yy7.1).1
     have vb_7:=(f7.2 p_b (by omega) nt3_b).trans bb3_b
     have ntb_7:¬ T7 p_b:=w7.not (by omega) nt3_b
     have v6_7:=(f7.2 id6 (by omega) nt6).trans j6
     have nt6_7:¬ T7 id6:=w7.not (by omega) nt6
     have g7:Off T0 S S7:=Off.trans ga3 ww3 f7
     have ww7:Wider T0 S T7:=Wider.trans ww3 w7 (ga3).1
     have w8:IntKind.i64.wrap (iv - 1)=iv - 1:=by rw [IntWalk.i64_in]; omega
     try simp (disch:=first|omega|assumption) only [E0_G,SY,setArgs,off,agreeKind,partVals,vals,allocV,boxed,ldA,rdCells,oneB,aggD,aField,aFieldV,aExtract,eq_self,ne_eq,if_true,if_false,not_false_eq_true,Nat.reduceAdd,Nat.reduceSub,Nat.reduceMul,Nat.reduceLT,Nat.reduceEqDiff,Nat.reduceBEq,reduceIte,Int.reduceEq,Int.reduceLT,Int.reduceLE,reduceCtorEq,TY_EvH7,calledV_yield,firstOf_none,op_round,roundV_some,g3_0,g3_1,g3_3,bb3_b,w1,w2,h4a,i6,j6,m6_0,m6_1,k7,vb_7,v6_7,w8] at he
     have hf:=yy7.2.trans (show _=(R167_0 l m' (iv - 1):List (Int × Sp)) from rfl)
     exact .next he m' (by omega) ⟨(cI+1),T7,iv - 1,by first|omega|(simp; omega)|simp,by first|omega|(simp; omega)|simp,by first|omega|(simp; omega)|simp,by first|omega|(simp; omega)|simp,(by simp only [SY,setArgs,off,agreeKind,partVals,vals,allocV,boxed,ldA,rdCells,oneB,aggD,aField,aFieldV,aExtract,eq_self,ne_eq,if_true,if_false,not_false_eq_true,Nat.reduceAdd,Nat.reduceSub,Nat.reduceMul,Nat.reduceLT,Nat.reduceEqDiff,Nat.reduceBEq,reduceIte,Int.reduceEq,Int.reduceLT,Int.reduceLE,reduceCtorEq,g3_0,g3_1,g3_3]<;>rfl),(by simp only [SY,setArgs,off,agreeKind,partVals,vals,allocV,boxed,ldA,rdCells,oneB,aggD,aField,aFieldV,aExtract,eq_self,ne_eq,if_true,if_false,not_false_eq_true,Nat.reduceAdd,Nat.reduceSub,Nat.reduceMul,Nat.reduceLT,Nat.reduceEqDiff,Nat.reduceBEq,reduceIte,Int.reduceEq,Int.reduceLT,Int.reduceLE,reduceCtorEq,g3_0,g3_1,g3_3]<;>rfl),(by simp only [SY,setArgs,off,agreeKind,partVals,vals,allocV,boxed,ldA,rdCells,oneB,aggD,aField,aFieldV,aExtract,eq_self,ne_eq,if_true,if_false,not_false_eq_true,Nat.reduceAdd,Nat.reduceSub,Nat.reduceMul,Nat.reduceLT,Nat.reduceEqDiff,Nat.reduceBEq,reduceIte,Int.reduceEq,Int.reduceLT,Int.reduceLE,reduceCtorEq,g3_0,g3_1,g3_3]<;>rfl),vb_7,g7,by omega,hI7,ww7,ntb_7,hf⟩
    replace k7:(evL Tryz.prog E0).round y #[.int .i64 iv,.agg #[.int .i64 ((lget l (Int.toNat iv)).lo),.int .i64 ((lget l (Int.toNat iv)).hi)]] S3=some (.bool false,S7):=k7
    have l7:=f7.1
    have cl7:=(List.getElem?_eq_some_iff.1 yy7.1).1
    have vb_7:=(f7.2 p_b (by omega) nt3_b).trans bb3_b
    have ntb_7:¬ T7 p_b:=w7.not (by omega) nt3_b
    have v6_7:=(f7.2 id6 (by omega) nt6).trans j6
    have nt6_7:¬ T7 id6:=w7.not (by omega) nt6
    have g7:Off T0 S S7:=Off.trans ga3 ww3 f7
    have ww7:Wider T0 S T7:=Wider.trans ww3 w7 (ga3).1
    try simp (disch:=first|omega|assumption) only [E0_G,SY,setArgs,off,agreeKind,partVals,vals,allocV,boxed,ldA,rdCells,oneB,aggD,aField,aFieldV,aExtract,eq_self,ne_eq,if_true,if_false,not_false_eq_true,Nat.reduceAdd,Nat.reduceSub,Nat.reduceMul,Nat.reduceLT,Nat.reduceEqDiff,Nat.reduceBEq,reduceIte,Int.reduceEq,Int.reduceLT,Int.reduceLE,reduceCtorEq,TY_EvH7,calledV_yield,firstOf_none,op_round,roundV_some,g3_0,g3_1,g3_3,bb3_b,w1,w2,h4a,i6,j6,m6_0,m6_1,k7,vb_7,v6_7] at he
    exact .ret he (.inr ⟨rfl,cI,T7,_,yy7.1,hI7,g7,ww7⟩)
   try simp (disch:=first|omega|assumption) only [E0_G,SY,setArgs,off,agreeKind,partVals,vals,allocV,boxed,ldA,rdCells,oneB,aggD,aField,aFieldV,aExtract,eq_self,ne_eq,if_true,if_false,not_false_eq_true,Nat.reduceAdd,Nat.reduceSub,Nat.reduceMul,Nat.reduceLT,Nat.reduceEqDiff,Nat.reduceBEq,reduceIte,Int.reduceEq,Int.reduceLT,Int.reduceLE,reduceCtorEq,TY_EvH7,calledV_yield,firstOf_none,op_round,roundV_some,g3_0,g3_1,g3_3,bb3_b,w1,w2,h4a] at he
   obtain ⟨m',rfl⟩:∃ m',m=m'+1:=⟨m - 1,by omega⟩
   have hf:=hd3.trans (show _=([]:List (Int × Sp)) from (if_neg h4).trans (rfl))
   exact .exit he (.inl ⟨rfl,⟨cI,TI,iv,bb3_b,ga3,by omega,hI3,ww3,nt3_b,by first|omega|assumption|simp,by first|omega|assumption|simp,by first|omega|assumption|simp,hf⟩⟩))
 rcases hQ3 with ⟨rfl,hQ3⟩|⟨rfl,hQ3⟩
 ·obtain ⟨cI,TI,iv,be3_b,ge3,gm3,hIe3,we3,nte3_b,hj3_0,hj3_1,hj3_2,hR3⟩:=hQ3
  try simp (disch:=first|omega|assumption) only [E0_G,SY,setArgs,off,agreeKind,partVals,vals,allocV,boxed,ldA,rdCells,oneB,aggD,aField,aFieldV,aExtract,eq_self,ne_eq,if_true,if_false,not_false_eq_true,Nat.reduceAdd,Nat.reduceSub,Nat.reduceMul,Nat.reduceLT,Nat.reduceEqDiff,Nat.reduceBEq,reduceIte,Int.reduceEq,Int.reduceLT,Int.reduceLE,reduceCtorEq,TY_EvH7,calledV_yield,firstOf_none,op_round,roundV_some,w1,w2,be3_b] at hz
  have hc:cI=(r167 l).length:=Nat.le_antisymm (by omega) (drop_end hR3)
  exact ⟨S3e,TI,hz.symm,.inl (hc ▸ hIe3),ge3,we3⟩
 obtain ⟨cI,TI,bI,hb3,hJ3,ge3,we3⟩:=hQ3
 try simp (disch:=first|omega|assumption) only [E0_G,SY,setArgs,off,agreeKind,partVals,vals,allocV,boxed,ldA,rdCells,oneB,aggD,aField,aFieldV,aExtract,eq_self,ne_eq,if_true,if_false,not_false_eq_true,Nat.reduceAdd,Nat.reduceSub,Nat.reduceMul,Nat.reduceLT,Nat.reduceEqDiff,Nat.reduceBEq,reduceIte,Int.reduceEq,Int.reduceLT,Int.reduceLE,reduceCtorEq,TY_EvH7,calledV_yield,firstOf_none,op_round,roundV_some] at hz
 exact ⟨S3e,TI,hz.symm,.inr ⟨cI,_,hb3,hJ3⟩,ge3,we3⟩
end House
end Go.Proofs
end
section
set_option linter.unusedSimpArgs false
set_option linter.unusedVariables false
namespace Go.Proofs
namespace House
open Go Go.RowKit Go.Aev
set_option maxRecDepth 100000
theorem lst_slice {α:Type} [Cel α] {S:AS} {v:Value} {l:List α} (h:Lst S v l):∃ p n c,v=.slice p n c:=by
 rcases h with ⟨_,rfl|rfl⟩|⟨id,off,c,ty,cap,wr,ex,rfl,_⟩
 ·exact ⟨_,_,_,rfl⟩
 ·exact ⟨_,_,_,rfl⟩
 ·exact ⟨_,_,_,rfl⟩
theorem lst_lt {α:Type} [Cel α] {S:AS} {v:Value} {l:List α} (h:Lst S v l) {q:Nat} (hq:blkOf v=some q) (h0:v≠.slice (some ⟨0,0,some 0⟩) 0 0):q<S.next:=by
 rcases h with ⟨_,rfl|rfl⟩|⟨id,off,c,ty,cap,wr,ex,rfl,_,_,h3,_⟩
 ·simp [blkOf] at hq
 ·exact absurd rfl h0
 ·simp only [blkOf,Option.some.injEq] at hq; omega
set_option maxHeartbeats 4000000 in
theorem c161 (p:Option Addr) (n c:Nat) (S:AS):∃ S',(evL Tryz.prog E0).call 161 #[.slice p n c] S=some (.func (.func 167) #[] #[.pointer (some ⟨S.next,0,none⟩)],S')∧Agree S S'∧S'.next=S.next+1 ∧
  S'.heap.get S.next=some (.cells [.slice p n c] 40 0 true true):=by
 obtain ⟨S1,e1,n1,b1,a1⟩:=push_open S (.cells [.slice p n c] 40 0 true true)
 refine ⟨S1,?_,a1,by omega,b1⟩
 rw [L_call,evCall_said rfl Tryz.func161 rfl (by decide) Tryz.ntmps161 Tryz.results161]
 simp (disch:=first|omega|assumption) only [E0_G,SY,setArgs,off,agreeKind,vals,boxed,eq_self,Nat.reduceAdd,Nat.reduceSub,Nat.reduceLT,Nat.reduceBEq,e1,op_makeFunc1]
def hit (day sec:Int):List (Int × Sp)→Option Int
 | []=>none
 | b :: ys=>if b.2.lo≤sec then some (day+min sec b.2.hi) else hit day sec ys
def findR:Code→Option (Code × Code)
 | .rangeFunc _ _ A B=>some (A,B)
 | .seq x y=>match findR x with
  | some r=>some r
  | none=>findR y
 | .block _ c=>findR c
 | .loop c=>findR c
 | .cond _ x y=>match findR x with
  | some r=>some r
  | none=>findR y
 | _=>none
noncomputable def R138:Code × Code:=((Tryz.f138.body.bind findR).getD (.skip,.skip))
set_option maxHeartbeats 8000000 in
theorem rg138 (l:List Sp) (hn:l.length≤12) (day sec:Int) (hw:∀ b ∈ r167 l,IntKind.i64.wrap (day+min sec b.2.hi)=day+min sec b.2.hi) (S:AS) (t:T Value) (d:List Nat) (z:Option (X × St))
  (p4 p5 p6 pb:Nat) (pl:Option Addr) (nl cl:Nat)
  (g4:t.get 4=some (.pointer (some ⟨p4,0,none⟩))) (g5:t.get 5=some (.pointer (some ⟨p5,0,none⟩))) (g6:t.get 6=some (.pointer (some ⟨p6,0,none⟩))) (g18:t.get 18=some (.func (.func 167) #[] #[.pointer (some ⟨pb,0,none⟩)]))
  (h4:S.heap.get p4=some (.cells [.int .i64 0] 3 0 true true)) (h5:S.heap.get p5=some (.cells [.int .i64 day] 3 0 true true)) (h6:S.heap.get p6=some (.cells [.int .i64 sec] 3 0 true true)) (hb:S.heap.get pb=some (.cells [.slice pl nl cl] 40 0 true true))
  (l4:p4<S.next) (l5:p5<S.next) (l6:p6<S.next) (lb:pb<S.next) (n45:p5≠p4) (n46:p6≠p4) (n4b:pb≠p4)
  (hl:Lst S (.slice pl nl cl) l) (nl':∀ q,blkOf (.slice pl nl cl)=some q→q<S.next∧q≠p4)
  (hz:evCode Tryz.prog E0 (evL Tryz.prog E0) none (.rangeFunc (.tmp 18) #[19,20] R138.1 R138.2) ⟨⟨t,41⟩,d,S⟩=z) :
  ∃ x S',z=some (x,⟨⟨t,41⟩,S.next :: d,S'⟩)∧S.next<S'.next∧S'.heap.get S.next=some (.dfd true)∧(∀ q,q<S.next→q≠p4→S'.heap.get q=S.heap.get q) ∧
   ((x=.normal∧hit day sec (r167 l)=none∧S'.heap.get p4=some (.cells [.int .i64 0] 3 0 true true))∨(x=.ret∧∃ r,hit day sec (r167 l)=some r∧S'.heap.get p4=some (.cells [.int .i64 r] 3 0 true true))):=by
 obtain ⟨x,S',rfl,hQ⟩:=range_met hz (k:=167) (cs:=#[]) (ds:=#[.pointer (some ⟨pb,0,none⟩)]) g18 (fun a S'=>rfl)
  (fun x S'=>S.next<S'.next∧S'.heap.get S.next=some (.dfd true)∧(∀ q,q<S.next→q≠p4→S'.heap.get q=S.heap.get q) ∧
   ((x=.normal∧hit day sec (r167 l)=none∧S'.heap.get p4=some (.cells [.int .i64 0] 3 0 true true))∨(x=.ret∧∃ r,hit day sec (r167 l)=some r∧S'.heap.get p4=some (.cells [.int .i64 r] 3 0 true true))))
  (by
   intro L0 S1 S2 e1 e2 hbg
   obtain rfl:=hbg.eq
   obtain ⟨Sx,ex1,nx1,bx1,ax1⟩:=push_open S (.dfd true)
   obtain rfl:Sx=S1:=ex1.symm.trans e1
   obtain ⟨Sy,ex2,nx2,bx2,ax2⟩:=push_open Sx (.loop ⟨.ready,none,t,41,#[19,20],R138.1,R138.2⟩)
   obtain rfl:Sy=S2:=ex2.symm.trans e2
   have ag:=ax1.trans ax2
   generalize hy:Sx.next=y at *
   have hys:y=S.next+1:=by omega
   have key:=it167 l hn Sy y (fun i T S'=>Sy.next≤S'.next∧S'.heap.get y=some (.loop ⟨.ready,none,t,41,#[19,20],R138.1,R138.2⟩)∧S'.heap.get p4=some (.cells [.int .i64 0] 3 0 true true) ∧
     S'.heap.get p5=some (.cells [.int .i64 day] 3 0 true true)∧S'.heap.get p6=some (.cells [.int .i64 sec] 3 0 true true)∧hit day sec ((r167 l).drop i)=hit day sec (r167 l)∧T=fun id=>id=p4∨id=y)
    (fun i T S'=>Sy.next≤S'.next∧S'.heap.get y=some (.loop ⟨.done,some .ret,t,41,#[19,20],R138.1,R138.2⟩)∧(∃ r,hit day sec (r167 l)=some r∧S'.heap.get p4=some (.cells [.int .i64 r] 3 0 true true))∧T=fun id=>id=p4∨id=y)
    (fun id=>id=p4∨id=y) ?_ ?_ (.slice pl nl cl) (hl.agree ag) ?_ pb ((ag.2 pb lb).trans hb) (by omega) ?_
   ·obtain ⟨S3,T3,hc,hIJ,off3,_⟩:=key
    have fr:∀ q,q<S.next→q≠p4→S3.heap.get q=S.heap.get q:=fun q hq hne=>(off3.2 q (by omega) (fun h=>h.elim hne (fun h=>by omega))).trans (ag.2 q hq)
    have dfd:S3.heap.get S.next=some (.dfd true):=(off3.2 S.next (by omega) (fun h=>h.elim (fun h=>by omega) (fun h=>by omega))).trans ((ax2.2 S.next (by omega)).trans bx1)
    rcases hIJ with ⟨hn3,hy3,hp3,_,_,hh,rfl⟩|⟨i,b,hib,hn3,hy3,⟨r,hr,hp3⟩,rfl⟩
    ·refine ⟨_,S3,_,.normal,hc,hy3,by simp,rfl,by show S.next<S3.next; omega,?_,?_,.inl ⟨rfl,?_,?_⟩⟩
     ·simp only [T.get_set]; rw [if_neg (by omega)]; exact dfd
     ·intro q hq hne; simp only [T.get_set]; rw [if_neg (by omega)]; exact fr q hq hne
     ·rw [← hh,List.drop_length]; rfl
     ·simp only [T.get_set]; rw [if_neg (by omega)]; exact hp3
    ·refine ⟨_,S3,_,.ret,hc,hy3,by simp,rfl,by show S.next<S3.next; omega,?_,?_,.inr ⟨rfl,r,hr,?_⟩⟩
     ·simp only [T.get_set]; rw [if_neg (by omega)]; exact dfd
     ·intro q hq hne; simp only [T.get_set]; rw [if_neg (by omega)]; exact fr q hq hne
     ·simp only [T.get_set]; rw [if_neg (by omega)]; exact hp3
   ·refine ⟨?_,?_,?_⟩
    ·rintro i T S' ⟨hn',_,_,_,_,_,rfl⟩ id (rfl|rfl)<;>omega
    ·rintro i T S' S'' ⟨hn',hy',h4',h5',h6',hh,rfl⟩ hle hk
     exact ⟨by omega,(hk y (by omega) (.inl (.inr rfl))).trans hy',(hk p4 (by omega) (.inl (.inl rfl))).trans h4',(hk p5 (by omega) (.inr (by omega))).trans h5',(hk p6 (by omega) (.inr (by omega))).trans h6',hh,rfl⟩
    ·rintro i T S' b hbi ⟨hn',hy',h4',h5',h6',hh,rfl⟩
     have hd:(r167 l).drop i=b :: (r167 l).drop (i+1):=drop_cons' hbi
     have hmem:b ∈ r167 l:=List.mem_of_getElem? hbi
     have hyS:y<S'.next:=by omega
     have:=round_runS (P:=Tryz.prog) (E:=E0) (l:=y) (bs:=[.int .i64 b.1,.agg #[.int .i64 b.2.lo,.int .i64 b.2.hi]]) (ps:=[19,20]) (t:=t) (m:=41) (A:=R138.1) (B:=R138.2) (S:=S') rfl hy'
      (Q:=fun S4=>¬ b.2.lo≤sec∧S'.next≤S4.next∧S4.heap.get y=some (.loop ⟨.ready,none,t,41,#[19,20],R138.1,R138.2⟩)∧∀ q,q<S'.next→q≠y→S4.heap.get q=S'.heap.get q)
      (R:=fun S4=>b.2.lo≤sec∧S'.next≤S4.next∧S4.heap.get y=some (.loop ⟨.done,some .ret,t,41,#[19,20],R138.1,R138.2⟩)∧S4.heap.get p4=some (.cells [.int .i64 (day+min sec b.2.hi)] 3 0 true true)∧∀ q,q<S'.next→q≠y→q≠p4→S4.heap.get q=S'.heap.get q)
      (by
       intro zA hA
       change evCode _ _ _ _ (Code.region 5 _ _) ⟨⟨(t.set 19 (some (.int .i64 b.1))).set 20 (some (.agg #[.int .i64 b.2.lo,.int .i64 b.2.hi])),41⟩,[],S'⟩=_ at hA
       obtain ⟨S5,e5,n5,b5,a5⟩:=push_open S' (.cells [.int .i64 0,.int .i64 0] 36 0 true true)
       obtain ⟨S6,e6,n6,b6,q6⟩:=st_at (P:=Tryz.prog) (o:=0) (c':=[.int .i64 b.2.lo,.int .i64 b.2.hi]) (v:=.agg #[.int .i64 b.2.lo,.int .i64 b.2.hi]) tz36 b5 rfl rfl (show 0+2≤2 by decide) rfl
       simp (disch:=first|omega|assumption) only [E0_G,SY,off,agreeKind,allocV,Nat.reduceAdd,Nat.reduceLT,Nat.reduceBEq,TY_EvH5,tz36,tt36,t0_36,Tryz.underlying36,e5,e6] at hA
       refine ⟨_,S6,hA.symm,?_,?_⟩
       ·exact (q6 y (by omega)).trans ((a5.2 y (by omega)).trans hy')
       intro S7 n7 b7 q7 zB hB
       change evCode _ _ _ _ (Code.block 1 _) _=_ at hB
       have u4:S7.heap.get p4=some (.cells [.int .i64 0] 3 0 true true):=(q7 p4 (by omega)).trans ((q6 p4 (by omega)).trans ((a5.2 p4 (by omega)).trans h4'))
       have u5:S7.heap.get p5=some (.cells [.int .i64 day] 3 0 true true):=(q7 p5 (by omega)).trans ((q6 p5 (by omega)).trans ((a5.2 p5 (by omega)).trans h5'))
       have u6:S7.heap.get p6=some (.cells [.int .i64 sec] 3 0 true true):=(q7 p6 (by omega)).trans ((q6 p6 (by omega)).trans ((a5.2 p6 (by omega)).trans h6'))
       have u8:S7.heap.get S'.next=some (.cells [.int .i64 b.2.lo,.int .i64 b.2.hi] 36 0 true true):=(q7 S'.next (by omega)).trans b6
       rw [code_block,code_seq] at hB
       simp (disch:=first|omega|assumption) only [E0_G,SY,off,agreeKind,allocV,ldA,rdCells,oneB,aggD,aField,aFieldV,Nat.reduceAdd,Nat.reduceLT,Nat.reduceBEq,TY_EvH5,tz36,tz3,Tryz.underlying36,Tryz.underlying3,g4,g5,g6,u4,u5,u6,u8] at hB
       rcases dP (b.2.lo≤sec) with ⟨ha,h⟩|⟨ha,h⟩
       ·obtain ⟨S8,e8,n8,b8,q8⟩:=st_at (P:=Tryz.prog) (o:=0) (c':=[.int .i64 (day+min sec b.2.hi)]) (v:=.int .i64 (day+min sec b.2.hi)) tz3 u4 rfl rfl (show 0+1≤1 by decide) rfl
        simp (disch:=first|omega|assumption) only [E0_G,SY,off,agreeKind,allocV,ldA,rdCells,oneB,aggD,aField,aFieldV,Nat.reduceAdd,Nat.reduceLT,Nat.reduceBEq,TY_EvH5,tz36,tz3,Tryz.underlying36,Tryz.underlying3,g4,g5,g6,u4,u5,u6,u8,ha,e8,hw b hmem] at hB
        refine ⟨.ret,_,_,S8,hB.symm,(q8 y (by omega)).trans b7,.inr ⟨rfl,fun S9 n9 b9 q9=>⟨h,by omega,b9,(q9 p4 (by omega)).trans b8,fun q hq h1 h2=>?_⟩⟩⟩
        exact (q9 q h1).trans ((q8 q h2).trans ((q7 q h1).trans ((q6 q (by omega)).trans (a5.2 q hq))))
       ·simp (disch:=first|omega|assumption) only [E0_G,SY,off,agreeKind,allocV,ldA,rdCells,oneB,aggD,aField,aFieldV,Nat.reduceAdd,Nat.reduceLT,Nat.reduceBEq,TY_EvH5,tz36,tz3,Tryz.underlying36,Tryz.underlying3,g4,g5,g6,u4,u5,u6,u8,ha] at hB
        refine ⟨.normal,_,_,S7,hB.symm,b7,.inl ⟨rfl,fun S9 n9 b9 q9=>⟨h,by omega,b9,fun q hq h1=>?_⟩⟩⟩
        exact (q9 q h1).trans ((q7 q h1).trans ((q6 q (by omega)).trans (a5.2 q hq))))
     rcases this with ⟨S4,k4,hno,hn4,hy4,f4⟩|⟨S4,k4,hyes,hn4,hy4,hp4,f4⟩
     ·refine .inl ⟨S4,_,k4,⟨by omega,hy4,(f4 p4 (by omega) (by omega)).trans h4',(f4 p5 (by omega) (by omega)).trans h5',(f4 p6 (by omega) (by omega)).trans h6',?_,rfl⟩,⟨hn4,fun id hid hT=>f4 id hid (fun e=>hT (.inr e))⟩,fun id h=>.inl h⟩
      rw [← hh,hd,hit,if_neg hno]
     ·refine .inr ⟨S4,_,k4,⟨by omega,hy4,⟨_,?_,hp4⟩,rfl⟩,⟨hn4,fun id hid hT=>f4 id hid (fun e=>hT (.inr e)) (fun e=>hT (.inl e))⟩,fun id h=>.inl h⟩
      rw [← hh,hd,hit,if_pos hyes]
   ·exact ⟨Nat.le_refl _,bx2,(ag.2 p4 l4).trans h4,(ag.2 p5 l5).trans h5,(ag.2 p6 l6).trans h6,rfl,rfl⟩
   ·rintro q hq (h|h)
    ·exact (nl' q hq).2 h
    ·have:=(nl' q hq).1; omega
   ·rintro (h|h)
    ·exact n4b h
    ·omega)
 obtain ⟨q1,q2,q3,q4⟩:=hQ
 exact ⟨x,S',rfl,q1,q2,q3,q4⟩
end House
end Go.Proofs
end
section
set_option linter.unusedSimpArgs false
set_option linter.unusedVariables false
namespace Go.Proofs
namespace House
open Go Go.RowKit Go.Aev
set_option maxRecDepth 100000
def r138 (l:List Sp) (ti:Int):Int :=
 if (l.length:Int)=0 then -1 else
 match hit (r160 ti).1 (r160 ti).2 (r167 l) with
 | some r=>r
 | none=>(r160 ti).1 - 86400+(lget l (l.length - 1)).hi
theorem r167_mem (l:List Sp):∀ (m:Nat) (iv:Int),iv<l.length→∀ b ∈ R167_0 l m iv,b.2 ∈ l:=by
 intro m
 induction m with
 | zero=>intro iv _ b hb; simp [R167_0] at hb
 | succ m ih =>
  intro iv hi b hb
  unfold R167_0 at hb
  split at hb
  ·rcases List.mem_cons.1 hb with rfl|hb
   ·exact List.mem_of_getElem? (lget_some (by omega))
   ·exact ih _ (by omega) b hb
  ·simp at hb
set_option maxHeartbeats 8000000 in
theorem c138 (l:List Sp) (ti:Int) (hb:Bd 86399 l) (hl:l.length≤12) (ht:0≤ti∧ti≤1073741823) (S:AS) (v_l:Value) (hv_l:Lst S v_l l) :
  ∃ S',(evL Tryz.prog E0).call 138 #[v_l,.int .i64 ti] S=some (.int .i64 (r138 l ti),S')∧Agree S S':=by
 obtain ⟨p,n,c,rfl⟩:=lst_slice hv_l
 have hq:=r160_ok ht.1
 generalize hz:(evL Tryz.prog E0).call 138 _ _=z
 rw [L_call,evCall_said rfl Tryz.func138 rfl (by decide) Tryz.ntmps138 Tryz.results138] at hz
 obtain ⟨S1,e1,n1,b1,a1⟩:=push_open S (.cells [.int .i64 0] 3 0 true true)
 have w1:lenV Tryz.prog 40 (.slice p n c)=some (.int .i64 (l.length:Int)):=hv_l.len Tryz.underlying40
 simp (disch:=first|omega|assumption) only [E0_G,SY,setArgs,off,agreeKind,partVals,vals,allocV,boxed,ldA,rdCells,oneB,aggD,aField,aFieldV,aExtract,eq_self,ne_eq,if_true,if_false,not_false_eq_true,Nat.reduceAdd,Nat.reduceSub,Nat.reduceMul,Nat.reduceLT,Nat.reduceEqDiff,Nat.reduceBEq,reduceIte,Int.reduceEq,Int.reduceLT,Int.reduceLE,reduceCtorEq,TY_EvH5,tz3,tt3,t0_3,e1,w1] at hz
 rcases dP ((l.length:Int)=0) with ⟨ha,h⟩|⟨ha,h⟩
 ·obtain ⟨S2,e2,n2,b2,q2⟩:=st_at (P:=Tryz.prog) (o:=0) (c':=[.int .i64 (-1)]) (v:=.int .i64 (-1)) tz3 b1 rfl rfl (show 0+1≤1 by decide) rfl
  simp (disch:=first|omega|assumption) only [E0_G,SY,setArgs,off,agreeKind,partVals,vals,allocV,boxed,ldA,rdCells,oneB,aggD,aField,aFieldV,aExtract,eq_self,ne_eq,if_true,if_false,not_false_eq_true,Nat.reduceAdd,Nat.reduceSub,Nat.reduceMul,Nat.reduceLT,Nat.reduceEqDiff,Nat.reduceBEq,reduceIte,Int.reduceEq,Int.reduceLT,Int.reduceLE,reduceCtorEq,TY_EvH5,tz3,ha,e2,b2] at hz
  have hr:r138 l ti = -1:=if_pos h
  exact fin hz (by rw [hr]) ⟨by omega,fun id hid=>(q2 id (by omega)).trans (a1.2 id hid)⟩
 obtain ⟨S2,k2,a2⟩:=c160 ti ht S1
 obtain ⟨S3,e3,n3,b3,a3⟩:=push_open S2 (.cells [.int .i64 0] 3 0 true true)
 obtain ⟨S4,e4,n4,b4,a4⟩:=push_open S3 (.cells [.int .i64 0] 3 0 true true)
 have b3':=(a4.2 S2.next (by omega)).trans b3
 obtain ⟨S5,e5,n5,b5,q5⟩:=st_at (P:=Tryz.prog) (o:=0) (c':=[.int .i64 (r160 ti).1]) (v:=.int .i64 (r160 ti).1) tz3 b3' rfl rfl (show 0+1≤1 by decide) rfl
 have b4':=(q5 S3.next (by omega)).trans b4
 obtain ⟨S6,e6,n6,b6,q6⟩:=st_at (P:=Tryz.prog) (o:=0) (c':=[.int .i64 (r160 ti).2]) (v:=.int .i64 (r160 ti).2) tz3 b4' rfl rfl (show 0+1≤1 by decide) rfl
 have b5':=(q6 S2.next (by omega)).trans b5
 obtain ⟨S7,e7,a7,n7,b7⟩:=c161 p n c S6
 have m2:=a2.1
 have b1':S7.heap.get S.next=some (.cells [.int .i64 0] 3 0 true true):=(a7.2 _ (by omega)).trans ((q6 _ (by omega)).trans ((q5 _ (by omega)).trans ((a4.2 _ (by omega)).trans ((a3.2 _ (by omega)).trans ((a2.2 _ (by omega)).trans b1)))))
 have b57:=(a7.2 S2.next (by omega)).trans b5'
 have b67:=(a7.2 S3.next (by omega)).trans b6
 have ag7:Agree S S7:=⟨by have:=a7.1; omega,fun id hid=>(a7.2 _ (by omega)).trans ((q6 _ (by omega)).trans ((q5 _ (by omega)).trans ((a4.2 _ (by omega)).trans ((a3.2 _ (by omega)).trans ((a2.2 _ (by omega)).trans (a1.2 id hid))))))⟩
 simp (disch:=first|omega|assumption) only [E0_G,SY,setArgs,off,agreeKind,partVals,vals,allocV,boxed,ldA,rdCells,oneB,aggD,aField,aFieldV,aExtract,eq_self,ne_eq,if_true,if_false,not_false_eq_true,Nat.reduceAdd,Nat.reduceSub,Nat.reduceMul,Nat.reduceLT,Nat.reduceEqDiff,Nat.reduceBEq,reduceIte,Int.reduceEq,Int.reduceLT,Int.reduceLE,reduceCtorEq,TY_EvH5,tz3,tt3,t0_3,ha,k2,e3,e4,e5,e6,e7] at hz
 generalize hR:evCode Tryz.prog E0 (evL Tryz.prog E0) none (.rangeFunc _ _ _ _) _=R at hz
 have hne:l≠[]:=fun e=>h (by rw [e]; rfl)
 have hg:(.slice p n c:Value)≠.slice (some ⟨0,0,some 0⟩) 0 0:=by
  rintro e
  rcases hv_l with ⟨e0,_⟩|⟨id,off,cc,ty,cap,wr,ex,e1,_⟩
  ·exact hne (by simpa using e0)
  ·rw [e] at e1; simp at e1
 have hlt:∀ q,blkOf (.slice p n c)=some q→q<S.next:=fun q hq=>lst_lt hv_l hq hg
 obtain ⟨x,S8,rfl,m8,d8,f8,hx⟩:=rg138 l hl (r160 ti).1 (r160 ti).2 (fun b hbm=>by
   have:=hb b.2 (r167_mem l _ _ (by omega) b hbm)
   rw [wr64 (by omega)]) S7 _ _ _ S.next S2.next S3.next S6.next p n c
  (by simp only [SY,eq_self,Nat.reduceBEq]<;>rfl) (by simp only [SY,eq_self,Nat.reduceBEq]<;>rfl) (by simp only [SY,eq_self,Nat.reduceBEq]<;>rfl) (by simp only [SY,eq_self,Nat.reduceBEq]<;>rfl)
  b1' b57 b67 b7 (by omega) (by omega) (by omega) (by omega) (by omega) (by omega) (by omega) (hv_l.agree ag7) (fun q hq=>⟨by have:=hlt q hq; omega,by have:=hlt q hq; omega⟩) hR
 rcases hx with ⟨rfl,hh,b8⟩|⟨rfl,r,hh,b8⟩
 ·have u5:=(f8 S2.next (by omega) (by omega)).trans b57
  have hx0:l[l.length - 1]?=some (lget l (l.length - 1)):=lget_some (by omega)
  have hxb:=hb _ (List.mem_of_getElem? hx0)
  have wl:IntKind.i64.wrap ((l.length:Int) - 1)=((l.length - 1:Nat):Int):=by rw [wr64 (by omega)]; omega
  obtain ⟨id,of_,cc,ty,wr,ex,i9,j9,l9,q9⟩:=hv_l.at (P:=Tryz.prog) (t:=40) Tryz.underlying40 tz36 hx0
  have j9':S8.heap.get id=some (.cells cc ty 2 wr ex):=(f8 id (by omega) (by omega)).trans ((ag7.2 id l9).trans j9)
  have m0:cc[of_]?=some (.int .i64 (lget l (l.length - 1)).lo):=q9 0 (show 0<2 by decide)
  have m1:cc[of_+1]?=some (.int .i64 (lget l (l.length - 1)).hi):=q9 1 (show 1<2 by decide)
  have wa:IntKind.i64.wrap ((r160 ti).1 - 86400)=(r160 ti).1 - 86400:=wr64 (by omega)
  have wb:IntKind.i64.wrap ((r160 ti).1 - 86400+(lget l (l.length - 1)).hi)=(r160 ti).1 - 86400+(lget l (l.length - 1)).hi:=wr64 (by omega)
  obtain ⟨S9,e9,n9,b9,q9'⟩:=st_at (P:=Tryz.prog) (o:=0) (c':=[.int .i64 ((r160 ti).1 - 86400+(lget l (l.length - 1)).hi)]) (v:=.int .i64 ((r160 ti).1 - 86400+(lget l (l.length - 1)).hi)) tz3 b8 rfl rfl (show 0+1≤1 by decide) rfl
  have d9:=(q9' S7.next (by omega)).trans d8
  obtain ⟨S10,k10,n10,q10⟩:=take1 d9
  have b10:=(q10 S.next (by omega)).trans b9
  simp (disch:=first|omega|assumption) only [E0_G,SY,setArgs,off,agreeKind,partVals,vals,allocV,boxed,ldA,rdCells,oneB,aggD,aField,aFieldV,aExtract,eq_self,ne_eq,if_true,if_false,not_false_eq_true,Nat.reduceAdd,Nat.reduceSub,Nat.reduceMul,Nat.reduceLT,Nat.reduceEqDiff,Nat.reduceBEq,reduceIte,Int.reduceEq,Int.reduceLT,Int.reduceLE,reduceCtorEq] at hz
  rw [code_draws _ _ _ (by kernel_rfl)] at hz
  generalize hnd:needy _=nd at hz
  have nn:nd 10=false:=by rw [← hnd]; kernel_rfl
  simp (disch:=first|omega|assumption) only [E0_G,SY,setArgs,off,agreeKind,partVals,vals,allocV,boxed,ldA,rdCells,oneB,aggD,aField,aFieldV,aExtract,eq_self,ne_eq,if_true,if_false,not_false_eq_true,Nat.reduceAdd,Nat.reduceSub,Nat.reduceMul,Nat.reduceLT,Nat.reduceEqDiff,Nat.reduceBEq,reduceIte,Int.reduceEq,Int.reduceLT,Int.reduceLE,reduceCtorEq,TY_EvH5,tz3,tz36,Tryz.underlying36,Tryz.underlying40,store_agree,store_refl E0_same,nn,u5,w1,wl,i9,j9',m0,m1,wa,wb,e9] at hz
  rw [handed_take k10] at hz
  simp (disch:=first|omega|assumption) only [E0_G,SY,setArgs,off,agreeKind,partVals,vals,allocV,boxed,ldA,rdCells,oneB,aggD,aField,aFieldV,aExtract,eq_self,ne_eq,if_true,if_false,not_false_eq_true,Nat.reduceAdd,Nat.reduceSub,Nat.reduceMul,Nat.reduceLT,Nat.reduceEqDiff,Nat.reduceBEq,reduceIte,Int.reduceEq,Int.reduceLT,Int.reduceLE,reduceCtorEq,TY_EvH5,tz3,b10] at hz
  have hr:r138 l ti=(r160 ti).1 - 86400+(lget l (l.length - 1)).hi:=by unfold r138; rw [if_neg h,hh]
  exact fin hz (by rw [hr]) ⟨by omega,fun id hid=>(q10 id (by omega)).trans ((q9' id (by omega)).trans ((f8 id (by omega) (by omega)).trans (ag7.2 id hid)))⟩
 ·obtain ⟨S9,k9,n9,q9⟩:=take1 d8
  have b9:=(q9 S.next (by omega)).trans b8
  simp (disch:=first|omega|assumption) only [E0_G,SY,setArgs,off,agreeKind,partVals,vals,allocV,boxed,ldA,rdCells,oneB,aggD,aField,aFieldV,aExtract,eq_self,ne_eq,if_true,if_false,not_false_eq_true,Nat.reduceAdd,Nat.reduceSub,Nat.reduceMul,Nat.reduceLT,Nat.reduceEqDiff,Nat.reduceBEq,reduceIte,Int.reduceEq,Int.reduceLT,Int.reduceLE,reduceCtorEq] at hz
  rw [handed_take k9] at hz
  simp (disch:=first|omega|assumption) only [E0_G,SY,setArgs,off,agreeKind,partVals,vals,allocV,boxed,ldA,rdCells,oneB,aggD,aField,aFieldV,aExtract,eq_self,ne_eq,if_true,if_false,not_false_eq_true,Nat.reduceAdd,Nat.reduceSub,Nat.reduceMul,Nat.reduceLT,Nat.reduceEqDiff,Nat.reduceBEq,reduceIte,Int.reduceEq,Int.reduceLT,Int.reduceLE,reduceCtorEq,TY_EvH5,tz3,b9] at hz
  have hr:r138 l ti=r:=by unfold r138; rw [if_neg h,hh]
  exact fin hz (by rw [hr]) ⟨by omega,fun id hid=>(q9 id (by omega)).trans ((f8 id (by omega) (by omega)).trans (ag7.2 id hid))⟩
end House
end Go.Proofs
end
