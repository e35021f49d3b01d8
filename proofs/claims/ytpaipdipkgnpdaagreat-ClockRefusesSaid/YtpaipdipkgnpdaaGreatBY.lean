import Derived.Test.YtpaipdipkgnpdaaGreatBX
section
set_option linter.unusedSimpArgs false
set_option linter.unusedVariables false
namespace Go.Proofs
namespace Clock
open Go Go.RowKit Go.Aev
set_option maxRecDepth 100000
theorem tz122:szOf Tryz.prog 122=some 1:=by kernel_rfl
theorem tt122:inTab Tryz.prog 122=true:=by kernel_rfl
theorem t0_122:zeroOf Tryz.prog 122=some (.map none):=by kernel_rfl
theorem tz211:szOf Tryz.prog 211=some 1:=by kernel_rfl
theorem tt211:inTab Tryz.prog 211=true:=by kernel_rfl
theorem t0_211:zeroOf Tryz.prog 211=some (.nilFunc):=by kernel_rfl
theorem TY_EvW21:type_of% (And.intro TY_EvW18 (And.intro (And.intro (And.intro Tryz.underlying122 tz122) (And.intro tt122 t0_122)) (And.intro (And.intro Tryz.underlying211 tz211) (And.intro tt211 t0_211)))):=(And.intro TY_EvW18 (And.intro (And.intro (And.intro Tryz.underlying122 tz122) (And.intro tt122 t0_122)) (And.intro (And.intro Tryz.underlying211 tz211) (And.intro tt211 t0_211))))
theorem flat2 {α β:Type} {f:α→List β} (h:∀ a,∃ x y,f a=[x,y]):∀ (l:List α) (i:Nat) (a:α),l[i]?=some a→(l.flatMap f)[2 * i]?=(f a)[0]?∧(l.flatMap f)[2 * i+1]?=(f a)[1]?
 | [],i,a,e=>by simp at e
 | b :: l,0,a,e=>by
  simp only [List.getElem?_cons_zero,Option.some.injEq] at e
  subst e
  obtain ⟨x,y,hxy⟩:=h b
  simp [List.flatMap_cons,hxy]
 | b :: l,i+1,a,e=>by
  obtain ⟨h1,h2⟩:=flat2 h l i a (by simpa using e)
  obtain ⟨x,y,hxy⟩:=h b
  rw [List.flatMap_cons,hxy]
  have e1:2 * (i+1)=2 * i+1+1:=by omega
  rw [e1]
  exact ⟨by simpa using h1,by simpa using h2⟩
theorem flat2_len {α β:Type} {f:α→List β} (h:∀ a,∃ x y,f a=[x,y]):∀ l:List α,(l.flatMap f).length=2 * l.length
 | []=>rfl
 | b :: l=>by
  obtain ⟨x,y,hxy⟩:=h b
  rw [List.flatMap_cons,List.length_append,flat2_len h l,hxy]
  simp only [List.length_cons,List.length_nil]; omega
def BxG (K:Nat→Prop) (S:AS) (p:Nat) (nodes:List Nd) (es:List (Nd × Int)):Prop:=∃ vn mid cl vl,S.heap.get p=some (.cells [vn,.map (some mid),vl] 124 0 true true)∧p<S.next∧¬ K p ∧
 S.heap.get mid=some (.mapb (mapN es) cl)∧mid<S.next∧¬ K mid∧Lst S vn nodes∧∀ b,blkOf vn=some b→¬ K b
theorem BxG.off {K:Nat→Prop} {S S':AS} {p:Nat} {nodes:List Nd} {es:List (Nd × Int)} (h:BxG K S p nodes es) (a:Off K S S'):BxG K S' p nodes es:=by
 obtain ⟨vn,mid,cl,vl,h1,h2,h3,h4,h5,h6,h7,h8⟩:=h
 exact ⟨vn,mid,cl,vl,(a.2 p h2 h3).trans h1,by have:=a.1; omega,h3,(a.2 mid h5 h6).trans h4,by have:=a.1; omega,h6,h7.off a h8,h8⟩
def lk165 (es:List (Nd × Int)) (b:Nd × Sp):List Lk:=[⟨0,nAt es b.1,b.2.hi⟩,⟨nAt es b.1,0,IntKind.i64.wrap (0 - b.2.lo)⟩]
def r165 (r:Rc) (es:List (Nd × Int)):List Lk:=(tolds r).flatMap (lk165 es)
theorem lk165_two (es:List (Nd × Int)):∀ b,∃ x y,lk165 es b=[x,y]:=fun b=>⟨_,_,rfl⟩
set_option maxHeartbeats 8000000 in
theorem feed165 (r:Rc) (hk:r.strikes.length≤100) (hg:r.sights.length≤1000) (K:Nat→Prop) (S:AS) (pr pg:Nat) (nodes:List Nd) (es:List (Nd × Int)) (hr:BxR K S pr r) (hG:BxG K S pg nodes es) :
  Feeds Tryz.prog E0 K S 165 #[] #[.pointer (some ⟨pr,0,none⟩),.pointer (some ⟨pg,0,none⟩)] argsL (r165 r es):=by
 intro Sx y I U0 ha hT hy hI
 have lb:=ha.1
 obtain ⟨v0,v1,v2,hp,lp,kp,h0,h1,h2,k0,k1,k2⟩:=hr
 obtain ⟨vn,mid,cl,vl,gp,glp,gkp,gm,glm,gkm,-,-⟩:=hG
 have nu:∀ id,id<S.next→¬ K id→¬ U0 id:=fun id h hk hu=>(hT id hu).elim (fun h=>by omega) hk
 have ulow:=hy.low _ _ _ hI
 have w0:∀ b,blkOf v0=some b→¬ U0 b:=fun b hb=>nu b (lst_low h0 (by omega) hb) (k0 b hb)
 have w1:∀ b,blkOf v1=some b→¬ U0 b:=fun b hb=>nu b (lst_low h1 (by omega) hb) (k1 b hb)
 have w2:∀ b,blkOf v2=some b→¬ U0 b:=fun b hb=>nu b (lst_low h2 (by omega) hb) (k2 b hb)
 replace h0:=h0.off ha k0
 replace h1:=h1.off ha k1
 replace h2:=h2.off ha k2
 replace hp:=(ha.2 pr lp kp).trans hp
 replace gp:=(ha.2 pg glp gkp).trans gp
 replace gm:=(ha.2 mid glm gkm).trans gm
 have nug:=nu pg glp gkp
 have num:=nu mid glm gkm
 generalize hz:(evL Tryz.prog E0).call 165 _ _=z
 change (evL Tryz.prog E0).call 165 #[.func (.yield y) #[] #[],.pointer (some ⟨pr,0,none⟩),.pointer (some ⟨pg,0,none⟩)] Sx=z at hz
 rw [L_call,evCall_said rfl Tryz.func165 rfl (by decide) Tryz.ntmps165 Tryz.results165] at hz
 obtain ⟨S1,e1,n1,b1,a1⟩:=push_open Sx (.cells [.func (.yield y) #[] #[]] 211 0 true true)
 have hp1:=(a1.2 pr (by omega)).trans hp
 obtain ⟨S2,c2,a2,br⟩:=c166 r v0 v1 v2 U0 S1 (fun id h=>by have:=ulow id h; omega) (h0.agree a1) (h1.agree a1) (h2.agree a1) w0 w1 w2
 simp (disch:=first|omega|assumption) only [E0_G,SY,setArgs,off,agreeKind,vals,boxed,ldA,rdCells,aggD,Nat.reduceAdd,Nat.reduceSub,Nat.reduceLT,Nat.reduceBEq,TY_EvW21,e1,hp1,c2] at hz
 generalize hR:evCode Tryz.prog E0 (evL Tryz.prog E0) none (.rangeFunc _ _ _ _) _=R at hz
 have l2:=a2.1
 have a12:=a1.trans a2
 have g1:=(a2.2 Sx.next (by omega)).trans b1
 have gp2:=(a12.2 pg (by omega)).trans gp
 have gm2:=(a12.2 mid (by omega)).trans gm
 have ny2:¬ U0 Sx.next:=fun h=>by have:=ulow _ h; omega
 obtain ⟨S3,U3,rfl,⟨hI3,hn3⟩,hd3,hlt3,hoff3,hw3,hnd3⟩:=range_feed hR (kf:=187) (cs:=#[]) (ds:=#[.pointer (some ⟨S1.next,0,none⟩)]) (by simp only [SY,eq_self,Nat.reduceBEq]<;>rfl) (fun _ _=>rfl) (feed187 r hk hg U0 S2 S1.next br) (Off.refl U0 S2)
  (fun i U S'=>I (2 * i) U S'∧S2.next≤S'.next) U0 (fun id h=>.inr h) ⟨hy.keep _ _ _ _ hI a12.1 (fun id hid _=>a12.2 id hid),Nat.le_refl _⟩
  (fun i U S1 h=>hy.low _ _ _ h.1)
  (fun i U S4 S5 h hle hk=>⟨hy.keep _ _ _ _ h.1 hle (fun id hid hh=>hk id hid (hh.imp_right (fun h=>by omega))),by have:=h.2; omega⟩)
  (by
   rintro y' L hb hy' i U S4 b hbi ⟨hI4,hn4⟩ hoff hU hny hyU hL
   obtain ⟨nd,sp⟩:=b
   have nU:∀ id,id<S2.next→¬ U0 id→¬ U id:=fun id h hn hu=>(hU id hu).elim hn (fun h=>by omega)
   have u1:=(hoff.2 Sx.next (by omega) ny2).trans g1
   have ug:=(hoff.2 pg (by omega) nug).trans gp2
   have um:=(hoff.2 mid (by omega) num).trans gm2
   have hU4:=hy.low _ _ _ hI4
   obtain ⟨hx1,hx2⟩:=flat2 (lk165_two es) (tolds r) i (nd,sp) hbi
   obtain ⟨S13,rr1,rr2,U',rr3,rr4,rr5,rr6⟩:=round_in (P:=Tryz.prog) (E:=E0) (l:=y') (bs:=[.agg #[.int .i64 nd.kind,.int .i64 nd.n],.agg #[.int .i64 sp.lo,.int .i64 sp.hi]]) hb rfl hL (Q:=fun S13=>S13.heap.get y'=some (.loop L)∧∃ U',I (2 * i+1+1) U' S13∧S2.next≤S13.next∧Off (fun id=>U id∨id=y') S4 S13∧Wider U S4 U') (by
    intro zA hA
    obtain ⟨S5,e5,n5,b5,a5⟩:=push_open S4 (.cells [.int .i64 0,.int .i64 0] 131 0 true true)
    obtain ⟨S6,e6,n6,b6,q6⟩:=st_at (P:=Tryz.prog) (o:=0) (c':=[.int .i64 nd.kind,.int .i64 nd.n]) (v:=.agg #[.int .i64 nd.kind,.int .i64 nd.n]) tz131 b5 rfl rfl (show 0+2≤2 by decide) rfl
    obtain ⟨S7,e7,n7,b7,a7⟩:=push_open S6 (.cells [.int .i64 0,.int .i64 0] 23 0 true true)
    obtain ⟨S8,e8,n8,b8,q8⟩:=st_at (P:=Tryz.prog) (o:=0) (c':=[.int .i64 sp.lo,.int .i64 sp.hi]) (v:=.agg #[.int .i64 sp.lo,.int .i64 sp.hi]) tz23 b7 rfl rfl (show 0+2≤2 by decide) rfl
    have f8:∀ id,id<S4.next→S8.heap.get id=S4.heap.get id:=fun id hid=>(q8 id (by omega)).trans ((a7.2 id (by omega)).trans ((q6 id (by omega)).trans (a5.2 id hid)))
    change evCode _ _ _ _ _ ⟨⟨_,32⟩,[],S4⟩=_ at hA
    simp (disch:=first|omega|assumption) only [E0_G,SY,off,agreeKind,allocV,Nat.reduceAdd,Nat.reduceLT,Nat.reduceBEq,TY_EvW21,e5,e6,e7,e8] at hA
    refine ⟨_,S8,hA.symm,(f8 y' (by omega)).trans hL,?_⟩
    intro S9 n9 b9 q9 zB hB
    have f9:∀ id,id<S4.next→id≠y'→S9.heap.get id=S4.heap.get id:=fun id hid hne=>(q9 id hne).trans (f8 id hid)
    have u1_9:=(f9 Sx.next (by omega) (by omega)).trans u1
    have ug_9:=(f9 pg (by omega) (by omega)).trans ug
    have um_9:=(f9 mid (by omega) (by omega)).trans um
    have un_9:S9.heap.get S4.next=some (.cells [.int .i64 nd.kind,.int .i64 nd.n] 131 0 true true):=(q9 _ (by omega)).trans ((q8 _ (by omega)).trans ((a7.2 _ (by omega)).trans b6))
    have us_9:S9.heap.get S6.next=some (.cells [.int .i64 sp.lo,.int .i64 sp.hi] 23 0 true true):=(q9 _ (by omega)).trans b8
    have hI9:I (2 * i) U S9:=hy.keep _ _ _ _ hI4 (by omega) (fun id hid hh=>f9 id hid (fun e=>hh.elim (fun h=>hyU (e ▸ h)) (fun h=>by omega)))
    have lk:=look_nd um_9 nd
    have hn9:S9.next=S4.next+2:=by omega
    rcases hy.step (2 * i) U S9 _ hx1 hI9 with ⟨S10,U10,k10,hI10,f10,w10⟩|⟨_,_,_,hF,_⟩
    case inr=>exact hF.elim
    replace k10:(evL Tryz.prog E0).round y #[.agg #[.int .i64 0,.int .i64 (nAt es nd),.int .i64 sp.hi]] S9=some (.bool true,S10):=k10
    have l10:=f10.1
    have u1_10:=(f10.2 Sx.next (by omega) (nU _ (by omega) ny2)).trans u1_9
    have us_10:=(f10.2 S6.next (by omega) (fun h=>by have:=hU4 _ h; omega)).trans us_9
    rcases hy.step (2 * i+1) U10 S10 _ hx2 hI10 with ⟨S11,U11,k11,hI11,f11,w11⟩|⟨_,_,_,hF,_⟩
    case inr=>exact hF.elim
    replace k11:(evL Tryz.prog E0).round y #[.agg #[.int .i64 (nAt es nd),.int .i64 0,.int .i64 (IntKind.i64.wrap (0 - sp.lo))]] S10=some (.bool true,S11):=k11
    have l11:=f11.1
    have y1:∀ a b:Int,aBuild Tryz.prog 107 [(0,.int .i64 0),(1,.int .i64 a),(2,.int .i64 b)]=some (.agg #[.int .i64 0,.int .i64 a,.int .i64 b]):=fun a b=>by kernel_rfl
    have y2:∀ a b:Int,aBuild Tryz.prog 107 [(0,.int .i64 a),(1,.int .i64 0),(2,.int .i64 b)]=some (.agg #[.int .i64 a,.int .i64 0,.int .i64 b]):=fun a b=>by kernel_rfl
    simp (disch:=first|omega|assumption) only [E0_G,SY,off,agreeKind,partVals,vals,ldA,rdCells,aggD,aField,Nat.reduceAdd,Nat.reduceLT,Nat.reduceBEq,TY_EvW21,calledV_yield,firstOf_none,op_round,roundV_some,op_lookup,u1_9,ug_9,un_9,us_9,lk,y1,y2,k10,u1_10,us_10,k11] at hB
    have nU10:¬ U10 y':=fun h=>(w10 _ h).elim hyU (fun h=>by omega)
    refine ⟨_,_,S11,hB.symm,(f11.2 y' (by omega) nU10).trans ((f10.2 y' (by omega) hyU).trans b9),?_⟩
    intro S12 n12 b12 q12
    refine ⟨b12,U11,hy.keep _ _ _ _ hI11 (by omega) (fun id hid hh=>q12 id (fun e=>hh.elim (fun h=>(w11 _ (e ▸ h)).elim nU10 (fun h=>by omega)) (fun h=>by omega))),by omega,⟨by omega,fun id hid hn=>?_⟩,fun id h=>?_⟩
    ·have hne:id≠y':=fun e=>hn (.inr e)
     have hnU:¬ U id:=fun e=>hn (.inl e)
     exact (q12 id hne).trans ((f11.2 id (by omega) (fun h=>(w10 _ h).elim hnU (fun h=>by omega))).trans ((f10.2 id (by omega) hnU).trans (f9 id hid hne)))
    ·exact (w11 id h).elim (fun h=>(w10 id h).elim .inl (fun h=>.inr (by omega))) (fun h=>.inr (by omega)))
   exact ⟨S13,U',rr1,rr2,⟨by rw [show 2 * (i+1)=2 * i+1+1 by omega]; exact rr3,rr4⟩,rr5,rr6⟩)
 obtain ⟨S14,k14,n14,q14⟩:=take1 hd3
 simp (disch:=first|omega|assumption) only [SY] at hz
 rw [handed_take_n k14] at hz
 simp (disch:=first|omega|assumption) only [SY] at hz
 refine ⟨S14,U3,hz.symm,?_,⟨by omega,fun id hid hn=>(q14 id (by omega)).trans ((hoff3.2 id (by omega) hn).trans (a12.2 id hid))⟩,fun id h=>(hw3 id h).imp_right (fun h=>by omega)⟩
 rw [show (r165 r es).length=2 * (tolds r).length from flat2_len (lk165_two es) _]
 exact hy.keep _ _ _ _ hI3 (by omega) (fun id hid hh=>q14 id (fun e=>hh.elim (fun h=>hnd3 (e ▸ h)) (fun h=>by omega)))
end Clock
end Go.Proofs
end
section
set_option linter.unusedSimpArgs false
set_option linter.unusedVariables false
namespace Go.Proofs
namespace Clock
open Go Go.RowKit Go.Aev
set_option maxRecDepth 100000
theorem TY_EvW22:type_of% TY_EvW21:=TY_EvW21
def lk168 (es:List (Nd × Int)) (b:Nd × Sp):List Lk:=[⟨nAt es b.1,nAt es ⟨4,b.2.lo⟩,0⟩,⟨nAt es ⟨4,IntKind.i64.wrap (b.2.hi+1)⟩,nAt es b.1,0⟩]
def r168 (r:Rc) (es:List (Nd × Int)):List Lk:=(rowsR r).flatMap (lk168 es)
theorem lk168_two (es:List (Nd × Int)):∀ b,∃ x y,lk168 es b=[x,y]:=fun b=>⟨_,_,rfl⟩
set_option maxHeartbeats 8000000 in
theorem feed168 (r:Rc) (hk:r.strikes.length≤100) (hg:r.sights.length≤1000) (K:Nat→Prop) (S:AS) (pr pg:Nat) (nodes:List Nd) (es:List (Nd × Int)) (hr:BxR K S pr r) (hG:BxG K S pg nodes es) :
  Feeds Tryz.prog E0 K S 168 #[] #[.pointer (some ⟨pr,0,none⟩),.pointer (some ⟨pg,0,none⟩)] argsL (r168 r es):=by
 intro Sx y I U0 ha hT hy hI
 have lb:=ha.1
 obtain ⟨v0,v1,v2,hp,lp,kp,h0,h1,h2,k0,k1,k2⟩:=hr
 obtain ⟨vn,mid,cl,vl,gp,glp,gkp,gm,glm,gkm,-,-⟩:=hG
 have nu:∀ id,id<S.next→¬ K id→¬ U0 id:=fun id h hk hu=>(hT id hu).elim (fun h=>by omega) hk
 have ulow:=hy.low _ _ _ hI
 have w0:∀ b,blkOf v0=some b→¬ U0 b:=fun b hb=>nu b (lst_low h0 (by omega) hb) (k0 b hb)
 have w1:∀ b,blkOf v1=some b→¬ U0 b:=fun b hb=>nu b (lst_low h1 (by omega) hb) (k1 b hb)
 have w2:∀ b,blkOf v2=some b→¬ U0 b:=fun b hb=>nu b (lst_low h2 (by omega) hb) (k2 b hb)
 replace h0:=h0.off ha k0
 replace h1:=h1.off ha k1
 replace h2:=h2.off ha k2
 replace hp:=(ha.2 pr lp kp).trans hp
 replace gp:=(ha.2 pg glp gkp).trans gp
 replace gm:=(ha.2 mid glm gkm).trans gm
 have nug:=nu pg glp gkp
 have num:=nu mid glm gkm
 generalize hz:(evL Tryz.prog E0).call 168 _ _=z
 change (evL Tryz.prog E0).call 168 #[.func (.yield y) #[] #[],.pointer (some ⟨pr,0,none⟩),.pointer (some ⟨pg,0,none⟩)] Sx=z at hz
 rw [L_call,evCall_said rfl Tryz.func168 rfl (by decide) Tryz.ntmps168 Tryz.results168] at hz
 obtain ⟨S1,e1,n1,b1,a1⟩:=push_open Sx (.cells [.func (.yield y) #[] #[]] 211 0 true true)
 have hp1:=(a1.2 pr (by omega)).trans hp
 obtain ⟨S2,c2,a2,br⟩:=c163 r v0 v1 v2 U0 S1 (fun id h=>by have:=ulow id h; omega) (h0.agree a1) (h1.agree a1) (h2.agree a1) w0 w1 w2
 simp (disch:=first|omega|assumption) only [E0_G,SY,setArgs,off,agreeKind,vals,boxed,ldA,rdCells,aggD,Nat.reduceAdd,Nat.reduceSub,Nat.reduceLT,Nat.reduceBEq,TY_EvW22,e1,hp1,c2] at hz
 generalize hR:evCode Tryz.prog E0 (evL Tryz.prog E0) none (.rangeFunc _ _ _ _) _=R at hz
 have l2:=a2.1
 have a12:=a1.trans a2
 have g1:=(a2.2 Sx.next (by omega)).trans b1
 have gp2:=(a12.2 pg (by omega)).trans gp
 have gm2:=(a12.2 mid (by omega)).trans gm
 have ny2:¬ U0 Sx.next:=fun h=>by have:=ulow _ h; omega
 obtain ⟨S3,U3,rfl,⟨hI3,hn3⟩,hd3,hlt3,hoff3,hw3,hnd3⟩:=range_feed hR (kf:=186) (cs:=#[]) (ds:=#[.pointer (some ⟨S1.next,0,none⟩)]) (by simp only [SY,eq_self,Nat.reduceBEq]<;>rfl) (fun _ _=>rfl) (feed186 r hk hg U0 S2 S1.next br) (Off.refl U0 S2)
  (fun i U S'=>I (2 * i) U S'∧S2.next≤S'.next) U0 (fun id h=>.inr h) ⟨hy.keep _ _ _ _ hI a12.1 (fun id hid _=>a12.2 id hid),Nat.le_refl _⟩
  (fun i U S1 h=>hy.low _ _ _ h.1)
  (fun i U S4 S5 h hle hk=>⟨hy.keep _ _ _ _ h.1 hle (fun id hid hh=>hk id hid (hh.imp_right (fun h=>by omega))),by have:=h.2; omega⟩)
  (by
   rintro y' L hb hy' i U S4 b hbi ⟨hI4,hn4⟩ hoff hU hny hyU hL
   obtain ⟨nd,sp⟩:=b
   have nU:∀ id,id<S2.next→¬ U0 id→¬ U id:=fun id h hn hu=>(hU id hu).elim hn (fun h=>by omega)
   have u1:=(hoff.2 Sx.next (by omega) ny2).trans g1
   have ug:=(hoff.2 pg (by omega) nug).trans gp2
   have um:=(hoff.2 mid (by omega) num).trans gm2
   have hU4:=hy.low _ _ _ hI4
   obtain ⟨hx1,hx2⟩:=flat2 (lk168_two es) (rowsR r) i (nd,sp) hbi
   obtain ⟨S13,rr1,rr2,U',rr3,rr4,rr5,rr6⟩:=round_in (P:=Tryz.prog) (E:=E0) (l:=y') (bs:=[.agg #[.int .i64 nd.kind,.int .i64 nd.n],.agg #[.int .i64 sp.lo,.int .i64 sp.hi]]) hb rfl hL (Q:=fun S13=>S13.heap.get y'=some (.loop L)∧∃ U',I (2 * i+1+1) U' S13∧S2.next≤S13.next∧Off (fun id=>U id∨id=y') S4 S13∧Wider U S4 U') (by
    intro zA hA
    obtain ⟨S5,e5,n5,b5,a5⟩:=push_open S4 (.cells [.int .i64 0,.int .i64 0] 131 0 true true)
    obtain ⟨S6,e6,n6,b6,q6⟩:=st_at (P:=Tryz.prog) (o:=0) (c':=[.int .i64 nd.kind,.int .i64 nd.n]) (v:=.agg #[.int .i64 nd.kind,.int .i64 nd.n]) tz131 b5 rfl rfl (show 0+2≤2 by decide) rfl
    obtain ⟨S7,e7,n7,b7,a7⟩:=push_open S6 (.cells [.int .i64 0,.int .i64 0] 23 0 true true)
    obtain ⟨S8,e8,n8,b8,q8⟩:=st_at (P:=Tryz.prog) (o:=0) (c':=[.int .i64 sp.lo,.int .i64 sp.hi]) (v:=.agg #[.int .i64 sp.lo,.int .i64 sp.hi]) tz23 b7 rfl rfl (show 0+2≤2 by decide) rfl
    have f8:∀ id,id<S4.next→S8.heap.get id=S4.heap.get id:=fun id hid=>(q8 id (by omega)).trans ((a7.2 id (by omega)).trans ((q6 id (by omega)).trans (a5.2 id hid)))
    change evCode _ _ _ _ _ ⟨⟨_,40⟩,[],S4⟩=_ at hA
    simp (disch:=first|omega|assumption) only [E0_G,SY,off,agreeKind,allocV,Nat.reduceAdd,Nat.reduceLT,Nat.reduceBEq,TY_EvW22,e5,e6,e7,e8] at hA
    refine ⟨_,S8,hA.symm,(f8 y' (by omega)).trans hL,?_⟩
    intro S9 n9 b9 q9 zB hB
    have f9:∀ id,id<S4.next→id≠y'→S9.heap.get id=S4.heap.get id:=fun id hid hne=>(q9 id hne).trans (f8 id hid)
    have u1_9:=(f9 Sx.next (by omega) (by omega)).trans u1
    have ug_9:=(f9 pg (by omega) (by omega)).trans ug
    have um_9:=(f9 mid (by omega) (by omega)).trans um
    have un_9:S9.heap.get S4.next=some (.cells [.int .i64 nd.kind,.int .i64 nd.n] 131 0 true true):=(q9 _ (by omega)).trans ((q8 _ (by omega)).trans ((a7.2 _ (by omega)).trans b6))
    have us_9:S9.heap.get S6.next=some (.cells [.int .i64 sp.lo,.int .i64 sp.hi] 23 0 true true):=(q9 _ (by omega)).trans b8
    have hI9:I (2 * i) U S9:=hy.keep _ _ _ _ hI4 (by omega) (fun id hid hh=>f9 id hid (fun e=>hh.elim (fun h=>hyU (e ▸ h)) (fun h=>by omega)))
    have lk:=look_nd um_9 nd
    have hn9:S9.next=S4.next+2:=by omega
    change evCode _ _ _ _ (Code.block _ (Code.seq _ (Code.seq _ _))) _=_ at hB
    simp (disch:=first|omega|assumption) only [E0_G,SY,off,agreeKind,ldA,rdCells,aggD,aField,Nat.reduceAdd,Nat.reduceLT,Nat.reduceBEq,TY_EvW22,op_lookup,ug_9,un_9,lk] at hB
    rw [code_draws _ _ _ (by kernel_rfl)] at hB
    generalize hnd:needy _=ndd at hB
    have nn1:ndd 9=false:=by rw [← hnd]; kernel_rfl
    have nn2:ndd 22=false:=by rw [← hnd]; kernel_rfl
    obtain ⟨Sa,ka,aa⟩:=c98 sp.lo S9
    have la:=aa.1
    have sa:E0.same S9 Sa=true:=symEnv_same aa
    have u1_a:=(aa.2 Sx.next (by omega)).trans u1_9
    have ug_a:=(aa.2 pg (by omega)).trans ug_9
    have um_a:=(aa.2 mid (by omega)).trans um_9
    have us_a:=(aa.2 S6.next (by omega)).trans us_9
    have hIa:I (2 * i) U Sa:=hy.keep _ _ _ _ hI9 aa.1 (fun id hid _=>aa.2 id hid)
    have lk2:aLookup Tryz.prog 122 (.map (some mid)) (.agg #[.int .i64 (r98 sp.lo).1,.int .i64 (r98 sp.lo).2]) false Sa=some (.int .i64 (nAt es ⟨4,sp.lo⟩)):=look_nd um_a ⟨_,_⟩
    rcases hy.step (2 * i) U Sa _ hx1 hIa with ⟨S10,U10,k10,hI10,f10,w10⟩|⟨_,_,_,hF,_⟩
    case inr=>exact hF.elim
    replace k10:(evL Tryz.prog E0).round y #[.agg #[.int .i64 (nAt es nd),.int .i64 (nAt es ⟨4,sp.lo⟩),.int .i64 0]] Sa=some (.bool true,S10):=k10
    have l10:=f10.1
    have nUg:=nU _ (by omega) nug
    have nUm:=nU _ (by omega) num
    have nUs:¬ U S6.next:=fun h=>by have:=hU4 _ h; omega
    have nUx:=nU _ (by omega) ny2
    have u1_10:=(f10.2 Sx.next (by omega) nUx).trans u1_a
    have ug_10:=(f10.2 pg (by omega) nUg).trans ug_a
    have um_10:=(f10.2 mid (by omega) nUm).trans um_a
    have us_10:=(f10.2 S6.next (by omega) nUs).trans us_a
    obtain ⟨Sb,kb,ab⟩:=c98 (IntKind.i64.wrap (sp.hi+1)) S10
    have lb':=ab.1
    have sb:E0.same S10 Sb=true:=symEnv_same ab
    have u1_b:=(ab.2 Sx.next (by omega)).trans u1_10
    have ug_b:=(ab.2 pg (by omega)).trans ug_10
    have um_b:=(ab.2 mid (by omega)).trans um_10
    have hIb:I (2 * i+1) U10 Sb:=hy.keep _ _ _ _ hI10 ab.1 (fun id hid _=>ab.2 id hid)
    have lk3:aLookup Tryz.prog 122 (.map (some mid)) (.agg #[.int .i64 (r98 (IntKind.i64.wrap (sp.hi+1))).1,.int .i64 (r98 (IntKind.i64.wrap (sp.hi+1))).2]) false Sb=some (.int .i64 (nAt es ⟨4,IntKind.i64.wrap (sp.hi+1)⟩)):=look_nd um_b ⟨_,_⟩
    rcases hy.step (2 * i+1) U10 Sb _ hx2 hIb with ⟨S11,U11,k11,hI11,f11,w11⟩|⟨_,_,_,hF,_⟩
    case inr=>exact hF.elim
    replace k11:(evL Tryz.prog E0).round y #[.agg #[.int .i64 (nAt es ⟨4,IntKind.i64.wrap (sp.hi+1)⟩),.int .i64 (nAt es nd),.int .i64 0]] Sb=some (.bool true,S11):=k11
    have l11:=f11.1
    have y1:∀ a b:Int,aBuild Tryz.prog 107 [(0,.int .i64 a),(1,.int .i64 b)]=some (.agg #[.int .i64 a,.int .i64 b,.int .i64 0]):=fun a b=>by kernel_rfl
    simp (disch:=first|omega|assumption) only [E0_G,SY,agreeKind,partVals,vals,ldA,aggD,aField,Nat.reduceAdd,Nat.reduceLT,Nat.reduceBEq,TY_EvW22,calledV_yield,firstOf_none,op_round,roundV_some,op_lookup,store_agree,store_refl E0_same,nn1,nn2,u1_9,ug_9,us_9,ka,lk2,y1,k10,u1_10,ug_10,us_10,kb,lk3,k11] at hB
    have nU10:¬ U10 y':=fun h=>(w10 _ h).elim hyU (fun h=>by omega)
    refine ⟨_,_,S11,hB.symm,(f11.2 y' (by omega) nU10).trans ((ab.2 y' (by omega)).trans ((f10.2 y' (by omega) hyU).trans ((aa.2 y' (by omega)).trans b9))),?_⟩
    intro S12 n12 b12 q12
    refine ⟨b12,U11,hy.keep _ _ _ _ hI11 (by omega) (fun id hid hh=>q12 id (fun e=>hh.elim (fun h=>(w11 _ (e ▸ h)).elim nU10 (fun h=>by omega)) (fun h=>by omega))),by omega,⟨by omega,fun id hid hn=>?_⟩,fun id h=>?_⟩
    ·have hne:id≠y':=fun e=>hn (.inr e)
     have hnU:¬ U id:=fun e=>hn (.inl e)
     exact (q12 id hne).trans ((f11.2 id (by omega) (fun h=>(w10 _ h).elim hnU (fun h=>by omega))).trans ((ab.2 id (by omega)).trans ((f10.2 id (by omega) hnU).trans ((aa.2 id (by omega)).trans (f9 id hid hne)))))
    ·exact (w11 id h).elim (fun h=>(w10 id h).elim .inl (fun h=>.inr (by omega))) (fun h=>.inr (by omega)))
   exact ⟨S13,U',rr1,rr2,⟨by rw [show 2 * (i+1)=2 * i+1+1 by omega]; exact rr3,rr4⟩,rr5,rr6⟩)
 obtain ⟨S14,k14,n14,q14⟩:=take1 hd3
 simp (disch:=first|omega|assumption) only [SY] at hz
 rw [handed_take_n k14] at hz
 simp (disch:=first|omega|assumption) only [SY] at hz
 refine ⟨S14,U3,hz.symm,?_,⟨by omega,fun id hid hn=>(q14 id (by omega)).trans ((hoff3.2 id (by omega) hn).trans (a12.2 id hid))⟩,fun id h=>(hw3 id h).imp_right (fun h=>by omega)⟩
 rw [show (r168 r es).length=2 * (rowsR r).length from flat2_len (lk168_two es) _]
 exact hy.keep _ _ _ _ hI3 (by omega) (fun id hid hh=>q14 id (fun e=>hh.elim (fun h=>hnd3 (e ▸ h)) (fun h=>by omega)))
end Clock
end Go.Proofs
end
section
set_option linter.unusedSimpArgs false
set_option linter.unusedVariables false
namespace Go.Proofs
namespace Clock
open Go Go.RowKit Go.Aev
set_option maxRecDepth 100000
theorem TY_EvW23:type_of% TY_EvW22:=TY_EvW22
def R167 (es:List (Nd × Int)):Int→List (Nd × Sp)→List Lk
 | _,[]=>[]
 | p,b :: l=>(if 0≤p then [⟨nAt es b.1,p,0⟩] else [])++R167 es (nAt es b.1) l
def r167 (r:Rc) (es:List (Nd × Int)):List Lk:=R167 es (-1) (rowsR r)
set_option maxHeartbeats 8000000 in
theorem feed167 (r:Rc) (hk:r.strikes.length≤100) (hg:r.sights.length≤1000) (K:Nat→Prop) (S:AS) (pr pg:Nat) (nodes:List Nd) (es:List (Nd × Int)) (hr:BxR K S pr r) (hG:BxG K S pg nodes es) :
  Feeds Tryz.prog E0 K S 167 #[] #[.pointer (some ⟨pr,0,none⟩),.pointer (some ⟨pg,0,none⟩)] argsL (r167 r es):=by
 intro Sx y I U0 ha hT hy hI
 have lb:=ha.1
 obtain ⟨v0,v1,v2,hp,lp,kp,h0,h1,h2,k0,k1,k2⟩:=hr
 obtain ⟨vn,mid,cl,vl,gp,glp,gkp,gm,glm,gkm,-,-⟩:=hG
 have nu:∀ id,id<S.next→¬ K id→¬ U0 id:=fun id h hk hu=>(hT id hu).elim (fun h=>by omega) hk
 have ulow:=hy.low _ _ _ hI
 have b0:∀ b,blkOf v0=some b→b<S.next:=fun b hb=>lst_low h0 (by omega) hb
 have b1':∀ b,blkOf v1=some b→b<S.next:=fun b hb=>lst_low h1 (by omega) hb
 have b2':∀ b,blkOf v2=some b→b<S.next:=fun b hb=>lst_low h2 (by omega) hb
 replace h0:=h0.off ha k0
 replace h1:=h1.off ha k1
 replace h2:=h2.off ha k2
 replace hp:=(ha.2 pr lp kp).trans hp
 replace gp:=(ha.2 pg glp gkp).trans gp
 replace gm:=(ha.2 mid glm gkm).trans gm
 have nug:=nu pg glp gkp
 have num:=nu mid glm gkm
 generalize hz:(evL Tryz.prog E0).call 167 _ _=z
 change (evL Tryz.prog E0).call 167 #[.func (.yield y) #[] #[],.pointer (some ⟨pr,0,none⟩),.pointer (some ⟨pg,0,none⟩)] Sx=z at hz
 rw [L_call,evCall_said rfl Tryz.func167 rfl (by decide) Tryz.ntmps167 Tryz.results167] at hz
 obtain ⟨S1,e1,n1,b1,a1⟩:=push_open Sx (.cells [.func (.yield y) #[] #[]] 211 0 true true)
 obtain ⟨Sb,eb,nb,bb,ab⟩:=push_open S1 (.cells [.int .i64 0] 3 0 true true)
 obtain ⟨Sc,ec,nc,bc,qc⟩:=st_at (P:=Tryz.prog) (o:=0) (c':=[.int .i64 (-1)]) (v:=.int .i64 (-1)) tz3 bb rfl rfl (show 0+1≤1 by decide) rfl
 generalize hpb:S1.next=pb at *
 have ac:Agree Sx Sc:=⟨by omega,fun id hid=>(qc id (by omega)).trans ((ab.2 id (by omega)).trans (a1.2 id hid))⟩
 have hp1:=(ac.2 pr (by omega)).trans hp
 obtain ⟨S2,c2,a2,br⟩:=c163 r v0 v1 v2 (fun id=>U0 id∨id=pb) Sc (fun id h=>h.elim (fun h=>by have:=ulow id h; omega) (fun h=>by omega)) (h0.agree ac) (h1.agree ac) (h2.agree ac)
  (fun b hb h=>h.elim (nu b (b0 b hb) (k0 b hb)) (fun h=>by have:=b0 b hb; omega)) (fun b hb h=>h.elim (nu b (b1' b hb) (k1 b hb)) (fun h=>by have:=b1' b hb; omega)) (fun b hb h=>h.elim (nu b (b2' b hb) (k2 b hb)) (fun h=>by have:=b2' b hb; omega))
 simp (disch:=first|omega|assumption) only [E0_G,SY,setArgs,off,agreeKind,vals,allocV,boxed,ldA,rdCells,aggD,Nat.reduceAdd,Nat.reduceSub,Nat.reduceLT,Nat.reduceBEq,TY_EvW23,hpb,e1,eb,ec,hp1,c2] at hz
 generalize hR:evCode Tryz.prog E0 (evL Tryz.prog E0) none (.rangeFunc _ _ _ _) _=R at hz
 have l2:=a2.1
 have a12:=ac.trans a2
 have g1:=(a2.2 Sx.next (by omega)).trans ((qc _ (by omega)).trans ((ab.2 Sx.next (by omega)).trans b1))
 have gb:=(a2.2 pb (by omega)).trans bc
 have gp2:=(a12.2 pg (by omega)).trans gp
 have gm2:=(a12.2 mid (by omega)).trans gm
 have ny2:¬ U0 Sx.next:=fun h=>by have:=ulow _ h; omega
 have nbU0:¬ U0 pb:=fun h=>by have:=ulow _ h; omega
 obtain ⟨S3,U3,rfl,⟨U1,j,p,rfl,hI3,hU1,_,hj3,hdr,hn3⟩,hd3,hlt3,hoff3,hw3,hnd3⟩:=range_feed hR (kf:=186) (cs:=#[]) (ds:=#[.pointer (some ⟨Sc.next,0,none⟩)]) (by simp only [SY,eq_self,Nat.reduceBEq]<;>rfl) (fun _ _=>rfl) (feed186 r hk hg (fun id=>U0 id∨id=pb) S2 Sc.next br) (Off.refl _ S2)
  (fun i U S'=>∃ (U1:Nat→Prop) (j:Nat) (p:Int),U=(fun id=>U1 id∨id=pb)∧I j U1 S'∧¬ U1 pb∧S'.heap.get pb=some (.cells [.int .i64 p] 3 0 true true)∧j≤(r167 r es).length∧(r167 r es).drop j=R167 es p ((rowsR r).drop i)∧S2.next≤S'.next) (fun id=>U0 id∨id=pb) (fun id h=>.inr h)
  ⟨U0,0,-1,rfl,hy.keep _ _ _ _ hI a12.1 (fun id hid _=>a12.2 id hid),nbU0,gb,Nat.zero_le _,rfl,Nat.le_refl _⟩
  (by
   rintro i U S' ⟨U1,j,p,rfl,h,-,-,-,-,hn⟩ id (h'|h')
   ·exact hy.low _ _ _ h id h'
   ·omega)
  (by
   rintro i U S4 S5 ⟨U1,j,p,rfl,h,hnp,hbx,hj,hdr,hn⟩ hle hk
   exact ⟨U1,j,p,rfl,hy.keep _ _ _ _ h hle (fun id hid hh=>hk id hid (hh.elim (fun h=>.inl (.inl h)) (fun h=>.inr (by omega)))),hnp,(hk pb (by omega) (.inl (.inr rfl))).trans hbx,hj,hdr,by omega⟩)
  (by
   rintro y' L hb hy' i U S4 b hbi ⟨U1,j,p,rfl,hI4,hU1,hbx,hj,hdr,hn4⟩ hoff hU hny hyU hL
   obtain ⟨nd,sp⟩:=b
   have hU1':∀ id,U1 id→U0 id∨S2.next+2≤id:=fun id h=>(hU id (.inl h)).elim (fun h2=>h2.elim .inl (fun h3=>absurd (h3 ▸ h) hU1)) .inr
   have nU:∀ id,id<S2.next→¬ U0 id→¬ U1 id:=fun id h hn hu=>(hU1' id hu).elim hn (fun h=>by omega)
   have nY:¬ U1 y':=fun h=>hyU (.inl h)
   have u1:=(hoff.2 Sx.next (by omega) (fun h=>h.elim ny2 (fun h=>by omega))).trans g1
   have ug:=(hoff.2 pg (by omega) (fun h=>h.elim nug (fun h=>by omega))).trans gp2
   have um:=(hoff.2 mid (by omega) (fun h=>h.elim num (fun h=>by omega))).trans gm2
   have hU4:=hy.low _ _ _ hI4
   rw [drop_cons' hbi,R167] at hdr
   obtain ⟨S13,rr1,rr2,U',rr3,rr4,rr5⟩:=round_in (P:=Tryz.prog) (E:=E0) (l:=y') (bs:=[.agg #[.int .i64 nd.kind,.int .i64 nd.n],.agg #[.int .i64 sp.lo,.int .i64 sp.hi]]) hb rfl hL (Q:=fun S13=>S13.heap.get y'=some (.loop L)∧∃ U',(∃ (U1:Nat→Prop) (j:Nat) (p:Int),U'=(fun id=>U1 id∨id=pb)∧I j U1 S13∧¬ U1 pb∧S13.heap.get pb=some (.cells [.int .i64 p] 3 0 true true)∧j≤(r167 r es).length∧(r167 r es).drop j=R167 es p ((rowsR r).drop (i+1))∧S2.next≤S13.next)∧Off (fun id=>(U1 id∨id=pb)∨id=y') S4 S13∧Wider (fun id=>U1 id∨id=pb) S4 U') (by
    intro zA hA
    obtain ⟨S5,e5,n5,b5,a5⟩:=push_open S4 (.cells [.int .i64 0,.int .i64 0] 131 0 true true)
    obtain ⟨S6,e6,n6,b6,q6⟩:=st_at (P:=Tryz.prog) (o:=0) (c':=[.int .i64 nd.kind,.int .i64 nd.n]) (v:=.agg #[.int .i64 nd.kind,.int .i64 nd.n]) tz131 b5 rfl rfl (show 0+2≤2 by decide) rfl
    have f8:∀ id,id<S4.next→S6.heap.get id=S4.heap.get id:=fun id hid=>(q6 id (by omega)).trans (a5.2 id hid)
    change evCode _ _ _ _ _ ⟨⟨_,26⟩,[],S4⟩=_ at hA
    simp (disch:=first|omega|assumption) only [E0_G,SY,off,agreeKind,allocV,Nat.reduceAdd,Nat.reduceLT,Nat.reduceBEq,TY_EvW23,e5,e6] at hA
    refine ⟨_,S6,hA.symm,(f8 y' (by omega)).trans hL,?_⟩
    intro S9 n9 b9 q9 zB hB
    have f9:∀ id,id<S4.next→id≠y'→S9.heap.get id=S4.heap.get id:=fun id hid hne=>(q9 id hne).trans (f8 id hid)
    have u1_9:=(f9 Sx.next (by omega) (by omega)).trans u1
    have ug_9:=(f9 pg (by omega) (by omega)).trans ug
    have um_9:=(f9 mid (by omega) (by omega)).trans um
    have ub_9:=(f9 pb (by omega) (by omega)).trans hbx
    have un_9:S9.heap.get S4.next=some (.cells [.int .i64 nd.kind,.int .i64 nd.n] 131 0 true true):=(q9 _ (by omega)).trans b6
    have hI9:I j U1 S9:=hy.keep _ _ _ _ hI4 (by omega) (fun id hid hh=>f9 id hid (fun e=>hh.elim (fun h=>nY (e ▸ h)) (fun h=>by omega)))
    have lk:=look_nd um_9 nd
    have hn9:S9.next=S4.next+1:=by omega
    have y1:∀ a b:Int,aBuild Tryz.prog 107 [(0,.int .i64 a),(1,.int .i64 b)]=some (.agg #[.int .i64 a,.int .i64 b,.int .i64 0]):=fun a b=>by kernel_rfl
    by_cases hpos:0≤p
    ·have hpd:decide (0≤p)=true:=decide_eq_true hpos
     rw [if_pos hpos,List.singleton_append] at hdr
     obtain ⟨hx1,hx2⟩:=drop_unc hdr
     rcases hy.step j U1 S9 _ hx1 hI9 with ⟨S10,U10,k10,hI10,f10,w10⟩|⟨_,_,_,hF,_⟩
     case inr=>exact hF.elim
     replace k10:(evL Tryz.prog E0).round y #[.agg #[.int .i64 (nAt es nd),.int .i64 p,.int .i64 0]] S9=some (.bool true,S10):=k10
     have l10:=f10.1
     have ub_10:=(f10.2 pb (by omega) hU1).trans ub_9
     obtain ⟨S11,e11,n11,b11,q11⟩:=st_at (P:=Tryz.prog) (o:=0) (c':=[.int .i64 (nAt es nd)]) (v:=.int .i64 (nAt es nd)) tz3 ub_10 rfl rfl (show 0+1≤1 by decide) rfl
     simp (disch:=first|omega|assumption) only [E0_G,SY,off,agreeKind,partVals,vals,ldA,rdCells,aggD,aField,Nat.reduceAdd,Nat.reduceLT,Nat.reduceBEq,TY_EvW23,calledV_yield,firstOf_none,op_round,roundV_some,op_lookup,u1_9,ug_9,un_9,ub_9,lk,hpd,y1,k10,e11] at hB
     have nU10:¬ U10 y':=fun h=>(w10 _ h).elim nY (fun h=>by omega)
     have nB10:¬ U10 pb:=fun h=>(w10 _ h).elim hU1 (fun h=>by omega)
     refine ⟨_,_,S11,hB.symm,(q11 y' (by omega)).trans ((f10.2 y' (by omega) nY).trans b9),?_⟩
     intro S12 n12 b12 q12
     refine ⟨b12,_,⟨U10,j+1,nAt es nd,rfl,hy.keep _ _ _ _ hI10 (by omega) (fun id hid hh=>(q12 id (fun e=>hh.elim (fun h=>nU10 (e ▸ h)) (fun h=>by omega))).trans (q11 id (fun e=>hh.elim (fun h=>nB10 (e ▸ h)) (fun h=>by omega)))),nB10,(q12 pb (by omega)).trans b11,(List.getElem?_eq_some_iff.1 hx1).1,hx2,by omega⟩,⟨by omega,fun id hid hn=>?_⟩,fun id h=>?_⟩
     ·have hne:id≠y':=fun e=>hn (.inr e)
      have hnb:id≠pb:=fun e=>hn (.inl (.inr e))
      exact (q12 id hne).trans ((q11 id hnb).trans ((f10.2 id (by omega) (fun h=>hn (.inl (.inl h)))).trans (f9 id hid hne)))
     ·exact h.elim (fun h=>(w10 id h).elim (fun h=>.inl (.inl h)) (fun h=>.inr (by omega))) (fun h=>.inl (.inr h))
    ·have hpd:decide (0≤p)=false:=decide_eq_false hpos
     rw [if_neg hpos,List.nil_append] at hdr
     obtain ⟨S11,e11,n11,b11,q11⟩:=st_at (P:=Tryz.prog) (o:=0) (c':=[.int .i64 (nAt es nd)]) (v:=.int .i64 (nAt es nd)) tz3 ub_9 rfl rfl (show 0+1≤1 by decide) rfl
     simp (disch:=first|omega|assumption) only [E0_G,SY,off,agreeKind,ldA,rdCells,aggD,aField,Nat.reduceAdd,Nat.reduceLT,Nat.reduceBEq,TY_EvW23,op_lookup,ug_9,un_9,ub_9,lk,hpd,e11] at hB
     refine ⟨_,_,S11,hB.symm,(q11 y' (by omega)).trans b9,?_⟩
     intro S12 n12 b12 q12
     refine ⟨b12,_,⟨U1,j,nAt es nd,rfl,hy.keep _ _ _ _ hI9 (by omega) (fun id hid hh=>(q12 id (fun e=>hh.elim (fun h=>nY (e ▸ h)) (fun h=>by omega))).trans (q11 id (fun e=>hh.elim (fun h=>hU1 (e ▸ h)) (fun h=>by omega)))),hU1,(q12 pb (by omega)).trans b11,hj,hdr,by omega⟩,⟨by omega,fun id hid hn=>?_⟩,fun id h=>.inl h⟩
     have hne:id≠y':=fun e=>hn (.inr e)
     have hnb:id≠pb:=fun e=>hn (.inl (.inr e))
     exact (q12 id hne).trans ((q11 id hnb).trans (f9 id hid hne)))
   exact ⟨S13,U',rr1,rr2,rr3,rr4,rr5⟩)
 obtain ⟨S14,k14,n14,q14⟩:=take1 hd3
 simp (disch:=first|omega|assumption) only [SY] at hz
 rw [handed_take_n k14] at hz
 simp (disch:=first|omega|assumption) only [SY] at hz
 rw [List.drop_length] at hdr
 have hjl:j=(r167 r es).length:=Nat.le_antisymm hj3 (drop_end hdr)
 refine ⟨S14,U1,hz.symm,?_,⟨by omega,fun id hid hn=>(q14 id (by omega)).trans ((hoff3.2 id (by omega) (fun h=>h.elim hn (fun h=>by omega))).trans (a12.2 id hid))⟩,fun id h=>(hw3 id (.inl h)).elim (fun h2=>h2.elim .inl (fun h3=>.inr (by omega))) (fun h=>.inr (by omega))⟩
 rw [← hjl]
 exact hy.keep _ _ _ _ hI3 (by omega) (fun id hid hh=>q14 id (fun e=>hh.elim (fun h=>hnd3 (e ▸ .inl h)) (fun h=>by omega)))
end Clock
end Go.Proofs
end
