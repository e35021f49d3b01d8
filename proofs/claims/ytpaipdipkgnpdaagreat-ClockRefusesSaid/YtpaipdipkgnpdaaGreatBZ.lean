import Derived.Test.YtpaipdipkgnpdaaGreatBY
section
set_option linter.unusedSimpArgs false
set_option linter.unusedVariables false
namespace Go.Proofs
namespace Clock
open Go Go.RowKit Go.Aev
set_option maxRecDepth 100000
theorem tz212:szOf Tryz.prog 212=some 1:=by kernel_rfl
theorem tt212:inTab Tryz.prog 212=true:=by kernel_rfl
theorem t0_212:zeroOf Tryz.prog 212=some (.nilFunc):=by kernel_rfl
theorem TY_EvW24:type_of% (And.intro TY_EvW23 (And.intro (And.intro Tryz.underlying212 tz212) (And.intro tt212 t0_212))):=(And.intro TY_EvW23 (And.intro (And.intro Tryz.underlying212 tz212) (And.intro tt212 t0_212)))
theorem _root_.Go.Aev.op_makeFunc3 {P:Program} {E:Env} {r:Rec} (dst:Option Tmp) (ty:TypeId) (pos:String) (after:Array Edge) (g:Option (Nat × Bool)) (f:Fr) (S:AS) (k:FuncId) (y y2 y3:Operand):evOp P E r ⟨dst,.makeFunc (.func k) #[] #[y,y2,y3],ty,pos,after,g⟩ f S =
  firstOf ((f.val E.G y).bind fun v=>(f.val E.G y2).bind fun v2=>(f.val E.G y3).map fun v3=>(.func (.func k) #[] #[v,v2,v3],S)) (evOpB P E r ⟨dst,.makeFunc (.func k) #[] #[y,y2,y3],ty,pos,after,g⟩ f S):=by
 refine firstOf_of fun z hz=>?_
 obtain ⟨v,hv,hz⟩:=Option.bind_eq_some_iff.1 hz
 obtain ⟨v2,hv2,hz⟩:=Option.bind_eq_some_iff.1 hz
 obtain ⟨v3,hv3,rfl⟩:=Option.map_eq_some_iff.1 hz
 have hs:evSimple P ⟨dst,.makeFunc (.func k) #[] #[y,y2,y3],ty,pos,after,g⟩ (fun x=>(f.val E.G x).getD undef) S=some (some (.func (.func k) #[] #[v,v2,v3]),S):=by
  simp [evSimple,evStruct,hv,hv2,hv3]
 have hk:f.val E.G (.func k)=some (.func (.func k) #[] #[]):=rfl
 simp [evOp,Op.operands,vals,hv,hv2,hv3,hs]
abbrev seV (s:Se) (v:Value):List Value:=[.int .i64 s.id,.int .i64 s.inLo,.int .i64 s.inHi,.int .i64 s.outLo,.int .i64 s.outHi,.int .i64 s.zLo,.int .i64 s.zHi,.int .i64 s.eLo,.int .i64 s.eHi,.int .i64 s.rLo,.int .i64 s.rHi,v]
set_option maxHeartbeats 2000000 in
theorem c170 (s:Se) (v:Value) (S:AS) :
  ∃ S',(evL Tryz.prog E0).call 170 #[.agg (seV s v).toArray] S=some (.func (.func 190) #[] #[.pointer (some ⟨S.next+1,0,none⟩),.pointer (some ⟨S.next+2,0,none⟩),.pointer (some ⟨S.next,0,none⟩)],S')∧Agree S S'∧S'.next=S.next+3 ∧
   S'.heap.get S.next=some (.cells (seV s v) 26 0 true true)∧S'.heap.get (S.next+1)=some (.cells [.func (.func 188) #[] #[.pointer (some ⟨S.next,0,none⟩)]] 234 0 true true)∧S'.heap.get (S.next+2)=some (.cells [.func (.func 189) #[] #[.pointer (some ⟨S.next,0,none⟩)]] 234 0 true true):=by
 generalize hz:(evL Tryz.prog E0).call 170 _ _=z
 rw [L_call,evCall_said rfl Tryz.func170 rfl (by decide) Tryz.ntmps170 Tryz.results170] at hz
 obtain ⟨S1,e1,n1,b1,a1⟩:=push_open S (.cells (seV s v) 26 0 true true)
 obtain ⟨S2,e2,n2,b2,a2⟩:=push_open S1 (.cells [.nilFunc] 234 0 true true)
 obtain ⟨S3,e3,n3,b3,q3⟩:=st_at (P:=Tryz.prog) (o:=0) (c':=[.func (.func 188) #[] #[.pointer (some ⟨S.next,0,none⟩)]]) (v:=.func (.func 188) #[] #[.pointer (some ⟨S.next,0,none⟩)]) tz234 b2 rfl rfl (show 0+1≤1 by decide) rfl
 obtain ⟨S4,e4,n4,b4,a4⟩:=push_open S3 (.cells [.nilFunc] 234 0 true true)
 obtain ⟨S5,e5,n5,b5,q5⟩:=st_at (P:=Tryz.prog) (o:=0) (c':=[.func (.func 189) #[] #[.pointer (some ⟨S.next,0,none⟩)]]) (v:=.func (.func 189) #[] #[.pointer (some ⟨S.next,0,none⟩)]) tz234 b4 rfl rfl (show 0+1≤1 by decide) rfl
 have h3:S3.next=S.next+2:=by omega
 have e2':S1.push (.cells Value.nilFunc.cells.toList 234 0 true true)=S2:=e2
 have e4':S3.push (.cells Value.nilFunc.cells.toList 234 0 true true)=S4:=e4
 simp (disch:=first|omega|assumption) only [E0_G,SY,setArgs,off,agreeKind,allocV,boxed,Nat.reduceAdd,Nat.reduceSub,Nat.reduceLT,Nat.reduceBEq,TY_EvW24,e1,e2',e3,e4',e5,op_makeFunc1,op_makeFunc3] at hz
 refine ⟨S5,by rw [← hz,h3,n1],⟨by omega,fun id hid=>?_⟩,by omega,?_,?_,?_⟩
 ·exact (q5 id (by omega)).trans ((a4.2 id (by omega)).trans ((q3 id (by omega)).trans ((a2.2 id (by omega)).trans (a1.2 id hid))))
 ·exact (q5 _ (by omega)).trans ((a4.2 _ (by omega)).trans ((q3 _ (by omega)).trans ((a2.2 _ (by omega)).trans b1)))
 ·rw [← n1]; exact (q5 _ (by omega)).trans ((a4.2 _ (by omega)).trans b3)
 ·rw [← h3]; exact b5
def in169 (s:Se) (x:Nd) (k:Nat):List Nd→Nat→List Lk
 | [],_=>[]
 | z :: l,n=>⟨k,n,(r190 x.n z.n s).2⟩ :: ⟨n,k,IntKind.i64.wrap (0 - (r190 x.n z.n s).1)⟩ :: in169 s x k l (n+1)
def out169 (s:Se):List Nd→Nat→List Lk
 | [],_=>[]
 | x :: l,k=>in169 s x k l (k+1)++out169 s l (k+1)
def r169 (r:Rc) (nodes:List Nd):List Lk:=out169 r.ses (nodes.drop (3+r.strikes.length)) (3+r.strikes.length)
end Clock
end Go.Proofs
end
section
set_option linter.unusedSimpArgs false
set_option linter.unusedVariables false
namespace Go.Proofs
namespace Clock
open Go Go.RowKit Go.Aev
set_option maxRecDepth 100000
theorem TY_EvW25:type_of% TY_EvW24:=TY_EvW24
def Fr169 (y pr pg b:Nat) (t:T Value):Prop:=t.get 0=some (.func (.yield y) #[] #[])∧t.get 1=some (.pointer (some ⟨pr,0,none⟩))∧t.get 2=some (.pointer (some ⟨pg,0,none⟩)) ∧
 t.get 4=some (.func (.func 190) #[] #[.pointer (some ⟨b+1,0,none⟩),.pointer (some ⟨b+2,0,none⟩),.pointer (some ⟨b,0,none⟩)])
theorem out169_nil (s:Se) (nodes:List Nd) (k:Nat) (h:nodes.length≤k):out169 s (nodes.drop k) k=[]:=by rw [List.drop_eq_nil_of_le h,out169]
set_option maxHeartbeats 16000000 in
theorem feed169 (r:Rc) (hk:r.strikes.length≤100) (h1:1≤r.ses.rLo) (h2:1≤r.ses.rHi) (hst:r.ses.stops.length≤12) (K:Nat→Prop) (S:AS) (pr pg:Nat) (nodes:List Nd) (hn:nodes.length≤1000) (es:List (Nd × Int)) (hr:BxR K S pr r) (hG:BxG K S pg nodes es) :
  Feeds Tryz.prog E0 K S 169 #[] #[.pointer (some ⟨pr,0,none⟩),.pointer (some ⟨pg,0,none⟩)] argsL (r169 r nodes):=by
 intro Sx y I U0 ha hT hy hI
 have lb:=ha.1
 obtain ⟨v0,v1,v2,hp,lp,kp,q0,q1,q2,k0,k1,k2⟩:=hr
 obtain ⟨vn,mid,cl,vl,gp,glp,gkp,gm,glm,gkm,hvn,kvn⟩:=hG
 have nu:∀ id,id<S.next→¬ K id→¬ U0 id:=fun id h hk hu=>(hT id hu).elim (fun h=>by omega) hk
 have ulow:=hy.low _ _ _ hI
 have b0:∀ b,blkOf v0=some b→¬ U0 b:=fun b hb=>nu b (lst_low q0 (by omega) hb) (k0 b hb)
 have bn:∀ b,blkOf vn=some b→¬ U0 b:=fun b hb=>nu b (lst_low hvn (by omega) hb) (kvn b hb)
 have w1:=q1.len (P:=Tryz.prog) (t:=27) Tryz.underlying27
 replace q0:=q0.off ha k0
 replace hvn:=hvn.off ha kvn
 replace hp:=(ha.2 pr lp kp).trans hp
 replace gp:=(ha.2 pg glp gkp).trans gp
 have nug:=nu pg glp gkp
 generalize hz:(evL Tryz.prog E0).call 169 _ _=z
 change (evL Tryz.prog E0).call 169 #[.func (.yield y) #[] #[],.pointer (some ⟨pr,0,none⟩),.pointer (some ⟨pg,0,none⟩)] Sx=z at hz
 rw [L_call,evCall_said rfl Tryz.func169 rfl (by decide) Tryz.ntmps169 Tryz.results169] at hz
 obtain ⟨S2,c2,a2,n2,bs,bd,bu⟩:=c170 r.ses v0 Sx
 have hp2:=(a2.2 pr (by omega)).trans hp
 have gp2:=(a2.2 pg (by omega)).trans gp
 replace q0:=q0.agree a2
 replace hvn:=hvn.agree a2
 have w3:IntKind.i64.wrap (3+(r.strikes.length:Int))=((3+r.strikes.length:Nat):Int):=by rw [IntWalk.i64_in]<;>omega
 simp (disch:=first|omega|assumption) only [E0_G,SY,setArgs,off,agreeKind,vals,ldA,rdCells,aggD,aField,Nat.reduceAdd,Nat.reduceSub,Nat.reduceLT,Nat.reduceBEq,TY_EvW25,hp,c2,hp2,w1,w3] at hz
 generalize hL:Rec.loop _ _ _ _=LL at hz
 generalize hk0:3+r.strikes.length=k0' at *
 have hI2:I 0 U0 S2:=hy.keep _ _ _ _ hI a2.1 (fun id hid _=>a2.2 id hid)
 have nb:∀ id,Sx.next≤id→¬ U0 id:=fun id h hu=>by have:=ulow id hu; omega
 obtain ⟨xo,to,So,rfl,hQ⟩:=loop_met hL (fun m t S'=>∃ U j k,I j U S'∧Off U0 S2 S'∧Wider U0 S2 U∧Fr169 y pr pg Sx.next t∧t.get 5=some (.int .i64 ((k:Nat):Int))∧k≤2000∧m=2001 - k∧j≤(r169 r nodes).length∧(r169 r nodes).drop j=out169 r.ses (nodes.drop k) k)
  (fun x t S'=>x=.exit 0∧∃ U,I (r169 r nodes).length U S'∧Off U0 S2 S'∧Wider U0 S2 U) (2001 - k0')
  ⟨U0,0,k0',hI2,Off.refl _ _,Wider.refl _ _,⟨by simp only [SY,eq_self,Nat.reduceBEq]<;>rfl,by simp only [SY,eq_self,Nat.reduceBEq]<;>rfl,by simp only [SY,eq_self,Nat.reduceBEq]<;>rfl,by simp only [SY,eq_self,Nat.reduceBEq]<;>rfl⟩,by simp only [SY,eq_self,Nat.reduceBEq]<;>rfl,by omega,rfl,Nat.zero_le _,by simp only [r169,hk0,List.drop_zero]⟩ (by
   rintro m t S3 ⟨U,j,k,hI3,hoff,hw,⟨g0,g1,g2,g4⟩,g5,hk5,rfl,hj,hdr⟩
   refine .run fun z he=>?_
   have nU:∀ id,id<S2.next→¬ U0 id→¬ U id:=fun id h hn hu=>(hw id hu).elim hn (fun h=>by omega)
   have lo:=hoff.1
   have gp3:=(hoff.2 pg (by omega) nug).trans gp2
   have hv3:=hvn.off hoff bn
   have wl:=hv3.len (P:=Tryz.prog) (t:=36) Tryz.underlying36
   have wk:IntKind.i64.wrap ((k:Int)+1)=((k+1:Nat):Int):=by rw [IntWalk.i64_in]<;>omega
   by_cases hlt:(k:Int)<(nodes.length:Int)
   ·have hlt':=decide_eq_true hlt
    obtain ⟨x,hx⟩:∃ x,nodes[k]?=some x:=⟨nodes[k]'(by omega),by simp⟩
    rw [drop_cons' hx,out169] at hdr
    simp (disch:=first|omega|assumption) only [E0_G,SY,off,agreeKind,ldA,aggD,aField,Nat.reduceAdd,Nat.reduceLT,Nat.reduceBEq,TY_EvW25,g2,g5,gp3,wl,hlt',wk] at he
    generalize hL2:Rec.loop _ _ _ _=LL2 at he
    obtain ⟨xi,ti,Si,rfl,hQi⟩:=loop_met hL2 (fun m t S'=>∃ U j n,I j U S'∧Off U0 S2 S'∧Wider U0 S2 U∧Fr169 y pr pg Sx.next t∧t.get 5=some (.int .i64 ((k:Nat):Int))∧t.get 6=some (.int .i64 ((n:Nat):Int))∧n≤2000∧m=2001 - n∧j≤(r169 r nodes).length∧(r169 r nodes).drop j=in169 r.ses x k (nodes.drop n) n++out169 r.ses (nodes.drop (k+1)) (k+1))
     (fun x t S'=>x=.exit 2∧∃ U j,I j U S'∧Off U0 S2 S'∧Wider U0 S2 U∧Fr169 y pr pg Sx.next t∧t.get 5=some (.int .i64 ((k:Nat):Int))∧j≤(r169 r nodes).length∧(r169 r nodes).drop j=out169 r.ses (nodes.drop (k+1)) (k+1)) (2001 - (k+1))
     ⟨U,j,k+1,hI3,hoff,hw,⟨by simp only [SY,eq_self,Nat.reduceBEq,g0]<;>rfl,by simp only [SY,eq_self,Nat.reduceBEq,g1]<;>rfl,by simp only [SY,eq_self,Nat.reduceBEq,g2]<;>rfl,by simp only [SY,eq_self,Nat.reduceBEq,g4]<;>rfl⟩,by simp only [SY,eq_self,Nat.reduceBEq,g5]<;>rfl,by simp only [SY,eq_self,Nat.reduceBEq]<;>rfl,by omega,rfl,hj,hdr⟩ (by
     clear hI3 hoff hw g0 g1 g2 g4 g5 hj hdr nU lo gp3 hv3 wl
     rintro m t S4 ⟨U,j,n,hI4,hoff,hw,⟨g0,g1,g2,g4⟩,g5,g6,hn5,rfl,hj,hdr⟩
     refine .run fun z he=>?_
     have nU:∀ id,id<S2.next→¬ U0 id→¬ U id:=fun id h hn hu=>(hw id hu).elim hn (fun h=>by omega)
     have lo:=hoff.1
     have ulow4:=hy.low _ _ _ hI4
     have gp4:=(hoff.2 pg (by omega) nug).trans gp2
     have hv4:=hvn.off hoff bn
     have wl:=hv4.len (P:=Tryz.prog) (t:=36) Tryz.underlying36
     have wn:IntKind.i64.wrap ((n:Int)+1)=((n+1:Nat):Int):=by rw [IntWalk.i64_in]<;>omega
     by_cases hlt2:(n:Int)<(nodes.length:Int)
     ·have hlt2':=decide_eq_true hlt2
      obtain ⟨x2,hx2⟩:∃ x,nodes[n]?=some x:=⟨nodes[n]'(by omega),by simp⟩
      rw [drop_cons' hx2,in169,List.cons_append,List.cons_append] at hdr
      simp (disch:=first|omega|assumption) only [E0_G,SY,off,agreeKind,ldA,aggD,aField,Nat.reduceAdd,Nat.reduceLT,Nat.reduceBEq,TY_EvW25,g2,g6,gp4,wl,hlt2'] at he
      rw [code_draws2 _ _ _ 15 23 (some 7) (by kernel_rfl) (by kernel_rfl) (by kernel_rfl)] at he
      generalize hnd:needy _=ndd at he
      have nn16:ndd 16=false:=by rw [← hnd]; kernel_rfl
      obtain ⟨S5,e5,n5,b5,a5⟩:=push_open S4 .resv
      have gp5:=(a5.2 pg (by omega)).trans gp4
      have hv5:=hv4.agree a5
      have bs5:=(a5.2 Sx.next (by omega)).trans ((hoff.2 Sx.next (by omega) (nb _ (by omega))).trans bs)
      have bd5:=(a5.2 (Sx.next+1) (by omega)).trans ((hoff.2 (Sx.next+1) (by omega) (nb _ (by omega))).trans bd)
      have bu5:=(a5.2 (Sx.next+2) (by omega)).trans ((hoff.2 (Sx.next+2) (by omega) (nb _ (by omega))).trans bu)
      obtain ⟨i1,o1,cc1,ty1,wr1,ex1,ix1,hh1,ll1,qq1,-⟩:=hv5.at2 (P:=Tryz.prog) (t:=36) Tryz.underlying36 tz131 hx
      obtain ⟨i2,o2,cc2,ty2,wr2,ex2,ix2,hh2,ll2,qq2,-⟩:=hv5.at2 (P:=Tryz.prog) (t:=36) Tryz.underlying36 tz131 hx2
      have m1:cc1[o1+1]?=some (.int .i64 x.n):=qq1 1 (show 1<2 by decide)
      have m2:cc2[o2+1]?=some (.int .i64 x2.n):=qq2 1 (show 1<2 by decide)
      obtain ⟨S6,c6,a6⟩:=c190 x.n x2.n r.ses h1 h2 hst S5 v0 ((q0.off hoff b0).agree a5) Sx.next bs5 (by omega) (Sx.next+1) bd5 (by omega) (Sx.next+2) bu5 (by omega)
      have l6:=a6.1
      have s6:E0.same S5 S6=true:=symEnv_same a6
      have b6:=(a6.2 S4.next (by omega)).trans b5
      have y7:aBuild Tryz.prog 215 [(0,.int .i64 x.n),(1,.int .i64 x2.n)]=some (.agg #[.int .i64 x.n,.int .i64 x2.n]):=by kernel_rfl
      simp (disch:=first|omega|assumption) only [E0_G,SY,agreeKind,partVals,vals,ldA,aggD,aField,Nat.reduceAdd,Nat.reduceLT,Nat.reduceBEq,TY_EvW25,g2,g4,g5,g6,gp5,e5,start2_list,List.take_succ_cons,List.take_zero,List.drop_succ_cons,List.drop_zero,store_agree,store_refl E0_same,ix1,hh1,m1,ix2,hh2,m2,y7,c6] at he
      obtain ⟨S7,f7,n7,b7,q7⟩:=fill_at (P:=Tryz.prog) (e:=23) (c:=[.int .i64 0,.int .i64 0]) b6 (by kernel_rfl) (by kernel_rfl)
      obtain ⟨S8,e8,n8,b8,q8⟩:=st_at (P:=Tryz.prog) (o:=0) (c':=[.int .i64 (r190 x.n x2.n r.ses).1,.int .i64 (r190 x.n x2.n r.ses).2]) (v:=.agg #[.int .i64 (r190 x.n x2.n r.ses).1,.int .i64 (r190 x.n x2.n r.ses).2]) tz23 b7 rfl rfl (show 0+2≤2 by decide) rfl
      have f8:∀ id,id<S4.next→S8.heap.get id=S4.heap.get id:=fun id hid=>(q8 id (by omega)).trans ((q7 id (by omega)).trans ((a6.2 id (by omega)).trans (a5.2 id hid)))
      have hI8:I j U S8:=hy.keep _ _ _ _ hI4 (by omega) (fun id hid _=>f8 id hid)
      obtain ⟨hx1',hdr1⟩:=drop_unc hdr
      obtain ⟨hx2',hdr2⟩:=drop_unc hdr1
      rcases hy.step j U S8 _ hx1' hI8 with ⟨S9,U9,k9,hI9,f9,w9⟩|⟨_,_,_,hF,_⟩
      case inr=>exact hF.elim
      replace k9:(evL Tryz.prog E0).round y #[.agg #[.int .i64 ((k:Nat):Int),.int .i64 ((n:Nat):Int),.int .i64 (r190 x.n x2.n r.ses).2]] S8=some (.bool true,S9):=k9
      have l9:=f9.1
      have b9:=(f9.2 S4.next (by omega) (fun h=>by have:=ulow4 _ h; omega)).trans b8
      rcases hy.step (j+1) U9 S9 _ hx2' hI9 with ⟨S10,U10,k10,hI10,f10,w10⟩|⟨_,_,_,hF,_⟩
      case inr=>exact hF.elim
      replace k10:(evL Tryz.prog E0).round y #[.agg #[.int .i64 ((n:Nat):Int),.int .i64 ((k:Nat):Int),.int .i64 (IntKind.i64.wrap (0 - (r190 x.n x2.n r.ses).1))]] S9=some (.bool true,S10):=k10
      have l10:=f10.1
      have y8:∀ a b c:Int,aBuild Tryz.prog 107 [(0,.int .i64 a),(1,.int .i64 b),(2,.int .i64 c)]=some (.agg #[.int .i64 a,.int .i64 b,.int .i64 c]):=fun a b c=>by kernel_rfl
      simp (disch:=first|omega|assumption) only [E0_G,SY,off,agreeKind,partVals,vals,ldA,aggD,aField,Nat.reduceAdd,Nat.reduceLT,Nat.reduceBEq,TY_EvW25,calledV_yield,firstOf_none,op_round,roundV_some,store_refl E0_same,nn16,g0,g5,g6,f7,e8,b8,y8,k9,b9,k10,wn] at he
      refine .next he (2001 - (n+1)) (by omega) ⟨U10,j+1+1,n+1,hI10,⟨by omega,fun id hid hnu=>?_⟩,fun id h=>?_,⟨by simp only [SY,eq_self,Nat.reduceBEq,g0]<;>rfl,by simp only [SY,eq_self,Nat.reduceBEq,g1]<;>rfl,by simp only [SY,eq_self,Nat.reduceBEq,g2]<;>rfl,by simp only [SY,eq_self,Nat.reduceBEq,g4]<;>rfl⟩,by simp only [SY,eq_self,Nat.reduceBEq,g5]<;>rfl,by simp only [SY,eq_self,Nat.reduceBEq]<;>rfl,by omega,rfl,(List.getElem?_eq_some_iff.1 hx2').1,hdr2⟩
      ·have nu':=nU id hid hnu
       exact (f10.2 id (by omega) (fun h=>(w9 _ h).elim nu' (fun h=>by omega))).trans ((f9.2 id (by omega) nu').trans ((f8 id (by omega)).trans (hoff.2 id hid hnu)))
      ·exact (w10 id h).elim (fun h=>(w9 id h).elim (hw id) (fun h=>.inr (by omega))) (fun h=>.inr (by omega))
     ·have hlt2':=decide_eq_false hlt2
      rw [List.drop_eq_nil_of_le (show nodes.length≤n by omega),in169,List.nil_append] at hdr
      simp (disch:=first|omega|assumption) only [E0_G,SY,off,agreeKind,ldA,aggD,aField,Nat.reduceAdd,Nat.reduceLT,Nat.reduceBEq,TY_EvW25,g2,g6,gp4,wl,hlt2'] at he
      exact .exit he ⟨rfl,U,j,hI4,hoff,hw,⟨by simp only [SY,eq_self,Nat.reduceBEq,g0]<;>rfl,by simp only [SY,eq_self,Nat.reduceBEq,g1]<;>rfl,by simp only [SY,eq_self,Nat.reduceBEq,g2]<;>rfl,by simp only [SY,eq_self,Nat.reduceBEq,g4]<;>rfl⟩,by simp only [SY,eq_self,Nat.reduceBEq,g5]<;>rfl,hj,hdr⟩)
    obtain ⟨rfl,U',j',hIi,hoi,hwi,⟨g0,g1,g2,g4⟩,g5,hj',hdr'⟩:=hQi
    simp (disch:=first|omega|assumption) only [E0_G,SY,off,agreeKind,eq_self,if_true,Nat.reduceAdd,Nat.reduceLT,Nat.reduceBEq,g5,wk] at he
    exact .next he (2001 - (k+1)) (by omega) ⟨U',j',k+1,hIi,hoi,hwi,⟨by simp only [SY,eq_self,Nat.reduceBEq,g0]<;>rfl,by simp only [SY,eq_self,Nat.reduceBEq,g1]<;>rfl,by simp only [SY,eq_self,Nat.reduceBEq,g2]<;>rfl,by simp only [SY,eq_self,Nat.reduceBEq,g4]<;>rfl⟩,by simp only [SY,eq_self,Nat.reduceBEq]<;>rfl,by omega,rfl,hj',hdr'⟩
   ·have hlt':=decide_eq_false hlt
    rw [out169_nil r.ses nodes k (by omega)] at hdr
    simp (disch:=first|omega|assumption) only [E0_G,SY,off,agreeKind,ldA,aggD,aField,Nat.reduceAdd,Nat.reduceLT,Nat.reduceBEq,TY_EvW25,g2,g5,gp3,wl,hlt'] at he
    refine .exit he ⟨rfl,U,?_,hoff,hw⟩
    rw [show (r169 r nodes).length=j from Nat.le_antisymm (drop_end hdr) hj]; exact hI3)
 obtain ⟨rfl,U,hIe,hoe,hwe⟩:=hQ
 simp (disch:=first|omega|assumption) only [SY,eq_self,if_true] at hz
 exact ⟨So,U,hz.symm,hIe,⟨by have:=hoe.1; omega,fun id hid hn=>(hoe.2 id (by omega) hn).trans (a2.2 id hid)⟩,fun id h=>(hwe id h).imp_right (fun h=>by omega)⟩
end Clock
end Go.Proofs
end
section
set_option linter.unusedSimpArgs false
set_option linter.unusedVariables false
namespace Go.Proofs
namespace Clock
open Go Go.RowKit Go.Aev
set_option maxRecDepth 100000
theorem tz177:szOf Tryz.prog 177=some 1:=by kernel_rfl
theorem tt177:inTab Tryz.prog 177=true:=by kernel_rfl
theorem t0_177:zeroOf Tryz.prog 177=some (.nilFunc):=by kernel_rfl
theorem tz179:szOf Tryz.prog 179=some 1:=by kernel_rfl
theorem tt179:inTab Tryz.prog 179=true:=by kernel_rfl
theorem t0_179:zeroOf Tryz.prog 179=some (.slice none 0 0):=by kernel_rfl
theorem TY_EvW26:type_of% (And.intro TY_EvW25 (And.intro (And.intro (And.intro Tryz.underlying177 tz177) (And.intro tt177 t0_177)) (And.intro (And.intro Tryz.underlying179 tz179) (And.intro tt179 t0_179)))):=(And.intro TY_EvW25 (And.intro (And.intro (And.intro Tryz.underlying177 tz177) (And.intro tt177 t0_177)) (And.intro (And.intro Tryz.underlying179 tz179) (And.intro tt179 t0_179))))
theorem c128 (r:Rc) (v0 v1 v2 vn vm vl:Value) (S:AS):∃ S',(evL Tryz.prog E0).call 128 #[.agg #[vn,vm,vl],.agg (rcCells r v0 v1 v2).toArray] S=some (.func (.func 165) #[] #[.pointer (some ⟨S.next+1,0,none⟩),.pointer (some ⟨S.next,0,none⟩)],S')∧Agree S S'∧S'.next=S.next+2 ∧
  S'.heap.get S.next=some (.cells [vn,vm,vl] 124 0 true true)∧S'.heap.get (S.next+1)=some (.cells (rcCells r v0 v1 v2) 30 0 true true):=by
 generalize hz:(evL Tryz.prog E0).call 128 _ _=z
 rw [L_call,evCall_said rfl Tryz.func128 rfl (by decide) Tryz.ntmps128 Tryz.results128] at hz
 obtain ⟨S1,e1,n1,b1,a1⟩:=push_open S (.cells [vn,vm,vl] 124 0 true true)
 obtain ⟨S2,e2,n2,b2,a2⟩:=push_open S1 (.cells (rcCells r v0 v1 v2) 30 0 true true)
 simp (disch:=first|omega|assumption) only [E0_G,SY,setArgs,off,agreeKind,boxed,Nat.reduceAdd,Nat.reduceSub,Nat.reduceLT,Nat.reduceBEq,e1,e2,op_makeFunc2] at hz
 exact ⟨S2,by rw [← hz,n1],a1.trans a2,by omega,(a2.2 _ (by omega)).trans b1,by rw [← n1]; exact b2⟩
theorem c129 (r:Rc) (v0 v1 v2 vn vm vl:Value) (S:AS):∃ S',(evL Tryz.prog E0).call 129 #[.agg #[vn,vm,vl],.agg (rcCells r v0 v1 v2).toArray] S=some (.func (.func 167) #[] #[.pointer (some ⟨S.next+1,0,none⟩),.pointer (some ⟨S.next,0,none⟩)],S')∧Agree S S'∧S'.next=S.next+2 ∧
  S'.heap.get S.next=some (.cells [vn,vm,vl] 124 0 true true)∧S'.heap.get (S.next+1)=some (.cells (rcCells r v0 v1 v2) 30 0 true true):=by
 generalize hz:(evL Tryz.prog E0).call 129 _ _=z
 rw [L_call,evCall_said rfl Tryz.func129 rfl (by decide) Tryz.ntmps129 Tryz.results129] at hz
 obtain ⟨S1,e1,n1,b1,a1⟩:=push_open S (.cells [vn,vm,vl] 124 0 true true)
 obtain ⟨S2,e2,n2,b2,a2⟩:=push_open S1 (.cells (rcCells r v0 v1 v2) 30 0 true true)
 simp (disch:=first|omega|assumption) only [E0_G,SY,setArgs,off,agreeKind,boxed,Nat.reduceAdd,Nat.reduceSub,Nat.reduceLT,Nat.reduceBEq,e1,e2,op_makeFunc2] at hz
 exact ⟨S2,by rw [← hz,n1],a1.trans a2,by omega,(a2.2 _ (by omega)).trans b1,by rw [← n1]; exact b2⟩
theorem c130 (r:Rc) (v0 v1 v2 vn vm vl:Value) (S:AS):∃ S',(evL Tryz.prog E0).call 130 #[.agg #[vn,vm,vl],.agg (rcCells r v0 v1 v2).toArray] S=some (.func (.func 168) #[] #[.pointer (some ⟨S.next+1,0,none⟩),.pointer (some ⟨S.next,0,none⟩)],S')∧Agree S S'∧S'.next=S.next+2 ∧
  S'.heap.get S.next=some (.cells [vn,vm,vl] 124 0 true true)∧S'.heap.get (S.next+1)=some (.cells (rcCells r v0 v1 v2) 30 0 true true):=by
 generalize hz:(evL Tryz.prog E0).call 130 _ _=z
 rw [L_call,evCall_said rfl Tryz.func130 rfl (by decide) Tryz.ntmps130 Tryz.results130] at hz
 obtain ⟨S1,e1,n1,b1,a1⟩:=push_open S (.cells [vn,vm,vl] 124 0 true true)
 obtain ⟨S2,e2,n2,b2,a2⟩:=push_open S1 (.cells (rcCells r v0 v1 v2) 30 0 true true)
 simp (disch:=first|omega|assumption) only [E0_G,SY,setArgs,off,agreeKind,boxed,Nat.reduceAdd,Nat.reduceSub,Nat.reduceLT,Nat.reduceBEq,e1,e2,op_makeFunc2] at hz
 exact ⟨S2,by rw [← hz,n1],a1.trans a2,by omega,(a2.2 _ (by omega)).trans b1,by rw [← n1]; exact b2⟩
theorem c131 (r:Rc) (v0 v1 v2 vn vm vl:Value) (S:AS):∃ S',(evL Tryz.prog E0).call 131 #[.agg #[vn,vm,vl],.agg (rcCells r v0 v1 v2).toArray] S=some (.func (.func 169) #[] #[.pointer (some ⟨S.next+1,0,none⟩),.pointer (some ⟨S.next,0,none⟩)],S')∧Agree S S'∧S'.next=S.next+2 ∧
  S'.heap.get S.next=some (.cells [vn,vm,vl] 124 0 true true)∧S'.heap.get (S.next+1)=some (.cells (rcCells r v0 v1 v2) 30 0 true true):=by
 generalize hz:(evL Tryz.prog E0).call 131 _ _=z
 rw [L_call,evCall_said rfl Tryz.func131 rfl (by decide) Tryz.ntmps131 Tryz.results131] at hz
 obtain ⟨S1,e1,n1,b1,a1⟩:=push_open S (.cells [vn,vm,vl] 124 0 true true)
 obtain ⟨S2,e2,n2,b2,a2⟩:=push_open S1 (.cells (rcCells r v0 v1 v2) 30 0 true true)
 simp (disch:=first|omega|assumption) only [E0_G,SY,setArgs,off,agreeKind,boxed,Nat.reduceAdd,Nat.reduceSub,Nat.reduceLT,Nat.reduceBEq,e1,e2,op_makeFunc2] at hz
 exact ⟨S2,by rw [← hz,n1],a1.trans a2,by omega,(a2.2 _ (by omega)).trans b1,by rw [← n1]; exact b2⟩
def nodesK (k:Nat):List Nd:=⟨0,0⟩ :: ⟨1,0⟩ :: ⟨2,0⟩ :: (List.range k).map fun i:Nat=>(⟨3,(i:Int)⟩:Nd)
def nodesR (r:Rc) (further:List Int):List Nd:=nodesK r.strikes.length++(r127 r further).map fun p=>(⟨4,p⟩:Nd)
def idxL:List Nd→Nat→List (Nd × Int)→List (Nd × Int)
 | [],_,es=>es
 | x :: l,k,es=>idxL l (k+1) (nPut es x k)
def idxR (r:Rc) (further:List Int):List (Nd × Int):=idxL (nodesR r further) 0 []
def linksR (r:Rc) (further:List Int):List Lk:=r165 r (idxR r further)++r167 r (idxR r further)++r168 r (idxR r further)++r169 r (nodesR r further)
theorem nodesK_succ (k:Nat):nodesK (k+1)=nodesK k++[⟨3,(k:Int)⟩]:=by simp [nodesK,List.range_succ]
theorem nodesK_len (k:Nat):(nodesK k).length=k+3:=by simp [nodesK]
def findL:Code→List Code
 | .seq x y=>findL x++findL y
 | .block _ c=>findL c
 | .loop c=>[c]
 | _=>[]
noncomputable def C80 (i:Nat):Code:=((Tryz.f80.body.map findL).getD []).getD i .skip
theorem lst_keep {S S':AS} {v:Value} {l:List Int} (h:Lst S v l) (hn:S.next≤S'.next) (hf:∀ id c ty wr ex,id<S.next→S.heap.get id=some (.cells c ty 1 wr ex)→S'.heap.get id=S.heap.get id):Lst S' v l:=by
 rcases h with h|⟨id,off,c,ty,cap,wr,ex,h1,h2,h3,h4,h5⟩
 ·exact .inl h
 ·exact .inr ⟨id,off,c,ty,cap,wr,ex,h1,h2,(hf id c ty wr ex h4 h3).trans h3,by omega,h5⟩
theorem own_ne0 {S:AS} {el lo:Nat} {v:Value} {l:List Nd} (h:Own el lo S v l) {b ty:Nat} {c:List Value} {wr ex:Bool} (hb:S.heap.get b=some (.cells c ty 0 wr ex)):blkOf v≠some b:=by
 rcases h with ⟨rfl,rfl⟩|⟨id,ex',rfl,h1,h2,h3⟩
 ·simp [blkOf]
 ·intro e
  simp only [blkOf,Option.some.injEq] at e
  subst e
  rw [hb] at h3
  simp only [Option.some.injEq,ABlk.cells.injEq] at h3
  exact absurd h3.2.2.1 (by decide)
theorem own_ne1 {S:AS} {el lo:Nat} {v:Value} {l:List Nd} (h:Own el lo S v l) {b ty:Nat} {c:List Value} {wr ex:Bool} (hb:S.heap.get b=some (.cells c ty 1 wr ex)):blkOf v≠some b:=by
 rcases h with ⟨rfl,rfl⟩|⟨id,ex',rfl,h1,h2,h3⟩
 ·simp [blkOf]
 ·intro e
  simp only [blkOf,Option.some.injEq] at e
  subst e
  rw [hb] at h3
  simp only [Option.some.injEq,ABlk.cells.injEq] at h3
  exact absurd h3.2.2.1 (by decide)
theorem own_nem {S:AS} {el lo:Nat} {v:Value} {l:List Nd} (h:Own el lo S v l) {b cl:Nat} {es:List (Value × Value)} (hb:S.heap.get b=some (.mapb es cl)):blkOf v≠some b:=by
 rcases h with ⟨rfl,rfl⟩|⟨id,ex',rfl,h1,h2,h3⟩
 ·simp [blkOf]
 ·intro e
  simp only [blkOf,Option.some.injEq] at e
  subst e
  rw [hb] at h3
  cases h3
def St80 (S2:AS) (b5 pm:Nat) (S':AS) (v:Value) (nodes:List Nd) (es:List (Nd × Int)) (cl:Nat):Prop:=S'.heap.get b5=some (.cells [v,.map (some pm),.slice none 0 0] 124 0 true true)∧Own 131 S2.next S' v nodes∧S'.heap.get pm=some (.mapb (mapN es) cl) ∧
 (∀ q,q<S2.next→S'.heap.get q=S2.heap.get q)∧b5<S'.next∧pm<S'.next∧S2.next≤b5∧S2.next≤pm∧S2.next≤S'.next∧pm≠b5
theorem St80.app {S2:AS} {b5 pm:Nat} {S':AS} {v:Value} {nodes:List Nd} {es:List (Nd × Int)} {cl:Nat} (h:St80 S2 b5 pm S' v nodes es cl) (hl:nodes.length≤1000) (x:Nd) :
  ∃ S3 u S4 S5,S'.push (.cells [.int .i64 x.kind,.int .i64 x.n] 131 2 true true)=S3∧aAppend Tryz.prog 36 36 v (.slice (some ⟨S'.next,0,none⟩) 1 1) S3=some (u,S4)∧stA Tryz.prog 36 ⟨b5,0,none⟩ u S4=some S5∧St80 S2 b5 pm S5 u (nodes++[x]) es cl ∧
   S'.next≤S5.next∧∀ id c ty wr ex,id<S'.next→S'.heap.get id=some (.cells c ty 1 wr ex)→S5.heap.get id=S'.heap.get id:=by
 obtain ⟨h1,h2,h3,h4,h5,h6,h7,h8,h9,h10⟩:=h
 obtain ⟨S3,e3,n3,b3,a3⟩:=push_open S' (.cells [.int .i64 x.kind,.int .i64 x.n] 131 2 true true)
 have o3:Own 131 S'.next S3 (.slice (some ⟨S'.next,0,none⟩) 1 1) ([x]:List Nd):=.inr ⟨_,true,rfl,Nat.le_refl _,by omega,b3⟩
 have e5:=own_ne0 h2 h1
 have em:=own_nem h2 h3
 obtain ⟨u,S4,k4,o4,n4,f4,d4⟩:=own_append (P:=Tryz.prog) (t:=36) (tx:=36) (n:=1) (v:=v) (h2.agree a3) o3.rows (by omega) (by omega) (by simp) Tryz.underlying36 Tryz.underlying36 ti131 tv131 rfl tz131
 obtain ⟨pu,nu,cu,rfl⟩:=own_slice o4
 have b4:=(f4 b5 (by omega) e5).trans ((a3.2 b5 (by omega)).trans h1)
 obtain ⟨S5,k5,n5,b5',q5⟩:=st_at (P:=Tryz.prog) (t:=36) (o:=0) (c':=[.slice pu nu cu,.map (some pm),.slice none 0 0]) (v:=.slice pu nu cu) tz36 b4 rfl rfl (show 0+1≤3 by decide) rfl
 have d5:=d4 b5 (by omega) e5
 refine ⟨S3,_,S4,S5,e3,k4,k5,⟨b5',o4.frame (by omega) (fun id hid hb=>q5 id (fun e=>d5 (by rw [← e]; exact hb))),(q5 pm h10).trans ((f4 pm (by omega) em).trans ((a3.2 pm (by omega)).trans h3)),fun q hq=>?_,by omega,by omega,h7,h8,by omega,h10⟩,by omega,fun id c ty wr ex hid hc=>?_⟩
 ·exact (q5 q (by omega)).trans ((f4 q (by omega) (h2.ne hq)).trans ((a3.2 q (by omega)).trans (h4 q hq)))
 ·have hne:id≠b5:=fun e=>by rw [e,h1] at hc; simp at hc
  exact (q5 id hne).trans ((f4 id (by omega) (own_ne1 h2 hc)).trans (a3.2 id hid))
end Clock
end Go.Proofs
end
