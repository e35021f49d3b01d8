import Derived.Test.YtohfdkdjfoonjaaGreatDoorEvH8
set_option linter.unusedSimpArgs false
set_option linter.unusedVariables false
namespace Go.Proofs
namespace House
open Go Go.RowKit Go.Aev
set_option maxRecDepth 100000
def r138 (l:List Sp) (ti:Int):Int :=
 if (l.length:Int)=0 then -1 else
 match hit (r160 ti).1 (r160 ti).2 (r167 l) with
 | some r=>r
 | none=>(r160 ti).1 - 86400+(lget l (l.length - 1)).hi
theorem r167_mem (l:List Sp):∀ (m:Nat) (iv:Int),iv<l.length→∀ b ∈ R167_0 l m iv,b.2 ∈ l:=by
 intro m
 induction m with
 | zero=>intro iv _ b hb; simp [R167_0] at hb
 | succ m ih =>
  intro iv hi b hb
  unfold R167_0 at hb
  split at hb
  ·rcases List.mem_cons.1 hb with rfl|hb
   ·exact List.mem_of_getElem? (lget_some (by omega))
   ·exact ih _ (by omega) b hb
  ·simp at hb
set_option maxHeartbeats 8000000 in
theorem c138 (l:List Sp) (ti:Int) (hb:Bd 86399 l) (hl:l.length≤12) (ht:0≤ti∧ti≤1073741823) (S:AS) (v_l:Value) (hv_l:Lst S v_l l) :
  ∃ S',(evL Tryz.prog E0).call 138 #[v_l,.int .i64 ti] S=some (.int .i64 (r138 l ti),S')∧Agree S S':=by
 obtain ⟨p,n,c,rfl⟩:=lst_slice hv_l
 have hq:=r160_ok ht.1
 generalize hz:(evL Tryz.prog E0).call 138 _ _=z
 rw [L_call,evCall_said rfl Tryz.func138 rfl (by decide) Tryz.ntmps138 Tryz.results138] at hz
 obtain ⟨S1,e1,n1,b1,a1⟩:=push_open S (.cells [.int .i64 0] 3 0 true true)
 have w1:lenV Tryz.prog 40 (.slice p n c)=some (.int .i64 (l.length:Int)):=hv_l.len Tryz.underlying40
 simp (disch:=first|omega|assumption) only [E0_G,SY,setArgs,off,agreeKind,partVals,vals,allocV,boxed,ldA,rdCells,oneB,aggD,aField,aFieldV,aExtract,eq_self,ne_eq,if_true,if_false,not_false_eq_true,Nat.reduceAdd,Nat.reduceSub,Nat.reduceMul,Nat.reduceLT,Nat.reduceEqDiff,Nat.reduceBEq,reduceIte,Int.reduceEq,Int.reduceLT,Int.reduceLE,reduceCtorEq,TY_EvH5,tz3,tt3,t0_3,e1,w1] at hz
 rcases dP ((l.length:Int)=0) with ⟨ha,h⟩|⟨ha,h⟩
 ·obtain ⟨S2,e2,n2,b2,q2⟩:=st_at (P:=Tryz.prog) (o:=0) (c':=[.int .i64 (-1)]) (v:=.int .i64 (-1)) tz3 b1 rfl rfl (show 0+1≤1 by decide) rfl
  simp (disch:=first|omega|assumption) only [E0_G,SY,setArgs,off,agreeKind,partVals,vals,allocV,boxed,ldA,rdCells,oneB,aggD,aField,aFieldV,aExtract,eq_self,ne_eq,if_true,if_false,not_false_eq_true,Nat.reduceAdd,Nat.reduceSub,Nat.reduceMul,Nat.reduceLT,Nat.reduceEqDiff,Nat.reduceBEq,reduceIte,Int.reduceEq,Int.reduceLT,Int.reduceLE,reduceCtorEq,TY_EvH5,tz3,ha,e2,b2] at hz
  have hr:r138 l ti = -1:=if_pos h
  exact fin hz (by rw [hr]) ⟨by omega,fun id hid=>(q2 id (by omega)).trans (a1.2 id hid)⟩
 obtain ⟨S2,k2,a2⟩:=c160 ti ht S1
 obtain ⟨S3,e3,n3,b3,a3⟩:=push_open S2 (.cells [.int .i64 0] 3 0 true true)
 obtain ⟨S4,e4,n4,b4,a4⟩:=push_open S3 (.cells [.int .i64 0] 3 0 true true)
 have b3':=(a4.2 S2.next (by omega)).trans b3
 obtain ⟨S5,e5,n5,b5,q5⟩:=st_at (P:=Tryz.prog) (o:=0) (c':=[.int .i64 (r160 ti).1]) (v:=.int .i64 (r160 ti).1) tz3 b3' rfl rfl (show 0+1≤1 by decide) rfl
 have b4':=(q5 S3.next (by omega)).trans b4
 obtain ⟨S6,e6,n6,b6,q6⟩:=st_at (P:=Tryz.prog) (o:=0) (c':=[.int .i64 (r160 ti).2]) (v:=.int .i64 (r160 ti).2) tz3 b4' rfl rfl (show 0+1≤1 by decide) rfl
 have b5':=(q6 S2.next (by omega)).trans b5
 obtain ⟨S7,e7,a7,n7,b7⟩:=c161 p n c S6
 have m2:=a2.1
 have b1':S7.heap.get S.next=some (.cells [.int .i64 0] 3 0 true true):=(a7.2 _ (by omega)).trans ((q6 _ (by omega)).trans ((q5 _ (by omega)).trans ((a4.2 _ (by omega)).trans ((a3.2 _ (by omega)).trans ((a2.2 _ (by omega)).trans b1)))))
 have b57:=(a7.2 S2.next (by omega)).trans b5'
 have b67:=(a7.2 S3.next (by omega)).trans b6
 have ag7:Agree S S7:=⟨by have:=a7.1; omega,fun id hid=>(a7.2 _ (by omega)).trans ((q6 _ (by omega)).trans ((q5 _ (by omega)).trans ((a4.2 _ (by omega)).trans ((a3.2 _ (by omega)).trans ((a2.2 _ (by omega)).trans (a1.2 id hid))))))⟩
 simp (disch:=first|omega|assumption) only [E0_G,SY,setArgs,off,agreeKind,partVals,vals,allocV,boxed,ldA,rdCells,oneB,aggD,aField,aFieldV,aExtract,eq_self,ne_eq,if_true,if_false,not_false_eq_true,Nat.reduceAdd,Nat.reduceSub,Nat.reduceMul,Nat.reduceLT,Nat.reduceEqDiff,Nat.reduceBEq,reduceIte,Int.reduceEq,Int.reduceLT,Int.reduceLE,reduceCtorEq,TY_EvH5,tz3,tt3,t0_3,ha,k2,e3,e4,e5,e6,e7] at hz
 generalize hR:evCode Tryz.prog E0 (evL Tryz.prog E0) none (.rangeFunc _ _ _ _) _=R at hz
 have hne:l≠[]:=fun e=>h (by rw [e]; rfl)
 have hg:(.slice p n c:Value)≠.slice (some ⟨0,0,some 0⟩) 0 0:=by
  rintro e
  rcases hv_l with ⟨e0,_⟩|⟨id,off,cc,ty,cap,wr,ex,e1,_⟩
  ·exact hne (by simpa using e0)
  ·rw [e] at e1; simp at e1
 have hlt:∀ q,blkOf (.slice p n c)=some q→q<S.next:=fun q hq=>lst_lt hv_l hq hg
 obtain ⟨x,S8,rfl,m8,d8,f8,hx⟩:=rg138 l hl (r160 ti).1 (r160 ti).2 (fun b hbm=>by
   have:=hb b.2 (r167_mem l _ _ (by omega) b hbm)
   rw [wr64 (by omega)]) S7 _ _ _ S.next S2.next S3.next S6.next p n c
  (by simp only [SY,eq_self,Nat.reduceBEq]<;>rfl) (by simp only [SY,eq_self,Nat.reduceBEq]<;>rfl) (by simp only [SY,eq_self,Nat.reduceBEq]<;>rfl) (by simp only [SY,eq_self,Nat.reduceBEq]<;>rfl)
  b1' b57 b67 b7 (by omega) (by omega) (by omega) (by omega) (by omega) (by omega) (by omega) (hv_l.agree ag7) (fun q hq=>⟨by have:=hlt q hq; omega,by have:=hlt q hq; omega⟩) hR
 rcases hx with ⟨rfl,hh,b8⟩|⟨rfl,r,hh,b8⟩
 ·have u5:=(f8 S2.next (by omega) (by omega)).trans b57
  have hx0:l[l.length - 1]?=some (lget l (l.length - 1)):=lget_some (by omega)
  have hxb:=hb _ (List.mem_of_getElem? hx0)
  have wl:IntKind.i64.wrap ((l.length:Int) - 1)=((l.length - 1:Nat):Int):=by rw [wr64 (by omega)]; omega
  obtain ⟨id,of_,cc,ty,wr,ex,i9,j9,l9,q9⟩:=hv_l.at (P:=Tryz.prog) (t:=40) Tryz.underlying40 tz36 hx0
  have j9':S8.heap.get id=some (.cells cc ty 2 wr ex):=(f8 id (by omega) (by omega)).trans ((ag7.2 id l9).trans j9)
  have m0:cc[of_]?=some (.int .i64 (lget l (l.length - 1)).lo):=q9 0 (show 0<2 by decide)
  have m1:cc[of_+1]?=some (.int .i64 (lget l (l.length - 1)).hi):=q9 1 (show 1<2 by decide)
  have wa:IntKind.i64.wrap ((r160 ti).1 - 86400)=(r160 ti).1 - 86400:=wr64 (by omega)
  have wb:IntKind.i64.wrap ((r160 ti).1 - 86400+(lget l (l.length - 1)).hi)=(r160 ti).1 - 86400+(lget l (l.length - 1)).hi:=wr64 (by omega)
  obtain ⟨S9,e9,n9,b9,q9'⟩:=st_at (P:=Tryz.prog) (o:=0) (c':=[.int .i64 ((r160 ti).1 - 86400+(lget l (l.length - 1)).hi)]) (v:=.int .i64 ((r160 ti).1 - 86400+(lget l (l.length - 1)).hi)) tz3 b8 rfl rfl (show 0+1≤1 by decide) rfl
  have d9:=(q9' S7.next (by omega)).trans d8
  obtain ⟨S10,k10,n10,q10⟩:=take1 d9
  have b10:=(q10 S.next (by omega)).trans b9
  simp (disch:=first|omega|assumption) only [E0_G,SY,setArgs,off,agreeKind,partVals,vals,allocV,boxed,ldA,rdCells,oneB,aggD,aField,aFieldV,aExtract,eq_self,ne_eq,if_true,if_false,not_false_eq_true,Nat.reduceAdd,Nat.reduceSub,Nat.reduceMul,Nat.reduceLT,Nat.reduceEqDiff,Nat.reduceBEq,reduceIte,Int.reduceEq,Int.reduceLT,Int.reduceLE,reduceCtorEq] at hz
  rw [code_draws _ _ _ (by kernel_rfl)] at hz
  generalize hnd:needy _=nd at hz
  have nn:nd 10=false:=by rw [← hnd]; kernel_rfl
  simp (disch:=first|omega|assumption) only [E0_G,SY,setArgs,off,agreeKind,partVals,vals,allocV,boxed,ldA,rdCells,oneB,aggD,aField,aFieldV,aExtract,eq_self,ne_eq,if_true,if_false,not_false_eq_true,Nat.reduceAdd,Nat.reduceSub,Nat.reduceMul,Nat.reduceLT,Nat.reduceEqDiff,Nat.reduceBEq,reduceIte,Int.reduceEq,Int.reduceLT,Int.reduceLE,reduceCtorEq,TY_EvH5,tz3,tz36,Tryz.underlying36,Tryz.underlying40,store_agree,store_refl E0_same,nn,u5,w1,wl,i9,j9',m0,m1,wa,wb,e9] at hz
  rw [handed_take k10] at hz
  simp (disch:=first|omega|assumption) only [E0_G,SY,setArgs,off,agreeKind,partVals,vals,allocV,boxed,ldA,rdCells,oneB,aggD,aField,aFieldV,aExtract,eq_self,ne_eq,if_true,if_false,not_false_eq_true,Nat.reduceAdd,Nat.reduceSub,Nat.reduceMul,Nat.reduceLT,Nat.reduceEqDiff,Nat.reduceBEq,reduceIte,Int.reduceEq,Int.reduceLT,Int.reduceLE,reduceCtorEq,TY_EvH5,tz3,b10] at hz
  have hr:r138 l ti=(r160 ti).1 - 86400+(lget l (l.length - 1)).hi:=by unfold r138; rw [if_neg h,hh]
  exact fin hz (by rw [hr]) ⟨by omega,fun id hid=>(q10 id (by omega)).trans ((q9' id (by omega)).trans ((f8 id (by omega) (by omega)).trans (ag7.2 id hid)))⟩
 ·obtain ⟨S9,k9,n9,q9⟩:=take1 d8
  have b9:=(q9 S.next (by omega)).trans b8
  simp (disch:=first|omega|assumption) only [E0_G,SY,setArgs,off,agreeKind,partVals,vals,allocV,boxed,ldA,rdCells,oneB,aggD,aField,aFieldV,aExtract,eq_self,ne_eq,if_true,if_false,not_false_eq_true,Nat.reduceAdd,Nat.reduceSub,Nat.reduceMul,Nat.reduceLT,Nat.reduceEqDiff,Nat.reduceBEq,reduceIte,Int.reduceEq,Int.reduceLT,Int.reduceLE,reduceCtorEq] at hz
  rw [handed_take k9] at hz
  simp (disch:=first|omega|assumption) only [E0_G,SY,setArgs,off,agreeKind,partVals,vals,allocV,boxed,ldA,rdCells,oneB,aggD,aField,aFieldV,aExtract,eq_self,ne_eq,if_true,if_false,not_false_eq_true,Nat.reduceAdd,Nat.reduceSub,Nat.reduceMul,Nat.reduceLT,Nat.reduceEqDiff,Nat.reduceBEq,reduceIte,Int.reduceEq,Int.reduceLT,Int.reduceLE,reduceCtorEq,TY_EvH5,tz3,b9] at hz
  have hr:r138 l ti=r:=by unfold r138; rw [if_neg h,hh]
  exact fin hz (by rw [hr]) ⟨by omega,fun id hid=>(q9 id (by omega)).trans ((f8 id (by omega) (by omega)).trans (ag7.2 id hid))⟩
end House
end Go.Proofs
