import Derived.Test.YtohfdkdjfoonjaaGreatDoorEvH14
set_option linter.unusedSimpArgs false
set_option linter.unusedVariables false
namespace Go.Proofs
namespace House
open Go Go.RowKit Go.Aev
set_option maxRecDepth 100000
def joinW (l:List Sp) (x:Sp):List Sp:=if 0<l.length∧IntKind.i64.wrap ((lget l (l.length - 1)).hi+1)=x.lo then l.set (l.length - 1) ⟨(lget l (l.length - 1)).lo,x.hi⟩ else l++[x]
theorem joinW_len (l:List Sp) (x:Sp):(joinW l x).length≤l.length+1:=by
 unfold joinW
 split<;>simp
theorem foldl_joinW_len:∀ (ys l:List Sp),(ys.foldl joinW l).length≤l.length+ys.length:=by
 intro ys
 induction ys with
 | nil=>intro l; simp
 | cons y ys ih =>
  intro l
  have h1:=ih (joinW l y); have h2:=joinW_len l y
  simp only [List.foldl_cons,List.length_cons]; omega
theorem own_arcs {el lo:Nat} {S:AS} {v:Value} {l:List Sp} (h:Own el lo S v l):∃ p n c,v=.slice p n c:=by
 rcases h with ⟨_,rfl⟩|⟨id,ex,rfl,_⟩
 ·exact ⟨_,_,_,rfl⟩
 ·exact ⟨_,_,_,rfl⟩
noncomputable def R32:Code × Code:=((Tryz.f32.body.bind findR).getD (.skip,.skip))
set_option maxHeartbeats 4000000 in
theorem c94 (v0 v1:Value) (slo shi:Int) (S:AS):∃ S',(evL Tryz.prog E0).call 94 #[.agg #[v0,v1],.agg #[.int .i64 slo,.int .i64 shi]] S=some (.func (.func 140) #[] #[.pointer (some ⟨S.next,0,none⟩),.pointer (some ⟨S.next+1,0,none⟩)],S')∧Agree S S'∧S'.next=S.next+2 ∧
  S'.heap.get S.next=some (.cells [v0,v1] 98 0 true true)∧S'.heap.get (S.next+1)=some (.cells [.int .i64 slo,.int .i64 shi] 36 0 true true):=by
 obtain ⟨S1,e1,n1,b1,a1⟩:=push_open S (.cells [v0,v1] 98 0 true true)
 obtain ⟨S2,e2,n2,b2,a2⟩:=push_open S1 (.cells [.int .i64 slo,.int .i64 shi] 36 0 true true)
 refine ⟨S2,?_,a1.trans a2,by omega,(a2.2 _ (by omega)).trans b1,by rw [← n1]; exact b2⟩
 rw [L_call,evCall_said rfl Tryz.func94 rfl (by decide) Tryz.ntmps94 Tryz.results94]
 simp (disch:=first|omega|assumption) only [E0_G,SY,setArgs,off,agreeKind,boxed,eq_self,Nat.reduceAdd,Nat.reduceSub,Nat.reduceLT,Nat.reduceBEq,e1,e2,n1,op_makeFunc2]
set_option maxHeartbeats 8000000 in
theorem rg32 (hours shut:List Sp) (slo shi:Int) (hO:OkO (⟨hours,shut⟩:Dr)) (hs:0≤slo∧slo≤shi∧shi≤1073741823) (hyl:(r140 hours shut slo shi).length≤1000000) (S:AS) (t:T Value) (d:List Nat) (z:Option (X × St)) (p9 pd ps:Nat) (v_hours v_shut:Value)
  (g9:t.get 9=some (.pointer (some ⟨p9,0,none⟩))) (g36:t.get 36=some (.func (.func 140) #[] #[.pointer (some ⟨pd,0,none⟩),.pointer (some ⟨ps,0,none⟩)]))
  (h9:S.heap.get p9=some (.cells [.slice none 0 0] 40 0 true true)) (hd:S.heap.get pd=some (.cells [v_hours,v_shut] 98 0 true true)) (hps:S.heap.get ps=some (.cells [.int .i64 slo,.int .i64 shi] 36 0 true true))
  (l9:p9<S.next) (ld:pd<S.next) (ls:ps<S.next) (n9d:pd≠p9) (n9s:ps≠p9) (hlh:Lst S v_hours hours) (hls:Lst S v_shut shut) (nlh:∀ q,blkOf v_hours=some q→q≠p9∧q<S.next) (nls:∀ q,blkOf v_shut=some q→q≠p9∧q<S.next)
  (hz:evCode Tryz.prog E0 (evL Tryz.prog E0) none (.rangeFunc (.tmp 36) #[37] R32.1 R32.2) ⟨⟨t,66⟩,d,S⟩=z) :
  ∃ S' po' no' co',z=some (.normal,⟨⟨t,66⟩,S.next :: d,S'⟩)∧S.next<S'.next∧S'.heap.get p9=some (.cells [.slice po' no' co'] 40 0 true true)∧Own 36 (S.next+1) S' (.slice po' no' co') ((r140 hours shut slo shi).foldl joinW []) ∧
   S'.heap.get S.next=some (.dfd true)∧∀ q,q<S.next→q≠p9→S'.heap.get q=S.heap.get q:=by
 generalize hys:r140 hours shut slo shi=ys at *
 obtain ⟨x,S',rfl,hQ⟩:=range_met hz (k:=140) (cs:=#[]) (ds:=#[.pointer (some ⟨pd,0,none⟩),.pointer (some ⟨ps,0,none⟩)]) g36 (fun a S'=>rfl)
  (fun x S'=>x=.normal∧∃ po' no' co',S.next<S'.next∧S'.heap.get p9=some (.cells [.slice po' no' co'] 40 0 true true)∧Own 36 (S.next+1) S' (.slice po' no' co') (ys.foldl joinW []) ∧
   S'.heap.get S.next=some (.dfd true)∧∀ q,q<S.next→q≠p9→S'.heap.get q=S.heap.get q)
  (by
   intro L0 S1 S2 e1 e2 hbg
   obtain rfl:=hbg.eq
   obtain ⟨Sx,ex1,nx1,bx1,ax1⟩:=push_open S (.dfd true)
   obtain rfl:Sx=S1:=ex1.symm.trans e1
   obtain ⟨Sy,ex2,nx2,bx2,ax2⟩:=push_open Sx (.loop ⟨.ready,none,t,66,#[37],R32.1,R32.2⟩)
   obtain rfl:Sy=S2:=ex2.symm.trans e2
   have ag:=ax1.trans ax2
   generalize hy:Sx.next=y at *
   have hys':y=S.next+1:=by omega
   have key:=it140 hours shut slo shi hO hs Sy y (fun i T S'=>Sy.next≤S'.next∧i≤ys.length∧S'.heap.get y=some (.loop ⟨.ready,none,t,66,#[37],R32.1,R32.2⟩) ∧
     ∃ po' no' co',S'.heap.get p9=some (.cells [.slice po' no' co'] 40 0 true true)∧Own 36 Sy.next S' (.slice po' no' co') ((ys.take i).foldl joinW [])∧T=fun id=>id=p9∨id=y∨blkOf (.slice po' no' co')=some id)
    (fun id=>id=p9∨id=y∨blkOf (.slice none 0 0)=some id) ?_ ?_ v_hours (hlh.agree ag) ?_ v_shut (hls.agree ag) ?_ pd ((ag.2 pd ld).trans hd) (by omega) ?_ ps ((ag.2 ps ls).trans hps) (by omega) ?_
   ·rw [hys] at key
    obtain ⟨S3,T3,hc,⟨hn3,_,hy3,po',no',co',hp9,ow3,rfl⟩,off3,_⟩:=key
    refine ⟨_,S3,_,.normal,hc,hy3,by simp,rfl,rfl,po',no',co',?_,?_,?_,?_,?_⟩
    ·show S.next<S3.next; omega
    ·simp only [T.get_set]; rw [if_neg (by omega)]; exact hp9
    ·rw [List.take_length] at ow3
     have hlow:S.next+1≤Sy.next:=by omega
     refine Own.low (lo:=Sy.next) ?_ hlow
     refine ow3.frame (Nat.le_refl _) fun id hid hbk=>?_
     have:id≠y:=fun e=>ow3.ne (show y<Sy.next by omega) (by rw [← e]; exact hbk)
     simp only [T.get_set]; rw [if_neg this]
    ·simp only [T.get_set]; rw [if_neg (by omega)]
     exact (off3.2 S.next (by omega) (fun h=>h.elim (fun h=>by omega) fun h=>h.elim (fun h=>by omega) (fun h=>by simp [blkOf] at h))).trans ((ax2.2 S.next (by omega)).trans bx1)
    ·intro q hq h1
     simp only [T.get_set]; rw [if_neg (by omega)]
     exact (off3.2 q (by omega) (fun h=>h.elim h1 fun h=>h.elim (fun h=>by omega) (fun h=>by simp [blkOf] at h))).trans (ag.2 q hq)
   ·rw [hys]
    refine ⟨?_,?_,?_⟩
    ·rintro i T S' ⟨hn',_,_,po',no',co',_,ow',rfl⟩ id (rfl|rfl|hid)
     ·omega
     ·omega
     ·exact ow'.lt hid
    ·rintro i T S' S'' ⟨hn',hi,hy',po',no',co',h9',ow',rfl⟩ hle hk
     exact ⟨by omega,hi,(hk y (by omega) (.inl (.inr (.inl rfl)))).trans hy',po',no',co',(hk p9 (by omega) (.inl (.inl rfl))).trans h9',ow'.frame hle (fun id hid hb=>hk id hid (.inl (.inr (.inr hb)))),rfl⟩
    ·rintro i T S' b hbi ⟨hn',hi,hy',po',no',co',h9',ow',rfl⟩
     have hi2:i<ys.length:=(List.getElem?_eq_some_iff.1 hbi).1
     have htk:(ys.take (i+1)).foldl joinW []=joinW ((ys.take i).foldl joinW []) b:=by rw [List.take_add_one,hbi]; simp
     rw [htk]
     have hlen:((ys.take i).foldl joinW []).length≤1000000:=by have:=foldl_joinW_len (ys.take i) []; rw [List.length_take] at this; simp only [List.length_nil] at this; omega
     generalize (ys.take i).foldl joinW []=L at *
     have hny:blkOf (.slice po' no' co')≠some y:=ow'.ne (by omega)
     have hn3:blkOf (.slice po' no' co')≠some p9:=ow'.ne (by omega)
     obtain ⟨S4,r1,T',r2,r3,r4⟩:=round_run (P:=Tryz.prog) (E:=E0) (l:=y) (b:=Value.agg (cellsOf b).toArray) (show 37<66 by decide) hy' (Q:=fun S4=>∃ T':Nat→Prop,(Sy.next≤S4.next∧i+1≤ys.length∧S4.heap.get y=some (.loop ⟨.ready,none,t,66,#[37],R32.1,R32.2⟩) ∧
      ∃ po' no' co',S4.heap.get p9=some (.cells [.slice po' no' co'] 40 0 true true)∧Own 36 Sy.next S4 (.slice po' no' co') (joinW L b)∧T'=fun id=>id=p9∨id=y∨blkOf (.slice po' no' co')=some id) ∧
       Off (fun id=>id=p9∨id=y∨blkOf (.slice po' no' co')=some id) S' S4∧Wider (fun id=>id=p9∨id=y∨blkOf (.slice po' no' co')=some id) S' T') (by
      intro zA hA
      change evCode _ _ _ _ (Code.region 8 _ _) ⟨⟨t.set 37 (some (.agg #[.int .i64 b.lo,.int .i64 b.hi])),66⟩,[],S'⟩=_ at hA
      obtain ⟨S5,e5,n5,b5,a5⟩:=push_open S' (.cells [.int .i64 0,.int .i64 0] 36 0 true true)
      obtain ⟨S6,e6,n6,b6,q6⟩:=st_at (P:=Tryz.prog) (o:=0) (c':=[.int .i64 b.lo,.int .i64 b.hi]) (v:=.agg #[.int .i64 b.lo,.int .i64 b.hi]) tz36 b5 rfl rfl (show 0+2≤2 by decide) rfl
      simp (disch:=first|omega|assumption) only [E0_G,SY,off,agreeKind,allocV,Nat.reduceAdd,Nat.reduceLT,Nat.reduceBEq,TY_EvH14,e5,e6] at hA
      refine ⟨_,S6,hA.symm,?_,?_⟩
      ·exact (q6 y (by omega)).trans ((a5.2 y (by omega)).trans hy')
      intro S7 n7 b7 q7 zB hB
      change evCode _ _ _ _ (Code.block 1 (Code.seq (Code.region 9 _ _) _)) _=_ at hB
      have u3:S7.heap.get p9=some (.cells [.slice po' no' co'] 40 0 true true):=(q7 p9 (by omega)).trans ((q6 p9 (by omega)).trans ((a5.2 p9 (by omega)).trans h9'))
      have u6:S7.heap.get S'.next=some (.cells [.int .i64 b.lo,.int .i64 b.hi] 36 0 true true):=(q7 S'.next (by omega)).trans b6
      have ow7:Own 36 Sy.next S7 (.slice po' no' co') L:=ow'.frame (by omega) fun id hid hbk=>(q7 id (fun e=>hny (by rw [← e]; exact hbk))).trans ((q6 id (by omega)).trans (a5.2 id hid))
      have w7:=ow7.rows.len (P:=Tryz.prog) (t:=40) Tryz.underlying40
      simp (disch:=first|omega|assumption) only [E0_G,SY,off,agreeKind,ldA,aggD,Nat.reduceAdd,Nat.reduceLT,Nat.reduceBEq,TY_EvH14,g9,u3,w7] at hB
      rw [code_draws _ _ _ (by kernel_rfl)] at hB
      generalize hnd1:needy _=nd1 at hB
      have close:∀ (S10:AS) (pu:Option Addr) (nu cu:Nat),S7.next≤S10.next→S10.heap.get y=some (.loop ⟨.busy,none,t,66,#[37],R32.1,R32.2⟩)→S10.heap.get p9=some (.cells [.slice pu nu cu] 40 0 true true)→Own 36 Sy.next S10 (.slice pu nu cu) (joinW L b) →
        (∀ q,q<S7.next→q≠p9→blkOf (.slice po' no' co')≠some q→S10.heap.get q=S7.heap.get q)→(∀ q,q<S7.next→blkOf (.slice po' no' co')≠some q→blkOf (.slice pu nu cu)≠some q) →
        ∀ S11:AS,S11.next=S10.next→S11.heap.get y=some (.loop ⟨.ready,none,t,66,#[37],R32.1,R32.2⟩)→(∀ q,q≠y→S11.heap.get q=S10.heap.get q) →
        ∃ T':Nat→Prop,(Sy.next≤S11.next∧i+1≤ys.length∧S11.heap.get y=some (.loop ⟨.ready,none,t,66,#[37],R32.1,R32.2⟩) ∧
         ∃ po' no' co',S11.heap.get p9=some (.cells [.slice po' no' co'] 40 0 true true)∧Own 36 Sy.next S11 (.slice po' no' co') (joinW L b)∧T'=fun id=>id=p9∨id=y∨blkOf (.slice po' no' co')=some id) ∧
         Off (fun id=>id=p9∨id=y∨blkOf (.slice po' no' co')=some id) S' S11∧Wider (fun id=>id=p9∨id=y∨blkOf (.slice po' no' co')=some id) S' T':=by
       intro S10 pu nu cu m10 y10 h10 o10 f10 d10 S11 n11 b11 q11
       have dy:=d10 y (by omega) hny
       refine ⟨_,⟨by omega,by omega,b11,pu,nu,cu,(q11 p9 (by omega)).trans h10,?_,rfl⟩,?_,?_⟩
       ·exact o10.frame (by omega) fun id hid hbk=>q11 id (fun e=>dy (by rw [← e]; exact hbk))
       ·exact ⟨by omega,fun id hid hT=>(q11 id (fun e=>hT (.inr (.inl e)))).trans ((f10 id (by omega) (fun e=>hT (.inl e)) (fun h=>hT (.inr (.inr h)))).trans ((q7 id (fun e=>hT (.inr (.inl e)))).trans ((q6 id (by omega)).trans (a5.2 id hid))))⟩
       ·intro id hT
        refine hT.elim (fun h=>.inl (.inl h)) fun h=>h.elim (fun h=>.inl (.inr (.inl h))) fun h=>?_
        by_cases hid:id<S'.next
        ·by_cases ho':blkOf (.slice po' no' co')=some id
         ·exact .inl (.inr (.inr ho'))
         ·exact absurd h (d10 id (by omega) ho')
        ·exact .inr (by omega)
      have more:joinW L b=L++[b]→∃ S8 S9 S10 pu nu cu,S7.push (.cells [.int .i64 b.lo,.int .i64 b.hi] 36 2 true true)=S8∧S8.next=S7.next+1∧Agree S7 S8 ∧
        aAppend Tryz.prog 40 40 (.slice po' no' co') (.slice (some ⟨S7.next,0,none⟩) 1 1) S8=some (.slice pu nu cu,S9)∧stA Tryz.prog 40 ⟨p9,0,none⟩ (.slice pu nu cu) S9=some S10∧S7.next≤S10.next∧S10.heap.get y=some (.loop ⟨.busy,none,t,66,#[37],R32.1,R32.2⟩)∧S10.heap.get p9=some (.cells [.slice pu nu cu] 40 0 true true)∧Own 36 Sy.next S10 (.slice pu nu cu) (joinW L b) ∧
        (∀ q,q<S7.next→q≠p9→blkOf (.slice po' no' co')≠some q→S10.heap.get q=S7.heap.get q)∧(∀ q,q<S7.next→blkOf (.slice po' no' co')≠some q→blkOf (.slice pu nu cu)≠some q):=by
       intro hj
       obtain ⟨S8,e8,n8,b8,a8⟩:=push_open S7 (.cells [.int .i64 b.lo,.int .i64 b.hi] 36 2 true true)
       have o8:Own 36 S7.next S8 (.slice (some ⟨S7.next,0,none⟩) 1 1) ([b]:List Sp):=.inr ⟨_,true,rfl,Nat.le_refl _,by omega,b8⟩
       obtain ⟨u,S9,k9,o9,n9,f9,d9⟩:=own_append (P:=Tryz.prog) (t:=40) (tx:=40) (n:=1) (v:=.slice po' no' co') (ow7.agree a8) o8.rows (by omega) (by omega) (by simp) Tryz.underlying40 Tryz.underlying40 ti36 tv36 rfl tz36
       obtain ⟨pu,nu,cu,rfl⟩:=own_arcs o9
       have v3:S9.heap.get p9=some (.cells [.slice po' no' co'] 40 0 true true):=(f9 p9 (by omega) hn3).trans ((a8.2 p9 (by omega)).trans u3)
       obtain ⟨S10,k10,n10,b10,q10⟩:=st_at (P:=Tryz.prog) (o:=0) (c':=[.slice pu nu cu]) (v:=.slice pu nu cu) tz40 v3 rfl rfl (show 0+1≤1 by decide) rfl
       have d3:=d9 p9 (by omega) hn3
       refine ⟨S8,S9,S10,pu,nu,cu,e8,n8,a8,k9,k10,by omega,(q10 y (by omega)).trans ((f9 y (by omega) hny).trans ((a8.2 y (by omega)).trans b7)),b10,?_,?_,?_⟩
       ·rw [hj]
        exact o9.frame (by omega) fun id hid hbk=>q10 id (fun e=>d3 (by rw [← e]; exact hbk))
       ·intro q hq hq9 hqb
        exact (q10 q hq9).trans ((f9 q (by omega) hqb).trans (a8.2 q hq))
       ·intro q hq hqb
        exact d9 q (by omega) hqb
      have y8:aBuildSlice Tryz.prog 40 1 [(0,.agg #[.int .i64 b.lo,.int .i64 b.hi])] S7=some (.slice (some ⟨S7.next,0,none⟩) 1 1,S7.push (.cells [.int .i64 b.lo,.int .i64 b.hi] 36 2 true true)):=by kernel_rfl
      rcases dP (0<(L.length:Int)) with ⟨h1a,h1⟩|⟨h1a,h1⟩
      ·have hxl:L[L.length - 1]?=some (lget L (L.length - 1)):=lget_some (by omega)
       obtain ⟨id,of_,cc,ty_,wr_,ex,ix,gb,lt',mm,lo',hb',pt⟩:=ow7.at3 (P:=Tryz.prog) (t:=40) Tryz.underlying40 tz36 hxl
       have m0:cc[of_]?=some (.int .i64 (lget L (L.length - 1)).lo):=mm 0 (show 0<2 by decide)
       have m1:cc[of_+1]?=some (.int .i64 (lget L (L.length - 1)).hi):=mm 1 (show 1<2 by decide)
       have w1:IntKind.i64.wrap ((L.length:Int) - 1)=((L.length - 1:Nat):Int):=by rw [IntWalk.i64_in]<;>omega
       rcases dP (IntKind.i64.wrap ((lget L (L.length - 1)).hi+1)=b.lo) with ⟨h2a,h2⟩|⟨h2a,h2⟩
       ·simp (disch:=first|omega|assumption) only [E0_G,SY,off,agreeKind,ldA,aggD,aField,Nat.reduceAdd,Nat.reduceLT,Nat.reduceBEq,TY_EvH14,g9,u3,u6,h1a,w1,ix,gb,m1,h2a,store_refl E0_same] at hB
        obtain ⟨S8,e8,n8,o8,q8⟩:=pt 3 (.int .i64 b.hi) 1 ⟨(lget L (L.length - 1)).lo,b.hi⟩ tz3 rfl rfl (by decide) rfl
        simp (disch:=first|omega|assumption) only [SY,e8,store_refl E0_same] at hB
        have hj:joinW L b=L.set (L.length - 1) ⟨(lget L (L.length - 1)).lo,b.hi⟩:=if_pos ⟨by omega,h2⟩
        have hne:id≠y:=fun e=>hny (by rw [← e]; exact hb')
        have hn3':p9≠id:=fun e=>hn3 (by rw [e]; exact hb')
        refine ⟨_,_,S8,hB.symm,(q8 y (Ne.symm hne)).trans b7,close S8 po' no' co' (by omega) ((q8 y (Ne.symm hne)).trans b7) ((q8 p9 hn3').trans u3) (by rw [hj]; exact o8) (fun q hq hq9 hqb=>q8 q (fun e=>hqb (by rw [e]; exact hb'))) (fun q hq h=>h)⟩
       ·simp (disch:=first|omega|assumption) only [E0_G,SY,off,agreeKind,partVals,ldA,rdCells,aggD,aField,Nat.reduceAdd,Nat.reduceLT,Nat.reduceBEq,TY_EvH14,g9,u3,u6,h1a,w1,ix,gb,m1,h2a,store_refl E0_same] at hB
        obtain ⟨S8,S9,S10,pu,nu,cu,e8,n8,a8,k9,k10,r1,r2,r3,r4,r5,r6⟩:=more (if_neg fun h=>h2 h.2)
        simp (disch:=first|omega|assumption) only [E0_G,SY,off,agreeKind,Nat.reduceAdd,Nat.reduceLT,Nat.reduceBEq,g9,y8,e8,k9,k10] at hB
        exact ⟨_,_,S10,hB.symm,r2,close S10 pu nu cu r1 r2 r3 r4 r5 r6⟩
      ·simp (disch:=first|omega|assumption) only [E0_G,SY,off,agreeKind,partVals,ldA,rdCells,aggD,Nat.reduceAdd,Nat.reduceLT,Nat.reduceBEq,TY_EvH14,g9,u3,u6,h1a,store_refl E0_same] at hB
       obtain ⟨S8,S9,S10,pu,nu,cu,e8,n8,a8,k9,k10,r1,r2,r3,r4,r5,r6⟩:=more (if_neg fun h=>h1 (by omega))
       simp (disch:=first|omega|assumption) only [E0_G,SY,off,agreeKind,Nat.reduceAdd,Nat.reduceLT,Nat.reduceBEq,g9,y8,e8,k9,k10] at hB
       exact ⟨_,_,S10,hB.symm,r2,close S10 pu nu cu r1 r2 r3 r4 r5 r6⟩)
     exact ⟨S4,T',r1,r2,r3,r4⟩
   ·exact ⟨Nat.le_refl _,Nat.zero_le _,bx2,none,0,0,(ag.2 p9 l9).trans h9,Own.nil _ _ _,rfl⟩
   ·rintro q hq (h|h|h)
    ·exact (nlh q hq).1 h
    ·have:=(nlh q hq).2; omega
    ·simp [blkOf] at h
   ·rintro q hq (h|h|h)
    ·exact (nls q hq).1 h
    ·have:=(nls q hq).2; omega
    ·simp [blkOf] at h
   ·rintro (h|h|h)
    ·exact n9d h
    ·omega
    ·simp [blkOf] at h
   ·rintro (h|h|h)
    ·exact n9s h
    ·omega
    ·simp [blkOf] at h)
 obtain ⟨rfl,po',no',co',q1,q2,q3,q4,q5⟩:=hQ
 exact ⟨S',po',no',co',rfl,q1,q2,q3,q4,q5⟩
end House
end Go.Proofs
