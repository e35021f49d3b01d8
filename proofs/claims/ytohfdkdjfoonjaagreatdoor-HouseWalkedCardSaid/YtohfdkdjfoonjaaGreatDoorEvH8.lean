import Derived.Test.YtohfdkdjfoonjaaGreatDoorEvH7
set_option linter.unusedSimpArgs false
set_option linter.unusedVariables false
namespace Go.Proofs
namespace House
open Go Go.RowKit Go.Aev
set_option maxRecDepth 100000
theorem lst_slice {α:Type} [Cel α] {S:AS} {v:Value} {l:List α} (h:Lst S v l):∃ p n c,v=.slice p n c:=by
 rcases h with ⟨_,rfl|rfl⟩|⟨id,off,c,ty,cap,wr,ex,rfl,_⟩
 ·exact ⟨_,_,_,rfl⟩
 ·exact ⟨_,_,_,rfl⟩
 ·exact ⟨_,_,_,rfl⟩
theorem lst_lt {α:Type} [Cel α] {S:AS} {v:Value} {l:List α} (h:Lst S v l) {q:Nat} (hq:blkOf v=some q) (h0:v≠.slice (some ⟨0,0,some 0⟩) 0 0):q<S.next:=by
 rcases h with ⟨_,rfl|rfl⟩|⟨id,off,c,ty,cap,wr,ex,rfl,_,_,h3,_⟩
 ·simp [blkOf] at hq
 ·exact absurd rfl h0
 ·simp only [blkOf,Option.some.injEq] at hq; omega
set_option maxHeartbeats 4000000 in
theorem c161 (p:Option Addr) (n c:Nat) (S:AS):∃ S',(evL Tryz.prog E0).call 161 #[.slice p n c] S=some (.func (.func 167) #[] #[.pointer (some ⟨S.next,0,none⟩)],S')∧Agree S S'∧S'.next=S.next+1 ∧
  S'.heap.get S.next=some (.cells [.slice p n c] 40 0 true true):=by
 obtain ⟨S1,e1,n1,b1,a1⟩:=push_open S (.cells [.slice p n c] 40 0 true true)
 refine ⟨S1,?_,a1,by omega,b1⟩
 rw [L_call,evCall_said rfl Tryz.func161 rfl (by decide) Tryz.ntmps161 Tryz.results161]
 simp (disch:=first|omega|assumption) only [E0_G,SY,setArgs,off,agreeKind,vals,boxed,eq_self,Nat.reduceAdd,Nat.reduceSub,Nat.reduceLT,Nat.reduceBEq,e1,op_makeFunc1]
def hit (day sec:Int):List (Int × Sp)→Option Int
 | []=>none
 | b :: ys=>if b.2.lo≤sec then some (day+min sec b.2.hi) else hit day sec ys
def findR:Code→Option (Code × Code)
 | .rangeFunc _ _ A B=>some (A,B)
 | .seq x y=>match findR x with
  | some r=>some r
  | none=>findR y
 | .block _ c=>findR c
 | .loop c=>findR c
 | .cond _ x y=>match findR x with
  | some r=>some r
  | none=>findR y
 | _=>none
noncomputable def R138:Code × Code:=((Tryz.f138.body.bind findR).getD (.skip,.skip))
set_option maxHeartbeats 8000000 in
theorem rg138 (l:List Sp) (hn:l.length≤12) (day sec:Int) (hw:∀ b ∈ r167 l,IntKind.i64.wrap (day+min sec b.2.hi)=day+min sec b.2.hi) (S:AS) (t:T Value) (d:List Nat) (z:Option (X × St))
  (p4 p5 p6 pb:Nat) (pl:Option Addr) (nl cl:Nat)
  (g4:t.get 4=some (.pointer (some ⟨p4,0,none⟩))) (g5:t.get 5=some (.pointer (some ⟨p5,0,none⟩))) (g6:t.get 6=some (.pointer (some ⟨p6,0,none⟩))) (g18:t.get 18=some (.func (.func 167) #[] #[.pointer (some ⟨pb,0,none⟩)]))
  (h4:S.heap.get p4=some (.cells [.int .i64 0] 3 0 true true)) (h5:S.heap.get p5=some (.cells [.int .i64 day] 3 0 true true)) (h6:S.heap.get p6=some (.cells [.int .i64 sec] 3 0 true true)) (hb:S.heap.get pb=some (.cells [.slice pl nl cl] 40 0 true true))
  (l4:p4<S.next) (l5:p5<S.next) (l6:p6<S.next) (lb:pb<S.next) (n45:p5≠p4) (n46:p6≠p4) (n4b:pb≠p4)
  (hl:Lst S (.slice pl nl cl) l) (nl':∀ q,blkOf (.slice pl nl cl)=some q→q<S.next∧q≠p4)
  (hz:evCode Tryz.prog E0 (evL Tryz.prog E0) none (.rangeFunc (.tmp 18) #[19,20] R138.1 R138.2) ⟨⟨t,41⟩,d,S⟩=z) :
  ∃ x S',z=some (x,⟨⟨t,41⟩,S.next :: d,S'⟩)∧S.next<S'.next∧S'.heap.get S.next=some (.dfd true)∧(∀ q,q<S.next→q≠p4→S'.heap.get q=S.heap.get q) ∧
   ((x=.normal∧hit day sec (r167 l)=none∧S'.heap.get p4=some (.cells [.int .i64 0] 3 0 true true))∨(x=.ret∧∃ r,hit day sec (r167 l)=some r∧S'.heap.get p4=some (.cells [.int .i64 r] 3 0 true true))):=by
 obtain ⟨x,S',rfl,hQ⟩:=range_met hz (k:=167) (cs:=#[]) (ds:=#[.pointer (some ⟨pb,0,none⟩)]) g18 (fun a S'=>rfl)
  (fun x S'=>S.next<S'.next∧S'.heap.get S.next=some (.dfd true)∧(∀ q,q<S.next→q≠p4→S'.heap.get q=S.heap.get q) ∧
   ((x=.normal∧hit day sec (r167 l)=none∧S'.heap.get p4=some (.cells [.int .i64 0] 3 0 true true))∨(x=.ret∧∃ r,hit day sec (r167 l)=some r∧S'.heap.get p4=some (.cells [.int .i64 r] 3 0 true true))))
  (by
   intro L0 S1 S2 e1 e2 hbg
   obtain rfl:=hbg.eq
   obtain ⟨Sx,ex1,nx1,bx1,ax1⟩:=push_open S (.dfd true)
   obtain rfl:Sx=S1:=ex1.symm.trans e1
   obtain ⟨Sy,ex2,nx2,bx2,ax2⟩:=push_open Sx (.loop ⟨.ready,none,t,41,#[19,20],R138.1,R138.2⟩)
   obtain rfl:Sy=S2:=ex2.symm.trans e2
   have ag:=ax1.trans ax2
   generalize hy:Sx.next=y at *
   have hys:y=S.next+1:=by omega
   have key:=it167 l hn Sy y (fun i T S'=>Sy.next≤S'.next∧S'.heap.get y=some (.loop ⟨.ready,none,t,41,#[19,20],R138.1,R138.2⟩)∧S'.heap.get p4=some (.cells [.int .i64 0] 3 0 true true) ∧
     S'.heap.get p5=some (.cells [.int .i64 day] 3 0 true true)∧S'.heap.get p6=some (.cells [.int .i64 sec] 3 0 true true)∧hit day sec ((r167 l).drop i)=hit day sec (r167 l)∧T=fun id=>id=p4∨id=y)
    (fun i T S'=>Sy.next≤S'.next∧S'.heap.get y=some (.loop ⟨.done,some .ret,t,41,#[19,20],R138.1,R138.2⟩)∧(∃ r,hit day sec (r167 l)=some r∧S'.heap.get p4=some (.cells [.int .i64 r] 3 0 true true))∧T=fun id=>id=p4∨id=y)
    (fun id=>id=p4∨id=y) ?_ ?_ (.slice pl nl cl) (hl.agree ag) ?_ pb ((ag.2 pb lb).trans hb) (by omega) ?_
   ·obtain ⟨S3,T3,hc,hIJ,off3,_⟩:=key
    have fr:∀ q,q<S.next→q≠p4→S3.heap.get q=S.heap.get q:=fun q hq hne=>(off3.2 q (by omega) (fun h=>h.elim hne (fun h=>by omega))).trans (ag.2 q hq)
    have dfd:S3.heap.get S.next=some (.dfd true):=(off3.2 S.next (by omega) (fun h=>h.elim (fun h=>by omega) (fun h=>by omega))).trans ((ax2.2 S.next (by omega)).trans bx1)
    rcases hIJ with ⟨hn3,hy3,hp3,_,_,hh,rfl⟩|⟨i,b,hib,hn3,hy3,⟨r,hr,hp3⟩,rfl⟩
    ·refine ⟨_,S3,_,.normal,hc,hy3,by simp,rfl,by show S.next<S3.next; omega,?_,?_,.inl ⟨rfl,?_,?_⟩⟩
     ·simp only [T.get_set]; rw [if_neg (by omega)]; exact dfd
     ·intro q hq hne; simp only [T.get_set]; rw [if_neg (by omega)]; exact fr q hq hne
     ·rw [← hh,List.drop_length]; rfl
     ·simp only [T.get_set]; rw [if_neg (by omega)]; exact hp3
    ·refine ⟨_,S3,_,.ret,hc,hy3,by simp,rfl,by show S.next<S3.next; omega,?_,?_,.inr ⟨rfl,r,hr,?_⟩⟩
     ·simp only [T.get_set]; rw [if_neg (by omega)]; exact dfd
     ·intro q hq hne; simp only [T.get_set]; rw [if_neg (by omega)]; exact fr q hq hne
     ·simp only [T.get_set]; rw [if_neg (by omega)]; exact hp3
   ·refine ⟨?_,?_,?_⟩
    ·rintro i T S' ⟨hn',_,_,_,_,_,rfl⟩ id (rfl|rfl)<;>omega
    ·rintro i T S' S'' ⟨hn',hy',h4',h5',h6',hh,rfl⟩ hle hk
     exact ⟨by omega,(hk y (by omega) (.inl (.inr rfl))).trans hy',(hk p4 (by omega) (.inl (.inl rfl))).trans h4',(hk p5 (by omega) (.inr (by omega))).trans h5',(hk p6 (by omega) (.inr (by omega))).trans h6',hh,rfl⟩
    ·rintro i T S' b hbi ⟨hn',hy',h4',h5',h6',hh,rfl⟩
     have hd:(r167 l).drop i=b :: (r167 l).drop (i+1):=drop_cons' hbi
     have hmem:b ∈ r167 l:=List.mem_of_getElem? hbi
     have hyS:y<S'.next:=by omega
     have:=round_runS (P:=Tryz.prog) (E:=E0) (l:=y) (bs:=[.int .i64 b.1,.agg #[.int .i64 b.2.lo,.int .i64 b.2.hi]]) (ps:=[19,20]) (t:=t) (m:=41) (A:=R138.1) (B:=R138.2) (S:=S') rfl hy'
      (Q:=fun S4=>¬ b.2.lo≤sec∧S'.next≤S4.next∧S4.heap.get y=some (.loop ⟨.ready,none,t,41,#[19,20],R138.1,R138.2⟩)∧∀ q,q<S'.next→q≠y→S4.heap.get q=S'.heap.get q)
      (R:=fun S4=>b.2.lo≤sec∧S'.next≤S4.next∧S4.heap.get y=some (.loop ⟨.done,some .ret,t,41,#[19,20],R138.1,R138.2⟩)∧S4.heap.get p4=some (.cells [.int .i64 (day+min sec b.2.hi)] 3 0 true true)∧∀ q,q<S'.next→q≠y→q≠p4→S4.heap.get q=S'.heap.get q)
      (by
       intro zA hA
       change evCode _ _ _ _ (Code.region 5 _ _) ⟨⟨(t.set 19 (some (.int .i64 b.1))).set 20 (some (.agg #[.int .i64 b.2.lo,.int .i64 b.2.hi])),41⟩,[],S'⟩=_ at hA
       obtain ⟨S5,e5,n5,b5,a5⟩:=push_open S' (.cells [.int .i64 0,.int .i64 0] 36 0 true true)
       obtain ⟨S6,e6,n6,b6,q6⟩:=st_at (P:=Tryz.prog) (o:=0) (c':=[.int .i64 b.2.lo,.int .i64 b.2.hi]) (v:=.agg #[.int .i64 b.2.lo,.int .i64 b.2.hi]) tz36 b5 rfl rfl (show 0+2≤2 by decide) rfl
       simp (disch:=first|omega|assumption) only [E0_G,SY,off,agreeKind,allocV,Nat.reduceAdd,Nat.reduceLT,Nat.reduceBEq,TY_EvH5,tz36,tt36,t0_36,Tryz.underlying36,e5,e6] at hA
       refine ⟨_,S6,hA.symm,?_,?_⟩
       ·exact (q6 y (by omega)).trans ((a5.2 y (by omega)).trans hy')
       intro S7 n7 b7 q7 zB hB
       change evCode _ _ _ _ (Code.block 1 _) _=_ at hB
       have u4:S7.heap.get p4=some (.cells [.int .i64 0] 3 0 true true):=(q7 p4 (by omega)).trans ((q6 p4 (by omega)).trans ((a5.2 p4 (by omega)).trans h4'))
       have u5:S7.heap.get p5=some (.cells [.int .i64 day] 3 0 true true):=(q7 p5 (by omega)).trans ((q6 p5 (by omega)).trans ((a5.2 p5 (by omega)).trans h5'))
       have u6:S7.heap.get p6=some (.cells [.int .i64 sec] 3 0 true true):=(q7 p6 (by omega)).trans ((q6 p6 (by omega)).trans ((a5.2 p6 (by omega)).trans h6'))
       have u8:S7.heap.get S'.next=some (.cells [.int .i64 b.2.lo,.int .i64 b.2.hi] 36 0 true true):=(q7 S'.next (by omega)).trans b6
       rw [code_block,code_seq] at hB
       simp (disch:=first|omega|assumption) only [E0_G,SY,off,agreeKind,allocV,ldA,rdCells,oneB,aggD,aField,aFieldV,Nat.reduceAdd,Nat.reduceLT,Nat.reduceBEq,TY_EvH5,tz36,tz3,Tryz.underlying36,Tryz.underlying3,g4,g5,g6,u4,u5,u6,u8] at hB
       rcases dP (b.2.lo≤sec) with ⟨ha,h⟩|⟨ha,h⟩
       ·obtain ⟨S8,e8,n8,b8,q8⟩:=st_at (P:=Tryz.prog) (o:=0) (c':=[.int .i64 (day+min sec b.2.hi)]) (v:=.int .i64 (day+min sec b.2.hi)) tz3 u4 rfl rfl (show 0+1≤1 by decide) rfl
        simp (disch:=first|omega|assumption) only [E0_G,SY,off,agreeKind,allocV,ldA,rdCells,oneB,aggD,aField,aFieldV,Nat.reduceAdd,Nat.reduceLT,Nat.reduceBEq,TY_EvH5,tz36,tz3,Tryz.underlying36,Tryz.underlying3,g4,g5,g6,u4,u5,u6,u8,ha,e8,hw b hmem] at hB
        refine ⟨.ret,_,_,S8,hB.symm,(q8 y (by omega)).trans b7,.inr ⟨rfl,fun S9 n9 b9 q9=>⟨h,by omega,b9,(q9 p4 (by omega)).trans b8,fun q hq h1 h2=>?_⟩⟩⟩
        exact (q9 q h1).trans ((q8 q h2).trans ((q7 q h1).trans ((q6 q (by omega)).trans (a5.2 q hq))))
       ·simp (disch:=first|omega|assumption) only [E0_G,SY,off,agreeKind,allocV,ldA,rdCells,oneB,aggD,aField,aFieldV,Nat.reduceAdd,Nat.reduceLT,Nat.reduceBEq,TY_EvH5,tz36,tz3,Tryz.underlying36,Tryz.underlying3,g4,g5,g6,u4,u5,u6,u8,ha] at hB
        refine ⟨.normal,_,_,S7,hB.symm,b7,.inl ⟨rfl,fun S9 n9 b9 q9=>⟨h,by omega,b9,fun q hq h1=>?_⟩⟩⟩
        exact (q9 q h1).trans ((q7 q h1).trans ((q6 q (by omega)).trans (a5.2 q hq))))
     rcases this with ⟨S4,k4,hno,hn4,hy4,f4⟩|⟨S4,k4,hyes,hn4,hy4,hp4,f4⟩
     ·refine .inl ⟨S4,_,k4,⟨by omega,hy4,(f4 p4 (by omega) (by omega)).trans h4',(f4 p5 (by omega) (by omega)).trans h5',(f4 p6 (by omega) (by omega)).trans h6',?_,rfl⟩,⟨hn4,fun id hid hT=>f4 id hid (fun e=>hT (.inr e))⟩,fun id h=>.inl h⟩
      rw [← hh,hd,hit,if_neg hno]
     ·refine .inr ⟨S4,_,k4,⟨by omega,hy4,⟨_,?_,hp4⟩,rfl⟩,⟨hn4,fun id hid hT=>f4 id hid (fun e=>hT (.inr e)) (fun e=>hT (.inl e))⟩,fun id h=>.inl h⟩
      rw [← hh,hd,hit,if_pos hyes]
   ·exact ⟨Nat.le_refl _,bx2,(ag.2 p4 l4).trans h4,(ag.2 p5 l5).trans h5,(ag.2 p6 l6).trans h6,rfl,rfl⟩
   ·rintro q hq (h|h)
    ·exact (nl' q hq).2 h
    ·have:=(nl' q hq).1; omega
   ·rintro (h|h)
    ·exact n4b h
    ·omega)
 obtain ⟨q1,q2,q3,q4⟩:=hQ
 exact ⟨x,S',rfl,q1,q2,q3,q4⟩
end House
end Go.Proofs
