import Derived.Test.YtohfdkdjfoonjaaGreatDoorBV
set_option linter.unusedSimpArgs false
set_option linter.unusedVariables false
namespace Go.Proofs
namespace House
open Go Go.RowKit Go.Aev
set_option maxRecDepth 100000
def bad (h:Hs) (l:List Int) (x:Pg):Bool:=r88 (lget l x.fr.toNat) && decide (r145 x (lget l x.fr.toNat) h<lget l x.to.toNat)
def r118 (h:Hs) (l:List Int):Bool:=!(psg h).any (bad h l)
noncomputable def R118:Code × Code:=((Tryz.f118.body.bind findR).getD (.skip,.skip))
set_option maxHeartbeats 16000000 in
theorem rg118 (h:Hs) (hw:h.ways.length≤70) (hV:r59 h=0) (l:List Int) (hl:l.length=h.rooms.length) (Sb S:AS) (agb:Agree Sb S) (v_l v0 v1 v2:Value) (hvl:Lst Sb v_l l) (hv0:LstR Sb v0 h.rooms) (hv1:LstR Sb v1 h.doors) (hv2:Lst Sb v2 h.ways)
  (t:T Value) (d:List Nat) (z:Option (X × St)) (p3 p4 p5 pe pp:Nat)
  (g3:t.get 3=some (.pointer (some ⟨p3,0,none⟩))) (g4:t.get 4=some (.pointer (some ⟨p4,0,none⟩))) (g5:t.get 5=some (.pointer (some ⟨p5,0,none⟩))) (g10:t.get 10=some (.func (.func 148) #[] #[.pointer (some ⟨pp,0,none⟩)]))
  (h3:S.heap.get p3=some (.cells [v_l] 54 0 true true)) (h4:S.heap.get p4=some (.cells [.bool false] 4 0 true true)) (h5:S.heap.get p5=some (.cells [.func (.func 145) #[] #[.pointer (some ⟨pe,0,none⟩)]] 125 0 true true))
  (he:S.heap.get pe=some (.cells [v0,v1,v2] 26 0 true true)) (hp:S.heap.get pp=some (.cells [v0,v1,v2] 26 0 true true))
  (l3:p3<S.next) (l4:p4<S.next) (l5:p5<S.next) (le:pe<S.next) (lp:pp<S.next) (m4:Sb.next≤p4) (n3:p3≠p4) (n5:p5≠p4) (ne:pe≠p4) (np:pp≠p4) (mp:Sb.next≤pp)
  (hz:evCode Tryz.prog E0 (evL Tryz.prog E0) none (.rangeFunc (.tmp 10) #[11] R118.1 R118.2) ⟨⟨t,34⟩,d,S⟩=z) :
  ∃ x S',z=some (x,⟨⟨t,34⟩,S.next :: d,S'⟩)∧S.next<S'.next∧S'.heap.get S.next=some (.dfd true)∧(∀ q,q<S.next→S'.heap.get q=S.heap.get q) ∧
   ((x=.normal∧r118 h l=true)∨(x=.ret∧r118 h l=false)):=by
 have a01:=agb.1
 obtain ⟨x,S',rfl,hQ⟩:=range_met hz (k:=148) (cs:=#[]) (ds:=#[.pointer (some ⟨pp,0,none⟩)]) g10 (fun a S'=>rfl)
  (fun x S'=>S.next<S'.next∧S'.heap.get S.next=some (.dfd true)∧(∀ q,q<S.next→S'.heap.get q=S.heap.get q)∧((x=.normal∧r118 h l=true)∨(x=.ret∧r118 h l=false)))
  (by
   intro L0 S1 S2 e1 e2 hbg
   obtain rfl:=hbg.eq
   obtain ⟨Sx,ex1,nx1,bx1,ax1⟩:=push_open S (.dfd true)
   obtain rfl:Sx=S1:=ex1.symm.trans e1
   obtain ⟨Sy,ex2,nx2,bx2,ax2⟩:=push_open Sx (.loop ⟨.ready,none,t,34,#[11],R118.1,R118.2⟩)
   obtain rfl:Sy=S2:=ex2.symm.trans e2
   have ag:=ax1.trans ax2
   generalize hy:Sx.next=y at *
   have hys:y=S.next+1:=by omega
   have key:=it148 h.rooms h.doors h.ways hw Sy y (fun i T S'=>Sy.next≤S'.next∧i≤(psg h).length∧S'.heap.get y=some (.loop ⟨.ready,none,t,34,#[11],R118.1,R118.2⟩)∧S'.heap.get p4=some (.cells [.bool false] 4 0 true true) ∧
     (∀ q,q<S.next→q≠p4→S'.heap.get q=S.heap.get q)∧((psg h).take i).any (bad h l)=false∧T=fun id=>id=p4∨id=y)
    (fun i T S'=>Sy.next≤S'.next∧S'.heap.get y=some (.loop ⟨.done,some .ret,t,34,#[11],R118.1,R118.2⟩)∧S'.heap.get p4=some (.cells [.bool false] 4 0 true true)∧(psg h).any (bad h l)=true∧T=fun id=>id=p4∨id=y)
    (fun id=>id=p4∨id=y) ?_ ?_ Sb (agb.trans ag) ?_ v0 hv0 v1 hv1 v2 hv2 pp ((ag.2 pp lp).trans hp) (by omega) ?_
   ·obtain ⟨S3,T3,hc,hIJ,off3,_⟩:=key
    have fr:∀ q,q<S.next→S3.heap.get p4=some (.cells [.bool false] 4 0 true true)→S3.heap.get q=S.heap.get q:=fun q hq h4'=>by
     by_cases e:q=p4
     ·rw [e,h4',h4]
     ·exact (off3.2 q (by omega) (fun h=>h.elim e (fun h=>by omega))).trans (ag.2 q hq)
    have dfd:S3.heap.get S.next=some (.dfd true):=(off3.2 S.next (by omega) (fun h=>h.elim (fun h=>by omega) (fun h=>by omega))).trans ((ax2.2 S.next (by omega)).trans bx1)
    rcases hIJ with ⟨hn3,_,hy3,hp3,_,hh,rfl⟩|⟨i,b,hib,hn3,hy3,hp3,hh,rfl⟩
    ·refine ⟨_,S3,_,.normal,hc,hy3,by simp,rfl,by show S.next<S3.next; omega,?_,?_,.inl ⟨rfl,?_⟩⟩
     ·simp only [T.get_set]; rw [if_neg (by omega)]; exact dfd
     ·intro q hq; simp only [T.get_set]; rw [if_neg (by omega)]; exact fr q hq hp3
     ·have e:((psg h).take (psg h).length).any (bad h l)=false:=hh
      rw [List.take_length] at e
      unfold r118; rw [e]; rfl
    ·refine ⟨_,S3,_,.ret,hc,hy3,by simp,rfl,by show S.next<S3.next; omega,?_,?_,.inr ⟨rfl,?_⟩⟩
     ·simp only [T.get_set]; rw [if_neg (by omega)]; exact dfd
     ·intro q hq; simp only [T.get_set]; rw [if_neg (by omega)]; exact fr q hq hp3
     ·unfold r118; rw [hh]; rfl
   ·refine ⟨?_,?_,?_⟩
    ·rintro i T S' ⟨hn',_,_,_,_,_,rfl⟩ id (rfl|rfl)<;>omega
    ·rintro i T S' S'' ⟨hn',hi,hy',h4',hf,hh,rfl⟩ hle hk
     exact ⟨by omega,hi,(hk y (by omega) (.inl (.inr rfl))).trans hy',(hk p4 (by omega) (.inl (.inl rfl))).trans h4',fun q hq hne=>(hk q (by omega) (.inr (by omega))).trans (hf q hq hne),hh,rfl⟩
    ·rintro i T S' b hbi ⟨hn',hi,hy',h4',hf,hh,rfl⟩
     have hbi:(psg h)[i]?=some b:=hbi
     have hi2:i<(psg h).length:=(List.getElem?_eq_some_iff.1 hbi).1
     have hmem:b ∈ psg h:=List.mem_of_getElem? hbi
     have kq:=psg_ok hV hmem
     have kf:=kq.f; have kt:=kq.t
     have htk:((psg h).take (i+1)).any (bad h l)=bad h l b:=by rw [List.take_add_one,hbi]; simp [hh]
     have:=round_runS (P:=Tryz.prog) (E:=E0) (l:=y) (bs:=[.agg #[.int .i64 b.way,.bool b.back,.int .i64 b.fr,.int .i64 b.to,.int .i64 b.secs,.int .i64 b.door]]) (ps:=[11]) (t:=t) (m:=34) (A:=R118.1) (B:=R118.2) (S:=S') rfl hy'
      (Q:=fun S4=>bad h l b=false∧S'.next≤S4.next∧S4.heap.get y=some (.loop ⟨.ready,none,t,34,#[11],R118.1,R118.2⟩)∧∀ q,q<S'.next→q≠y→S4.heap.get q=S'.heap.get q)
      (R:=fun S4=>bad h l b=true∧S'.next≤S4.next∧S4.heap.get y=some (.loop ⟨.done,some .ret,t,34,#[11],R118.1,R118.2⟩)∧S4.heap.get p4=some (.cells [.bool false] 4 0 true true)∧∀ q,q<S'.next→q≠y→q≠p4→S4.heap.get q=S'.heap.get q)
      (by
       intro zA hA
       change evCode _ _ _ _ (Code.region 3 _ _) ⟨⟨t.set 11 (some (.agg #[.int .i64 b.way,.bool b.back,.int .i64 b.fr,.int .i64 b.to,.int .i64 b.secs,.int .i64 b.door])),34⟩,[],S'⟩=_ at hA
       obtain ⟨S5,e5,n5',b5,a5⟩:=push_open S' (.cells [.int .i64 0,.bool false,.int .i64 0,.int .i64 0,.int .i64 0,.int .i64 0] 137 0 true true)
       obtain ⟨S6,e6,n6,b6,q6⟩:=st_at (P:=Tryz.prog) (o:=0) (c':=[.int .i64 b.way,.bool b.back,.int .i64 b.fr,.int .i64 b.to,.int .i64 b.secs,.int .i64 b.door]) (v:=.agg #[.int .i64 b.way,.bool b.back,.int .i64 b.fr,.int .i64 b.to,.int .i64 b.secs,.int .i64 b.door]) tz137 b5 rfl rfl (show 0+6≤6 by decide) rfl
       simp (disch:=first|omega|assumption) only [E0_G,SY,setArgs,off,agreeKind,partVals,vals,allocV,boxed,ldA,rdCells,oneB,aggD,aField,aFieldV,aExtract,eq_self,ne_eq,if_true,if_false,not_false_eq_true,Nat.reduceAdd,Nat.reduceSub,Nat.reduceMul,Nat.reduceLT,Nat.reduceEqDiff,Nat.reduceBEq,reduceIte,Int.reduceEq,Int.reduceLT,Int.reduceLE,reduceCtorEq,TY_EvH27,e5,e6] at hA
       refine ⟨_,S6,hA.symm,?_,?_⟩
       ·exact (q6 y (by omega)).trans ((a5.2 y (by omega)).trans hy')
       intro S7 n7 b7 q7 zB hB
       change evCode _ _ _ _ (Code.block 1 _) _=_ at hB
       have f7:∀ q,q<S'.next→q≠y→S7.heap.get q=S'.heap.get q:=fun q hq hne=>(q7 q hne).trans ((q6 q (by omega)).trans (a5.2 q hq))
       have u4:S7.heap.get p4=some (.cells [.bool false] 4 0 true true):=(f7 p4 (by omega) (by omega)).trans h4'
       have u8:S7.heap.get S'.next=some (.cells [.int .i64 b.way,.bool b.back,.int .i64 b.fr,.int .i64 b.to,.int .i64 b.secs,.int .i64 b.door] 137 0 true true):=(q7 S'.next (by omega)).trans b6
       have lo7:∀ q,q<S.next→q≠p4→S7.heap.get q=S.heap.get q:=fun q hq hne=>(f7 q (by omega) (by omega)).trans (hf q hq hne)
       have u3:=(lo7 p3 l3 n3).trans h3
       have u5:=(lo7 p5 l5 n5).trans h5
       have agb7:Agree Sb S7:=⟨by omega,fun id hid=>(lo7 id (by omega) (by omega)).trans (agb.2 id hid)⟩
       have e1:((b.fr.toNat:Nat):Int)=b.fr:=Int.toNat_of_nonneg kf.1
       have e2:((b.to.toNat:Nat):Int)=b.to:=Int.toNat_of_nonneg kt.1
       obtain ⟨i1,o1,cc1,ty1,wr1,ex1,ix1,j1,lt1,m1⟩:=(hvl.agree agb7).at (P:=Tryz.prog) (t:=54) Tryz.underlying54 tz3 (lget_some (l:=l) (i:=b.fr.toNat) (by omega))
       have m1:cc1[o1]?=some (.int .i64 (lget l b.fr.toNat)):=m1 0 (show 0<1 by decide)
       rw [e1] at ix1
       obtain ⟨i2,o2,cc2,ty2,wr2,ex2,ix2,j2,lt2,m2⟩:=(hvl.agree agb7).at (P:=Tryz.prog) (t:=54) Tryz.underlying54 tz3 (lget_some (l:=l) (i:=b.to.toNat) (by omega))
       have m2:cc2[o2]?=some (.int .i64 (lget l b.to.toNat)):=m2 0 (show 0<1 by decide)
       rw [e2] at ix2
       obtain ⟨S8,k8,a8⟩:=c88 (lget l b.fr.toNat) S7
       have s8:E0.same S7 S8=true:=symEnv_same a8
       have u38:=(a8.2 p3 (by omega)).trans u3
       have u48:=(a8.2 p4 (by omega)).trans u4
       have u58:=(a8.2 p5 (by omega)).trans u5
       have u88:=(a8.2 S'.next (by omega)).trans u8
       have j18:=(a8.2 i1 lt1).trans j1
       have j28:=(a8.2 i2 lt2).trans j2
       rw [code_block,code_seq] at hB
       rw [code_draws _ _ _ (by kernel_rfl)] at hB
       generalize hnd:needy _=nd at hB
       simp (disch:=first|omega|assumption) only [E0_G,SY,setArgs,off,agreeKind,partVals,vals,allocV,boxed,ldA,rdCells,oneB,aggD,aField,aFieldV,aExtract,eq_self,ne_eq,if_true,if_false,not_false_eq_true,Nat.reduceAdd,Nat.reduceSub,Nat.reduceMul,Nat.reduceLT,Nat.reduceEqDiff,Nat.reduceBEq,reduceIte,Int.reduceEq,Int.reduceLT,Int.reduceLE,reduceCtorEq,TY_EvH27,g3,g4,g5,u3,u8,ix1,j1,m1,k8,s8,store_agree,store_refl E0_same] at hB
       rcases dB (r88 (lget l b.fr.toNat)) with ⟨ha,hr⟩|⟨ha,hr⟩
       ·have htm:=r88_iff.1 hr
        obtain ⟨S9,k9,a9⟩:=c145 b (lget l b.fr.toNat) h kq.ok htm S8 v0 (hv0.agree (agb7.trans a8)) v1 (hv1.agree (agb7.trans a8)) v2 (hv2.agree (agb7.trans a8)) pe ((a8.2 pe (by omega)).trans ((lo7 pe le ne).trans he)) (by have:=a8.1; omega)
        have l8:=a8.1; have l9:=a9.1
        have s9:E0.same S8 S9=true:=symEnv_same a9
        have u39:=(a9.2 p3 (by omega)).trans u38
        have u49:=(a9.2 p4 (by omega)).trans u48
        have u89:=(a9.2 S'.next (by omega)).trans u88
        have j29:=(a9.2 i2 (by omega)).trans j28
        have f9:∀ q,q<S'.next→q≠y→S9.heap.get q=S'.heap.get q:=fun q hq hne=>(a9.2 q (by omega)).trans ((a8.2 q (by omega)).trans (f7 q hq hne))
        simp (disch:=first|omega|assumption) only [E0_G,SY,setArgs,off,agreeKind,partVals,vals,allocV,boxed,ldA,rdCells,oneB,aggD,aField,aFieldV,aExtract,eq_self,ne_eq,if_true,if_false,not_false_eq_true,Nat.reduceAdd,Nat.reduceSub,Nat.reduceMul,Nat.reduceLT,Nat.reduceEqDiff,Nat.reduceBEq,reduceIte,Int.reduceEq,Int.reduceLT,Int.reduceLE,reduceCtorEq,TY_EvH27,g3,g4,g5,ha,u38,u58,u88,ix1,j18,m1,k9,s9,u39,u89,ix2,j29,m2,store_agree,store_refl E0_same] at hB
        rcases dP (r145 b (lget l b.fr.toNat) h<lget l b.to.toNat) with ⟨hq,hlt⟩|⟨hq,hlt⟩
        ·obtain ⟨S10,e10,n10,b10,q10⟩:=st_at (P:=Tryz.prog) (o:=0) (c':=[.bool false]) (v:=.bool false) tz4 u49 rfl rfl (show 0+1≤1 by decide) rfl
         simp (disch:=first|omega|assumption) only [E0_G,SY,setArgs,off,agreeKind,partVals,vals,allocV,boxed,ldA,rdCells,oneB,aggD,aField,aFieldV,aExtract,eq_self,ne_eq,if_true,if_false,not_false_eq_true,Nat.reduceAdd,Nat.reduceSub,Nat.reduceMul,Nat.reduceLT,Nat.reduceEqDiff,Nat.reduceBEq,reduceIte,Int.reduceEq,Int.reduceLT,Int.reduceLE,reduceCtorEq,TY_EvH27,g4,hq,e10] at hB
         refine ⟨.ret,_,_,S10,hB.symm,(q10 y (by omega)).trans ((a9.2 y (by omega)).trans ((a8.2 y (by omega)).trans b7)),.inr ⟨rfl,fun S11 n11 b11 q11=>⟨?_,by omega,b11,(q11 p4 (by omega)).trans b10,fun q hq1 h1 h2=>(q11 q h1).trans ((q10 q h2).trans (f9 q hq1 h1))⟩⟩⟩
         unfold bad; rw [hr,hq]; rfl
        ·simp (disch:=first|omega|assumption) only [E0_G,SY,setArgs,off,agreeKind,partVals,vals,allocV,boxed,ldA,rdCells,oneB,aggD,aField,aFieldV,aExtract,eq_self,ne_eq,if_true,if_false,not_false_eq_true,Nat.reduceAdd,Nat.reduceSub,Nat.reduceMul,Nat.reduceLT,Nat.reduceEqDiff,Nat.reduceBEq,reduceIte,Int.reduceEq,Int.reduceLT,Int.reduceLE,reduceCtorEq,TY_EvH27,hq] at hB
         refine ⟨.normal,_,_,S9,hB.symm,(a9.2 y (by omega)).trans ((a8.2 y (by omega)).trans b7),.inl ⟨rfl,fun S11 n11 b11 q11=>⟨?_,by omega,b11,fun q hq1 h1=>(q11 q h1).trans (f9 q hq1 h1)⟩⟩⟩
         unfold bad; rw [hr,hq]; rfl
       ·have l8:=a8.1
        simp (disch:=first|omega|assumption) only [E0_G,SY,setArgs,off,agreeKind,partVals,vals,allocV,boxed,ldA,rdCells,oneB,aggD,aField,aFieldV,aExtract,eq_self,ne_eq,if_true,if_false,not_false_eq_true,Nat.reduceAdd,Nat.reduceSub,Nat.reduceMul,Nat.reduceLT,Nat.reduceEqDiff,Nat.reduceBEq,reduceIte,Int.reduceEq,Int.reduceLT,Int.reduceLE,reduceCtorEq,TY_EvH27,ha] at hB
        refine ⟨.normal,_,_,S8,hB.symm,(a8.2 y (by omega)).trans b7,.inl ⟨rfl,fun S11 n11 b11 q11=>⟨?_,by omega,b11,fun q hq1 h1=>(q11 q h1).trans ((a8.2 q (by omega)).trans (f7 q hq1 h1))⟩⟩⟩
        unfold bad; rw [ha]; rfl)
     rcases this with ⟨S4,k4,hno,hn4,hy4,f4⟩|⟨S4,k4,hyes,hn4,hy4,hp4,f4⟩
     ·refine .inl ⟨S4,_,k4,⟨by omega,by omega,hy4,(f4 p4 (by omega) (by omega)).trans h4',fun q hq hne=>(f4 q (by omega) (by omega)).trans (hf q hq hne),?_,rfl⟩,⟨hn4,fun id hid hT=>f4 id hid (fun e=>hT (.inr e))⟩,fun id h=>.inl h⟩
      rw [htk]; exact hno
     ·refine .inr ⟨S4,_,k4,⟨by omega,hy4,hp4,List.any_eq_true.2 ⟨b,hmem,hyes⟩,rfl⟩,⟨hn4,fun id hid hT=>f4 id hid (fun e=>hT (.inr e)) (fun e=>hT (.inl e))⟩,fun id h=>.inl h⟩
   ·exact ⟨Nat.le_refl _,Nat.zero_le _,bx2,(ag.2 p4 l4).trans h4,fun q hq hne=>ag.2 q hq,rfl,rfl⟩
   ·rintro q (h|h)
    ·omega
    ·omega
   ·rintro (h|h)
    ·exact np h
    ·omega)
 obtain ⟨q1,q2,q3,q4⟩:=hQ
 exact ⟨x,S',rfl,q1,q2,q3,q4⟩
set_option maxHeartbeats 4000000 in
theorem c118 (h:Hs) (l:List Int) (hw:h.ways.length≤70) (hV:r59 h=0) (hl:l.length=h.rooms.length) (S:AS) (v0:Value) (hv0:LstR S v0 h.rooms) (v1:Value) (hv1:LstR S v1 h.doors) (v2:Value) (hv2:Lst S v2 h.ways) (v_l:Value) (hvl:Lst S v_l l) :
  ∃ S',(evL Tryz.prog E0).call 118 #[.agg #[v0,v1,v2],v_l] S=some (.bool (r118 h l),S')∧Agree S S':=by
 obtain ⟨p,n,c,rfl⟩:=lst_slice hvl
 generalize hz:(evL Tryz.prog E0).call 118 _ _=z
 rw [L_call,evCall_said rfl Tryz.func118 rfl (by decide) Tryz.ntmps118 Tryz.results118] at hz
 obtain ⟨S1,e1,n1,b1,a1⟩:=push_open S (.cells [v0,v1,v2] 26 0 true true)
 obtain ⟨S2,e2,n2,b2,a2⟩:=push_open S1 (.cells [.slice p n c] 54 0 true true)
 obtain ⟨S3,e3,n3,b3,a3⟩:=push_open S2 (.cells [.bool false] 4 0 true true)
 have b13:=(a3.2 S.next (by omega)).trans ((a2.2 S.next (by omega)).trans b1)
 have b23:=(a3.2 S1.next (by omega)).trans b2
 obtain ⟨S4,k4,a4,n4,b4⟩:=c97 v0 v1 v2 S3
 obtain ⟨S5,e5,n5,b5,a5⟩:=push_open S4 (.cells [.nilFunc] 125 0 true true)
 obtain ⟨S6,e6,n6,b6,q6⟩:=st_at (P:=Tryz.prog) (o:=0) (c':=[.func (.func 145) #[] #[.pointer (some ⟨S3.next,0,none⟩)]]) (v:=.func (.func 145) #[] #[.pointer (some ⟨S3.next,0,none⟩)]) tz125 b5 rfl rfl (show 0+1≤1 by decide) rfl
 have b16:=(q6 S.next (by omega)).trans ((a5.2 S.next (by omega)).trans ((a4.2 S.next (by omega)).trans b13))
 have b26:=(q6 S1.next (by omega)).trans ((a5.2 S1.next (by omega)).trans ((a4.2 S1.next (by omega)).trans b23))
 have b36:=(q6 S2.next (by omega)).trans ((a5.2 S2.next (by omega)).trans ((a4.2 S2.next (by omega)).trans b3))
 have b46:=(q6 S3.next (by omega)).trans ((a5.2 S3.next (by omega)).trans b4)
 obtain ⟨S7,k7,a7,n7,b7⟩:=c108 v0 v1 v2 S6
 have ag7:Agree S S7:=⟨by omega,fun id hid=>(a7.2 id (by omega)).trans ((q6 id (by omega)).trans ((a5.2 id (by omega)).trans ((a4.2 id (by omega)).trans ((a3.2 id (by omega)).trans ((a2.2 id (by omega)).trans (a1.2 id hid))))))⟩
 simp (disch:=first|omega|assumption) only [E0_G,SY,setArgs,off,agreeKind,partVals,vals,allocV,boxed,ldA,rdCells,oneB,aggD,aField,aFieldV,aExtract,eq_self,ne_eq,if_true,if_false,not_false_eq_true,Nat.reduceAdd,Nat.reduceSub,Nat.reduceMul,Nat.reduceLT,Nat.reduceEqDiff,Nat.reduceBEq,reduceIte,Int.reduceEq,Int.reduceLT,Int.reduceLE,reduceCtorEq,TY_EvH27,cells_nf,e1,e2,e3,b13,k4,e5,e6,b16,k7] at hz
 generalize hR:evCode Tryz.prog E0 (evL Tryz.prog E0) none (.rangeFunc _ _ _ _) _=R at hz
 obtain ⟨x,S8,rfl,m8,d8,f8,hx⟩:=rg118 h hw hV l hl S S7 ag7 (.slice p n c) v0 v1 v2 hvl hv0 hv1 hv2 _ _ _ S1.next S2.next S4.next S3.next S6.next
  (by simp only [SY,setArgs,off,agreeKind,partVals,vals,allocV,boxed,ldA,rdCells,oneB,aggD,aField,aFieldV,aExtract,eq_self,ne_eq,if_true,if_false,not_false_eq_true,Nat.reduceAdd,Nat.reduceSub,Nat.reduceMul,Nat.reduceLT,Nat.reduceEqDiff,Nat.reduceBEq,reduceIte,Int.reduceEq,Int.reduceLT,Int.reduceLE,reduceCtorEq]<;>rfl) (by simp only [SY,setArgs,off,agreeKind,partVals,vals,allocV,boxed,ldA,rdCells,oneB,aggD,aField,aFieldV,aExtract,eq_self,ne_eq,if_true,if_false,not_false_eq_true,Nat.reduceAdd,Nat.reduceSub,Nat.reduceMul,Nat.reduceLT,Nat.reduceEqDiff,Nat.reduceBEq,reduceIte,Int.reduceEq,Int.reduceLT,Int.reduceLE,reduceCtorEq]<;>rfl) (by simp only [SY,setArgs,off,agreeKind,partVals,vals,allocV,boxed,ldA,rdCells,oneB,aggD,aField,aFieldV,aExtract,eq_self,ne_eq,if_true,if_false,not_false_eq_true,Nat.reduceAdd,Nat.reduceSub,Nat.reduceMul,Nat.reduceLT,Nat.reduceEqDiff,Nat.reduceBEq,reduceIte,Int.reduceEq,Int.reduceLT,Int.reduceLE,reduceCtorEq]<;>rfl) (by simp only [SY,setArgs,off,agreeKind,partVals,vals,allocV,boxed,ldA,rdCells,oneB,aggD,aField,aFieldV,aExtract,eq_self,ne_eq,if_true,if_false,not_false_eq_true,Nat.reduceAdd,Nat.reduceSub,Nat.reduceMul,Nat.reduceLT,Nat.reduceEqDiff,Nat.reduceBEq,reduceIte,Int.reduceEq,Int.reduceLT,Int.reduceLE,reduceCtorEq]<;>rfl)
  ((a7.2 _ (by omega)).trans b26) ((a7.2 _ (by omega)).trans b36) ((a7.2 _ (by omega)).trans b6) ((a7.2 _ (by omega)).trans b46) b7 (by omega) (by omega) (by omega) (by omega) (by omega) (by omega) (by omega) (by omega) (by omega) (by omega) (by omega) hR
 have b48:=(f8 S2.next (by omega)).trans ((a7.2 _ (by omega)).trans b36)
 rcases hx with ⟨rfl,hr⟩|⟨rfl,hr⟩
 ·obtain ⟨S9,e9,n9,b9,q9⟩:=st_at (P:=Tryz.prog) (o:=0) (c':=[.bool true]) (v:=.bool true) tz4 b48 rfl rfl (show 0+1≤1 by decide) rfl
  simp (disch:=first|omega|assumption) only [E0_G,SY,setArgs,off,agreeKind,partVals,vals,allocV,boxed,ldA,rdCells,oneB,aggD,aField,aFieldV,aExtract,eq_self,ne_eq,if_true,if_false,not_false_eq_true,Nat.reduceAdd,Nat.reduceSub,Nat.reduceMul,Nat.reduceLT,Nat.reduceEqDiff,Nat.reduceBEq,reduceIte,Int.reduceEq,Int.reduceLT,Int.reduceLE,reduceCtorEq,TY_EvH27,e9,b9] at hz
  have d9:=(q9 S7.next (by omega)).trans d8
  obtain ⟨S10,k10,n10,q10⟩:=take1 d9
  have b10:=(q10 S2.next (by omega)).trans b9
  rw [handed_take k10] at hz
  simp (disch:=first|omega|assumption) only [E0_G,SY,setArgs,off,agreeKind,partVals,vals,allocV,boxed,ldA,rdCells,oneB,aggD,aField,aFieldV,aExtract,eq_self,ne_eq,if_true,if_false,not_false_eq_true,Nat.reduceAdd,Nat.reduceSub,Nat.reduceMul,Nat.reduceLT,Nat.reduceEqDiff,Nat.reduceBEq,reduceIte,Int.reduceEq,Int.reduceLT,Int.reduceLE,reduceCtorEq,TY_EvH27,b10] at hz
  exact fin hz (by rw [hr]) ⟨by omega,fun id hid=>(q10 id (by omega)).trans ((q9 id (by omega)).trans ((f8 id (by omega)).trans (ag7.2 id hid)))⟩
 ·simp (disch:=first|omega|assumption) only [E0_G,SY,setArgs,off,agreeKind,partVals,vals,allocV,boxed,ldA,rdCells,oneB,aggD,aField,aFieldV,aExtract,eq_self,ne_eq,if_true,if_false,not_false_eq_true,Nat.reduceAdd,Nat.reduceSub,Nat.reduceMul,Nat.reduceLT,Nat.reduceEqDiff,Nat.reduceBEq,reduceIte,Int.reduceEq,Int.reduceLT,Int.reduceLE,reduceCtorEq,TY_EvH27] at hz
  obtain ⟨S10,k10,n10,q10⟩:=take1 d8
  have b10:=(q10 S2.next (by omega)).trans b48
  rw [handed_take k10] at hz
  simp (disch:=first|omega|assumption) only [E0_G,SY,setArgs,off,agreeKind,partVals,vals,allocV,boxed,ldA,rdCells,oneB,aggD,aField,aFieldV,aExtract,eq_self,ne_eq,if_true,if_false,not_false_eq_true,Nat.reduceAdd,Nat.reduceSub,Nat.reduceMul,Nat.reduceLT,Nat.reduceEqDiff,Nat.reduceBEq,reduceIte,Int.reduceEq,Int.reduceLT,Int.reduceLE,reduceCtorEq,TY_EvH27,b10] at hz
  exact fin hz (by rw [hr]) ⟨by omega,fun id hid=>(q10 id (by omega)).trans ((f8 id (by omega)).trans (ag7.2 id hid))⟩
end House
end Go.Proofs
