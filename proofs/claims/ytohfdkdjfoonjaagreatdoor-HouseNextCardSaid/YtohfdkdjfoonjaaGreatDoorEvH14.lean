import Derived.Test.YtohfdkdjfoonjaaGreatDoorEvM7
import Derived.Test.YtohfdkdjfoonjaaGreatDoorAE6
set_option linter.unusedSimpArgs false
set_option linter.unusedVariables false
namespace Go.Proofs
namespace House
open Go Go.RowKit Go.Aev
set_option maxRecDepth 100000
theorem TY_EvH14:type_of% TY_EvH13:=TY_EvH13
def r85 (h:Hs) (n:Int) (ti:Int):Int:=(if (r59 h)=0 then (if (r71 n 0 ((h.doors.length:Int) - 1))=true then (if (r69 ti)=true then (r59 h) else 1) else 1) else (r59 h))
set_option maxHeartbeats 2000000 in
theorem c85 (h:Hs) (n:Int) (ti:Int) (hF:Few h) (S:AS) (v_h_rooms:Value) (hv_h_rooms:LstR S v_h_rooms h.rooms) (v_h_doors:Value) (hv_h_doors:LstR S v_h_doors h.doors) (v_h_ways:Value) (hv_h_ways:Lst S v_h_ways h.ways) :
  ∃ S',(evL Tryz.prog E0).call 85 #[.agg #[v_h_rooms,v_h_doors,v_h_ways],.int .i64 n,.int .i64 ti] S=some (.int .i64 (r85 h n ti),S')∧Agree S S':=by
 have qr:=hF.r; have qd:=hF.d; have qw:=hF.w
 generalize hz:(evL Tryz.prog E0).call 85 _ _=z
 rw [L_call,evCall_said rfl Tryz.func85 rfl (by decide) Tryz.ntmps85 Tryz.results85] at hz
 obtain ⟨S1,e1,n1,b1,a1⟩:=push_open S (.cells [v_h_rooms,v_h_doors,v_h_ways] 26 0 true true)
 have g1:Agree S S1:=a1
 obtain ⟨S2,k2,a2⟩:=c59 h hF S1 (v_h_rooms) (hv_h_rooms.agree g1) (v_h_doors) (hv_h_doors.agree g1) (v_h_ways) (hv_h_ways.agree g1)
 have l2:=a2.1
 have v1_2:=(a2.2 S.next (by omega)).trans b1
 have g2:Agree S S2:=g1.trans a2
 try simp (disch:=first|omega|assumption) only [E0_G,SY,setArgs,off,agreeKind,vals,boxed,ldA,rdCells,aggD,Nat.reduceAdd,Nat.reduceSub,Nat.reduceLT,Nat.reduceBEq,TY_EvH14,e1,b1,k2] at hz
 rcases dP ((r59 h)=0) with ⟨h3a,h3⟩|⟨h3a,h3⟩
 ·have w4:=(hv_h_doors.agree g2).len (P:=Tryz.prog) (t:=23) Tryz.underlying23
  have w5:IntKind.i64.wrap ((h.doors.length:Int) - 1)=(h.doors.length:Int) - 1:=by rw [IntWalk.i64_in]; omega
  obtain ⟨S6,k6,a6⟩:=c71 n 0 ((h.doors.length:Int) - 1)  S2
  have l6:=a6.1
  have g6:Agree S S6:=g2.trans a6
  try simp (disch:=first|omega|assumption) only [E0_G,SY,off,agreeKind,vals,ldA,aggD,aField,Nat.reduceAdd,Nat.reduceLT,Nat.reduceBEq,TY_EvH14,v1_2,h3a,w4,w5,k6] at hz
  rcases dB ((r71 n 0 ((h.doors.length:Int) - 1))) with ⟨h7a,h7⟩|⟨h7a,h7⟩
  ·have lq8:=r71_iff.1 h7
   obtain ⟨S9,k9,a9⟩:=c69 ti  S6
   have l9:=a9.1
   have g9:Agree S S9:=g6.trans a9
   try simp (disch:=first|omega|assumption) only [E0_G,SY,off,agreeKind,vals,Nat.reduceAdd,Nat.reduceLT,Nat.reduceBEq,h7a,k9] at hz
   rcases dB ((r69 ti)) with ⟨h10a,h10⟩|⟨h10a,h10⟩
   ·have lq11:=r69_iff.1 h10
    try simp (disch:=first|omega|assumption) only [E0_G,SY,off,agreeKind,Nat.reduceAdd,Nat.reduceLT,Nat.reduceBEq,h10a] at hz
    have hr:r85 h n ti=(r59 h):=(if_pos h3).trans ((if_pos h7).trans ((if_pos h10).trans (rfl)))
    exact fin hz (by rw [hr]) g9
   try simp (disch:=first|omega|assumption) only [E0_G,SY,off,agreeKind,Nat.reduceLT,Nat.reduceBEq,h10a] at hz
   have hr:r85 h n ti=1:=(if_pos h3).trans ((if_pos h7).trans ((if_neg h10).trans (rfl)))
   exact fin hz (by rw [hr]) g9
  try simp (disch:=first|omega|assumption) only [E0_G,SY,off,agreeKind,Nat.reduceAdd,Nat.reduceLT,Nat.reduceBEq,h7a] at hz
  have hr:r85 h n ti=1:=(if_pos h3).trans ((if_neg h7).trans (rfl))
  exact fin hz (by rw [hr]) g6
 try simp (disch:=first|omega|assumption) only [E0_G,SY,off,agreeKind,Nat.reduceAdd,Nat.reduceLT,Nat.reduceBEq,h3a] at hz
 have hr:r85 h n ti=(r59 h):=(if_neg h3).trans (rfl)
 exact fin hz (by rw [hr]) g2
theorem r85_ok {h:Hs} {n t:Int} (e:r85 h n t=0):r59 h=0∧0≤n∧n<(h.doors.length:Int)∧0≤t∧t≤1073741823:=by
 by_cases h0:r59 h=0
 ·refine ⟨h0,?_⟩
  unfold r85 at e
  rw [if_pos h0] at e
  split at e
  ·rename_i h1
   have h1:0≤n∧n≤(h.doors.length:Int) - 1:=by
    unfold r71 at h1; split at h1<;>simp at h1<;>omega
   split at e
   ·rename_i h2
    have:=r69_iff.1 h2
    omega
   ·cases e
  ·cases e
 ·unfold r85 at e
  rw [if_neg h0] at e
  exact absurd e h0
def R33_0 (h:Hs) (n:Int) (slo shi:Int)  : Nat→List Sp→Int→(List Sp)
 | 0,out,tv=>out
 | m'+1,out,tv=>(if tv≤shi then (if (r86 (lget h.doors (Int.toNat n)) tv)=true then (if 0<(out.length:Int) then (if ((lget out (Int.toNat (max ((out.length:Int) - 1) 0))).hi)=(tv - 1) then R33_0 h n slo shi m' (out.set (Int.toNat ((out.length:Int) - 1)) (⟨(lget out (Int.toNat ((out.length:Int) - 1))).lo,min (r95 (lget h.doors (Int.toNat n)) tv) shi⟩:Sp)) ((min (r95 (lget h.doors (Int.toNat n)) tv) shi)+1) else R33_0 h n slo shi m' (out++([(⟨tv,min (r95 (lget h.doors (Int.toNat n)) tv) shi⟩:Sp)])) ((min (r95 (lget h.doors (Int.toNat n)) tv) shi)+1)) else R33_0 h n slo shi m' (out++([(⟨tv,min (r95 (lget h.doors (Int.toNat n)) tv) shi⟩:Sp)])) ((min (r95 (lget h.doors (Int.toNat n)) tv) shi)+1)) else R33_0 h n slo shi m' out ((min (r95 (lget h.doors (Int.toNat n)) tv) shi)+1)) else out)
def r33 (h:Hs) (n:Int) (slo shi:Int):List Sp × Int:=(if (r85 h n 0)=0 then (if shi<slo then ([],1) else (if (r69 slo)=true then (if (r69 shi)=true then (if 604800≤(shi - slo) then ([],2) else (R33_0 h n slo shi ((shi+1 - slo).toNat+1) ([]) slo,0)) else ([],1)) else ([],1))) else ([],(r85 h n 0)))
set_option maxHeartbeats 16000000 in
theorem c33 (h:Hs) (n:Int) (slo shi:Int) (hF:Few h) (S:AS) (v_h_rooms:Value) (hv_h_rooms:LstR S v_h_rooms h.rooms) (v_h_doors:Value) (hv_h_doors:LstR S v_h_doors h.doors) (v_h_ways:Value) (hv_h_ways:Lst S v_h_ways h.ways) :
  ∃ v' S',(evL Tryz.prog E0).call 33 #[.agg #[v_h_rooms,v_h_doors,v_h_ways],.int .i64 n,.agg #[.int .i64 slo,.int .i64 shi]] S=some (.tuple #[v',.int .i64 (r33 h n slo shi).2],S')∧Agree S S'∧Own 36 S.next S' v' (r33 h n slo shi).1:=by
 have qr:=hF.r; have qd:=hF.d; have qw:=hF.w
 generalize hz:(evL Tryz.prog E0).call 33 _ _=z
 rw [L_call,evCall_said rfl Tryz.func33 rfl (by decide) Tryz.ntmps33 Tryz.results33] at hz
 obtain ⟨S1,e1,n1,b1,a1⟩:=push_open S (.cells [v_h_rooms,v_h_doors,v_h_ways] 26 0 true true)
 have g1:Agree S S1:=a1
 have s1:E0.same S S1=true:=symEnv_same a1
 obtain ⟨S2,e2,n2,b2,a2⟩:=push_open S1 (.cells [.int .i64 slo,.int .i64 shi] 36 0 true true)
 have v1_2:=(a2.2 S.next (by omega)).trans b1
 have g2:Agree S S2:=g1.trans a2
 have s2:E0.same S1 S2=true:=symEnv_same a2
 obtain ⟨S3,k3,a3⟩:=c85 h n 0 hF S2 (v_h_rooms) (hv_h_rooms.agree g2) (v_h_doors) (hv_h_doors.agree g2) (v_h_ways) (hv_h_ways.agree g2)
 have l3:=a3.1
 have s3:E0.same S2 S3=true:=symEnv_same a3
 have v1_3:=(a3.2 S.next (by omega)).trans v1_2
 have v2_3:=(a3.2 S1.next (by omega)).trans b2
 have g3:Agree S S3:=g2.trans a3
 try simp (disch:=first|omega|assumption) only [E0_G,SY,setArgs,off,agreeKind,vals,boxed,ldA,rdCells,aggD,Nat.reduceAdd,Nat.reduceSub,Nat.reduceLT,Nat.reduceBEq,TY_EvH14,e1,v1_2,e2,k3] at hz
 rcases dP ((r85 h n 0)=0) with ⟨h4a,h4⟩|⟨h4a,h4⟩
 ·have lq5:=r85_ok h4
  try simp (disch:=first|omega|assumption) only [E0_G,SY,off,agreeKind,ldA,aggD,aField,Nat.reduceAdd,Nat.reduceLT,Nat.reduceBEq,TY_EvH14,v2_3,h4a] at hz
  rcases dP (shi<slo) with ⟨h6a,h6⟩|⟨h6a,h6⟩
  ·try simp (disch:=first|omega|assumption) only [E0_G,SY,off,agreeKind,Nat.reduceAdd,Nat.reduceLT,Nat.reduceBEq,h6a] at hz
   have hr:r33 h n slo shi=([],1):=(if_pos h4).trans ((if_pos h6).trans (rfl))
   exact ⟨.slice none 0 0,S3,by first|(rw [hr]; exact hz.symm)|exact hz.symm,g3,by rw [hr]; exact Own.nil _ _ _⟩
  obtain ⟨S7,k7,a7⟩:=c69 slo  S3
  have l7:=a7.1
  have s7:E0.same S3 S7=true:=symEnv_same a7
  have v1_7:=(a7.2 S.next (by omega)).trans v1_3
  have v2_7:=(a7.2 S1.next (by omega)).trans v2_3
  have g7:Agree S S7:=g3.trans a7
  try simp (disch:=first|omega|assumption) only [E0_G,SY,off,agreeKind,vals,ldA,aggD,aField,Nat.reduceAdd,Nat.reduceLT,Nat.reduceBEq,TY_EvH14,v2_3,h6a,k7] at hz
  rcases dB ((r69 slo)) with ⟨h8a,h8⟩|⟨h8a,h8⟩
  ·have lq9:=r69_iff.1 h8
   obtain ⟨S10,k10,a10⟩:=c69 shi  S7
   have l10:=a10.1
   have s10:E0.same S7 S10=true:=symEnv_same a10
   have v1_10:=(a10.2 S.next (by omega)).trans v1_7
   have v2_10:=(a10.2 S1.next (by omega)).trans v2_7
   have g10:Agree S S10:=g7.trans a10
   try simp (disch:=first|omega|assumption) only [E0_G,SY,off,agreeKind,vals,ldA,aggD,aField,Nat.reduceAdd,Nat.reduceLT,Nat.reduceBEq,TY_EvH14,v2_7,h8a,k10] at hz
   rcases dB ((r69 shi)) with ⟨h11a,h11⟩|⟨h11a,h11⟩
   ·have lq12:=r69_iff.1 h11
    have w13:IntKind.i64.wrap (shi - slo)=shi - slo:=by rw [IntWalk.i64_in]; omega
    try simp (disch:=first|omega|assumption) only [E0_G,SY,off,agreeKind,ldA,aggD,aField,Nat.reduceAdd,Nat.reduceLT,Nat.reduceBEq,TY_EvH14,v2_10,h11a,w13] at hz
    rcases dP (604800≤(shi - slo)) with ⟨h14a,h14⟩|⟨h14a,h14⟩
    ·try simp (disch:=first|omega|assumption) only [E0_G,SY,off,agreeKind,Nat.reduceAdd,Nat.reduceLT,Nat.reduceBEq,h14a] at hz
     have hr:r33 h n slo shi=([],2):=(if_pos h4).trans ((if_neg h6).trans ((if_pos h8).trans ((if_pos h11).trans ((if_pos h14).trans (rfl)))))
     exact ⟨.slice none 0 0,S10,by first|(rw [hr]; exact hz.symm)|exact hz.symm,g10,by rw [hr]; exact Own.nil _ _ _⟩
    try simp (disch:=first|omega|assumption) only [E0_G,SY,off,agreeKind,ldA,aggD,aField,Nat.reduceAdd,Nat.reduceLT,Nat.reduceBEq,TY_EvH14,v2_10,h14a] at hz
    generalize hL15:Rec.loop _ _ _ _=L15 at hz
    obtain ⟨x15,t15,S15e,rfl,hQ15⟩:=loop_met hL15 (fun m t S'=>∃ (v_out:Value) (out:List Sp) (tv:Int),shi+1 - tv<(m:Int)∧1≤m∧slo≤tv∧tv≤shi+1∧(out.length:Int)≤tv - slo∧t.get 1=some (.int .i64 n)∧t.get 3=some (.pointer (some ⟨S.next,0,none⟩))∧t.get 5=some (.pointer (some ⟨S1.next,0,none⟩))∧t.get 9=some (v_out)∧t.get 10=some (.int .i64 tv)∧S'.heap.get S.next=some (.cells [v_h_rooms,v_h_doors,v_h_ways] 26 0 true true)∧S'.heap.get S1.next=some (.cells [.int .i64 slo,.int .i64 shi] 36 0 true true)∧Agree S S'∧S10.next≤S'.next∧Own 36 S10.next S' v_out out∧R33_0 h n slo shi m out tv=R33_0 h n slo shi ((shi+1 - slo).toNat+1) ([]) slo)
     (fun x t S'=>x=.exit 0∧∃ (v_out:Value) (out:List Sp) (tv:Int),t.get 9=some (v_out)∧S'.heap.get S.next=some (.cells [v_h_rooms,v_h_doors,v_h_ways] 26 0 true true)∧S'.heap.get S1.next=some (.cells [.int .i64 slo,.int .i64 shi] 36 0 true true)∧Agree S S'∧S10.next≤S'.next∧Own 36 S10.next S' v_out out∧slo≤tv∧tv≤shi+1∧(out.length:Int)≤tv - slo∧R33_0 h n slo shi ((shi+1 - slo).toNat+1) ([]) slo=out) ((shi+1 - slo).toNat+1) ⟨.slice none 0 0,[],slo,by first|rfl|omega|(simp; omega)|simp,by first|rfl|omega|(simp; omega)|simp,by first|rfl|omega|(simp; omega)|simp,by first|rfl|omega|(simp; omega)|simp,by first|rfl|omega|(simp; omega)|simp,by simp only [SY,eq_self,Nat.reduceBEq]<;>rfl,by simp only [SY,eq_self,Nat.reduceBEq]<;>rfl,by simp only [SY,eq_self,Nat.reduceBEq]<;>rfl,by simp only [SY,eq_self,Nat.reduceBEq]<;>rfl,by simp only [SY,eq_self,Nat.reduceBEq]<;>rfl,v1_10,v2_10,g10,Nat.le_refl _,Own.nil _ _ _,rfl⟩ (by
      rintro m t S15 ⟨v_out,out,tv,hi15_0,hi15_1,hi15_2,hi15_3,hi15_4,g15_1,g15_3,g15_5,g15_9,g15_10,bb15_1,bb15_2,ga15,gn15,ow_out,hd15⟩
      refine .run fun z he=>?_
      try simp (disch:=first|omega|assumption) only [E0_G,SY,off,agreeKind,ldA,aggD,aField,Nat.reduceAdd,Nat.reduceLT,Nat.reduceBEq,TY_EvH14,g15_5,g15_10,bb15_2] at he
      rcases dP (tv≤shi) with ⟨h16a,h16⟩|⟨h16a,h16⟩
      ·try simp (disch:=first|omega|assumption) only [SY,h16a] at he
       rw [code_draws _ _ _ (by kernel_rfl)] at he
       generalize hnd17:needy _=nd17 at he
       have qz18:((Int.toNat n:Nat):Int)=n:=Int.toNat_of_nonneg (by first|omega|simp; omega)
       have hx19:h.doors[(Int.toNat n)]?=some (lget h.doors (Int.toNat n)):=lget_some (by first|omega|simp; omega)
       obtain ⟨id19,of19,cc19,ty19,wr19,ex19,cs19,i19,j19,l19,rp19,q19⟩:=LstR.at (hv_h_doors) (P:=Tryz.prog) (t:=23) Tryz.underlying23 tz98 hx19
       obtain ⟨w19_0,w19_1,rp19,rr19_0,rr19_1⟩:=rp19
       have rq19:cs19=[w19_0,w19_1]:=rp19
       subst rq19
       have jr19:=j19
       have j19:=(ga15.2 id19 l19).trans jr19
       have m19_0:cc19[of19]?=some (w19_0):=q19 0 (show 0<2 by decide)
       have m19_1:cc19[of19+1]?=some (w19_1):=q19 1 (show 1<2 by decide)
       rw [qz18] at i19
       obtain ⟨S20,k20,a20⟩:=c95 (lget h.doors (Int.toNat n)) tv (okd (r85_ok (n:=n) (t:=0) (by assumption)).1 (List.mem_of_getElem? (by assumption))) (by omega) S15 (w19_0) (rr19_0.agree ga15) (w19_1) (rr19_1.agree ga15)
       have l20:=a20.1
       have s20:E0.same S15 S20=true:=symEnv_same a20
       have v1_20:=(a20.2 S.next (by omega)).trans bb15_1
       have v2_20:=(a20.2 S1.next (by omega)).trans bb15_2
       have v19_20:=(a20.2 id19 (by omega)).trans j19
       have ow_21:=ow_out.agree a20
       have g20:Agree S S20:=ga15.trans a20
       have p20:=r95_ge (d:=(lget h.doors (Int.toNat n))) (t:=tv) (by omega)
       have qz22:((Int.toNat n:Nat):Int)=n:=Int.toNat_of_nonneg (by first|omega|simp; omega)
       have j23_19:=(g20.2 id19 l19).trans jr19
       obtain ⟨S24,k24,a24⟩:=c86 (lget h.doors (Int.toNat n)) tv (okd (r85_ok (n:=n) (t:=0) (by assumption)).1 (List.mem_of_getElem? (by assumption))) S20 (w19_0) (rr19_0.agree g20) (w19_1) (rr19_1.agree g20)
       have l24:=a24.1
       have s24:E0.same S20 S24=true:=symEnv_same a24
       have v1_24:=(a24.2 S.next (by omega)).trans v1_20
       have v2_24:=(a24.2 S1.next (by omega)).trans v2_20
       have ow_25:=ow_21.agree a24
       have g24:Agree S S24:=g20.trans a24
       have w26:=(ow_25.rows).len (P:=Tryz.prog) (t:=40) Tryz.underlying40
       try simp (disch:=first|omega|assumption) only [E0_G,SY,off,agreeKind,vals,ldA,rdCells,aggD,aField,Nat.reduceAdd,Nat.reduceLT,Nat.reduceBEq,TY_EvH14,g15_1,g15_3,g15_5,g15_9,g15_10,bb15_1,store_agree,store_refl E0_same,i19,j19,m19_0,m19_1,k20,v1_20,v2_20,v19_20,k24,w26] at he
       rcases dB ((r86 (lget h.doors (Int.toNat n)) tv)) with ⟨h27a,h27⟩|⟨h27a,h27⟩
       ·try simp (disch:=first|omega|assumption) only [E0_G,SY,off,agreeKind,Nat.reduceAdd,Nat.reduceLT,Nat.reduceBEq,store_refl E0_same,h27a] at he
        rcases dP (0<(out.length:Int)) with ⟨h28a,h28⟩|⟨h28a,h28⟩
        ·have w29:IntKind.i64.wrap ((out.length:Int) - 1)=(out.length:Int) - 1:=by rw [IntWalk.i64_in]; omega
         have qz30:((Int.toNat (max ((out.length:Int) - 1) 0):Nat):Int)=max ((out.length:Int) - 1) 0:=Int.toNat_of_nonneg (by first|omega|simp; omega)
         have hx31:out[(Int.toNat (max ((out.length:Int) - 1) 0))]?=some (lget out (Int.toNat (max ((out.length:Int) - 1) 0))):=lget_some (by first|omega|simp; omega)
         obtain ⟨id31,of31,cc31,ty31,wr31,ex31,i31,j31,l31,q31,lb31,bk31,pt31⟩:=ow_25.at3 (P:=Tryz.prog) (t:=40) Tryz.underlying40 tz36 hx31
         have m31_0:cc31[of31]?=some (.int .i64 ((lget out (Int.toNat (max ((out.length:Int) - 1) 0))).lo)):=q31 0 (show 0<2 by decide)
         have m31_1:cc31[of31+1]?=some (.int .i64 ((lget out (Int.toNat (max ((out.length:Int) - 1) 0))).hi)):=q31 1 (show 1<2 by decide)
         rw [qz30] at i31
         have w32:IntKind.i64.wrap (tv - 1)=tv - 1:=by rw [IntWalk.i64_in]; omega
         try simp (disch:=first|omega|assumption) only [E0_G,SY,off,agreeKind,ldA,aggD,aField,Nat.reduceAdd,Nat.reduceLT,Nat.reduceBEq,TY_EvH14,g15_9,g15_10,store_refl E0_same,h28a,w29,i31,j31,m31_1,w32] at he
         rcases dP (((lget out (Int.toNat (max ((out.length:Int) - 1) 0))).hi)=(tv - 1)) with ⟨h33a,h33⟩|⟨h33a,h33⟩
         ·have w34:IntKind.i64.wrap ((out.length:Int) - 1)=(out.length:Int) - 1:=by rw [IntWalk.i64_in]; omega
          have qz35:((Int.toNat ((out.length:Int) - 1):Nat):Int)=(out.length:Int) - 1:=Int.toNat_of_nonneg (by first|omega|simp; omega)
          have hx36:out[(Int.toNat ((out.length:Int) - 1))]?=some (lget out (Int.toNat ((out.length:Int) - 1))):=lget_some (by first|omega|simp; omega)
          obtain ⟨id36,of36,cc36,ty36,wr36,ex36,i36,j36,l36,q36,lb36,bk36,pt36⟩:=ow_25.at3 (P:=Tryz.prog) (t:=40) Tryz.underlying40 tz36 hx36
          have m36_0:cc36[of36]?=some (.int .i64 ((lget out (Int.toNat ((out.length:Int) - 1))).lo)):=q36 0 (show 0<2 by decide)
          have m36_1:cc36[of36+1]?=some (.int .i64 ((lget out (Int.toNat ((out.length:Int) - 1))).hi)):=q36 1 (show 1<2 by decide)
          rw [qz35] at i36
          obtain ⟨S37,k37,n37,o37,q37⟩:=pt36 3 (.int .i64 (min (r95 (lget h.doors (Int.toNat n)) tv) shi)) 1 (⟨(lget out (Int.toNat ((out.length:Int) - 1))).lo,min (r95 (lget h.doors (Int.toNat n)) tv) shi⟩:Sp) tz3 rfl rfl (by decide) rfl
          have v1_37:=(q37 S.next (fun e=>(show blkOf (v_out)≠some S.next from by first|exact ow_25.ne (by omega)|exact ow_25.new (by omega)|assumption) (e ▸ bk36))).trans v1_24
          have v2_37:=(q37 S1.next (fun e=>(show blkOf (v_out)≠some S1.next from by first|exact ow_25.ne (by omega)|exact ow_25.new (by omega)|assumption) (e ▸ bk36))).trans v2_24
          have g37:Agree S S37:=⟨by have:=(g24).1; omega,fun id hid=>(q37 id (fun e=>(show blkOf (v_out)≠some id from ow_25.ne (by omega)) (e ▸ bk36))).trans ((g24).2 id hid)⟩
          have w38:IntKind.i64.wrap ((min (r95 (lget h.doors (Int.toNat n)) tv) shi)+1)=(min (r95 (lget h.doors (Int.toNat n)) tv) shi)+1:=by rw [IntWalk.i64_in]; omega
          try simp (disch:=first|omega|assumption) only [E0_G,SY,off,agreeKind,aField,Nat.reduceAdd,Nat.reduceLT,Nat.reduceBEq,TY_EvH14,g15_9,store_refl E0_same,w29,h33a,i36,k37,w38] at he
          obtain ⟨m',rfl⟩:∃ m',m=m'+1:=⟨m - 1,by omega⟩
          have hf:=(show _=(R33_0 h n slo shi m' (out.set (Int.toNat ((out.length:Int) - 1)) (⟨(lget out (Int.toNat ((out.length:Int) - 1))).lo,min (r95 (lget h.doors (Int.toNat n)) tv) shi⟩:Sp)) ((min (r95 (lget h.doors (Int.toNat n)) tv) shi)+1):(List Sp)) from (if_pos h16).trans ((if_pos h27).trans ((if_pos h28).trans ((if_pos h33).trans (rfl))))).symm.trans hd15
          exact .next he m' (by omega) ⟨v_out,out.set (Int.toNat ((out.length:Int) - 1)) (⟨(lget out (Int.toNat ((out.length:Int) - 1))).lo,min (r95 (lget h.doors (Int.toNat n)) tv) shi⟩:Sp),(min (r95 (lget h.doors (Int.toNat n)) tv) shi)+1,by first|omega|(simp; omega)|simp,by first|omega|(simp; omega)|simp,by first|omega|(simp; omega)|simp,by first|omega|(simp; omega)|simp,by first|omega|(simp; omega)|simp,(by simp only [SY,eq_self,Nat.reduceBEq,g15_1]<;>rfl),(by simp only [SY,eq_self,Nat.reduceBEq,g15_3]<;>rfl),(by simp only [SY,eq_self,Nat.reduceBEq,g15_5]<;>rfl),(by simp only [SY,eq_self,Nat.reduceBEq,g15_9]<;>rfl),(by simp only [SY,eq_self,Nat.reduceBEq,g15_10]<;>rfl),v1_37,v2_37,g37,by omega,(o37.low (by omega)),hf⟩
         have y39:aBuild Tryz.prog 36 [(0,.int .i64 tv),(1,.int .i64 (min (r95 (lget h.doors (Int.toNat n)) tv) shi))]=some (.agg #[.int .i64 tv,.int .i64 (min (r95 (lget h.doors (Int.toNat n)) tv) shi)]):=by kernel_rfl
         have y40:aBuildSlice Tryz.prog 40 1 [(0,.agg #[.int .i64 tv,.int .i64 (min (r95 (lget h.doors (Int.toNat n)) tv) shi)])] S24=some (.slice (some ⟨S24.next,0,none⟩) 1 1,S24.push (.cells [.int .i64 tv,.int .i64 (min (r95 (lget h.doors (Int.toNat n)) tv) shi)] 36 2 true true)):=by kernel_rfl
         obtain ⟨S41,e41,n41,b41,a41⟩:=push_open S24 (.cells [.int .i64 tv,.int .i64 (min (r95 (lget h.doors (Int.toNat n)) tv) shi)] 36 2 true true)
         have v1_41:=(a41.2 S.next (by omega)).trans v1_24
         have v2_41:=(a41.2 S1.next (by omega)).trans v2_24
         have ow_42:=ow_25.agree a41
         have g41:Agree S S41:=g24.trans a41
         have s41:E0.same S24 S41=true:=symEnv_same a41
         have ne43:blkOf (v_out)≠some S24.next:=ow_25.new (Nat.le_refl _)
         have o44:Own 36 S24.next S41 (.slice (some ⟨S24.next,0,none⟩) 1 1) ([(⟨tv,min (r95 (lget h.doors (Int.toNat n)) tv) shi⟩:Sp)]:List Sp):=.inr ⟨_,true,rfl,Nat.le_refl _,by omega,b41⟩
         obtain ⟨u45,S45,k45,o45,n45,f45,d45⟩:=own_append (P:=Tryz.prog) (t:=40) (tx:=40) (n:=1) (v:=v_out) ow_42 (o44.rows) (by omega) (by first|omega|(simp; omega)|simp) (by first|omega|(simp; omega)|simp) Tryz.underlying40 Tryz.underlying40 ti36 tv36 rfl tz36
         have v1_45:=(f45 S.next (by omega) (by first|(simp [blkOf]; done)|exact ow_42.ne (by omega)|exact ow_42.new (by omega)|assumption)).trans v1_41
         have v2_45:=(f45 S1.next (by omega) (by first|(simp [blkOf]; done)|exact ow_42.ne (by omega)|exact ow_42.new (by omega)|assumption)).trans v2_41
         have g45:Agree S S45:=⟨Nat.le_trans (g41).1 n45,fun id hid=>(f45 id (by have:=(g41).1; omega) (by first|(simp [blkOf]; done)|exact ow_42.ne (by omega)|assumption)).trans ((g41).2 id hid)⟩
         have ne46:blkOf u45≠some S.next:=by first|exact o45.ne (by omega)|exact o45.new (by omega)|exact d45 _ (by omega) (by first|(simp [blkOf]; done)|exact ow_42.ne (by omega)|exact ow_42.new (by omega)|assumption)
         have ne47:blkOf u45≠some S1.next:=by first|exact o45.ne (by omega)|exact o45.new (by omega)|exact d45 _ (by omega) (by first|(simp [blkOf]; done)|exact ow_42.ne (by omega)|exact ow_42.new (by omega)|assumption)
         have w48:IntKind.i64.wrap ((min (r95 (lget h.doors (Int.toNat n)) tv) shi)+1)=(min (r95 (lget h.doors (Int.toNat n)) tv) shi)+1:=by rw [IntWalk.i64_in]; omega
         try simp (disch:=first|omega|assumption) only [E0_G,SY,off,agreeKind,partVals,Nat.reduceAdd,Nat.reduceLT,Nat.reduceBEq,g15_9,g15_10,store_agree,store_refl E0_same,h33a,y39,y40,e41,k45,w48] at he
         obtain ⟨m',rfl⟩:∃ m',m=m'+1:=⟨m - 1,by omega⟩
         have hf:=(show _=(R33_0 h n slo shi m' (out++([(⟨tv,min (r95 (lget h.doors (Int.toNat n)) tv) shi⟩:Sp)])) ((min (r95 (lget h.doors (Int.toNat n)) tv) shi)+1):(List Sp)) from (if_pos h16).trans ((if_pos h27).trans ((if_pos h28).trans ((if_neg h33).trans (rfl))))).symm.trans hd15
         exact .next he m' (by omega) ⟨u45,out++([(⟨tv,min (r95 (lget h.doors (Int.toNat n)) tv) shi⟩:Sp)]),(min (r95 (lget h.doors (Int.toNat n)) tv) shi)+1,by first|omega|(simp; omega)|simp,by first|omega|(simp; omega)|simp,by first|omega|(simp; omega)|simp,by first|omega|(simp; omega)|simp,by first|omega|(simp; omega)|simp,(by simp only [SY,eq_self,Nat.reduceBEq,g15_1]<;>rfl),(by simp only [SY,eq_self,Nat.reduceBEq,g15_3]<;>rfl),(by simp only [SY,eq_self,Nat.reduceBEq,g15_5]<;>rfl),(by simp only [SY,eq_self,Nat.reduceBEq,g15_9]<;>rfl),(by simp only [SY,eq_self,Nat.reduceBEq,g15_10]<;>rfl),v1_45,v2_45,g45,by omega,(o45.low (by omega)),hf⟩
        have y49:aBuild Tryz.prog 36 [(0,.int .i64 tv),(1,.int .i64 (min (r95 (lget h.doors (Int.toNat n)) tv) shi))]=some (.agg #[.int .i64 tv,.int .i64 (min (r95 (lget h.doors (Int.toNat n)) tv) shi)]):=by kernel_rfl
        have y50:aBuildSlice Tryz.prog 40 1 [(0,.agg #[.int .i64 tv,.int .i64 (min (r95 (lget h.doors (Int.toNat n)) tv) shi)])] S24=some (.slice (some ⟨S24.next,0,none⟩) 1 1,S24.push (.cells [.int .i64 tv,.int .i64 (min (r95 (lget h.doors (Int.toNat n)) tv) shi)] 36 2 true true)):=by kernel_rfl
        obtain ⟨S51,e51,n51,b51,a51⟩:=push_open S24 (.cells [.int .i64 tv,.int .i64 (min (r95 (lget h.doors (Int.toNat n)) tv) shi)] 36 2 true true)
        have v1_51:=(a51.2 S.next (by omega)).trans v1_24
        have v2_51:=(a51.2 S1.next (by omega)).trans v2_24
        have ow_52:=ow_25.agree a51
        have g51:Agree S S51:=g24.trans a51
        have s51:E0.same S24 S51=true:=symEnv_same a51
        have ne53:blkOf (v_out)≠some S24.next:=ow_25.new (Nat.le_refl _)
        have o54:Own 36 S24.next S51 (.slice (some ⟨S24.next,0,none⟩) 1 1) ([(⟨tv,min (r95 (lget h.doors (Int.toNat n)) tv) shi⟩:Sp)]:List Sp):=.inr ⟨_,true,rfl,Nat.le_refl _,by omega,b51⟩
        obtain ⟨u55,S55,k55,o55,n55,f55,d55⟩:=own_append (P:=Tryz.prog) (t:=40) (tx:=40) (n:=1) (v:=v_out) ow_52 (o54.rows) (by omega) (by first|omega|(simp; omega)|simp) (by first|omega|(simp; omega)|simp) Tryz.underlying40 Tryz.underlying40 ti36 tv36 rfl tz36
        have v1_55:=(f55 S.next (by omega) (by first|(simp [blkOf]; done)|exact ow_52.ne (by omega)|exact ow_52.new (by omega)|assumption)).trans v1_51
        have v2_55:=(f55 S1.next (by omega) (by first|(simp [blkOf]; done)|exact ow_52.ne (by omega)|exact ow_52.new (by omega)|assumption)).trans v2_51
        have g55:Agree S S55:=⟨Nat.le_trans (g51).1 n55,fun id hid=>(f55 id (by have:=(g51).1; omega) (by first|(simp [blkOf]; done)|exact ow_52.ne (by omega)|assumption)).trans ((g51).2 id hid)⟩
        have ne56:blkOf u55≠some S.next:=by first|exact o55.ne (by omega)|exact o55.new (by omega)|exact d55 _ (by omega) (by first|(simp [blkOf]; done)|exact ow_52.ne (by omega)|exact ow_52.new (by omega)|assumption)
        have ne57:blkOf u55≠some S1.next:=by first|exact o55.ne (by omega)|exact o55.new (by omega)|exact d55 _ (by omega) (by first|(simp [blkOf]; done)|exact ow_52.ne (by omega)|exact ow_52.new (by omega)|assumption)
        have w58:IntKind.i64.wrap ((min (r95 (lget h.doors (Int.toNat n)) tv) shi)+1)=(min (r95 (lget h.doors (Int.toNat n)) tv) shi)+1:=by rw [IntWalk.i64_in]; omega
        try simp (disch:=first|omega|assumption) only [E0_G,SY,off,agreeKind,partVals,Nat.reduceAdd,Nat.reduceLT,Nat.reduceBEq,g15_9,g15_10,store_agree,store_refl E0_same,h28a,y49,y50,e51,k55,w58] at he
        obtain ⟨m',rfl⟩:∃ m',m=m'+1:=⟨m - 1,by omega⟩
        have hf:=(show _=(R33_0 h n slo shi m' (out++([(⟨tv,min (r95 (lget h.doors (Int.toNat n)) tv) shi⟩:Sp)])) ((min (r95 (lget h.doors (Int.toNat n)) tv) shi)+1):(List Sp)) from (if_pos h16).trans ((if_pos h27).trans ((if_neg h28).trans (rfl)))).symm.trans hd15
        exact .next he m' (by omega) ⟨u55,out++([(⟨tv,min (r95 (lget h.doors (Int.toNat n)) tv) shi⟩:Sp)]),(min (r95 (lget h.doors (Int.toNat n)) tv) shi)+1,by first|omega|(simp; omega)|simp,by first|omega|(simp; omega)|simp,by first|omega|(simp; omega)|simp,by first|omega|(simp; omega)|simp,by first|omega|(simp; omega)|simp,(by simp only [SY,eq_self,Nat.reduceBEq,g15_1]<;>rfl),(by simp only [SY,eq_self,Nat.reduceBEq,g15_3]<;>rfl),(by simp only [SY,eq_self,Nat.reduceBEq,g15_5]<;>rfl),(by simp only [SY,eq_self,Nat.reduceBEq,g15_9]<;>rfl),(by simp only [SY,eq_self,Nat.reduceBEq,g15_10]<;>rfl),v1_55,v2_55,g55,by omega,(o55.low (by omega)),hf⟩
       have w59:IntKind.i64.wrap ((min (r95 (lget h.doors (Int.toNat n)) tv) shi)+1)=(min (r95 (lget h.doors (Int.toNat n)) tv) shi)+1:=by rw [IntWalk.i64_in]; omega
       try simp (disch:=first|omega|assumption) only [E0_G,SY,off,agreeKind,Nat.reduceAdd,Nat.reduceLT,Nat.reduceBEq,store_refl E0_same,h27a,w59] at he
       obtain ⟨m',rfl⟩:∃ m',m=m'+1:=⟨m - 1,by omega⟩
       have hf:=(show _=(R33_0 h n slo shi m' out ((min (r95 (lget h.doors (Int.toNat n)) tv) shi)+1):(List Sp)) from (if_pos h16).trans ((if_neg h27).trans (rfl))).symm.trans hd15
       exact .next he m' (by omega) ⟨v_out,out,(min (r95 (lget h.doors (Int.toNat n)) tv) shi)+1,by first|omega|(simp; omega)|simp,by first|omega|(simp; omega)|simp,by first|omega|(simp; omega)|simp,by first|omega|(simp; omega)|simp,by first|omega|(simp; omega)|simp,(by simp only [SY,eq_self,Nat.reduceBEq,g15_1]<;>rfl),(by simp only [SY,eq_self,Nat.reduceBEq,g15_3]<;>rfl),(by simp only [SY,eq_self,Nat.reduceBEq,g15_5]<;>rfl),(by simp only [SY,eq_self,Nat.reduceBEq,g15_9]<;>rfl),(by simp only [SY,eq_self,Nat.reduceBEq,g15_10]<;>rfl),v1_24,v2_24,g24,by omega,(ow_25.low (by omega)),hf⟩
      try simp (disch:=first|omega|assumption) only [SY,h16a] at he
      obtain ⟨m',rfl⟩:∃ m',m=m'+1:=⟨m - 1,by omega⟩
      have hf:=(show _=(out:(List Sp)) from (if_neg h16).trans (rfl)).symm.trans hd15
      exact .exit he ⟨rfl,⟨v_out,out,tv,(by simp only [SY,eq_self,Nat.reduceBEq,g15_9]<;>rfl),bb15_1,bb15_2,ga15,by omega,(ow_out.low (by omega)),by first|omega|assumption|simp,by first|omega|assumption|simp,by first|omega|assumption|simp,hf.symm⟩⟩)
    obtain ⟨rfl,v_out,out,tv,ge15_9,be15_1,be15_2,ge15,gm15,oe_out15,hj15_0,hj15_1,hj15_2,hR15⟩:=hQ15
    obtain rfl:out=R33_0 h n slo shi ((shi+1 - slo).toNat+1) ([]) slo:=hR15.symm
    try simp (disch:=first|omega|assumption) only [E0_G,SY,off,agreeKind,eq_self,if_true,Nat.reduceAdd,Nat.reduceLT,Nat.reduceBEq,ge15_9] at hz
    have hr:r33 h n slo shi=(R33_0 h n slo shi ((shi+1 - slo).toNat+1) ([]) slo,0):=(if_pos h4).trans ((if_neg h6).trans ((if_pos h8).trans ((if_pos h11).trans ((if_neg h14).trans (rfl)))))
    exact ⟨v_out,S15e,by first|(rw [hr]; exact hz.symm)|exact hz.symm,ge15,by rw [hr]; exact oe_out15.low (by omega)⟩
   try simp (disch:=first|omega|assumption) only [E0_G,SY,off,agreeKind,Nat.reduceAdd,Nat.reduceLT,Nat.reduceBEq,h11a] at hz
   have hr:r33 h n slo shi=([],1):=(if_pos h4).trans ((if_neg h6).trans ((if_pos h8).trans ((if_neg h11).trans (rfl))))
   exact ⟨.slice none 0 0,S10,by first|(rw [hr]; exact hz.symm)|exact hz.symm,g10,by rw [hr]; exact Own.nil _ _ _⟩
  try simp (disch:=first|omega|assumption) only [E0_G,SY,off,agreeKind,Nat.reduceAdd,Nat.reduceLT,Nat.reduceBEq,h8a] at hz
  have hr:r33 h n slo shi=([],1):=(if_pos h4).trans ((if_neg h6).trans ((if_neg h8).trans (rfl)))
  exact ⟨.slice none 0 0,S7,by first|(rw [hr]; exact hz.symm)|exact hz.symm,g7,by rw [hr]; exact Own.nil _ _ _⟩
 try simp (disch:=first|omega|assumption) only [E0_G,SY,off,agreeKind,Nat.reduceAdd,Nat.reduceLT,Nat.reduceBEq,h4a] at hz
 have hr:r33 h n slo shi=([],(r85 h n 0)):=(if_neg h4).trans (rfl)
 exact ⟨.slice none 0 0,S3,by first|(rw [hr]; exact hz.symm)|exact hz.symm,g3,by rw [hr]; exact Own.nil _ _ _⟩
end House
end Go.Proofs
