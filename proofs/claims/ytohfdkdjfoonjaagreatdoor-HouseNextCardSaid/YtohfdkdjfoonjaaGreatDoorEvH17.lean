import Derived.Test.YtohfdkdjfoonjaaGreatDoorEvH16
set_option linter.unusedSimpArgs false
set_option linter.unusedVariables false
namespace Go.Proofs
namespace House
open Go Go.RowKit Go.Aev
set_option maxRecDepth 100000
theorem TY_EvH17:type_of% TY_EvH16:=TY_EvH16
def r28 (h:Hs) (door:Int) (ti:Int):Int × Int:=(if (r87 h door)=true then (if (r84 h (r88 ti))=0 then ((r89 (lget h.doors (Int.toNat door)) ti),0) else (0,(r84 h (r88 ti)))) else (0,(r84 h false)))
set_option maxHeartbeats 2000000 in
theorem c28 (h:Hs) (door:Int) (ti:Int) (hF:Few h) (hs:∀ x ∈ h.rooms,x.name.size≤9223372036854775807) (S:AS) (v_h_rooms:Value) (hv_h_rooms:LstR S v_h_rooms h.rooms) (v_h_doors:Value) (hv_h_doors:LstR S v_h_doors h.doors) (v_h_ways:Value) (hv_h_ways:Lst S v_h_ways h.ways) :
  ∃ S',(evL Tryz.prog E0).call 28 #[.agg #[v_h_rooms,v_h_doors,v_h_ways],.int .i64 door,.int .i64 ti] S=some (.tuple #[.int .i64 (r28 h door ti).1,.int .i64 (r28 h door ti).2],S')∧Agree S S':=by
 have qr:=hF.r; have qd:=hF.d; have qw:=hF.w
 generalize hz:(evL Tryz.prog E0).call 28 _ _=z
 rw [L_call,evCall_said rfl Tryz.func28 rfl (by decide) Tryz.ntmps28 Tryz.results28] at hz
 obtain ⟨S1,e1,n1,b1,a1⟩:=push_open S (.cells [v_h_rooms,v_h_doors,v_h_ways] 26 0 true true)
 have g1:Agree S S1:=a1
 have s1:E0.same S S1=true:=symEnv_same a1
 try simp (disch:=first|omega|assumption) only [E0_G,SY,setArgs,off,agreeKind,boxed,Nat.reduceAdd,Nat.reduceSub,Nat.reduceLT,Nat.reduceBEq,e1] at hz
 rw [code_draws _ _ _ (by kernel_rfl)] at hz
 generalize hnd2:needy _=nd2 at hz
 obtain ⟨S3,k3,a3⟩:=c87 h door  S1 (v_h_rooms) (hv_h_rooms.agree g1) (v_h_doors) (hv_h_doors.agree g1) (v_h_ways) (hv_h_ways.agree g1)
 have l3:=a3.1
 have s3:E0.same S1 S3=true:=symEnv_same a3
 have v1_3:=(a3.2 S.next (by omega)).trans b1
 have g3:Agree S S3:=g1.trans a3
 try simp (disch:=first|omega|assumption) only [E0_G,SY,agreeKind,vals,ldA,rdCells,aggD,Nat.reduceAdd,Nat.reduceLT,Nat.reduceBEq,TY_EvH17,b1,store_agree,store_refl E0_same,k3] at hz
 rcases dB ((r87 h door)) with ⟨h4a,h4⟩|⟨h4a,h4⟩
 ·have lq5:=r87_iff.1 h4
  have lq6:=r87_iff.1 h4
  obtain ⟨S7,k7,a7⟩:=c88 ti  S3
  have l7:=a7.1
  have s7:E0.same S3 S7=true:=symEnv_same a7
  have v1_7:=(a7.2 S.next (by omega)).trans v1_3
  have g7:Agree S S7:=g3.trans a7
  obtain ⟨S8,k8,a8⟩:=c84 h (r88 ti) hF hs S7 (v_h_rooms) (hv_h_rooms.agree g7) (v_h_doors) (hv_h_doors.agree g7) (v_h_ways) (hv_h_ways.agree g7)
  have l8:=a8.1
  have s8:E0.same S7 S8=true:=symEnv_same a8
  have v1_8:=(a8.2 S.next (by omega)).trans v1_7
  have g8:Agree S S8:=g7.trans a8
  try simp (disch:=first|omega|assumption) only [E0_G,SY,off,agreeKind,vals,Nat.reduceAdd,Nat.reduceLT,Nat.reduceBEq,store_agree,store_refl E0_same,h4a,k7,k8] at hz
  rcases dP ((r84 h (r88 ti))=0) with ⟨h9a,h9⟩|⟨h9a,h9⟩
  ·have hV:=(r84_ok h9).1
   have lq10:=r88_iff.1 (r84_ok h9).2
   have qz11:((Int.toNat door:Nat):Int)=door:=Int.toNat_of_nonneg (by first|omega|simp; omega)
   have hx12:h.doors[(Int.toNat door)]?=some (lget h.doors (Int.toNat door)):=lget_some (by first|omega|simp; omega)
   obtain ⟨id12,of12,cc12,ty12,wr12,ex12,cs12,i12,j12,l12,rp12,q12⟩:=LstR.at (hv_h_doors) (P:=Tryz.prog) (t:=23) Tryz.underlying23 tz98 hx12
   obtain ⟨w12_0,w12_1,rp12,rr12_0,rr12_1⟩:=rp12
   have rq12:cs12=[w12_0,w12_1]:=rp12
   subst rq12
   have j12:=(g8.2 id12 l12).trans j12
   have m12_0:cc12[of12]?=some (w12_0):=q12 0 (show 0<2 by decide)
   have m12_1:cc12[of12+1]?=some (w12_1):=q12 1 (show 1<2 by decide)
   rw [qz11] at i12
   obtain ⟨S13,k13,a13⟩:=c89 (lget h.doors (Int.toNat door)) ti (okd (r84_ok (by assumption)).1 (List.mem_of_getElem? (by assumption))) (by omega) S8 (w12_0) (rr12_0.agree g8) (w12_1) (rr12_1.agree g8)
   have l13:=a13.1
   have s13:E0.same S8 S13=true:=symEnv_same a13
   have g13:Agree S S13:=g8.trans a13
   try simp (disch:=first|omega|assumption) only [E0_G,SY,off,agreeKind,vals,ldA,rdCells,aggD,aField,Nat.reduceAdd,Nat.reduceLT,Nat.reduceBEq,TY_EvH17,store_agree,store_refl E0_same,v1_8,h9a,i12,j12,m12_0,m12_1,k13] at hz
   have hr:r28 h door ti=((r89 (lget h.doors (Int.toNat door)) ti),0):=(if_pos h4).trans ((if_pos h9).trans (rfl))
   exact fin hz (by rw [hr]) g13
  try simp (disch:=first|omega|assumption) only [E0_G,SY,off,agreeKind,Nat.reduceAdd,Nat.reduceLT,Nat.reduceBEq,store_refl E0_same,h9a] at hz
  have hr:r28 h door ti=(0,(r84 h (r88 ti))):=(if_pos h4).trans ((if_neg h9).trans (rfl))
  exact fin hz (by rw [hr]) g8
 obtain ⟨S14,k14,a14⟩:=c84 h false hF hs S3 (v_h_rooms) (hv_h_rooms.agree g3) (v_h_doors) (hv_h_doors.agree g3) (v_h_ways) (hv_h_ways.agree g3)
 have l14:=a14.1
 have s14:E0.same S3 S14=true:=symEnv_same a14
 have g14:Agree S S14:=g3.trans a14
 try simp (disch:=first|omega|assumption) only [E0_G,SY,off,agreeKind,vals,Nat.reduceAdd,Nat.reduceLT,Nat.reduceBEq,store_agree,store_refl E0_same,h4a,k14] at hz
 have h15:¬ ((r84 h false)=0):=r84_false
 have h15a:=decide_eq_false h15
 try simp (disch:=first|omega|assumption) only [E0_G,SY,off,agreeKind,Nat.reduceAdd,Nat.reduceLT,Nat.reduceBEq,store_refl E0_same,h15a] at hz
 have hr:r28 h door ti=(0,(r84 h false)):=(if_neg h4).trans (rfl)
 exact fin hz (by rw [hr]) g14
def r30 (h:Hs) (door:Int) (ti:Int):Int × Int:=(if (r87 h door)=true then (if (r84 h (r88 ti))=0 then ((r91 (lget h.doors (Int.toNat door)) ti),0) else (0,(r84 h (r88 ti)))) else (0,(r84 h false)))
set_option maxHeartbeats 2000000 in
theorem c30 (h:Hs) (door:Int) (ti:Int) (hF:Few h) (hs:∀ x ∈ h.rooms,x.name.size≤9223372036854775807) (S:AS) (v_h_rooms:Value) (hv_h_rooms:LstR S v_h_rooms h.rooms) (v_h_doors:Value) (hv_h_doors:LstR S v_h_doors h.doors) (v_h_ways:Value) (hv_h_ways:Lst S v_h_ways h.ways) :
  ∃ S',(evL Tryz.prog E0).call 30 #[.agg #[v_h_rooms,v_h_doors,v_h_ways],.int .i64 door,.int .i64 ti] S=some (.tuple #[.int .i64 (r30 h door ti).1,.int .i64 (r30 h door ti).2],S')∧Agree S S':=by
 have qr:=hF.r; have qd:=hF.d; have qw:=hF.w
 generalize hz:(evL Tryz.prog E0).call 30 _ _=z
 rw [L_call,evCall_said rfl Tryz.func30 rfl (by decide) Tryz.ntmps30 Tryz.results30] at hz
 obtain ⟨S1,e1,n1,b1,a1⟩:=push_open S (.cells [v_h_rooms,v_h_doors,v_h_ways] 26 0 true true)
 have g1:Agree S S1:=a1
 have s1:E0.same S S1=true:=symEnv_same a1
 try simp (disch:=first|omega|assumption) only [E0_G,SY,setArgs,off,agreeKind,boxed,Nat.reduceAdd,Nat.reduceSub,Nat.reduceLT,Nat.reduceBEq,e1] at hz
 rw [code_draws _ _ _ (by kernel_rfl)] at hz
 generalize hnd2:needy _=nd2 at hz
 obtain ⟨S3,k3,a3⟩:=c87 h door  S1 (v_h_rooms) (hv_h_rooms.agree g1) (v_h_doors) (hv_h_doors.agree g1) (v_h_ways) (hv_h_ways.agree g1)
 have l3:=a3.1
 have s3:E0.same S1 S3=true:=symEnv_same a3
 have v1_3:=(a3.2 S.next (by omega)).trans b1
 have g3:Agree S S3:=g1.trans a3
 try simp (disch:=first|omega|assumption) only [E0_G,SY,agreeKind,vals,ldA,rdCells,aggD,Nat.reduceAdd,Nat.reduceLT,Nat.reduceBEq,TY_EvH17,b1,store_agree,store_refl E0_same,k3] at hz
 rcases dB ((r87 h door)) with ⟨h4a,h4⟩|⟨h4a,h4⟩
 ·have lq5:=r87_iff.1 h4
  have lq6:=r87_iff.1 h4
  obtain ⟨S7,k7,a7⟩:=c88 ti  S3
  have l7:=a7.1
  have s7:E0.same S3 S7=true:=symEnv_same a7
  have v1_7:=(a7.2 S.next (by omega)).trans v1_3
  have g7:Agree S S7:=g3.trans a7
  obtain ⟨S8,k8,a8⟩:=c84 h (r88 ti) hF hs S7 (v_h_rooms) (hv_h_rooms.agree g7) (v_h_doors) (hv_h_doors.agree g7) (v_h_ways) (hv_h_ways.agree g7)
  have l8:=a8.1
  have s8:E0.same S7 S8=true:=symEnv_same a8
  have v1_8:=(a8.2 S.next (by omega)).trans v1_7
  have g8:Agree S S8:=g7.trans a8
  try simp (disch:=first|omega|assumption) only [E0_G,SY,off,agreeKind,vals,Nat.reduceAdd,Nat.reduceLT,Nat.reduceBEq,store_agree,store_refl E0_same,h4a,k7,k8] at hz
  rcases dP ((r84 h (r88 ti))=0) with ⟨h9a,h9⟩|⟨h9a,h9⟩
  ·have hV:=(r84_ok h9).1
   have lq10:=r88_iff.1 (r84_ok h9).2
   have qz11:((Int.toNat door:Nat):Int)=door:=Int.toNat_of_nonneg (by first|omega|simp; omega)
   have hx12:h.doors[(Int.toNat door)]?=some (lget h.doors (Int.toNat door)):=lget_some (by first|omega|simp; omega)
   obtain ⟨id12,of12,cc12,ty12,wr12,ex12,cs12,i12,j12,l12,rp12,q12⟩:=LstR.at (hv_h_doors) (P:=Tryz.prog) (t:=23) Tryz.underlying23 tz98 hx12
   obtain ⟨w12_0,w12_1,rp12,rr12_0,rr12_1⟩:=rp12
   have rq12:cs12=[w12_0,w12_1]:=rp12
   subst rq12
   have j12:=(g8.2 id12 l12).trans j12
   have m12_0:cc12[of12]?=some (w12_0):=q12 0 (show 0<2 by decide)
   have m12_1:cc12[of12+1]?=some (w12_1):=q12 1 (show 1<2 by decide)
   rw [qz11] at i12
   obtain ⟨S13,k13,a13⟩:=c91 (lget h.doors (Int.toNat door)) ti (okd (r84_ok (by assumption)).1 (List.mem_of_getElem? (by assumption))) (by omega) S8 (w12_0) (rr12_0.agree g8) (w12_1) (rr12_1.agree g8)
   have l13:=a13.1
   have s13:E0.same S8 S13=true:=symEnv_same a13
   have g13:Agree S S13:=g8.trans a13
   try simp (disch:=first|omega|assumption) only [E0_G,SY,off,agreeKind,vals,ldA,rdCells,aggD,aField,Nat.reduceAdd,Nat.reduceLT,Nat.reduceBEq,TY_EvH17,store_agree,store_refl E0_same,v1_8,h9a,i12,j12,m12_0,m12_1,k13] at hz
   have hr:r30 h door ti=((r91 (lget h.doors (Int.toNat door)) ti),0):=(if_pos h4).trans ((if_pos h9).trans (rfl))
   exact fin hz (by rw [hr]) g13
  try simp (disch:=first|omega|assumption) only [E0_G,SY,off,agreeKind,Nat.reduceAdd,Nat.reduceLT,Nat.reduceBEq,store_refl E0_same,h9a] at hz
  have hr:r30 h door ti=(0,(r84 h (r88 ti))):=(if_pos h4).trans ((if_neg h9).trans (rfl))
  exact fin hz (by rw [hr]) g8
 obtain ⟨S14,k14,a14⟩:=c84 h false hF hs S3 (v_h_rooms) (hv_h_rooms.agree g3) (v_h_doors) (hv_h_doors.agree g3) (v_h_ways) (hv_h_ways.agree g3)
 have l14:=a14.1
 have s14:E0.same S3 S14=true:=symEnv_same a14
 have g14:Agree S S14:=g3.trans a14
 try simp (disch:=first|omega|assumption) only [E0_G,SY,off,agreeKind,vals,Nat.reduceAdd,Nat.reduceLT,Nat.reduceBEq,store_agree,store_refl E0_same,h4a,k14] at hz
 have h15:¬ ((r84 h false)=0):=r84_false
 have h15a:=decide_eq_false h15
 try simp (disch:=first|omega|assumption) only [E0_G,SY,off,agreeKind,Nat.reduceAdd,Nat.reduceLT,Nat.reduceBEq,store_refl E0_same,h15a] at hz
 have hr:r30 h door ti=(0,(r84 h false)):=(if_neg h4).trans (rfl)
 exact fin hz (by rw [hr]) g14
def r26 (h:Hs) (door:Int) (ti:Int):Bool × Int:=(if ((r28 h door ti).2)=0 then (decide (((r28 h door ti).1)=ti),(r28 h door ti).2) else (false,(r28 h door ti).2))
set_option maxHeartbeats 2000000 in
theorem c26 (h:Hs) (door:Int) (ti:Int) (hF:Few h) (hs:∀ x ∈ h.rooms,x.name.size≤9223372036854775807) (S:AS) (v_h_rooms:Value) (hv_h_rooms:LstR S v_h_rooms h.rooms) (v_h_doors:Value) (hv_h_doors:LstR S v_h_doors h.doors) (v_h_ways:Value) (hv_h_ways:Lst S v_h_ways h.ways) :
  ∃ S',(evL Tryz.prog E0).call 26 #[.agg #[v_h_rooms,v_h_doors,v_h_ways],.int .i64 door,.int .i64 ti] S=some (.tuple #[.bool (r26 h door ti).1,.int .i64 (r26 h door ti).2],S')∧Agree S S':=by
 have qr:=hF.r; have qd:=hF.d; have qw:=hF.w
 generalize hz:(evL Tryz.prog E0).call 26 _ _=z
 rw [L_call,evCall_said rfl Tryz.func26 rfl (by decide) Tryz.ntmps26 Tryz.results26] at hz
 obtain ⟨S1,e1,n1,b1,a1⟩:=push_open S (.cells [v_h_rooms,v_h_doors,v_h_ways] 26 0 true true)
 have g1:Agree S S1:=a1
 obtain ⟨S2,k2,a2⟩:=c28 h door ti hF hs S1 (v_h_rooms) (hv_h_rooms.agree g1) (v_h_doors) (hv_h_doors.agree g1) (v_h_ways) (hv_h_ways.agree g1)
 have l2:=a2.1
 have g2:Agree S S2:=g1.trans a2
 try simp (disch:=first|omega|assumption) only [E0_G,SY,setArgs,off,agreeKind,vals,boxed,ldA,rdCells,aggD,aExtract,Nat.reduceAdd,Nat.reduceSub,Nat.reduceLT,Nat.reduceBEq,TY_EvH17,e1,b1,k2] at hz
 rcases dP (((r28 h door ti).2)=0) with ⟨h3a,h3⟩|⟨h3a,h3⟩
 ·try simp (disch:=first|omega|assumption) only [E0_G,SY,off,agreeKind,Nat.reduceAdd,Nat.reduceLT,Nat.reduceBEq,h3a] at hz
  have hr:r26 h door ti=(decide (((r28 h door ti).1)=ti),(r28 h door ti).2):=(if_pos h3).trans (rfl)
  exact fin hz (by rw [hr]) g2
 try simp (disch:=first|omega|assumption) only [E0_G,SY,off,agreeKind,Nat.reduceAdd,Nat.reduceLT,Nat.reduceBEq,h3a] at hz
 have hr:r26 h door ti=(false,(r28 h door ti).2):=(if_neg h3).trans (rfl)
 exact fin hz (by rw [hr]) g2
def r29 (h:Hs) (door:Int) (ti:Int):Int × Int:=(if (r85 h door ti)=0 then ((r90 (lget h.doors (Int.toNat door)) ti),0) else (0,(r85 h door ti)))
set_option maxHeartbeats 2000000 in
theorem c29 (h:Hs) (door:Int) (ti:Int) (hF:Few h) (S:AS) (v_h_rooms:Value) (hv_h_rooms:LstR S v_h_rooms h.rooms) (v_h_doors:Value) (hv_h_doors:LstR S v_h_doors h.doors) (v_h_ways:Value) (hv_h_ways:Lst S v_h_ways h.ways) :
  ∃ S',(evL Tryz.prog E0).call 29 #[.agg #[v_h_rooms,v_h_doors,v_h_ways],.int .i64 door,.int .i64 ti] S=some (.tuple #[.int .i64 (r29 h door ti).1,.int .i64 (r29 h door ti).2],S')∧Agree S S':=by
 have qr:=hF.r; have qd:=hF.d; have qw:=hF.w
 generalize hz:(evL Tryz.prog E0).call 29 _ _=z
 rw [L_call,evCall_said rfl Tryz.func29 rfl (by decide) Tryz.ntmps29 Tryz.results29] at hz
 obtain ⟨S1,e1,n1,b1,a1⟩:=push_open S (.cells [v_h_rooms,v_h_doors,v_h_ways] 26 0 true true)
 have g1:Agree S S1:=a1
 obtain ⟨S2,k2,a2⟩:=c85 h door ti hF S1 (v_h_rooms) (hv_h_rooms.agree g1) (v_h_doors) (hv_h_doors.agree g1) (v_h_ways) (hv_h_ways.agree g1)
 have l2:=a2.1
 have v1_2:=(a2.2 S.next (by omega)).trans b1
 have g2:Agree S S2:=g1.trans a2
 try simp (disch:=first|omega|assumption) only [E0_G,SY,setArgs,off,agreeKind,vals,boxed,ldA,rdCells,aggD,Nat.reduceAdd,Nat.reduceSub,Nat.reduceLT,Nat.reduceBEq,TY_EvH17,e1,b1,k2] at hz
 rcases dP ((r85 h door ti)=0) with ⟨h3a,h3⟩|⟨h3a,h3⟩
 ·have lq4:=r85_ok h3
  have qz5:((Int.toNat door:Nat):Int)=door:=Int.toNat_of_nonneg (by first|omega|simp; omega)
  have hx6:h.doors[(Int.toNat door)]?=some (lget h.doors (Int.toNat door)):=lget_some (by first|omega|simp; omega)
  obtain ⟨id6,of6,cc6,ty6,wr6,ex6,cs6,i6,j6,l6,rp6,q6⟩:=LstR.at (hv_h_doors) (P:=Tryz.prog) (t:=23) Tryz.underlying23 tz98 hx6
  obtain ⟨w6_0,w6_1,rp6,rr6_0,rr6_1⟩:=rp6
  have rq6:cs6=[w6_0,w6_1]:=rp6
  subst rq6
  have j6:=(g2.2 id6 l6).trans j6
  have m6_0:cc6[of6]?=some (w6_0):=q6 0 (show 0<2 by decide)
  have m6_1:cc6[of6+1]?=some (w6_1):=q6 1 (show 1<2 by decide)
  rw [qz5] at i6
  obtain ⟨S7,k7,a7⟩:=c90 (lget h.doors (Int.toNat door)) ti (okd (r85_ok (by assumption)).1 (List.mem_of_getElem? (by assumption))) (by omega) S2 (w6_0) (rr6_0.agree g2) (w6_1) (rr6_1.agree g2)
  have l7:=a7.1
  have g7:Agree S S7:=g2.trans a7
  try simp (disch:=first|omega|assumption) only [E0_G,SY,off,agreeKind,vals,ldA,rdCells,aggD,aField,Nat.reduceAdd,Nat.reduceLT,Nat.reduceBEq,TY_EvH17,v1_2,h3a,i6,j6,m6_0,m6_1,k7] at hz
  have hr:r29 h door ti=((r90 (lget h.doors (Int.toNat door)) ti),0):=(if_pos h3).trans (rfl)
  exact fin hz (by rw [hr]) g7
 try simp (disch:=first|omega|assumption) only [E0_G,SY,off,agreeKind,Nat.reduceAdd,Nat.reduceLT,Nat.reduceBEq,h3a] at hz
 have hr:r29 h door ti=(0,(r85 h door ti)):=(if_neg h3).trans (rfl)
 exact fin hz (by rw [hr]) g2
def r31 (h:Hs) (door:Int) (ti:Int):Int × Int:=(if (r85 h door ti)=0 then ((r92 (lget h.doors (Int.toNat door)) ti),0) else (0,(r85 h door ti)))
set_option maxHeartbeats 2000000 in
theorem c31 (h:Hs) (door:Int) (ti:Int) (hF:Few h) (S:AS) (v_h_rooms:Value) (hv_h_rooms:LstR S v_h_rooms h.rooms) (v_h_doors:Value) (hv_h_doors:LstR S v_h_doors h.doors) (v_h_ways:Value) (hv_h_ways:Lst S v_h_ways h.ways) :
  ∃ S',(evL Tryz.prog E0).call 31 #[.agg #[v_h_rooms,v_h_doors,v_h_ways],.int .i64 door,.int .i64 ti] S=some (.tuple #[.int .i64 (r31 h door ti).1,.int .i64 (r31 h door ti).2],S')∧Agree S S':=by
 have qr:=hF.r; have qd:=hF.d; have qw:=hF.w
 generalize hz:(evL Tryz.prog E0).call 31 _ _=z
 rw [L_call,evCall_said rfl Tryz.func31 rfl (by decide) Tryz.ntmps31 Tryz.results31] at hz
 obtain ⟨S1,e1,n1,b1,a1⟩:=push_open S (.cells [v_h_rooms,v_h_doors,v_h_ways] 26 0 true true)
 have g1:Agree S S1:=a1
 obtain ⟨S2,k2,a2⟩:=c85 h door ti hF S1 (v_h_rooms) (hv_h_rooms.agree g1) (v_h_doors) (hv_h_doors.agree g1) (v_h_ways) (hv_h_ways.agree g1)
 have l2:=a2.1
 have v1_2:=(a2.2 S.next (by omega)).trans b1
 have g2:Agree S S2:=g1.trans a2
 try simp (disch:=first|omega|assumption) only [E0_G,SY,setArgs,off,agreeKind,vals,boxed,ldA,rdCells,aggD,Nat.reduceAdd,Nat.reduceSub,Nat.reduceLT,Nat.reduceBEq,TY_EvH17,e1,b1,k2] at hz
 rcases dP ((r85 h door ti)=0) with ⟨h3a,h3⟩|⟨h3a,h3⟩
 ·have lq4:=r85_ok h3
  have qz5:((Int.toNat door:Nat):Int)=door:=Int.toNat_of_nonneg (by first|omega|simp; omega)
  have hx6:h.doors[(Int.toNat door)]?=some (lget h.doors (Int.toNat door)):=lget_some (by first|omega|simp; omega)
  obtain ⟨id6,of6,cc6,ty6,wr6,ex6,cs6,i6,j6,l6,rp6,q6⟩:=LstR.at (hv_h_doors) (P:=Tryz.prog) (t:=23) Tryz.underlying23 tz98 hx6
  obtain ⟨w6_0,w6_1,rp6,rr6_0,rr6_1⟩:=rp6
  have rq6:cs6=[w6_0,w6_1]:=rp6
  subst rq6
  have j6:=(g2.2 id6 l6).trans j6
  have m6_0:cc6[of6]?=some (w6_0):=q6 0 (show 0<2 by decide)
  have m6_1:cc6[of6+1]?=some (w6_1):=q6 1 (show 1<2 by decide)
  rw [qz5] at i6
  obtain ⟨S7,k7,a7⟩:=c92 (lget h.doors (Int.toNat door)) ti (okd (r85_ok (by assumption)).1 (List.mem_of_getElem? (by assumption))) (by omega) S2 (w6_0) (rr6_0.agree g2) (w6_1) (rr6_1.agree g2)
  have l7:=a7.1
  have g7:Agree S S7:=g2.trans a7
  try simp (disch:=first|omega|assumption) only [E0_G,SY,off,agreeKind,vals,ldA,rdCells,aggD,aField,Nat.reduceAdd,Nat.reduceLT,Nat.reduceBEq,TY_EvH17,v1_2,h3a,i6,j6,m6_0,m6_1,k7] at hz
  have hr:r31 h door ti=((r92 (lget h.doors (Int.toNat door)) ti),0):=(if_pos h3).trans (rfl)
  exact fin hz (by rw [hr]) g7
 try simp (disch:=first|omega|assumption) only [E0_G,SY,off,agreeKind,Nat.reduceAdd,Nat.reduceLT,Nat.reduceBEq,h3a] at hz
 have hr:r31 h door ti=(0,(r85 h door ti)):=(if_neg h3).trans (rfl)
 exact fin hz (by rw [hr]) g2
def r27 (h:Hs) (door:Int) (ti:Int):Bool × Int:=(if (r85 h door ti)=0 then ((r86 (lget h.doors (Int.toNat door)) ti),0) else (false,(r85 h door ti)))
set_option maxHeartbeats 2000000 in
theorem c27 (h:Hs) (door:Int) (ti:Int) (hF:Few h) (S:AS) (v_h_rooms:Value) (hv_h_rooms:LstR S v_h_rooms h.rooms) (v_h_doors:Value) (hv_h_doors:LstR S v_h_doors h.doors) (v_h_ways:Value) (hv_h_ways:Lst S v_h_ways h.ways) :
  ∃ S',(evL Tryz.prog E0).call 27 #[.agg #[v_h_rooms,v_h_doors,v_h_ways],.int .i64 door,.int .i64 ti] S=some (.tuple #[.bool (r27 h door ti).1,.int .i64 (r27 h door ti).2],S')∧Agree S S':=by
 have qr:=hF.r; have qd:=hF.d; have qw:=hF.w
 generalize hz:(evL Tryz.prog E0).call 27 _ _=z
 rw [L_call,evCall_said rfl Tryz.func27 rfl (by decide) Tryz.ntmps27 Tryz.results27] at hz
 obtain ⟨S1,e1,n1,b1,a1⟩:=push_open S (.cells [v_h_rooms,v_h_doors,v_h_ways] 26 0 true true)
 have g1:Agree S S1:=a1
 obtain ⟨S2,k2,a2⟩:=c85 h door ti hF S1 (v_h_rooms) (hv_h_rooms.agree g1) (v_h_doors) (hv_h_doors.agree g1) (v_h_ways) (hv_h_ways.agree g1)
 have l2:=a2.1
 have v1_2:=(a2.2 S.next (by omega)).trans b1
 have g2:Agree S S2:=g1.trans a2
 try simp (disch:=first|omega|assumption) only [E0_G,SY,setArgs,off,agreeKind,vals,boxed,ldA,rdCells,aggD,Nat.reduceAdd,Nat.reduceSub,Nat.reduceLT,Nat.reduceBEq,TY_EvH17,e1,b1,k2] at hz
 rcases dP ((r85 h door ti)=0) with ⟨h3a,h3⟩|⟨h3a,h3⟩
 ·have lq4:=r85_ok h3
  have qz5:((Int.toNat door:Nat):Int)=door:=Int.toNat_of_nonneg (by first|omega|simp; omega)
  have hx6:h.doors[(Int.toNat door)]?=some (lget h.doors (Int.toNat door)):=lget_some (by first|omega|simp; omega)
  obtain ⟨id6,of6,cc6,ty6,wr6,ex6,cs6,i6,j6,l6,rp6,q6⟩:=LstR.at (hv_h_doors) (P:=Tryz.prog) (t:=23) Tryz.underlying23 tz98 hx6
  obtain ⟨w6_0,w6_1,rp6,rr6_0,rr6_1⟩:=rp6
  have rq6:cs6=[w6_0,w6_1]:=rp6
  subst rq6
  have j6:=(g2.2 id6 l6).trans j6
  have m6_0:cc6[of6]?=some (w6_0):=q6 0 (show 0<2 by decide)
  have m6_1:cc6[of6+1]?=some (w6_1):=q6 1 (show 1<2 by decide)
  rw [qz5] at i6
  obtain ⟨S7,k7,a7⟩:=c86 (lget h.doors (Int.toNat door)) ti (okd (r85_ok (by assumption)).1 (List.mem_of_getElem? (by assumption))) S2 (w6_0) (rr6_0.agree g2) (w6_1) (rr6_1.agree g2)
  have l7:=a7.1
  have g7:Agree S S7:=g2.trans a7
  try simp (disch:=first|omega|assumption) only [E0_G,SY,off,agreeKind,vals,ldA,rdCells,aggD,aField,Nat.reduceAdd,Nat.reduceLT,Nat.reduceBEq,TY_EvH17,v1_2,h3a,i6,j6,m6_0,m6_1,k7] at hz
  have hr:r27 h door ti=((r86 (lget h.doors (Int.toNat door)) ti),0):=(if_pos h3).trans (rfl)
  exact fin hz (by rw [hr]) g7
 try simp (disch:=first|omega|assumption) only [E0_G,SY,off,agreeKind,Nat.reduceAdd,Nat.reduceLT,Nat.reduceBEq,h3a] at hz
 have hr:r27 h door ti=(false,(r85 h door ti)):=(if_neg h3).trans (rfl)
 exact fin hz (by rw [hr]) g2
def R34_0 (l:List Sp) (q:List Sp)  : List Sp→Nat→Sum (Bool) (Unit)
 | [],k=>.inr ()
 | x4 :: l',k=>(if x4.lo=(lget q k).lo∧x4.hi=(lget q k).hi then R34_0 l q l' (k+1) else .inl false)
def r34 (l:List Sp) (q:List Sp):Bool:=(if (l.length:Int)=(q.length:Int) then (onSum (R34_0 l q l 0) (fun (r4:Bool)=>r4) (fun (_:Unit)=>true)) else false)
set_option maxHeartbeats 2000000 in
theorem c34 (l:List Sp) (q:List Sp) (hl:l.length≤1000000) (S:AS) (v_l:Value) (hv_l:Lst S v_l l) (v_q:Value) (hv_q:Lst S v_q q) :
  ∃ S',(evL Tryz.prog E0).call 34 #[v_l,v_q] S=some (.bool (r34 l q),S')∧Agree S S':=by
 generalize hz:(evL Tryz.prog E0).call 34 _ _=z
 rw [L_call,evCall_said rfl Tryz.func34 rfl (by decide) Tryz.ntmps34 Tryz.results34] at hz
 have w1:=(hv_l).len (P:=Tryz.prog) (t:=40) Tryz.underlying40
 have w2:=(hv_q).len (P:=Tryz.prog) (t:=40) Tryz.underlying40
 try simp (disch:=first|omega|assumption) only [E0_G,SY,setArgs,off,agreeKind,Nat.reduceAdd,Nat.reduceSub,Nat.reduceLT,Nat.reduceBEq,w1,w2] at hz
 rcases dP ((l.length:Int)=(q.length:Int)) with ⟨h3a,h3⟩|⟨h3a,h3⟩
 ·try simp (disch:=first|omega|assumption) only [E0_G,SY,off,agreeKind,Nat.reduceLT,h3a] at hz
  generalize hL4:Rec.loop _ _ _ _=L4 at hz
  obtain ⟨x4,t4,S4e,rfl,hQ4⟩:=loop_met hL4 (fun m t S'=>∃ (k:Nat),m+k=l.length∧k≤l.length∧t.get 0=some (v_l)∧t.get 1=some (v_q)∧t.get 5=some (.int .i64 (k:Int))∧Agree S S'∧S.next≤S'.next∧R34_0 l q (l.drop k) k=R34_0 l q l 0)
   (fun x t S'=>(x=.exit 0∧∃ (k:Nat),Agree S S'∧S.next≤S'.next∧k≤l.length∧R34_0 l q l 0=.inr ())∨(x=.ret∧∃ (r4:Bool),t.get 4=some (.bool r4)∧Agree S S'∧R34_0 l q l 0=.inl (r4))) (l.length - 0) ⟨0,by first|rfl|omega|(simp; omega)|simp,by first|rfl|omega|(simp; omega)|simp,by simp only [SY,eq_self,Nat.reduceBEq]<;>rfl,by simp only [SY,eq_self,Nat.reduceBEq]<;>rfl,by simp only [SY,Nat.reduceBEq]<;>rfl,(Agree.refl S),Nat.le_refl _,rfl⟩ (by
    rintro m t S4 ⟨k,hi4_0,hi4_1,g4_0,g4_1,g4_5,ga4,gn4,hd4⟩
    refine .run fun z he=>?_
    have w5:=(hv_l.agree ga4).len (P:=Tryz.prog) (t:=40) Tryz.underlying40
    try simp (disch:=first|omega|assumption) only [E0_G,SY,off,agreeKind,Nat.reduceAdd,Nat.reduceLT,Nat.reduceBEq,g4_0,g4_5,w1] at he
    rcases dP ((k:Int)<(l.length:Int)) with ⟨h6a,h6⟩|⟨h6a,h6⟩
    ·try simp (disch:=first|omega|assumption) only [SY,h6a] at he
     rw [code_draws _ _ _ (by kernel_rfl)] at he
     generalize hnd7:needy _=nd7 at he
     have hx4:l[k]?=some (l[k]'(by first|omega|simp; omega)):=List.getElem?_eq_getElem _
     generalize l[k]'_=x4 at hx4
     obtain ⟨id8,of8,cc8,ty8,wr8,ex8,i8,j8,l8,q8⟩:=(hv_l).at (P:=Tryz.prog) (t:=40) Tryz.underlying40 tz36 hx4
     have j8:=(ga4.2 id8 l8).trans j8
     have m8_0:cc8[of8]?=some (.int .i64 x4.lo):=q8 0 (show 0<2 by decide)
     have m8_1:cc8[of8+1]?=some (.int .i64 x4.hi):=q8 1 (show 1<2 by decide)
     have hx9:q[k]?=some (lget q k):=lget_some (by first|omega|simp; omega)
     obtain ⟨id9,of9,cc9,ty9,wr9,ex9,i9,j9,l9,q9⟩:=(hv_q).at (P:=Tryz.prog) (t:=40) Tryz.underlying40 tz36 hx9
     have j9:=(ga4.2 id9 l9).trans j9
     have m9_0:cc9[of9]?=some (.int .i64 ((lget q k).lo)):=q9 0 (show 0<2 by decide)
     have m9_1:cc9[of9+1]?=some (.int .i64 ((lget q k).hi)):=q9 1 (show 1<2 by decide)
     have y10:aEqAgg Tryz.prog 36 (.agg #[.int .i64 x4.lo,.int .i64 x4.hi]) (.agg #[.int .i64 ((lget q k).lo),.int .i64 ((lget q k).hi)])=some (decide (x4.lo=(lget q k).lo∧x4.hi=(lget q k).hi)):=(show _=some (decide (x4.lo=(lget q k).lo) && (decide (x4.hi=(lget q k).hi) && true)) by kernel_rfl).trans (congrArg some (by simp only [Bool.and_true,← Bool.decide_and]))
     try simp (disch:=first|omega|assumption) only [E0_G,SY,agreeKind,ldA,rdCells,aggD,Nat.reduceAdd,Nat.reduceLT,Nat.reduceBEq,TY_EvH17,g4_0,g4_1,g4_5,store_refl E0_same,i8,j8,m8_0,m8_1,i9,j9,m9_0,m9_1,y10] at he
     rcases dP (x4.lo=(lget q k).lo∧x4.hi=(lget q k).hi) with ⟨h11a,h11⟩|⟨h11a,h11⟩
     ·have w12:IntKind.i64.wrap ((k:Int)+1)=((k+1:Nat):Int):=by rw [IntWalk.i64_in]<;>omega
      try simp (disch:=first|omega|assumption) only [E0_G,SY,off,agreeKind,Nat.reduceAdd,Nat.reduceLT,Nat.reduceBEq,g4_5,store_refl E0_same,h11a,w12] at he
      rw [drop_cons' hx4] at hd4
      have hf:=(show _=(R34_0 l q (l.drop (k+1)) (k+1):Sum (Bool) (Unit)) from (if_pos h11).trans (rfl)).symm.trans hd4
      exact .next he (m - 1) (by omega) ⟨(k+1),by first|omega|(simp; omega)|simp,by first|omega|(simp; omega)|simp,(by simp only [SY,eq_self,Nat.reduceBEq,g4_0]<;>rfl),(by simp only [SY,eq_self,Nat.reduceBEq,g4_1]<;>rfl),(by simp only [SY,eq_self,Nat.reduceBEq,g4_5]<;>rfl),ga4,by omega,hf⟩
     try simp (disch:=first|omega|assumption) only [E0_G,SY,off,agreeKind,Nat.reduceLT,store_refl E0_same,h11a] at he
     rw [drop_cons' hx4] at hd4
     have hf:=(show _=(.inl false:Sum (Bool) (Unit)) from (if_neg h11).trans (rfl)).symm.trans hd4
     exact .ret he (.inr ⟨rfl,⟨false,(by simp only [SY,eq_self,Nat.reduceBEq]<;>rfl),ga4,hf.symm⟩⟩)
    try simp (disch:=first|omega|assumption) only [SY,h6a] at he
    rw [List.drop_eq_nil_of_le (show l.length≤k by omega)] at hd4
    have hf:=(show _=(.inr ():Sum (Bool) (Unit)) from rfl).symm.trans hd4
    exact .exit he (.inl ⟨rfl,⟨k,ga4,by omega,by first|omega|assumption|simp,hf.symm⟩⟩))
  rcases hQ4 with ⟨rfl,hQ4⟩|⟨rfl,hQ4⟩
  ·obtain ⟨k,ge4,gm4,hj4_0,hR4⟩:=hQ4
   try simp (disch:=first|omega|assumption) only [E0_G,SY,off,agreeKind,eq_self,if_true,Nat.reduceLT,Nat.reduceBEq] at hz
   have hr:r34 l q=true:=(if_pos h3).trans ((onSum_inr hR4).trans (rfl))
   exact fin hz (by rw [hr]) ge4
  obtain ⟨r4,ge4_4,ge4,hR4⟩:=hQ4
  try simp (disch:=first|omega|assumption) only [SY,ge4_4] at hz
  have hr:r34 l q=r4:=(if_pos h3).trans ((onSum_inl hR4).trans (rfl))
  exact fin hz (by rw [hr]) ge4
 try simp (disch:=first|omega|assumption) only [E0_G,SY,off,agreeKind,Nat.reduceLT,Nat.reduceBEq,h3a] at hz
 have hr:r34 l q=false:=(if_neg h3).trans (rfl)
 exact fin hz (by rw [hr]) (Agree.refl S)
theorem r32_len {h:Hs} {door slo shi:Int}:(r32 h door slo shi).1.length≤1000000:=by
 unfold r32
 split
 ·rename_i h1
  split
  ·rename_i h2
   split
   ·simp
   ·have h3:=r84_ok h2
    have h4:=r93_iff.1 h3.2
    have h5:=r87_iff.1 h1
    have hO:OkO (lget h.doors (Int.toNat door)):=oko h3.1 (List.mem_of_getElem? (lget_some (by omega)))
    have h6:=r140_len (hours:=(lget h.doors (Int.toNat door)).hours) (shut:=(lget h.doors (Int.toNat door)).shut) hO (slo:=slo) (shi:=shi) (by omega)
    have h7:=foldl_joinW_len (r140 (lget h.doors (Int.toNat door)).hours (lget h.doors (Int.toNat door)).shut slo shi) []
    simp only [List.length_nil] at h7
    show (List.foldl joinW [] _).length≤_
    omega
  ·simp
 ·simp
def r4 (h:Hs) (door:Int) (ti:Int) (slo shi:Int):Bool:=(if (r20 h)=true then (if ((r26 h door ti).1)=((r27 h door ti).1) then (if ((r26 h door ti).2)=((r27 h door ti).2) then (if ((r28 h door ti).1)=((r29 h door ti).1) then (if ((r28 h door ti).2)=((r29 h door ti).2) then (if ((r30 h door ti).1)=((r31 h door ti).1) then (if ((r30 h door ti).2)=((r31 h door ti).2) then (if ((r32 h door slo shi).2)=((r33 h door slo shi).2) then (r34 ((r32 h door slo shi).1:List Sp) ((r33 h door slo shi).1:List Sp)) else false) else false) else false) else false) else false) else false) else false) else true)
set_option maxHeartbeats 8000000 in
theorem c4 (h:Hs) (door:Int) (ti:Int) (slo shi:Int) (hs:∀ x ∈ h.rooms,x.name.size≤9223372036854775807) (S:AS) (v_h_rooms:Value) (hv_h_rooms:LstR S v_h_rooms h.rooms) (v_h_doors:Value) (hv_h_doors:LstR S v_h_doors h.doors) (v_h_ways:Value) (hv_h_ways:Lst S v_h_ways h.ways) :
  ∃ S',(evL Tryz.prog E0).call 4 #[.agg #[v_h_rooms,v_h_doors,v_h_ways],.int .i64 door,.int .i64 ti,.agg #[.int .i64 slo,.int .i64 shi]] S=some (.bool (r4 h door ti slo shi),S')∧Agree S S':=by
 generalize hz:(evL Tryz.prog E0).call 4 _ _=z
 rw [L_call,evCall_said rfl Tryz.func4 rfl (by decide) Tryz.ntmps4 Tryz.results4] at hz
 obtain ⟨S1,e1,n1,b1,a1⟩:=push_open S (.cells [v_h_rooms,v_h_doors,v_h_ways] 26 0 true true)
 have g1:Agree S S1:=a1
 obtain ⟨S2,e2,n2,b2,a2⟩:=push_open S1 (.cells [.int .i64 slo,.int .i64 shi] 36 0 true true)
 have v1_2:=(a2.2 S.next (by omega)).trans b1
 have g2:Agree S S2:=g1.trans a2
 obtain ⟨S3,k3,a3⟩:=c20 h  S2 (v_h_rooms) (hv_h_rooms.agree g2) (v_h_doors) (hv_h_doors.agree g2) (v_h_ways) (hv_h_ways.agree g2)
 have l3:=a3.1
 have v1_3:=(a3.2 S.next (by omega)).trans v1_2
 have v2_3:=(a3.2 S1.next (by omega)).trans b2
 have g3:Agree S S3:=g2.trans a3
 try simp (disch:=first|omega|assumption) only [E0_G,SY,setArgs,off,agreeKind,vals,boxed,ldA,rdCells,aggD,Nat.reduceAdd,Nat.reduceSub,Nat.reduceLT,Nat.reduceBEq,TY_EvH17,e1,v1_2,e2,k3] at hz
 rcases dB ((r20 h)) with ⟨h4a,h4⟩|⟨h4a,h4⟩
 ·obtain ⟨S5,k5,a5⟩:=c26 h door ti (few_of (show r20 h=true by assumption)) hs S3 (v_h_rooms) (hv_h_rooms.agree g3) (v_h_doors) (hv_h_doors.agree g3) (v_h_ways) (hv_h_ways.agree g3)
  have l5:=a5.1
  have v1_5:=(a5.2 S.next (by omega)).trans v1_3
  have v2_5:=(a5.2 S1.next (by omega)).trans v2_3
  have g5:Agree S S5:=g3.trans a5
  obtain ⟨S6,k6,a6⟩:=c27 h door ti (few_of (show r20 h=true by assumption)) S5 (v_h_rooms) (hv_h_rooms.agree g5) (v_h_doors) (hv_h_doors.agree g5) (v_h_ways) (hv_h_ways.agree g5)
  have l6:=a6.1
  have v1_6:=(a6.2 S.next (by omega)).trans v1_5
  have v2_6:=(a6.2 S1.next (by omega)).trans v2_5
  have g6:Agree S S6:=g5.trans a6
  obtain ⟨S7,k7,a7⟩:=c28 h door ti (few_of (show r20 h=true by assumption)) hs S6 (v_h_rooms) (hv_h_rooms.agree g6) (v_h_doors) (hv_h_doors.agree g6) (v_h_ways) (hv_h_ways.agree g6)
  have l7:=a7.1
  have v1_7:=(a7.2 S.next (by omega)).trans v1_6
  have v2_7:=(a7.2 S1.next (by omega)).trans v2_6
  have g7:Agree S S7:=g6.trans a7
  obtain ⟨S8,k8,a8⟩:=c29 h door ti (few_of (show r20 h=true by assumption)) S7 (v_h_rooms) (hv_h_rooms.agree g7) (v_h_doors) (hv_h_doors.agree g7) (v_h_ways) (hv_h_ways.agree g7)
  have l8:=a8.1
  have v1_8:=(a8.2 S.next (by omega)).trans v1_7
  have v2_8:=(a8.2 S1.next (by omega)).trans v2_7
  have g8:Agree S S8:=g7.trans a8
  obtain ⟨S9,k9,a9⟩:=c30 h door ti (few_of (show r20 h=true by assumption)) hs S8 (v_h_rooms) (hv_h_rooms.agree g8) (v_h_doors) (hv_h_doors.agree g8) (v_h_ways) (hv_h_ways.agree g8)
  have l9:=a9.1
  have v1_9:=(a9.2 S.next (by omega)).trans v1_8
  have v2_9:=(a9.2 S1.next (by omega)).trans v2_8
  have g9:Agree S S9:=g8.trans a9
  obtain ⟨S10,k10,a10⟩:=c31 h door ti (few_of (show r20 h=true by assumption)) S9 (v_h_rooms) (hv_h_rooms.agree g9) (v_h_doors) (hv_h_doors.agree g9) (v_h_ways) (hv_h_ways.agree g9)
  have l10:=a10.1
  have v1_10:=(a10.2 S.next (by omega)).trans v1_9
  have v2_10:=(a10.2 S1.next (by omega)).trans v2_9
  have g10:Agree S S10:=g9.trans a10
  obtain ⟨u11,S11,k11,a11,oo11⟩:=c32 h door slo shi (few_of (show r20 h=true by assumption)) hs S10 (v_h_rooms) (hv_h_rooms.agree g10) (v_h_doors) (hv_h_doors.agree g10) (v_h_ways) (hv_h_ways.agree g10)
  have l11:=a11.1
  have v1_11:=(a11.2 S.next (by omega)).trans v1_10
  have v2_11:=(a11.2 S1.next (by omega)).trans v2_10
  have g11:Agree S S11:=g10.trans a11
  obtain ⟨u12,S12,k12,a12,oo12⟩:=c33 h door slo shi (few_of (show r20 h=true by assumption)) S11 (v_h_rooms) (hv_h_rooms.agree g11) (v_h_doors) (hv_h_doors.agree g11) (v_h_ways) (hv_h_ways.agree g11)
  have l12:=a12.1
  have o11_13:=oo11.agree a12
  have g12:Agree S S12:=g11.trans a12
  try simp (disch:=first|omega|assumption) only [E0_G,SY,off,agreeKind,vals,ldA,rdCells,aggD,aExtract,Nat.reduceAdd,Nat.reduceLT,Nat.reduceBEq,TY_EvH17,v1_3,h4a,k5,v1_5,k6,v1_6,k7,v1_7,k8,v1_8,k9,v1_9,k10,v1_10,v2_10,k11,v1_11,v2_11,k12,c21s] at hz
  rcases dP (((r26 h door ti).1)=((r27 h door ti).1)) with ⟨h14a,h14⟩|⟨h14a,h14⟩
  ·try simp (disch:=first|omega|assumption) only [E0_G,SY,off,agreeKind,Nat.reduceAdd,Nat.reduceLT,Nat.reduceBEq,h14a] at hz
   rcases dP (((r26 h door ti).2)=((r27 h door ti).2)) with ⟨h15a,h15⟩|⟨h15a,h15⟩
   ·try simp (disch:=first|omega|assumption) only [E0_G,SY,off,agreeKind,Nat.reduceAdd,Nat.reduceLT,Nat.reduceBEq,h15a] at hz
    rcases dP (((r28 h door ti).1)=((r29 h door ti).1)) with ⟨h16a,h16⟩|⟨h16a,h16⟩
    ·try simp (disch:=first|omega|assumption) only [E0_G,SY,off,agreeKind,Nat.reduceAdd,Nat.reduceLT,Nat.reduceBEq,h16a] at hz
     rcases dP (((r28 h door ti).2)=((r29 h door ti).2)) with ⟨h17a,h17⟩|⟨h17a,h17⟩
     ·try simp (disch:=first|omega|assumption) only [E0_G,SY,off,agreeKind,Nat.reduceAdd,Nat.reduceLT,Nat.reduceBEq,h17a] at hz
      rcases dP (((r30 h door ti).1)=((r31 h door ti).1)) with ⟨h18a,h18⟩|⟨h18a,h18⟩
      ·try simp (disch:=first|omega|assumption) only [E0_G,SY,off,agreeKind,Nat.reduceAdd,Nat.reduceLT,Nat.reduceBEq,h18a] at hz
       rcases dP (((r30 h door ti).2)=((r31 h door ti).2)) with ⟨h19a,h19⟩|⟨h19a,h19⟩
       ·try simp (disch:=first|omega|assumption) only [E0_G,SY,off,agreeKind,Nat.reduceAdd,Nat.reduceLT,Nat.reduceBEq,h19a] at hz
        rcases dP (((r32 h door slo shi).2)=((r33 h door slo shi).2)) with ⟨h20a,h20⟩|⟨h20a,h20⟩
        ·obtain ⟨S21,k21,a21⟩:=c34 ((r32 h door slo shi).1:List Sp) ((r33 h door slo shi).1:List Sp) r32_len S12 (u11) (o11_13.rows) (u12) (oo12.rows)
         have l21:=a21.1
         have o11_22:=o11_13.agree a21
         have o12_23:=oo12.agree a21
         have g21:Agree S S21:=g12.trans a21
         try simp (disch:=first|omega|assumption) only [E0_G,SY,off,agreeKind,vals,Nat.reduceAdd,Nat.reduceLT,Nat.reduceBEq,h20a,k21] at hz
         have hr:r4 h door ti slo shi=(r34 ((r32 h door slo shi).1:List Sp) ((r33 h door slo shi).1:List Sp)):=(if_pos h4).trans ((if_pos h14).trans ((if_pos h15).trans ((if_pos h16).trans ((if_pos h17).trans ((if_pos h18).trans ((if_pos h19).trans ((if_pos h20).trans (rfl))))))))
         exact fin hz (by rw [hr]) g21
        try simp (disch:=first|omega|assumption) only [E0_G,SY,off,agreeKind,Nat.reduceAdd,Nat.reduceLT,Nat.reduceBEq,h20a] at hz
        have hr:r4 h door ti slo shi=false:=(if_pos h4).trans ((if_pos h14).trans ((if_pos h15).trans ((if_pos h16).trans ((if_pos h17).trans ((if_pos h18).trans ((if_pos h19).trans ((if_neg h20).trans (rfl))))))))
        exact fin hz (by rw [hr]) g12
       try simp (disch:=first|omega|assumption) only [E0_G,SY,off,agreeKind,Nat.reduceAdd,Nat.reduceLT,Nat.reduceBEq,h19a] at hz
       have hr:r4 h door ti slo shi=false:=(if_pos h4).trans ((if_pos h14).trans ((if_pos h15).trans ((if_pos h16).trans ((if_pos h17).trans ((if_pos h18).trans ((if_neg h19).trans (rfl)))))))
       exact fin hz (by rw [hr]) g12
      try simp (disch:=first|omega|assumption) only [E0_G,SY,off,agreeKind,Nat.reduceAdd,Nat.reduceLT,Nat.reduceBEq,h18a] at hz
      have hr:r4 h door ti slo shi=false:=(if_pos h4).trans ((if_pos h14).trans ((if_pos h15).trans ((if_pos h16).trans ((if_pos h17).trans ((if_neg h18).trans (rfl))))))
      exact fin hz (by rw [hr]) g12
     try simp (disch:=first|omega|assumption) only [E0_G,SY,off,agreeKind,Nat.reduceAdd,Nat.reduceLT,Nat.reduceBEq,h17a] at hz
     have hr:r4 h door ti slo shi=false:=(if_pos h4).trans ((if_pos h14).trans ((if_pos h15).trans ((if_pos h16).trans ((if_neg h17).trans (rfl)))))
     exact fin hz (by rw [hr]) g12
    try simp (disch:=first|omega|assumption) only [E0_G,SY,off,agreeKind,Nat.reduceAdd,Nat.reduceLT,Nat.reduceBEq,h16a] at hz
    have hr:r4 h door ti slo shi=false:=(if_pos h4).trans ((if_pos h14).trans ((if_pos h15).trans ((if_neg h16).trans (rfl))))
    exact fin hz (by rw [hr]) g12
   try simp (disch:=first|omega|assumption) only [E0_G,SY,off,agreeKind,Nat.reduceAdd,Nat.reduceLT,Nat.reduceBEq,h15a] at hz
   have hr:r4 h door ti slo shi=false:=(if_pos h4).trans ((if_pos h14).trans ((if_neg h15).trans (rfl)))
   exact fin hz (by rw [hr]) g12
  try simp (disch:=first|omega|assumption) only [E0_G,SY,off,agreeKind,Nat.reduceAdd,Nat.reduceLT,Nat.reduceBEq,h14a] at hz
  have hr:r4 h door ti slo shi=false:=(if_pos h4).trans ((if_neg h14).trans (rfl))
  exact fin hz (by rw [hr]) g12
 try simp (disch:=first|omega|assumption) only [E0_G,SY,off,agreeKind,vals,Nat.reduceAdd,Nat.reduceLT,Nat.reduceBEq,h4a,c21s] at hz
 have hr:r4 h door ti slo shi=true:=(if_neg h4).trans (rfl)
 exact fin hz (by rw [hr]) g3
end House
end Go.Proofs
