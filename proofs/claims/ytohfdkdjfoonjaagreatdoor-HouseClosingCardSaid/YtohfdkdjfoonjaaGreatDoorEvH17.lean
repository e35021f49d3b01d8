import Derived.Test.YtohfdkdjfoonjaaGreatDoorBAK
set_option linter.unusedSimpArgs false
set_option linter.unusedVariables false
namespace Go.Proofs
namespace House
open Go Go.RowKit Go.Aev
set_option maxRecDepth 100000
theorem TY_EvH17:type_of% TY_EvH16:=TY_EvH16
def r28 (h:Hs) (door:Int) (ti:Int):Int × Int:=(if (r87 h door)=true then (if (r84 h (r88 ti))=0 then ((r89 (lget h.doors (Int.toNat door)) ti),0) else (0,(r84 h (r88 ti)))) else (0,(r84 h false)))
set_option maxHeartbeats 2000000 in
theorem c28 (h:Hs) (door:Int) (ti:Int) (hF:Few h) (hs:∀ x ∈ h.rooms,x.name.size≤9223372036854775807) (S:AS) (v_h_rooms:Value) (hv_h_rooms:LstR S v_h_rooms h.rooms) (v_h_doors:Value) (hv_h_doors:LstR S v_h_doors h.doors) (v_h_ways:Value) (hv_h_ways:Lst S v_h_ways h.ways) :
  ∃ S',(evL Tryz.prog E0).call 28 #[.agg #[v_h_rooms,v_h_doors,v_h_ways],.int .i64 door,.int .i64 ti] S=some (.tuple #[.int .i64 (r28 h door ti).1,.int .i64 (r28 h door ti).2],S')∧Agree S S':=by
 have qr:=hF.r; have qd:=hF.d; have qw:=hF.w
 generalize hz:(evL Tryz.prog E0).call 28 _ _=z
 rw [L_call,evCall_said rfl Tryz.func28 rfl (by decide) Tryz.ntmps28 Tryz.results28] at hz
 obtain ⟨S1,e1,n1,b1,a1⟩:=push_open S (.cells [v_h_rooms,v_h_doors,v_h_ways] 26 0 true true)
 have g1:Agree S S1:=a1
 have s1:E0.same S S1=true:=symEnv_same a1
 try simp (disch:=first|omega|assumption) only [E0_G,SY,setArgs,off,agreeKind,boxed,Nat.reduceAdd,Nat.reduceSub,Nat.reduceLT,Nat.reduceBEq,e1] at hz
 rw [code_draws _ _ _ (by kernel_rfl)] at hz
 generalize hnd2:needy _=nd2 at hz
 obtain ⟨S3,k3,a3⟩:=c87 h door  S1 (v_h_rooms) (hv_h_rooms.agree g1) (v_h_doors) (hv_h_doors.agree g1) (v_h_ways) (hv_h_ways.agree g1)
 have l3:=a3.1
 have s3:E0.same S1 S3=true:=symEnv_same a3
 have v1_3:=(a3.2 S.next (by omega)).trans b1
 have g3:Agree S S3:=g1.trans a3
 try simp (disch:=first|omega|assumption) only [E0_G,SY,agreeKind,vals,ldA,rdCells,aggD,Nat.reduceAdd,Nat.reduceLT,Nat.reduceBEq,TY_EvH17,b1,store_agree,store_refl E0_same,k3] at hz
 rcases dB ((r87 h door)) with ⟨h4a,h4⟩|⟨h4a,h4⟩
 ·have lq5:=r87_iff.1 h4
  have lq6:=r87_iff.1 h4
  obtain ⟨S7,k7,a7⟩:=c88 ti  S3
  have l7:=a7.1
  have s7:E0.same S3 S7=true:=symEnv_same a7
  have v1_7:=(a7.2 S.next (by omega)).trans v1_3
  have g7:Agree S S7:=g3.trans a7
  obtain ⟨S8,k8,a8⟩:=c84 h (r88 ti) hF hs S7 (v_h_rooms) (hv_h_rooms.agree g7) (v_h_doors) (hv_h_doors.agree g7) (v_h_ways) (hv_h_ways.agree g7)
  have l8:=a8.1
  have s8:E0.same S7 S8=true:=symEnv_same a8
  have v1_8:=(a8.2 S.next (by omega)).trans v1_7
  have g8:Agree S S8:=g7.trans a8
  try simp (disch:=first|omega|assumption) only [E0_G,SY,off,agreeKind,vals,Nat.reduceAdd,Nat.reduceLT,Nat.reduceBEq,store_agree,store_refl E0_same,h4a,k7,k8] at hz
  rcases dP ((r84 h (r88 ti))=0) with ⟨h9a,h9⟩|⟨h9a,h9⟩
  ·have hV:=(r84_ok h9).1
   have lq10:=r88_iff.1 (r84_ok h9).2
   have qz11:((Int.toNat door:Nat):Int)=door:=Int.toNat_of_nonneg (by first|omega|simp; omega)
   have hx12:h.doors[(Int.toNat door)]?=some (lget h.doors (Int.toNat door)):=lget_some (by first|omega|simp; omega)
   obtain ⟨id12,of12,cc12,ty12,wr12,ex12,cs12,i12,j12,l12,rp12,q12⟩:=LstR.at (hv_h_doors) (P:=Tryz.prog) (t:=23) Tryz.underlying23 tz98 hx12
   obtain ⟨w12_0,w12_1,rp12,rr12_0,rr12_1⟩:=rp12
   have rq12:cs12=[w12_0,w12_1]:=rp12
   subst rq12
   have j12:=(g8.2 id12 l12).trans j12
   have m12_0:cc12[of12]?=some (w12_0):=q12 0 (show 0<2 by decide)
   have m12_1:cc12[of12+1]?=some (w12_1):=q12 1 (show 1<2 by decide)
   rw [qz11] at i12
   obtain ⟨S13,k13,a13⟩:=c89 (lget h.doors (Int.toNat door)) ti (okd (r84_ok (by assumption)).1 (List.mem_of_getElem? (by assumption))) (by omega) S8 (w12_0) (rr12_0.agree g8) (w12_1) (rr12_1.agree g8)
   have l13:=a13.1
   have s13:E0.same S8 S13=true:=symEnv_same a13
   have g13:Agree S S13:=g8.trans a13
   try simp (disch:=first|omega|assumption) only [E0_G,SY,off,agreeKind,vals,ldA,rdCells,aggD,aField,Nat.reduceAdd,Nat.reduceLT,Nat.reduceBEq,TY_EvH17,store_agree,store_refl E0_same,v1_8,h9a,i12,j12,m12_0,m12_1,k13] at hz
   have hr:r28 h door ti=((r89 (lget h.doors (Int.toNat door)) ti),0):=(if_pos h4).trans ((if_pos h9).trans (rfl))
   exact fin hz (by rw [hr]) g13
  try simp (disch:=first|omega|assumption) only [E0_G,SY,off,agreeKind,Nat.reduceAdd,Nat.reduceLT,Nat.reduceBEq,store_refl E0_same,h9a] at hz
  have hr:r28 h door ti=(0,(r84 h (r88 ti))):=(if_pos h4).trans ((if_neg h9).trans (rfl))
  exact fin hz (by rw [hr]) g8
 obtain ⟨S14,k14,a14⟩:=c84 h false hF hs S3 (v_h_rooms) (hv_h_rooms.agree g3) (v_h_doors) (hv_h_doors.agree g3) (v_h_ways) (hv_h_ways.agree g3)
 have l14:=a14.1
 have s14:E0.same S3 S14=true:=symEnv_same a14
 have g14:Agree S S14:=g3.trans a14
 try simp (disch:=first|omega|assumption) only [E0_G,SY,off,agreeKind,vals,Nat.reduceAdd,Nat.reduceLT,Nat.reduceBEq,store_agree,store_refl E0_same,h4a,k14] at hz
 have h15:¬ ((r84 h false)=0):=r84_false
 have h15a:=decide_eq_false h15
 try simp (disch:=first|omega|assumption) only [E0_G,SY,off,agreeKind,Nat.reduceAdd,Nat.reduceLT,Nat.reduceBEq,store_refl E0_same,h15a] at hz
 have hr:r28 h door ti=(0,(r84 h false)):=(if_neg h4).trans (rfl)
 exact fin hz (by rw [hr]) g14
def r26 (h:Hs) (door:Int) (ti:Int):Bool × Int:=(if ((r28 h door ti).2)=0 then (decide (((r28 h door ti).1)=ti),(r28 h door ti).2) else (false,(r28 h door ti).2))
set_option maxHeartbeats 2000000 in
theorem c26 (h:Hs) (door:Int) (ti:Int) (hF:Few h) (hs:∀ x ∈ h.rooms,x.name.size≤9223372036854775807) (S:AS) (v_h_rooms:Value) (hv_h_rooms:LstR S v_h_rooms h.rooms) (v_h_doors:Value) (hv_h_doors:LstR S v_h_doors h.doors) (v_h_ways:Value) (hv_h_ways:Lst S v_h_ways h.ways) :
  ∃ S',(evL Tryz.prog E0).call 26 #[.agg #[v_h_rooms,v_h_doors,v_h_ways],.int .i64 door,.int .i64 ti] S=some (.tuple #[.bool (r26 h door ti).1,.int .i64 (r26 h door ti).2],S')∧Agree S S':=by
 have qr:=hF.r; have qd:=hF.d; have qw:=hF.w
 generalize hz:(evL Tryz.prog E0).call 26 _ _=z
 rw [L_call,evCall_said rfl Tryz.func26 rfl (by decide) Tryz.ntmps26 Tryz.results26] at hz
 obtain ⟨S1,e1,n1,b1,a1⟩:=push_open S (.cells [v_h_rooms,v_h_doors,v_h_ways] 26 0 true true)
 have g1:Agree S S1:=a1
 obtain ⟨S2,k2,a2⟩:=c28 h door ti hF hs S1 (v_h_rooms) (hv_h_rooms.agree g1) (v_h_doors) (hv_h_doors.agree g1) (v_h_ways) (hv_h_ways.agree g1)
 have l2:=a2.1
 have g2:Agree S S2:=g1.trans a2
 try simp (disch:=first|omega|assumption) only [E0_G,SY,setArgs,off,agreeKind,vals,boxed,ldA,rdCells,aggD,aExtract,Nat.reduceAdd,Nat.reduceSub,Nat.reduceLT,Nat.reduceBEq,TY_EvH17,e1,b1,k2] at hz
 rcases dP (((r28 h door ti).2)=0) with ⟨h3a,h3⟩|⟨h3a,h3⟩
 ·try simp (disch:=first|omega|assumption) only [E0_G,SY,off,agreeKind,Nat.reduceAdd,Nat.reduceLT,Nat.reduceBEq,h3a] at hz
  have hr:r26 h door ti=(decide (((r28 h door ti).1)=ti),(r28 h door ti).2):=(if_pos h3).trans (rfl)
  exact fin hz (by rw [hr]) g2
 try simp (disch:=first|omega|assumption) only [E0_G,SY,off,agreeKind,Nat.reduceAdd,Nat.reduceLT,Nat.reduceBEq,h3a] at hz
 have hr:r26 h door ti=(false,(r28 h door ti).2):=(if_neg h3).trans (rfl)
 exact fin hz (by rw [hr]) g2
end House
end Go.Proofs
