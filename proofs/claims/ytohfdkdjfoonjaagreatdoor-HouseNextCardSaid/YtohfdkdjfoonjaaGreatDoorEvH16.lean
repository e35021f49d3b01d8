import Derived.Test.YtohfdkdjfoonjaaGreatDoorEvH15
set_option linter.unusedSimpArgs false
set_option linter.unusedVariables false
namespace Go.Proofs
namespace House
open Go Go.RowKit Go.Aev
set_option maxRecDepth 100000
theorem TY_EvH16:type_of% TY_EvH14:=TY_EvH14
theorem lst_low {α:Type} [Cel α] {S:AS} {v:Value} {l:List α} (h:Lst S v l) {q:Nat} (hq:blkOf v=some q):q=0∨q<S.next:=by
 rcases h with ⟨_,rfl|rfl⟩|⟨id,off,c,ty,cap,wr,ex,rfl,_,_,h3,_⟩
 ·simp [blkOf] at hq
 ·simp [blkOf] at hq; omega
 ·simp only [blkOf,Option.some.injEq] at hq; omega
theorem pcs_len (d:Dr) (shi:Int):∀ (m:Nat) (t:Int),0≤t→(pcs d shi m t).length≤(shi+1 - t).toNat:=by
 intro m
 induction m with
 | zero=>intro t _; simp [pcs]
 | succ m ih =>
  intro t h0
  have he:=r95_ge (d:=d) h0
  rw [pcs]
  split
  ·have h:=ih (min (r95 d t) shi+1) (by omega)
   split
   ·simp only [List.length_cons]; omega
   ·omega
  ·simp
theorem r140_len {hours shut:List Sp} {slo shi:Int} (hO:OkO (⟨hours,shut⟩:Dr)) (hs:0≤slo∧slo≤shi∧shi≤1073741823∧shi - slo<604800):(r140 hours shut slo shi).length≤1000000:=by
 rw [r140_pcs hours shut slo shi hO ⟨hs.1,hs.2.1,hs.2.2.1⟩]
 have:=pcs_len (⟨hours,shut⟩:Dr) shi ((shi+1 - slo).toNat+1) slo hs.1
 omega
theorem r93_iff {a b:Int}:r93 a b=true↔a≤b∧0≤a∧b≤1073741823:=by
 unfold r93 r139
 have:=r141_eq a b 0 1073741823
 split
 ·rw [decide_eq_true_eq]; omega
 ·simp; omega
def r32 (h:Hs) (door:Int) (slo shi:Int):List Sp × Int:=(if (r87 h door)=true then (if (r84 h (r93 slo shi))=0 then (if 604800≤(shi - slo) then ([],2) else (((r140 ((lget h.doors (Int.toNat door))).hours ((lget h.doors (Int.toNat door))).shut slo shi).foldl joinW []),0)) else ([],(r84 h (r93 slo shi)))) else ([],(r84 h false)))
set_option maxHeartbeats 16000000 in
theorem c32 (h:Hs) (door:Int) (slo shi:Int) (hF:Few h) (hs:∀ x ∈ h.rooms,x.name.size≤9223372036854775807) (S:AS) (v_h_rooms:Value) (hv_h_rooms:LstR S v_h_rooms h.rooms) (v_h_doors:Value) (hv_h_doors:LstR S v_h_doors h.doors) (v_h_ways:Value) (hv_h_ways:Lst S v_h_ways h.ways) :
  ∃ v' S',(evL Tryz.prog E0).call 32 #[.agg #[v_h_rooms,v_h_doors,v_h_ways],.int .i64 door,.agg #[.int .i64 slo,.int .i64 shi]] S=some (.tuple #[v',.int .i64 (r32 h door slo shi).2],S')∧Agree S S'∧Own 36 S.next S' v' (r32 h door slo shi).1:=by
 have qr:=hF.r; have qd:=hF.d; have qw:=hF.w
 generalize hz:(evL Tryz.prog E0).call 32 _ _=z
 rw [L_call,evCall_said rfl Tryz.func32 rfl (by decide) Tryz.ntmps32 Tryz.results32] at hz
 obtain ⟨S1,e1,n1,b1,a1⟩:=push_open S (.cells [v_h_rooms,v_h_doors,v_h_ways] 26 0 true true)
 have g1:Agree S S1:=a1
 have s1:E0.same S S1=true:=symEnv_same a1
 obtain ⟨S2,e2,n2,b2,a2⟩:=push_open S1 (.cells [.int .i64 slo,.int .i64 shi] 36 0 true true)
 have v1_2:=(a2.2 S.next (by omega)).trans b1
 have g2:Agree S S2:=g1.trans a2
 have s2:E0.same S1 S2=true:=symEnv_same a2
 try simp (disch:=first|omega|assumption) only [E0_G,SY,setArgs,off,agreeKind,boxed,Nat.reduceAdd,Nat.reduceSub,Nat.reduceLT,Nat.reduceBEq,e1,e2] at hz
 rw [code_draws _ _ _ (by kernel_rfl)] at hz
 generalize hnd3:needy _=nd3 at hz
 obtain ⟨S4,k4,a4⟩:=c87 h door  S2 (v_h_rooms) (hv_h_rooms.agree g2) (v_h_doors) (hv_h_doors.agree g2) (v_h_ways) (hv_h_ways.agree g2)
 have l4:=a4.1
 have s4:E0.same S2 S4=true:=symEnv_same a4
 have v1_4:=(a4.2 S.next (by omega)).trans v1_2
 have v2_4:=(a4.2 S1.next (by omega)).trans b2
 have g4:Agree S S4:=g2.trans a4
 try simp (disch:=first|omega|assumption) only [E0_G,SY,agreeKind,vals,ldA,rdCells,aggD,Nat.reduceAdd,Nat.reduceLT,Nat.reduceBEq,TY_EvH16,v1_2,store_agree,store_refl E0_same,k4] at hz
 rcases dB ((r87 h door)) with ⟨h5a,h5⟩|⟨h5a,h5⟩
 ·have lq6:=r87_iff.1 h5
  have lq7:=r87_iff.1 h5
  obtain ⟨S8,k8,a8⟩:=c93 slo shi  S4
  have l8:=a8.1
  have s8:E0.same S4 S8=true:=symEnv_same a8
  have v1_8:=(a8.2 S.next (by omega)).trans v1_4
  have v2_8:=(a8.2 S1.next (by omega)).trans v2_4
  have g8:Agree S S8:=g4.trans a8
  obtain ⟨S9,k9,a9⟩:=c84 h (r93 slo shi) hF hs S8 (v_h_rooms) (hv_h_rooms.agree g8) (v_h_doors) (hv_h_doors.agree g8) (v_h_ways) (hv_h_ways.agree g8)
  have l9:=a9.1
  have s9:E0.same S8 S9=true:=symEnv_same a9
  have v1_9:=(a9.2 S.next (by omega)).trans v1_8
  have v2_9:=(a9.2 S1.next (by omega)).trans v2_8
  have g9:Agree S S9:=g8.trans a9
  try simp (disch:=first|omega|assumption) only [E0_G,SY,off,agreeKind,vals,ldA,rdCells,aggD,Nat.reduceAdd,Nat.reduceLT,Nat.reduceBEq,TY_EvH16,store_agree,store_refl E0_same,v2_4,h5a,k8,k9] at hz
  rcases dP ((r84 h (r93 slo shi))=0) with ⟨h10a,h10⟩|⟨h10a,h10⟩
  ·have hV:=(r84_ok h10).1
   have lq11:=r93_iff.1 (r84_ok h10).2
   have w12:IntKind.i64.wrap (shi - slo)=shi - slo:=by rw [IntWalk.i64_in]; omega
   try simp (disch:=first|omega|assumption) only [E0_G,SY,off,agreeKind,ldA,aggD,aField,Nat.reduceAdd,Nat.reduceLT,Nat.reduceBEq,TY_EvH16,store_refl E0_same,v2_9,h10a,w12] at hz
   rcases dP (604800≤(shi - slo)) with ⟨h13a,h13⟩|⟨h13a,h13⟩
   ·try simp (disch:=first|omega|assumption) only [E0_G,SY,off,agreeKind,Nat.reduceAdd,Nat.reduceLT,Nat.reduceBEq,store_refl E0_same,h13a] at hz
    have hr:r32 h door slo shi=([],2):=(if_pos h5).trans ((if_pos h10).trans ((if_pos h13).trans (rfl)))
    exact ⟨.slice none 0 0,S9,by first|(rw [hr]; exact hz.symm)|exact hz.symm,g9,by rw [hr]; exact Own.nil _ _ _⟩
   obtain ⟨S14,e14,n14,b14,a14⟩:=push_open S9 (.cells [.slice none 0 0] 40 0 true true)
   have v1_14:=(a14.2 S.next (by omega)).trans v1_9
   have v2_14:=(a14.2 S1.next (by omega)).trans v2_9
   have g14:Agree S S14:=g9.trans a14
   have s14:E0.same S9 S14=true:=symEnv_same a14
   try simp (disch:=first|omega|assumption) only [SY,off,agreeKind,allocV,Nat.reduceLT,TY_EvH16,store_agree,store_refl E0_same,h13a,e14] at hz
   rw [code_draws _ _ _ (by kernel_rfl)] at hz
   generalize hnd15:needy _=nd15 at hz
   have qz16:((Int.toNat door:Nat):Int)=door:=Int.toNat_of_nonneg (by first|omega|simp; omega)
   have hx17:h.doors[(Int.toNat door)]?=some (lget h.doors (Int.toNat door)):=lget_some (by first|omega|simp; omega)
   obtain ⟨id17,of17,cc17,ty17,wr17,ex17,cs17,i17,j17,l17,rp17,q17⟩:=LstR.at (hv_h_doors) (P:=Tryz.prog) (t:=23) Tryz.underlying23 tz98 hx17
   obtain ⟨w17_0,w17_1,rp17,rr17_0,rr17_1⟩:=rp17
   have rq17:cs17=[w17_0,w17_1]:=rp17
   subst rq17
   have j17:=(g14.2 id17 l17).trans j17
   have m17_0:cc17[of17]?=some (w17_0):=q17 0 (show 0<2 by decide)
   have m17_1:cc17[of17+1]?=some (w17_1):=q17 1 (show 1<2 by decide)
   rw [qz16] at i17
   obtain ⟨S18,k18,a18,n18,b18,b19⟩:=c94 (w17_0) (w17_1) slo shi S14
   have l18:=a18.1
   have s18:E0.same S14 S18=true:=symEnv_same a18
   have v14_18:=(a18.2 S9.next (by omega)).trans b14
   have g18:Agree S S18:=g14.trans a18
   try simp (disch:=first|omega|assumption) only [E0_G,SY,agreeKind,vals,ldA,rdCells,aggD,aField,Nat.reduceAdd,Nat.reduceLT,Nat.reduceBEq,TY_EvH16,store_agree,store_refl E0_same,v1_14,v2_14,i17,j17,m17_0,m17_1,k18] at hz
   generalize hR20:evCode Tryz.prog E0 (evL Tryz.prog E0) none (.rangeFunc _ _ _ _) _=R20 at hz
   have hO20:OkO ((lget h.doors (Int.toNat door))):=oko (r84_ok (by assumption)).1 (List.mem_of_getElem? (by assumption))
   obtain ⟨S20,po20,no20,co20,rfl,n20,b20,o20,t20,f20⟩:=rg32 ((lget h.doors (Int.toNat door))).hours ((lget h.doors (Int.toNat door))).shut slo shi hO20 (by omega) (r140_len hO20 (by omega)) S18 _ _ _ S9.next S14.next (S14.next+1) _ _ (by simp only [SY,eq_self,Nat.reduceBEq]<;>rfl) (by simp only [SY,eq_self,Nat.reduceBEq]<;>rfl) v14_18 b18 b19 (by omega) (by omega) (by omega) (by omega) (by omega) (rr17_0.agree g18) (rr17_1.agree g18) (fun q hq=>by rcases lst_low (rr17_0) hq with h|h<;>omega) (fun q hq=>by rcases lst_low (rr17_1) hq with h|h<;>omega) hR20
   have g20:Agree S S20:=⟨by have:=(g18).1; omega,fun id hid=>(f20 id (by have:=(g18).1; omega) (by have:=(g18).1; omega)).trans ((g18).2 id hid)⟩
   try simp (disch:=first|omega|assumption) only [E0_G,SY,off,agreeKind,ldA,aggD,Nat.reduceAdd,Nat.reduceLT,Nat.reduceBEq,TY_EvH16,store_refl E0_same,b20] at hz
   obtain ⟨S21,k21,n21,q21⟩:=take1 t20
   have o20_22:=o20.frame (by omega) (fun id hid hb=>q21 id (fun e=>(show blkOf (.slice po20 no20 co20)≠some S18.next from by first|exact o20.ne (by omega)|exact o20.new (by omega)|assumption) (e ▸ hb)))
   have g21:Agree S S21:=⟨by have:=(g20).1; omega,fun id hid=>(q21 id (by have:=(g20).1; omega)).trans ((g20).2 id hid)⟩
   rw [handed_take k21] at hz
   try simp (disch:=first|omega|assumption) only [SY,Nat.reduceBEq,store_refl E0_same] at hz
   have hr:r32 h door slo shi=(((r140 ((lget h.doors (Int.toNat door))).hours ((lget h.doors (Int.toNat door))).shut slo shi).foldl joinW []),0):=(if_pos h5).trans ((if_pos h10).trans ((if_neg h13).trans (rfl)))
   exact ⟨.slice po20 no20 co20,S21,by first|(rw [hr]; exact hz.symm)|exact hz.symm,g21,by rw [hr]; exact o20_22.low (by omega)⟩
  try simp (disch:=first|omega|assumption) only [E0_G,SY,off,agreeKind,Nat.reduceAdd,Nat.reduceLT,Nat.reduceBEq,store_refl E0_same,h10a] at hz
  have hr:r32 h door slo shi=([],(r84 h (r93 slo shi))):=(if_pos h5).trans ((if_neg h10).trans (rfl))
  exact ⟨.slice none 0 0,S9,by first|(rw [hr]; exact hz.symm)|exact hz.symm,g9,by rw [hr]; exact Own.nil _ _ _⟩
 obtain ⟨S23,k23,a23⟩:=c84 h false hF hs S4 (v_h_rooms) (hv_h_rooms.agree g4) (v_h_doors) (hv_h_doors.agree g4) (v_h_ways) (hv_h_ways.agree g4)
 have l23:=a23.1
 have s23:E0.same S4 S23=true:=symEnv_same a23
 have g23:Agree S S23:=g4.trans a23
 try simp (disch:=first|omega|assumption) only [E0_G,SY,off,agreeKind,vals,Nat.reduceAdd,Nat.reduceLT,Nat.reduceBEq,store_agree,store_refl E0_same,h5a,k23] at hz
 have h24:¬ ((r84 h false)=0):=r84_false
 have h24a:=decide_eq_false h24
 try simp (disch:=first|omega|assumption) only [E0_G,SY,off,agreeKind,Nat.reduceAdd,Nat.reduceLT,Nat.reduceBEq,store_refl E0_same,h24a] at hz
 have hr:r32 h door slo shi=([],(r84 h false)):=(if_neg h5).trans (rfl)
 exact ⟨.slice none 0 0,S23,by first|(rw [hr]; exact hz.symm)|exact hz.symm,g23,by rw [hr]; exact Own.nil _ _ _⟩
end House
end Go.Proofs
