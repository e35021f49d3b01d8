import Derived.Test.YtohfdkdjfoonjaaGreatDoorBU
set_option linter.unusedSimpArgs false
set_option linter.unusedVariables false
namespace Go.Proofs
namespace House
open Go Go.RowKit Go.Aev
set_option maxRecDepth 100000
theorem TY_EvH28:type_of% TY_EvH27:=TY_EvH27
def r113 (h:Hs) (a:Int) (ta:Int) (b:Int) (tb:Int):Int:=(if (r102 h a)=true then (if (r88 ta)=true then (if (r102 h b)=true then (r84 h (r88 tb)) else (r84 h false)) else (r84 h false)) else (r84 h false))
set_option maxHeartbeats 8000000 in
theorem c113 (h:Hs) (a:Int) (ta:Int) (b:Int) (tb:Int) (hF:Few h) (hs:∀ x ∈ h.rooms,x.name.size≤9223372036854775807) (S:AS) (v_h_rooms:Value) (hv_h_rooms:LstR S v_h_rooms h.rooms) (v_h_doors:Value) (hv_h_doors:LstR S v_h_doors h.doors) (v_h_ways:Value) (hv_h_ways:Lst S v_h_ways h.ways) :
  ∃ S',(evL Tryz.prog E0).call 113 #[.agg #[v_h_rooms,v_h_doors,v_h_ways],.int .i64 a,.int .i64 ta,.int .i64 b,.int .i64 tb] S=some (.int .i64 (r113 h a ta b tb),S')∧Agree S S':=by
 have qr:=hF.r; have qd:=hF.d; have qw:=hF.w
 generalize hz:(evL Tryz.prog E0).call 113 _ _=z
 rw [L_call,evCall_said rfl Tryz.func113 rfl (by decide) Tryz.ntmps113 Tryz.results113] at hz
 obtain ⟨S1,e1,n1,b1,a1⟩:=push_open S (.cells [v_h_rooms,v_h_doors,v_h_ways] 26 0 true true)
 have g1:Agree S S1:=a1
 have s1:E0.same S S1=true:=symEnv_same a1
 try simp only [E0_G,SY,setArgs,off,agreeKind,boxed,Nat.reduceAdd,Nat.reduceSub,Nat.reduceLT,Nat.reduceBEq,e1] at hz
 rw [code_draws _ _ _ (by kernel_rfl)] at hz
 generalize hnd2:needy _=nd2 at hz
 obtain ⟨S3,k3,a3⟩:=c102 h a  S1 (v_h_rooms) (hv_h_rooms.agree g1) (v_h_doors) (hv_h_doors.agree g1) (v_h_ways) (hv_h_ways.agree g1)
 have l3:=a3.1
 have s3:E0.same S1 S3=true:=symEnv_same a3
 have v1_3:=(a3.2 S.next (by omega)).trans b1
 have g3:Agree S S3:=g1.trans a3
 try simp (disch:=first|omega|assumption) only [E0_G,SY,agreeKind,vals,ldA,rdCells,aggD,Nat.reduceAdd,Nat.reduceLT,Nat.reduceBEq,TY_EvH28,b1,store_agree,store_refl E0_same,k3] at hz
 rcases dB ((r102 h a)) with ⟨h4a,h4⟩|⟨h4a,h4⟩
 ·have lq5:=r102_iff.1 h4
  obtain ⟨S6,k6,a6⟩:=c88 ta  S3
  have l6:=a6.1
  have s6:E0.same S3 S6=true:=symEnv_same a6
  have v1_6:=(a6.2 S.next (by omega)).trans v1_3
  have g6:Agree S S6:=g3.trans a6
  try simp (disch:=first|omega|assumption) only [E0_G,SY,agreeKind,vals,Nat.reduceAdd,Nat.reduceLT,Nat.reduceBEq,store_agree,store_refl E0_same,h4a,k6] at hz
  rcases dB ((r88 ta)) with ⟨h7a,h7⟩|⟨h7a,h7⟩
  ·have lq8:=r88_iff.1 h7
   obtain ⟨S9,k9,a9⟩:=c102 h b  S6 (v_h_rooms) (hv_h_rooms.agree g6) (v_h_doors) (hv_h_doors.agree g6) (v_h_ways) (hv_h_ways.agree g6)
   have l9:=a9.1
   have s9:E0.same S6 S9=true:=symEnv_same a9
   have g9:Agree S S9:=g6.trans a9
   try simp (disch:=first|omega|assumption) only [E0_G,SY,agreeKind,vals,ldA,rdCells,aggD,Nat.reduceAdd,Nat.reduceLT,Nat.reduceBEq,TY_EvH28,store_agree,store_refl E0_same,v1_6,h7a,k9] at hz
   rcases dB ((r102 h b)) with ⟨h10a,h10⟩|⟨h10a,h10⟩
   ·have lq11:=r102_iff.1 h10
    obtain ⟨S12,k12,a12⟩:=c88 tb  S9
    have l12:=a12.1
    have s12:E0.same S9 S12=true:=symEnv_same a12
    have g12:Agree S S12:=g9.trans a12
    obtain ⟨S13,k13,a13⟩:=c84 h (r88 tb) hF hs S12 (v_h_rooms) (hv_h_rooms.agree g12) (v_h_doors) (hv_h_doors.agree g12) (v_h_ways) (hv_h_ways.agree g12)
    have l13:=a13.1
    have s13:E0.same S12 S13=true:=symEnv_same a13
    have g13:Agree S S13:=g12.trans a13
    try simp (disch:=first|omega|assumption) only [E0_G,SY,agreeKind,vals,Nat.reduceAdd,Nat.reduceLT,Nat.reduceBEq,store_agree,store_refl E0_same,h10a,k12,k13] at hz
    have hr:r113 h a ta b tb=(r84 h (r88 tb)):=(if_pos h4).trans ((if_pos h7).trans ((if_pos h10).trans (rfl)))
    exact fin hz (by rw [hr]) g13
   obtain ⟨S14,k14,a14⟩:=c84 h false hF hs S9 (v_h_rooms) (hv_h_rooms.agree g9) (v_h_doors) (hv_h_doors.agree g9) (v_h_ways) (hv_h_ways.agree g9)
   have l14:=a14.1
   have s14:E0.same S9 S14=true:=symEnv_same a14
   have g14:Agree S S14:=g9.trans a14
   try simp (disch:=first|omega|assumption) only [E0_G,SY,agreeKind,vals,Nat.reduceAdd,Nat.reduceLT,Nat.reduceBEq,store_agree,store_refl E0_same,h10a,k14] at hz
   have hr:r113 h a ta b tb=(r84 h false):=(if_pos h4).trans ((if_pos h7).trans ((if_neg h10).trans (rfl)))
   exact fin hz (by rw [hr]) g14
  obtain ⟨S15,k15,a15⟩:=c84 h false hF hs S6 (v_h_rooms) (hv_h_rooms.agree g6) (v_h_doors) (hv_h_doors.agree g6) (v_h_ways) (hv_h_ways.agree g6)
  have l15:=a15.1
  have s15:E0.same S6 S15=true:=symEnv_same a15
  have g15:Agree S S15:=g6.trans a15
  try simp (disch:=first|omega|assumption) only [E0_G,SY,agreeKind,vals,Nat.reduceAdd,Nat.reduceLT,Nat.reduceBEq,store_agree,store_refl E0_same,h7a,k15] at hz
  have hr:r113 h a ta b tb=(r84 h false):=(if_pos h4).trans ((if_neg h7).trans (rfl))
  exact fin hz (by rw [hr]) g15
 obtain ⟨S16,k16,a16⟩:=c84 h false hF hs S3 (v_h_rooms) (hv_h_rooms.agree g3) (v_h_doors) (hv_h_doors.agree g3) (v_h_ways) (hv_h_ways.agree g3)
 have l16:=a16.1
 have s16:E0.same S3 S16=true:=symEnv_same a16
 have g16:Agree S S16:=g3.trans a16
 try simp (disch:=first|omega|assumption) only [E0_G,SY,agreeKind,vals,Nat.reduceAdd,Nat.reduceLT,Nat.reduceBEq,store_agree,store_refl E0_same,h4a,k16] at hz
 have hr:r113 h a ta b tb=(r84 h false):=(if_neg h4).trans (rfl)
 exact fin hz (by rw [hr]) g16
def r49 (h:Hs) (a:Int) (ta:Int) (b:Int) (tb:Int):Int:=(if (r104 h a ta)=0 then (r104 h b tb) else (r104 h a ta))
theorem r113_ok {h:Hs} {a ta b tb:Int} (e:r113 h a ta b tb=0):r59 h=0∧(0≤a∧a<(h.rooms.length:Int))∧(0≤ta∧ta≤1073741823)∧(0≤b∧b<(h.rooms.length:Int))∧(0≤tb∧tb≤1073741823):=by
 unfold r113 at e
 split at e
 ·rename_i h1
  split at e
  ·rename_i h2
   split at e
   ·rename_i h3
    have q:=r84_ok e
    exact ⟨q.1,r102_iff.1 h1,r88_iff.1 h2,r102_iff.1 h3,r88_iff.1 q.2⟩
   ·exact absurd e r84_false
  ·exact absurd e r84_false
 ·exact absurd e r84_false
theorem r49_ok {h:Hs} {a ta b tb:Int} (e:r49 h a ta b tb=0):r59 h=0∧(0≤a∧a<(h.rooms.length:Int))∧(0≤ta∧ta≤1073741823)∧(0≤b∧b<(h.rooms.length:Int))∧(0≤tb∧tb≤1073741823):=by
 unfold r49 at e
 split at e
 ·rename_i h1
  have q:=r104_ok h1
  have k:=r104_ok e
  exact ⟨q.1,⟨q.2.1,q.2.2.1⟩,q.2.2.2,⟨k.2.1,k.2.2.1⟩,k.2.2.2⟩
 ·rename_i h1; exact absurd e h1
theorem r106_len {h:Hs} (hV:r59 h=0) {fr ti:Int} (ht:0≤ti∧ti≤1073741823):(r106 h fr ti).length=h.rooms.length:=(r109_tm (rooms:=h.rooms.length) (fr:=fr) ht (psg_hg hV)).1.len
theorem rooms_len {h:Hs} (hV:r59 h=0):h.rooms.length≤24:=(valid_parts hV).2.2.1
theorem r41_len (h:Hs) (fr ti:Int):(r41 h fr ti).1.length≤1000:=by
 unfold r41
 split
 ·split
  ·rename_i h2
   have q:=r84_ok h2
   have k:=r106_len (fr:=fr) q.1 (r88_iff.1 q.2)
   have:=rooms_len q.1
   simp only; omega
  ·simp
 ·simp
theorem R43_0_eq (h:Hs) (fr ti:Int):∀ (m:Nat) (pl:List Pg) (k:Nat),m+k=(psg h).length+1→k≤(psg h).length→pl.length=(psg h).length→R43_0 h fr ti m pl k=pl.take k++(pl.drop k).map swp:=by
 intro m
 induction m with
 | zero=>intro pl k h1 h2 _; omega
 | succ m ih =>
  intro pl k h1 h2 h3
  rw [R43_0]
  split
  ·rename_i hk
   have hk':k<pl.length:=by omega
   rw [lget_set_self hk',ih _ _ (by omega) (by omega) (by rw [List.length_set,List.length_set]; exact h3)]
   exact swp_set hk' rfl
  ·have hk:k=pl.length:=by omega
   rw [hk,List.take_length,List.drop_length,List.map_nil,List.append_nil]
theorem R43_0_swp (h:Hs) (fr ti:Int):R43_0 h fr ti ((psg h).length+1) (psg h) 0=(psg h).map swp:=R43_0_eq h fr ti _ _ _ (by omega) (by omega) rfl
theorem R112_3_len (h:Hs) (fr ti:Int) (out:List Int) (done:List Bool) (nv:Nat):∀ (m:List Gt) (o:List Int),(R112_3 h fr ti out done nv m o).length=o.length:=by
 intro m
 induction m with
 | nil=>intro o; rfl
 | cons g m ih=>intro o; rw [R112_3]; split<;>rw [ih]; rw [List.length_set]
theorem R112_1_len (h:Hs) (fr ti:Int):∀ (m:List Rm) (o:List Int) (d:List Bool) (nv:Nat),(onSum (R112_1 h fr ti m o d nv) (fun r=>r) (fun r=>r)).length=o.length:=by
 intro m
 induction m with
 | nil=>intro o d nv; rfl
 | cons x m ih =>
  intro o d nv
  rw [R112_1]
  split
  ·rfl
  ·rw [ih,R112_3_len]
theorem R112_0_eq (h:Hs) (fr ti:Int):∀ (m:List Rm) (o:List Int) (d:List Bool),R112_0 h fr ti m o d=(o++List.replicate m.length (-1),d++List.replicate m.length false):=by
 intro m
 induction m with
 | nil=>intro o d; simp [R112_0]
 | cons x m ih=>intro o d; rw [R112_0,ih]; simp [List.replicate_succ]
theorem r112_len (h:Hs) (fr ti:Int):(r112 h fr ti).length=h.rooms.length:=by
 unfold r112
 rw [R112_1_len,List.length_set,R112_0_eq]; simp
end House
end Go.Proofs
