import Derived.Test.YtohfdkdjfoonjaaGreatDoorBU
set_option linter.unusedSimpArgs false
set_option linter.unusedVariables false
namespace Go.Proofs
namespace House
open Go Go.RowKit Go.Aev
set_option maxRecDepth 100000
theorem TY_EvH28:type_of% TY_EvH27:=TY_EvH27
def r113 (h:Hs) (a:Int) (ta:Int) (b:Int) (tb:Int):Int:=(if (r102 h a)=true then (if (r88 ta)=true then (if (r102 h b)=true then (r84 h (r88 tb)) else (r84 h false)) else (r84 h false)) else (r84 h false))
set_option maxHeartbeats 8000000 in
theorem c113 (h:Hs) (a:Int) (ta:Int) (b:Int) (tb:Int) (hF:Few h) (hs:∀ x ∈ h.rooms,x.name.size≤9223372036854775807) (S:AS) (v_h_rooms:Value) (hv_h_rooms:LstR S v_h_rooms h.rooms) (v_h_doors:Value) (hv_h_doors:LstR S v_h_doors h.doors) (v_h_ways:Value) (hv_h_ways:Lst S v_h_ways h.ways) :
  ∃ S',(evL Tryz.prog E0).call 113 #[.agg #[v_h_rooms,v_h_doors,v_h_ways],.int .i64 a,.int .i64 ta,.int .i64 b,.int .i64 tb] S=some (.int .i64 (r113 h a ta b tb),S')∧Agree S S':=by
 have qr:=hF.r; have qd:=hF.d; have qw:=hF.w
 generalize hz:(evL Tryz.prog E0).call 113 _ _=z
 rw [L_call,evCall_said rfl Tryz.func113 rfl (by decide) Tryz.ntmps113 Tryz.results113] at hz
 obtain ⟨S1,e1,n1,b1,a1⟩:=push_open S (.cells [v_h_rooms,v_h_doors,v_h_ways] 26 0 true true)
 have g1:Agree S S1:=a1
 have s1:E0.same S S1=true:=symEnv_same a1
 try simp only [E0_G,SY,setArgs,off,agreeKind,boxed,Nat.reduceAdd,Nat.reduceSub,Nat.reduceLT,Nat.reduceBEq,e1] at hz
 rw [code_draws _ _ _ (by kernel_rfl)] at hz
 generalize hnd2:needy _=nd2 at hz
 obtain ⟨S3,k3,a3⟩:=c102 h a  S1 (v_h_rooms) (hv_h_rooms.agree g1) (v_h_doors) (hv_h_doors.agree g1) (v_h_ways) (hv_h_ways.agree g1)
 have l3:=a3.1
 have s3:E0.same S1 S3=true:=symEnv_same a3
 have v1_3:=(a3.2 S.next (by omega)).trans b1
 have g3:Agree S S3:=g1.trans a3
 try simp (disch:=first|omega|assumption) only [E0_G,SY,agreeKind,vals,ldA,rdCells,aggD,Nat.reduceAdd,Nat.reduceLT,Nat.reduceBEq,TY_EvH28,b1,store_agree,store_refl E0_same,k3] at hz
 rcases dB ((r102 h a)) with ⟨h4a,h4⟩|⟨h4a,h4⟩
 ·have lq5:=r102_iff.1 h4
  obtain ⟨S6,k6,a6⟩:=c88 ta  S3
  have l6:=a6.1
  have s6:E0.same S3 S6=true:=symEnv_same a6
  have v1_6:=(a6.2 S.next (by omega)).trans v1_3
  have g6:Agree S S6:=g3.trans a6
  try simp (disch:=first|omega|assumption) only [E0_G,SY,agreeKind,vals,Nat.reduceAdd,Nat.reduceLT,Nat.reduceBEq,store_agree,store_refl E0_same,h4a,k6] at hz
  rcases dB ((r88 ta)) with ⟨h7a,h7⟩|⟨h7a,h7⟩
  ·have lq8:=r88_iff.1 h7
   obtain ⟨S9,k9,a9⟩:=c102 h b  S6 (v_h_rooms) (hv_h_rooms.agree g6) (v_h_doors) (hv_h_doors.agree g6) (v_h_ways) (hv_h_ways.agree g6)
   have l9:=a9.1
   have s9:E0.same S6 S9=true:=symEnv_same a9
   have g9:Agree S S9:=g6.trans a9
   try simp (disch:=first|omega|assumption) only [E0_G,SY,agreeKind,vals,ldA,rdCells,aggD,Nat.reduceAdd,Nat.reduceLT,Nat.reduceBEq,TY_EvH28,store_agree,store_refl E0_same,v1_6,h7a,k9] at hz
   rcases dB ((r102 h b)) with ⟨h10a,h10⟩|⟨h10a,h10⟩
   ·have lq11:=r102_iff.1 h10
    obtain ⟨S12,k12,a12⟩:=c88 tb  S9
    have l12:=a12.1
    have s12:E0.same S9 S12=true:=symEnv_same a12
    have g12:Agree S S12:=g9.trans a12
    obtain ⟨S13,k13,a13⟩:=c84 h (r88 tb) hF hs S12 (v_h_rooms) (hv_h_rooms.agree g12) (v_h_doors) (hv_h_doors.agree g12) (v_h_ways) (hv_h_ways.agree g12)
    have l13:=a13.1
    have s13:E0.same S12 S13=true:=symEnv_same a13
    have g13:Agree S S13:=g12.trans a13
    try simp (disch:=first|omega|assumption) only [E0_G,SY,agreeKind,vals,Nat.reduceAdd,Nat.reduceLT,Nat.reduceBEq,store_agree,store_refl E0_same,h10a,k12,k13] at hz
    have hr:r113 h a ta b tb=(r84 h (r88 tb)):=(if_pos h4).trans ((if_pos h7).trans ((if_pos h10).trans (rfl)))
    exact fin hz (by rw [hr]) g13
   obtain ⟨S14,k14,a14⟩:=c84 h false hF hs S9 (v_h_rooms) (hv_h_rooms.agree g9) (v_h_doors) (hv_h_doors.agree g9) (v_h_ways) (hv_h_ways.agree g9)
   have l14:=a14.1
   have s14:E0.same S9 S14=true:=symEnv_same a14
   have g14:Agree S S14:=g9.trans a14
   try simp (disch:=first|omega|assumption) only [E0_G,SY,agreeKind,vals,Nat.reduceAdd,Nat.reduceLT,Nat.reduceBEq,store_agree,store_refl E0_same,h10a,k14] at hz
   have hr:r113 h a ta b tb=(r84 h false):=(if_pos h4).trans ((if_pos h7).trans ((if_neg h10).trans (rfl)))
   exact fin hz (by rw [hr]) g14
  obtain ⟨S15,k15,a15⟩:=c84 h false hF hs S6 (v_h_rooms) (hv_h_rooms.agree g6) (v_h_doors) (hv_h_doors.agree g6) (v_h_ways) (hv_h_ways.agree g6)
  have l15:=a15.1
  have s15:E0.same S6 S15=true:=symEnv_same a15
  have g15:Agree S S15:=g6.trans a15
  try simp (disch:=first|omega|assumption) only [E0_G,SY,agreeKind,vals,Nat.reduceAdd,Nat.reduceLT,Nat.reduceBEq,store_agree,store_refl E0_same,h7a,k15] at hz
  have hr:r113 h a ta b tb=(r84 h false):=(if_pos h4).trans ((if_neg h7).trans (rfl))
  exact fin hz (by rw [hr]) g15
 obtain ⟨S16,k16,a16⟩:=c84 h false hF hs S3 (v_h_rooms) (hv_h_rooms.agree g3) (v_h_doors) (hv_h_doors.agree g3) (v_h_ways) (hv_h_ways.agree g3)
 have l16:=a16.1
 have s16:E0.same S3 S16=true:=symEnv_same a16
 have g16:Agree S S16:=g3.trans a16
 try simp (disch:=first|omega|assumption) only [E0_G,SY,agreeKind,vals,Nat.reduceAdd,Nat.reduceLT,Nat.reduceBEq,store_agree,store_refl E0_same,h4a,k16] at hz
 have hr:r113 h a ta b tb=(r84 h false):=(if_neg h4).trans (rfl)
 exact fin hz (by rw [hr]) g16
def r49 (h:Hs) (a:Int) (ta:Int) (b:Int) (tb:Int):Int:=(if (r104 h a ta)=0 then (r104 h b tb) else (r104 h a ta))
set_option maxHeartbeats 8000000 in
theorem c49 (h:Hs) (a:Int) (ta:Int) (b:Int) (tb:Int) (hF:Few h) (S:AS) (v_h_rooms:Value) (hv_h_rooms:LstR S v_h_rooms h.rooms) (v_h_doors:Value) (hv_h_doors:LstR S v_h_doors h.doors) (v_h_ways:Value) (hv_h_ways:Lst S v_h_ways h.ways) :
  ∃ S',(evL Tryz.prog E0).call 49 #[.agg #[v_h_rooms,v_h_doors,v_h_ways],.int .i64 a,.int .i64 ta,.int .i64 b,.int .i64 tb] S=some (.int .i64 (r49 h a ta b tb),S')∧Agree S S':=by
 have qr:=hF.r; have qd:=hF.d; have qw:=hF.w
 generalize hz:(evL Tryz.prog E0).call 49 _ _=z
 rw [L_call,evCall_said rfl Tryz.func49 rfl (by decide) Tryz.ntmps49 Tryz.results49] at hz
 obtain ⟨S1,e1,n1,b1,a1⟩:=push_open S (.cells [v_h_rooms,v_h_doors,v_h_ways] 26 0 true true)
 have g1:Agree S S1:=a1
 obtain ⟨S2,k2,a2⟩:=c104 h a ta hF S1 (v_h_rooms) (hv_h_rooms.agree g1) (v_h_doors) (hv_h_doors.agree g1) (v_h_ways) (hv_h_ways.agree g1)
 have l2:=a2.1
 have v1_2:=(a2.2 S.next (by omega)).trans b1
 have g2:Agree S S2:=g1.trans a2
 try simp only [E0_G,SY,setArgs,off,agreeKind,vals,boxed,ldA,rdCells,aggD,Nat.reduceAdd,Nat.reduceSub,Nat.reduceLT,Nat.reduceBEq,TY_EvH28,e1,b1,k2] at hz
 rcases dP ((r104 h a ta)=0) with ⟨h3a,h3⟩|⟨h3a,h3⟩
 ·have hV:=(r104_ok h3).1
  have lq4:=(r104_ok h3).2
  obtain ⟨S5,k5,a5⟩:=c104 h b tb hF S2 (v_h_rooms) (hv_h_rooms.agree g2) (v_h_doors) (hv_h_doors.agree g2) (v_h_ways) (hv_h_ways.agree g2)
  have l5:=a5.1
  have g5:Agree S S5:=g2.trans a5
  try simp only [E0_G,SY,off,agreeKind,vals,ldA,rdCells,aggD,Nat.reduceAdd,Nat.reduceLT,Nat.reduceBEq,TY_EvH28,v1_2,h3a,k5] at hz
  have hr:r49 h a ta b tb=(r104 h b tb):=(if_pos h3).trans (rfl)
  exact fin hz (by rw [hr]) g5
 try simp only [E0_G,SY,off,agreeKind,Nat.reduceAdd,Nat.reduceLT,Nat.reduceBEq,h3a] at hz
 have hr:r49 h a ta b tb=(r104 h a ta):=(if_neg h3).trans (rfl)
 exact fin hz (by rw [hr]) g2
theorem r113_ok {h:Hs} {a ta b tb:Int} (e:r113 h a ta b tb=0):r59 h=0∧(0≤a∧a<(h.rooms.length:Int))∧(0≤ta∧ta≤1073741823)∧(0≤b∧b<(h.rooms.length:Int))∧(0≤tb∧tb≤1073741823):=by
 unfold r113 at e
 split at e
 ·rename_i h1
  split at e
  ·rename_i h2
   split at e
   ·rename_i h3
    have q:=r84_ok e
    exact ⟨q.1,r102_iff.1 h1,r88_iff.1 h2,r102_iff.1 h3,r88_iff.1 q.2⟩
   ·exact absurd e r84_false
  ·exact absurd e r84_false
 ·exact absurd e r84_false
theorem r49_ok {h:Hs} {a ta b tb:Int} (e:r49 h a ta b tb=0):r59 h=0∧(0≤a∧a<(h.rooms.length:Int))∧(0≤ta∧ta≤1073741823)∧(0≤b∧b<(h.rooms.length:Int))∧(0≤tb∧tb≤1073741823):=by
 unfold r49 at e
 split at e
 ·rename_i h1
  have q:=r104_ok h1
  have k:=r104_ok e
  exact ⟨q.1,⟨q.2.1,q.2.2.1⟩,q.2.2.2,⟨k.2.1,k.2.2.1⟩,k.2.2.2⟩
 ·rename_i h1; exact absurd e h1
theorem r106_len {h:Hs} (hV:r59 h=0) {fr ti:Int} (ht:0≤ti∧ti≤1073741823):(r106 h fr ti).length=h.rooms.length:=(r109_tm (rooms:=h.rooms.length) (fr:=fr) ht (psg_hg hV)).1.len
theorem rooms_len {h:Hs} (hV:r59 h=0):h.rooms.length≤24:=(valid_parts hV).2.2.1
theorem r41_len (h:Hs) (fr ti:Int):(r41 h fr ti).1.length≤1000:=by
 unfold r41
 split
 ·split
  ·rename_i h2
   have q:=r84_ok h2
   have k:=r106_len (fr:=fr) q.1 (r88_iff.1 q.2)
   have:=rooms_len q.1
   simp only; omega
  ·simp
 ·simp
theorem R43_1_len (h:Hs) (fr ti:Int):∀ (m:Nat) (l:List Int) (k:Nat),(R43_1 h fr ti m l k).length=l.length:=by
 intro m
 induction m with
 | zero=>intro l k; rfl
 | succ m ih =>
  intro l k
  rw [R43_1]
  split
  ·rw [ih,List.length_set]
  ·rfl
theorem R43_0_eq (h:Hs) (fr ti:Int):∀ (m:Nat) (pl:List Pg) (k:Nat),m+k=(psg h).length+1→k≤(psg h).length→pl.length=(psg h).length→R43_0 h fr ti m pl k=pl.take k++(pl.drop k).map swp:=by
 intro m
 induction m with
 | zero=>intro pl k h1 h2 _; omega
 | succ m ih =>
  intro pl k h1 h2 h3
  rw [R43_0]
  split
  ·rename_i hk
   have hk':k<pl.length:=by omega
   rw [lget_set_self hk',ih _ _ (by omega) (by omega) (by rw [List.length_set,List.length_set]; exact h3)]
   exact swp_set hk' rfl
  ·have hk:k=pl.length:=by omega
   rw [hk,List.take_length,List.drop_length,List.map_nil,List.append_nil]
theorem R43_0_swp (h:Hs) (fr ti:Int):R43_0 h fr ti ((psg h).length+1) (psg h) 0=(psg h).map swp:=R43_0_eq h fr ti _ _ _ (by omega) (by omega) rfl
theorem r43_len (h:Hs) (fr ti:Int):(r43 h fr ti).1.length≤1000:=by
 unfold r43
 split
 ·split
  ·rename_i h2
   have q:=r84_ok h2
   have ht:=r88_iff.1 q.2
   have k:=(r109_tm (rooms:=h.rooms.length) (fr:=fr) (ti:=r110 ti) (by have:r110 ti=1073741823 - ti:=rfl; omega) (swp_hg q.1 (R43_0_swp h fr ti))).1.len
   have:=rooms_len q.1
   simp only [R43_1_len]; omega
  ·simp
 ·simp
def r45 (h:Hs) (a:Int) (ta:Int) (b:Int) (tb:Int):Bool × Int:=(if (r113 h a ta b tb)=0 then (decide ((lget (r106 h a ta) (Int.toNat b))≤tb),0) else (false,(r113 h a ta b tb)))
set_option maxHeartbeats 8000000 in
theorem c45 (h:Hs) (a:Int) (ta:Int) (b:Int) (tb:Int) (hF:Few h) (hs:∀ x ∈ h.rooms,x.name.size≤9223372036854775807) (S:AS) (v_h_rooms:Value) (hv_h_rooms:LstR S v_h_rooms h.rooms) (v_h_doors:Value) (hv_h_doors:LstR S v_h_doors h.doors) (v_h_ways:Value) (hv_h_ways:Lst S v_h_ways h.ways) :
  ∃ S',(evL Tryz.prog E0).call 45 #[.agg #[v_h_rooms,v_h_doors,v_h_ways],.int .i64 a,.int .i64 ta,.int .i64 b,.int .i64 tb] S=some (.tuple #[.bool (r45 h a ta b tb).1,.int .i64 (r45 h a ta b tb).2],S')∧Agree S S':=by
 have qr:=hF.r; have qd:=hF.d; have qw:=hF.w
 generalize hz:(evL Tryz.prog E0).call 45 _ _=z
 rw [L_call,evCall_said rfl Tryz.func45 rfl (by decide) Tryz.ntmps45 Tryz.results45] at hz
 obtain ⟨S1,e1,n1,b1,a1⟩:=push_open S (.cells [v_h_rooms,v_h_doors,v_h_ways] 26 0 true true)
 have g1:Agree S S1:=a1
 obtain ⟨S2,k2,a2⟩:=c113 h a ta b tb hF hs S1 (v_h_rooms) (hv_h_rooms.agree g1) (v_h_doors) (hv_h_doors.agree g1) (v_h_ways) (hv_h_ways.agree g1)
 have l2:=a2.1
 have v1_2:=(a2.2 S.next (by omega)).trans b1
 have g2:Agree S S2:=g1.trans a2
 try simp only [E0_G,SY,setArgs,off,agreeKind,vals,boxed,ldA,rdCells,aggD,Nat.reduceAdd,Nat.reduceSub,Nat.reduceLT,Nat.reduceBEq,TY_EvH28,e1,b1,k2] at hz
 rcases dP ((r113 h a ta b tb)=0) with ⟨h3a,h3⟩|⟨h3a,h3⟩
 ·have hV:=(r113_ok h3).1
  have lq4:=(r113_ok h3).2
  obtain ⟨u5,S5,k5,a5,oo5⟩:=c106 h a ta hF hV (by omega) (by omega) S2 (v_h_rooms) (hv_h_rooms.agree g2) (v_h_doors) (hv_h_doors.agree g2) (v_h_ways) (hv_h_ways.agree g2)
  have l5:=a5.1
  obtain ⟨pu5,nu5,cu5,rfl⟩:=own_slice oo5
  have g5:Agree S S5:=g2.trans a5
  have p5:=r106_len (fr:=a) hV (show 0≤ta∧ta≤1073741823 by omega)
  have qz6:((Int.toNat b:Nat):Int)=b:=Int.toNat_of_nonneg (by first|omega|simp; omega)
  have hx7:(r106 h a ta)[(Int.toNat b)]?=some (lget (r106 h a ta) (Int.toNat b)):=lget_some (by first|omega|simp; omega)
  obtain ⟨id7,of7,cc7,ty7,wr7,ex7,i7,j7,l7,q7,lb7,bk7,oq7⟩:=oo5.at4 (P:=Tryz.prog) (t:=54) Tryz.underlying54 tz3 hx7
  have m7_0:cc7[of7]?=some (.int .i64 (lget (r106 h a ta) (Int.toNat b))):=q7 0 (show 0<1 by decide)
  rw [qz6] at i7
  try simp only [E0_G,SY,off,agreeKind,vals,ldA,rdCells,aggD,Nat.reduceAdd,Nat.reduceLT,Nat.reduceBEq,TY_EvH28,v1_2,h3a,k5,i7,j7,m7_0] at hz
  have hr:r45 h a ta b tb=(decide ((lget (r106 h a ta) (Int.toNat b))≤tb),0):=(if_pos h3).trans (rfl)
  exact fin hz (by rw [hr]) g5
 try simp only [E0_G,SY,off,agreeKind,Nat.reduceAdd,Nat.reduceLT,Nat.reduceBEq,h3a] at hz
 have hr:r45 h a ta b tb=(false,(r113 h a ta b tb)):=(if_neg h3).trans (rfl)
 exact fin hz (by rw [hr]) g2
theorem R50_3_len (h:Hs) (fr ti:Int) (out:List Int) (done:List Bool) (nv:Nat):∀ (m:List Gt) (o:List Int),(R50_3 h fr ti out done nv m o).length=o.length:=by
 intro m
 induction m with
 | nil=>intro o; rfl
 | cons g m ih=>intro o; rw [R50_3]; split<;>rw [ih]; rw [List.length_set]
theorem R50_1_len (h:Hs) (fr ti:Int):∀ (m:List Rm) (o:List Int) (d:List Bool) (nv:Nat),(onSum (R50_1 h fr ti m o d nv) (fun r=>r) (fun r=>r)).length=o.length:=by
 intro m
 induction m with
 | nil=>intro o d nv; rfl
 | cons x m ih =>
  intro o d nv
  rw [R50_1]
  split
  ·rfl
  ·rw [ih,R50_3_len]
theorem R50_0_eq (h:Hs) (fr ti:Int):∀ (m:List Rm) (o:List Int) (d:List Bool),R50_0 h fr ti m o d=(o++List.replicate m.length 1073741824,d++List.replicate m.length false):=by
 intro m
 induction m with
 | nil=>intro o d; simp [R50_0]
 | cons x m ih=>intro o d; rw [R50_0,ih]; simp [List.replicate_succ]
theorem r50_len (h:Hs) (fr ti:Int):(r50 h fr ti).length=h.rooms.length:=by
 unfold r50
 rw [R50_1_len,List.length_set,R50_0_eq]; simp
theorem R112_0_eq (h:Hs) (fr ti:Int):∀ (m:List Rm) (o:List Int) (d:List Bool),R112_0 h fr ti m o d=(o++List.replicate m.length (-1),d++List.replicate m.length false):=by
 intro m
 induction m with
 | nil=>intro o d; simp [R112_0]
 | cons x m ih=>intro o d; rw [R112_0,ih]; simp [List.replicate_succ]
def r46 (h:Hs) (a:Int) (ta:Int) (b:Int) (tb:Int):Bool × Int:=(if (r49 h a ta b tb)=0 then (decide ((lget (r50 h a ta) (Int.toNat b))≤tb),0) else (false,(r49 h a ta b tb)))
set_option maxHeartbeats 8000000 in
theorem c46 (h:Hs) (a:Int) (ta:Int) (b:Int) (tb:Int) (hF:Few h) (S:AS) (v_h_rooms:Value) (hv_h_rooms:LstR S v_h_rooms h.rooms) (v_h_doors:Value) (hv_h_doors:LstR S v_h_doors h.doors) (v_h_ways:Value) (hv_h_ways:Lst S v_h_ways h.ways) :
  ∃ S',(evL Tryz.prog E0).call 46 #[.agg #[v_h_rooms,v_h_doors,v_h_ways],.int .i64 a,.int .i64 ta,.int .i64 b,.int .i64 tb] S=some (.tuple #[.bool (r46 h a ta b tb).1,.int .i64 (r46 h a ta b tb).2],S')∧Agree S S':=by
 have qr:=hF.r; have qd:=hF.d; have qw:=hF.w
 generalize hz:(evL Tryz.prog E0).call 46 _ _=z
 rw [L_call,evCall_said rfl Tryz.func46 rfl (by decide) Tryz.ntmps46 Tryz.results46] at hz
 obtain ⟨S1,e1,n1,b1,a1⟩:=push_open S (.cells [v_h_rooms,v_h_doors,v_h_ways] 26 0 true true)
 have g1:Agree S S1:=a1
 obtain ⟨S2,k2,a2⟩:=c49 h a ta b tb hF S1 (v_h_rooms) (hv_h_rooms.agree g1) (v_h_doors) (hv_h_doors.agree g1) (v_h_ways) (hv_h_ways.agree g1)
 have l2:=a2.1
 have v1_2:=(a2.2 S.next (by omega)).trans b1
 have g2:Agree S S2:=g1.trans a2
 try simp only [E0_G,SY,setArgs,off,agreeKind,vals,boxed,ldA,rdCells,aggD,Nat.reduceAdd,Nat.reduceSub,Nat.reduceLT,Nat.reduceBEq,TY_EvH28,e1,b1,k2] at hz
 rcases dP ((r49 h a ta b tb)=0) with ⟨h3a,h3⟩|⟨h3a,h3⟩
 ·have hV:=(r49_ok h3).1
  have lq4:=(r49_ok h3).2
  obtain ⟨u5,S5,k5,a5,oo5⟩:=c50 h a ta hF hV (by omega) (by omega) S2 (v_h_rooms) (hv_h_rooms.agree g2) (v_h_doors) (hv_h_doors.agree g2) (v_h_ways) (hv_h_ways.agree g2)
  have l5:=a5.1
  obtain ⟨pu5,nu5,cu5,rfl⟩:=own_slice oo5
  have g5:Agree S S5:=g2.trans a5
  have p5:=r50_len h a ta
  have qz6:((Int.toNat b:Nat):Int)=b:=Int.toNat_of_nonneg (by first|omega|simp; omega)
  have hx7:(r50 h a ta)[(Int.toNat b)]?=some (lget (r50 h a ta) (Int.toNat b)):=lget_some (by first|omega|simp; omega)
  obtain ⟨id7,of7,cc7,ty7,wr7,ex7,i7,j7,l7,q7,lb7,bk7,oq7⟩:=oo5.at4 (P:=Tryz.prog) (t:=54) Tryz.underlying54 tz3 hx7
  have m7_0:cc7[of7]?=some (.int .i64 (lget (r50 h a ta) (Int.toNat b))):=q7 0 (show 0<1 by decide)
  rw [qz6] at i7
  try simp only [E0_G,SY,off,agreeKind,vals,ldA,rdCells,aggD,Nat.reduceAdd,Nat.reduceLT,Nat.reduceBEq,TY_EvH28,v1_2,h3a,k5,i7,j7,m7_0] at hz
  have hr:r46 h a ta b tb=(decide ((lget (r50 h a ta) (Int.toNat b))≤tb),0):=(if_pos h3).trans (rfl)
  exact fin hz (by rw [hr]) g5
 try simp only [E0_G,SY,off,agreeKind,Nat.reduceAdd,Nat.reduceLT,Nat.reduceBEq,h3a] at hz
 have hr:r46 h a ta b tb=(false,(r49 h a ta b tb)):=(if_neg h3).trans (rfl)
 exact fin hz (by rw [hr]) g2
def R47_0 (l:List Int) (q:List Int)  : List Int→Nat→Sum (Bool) (Unit)
 | [],k=>.inr ()
 | x4 :: l',k=>(if x4=(lget q k) then R47_0 l q l' (k+1) else .inl false)
def r47 (l:List Int) (q:List Int):Bool:=(if (l.length:Int)=(q.length:Int) then (onSum (R47_0 l q l 0) (fun (r4:Bool)=>r4) (fun (_:Unit)=>true)) else false)
set_option maxHeartbeats 2000000 in
theorem c47 (l:List Int) (q:List Int) (hl:l.length≤1000) (S:AS) (v_l:Value) (hv_l:Lst S v_l l) (v_q:Value) (hv_q:Lst S v_q q) :
  ∃ S',(evL Tryz.prog E0).call 47 #[v_l,v_q] S=some (.bool (r47 l q),S')∧Agree S S':=by
 generalize hz:(evL Tryz.prog E0).call 47 _ _=z
 rw [L_call,evCall_said rfl Tryz.func47 rfl (by decide) Tryz.ntmps47 Tryz.results47] at hz
 have w1:=(hv_l).len (P:=Tryz.prog) (t:=54) Tryz.underlying54
 have w2:=(hv_q).len (P:=Tryz.prog) (t:=54) Tryz.underlying54
 try simp only [E0_G,SY,setArgs,off,agreeKind,Nat.reduceAdd,Nat.reduceSub,Nat.reduceLT,Nat.reduceBEq,w1,w2] at hz
 rcases dP ((l.length:Int)=(q.length:Int)) with ⟨h3a,h3⟩|⟨h3a,h3⟩
 ·try simp only [E0_G,SY,off,agreeKind,Nat.reduceLT,h3a] at hz
  generalize hL4:Rec.loop _ _ _ _=L4 at hz
  obtain ⟨x4,t4,S4e,rfl,hQ4⟩:=loop_met hL4 (fun m t S'=>∃ (k:Nat),m+k=l.length∧k≤l.length∧t.get 0=some (v_l)∧t.get 1=some (v_q)∧t.get 5=some (.int .i64 (k:Int))∧Agree S S'∧S.next≤S'.next∧R47_0 l q (l.drop k) k=R47_0 l q l 0)
   (fun x t S'=>(x=.exit 0∧∃ (k:Nat),Agree S S'∧S.next≤S'.next∧k≤l.length∧R47_0 l q l 0=.inr ())∨(x=.ret∧∃ (r4:Bool),t.get 4=some (.bool r4)∧Agree S S'∧R47_0 l q l 0=.inl (r4))) (l.length - 0) (by refine ⟨0,?_,?_,?_,?_,?_,(Agree.refl S),Nat.le_refl _,rfl⟩<;>first|(simp only [SY,eq_self,Nat.reduceBEq]<;>rfl)|omega|assumption|(simp; omega)|simp) (by
    rintro m t S4 ⟨k,hi4_0,hi4_1,g4_0,g4_1,g4_5,ga4,gn4,hd4⟩
    refine .run fun z he=>?_
    have w5:=(hv_l.agree ga4).len (P:=Tryz.prog) (t:=54) Tryz.underlying54
    try simp only [E0_G,SY,off,agreeKind,Nat.reduceAdd,Nat.reduceLT,Nat.reduceBEq,g4_0,g4_5,w1] at he
    rcases dP ((k:Int)<(l.length:Int)) with ⟨h6a,h6⟩|⟨h6a,h6⟩
    ·try simp only [SY,h6a] at he
     rw [code_draws _ _ _ (by kernel_rfl)] at he
     generalize hnd7:needy _=nd7 at he
     have hx4:l[k]?=some (l[k]'(by first|omega|simp; omega)):=List.getElem?_eq_getElem _
     generalize l[k]'_=x4 at hx4
     obtain ⟨id8,of8,cc8,ty8,wr8,ex8,i8,j8,l8,q8⟩:=(hv_l).at (P:=Tryz.prog) (t:=54) Tryz.underlying54 tz3 hx4
     have j8:=(ga4.2 id8 l8).trans j8
     have m8_0:cc8[of8]?=some (.int .i64 x4):=q8 0 (show 0<1 by decide)
     have hx9:q[k]?=some (lget q k):=lget_some (by first|omega|simp; omega)
     obtain ⟨id9,of9,cc9,ty9,wr9,ex9,i9,j9,l9,q9⟩:=(hv_q).at (P:=Tryz.prog) (t:=54) Tryz.underlying54 tz3 hx9
     have j9:=(ga4.2 id9 l9).trans j9
     have m9_0:cc9[of9]?=some (.int .i64 (lget q k)):=q9 0 (show 0<1 by decide)
     try simp only [E0_G,SY,agreeKind,ldA,aggD,Nat.reduceAdd,Nat.reduceLT,Nat.reduceBEq,TY_EvH28,g4_0,g4_1,g4_5,store_refl E0_same,i8,j8,m8_0,i9,j9,m9_0] at he
     rcases dP (x4=(lget q k)) with ⟨h10a,h10⟩|⟨h10a,h10⟩
     ·have w11:IntKind.i64.wrap ((k:Int)+1)=((k+1:Nat):Int):=by rw [IntWalk.i64_in]<;>omega
      try simp only [E0_G,SY,off,agreeKind,Nat.reduceAdd,Nat.reduceLT,Nat.reduceBEq,g4_5,store_refl E0_same,h10a,w11] at he
      rw [drop_cons' hx4] at hd4
      have hf:=(show _=(R47_0 l q (l.drop (k+1)) (k+1):Sum (Bool) (Unit)) from (if_pos h10).trans (rfl)).symm.trans hd4
      refine .next he (m - 1) (by omega) ⟨(k+1),?_,?_,?_,?_,?_,ga4,by omega,hf⟩<;>first|(simp only [SY,eq_self,Nat.reduceBEq,g4_0,g4_1,g4_5]<;>rfl)|omega|assumption|(simp; omega)|simp
     try simp only [E0_G,SY,off,agreeKind,Nat.reduceLT,store_refl E0_same,h10a] at he
     rw [drop_cons' hx4] at hd4
     have hf:=(show _=(.inl false:Sum (Bool) (Unit)) from (if_neg h10).trans (rfl)).symm.trans hd4
     refine .ret he (.inr ⟨rfl,⟨false,?_,ga4,hf.symm⟩⟩)<;>first|(simp only [SY,eq_self,Nat.reduceBEq]<;>rfl)|omega|assumption|(simp; omega)|simp
    try simp only [SY,h6a] at he
    rw [List.drop_eq_nil_of_le (show l.length≤k by omega)] at hd4
    have hf:=(show _=(.inr ():Sum (Bool) (Unit)) from rfl).symm.trans hd4
    refine .exit he (.inl ⟨rfl,⟨k,ga4,by omega,?_,hf.symm⟩⟩)<;>first|(simp only [SY,setArgs,off,agreeKind,partVals,vals,allocV,boxed,ldA,rdCells,oneB,aggD,aField,aFieldV,aExtract,eq_self,ne_eq,if_true,if_false,not_false_eq_true,Nat.reduceAdd,Nat.reduceSub,Nat.reduceMul,Nat.reduceLT,Nat.reduceEqDiff,Nat.reduceBEq,reduceIte,Int.reduceEq,Int.reduceLT,Int.reduceLE,reduceCtorEq,g4_0,g4_1,g4_5]<;>rfl)|omega|assumption|(simp; omega)|simp)
  rcases hQ4 with ⟨rfl,hQ4⟩|⟨rfl,hQ4⟩
  ·obtain ⟨k,ge4,gm4,hj4_0,hR4⟩:=hQ4
   try simp only [E0_G,SY,off,agreeKind,eq_self,if_true,Nat.reduceLT,Nat.reduceBEq] at hz
   have hr:r47 l q=true:=(if_pos h3).trans ((onSum_inr hR4).trans (rfl))
   exact fin hz (by rw [hr]) ge4
  obtain ⟨r4,ge4_4,ge4,hR4⟩:=hQ4
  try simp only [SY,ge4_4] at hz
  have hr:r47 l q=r4:=(if_pos h3).trans ((onSum_inl hR4).trans (rfl))
  exact fin hz (by rw [hr]) ge4
 try simp only [E0_G,SY,off,agreeKind,Nat.reduceLT,Nat.reduceBEq,h3a] at hz
 have hr:r47 l q=false:=(if_neg h3).trans (rfl)
 exact fin hz (by rw [hr]) (Agree.refl S)
def r7 (h:Hs) (a:Int) (ta:Int) (b:Int) (tb:Int):Bool:=(if (r20 h)=true then (if ((r41 h a ta).2)=(((r42 h a ta)).2) then (if (r47 ((r41 h a ta).1:List Int) (((r42 h a ta).1):List Int))=true then (if ((r43 h b tb).2)=(((r44 h b tb)).2) then (if (r47 ((r43 h b tb).1:List Int) (((r44 h b tb).1):List Int))=true then (if ((r45 h a ta b tb).1)=((r46 h a ta b tb).1) then decide (((r45 h a ta b tb).2)=((r46 h a ta b tb).2)) else false) else false) else false) else false) else false) else true)
set_option maxHeartbeats 16000000 in
theorem c7 (h:Hs) (a:Int) (ta:Int) (b:Int) (tb:Int) (hs:∀ x ∈ h.rooms,x.name.size≤9223372036854775807) (S:AS) (v_h_rooms:Value) (hv_h_rooms:LstR S v_h_rooms h.rooms) (v_h_doors:Value) (hv_h_doors:LstR S v_h_doors h.doors) (v_h_ways:Value) (hv_h_ways:Lst S v_h_ways h.ways) :
  ∃ S',(evL Tryz.prog E0).call 7 #[.agg #[v_h_rooms,v_h_doors,v_h_ways],.int .i64 a,.int .i64 ta,.int .i64 b,.int .i64 tb] S=some (.bool (r7 h a ta b tb),S')∧Agree S S':=by
 generalize hz:(evL Tryz.prog E0).call 7 _ _=z
 rw [L_call,evCall_said rfl Tryz.func7 rfl (by decide) Tryz.ntmps7 Tryz.results7] at hz
 obtain ⟨S1,e1,n1,b1,a1⟩:=push_open S (.cells [v_h_rooms,v_h_doors,v_h_ways] 26 0 true true)
 have g1:Agree S S1:=a1
 obtain ⟨S2,k2,a2⟩:=c20 h  S1 (v_h_rooms) (hv_h_rooms.agree g1) (v_h_doors) (hv_h_doors.agree g1) (v_h_ways) (hv_h_ways.agree g1)
 have l2:=a2.1
 have v1_2:=(a2.2 S.next (by omega)).trans b1
 have g2:Agree S S2:=g1.trans a2
 try simp only [E0_G,SY,setArgs,off,agreeKind,vals,boxed,ldA,rdCells,aggD,Nat.reduceAdd,Nat.reduceSub,Nat.reduceLT,Nat.reduceBEq,TY_EvH28,e1,b1,k2] at hz
 rcases dB ((r20 h)) with ⟨h3a,h3⟩|⟨h3a,h3⟩
 ·obtain ⟨u4,S4,k4,a4,oo4⟩:=c41 h a ta (few_of (show r20 h=true by assumption)) hs S2 (v_h_rooms) (hv_h_rooms.agree g2) (v_h_doors) (hv_h_doors.agree g2) (v_h_ways) (hv_h_ways.agree g2)
  have l4:=a4.1
  obtain ⟨pu4,nu4,cu4,rfl⟩:=own_slice oo4
  have v1_4:=(a4.2 S.next (by omega)).trans v1_2
  have g4:Agree S S4:=g2.trans a4
  obtain ⟨u5_0,S5,k5,a5,oo5_0⟩:=c42 h a ta (few_of (show r20 h=true by assumption)) S4 (v_h_rooms) (hv_h_rooms.agree g4) (v_h_doors) (hv_h_doors.agree g4) (v_h_ways) (hv_h_ways.agree g4)
  obtain ⟨pu5_0,nu5_0,cu5_0,rfl⟩:=own_slice oo5_0
  have ap6:∀ b,blkOf (.slice pu4 nu4 cu4)=some b→blkOf (.slice pu5_0 nu5_0 cu5_0)≠some b:=fun b hb=>oo5_0.ne (Nat.lt_of_lt_of_le (oo4.lt hb) (by omega))
  have l5:=a5.1
  have v1_5:=(a5.2 S.next (by omega)).trans v1_4
  have o4_7:=oo4.agree a5
  have g5:Agree S S5:=g4.trans a5
  obtain ⟨S8,e8,n8,b8,a8⟩:=push_open S5 (.cells [.slice none 0 0,.int .i64 0] 58 0 true true)
  have v1_8:=(a8.2 S.next (by omega)).trans v1_5
  have o4_9:=o4_7.agree a8
  have o5_10:=oo5_0.agree a8
  have g8:Agree S S8:=g5.trans a8
  have ne11:blkOf (.slice pu4 nu4 cu4)≠some S5.next:=o4_7.new (Nat.le_refl _)
  have ne12:blkOf (.slice pu5_0 nu5_0 cu5_0)≠some S5.next:=oo5_0.new (Nat.le_refl _)
  obtain ⟨S13,k13,n13,b13,q13⟩:=st_at (o:=0) (c':=[.slice pu5_0 nu5_0 cu5_0,.int .i64 (((r42 h a ta)).2)]) (v:=.agg #[.slice pu5_0 nu5_0 cu5_0,.int .i64 (((r42 h a ta)).2)]) tz58 b8 rfl rfl (show 0+2≤2 by decide) rfl
  have v1_13:=(q13 S.next (by omega)).trans v1_8
  have o4_14:=o4_9.frame (by omega) (fun id hid hb=>q13 id (fun e=>(show blkOf (.slice pu4 nu4 cu4)≠some S5.next from by first|exact o4_9.ne (by omega)|exact o4_9.new (by omega)|assumption) (e ▸ hb)))
  have o5_15:=o5_10.frame (by omega) (fun id hid hb=>q13 id (fun e=>(show blkOf (.slice pu5_0 nu5_0 cu5_0)≠some S5.next from by first|exact o5_10.ne (by omega)|exact o5_10.new (by omega)|assumption) (e ▸ hb)))
  have g13:Agree S S13:=⟨by have:=(g8).1; omega,fun id hid=>(q13 id (by have:=(g8).1; omega)).trans ((g8).2 id hid)⟩
  obtain ⟨u16,S16,k16,a16,oo16⟩:=c43 h b tb (few_of (show r20 h=true by assumption)) hs S13 (v_h_rooms) (hv_h_rooms.agree g13) (v_h_doors) (hv_h_doors.agree g13) (v_h_ways) (hv_h_ways.agree g13)
  have l16:=a16.1
  obtain ⟨pu16,nu16,cu16,rfl⟩:=own_slice oo16
  have ap17:∀ b,blkOf (.slice pu4 nu4 cu4)=some b→blkOf (.slice pu16 nu16 cu16)≠some b:=fun b hb=>oo16.ne (Nat.lt_of_lt_of_le (o4_14.lt hb) (by omega))
  have ap18:∀ b,blkOf (.slice pu5_0 nu5_0 cu5_0)=some b→blkOf (.slice pu16 nu16 cu16)≠some b:=fun b hb=>oo16.ne (Nat.lt_of_lt_of_le (o5_15.lt hb) (by omega))
  have v1_16:=(a16.2 S.next (by omega)).trans v1_13
  have v8_16:=(a16.2 S5.next (by omega)).trans b13
  have o4_19:=o4_14.agree a16
  have o5_20:=o5_15.agree a16
  have g16:Agree S S16:=g13.trans a16
  obtain ⟨u21_0,S21,k21,a21,oo21_0⟩:=c44 h b tb (few_of (show r20 h=true by assumption)) S16 (v_h_rooms) (hv_h_rooms.agree g16) (v_h_doors) (hv_h_doors.agree g16) (v_h_ways) (hv_h_ways.agree g16)
  obtain ⟨pu21_0,nu21_0,cu21_0,rfl⟩:=own_slice oo21_0
  have ap22:∀ b,blkOf (.slice pu4 nu4 cu4)=some b→blkOf (.slice pu21_0 nu21_0 cu21_0)≠some b:=fun b hb=>oo21_0.ne (Nat.lt_of_lt_of_le (o4_19.lt hb) (by omega))
  have ap23:∀ b,blkOf (.slice pu5_0 nu5_0 cu5_0)=some b→blkOf (.slice pu21_0 nu21_0 cu21_0)≠some b:=fun b hb=>oo21_0.ne (Nat.lt_of_lt_of_le (o5_20.lt hb) (by omega))
  have ap24:∀ b,blkOf (.slice pu16 nu16 cu16)=some b→blkOf (.slice pu21_0 nu21_0 cu21_0)≠some b:=fun b hb=>oo21_0.ne (Nat.lt_of_lt_of_le (oo16.lt hb) (by omega))
  have l21:=a21.1
  have v1_21:=(a21.2 S.next (by omega)).trans v1_16
  have v8_21:=(a21.2 S5.next (by omega)).trans v8_16
  have o4_25:=o4_19.agree a21
  have o5_26:=o5_20.agree a21
  have o16_27:=oo16.agree a21
  have g21:Agree S S21:=g16.trans a21
  obtain ⟨S28,e28,n28,b28,a28⟩:=push_open S21 (.cells [.slice none 0 0,.int .i64 0] 58 0 true true)
  have v1_28:=(a28.2 S.next (by omega)).trans v1_21
  have v8_28:=(a28.2 S5.next (by omega)).trans v8_21
  have o4_29:=o4_25.agree a28
  have o5_30:=o5_26.agree a28
  have o16_31:=o16_27.agree a28
  have o21_32:=oo21_0.agree a28
  have g28:Agree S S28:=g21.trans a28
  have ne33:blkOf (.slice pu4 nu4 cu4)≠some S21.next:=o4_25.new (Nat.le_refl _)
  have ne34:blkOf (.slice pu5_0 nu5_0 cu5_0)≠some S21.next:=o5_26.new (Nat.le_refl _)
  have ne35:blkOf (.slice pu16 nu16 cu16)≠some S21.next:=o16_27.new (Nat.le_refl _)
  have ne36:blkOf (.slice pu21_0 nu21_0 cu21_0)≠some S21.next:=oo21_0.new (Nat.le_refl _)
  obtain ⟨S37,k37,n37,b37,q37⟩:=st_at (o:=0) (c':=[.slice pu21_0 nu21_0 cu21_0,.int .i64 (((r44 h b tb)).2)]) (v:=.agg #[.slice pu21_0 nu21_0 cu21_0,.int .i64 (((r44 h b tb)).2)]) tz58 b28 rfl rfl (show 0+2≤2 by decide) rfl
  have v1_37:=(q37 S.next (by omega)).trans v1_28
  have v8_37:=(q37 S5.next (by omega)).trans v8_28
  have o4_38:=o4_29.frame (by omega) (fun id hid hb=>q37 id (fun e=>(show blkOf (.slice pu4 nu4 cu4)≠some S21.next from by first|exact o4_29.ne (by omega)|exact o4_29.new (by omega)|assumption) (e ▸ hb)))
  have o5_39:=o5_30.frame (by omega) (fun id hid hb=>q37 id (fun e=>(show blkOf (.slice pu5_0 nu5_0 cu5_0)≠some S21.next from by first|exact o5_30.ne (by omega)|exact o5_30.new (by omega)|assumption) (e ▸ hb)))
  have o16_40:=o16_31.frame (by omega) (fun id hid hb=>q37 id (fun e=>(show blkOf (.slice pu16 nu16 cu16)≠some S21.next from by first|exact o16_31.ne (by omega)|exact o16_31.new (by omega)|assumption) (e ▸ hb)))
  have o21_41:=o21_32.frame (by omega) (fun id hid hb=>q37 id (fun e=>(show blkOf (.slice pu21_0 nu21_0 cu21_0)≠some S21.next from by first|exact o21_32.ne (by omega)|exact o21_32.new (by omega)|assumption) (e ▸ hb)))
  have g37:Agree S S37:=⟨by have:=(g28).1; omega,fun id hid=>(q37 id (by have:=(g28).1; omega)).trans ((g28).2 id hid)⟩
  obtain ⟨S42,k42,a42⟩:=c45 h a ta b tb (few_of (show r20 h=true by assumption)) hs S37 (v_h_rooms) (hv_h_rooms.agree g37) (v_h_doors) (hv_h_doors.agree g37) (v_h_ways) (hv_h_ways.agree g37)
  have l42:=a42.1
  have v1_42:=(a42.2 S.next (by omega)).trans v1_37
  have v8_42:=(a42.2 S5.next (by omega)).trans v8_37
  have v28_42:=(a42.2 S21.next (by omega)).trans b37
  have o4_43:=o4_38.agree a42
  have o5_44:=o5_39.agree a42
  have o16_45:=o16_40.agree a42
  have o21_46:=o21_41.agree a42
  have g42:Agree S S42:=g37.trans a42
  obtain ⟨S47,k47,a47⟩:=c46 h a ta b tb (few_of (show r20 h=true by assumption)) S42 (v_h_rooms) (hv_h_rooms.agree g42) (v_h_doors) (hv_h_doors.agree g42) (v_h_ways) (hv_h_ways.agree g42)
  have l47:=a47.1
  have v8_47:=(a47.2 S5.next (by omega)).trans v8_42
  have v28_47:=(a47.2 S21.next (by omega)).trans v28_42
  have o4_48:=o4_43.agree a47
  have o5_49:=o5_44.agree a47
  have o16_50:=o16_45.agree a47
  have o21_51:=o21_46.agree a47
  have g47:Agree S S47:=g42.trans a47
  try simp (disch:=first|omega|assumption) only [E0_G,SY,off,agreeKind,vals,allocV,ldA,rdCells,aggD,aField,aExtract,Nat.reduceAdd,Nat.reduceLT,Nat.reduceBEq,TY_EvH28,v1_2,h3a,k4,v1_4,k5,e8,v1_13,k13,k16,v1_16,k21,e28,v1_37,k37,k42,v1_42,k47,v8_47,c21s] at hz
  rcases dP (((r41 h a ta).2)=(((r42 h a ta)).2)) with ⟨h52a,h52⟩|⟨h52a,h52⟩
  ·obtain ⟨S53,k53,a53⟩:=c47 ((r41 h a ta).1:List Int) (((r42 h a ta).1):List Int) (by first|exact r41_len _ _ _|exact r43_len _ _ _) S47 (.slice pu4 nu4 cu4) (o4_48.rows) (.slice pu5_0 nu5_0 cu5_0) (o5_49.rows)
   have l53:=a53.1
   have v28_53:=(a53.2 S21.next (by omega)).trans v28_47
   have o4_54:=o4_48.agree a53
   have o5_55:=o5_49.agree a53
   have o16_56:=o16_50.agree a53
   have o21_57:=o21_51.agree a53
   have g53:Agree S S53:=g47.trans a53
   try simp (disch:=first|omega|assumption) only [E0_G,SY,off,agreeKind,vals,ldA,aggD,aField,Nat.reduceAdd,Nat.reduceLT,Nat.reduceBEq,TY_EvH28,v8_47,h52a,k53] at hz
   rcases dB ((r47 ((r41 h a ta).1:List Int) (((r42 h a ta).1):List Int))) with ⟨h58a,h58⟩|⟨h58a,h58⟩
   ·try simp (disch:=first|omega|assumption) only [E0_G,SY,off,agreeKind,ldA,aggD,aField,Nat.reduceAdd,Nat.reduceLT,Nat.reduceBEq,TY_EvH28,v28_53,h58a] at hz
    rcases dP (((r43 h b tb).2)=(((r44 h b tb)).2)) with ⟨h59a,h59⟩|⟨h59a,h59⟩
    ·obtain ⟨S60,k60,a60⟩:=c47 ((r43 h b tb).1:List Int) (((r44 h b tb).1):List Int) (by first|exact r41_len _ _ _|exact r43_len _ _ _) S53 (.slice pu16 nu16 cu16) (o16_56.rows) (.slice pu21_0 nu21_0 cu21_0) (o21_57.rows)
     have l60:=a60.1
     have o4_61:=o4_54.agree a60
     have o5_62:=o5_55.agree a60
     have o16_63:=o16_56.agree a60
     have o21_64:=o21_57.agree a60
     have g60:Agree S S60:=g53.trans a60
     try simp (disch:=first|omega|assumption) only [E0_G,SY,off,agreeKind,vals,ldA,aggD,aField,Nat.reduceAdd,Nat.reduceLT,Nat.reduceBEq,TY_EvH28,v28_53,h59a,k60] at hz
     rcases dB ((r47 ((r43 h b tb).1:List Int) (((r44 h b tb).1):List Int))) with ⟨h65a,h65⟩|⟨h65a,h65⟩
     ·try simp only [E0_G,SY,off,agreeKind,Nat.reduceAdd,Nat.reduceLT,Nat.reduceBEq,TY_EvH28,h65a] at hz
      rcases dP (((r45 h a ta b tb).1)=((r46 h a ta b tb).1)) with ⟨h66a,h66⟩|⟨h66a,h66⟩
      ·try simp only [E0_G,SY,off,agreeKind,Nat.reduceAdd,Nat.reduceLT,Nat.reduceBEq,h66a] at hz
       have hr:r7 h a ta b tb=decide (((r45 h a ta b tb).2)=((r46 h a ta b tb).2)):=(if_pos h3).trans ((if_pos h52).trans ((if_pos h58).trans ((if_pos h59).trans ((if_pos h65).trans ((if_pos h66).trans (rfl))))))
       exact fin hz (by rw [hr]) g60
      try simp only [E0_G,SY,off,agreeKind,Nat.reduceAdd,Nat.reduceLT,Nat.reduceBEq,h66a] at hz
      have hr:r7 h a ta b tb=false:=(if_pos h3).trans ((if_pos h52).trans ((if_pos h58).trans ((if_pos h59).trans ((if_pos h65).trans ((if_neg h66).trans (rfl))))))
      exact fin hz (by rw [hr]) g60
     try simp only [E0_G,SY,off,agreeKind,Nat.reduceAdd,Nat.reduceLT,Nat.reduceBEq,h65a] at hz
     have hr:r7 h a ta b tb=false:=(if_pos h3).trans ((if_pos h52).trans ((if_pos h58).trans ((if_pos h59).trans ((if_neg h65).trans (rfl)))))
     exact fin hz (by rw [hr]) g60
    try simp only [E0_G,SY,off,agreeKind,Nat.reduceAdd,Nat.reduceLT,Nat.reduceBEq,h59a] at hz
    have hr:r7 h a ta b tb=false:=(if_pos h3).trans ((if_pos h52).trans ((if_pos h58).trans ((if_neg h59).trans (rfl))))
    exact fin hz (by rw [hr]) g53
   try simp only [E0_G,SY,off,agreeKind,Nat.reduceAdd,Nat.reduceLT,Nat.reduceBEq,h58a] at hz
   have hr:r7 h a ta b tb=false:=(if_pos h3).trans ((if_pos h52).trans ((if_neg h58).trans (rfl)))
   exact fin hz (by rw [hr]) g53
  try simp only [E0_G,SY,off,agreeKind,Nat.reduceAdd,Nat.reduceLT,Nat.reduceBEq,h52a] at hz
  have hr:r7 h a ta b tb=false:=(if_pos h3).trans ((if_neg h52).trans (rfl))
  exact fin hz (by rw [hr]) g47
 try simp only [E0_G,SY,off,agreeKind,vals,Nat.reduceAdd,Nat.reduceLT,Nat.reduceBEq,h3a,c21s] at hz
 have hr:r7 h a ta b tb=true:=(if_neg h3).trans (rfl)
 exact fin hz (by rw [hr]) g2
end House
end Go.Proofs
