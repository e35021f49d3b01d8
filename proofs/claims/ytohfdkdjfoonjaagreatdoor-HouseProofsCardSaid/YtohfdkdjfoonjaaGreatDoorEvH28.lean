import Derived.Test.YtohfdkdjfoonjaaGreatDoorBU
set_option linter.unusedSimpArgs false
set_option linter.unusedVariables false
namespace Go.Proofs
namespace House
open Go Go.RowKit Go.Aev
set_option maxRecDepth 100000
theorem TY_EvH28:type_of% TY_EvH27:=TY_EvH27
def r113 (h:Hs) (a:Int) (ta:Int) (b:Int) (tb:Int):Int:=(if (r102 h a)=true then (if (r88 ta)=true then (if (r102 h b)=true then (r84 h (r88 tb)) else (r84 h false)) else (r84 h false)) else (r84 h false))
set_option maxHeartbeats 8000000 in
theorem c113 (h:Hs) (a:Int) (ta:Int) (b:Int) (tb:Int) (hF:Few h) (hs:∀ x ∈ h.rooms,x.name.size≤9223372036854775807) (S:AS) (v_h_rooms:Value) (hv_h_rooms:LstR S v_h_rooms h.rooms) (v_h_doors:Value) (hv_h_doors:LstR S v_h_doors h.doors) (v_h_ways:Value) (hv_h_ways:Lst S v_h_ways h.ways) :
  ∃ S',(evL Tryz.prog E0).call 113 #[.agg #[v_h_rooms,v_h_doors,v_h_ways],.int .i64 a,.int .i64 ta,.int .i64 b,.int .i64 tb] S=some (.int .i64 (r113 h a ta b tb),S')∧Agree S S':=by
 have qr:=hF.r; have qd:=hF.d; have qw:=hF.w
 generalize hz:(evL Tryz.prog E0).call 113 _ _=z
 rw [L_call,evCall_said rfl Tryz.func113 rfl (by decide) Tryz.ntmps113 Tryz.results113] at hz
 obtain ⟨S1,e1,n1,b1,a1⟩:=push_open S (.cells [v_h_rooms,v_h_doors,v_h_ways] 26 0 true true)
 have g1:Agree S S1:=a1
 have s1:E0.same S S1=true:=symEnv_same a1
 try simp (disch:=first|omega|assumption) only [E0_G,SY,setArgs,off,agreeKind,boxed,Nat.reduceAdd,Nat.reduceSub,Nat.reduceLT,Nat.reduceBEq,e1] at hz
 rw [code_draws _ _ _ (by kernel_rfl)] at hz
 generalize hnd2:needy _=nd2 at hz
 obtain ⟨S3,k3,a3⟩:=c102 h a  S1 (v_h_rooms) (hv_h_rooms.agree g1) (v_h_doors) (hv_h_doors.agree g1) (v_h_ways) (hv_h_ways.agree g1)
 have l3:=a3.1
 have s3:E0.same S1 S3=true:=symEnv_same a3
 have v1_3:=(a3.2 S.next (by omega)).trans b1
 have g3:Agree S S3:=g1.trans a3
 try simp (disch:=first|omega|assumption) only [E0_G,SY,agreeKind,vals,ldA,rdCells,aggD,Nat.reduceAdd,Nat.reduceLT,Nat.reduceBEq,TY_EvH28,b1,store_agree,store_refl E0_same,k3] at hz
 rcases dB ((r102 h a)) with ⟨h4a,h4⟩|⟨h4a,h4⟩
 ·skip
  have lq5:=r102_iff.1 h4
  obtain ⟨S6,k6,a6⟩:=c88 ta  S3
  have l6:=a6.1
  have s6:E0.same S3 S6=true:=symEnv_same a6
  have v1_6:=(a6.2 S.next (by omega)).trans v1_3
  have g6:Agree S S6:=g3.trans a6
  try simp (disch:=first|omega|assumption) only [E0_G,SY,agreeKind,vals,Nat.reduceAdd,Nat.reduceLT,Nat.reduceBEq,store_agree,store_refl E0_same,h4a,k6] at hz
  rcases dB ((r88 ta)) with ⟨h7a,h7⟩|⟨h7a,h7⟩
  ·skip
   have lq8:=r88_iff.1 h7
   obtain ⟨S9,k9,a9⟩:=c102 h b  S6 (v_h_rooms) (hv_h_rooms.agree g6) (v_h_doors) (hv_h_doors.agree g6) (v_h_ways) (hv_h_ways.agree g6)
   have l9:=a9.1
   have s9:E0.same S6 S9=true:=symEnv_same a9
   have g9:Agree S S9:=g6.trans a9
   try simp (disch:=first|omega|assumption) only [E0_G,SY,agreeKind,vals,ldA,rdCells,aggD,Nat.reduceAdd,Nat.reduceLT,Nat.reduceBEq,TY_EvH28,store_agree,store_refl E0_same,v1_6,h7a,k9] at hz
   rcases dB ((r102 h b)) with ⟨h10a,h10⟩|⟨h10a,h10⟩
   ·skip
    have lq11:=r102_iff.1 h10
    obtain ⟨S12,k12,a12⟩:=c88 tb  S9
    have l12:=a12.1
    have s12:E0.same S9 S12=true:=symEnv_same a12
    have g12:Agree S S12:=g9.trans a12
    obtain ⟨S13,k13,a13⟩:=c84 h (r88 tb) hF hs S12 (v_h_rooms) (hv_h_rooms.agree g12) (v_h_doors) (hv_h_doors.agree g12) (v_h_ways) (hv_h_ways.agree g12)
    have l13:=a13.1
    have s13:E0.same S12 S13=true:=symEnv_same a13
    have g13:Agree S S13:=g12.trans a13
    try simp (disch:=first|omega|assumption) only [E0_G,SY,agreeKind,vals,Nat.reduceAdd,Nat.reduceLT,Nat.reduceBEq,store_agree,store_refl E0_same,h10a,k12,k13] at hz
    have hr:r113 h a ta b tb=(r84 h (r88 tb)):=(if_pos h4).trans ((if_pos h7).trans ((if_pos h10).trans (rfl)))
    exact fin hz (by rw [hr]) g13
   ·skip
    obtain ⟨S14,k14,a14⟩:=c84 h false hF hs S9 (v_h_rooms) (hv_h_rooms.agree g9) (v_h_doors) (hv_h_doors.agree g9) (v_h_ways) (hv_h_ways.agree g9)
    have l14:=a14.1
    have s14:E0.same S9 S14=true:=symEnv_same a14
    have g14:Agree S S14:=g9.trans a14
    try simp (disch:=first|omega|assumption) only [E0_G,SY,agreeKind,vals,Nat.reduceAdd,Nat.reduceLT,Nat.reduceBEq,store_agree,store_refl E0_same,h10a,k14] at hz
    have hr:r113 h a ta b tb=(r84 h false):=(if_pos h4).trans ((if_pos h7).trans ((if_neg h10).trans (rfl)))
    exact fin hz (by rw [hr]) g14
  ·skip
   obtain ⟨S15,k15,a15⟩:=c84 h false hF hs S6 (v_h_rooms) (hv_h_rooms.agree g6) (v_h_doors) (hv_h_doors.agree g6) (v_h_ways) (hv_h_ways.agree g6)
   have l15:=a15.1
   have s15:E0.same S6 S15=true:=symEnv_same a15
   have g15:Agree S S15:=g6.trans a15
   try simp (disch:=first|omega|assumption) only [E0_G,SY,agreeKind,vals,Nat.reduceAdd,Nat.reduceLT,Nat.reduceBEq,store_agree,store_refl E0_same,h7a,k15] at hz
   have hr:r113 h a ta b tb=(r84 h false):=(if_pos h4).trans ((if_neg h7).trans (rfl))
   exact fin hz (by rw [hr]) g15
 ·skip
  obtain ⟨S16,k16,a16⟩:=c84 h false hF hs S3 (v_h_rooms) (hv_h_rooms.agree g3) (v_h_doors) (hv_h_doors.agree g3) (v_h_ways) (hv_h_ways.agree g3)
  have l16:=a16.1
  have s16:E0.same S3 S16=true:=symEnv_same a16
  have g16:Agree S S16:=g3.trans a16
  try simp (disch:=first|omega|assumption) only [E0_G,SY,agreeKind,vals,Nat.reduceAdd,Nat.reduceLT,Nat.reduceBEq,store_agree,store_refl E0_same,h4a,k16] at hz
  have hr:r113 h a ta b tb=(r84 h false):=(if_neg h4).trans (rfl)
  exact fin hz (by rw [hr]) g16
def r49 (h:Hs) (a:Int) (ta:Int) (b:Int) (tb:Int):Int:=(if (r104 h a ta)=0 then (r104 h b tb) else (r104 h a ta))
set_option maxHeartbeats 8000000 in
theorem c49 (h:Hs) (a:Int) (ta:Int) (b:Int) (tb:Int) (hF:Few h) (S:AS) (v_h_rooms:Value) (hv_h_rooms:LstR S v_h_rooms h.rooms) (v_h_doors:Value) (hv_h_doors:LstR S v_h_doors h.doors) (v_h_ways:Value) (hv_h_ways:Lst S v_h_ways h.ways) :
  ∃ S',(evL Tryz.prog E0).call 49 #[.agg #[v_h_rooms,v_h_doors,v_h_ways],.int .i64 a,.int .i64 ta,.int .i64 b,.int .i64 tb] S=some (.int .i64 (r49 h a ta b tb),S')∧Agree S S':=by
 have qr:=hF.r; have qd:=hF.d; have qw:=hF.w
 generalize hz:(evL Tryz.prog E0).call 49 _ _=z
 rw [L_call,evCall_said rfl Tryz.func49 rfl (by decide) Tryz.ntmps49 Tryz.results49] at hz
 obtain ⟨S1,e1,n1,b1,a1⟩:=push_open S (.cells [v_h_rooms,v_h_doors,v_h_ways] 26 0 true true)
 have g1:Agree S S1:=a1
 obtain ⟨S2,k2,a2⟩:=c104 h a ta hF S1 (v_h_rooms) (hv_h_rooms.agree g1) (v_h_doors) (hv_h_doors.agree g1) (v_h_ways) (hv_h_ways.agree g1)
 have l2:=a2.1
 have v1_2:=(a2.2 S.next (by omega)).trans b1
 have g2:Agree S S2:=g1.trans a2
 try simp (disch:=first|omega|assumption) only [E0_G,SY,setArgs,off,agreeKind,vals,boxed,ldA,rdCells,aggD,Nat.reduceAdd,Nat.reduceSub,Nat.reduceLT,Nat.reduceBEq,TY_EvH28,e1,b1,k2] at hz
 rcases dP ((r104 h a ta)=0) with ⟨h3a,h3⟩|⟨h3a,h3⟩
 ·skip
  have hV:=(r104_ok h3).1
  have lq4:=(r104_ok h3).2
  obtain ⟨S5,k5,a5⟩:=c104 h b tb hF S2 (v_h_rooms) (hv_h_rooms.agree g2) (v_h_doors) (hv_h_doors.agree g2) (v_h_ways) (hv_h_ways.agree g2)
  have l5:=a5.1
  have g5:Agree S S5:=g2.trans a5
  try simp (disch:=first|omega|assumption) only [E0_G,SY,off,agreeKind,vals,ldA,rdCells,aggD,Nat.reduceAdd,Nat.reduceLT,Nat.reduceBEq,TY_EvH28,v1_2,h3a,k5] at hz
  have hr:r49 h a ta b tb=(r104 h b tb):=(if_pos h3).trans (rfl)
  exact fin hz (by rw [hr]) g5
 ·skip
  try simp (disch:=first|omega|assumption) only [E0_G,SY,off,agreeKind,Nat.reduceAdd,Nat.reduceLT,Nat.reduceBEq,h3a] at hz
  have hr:r49 h a ta b tb=(r104 h a ta):=(if_neg h3).trans (rfl)
  exact fin hz (by rw [hr]) g2
theorem r113_ok {h:Hs} {a ta b tb:Int} (e:r113 h a ta b tb=0):r59 h=0∧(0≤a∧a<(h.rooms.length:Int))∧(0≤ta∧ta≤1073741823)∧(0≤b∧b<(h.rooms.length:Int))∧(0≤tb∧tb≤1073741823):=by
 unfold r113 at e
 split at e
 ·rename_i h1
  split at e
  ·rename_i h2
   split at e
   ·rename_i h3
    have q:=r84_ok e
    exact ⟨q.1,r102_iff.1 h1,r88_iff.1 h2,r102_iff.1 h3,r88_iff.1 q.2⟩
   ·exact absurd e r84_false
  ·exact absurd e r84_false
 ·exact absurd e r84_false
theorem r49_ok {h:Hs} {a ta b tb:Int} (e:r49 h a ta b tb=0):r59 h=0∧(0≤a∧a<(h.rooms.length:Int))∧(0≤ta∧ta≤1073741823)∧(0≤b∧b<(h.rooms.length:Int))∧(0≤tb∧tb≤1073741823):=by
 unfold r49 at e
 split at e
 ·rename_i h1
  have q:=r104_ok h1
  have k:=r104_ok e
  exact ⟨q.1,⟨q.2.1,q.2.2.1⟩,q.2.2.2,⟨k.2.1,k.2.2.1⟩,k.2.2.2⟩
 ·rename_i h1; exact absurd e h1
theorem r106_len {h:Hs} (hV:r59 h=0) {fr ti:Int} (ht:0≤ti∧ti≤1073741823):(r106 h fr ti).length=h.rooms.length:=(r109_tm (rooms:=h.rooms.length) (fr:=fr) ht (psg_hg hV)).1.len
theorem rooms_len {h:Hs} (hV:r59 h=0):h.rooms.length≤24:=(valid_parts hV).2.2.1
theorem r41_len (h:Hs) (fr ti:Int):(r41 h fr ti).1.length≤1000:=by
 unfold r41
 split
 ·split
  ·rename_i h2
   have q:=r84_ok h2
   have k:=r106_len (fr:=fr) q.1 (r88_iff.1 q.2)
   have:=rooms_len q.1
   simp only; omega
  ·simp
 ·simp
theorem R43_1_len (h:Hs) (fr ti:Int):∀ (m:Nat) (l:List Int) (k:Nat),(R43_1 h fr ti m l k).length=l.length:=by
 intro m
 induction m with
 | zero=>intro l k; rfl
 | succ m ih =>
  intro l k
  rw [R43_1]
  split
  ·rw [ih,List.length_set]
  ·rfl
theorem R43_0_eq (h:Hs) (fr ti:Int):∀ (m:Nat) (pl:List Pg) (k:Nat),m+k=(psg h).length+1→k≤(psg h).length→pl.length=(psg h).length→R43_0 h fr ti m pl k=pl.take k++(pl.drop k).map swp:=by
 intro m
 induction m with
 | zero=>intro pl k h1 h2 _; omega
 | succ m ih =>
  intro pl k h1 h2 h3
  rw [R43_0]
  split
  ·rename_i hk
   have hk':k<pl.length:=by omega
   rw [lget_set_self hk',ih _ _ (by omega) (by omega) (by rw [List.length_set,List.length_set]; exact h3)]
   exact swp_set hk' rfl
  ·have hk:k=pl.length:=by omega
   rw [hk,List.take_length,List.drop_length,List.map_nil,List.append_nil]
theorem R43_0_swp (h:Hs) (fr ti:Int):R43_0 h fr ti ((psg h).length+1) (psg h) 0=(psg h).map swp:=R43_0_eq h fr ti _ _ _ (by omega) (by omega) rfl
theorem r43_len (h:Hs) (fr ti:Int):(r43 h fr ti).1.length≤1000:=by
 unfold r43
 split
 ·split
  ·rename_i h2
   have q:=r84_ok h2
   have ht:=r88_iff.1 q.2
   have k:=(r109_tm (rooms:=h.rooms.length) (fr:=fr) (ti:=r110 ti) (by have:r110 ti=1073741823 - ti:=rfl; omega) (swp_hg q.1 (R43_0_swp h fr ti))).1.len
   have:=rooms_len q.1
   simp only [R43_1_len]; omega
  ·simp
 ·simp
theorem R50_0_eq (h:Hs) (fr ti:Int):∀ (m:List Rm) (o:List Int) (d:List Bool),R50_0 h fr ti m o d=(o++List.replicate m.length 1073741824,d++List.replicate m.length false):=by
 intro m
 induction m with
 | nil=>intro o d; simp [R50_0]
 | cons x m ih=>intro o d; rw [R50_0,ih]; simp [List.replicate_succ]
def R47_0 (l:List Int) (q:List Int)  : List Int→Nat→Sum (Bool) (Unit)
 | [],k=>.inr ()
 | x4 :: l',k=>(if x4=(lget q k) then R47_0 l q l' (k+1) else .inl false)
def r47 (l:List Int) (q:List Int):Bool:=(if (l.length:Int)=(q.length:Int) then (onSum (R47_0 l q l 0) (fun (r4:Bool)=>r4) (fun (_:Unit)=>true)) else false)
set_option maxHeartbeats 2000000 in
theorem c47 (l:List Int) (q:List Int) (hl:l.length≤1000) (S:AS) (v_l:Value) (hv_l:Lst S v_l l) (v_q:Value) (hv_q:Lst S v_q q) :
  ∃ S',(evL Tryz.prog E0).call 47 #[v_l,v_q] S=some (.bool (r47 l q),S')∧Agree S S':=by
 generalize hz:(evL Tryz.prog E0).call 47 _ _=z
 rw [L_call,evCall_said rfl Tryz.func47 rfl (by decide) Tryz.ntmps47 Tryz.results47] at hz
 have w1:=(hv_l).len (P:=Tryz.prog) (t:=54) Tryz.underlying54
 have w2:=(hv_q).len (P:=Tryz.prog) (t:=54) Tryz.underlying54
 try simp (disch:=first|omega|assumption) only [E0_G,SY,setArgs,off,agreeKind,Nat.reduceAdd,Nat.reduceSub,Nat.reduceLT,Nat.reduceBEq,w1,w2] at hz
 rcases dP ((l.length:Int)=(q.length:Int)) with ⟨h3a,h3⟩|⟨h3a,h3⟩
 ·skip
  try simp (disch:=first|omega|assumption) only [E0_G,SY,off,agreeKind,Nat.reduceLT,h3a] at hz
  generalize hL4:Rec.loop _ _ _ _=L4 at hz
  obtain ⟨x4,t4,S4e,rfl,hQ4⟩:=loop_met hL4 (fun m t S'=>∃ (k:Nat),m+k=l.length∧k≤l.length∧t.get 0=some (v_l)∧t.get 1=some (v_q)∧t.get 5=some (.int .i64 (k:Int))∧Agree S S'∧S.next≤S'.next∧R47_0 l q (l.drop k) k=R47_0 l q l 0)
   (fun x t S'=>(x=.exit 0∧∃ (k:Nat),Agree S S'∧S.next≤S'.next∧k≤l.length∧R47_0 l q l 0=.inr ())∨(x=.ret∧∃ (r4:Bool),t.get 4=some (.bool r4)∧Agree S S'∧R47_0 l q l 0=.inl (r4))) (l.length - 0) (by refine ⟨0,?_,?_,?_,?_,?_,(Agree.refl S),Nat.le_refl _,rfl⟩<;>first|(simp only [SY,eq_self,Nat.reduceBEq]<;>rfl)|omega|assumption|(simp; omega)|simp) (by
    rintro m t S4 ⟨k,hi4_0,hi4_1,g4_0,g4_1,g4_5,ga4,gn4,hd4⟩
    refine .run fun z he=>?_
    have w5:=(hv_l.agree ga4).len (P:=Tryz.prog) (t:=54) Tryz.underlying54
    try simp (disch:=first|omega|assumption) only [E0_G,SY,off,agreeKind,Nat.reduceAdd,Nat.reduceLT,Nat.reduceBEq,g4_0,g4_5,w1] at he
    rcases dP ((k:Int)<(l.length:Int)) with ⟨h6a,h6⟩|⟨h6a,h6⟩
    ·skip
     try simp (disch:=first|omega|assumption) only [SY,h6a] at he
     rw [code_draws _ _ _ (by kernel_rfl)] at he
     generalize hnd7:needy _=nd7 at he
     have hx4:l[k]?=some (l[k]'(by first|omega|simp; omega)):=List.getElem?_eq_getElem _
     generalize l[k]'_=x4 at hx4
     obtain ⟨id8,of8,cc8,ty8,wr8,ex8,i8,j8,l8,q8⟩:=(hv_l).at (P:=Tryz.prog) (t:=54) Tryz.underlying54 tz3 hx4
     have jr8:=j8
     have j8:=(ga4.2 id8 l8).trans jr8
     have m8_0:cc8[of8]?=some (.int .i64 x4):=q8 0 (show 0<1 by decide)
     have hx9:q[k]?=some (lget q k):=lget_some (by first|omega|simp; omega)
     obtain ⟨id9,of9,cc9,ty9,wr9,ex9,i9,j9,l9,q9⟩:=(hv_q).at (P:=Tryz.prog) (t:=54) Tryz.underlying54 tz3 hx9
     have jr9:=j9
     have j9:=(ga4.2 id9 l9).trans jr9
     have m9_0:cc9[of9]?=some (.int .i64 (lget q k)):=q9 0 (show 0<1 by decide)
     try simp (disch:=first|omega|assumption) only [E0_G,SY,agreeKind,ldA,aggD,Nat.reduceAdd,Nat.reduceLT,Nat.reduceBEq,TY_EvH28,g4_0,g4_1,g4_5,store_refl E0_same,i8,j8,m8_0,i9,j9,m9_0] at he
     rcases dP (x4=(lget q k)) with ⟨h10a,h10⟩|⟨h10a,h10⟩
     ·skip
      have w11:IntKind.i64.wrap ((k:Int)+1)=((k+1:Nat):Int):=by rw [IntWalk.i64_in]<;>omega
      try simp (disch:=first|omega|assumption) only [E0_G,SY,off,agreeKind,Nat.reduceAdd,Nat.reduceLT,Nat.reduceBEq,g4_5,store_refl E0_same,h10a,w11] at he
      rw [drop_cons' hx4] at hd4
      have hf:=(show _=(R47_0 l q (l.drop (k+1)) (k+1):Sum (Bool) (Unit)) from (if_pos h10).trans (rfl)).symm.trans hd4
      refine .next he (m - 1) (by omega) ⟨(k+1),?_,?_,?_,?_,?_,ga4,by omega,hf⟩<;>first|(simp only [SY,eq_self,Nat.reduceBEq,g4_0,g4_1,g4_5]<;>rfl)|omega|assumption|(simp; omega)|simp
     ·skip
      try simp (disch:=first|omega|assumption) only [E0_G,SY,off,agreeKind,Nat.reduceLT,store_refl E0_same,h10a] at he
      rw [drop_cons' hx4] at hd4
      have hf:=(show _=(.inl false:Sum (Bool) (Unit)) from (if_neg h10).trans (rfl)).symm.trans hd4
      refine .ret he (.inr ⟨rfl,⟨false,?_,ga4,hf.symm⟩⟩)<;>first|(simp only [SY,eq_self,Nat.reduceBEq]<;>rfl)|omega|assumption|(simp; omega)|simp
    ·skip
     try simp (disch:=first|omega|assumption) only [SY,h6a] at he
     rw [List.drop_eq_nil_of_le (show l.length≤k by omega)] at hd4
     have hf:=(show _=(.inr ():Sum (Bool) (Unit)) from rfl).symm.trans hd4
     refine .exit he (.inl ⟨rfl,⟨k,ga4,by omega,?_,hf.symm⟩⟩)<;>first|(simp only [SY,setArgs,off,agreeKind,partVals,vals,allocV,boxed,ldA,rdCells,oneB,aggD,aField,aFieldV,aExtract,eq_self,ne_eq,if_true,if_false,not_false_eq_true,Nat.reduceAdd,Nat.reduceSub,Nat.reduceMul,Nat.reduceLT,Nat.reduceEqDiff,Nat.reduceBEq,reduceIte,Int.reduceEq,Int.reduceLT,Int.reduceLE,reduceCtorEq,g4_0,g4_1,g4_5]<;>rfl)|omega|assumption|(simp; omega)|simp)
  rcases hQ4 with ⟨rfl,hQ4⟩|⟨rfl,hQ4⟩
  ·skip
   obtain ⟨k,ge4,gm4,hj4_0,hR4⟩:=hQ4
   try simp (disch:=first|omega|assumption) only [E0_G,SY,off,agreeKind,eq_self,if_true,Nat.reduceLT,Nat.reduceBEq] at hz
   have hr:r47 l q=true:=(if_pos h3).trans ((onSum_inr hR4).trans (rfl))
   exact fin hz (by rw [hr]) ge4
  ·skip
   obtain ⟨r4,ge4_4,ge4,hR4⟩:=hQ4
   try simp (disch:=first|omega|assumption) only [SY,ge4_4] at hz
   have hr:r47 l q=r4:=(if_pos h3).trans ((onSum_inl hR4).trans (rfl))
   exact fin hz (by rw [hr]) ge4
 ·skip
  try simp (disch:=first|omega|assumption) only [E0_G,SY,off,agreeKind,Nat.reduceLT,Nat.reduceBEq,h3a] at hz
  have hr:r47 l q=false:=(if_neg h3).trans (rfl)
  exact fin hz (by rw [hr]) (Agree.refl S)
end House
end Go.Proofs
