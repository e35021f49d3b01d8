import Derived.Test.YtohfdkdjfoonjaaGreatDoorEvM5
set_option linter.unusedSimpArgs false
set_option linter.unusedVariables false
namespace Go.Proofs
namespace House
open Go Go.RowKit Go.Aev
set_option maxRecDepth 100000
theorem TY_EvH11:type_of% TY_EvH10:=TY_EvH10
structure Pg where
 way:Int
 back:Bool
 fr:Int
 to:Int
 secs:Int
 door:Int
structure Gt where
 way:Int
 fr:Int
 to:Int
 secs:Int
 door:Int
structure OkP (g:Hs) (x:Pg):Prop where
 v:r59 g=0
 d : -1≤x.door∧x.door<g.doors.length
 s:0≤x.secs∧x.secs≤3600
theorem r89_ge {d:Dr} (hO:OkO d) {t:Int} (ht:0≤t∧t≤1073741823):t≤r89 d t∧r89 d t≤1073741824:=by
 rcases r89_nx hO ht.1 with ⟨h1,_⟩|⟨h1,h2,_⟩<;>omega
set_option maxHeartbeats 4000000 in
theorem c97 (v0 v1 v2:Value) (S:AS):∃ S',(evL Tryz.prog E0).call 97 #[.agg #[v0,v1,v2]] S=some (.func (.func 145) #[] #[.pointer (some ⟨S.next,0,none⟩)],S')∧Agree S S'∧S'.next=S.next+1∧S'.heap.get S.next=some (.cells [v0,v1,v2] 26 0 true true):=by
 obtain ⟨S1,e1,n1,b1,a1⟩:=push_open S (.cells [v0,v1,v2] 26 0 true true)
 refine ⟨S1,?_,a1,by omega,b1⟩
 rw [L_call,evCall_said rfl Tryz.func97 rfl (by decide) Tryz.ntmps97 Tryz.results97]
 simp (disch:=first|omega|assumption) only [E0_G,SY,setArgs,off,agreeKind,boxed,eq_self,Nat.reduceAdd,Nat.reduceSub,Nat.reduceLT,Nat.reduceBEq,e1,op_makeFunc1]
set_option maxHeartbeats 4000000 in
theorem c100 (v0 v1 v2:Value) (S:AS):∃ S',(evL Tryz.prog E0).call 100 #[.agg #[v0,v1,v2]] S=some (.func (.func 146) #[] #[.pointer (some ⟨S.next,0,none⟩)],S')∧Agree S S'∧S'.next=S.next+1∧S'.heap.get S.next=some (.cells [v0,v1,v2] 26 0 true true):=by
 obtain ⟨S1,e1,n1,b1,a1⟩:=push_open S (.cells [v0,v1,v2] 26 0 true true)
 refine ⟨S1,?_,a1,by omega,b1⟩
 rw [L_call,evCall_said rfl Tryz.func100 rfl (by decide) Tryz.ntmps100 Tryz.results100]
 simp (disch:=first|omega|assumption) only [E0_G,SY,setArgs,off,agreeKind,boxed,eq_self,Nat.reduceAdd,Nat.reduceSub,Nat.reduceLT,Nat.reduceBEq,e1,op_makeFunc1]
def r145 (x:Pg) (ti:Int) (h:Hs):Int:=(if 0≤x.door then min ((r89 (lget h.doors (Int.toNat x.door)) ti)+x.secs) 1073741824 else min (ti+x.secs) 1073741824)
set_option maxHeartbeats 2000000 in
theorem c145 (x:Pg) (ti:Int) (h:Hs) (hP:OkP h x) (ht:0≤ti∧ti≤1073741823) (S:AS) (v_h_rooms:Value) (hv_h_rooms:LstR S v_h_rooms h.rooms) (v_h_doors:Value) (hv_h_doors:LstR S v_h_doors h.doors) (v_h_ways:Value) (hv_h_ways:Lst S v_h_ways h.ways) (p_h:Nat) (g_h:S.heap.get p_h=some (.cells [v_h_rooms,v_h_doors,v_h_ways] 26 0 true true)) (l_h:p_h<S.next) :
  ∃ S',(evL Tryz.prog E0).call 145 #[.agg #[.int .i64 x.way,.bool x.back,.int .i64 x.fr,.int .i64 x.to,.int .i64 x.secs,.int .i64 x.door],.int .i64 ti,.pointer (some ⟨p_h,0,none⟩)] S=some (.int .i64 (r145 x ti h),S')∧Agree S S':=by
 have hPd:=hP.d; have hPs:=hP.s
 generalize hz:(evL Tryz.prog E0).call 145 _ _=z
 rw [L_call,evCall_said rfl Tryz.func145 rfl (by decide) Tryz.ntmps145 Tryz.results145] at hz
 obtain ⟨S1,e1,n1,b1,a1⟩:=push_open S (.cells [.int .i64 x.way,.bool x.back,.int .i64 x.fr,.int .i64 x.to,.int .i64 x.secs,.int .i64 x.door] 137 0 true true)
 have vh_1:=(a1.2 p_h (by omega)).trans g_h
 have g1:Agree S S1:=a1
 try simp (disch:=first|omega|assumption) only [E0_G,SY,setArgs,off,agreeKind,boxed,ldA,aggD,aField,Nat.reduceAdd,Nat.reduceSub,Nat.reduceLT,Nat.reduceBEq,TY_EvH11,e1,b1] at hz
 rcases dP (0≤x.door) with ⟨h2a,h2⟩|⟨h2a,h2⟩
 ·skip
  have qz3:((Int.toNat x.door:Nat):Int)=x.door:=Int.toNat_of_nonneg (by first|omega|simp; omega)
  have hx4:h.doors[(Int.toNat x.door)]?=some (lget h.doors (Int.toNat x.door)):=lget_some (by first|omega|simp; omega)
  obtain ⟨id4,of4,cc4,ty4,wr4,ex4,cs4,i4,j4,l4,rp4,q4⟩:=LstR.at (hv_h_doors) (P:=Tryz.prog) (t:=23) Tryz.underlying23 tz98 hx4
  obtain ⟨w4_0,w4_1,rp4,rr4_0,rr4_1⟩:=rp4
  have rq4:cs4=[w4_0,w4_1]:=rp4
  subst rq4
  have jr4:=j4
  have j4:=(g1.2 id4 l4).trans jr4
  have m4_0:cc4[of4]?=some (w4_0):=q4 0 (show 0<2 by decide)
  have m4_1:cc4[of4+1]?=some (w4_1):=q4 1 (show 1<2 by decide)
  rw [qz3] at i4
  obtain ⟨S5,k5,a5⟩:=c89 (lget h.doors (Int.toNat x.door)) ti (okd hP.v (List.mem_of_getElem? (by assumption))) (by omega) S1 (w4_0) (rr4_0.agree g1) (w4_1) (rr4_1.agree g1)
  have l5:=a5.1
  have v1_5:=(a5.2 S.next (by omega)).trans b1
  have g5:Agree S S5:=g1.trans a5
  have p5:=r89_ge (oko hP.v (List.mem_of_getElem? (by assumption:h.doors[_]?=some (lget h.doors (Int.toNat x.door))))) (show 0≤ti∧ti≤1073741823 by omega)
  have w6:IntKind.i64.wrap ((r89 (lget h.doors (Int.toNat x.door)) ti)+x.secs)=(r89 (lget h.doors (Int.toNat x.door)) ti)+x.secs:=by rw [IntWalk.i64_in]; omega
  try simp (disch:=first|omega|assumption) only [E0_G,SY,off,agreeKind,vals,ldA,rdCells,aggD,aField,Nat.reduceAdd,Nat.reduceLT,Nat.reduceBEq,TY_EvH11,vh_1,b1,h2a,i4,j4,m4_0,m4_1,k5,v1_5,w6] at hz
  have hr:r145 x ti h=min ((r89 (lget h.doors (Int.toNat x.door)) ti)+x.secs) 1073741824:=(if_pos h2).trans (rfl)
  exact fin hz (by rw [hr]) g5
 ·skip
  have w7:IntKind.i64.wrap (ti+x.secs)=ti+x.secs:=by rw [IntWalk.i64_in]; omega
  try simp (disch:=first|omega|assumption) only [E0_G,SY,off,agreeKind,ldA,aggD,aField,Nat.reduceAdd,Nat.reduceLT,Nat.reduceBEq,TY_EvH11,b1,h2a,w7] at hz
  have hr:r145 x ti h=min (ti+x.secs) 1073741824:=(if_neg h2).trans (rfl)
  exact fin hz (by rw [hr]) g1
def r146 (x:Pg) (ti:Int) (h:Hs):Int:=(if 0≤x.door then max (r91 (lget h.doors (Int.toNat x.door)) (ti - x.secs)) (-1) else max (ti - x.secs) (-1))
set_option maxHeartbeats 2000000 in
theorem c146 (x:Pg) (ti:Int) (h:Hs) (hP:OkP h x) (ht:0≤ti∧ti≤1073741823) (S:AS) (v_h_rooms:Value) (hv_h_rooms:LstR S v_h_rooms h.rooms) (v_h_doors:Value) (hv_h_doors:LstR S v_h_doors h.doors) (v_h_ways:Value) (hv_h_ways:Lst S v_h_ways h.ways) (p_h:Nat) (g_h:S.heap.get p_h=some (.cells [v_h_rooms,v_h_doors,v_h_ways] 26 0 true true)) (l_h:p_h<S.next) :
  ∃ S',(evL Tryz.prog E0).call 146 #[.agg #[.int .i64 x.way,.bool x.back,.int .i64 x.fr,.int .i64 x.to,.int .i64 x.secs,.int .i64 x.door],.int .i64 ti,.pointer (some ⟨p_h,0,none⟩)] S=some (.int .i64 (r146 x ti h),S')∧Agree S S':=by
 have hPd:=hP.d; have hPs:=hP.s
 generalize hz:(evL Tryz.prog E0).call 146 _ _=z
 rw [L_call,evCall_said rfl Tryz.func146 rfl (by decide) Tryz.ntmps146 Tryz.results146] at hz
 obtain ⟨S1,e1,n1,b1,a1⟩:=push_open S (.cells [.int .i64 x.way,.bool x.back,.int .i64 x.fr,.int .i64 x.to,.int .i64 x.secs,.int .i64 x.door] 137 0 true true)
 have vh_1:=(a1.2 p_h (by omega)).trans g_h
 have g1:Agree S S1:=a1
 have w2:IntKind.i64.wrap (ti - x.secs)=ti - x.secs:=by rw [IntWalk.i64_in]; omega
 try simp (disch:=first|omega|assumption) only [E0_G,SY,setArgs,off,agreeKind,boxed,ldA,aggD,aField,Nat.reduceAdd,Nat.reduceSub,Nat.reduceLT,Nat.reduceBEq,TY_EvH11,e1,b1,w2] at hz
 rcases dP (0≤x.door) with ⟨h3a,h3⟩|⟨h3a,h3⟩
 ·skip
  have qz4:((Int.toNat x.door:Nat):Int)=x.door:=Int.toNat_of_nonneg (by first|omega|simp; omega)
  have hx5:h.doors[(Int.toNat x.door)]?=some (lget h.doors (Int.toNat x.door)):=lget_some (by first|omega|simp; omega)
  obtain ⟨id5,of5,cc5,ty5,wr5,ex5,cs5,i5,j5,l5,rp5,q5⟩:=LstR.at (hv_h_doors) (P:=Tryz.prog) (t:=23) Tryz.underlying23 tz98 hx5
  obtain ⟨w5_0,w5_1,rp5,rr5_0,rr5_1⟩:=rp5
  have rq5:cs5=[w5_0,w5_1]:=rp5
  subst rq5
  have jr5:=j5
  have j5:=(g1.2 id5 l5).trans jr5
  have m5_0:cc5[of5]?=some (w5_0):=q5 0 (show 0<2 by decide)
  have m5_1:cc5[of5+1]?=some (w5_1):=q5 1 (show 1<2 by decide)
  rw [qz4] at i5
  obtain ⟨S6,k6,a6⟩:=c91 (lget h.doors (Int.toNat x.door)) (ti - x.secs) (okd hP.v (List.mem_of_getElem? (by assumption))) (by omega) S1 (w5_0) (rr5_0.agree g1) (w5_1) (rr5_1.agree g1)
  have l6:=a6.1
  have g6:Agree S S6:=g1.trans a6
  try simp (disch:=first|omega|assumption) only [E0_G,SY,off,agreeKind,vals,ldA,rdCells,aggD,aField,Nat.reduceAdd,Nat.reduceLT,Nat.reduceBEq,TY_EvH11,vh_1,b1,h3a,i5,j5,m5_0,m5_1,k6] at hz
  have hr:r146 x ti h=max (r91 (lget h.doors (Int.toNat x.door)) (ti - x.secs)) (-1):=(if_pos h3).trans (rfl)
  exact fin hz (by rw [hr]) g6
 ·skip
  try simp (disch:=first|omega|assumption) only [E0_G,SY,off,agreeKind,Nat.reduceAdd,Nat.reduceLT,Nat.reduceBEq,h3a] at hz
  have hr:r146 x ti h=max (ti - x.secs) (-1):=(if_neg h3).trans (rfl)
  exact fin hz (by rw [hr]) g1
def r96e (h:Hs) (way:Int) (back:Bool) (ti:Int) (g:Hs):Int × Int:=(if (r143 h way)=true then (if (r84 h (r88 ti))=0 then (if (r144 h way back).2=true then ((r145 (⟨((r144 h way back).1).1,((r144 h way back).1).2.1,((r144 h way back).1).2.2.1,((r144 h way back).1).2.2.2.1,((r144 h way back).1).2.2.2.2.1,((r144 h way back).1).2.2.2.2.2⟩:Pg) ti g),0) else (0,5)) else (0,(r84 h (r88 ti)))) else (0,(r84 h false)))
set_option maxHeartbeats 4000000 in
theorem c96e (h:Hs) (way:Int) (back:Bool) (ti:Int) (g:Hs) (hF:Few h) (hs:∀ x ∈ h.rooms,x.name.size≤9223372036854775807) (hg:g=h) (S:AS) (v_h_rooms:Value) (hv_h_rooms:LstR S v_h_rooms h.rooms) (v_h_doors:Value) (hv_h_doors:LstR S v_h_doors h.doors) (v_h_ways:Value) (hv_h_ways:Lst S v_h_ways h.ways) (v_g_rooms:Value) (hv_g_rooms:LstR S v_g_rooms g.rooms) (v_g_doors:Value) (hv_g_doors:LstR S v_g_doors g.doors) (v_g_ways:Value) (hv_g_ways:Lst S v_g_ways g.ways) (p_g:Nat) (g_g:S.heap.get p_g=some (.cells [v_g_rooms,v_g_doors,v_g_ways] 26 0 true true)) (l_g:p_g<S.next) :
  ∃ S',(evL Tryz.prog E0).call 96 #[.agg #[v_h_rooms,v_h_doors,v_h_ways],.int .i64 way,.bool back,.int .i64 ti,.func (.func 145) #[] #[.pointer (some ⟨p_g,0,none⟩)]] S=some (.tuple #[.int .i64 (r96e h way back ti g).1,.int .i64 (r96e h way back ti g).2],S')∧Agree S S':=by
 have qr:=hF.r; have qd:=hF.d; have qw:=hF.w
 generalize hz:(evL Tryz.prog E0).call 96 _ _=z
 rw [L_call,evCall_said rfl Tryz.func96 rfl (by decide) Tryz.ntmps96 Tryz.results96] at hz
 obtain ⟨S1,e1,n1,b1,a1⟩:=push_open S (.cells [v_h_rooms,v_h_doors,v_h_ways] 26 0 true true)
 have vg_1:=(a1.2 p_g (by omega)).trans g_g
 have g1:Agree S S1:=a1
 have s1:E0.same S S1=true:=symEnv_same a1
 try simp (disch:=first|omega|assumption) only [E0_G,SY,setArgs,off,agreeKind,boxed,Nat.reduceAdd,Nat.reduceSub,Nat.reduceLT,Nat.reduceBEq,e1] at hz
 rw [code_draws _ _ _ (by kernel_rfl)] at hz
 generalize hnd2:needy _=nd2 at hz
 obtain ⟨S3,k3,a3⟩:=c143 h way  S1 (v_h_rooms) (hv_h_rooms.agree g1) (v_h_doors) (hv_h_doors.agree g1) (v_h_ways) (hv_h_ways.agree g1)
 have l3:=a3.1
 have s3:E0.same S1 S3=true:=symEnv_same a3
 have vg_3:=(a3.2 p_g (by omega)).trans vg_1
 have v1_3:=(a3.2 S.next (by omega)).trans b1
 have g3:Agree S S3:=g1.trans a3
 try simp (disch:=first|omega|assumption) only [E0_G,SY,agreeKind,vals,ldA,rdCells,aggD,Nat.reduceAdd,Nat.reduceLT,Nat.reduceBEq,TY_EvH11,b1,store_agree,store_refl E0_same,k3] at hz
 rcases dB ((r143 h way)) with ⟨h4a,h4⟩|⟨h4a,h4⟩
 ·skip
  have lq5:=r143_iff.1 h4
  obtain ⟨S6,k6,a6⟩:=c88 ti  S3
  have l6:=a6.1
  have s6:E0.same S3 S6=true:=symEnv_same a6
  have vg_6:=(a6.2 p_g (by omega)).trans vg_3
  have v1_6:=(a6.2 S.next (by omega)).trans v1_3
  have g6:Agree S S6:=g3.trans a6
  obtain ⟨S7,k7,a7⟩:=c84 h (r88 ti) hF hs S6 (v_h_rooms) (hv_h_rooms.agree g6) (v_h_doors) (hv_h_doors.agree g6) (v_h_ways) (hv_h_ways.agree g6)
  have l7:=a7.1
  have s7:E0.same S6 S7=true:=symEnv_same a7
  have vg_7:=(a7.2 p_g (by omega)).trans vg_6
  have v1_7:=(a7.2 S.next (by omega)).trans v1_6
  have g7:Agree S S7:=g6.trans a7
  try simp (disch:=first|omega|assumption) only [E0_G,SY,off,agreeKind,vals,Nat.reduceAdd,Nat.reduceLT,Nat.reduceBEq,store_agree,store_refl E0_same,h4a,k6,k7] at hz
  rcases dP ((r84 h (r88 ti))=0) with ⟨h8a,h8⟩|⟨h8a,h8⟩
  ·skip
   have hV:=(r84_ok h8).1
   have lq9:=r88_iff.1 (r84_ok h8).2
   obtain ⟨S10,k10,a10⟩:=c144 h way back (by first|omega|assumption) S7 (v_h_rooms) (hv_h_rooms.agree g7) (v_h_doors) (hv_h_doors.agree g7) (v_h_ways) (hv_h_ways.agree g7)
   have l10:=a10.1
   have s10:E0.same S7 S10=true:=symEnv_same a10
   have vg_10:=(a10.2 p_g (by omega)).trans vg_7
   have g10:Agree S S10:=g7.trans a10
   have p10:=r144_ok (b:=back) hV (show 0≤way∧way<(h.ways.length:Int) by omega)
   obtain ⟨S11,e11,n11,b11,a11⟩:=push_open S10 (.cells [.int .i64 0,.bool false,.int .i64 0,.int .i64 0,.int .i64 0,.int .i64 0] 137 0 true true)
   have vg_11:=(a11.2 p_g (by omega)).trans vg_10
   have g11:Agree S S11:=g10.trans a11
   have s11:E0.same S10 S11=true:=symEnv_same a11
   obtain ⟨S12,k12,n12,b12,q12⟩:=st_at (o:=0) (c':=[.int .i64 (((r144 h way back).1).1),.bool (((r144 h way back).1).2.1),.int .i64 (((r144 h way back).1).2.2.1),.int .i64 (((r144 h way back).1).2.2.2.1),.int .i64 (((r144 h way back).1).2.2.2.2.1),.int .i64 (((r144 h way back).1).2.2.2.2.2)]) (v:=.agg #[.int .i64 (((r144 h way back).1).1),.bool (((r144 h way back).1).2.1),.int .i64 (((r144 h way back).1).2.2.1),.int .i64 (((r144 h way back).1).2.2.2.1),.int .i64 (((r144 h way back).1).2.2.2.2.1),.int .i64 (((r144 h way back).1).2.2.2.2.2)]) tz137 b11 rfl rfl (show 0+6≤6 by decide) rfl
   have vg_12:=(q12 p_g (by omega)).trans vg_11
   have g12:Agree S S12:=⟨by have:=(g11).1; omega,fun id hid=>(q12 id (by have:=(g11).1; omega)).trans ((g11).2 id hid)⟩
   try simp (disch:=first|omega|assumption) only [E0_G,SY,off,agreeKind,vals,allocV,ldA,rdCells,aggD,aExtract,Nat.reduceAdd,Nat.reduceLT,Nat.reduceBEq,TY_EvH11,store_agree,store_refl E0_same,v1_7,h8a,k10,e11,k12] at hz
   rcases dB ((r144 h way back).2) with ⟨h13a,h13⟩|⟨h13a,h13⟩
   ·skip
    obtain ⟨S14,k14,a14⟩:=c145 (⟨((r144 h way back).1).1,((r144 h way back).1).2.1,((r144 h way back).1).2.2.1,((r144 h way back).1).2.2.2.1,((r144 h way back).1).2.2.2.2.1,((r144 h way back).1).2.2.2.2.2⟩:Pg) ti g (by rw [hg]; have q:=r144_ok (b:=back) hV (show 0≤way∧way<(h.ways.length:Int) by omega); exact ⟨hV,⟨q.1,q.2.1⟩,q.2.2⟩) (by omega) S12 (v_g_rooms) (hv_g_rooms.agree g12) (v_g_doors) (hv_g_doors.agree g12) (v_g_ways) (hv_g_ways.agree g12) p_g vg_12 (by omega)
    have l14:=a14.1
    have s14:E0.same S12 S14=true:=symEnv_same a14
    have g14:Agree S S14:=g12.trans a14
    try simp (disch:=first|omega|assumption) only [E0_G,SY,off,agreeKind,vals,ldA,rdCells,aggD,Nat.reduceAdd,Nat.reduceLT,Nat.reduceBEq,TY_EvH11,store_agree,store_refl E0_same,b12,h13a,k14] at hz
    have hr:r96e h way back ti g=((r145 (⟨((r144 h way back).1).1,((r144 h way back).1).2.1,((r144 h way back).1).2.2.1,((r144 h way back).1).2.2.2.1,((r144 h way back).1).2.2.2.2.1,((r144 h way back).1).2.2.2.2.2⟩:Pg) ti g),0):=(if_pos h4).trans ((if_pos h8).trans ((if_pos h13).trans (rfl)))
    exact fin hz (by rw [hr]) g14
   ·skip
    try simp (disch:=first|omega|assumption) only [E0_G,SY,off,agreeKind,Nat.reduceAdd,Nat.reduceLT,Nat.reduceBEq,store_refl E0_same,h13a] at hz
    have hr:r96e h way back ti g=(0,5):=(if_pos h4).trans ((if_pos h8).trans ((if_neg h13).trans (rfl)))
    exact fin hz (by rw [hr]) g12
  ·skip
   try simp (disch:=first|omega|assumption) only [E0_G,SY,off,agreeKind,Nat.reduceAdd,Nat.reduceLT,Nat.reduceBEq,store_refl E0_same,h8a] at hz
   have hr:r96e h way back ti g=(0,(r84 h (r88 ti))):=(if_pos h4).trans ((if_neg h8).trans (rfl))
   exact fin hz (by rw [hr]) g7
 ·skip
  obtain ⟨S15,k15,a15⟩:=c84 h false hF hs S3 (v_h_rooms) (hv_h_rooms.agree g3) (v_h_doors) (hv_h_doors.agree g3) (v_h_ways) (hv_h_ways.agree g3)
  have l15:=a15.1
  have s15:E0.same S3 S15=true:=symEnv_same a15
  have g15:Agree S S15:=g3.trans a15
  try simp (disch:=first|omega|assumption) only [E0_G,SY,off,agreeKind,vals,Nat.reduceAdd,Nat.reduceLT,Nat.reduceBEq,store_agree,store_refl E0_same,h4a,k15] at hz
  have h16:¬ ((r84 h false)=0):=r84_false
  have h16a:=decide_eq_false h16
  try simp (disch:=first|omega|assumption) only [E0_G,SY,off,agreeKind,Nat.reduceAdd,Nat.reduceLT,Nat.reduceBEq,store_refl E0_same,h16a] at hz
  have hr:r96e h way back ti g=(0,(r84 h false)):=(if_neg h4).trans (rfl)
  exact fin hz (by rw [hr]) g15
def r96d (h:Hs) (way:Int) (back:Bool) (ti:Int) (g:Hs):Int × Int:=(if (r143 h way)=true then (if (r84 h (r88 ti))=0 then (if (r144 h way back).2=true then ((r146 (⟨((r144 h way back).1).1,((r144 h way back).1).2.1,((r144 h way back).1).2.2.1,((r144 h way back).1).2.2.2.1,((r144 h way back).1).2.2.2.2.1,((r144 h way back).1).2.2.2.2.2⟩:Pg) ti g),0) else (0,5)) else (0,(r84 h (r88 ti)))) else (0,(r84 h false)))
set_option maxHeartbeats 4000000 in
theorem c96d (h:Hs) (way:Int) (back:Bool) (ti:Int) (g:Hs) (hF:Few h) (hs:∀ x ∈ h.rooms,x.name.size≤9223372036854775807) (hg:g=h) (S:AS) (v_h_rooms:Value) (hv_h_rooms:LstR S v_h_rooms h.rooms) (v_h_doors:Value) (hv_h_doors:LstR S v_h_doors h.doors) (v_h_ways:Value) (hv_h_ways:Lst S v_h_ways h.ways) (v_g_rooms:Value) (hv_g_rooms:LstR S v_g_rooms g.rooms) (v_g_doors:Value) (hv_g_doors:LstR S v_g_doors g.doors) (v_g_ways:Value) (hv_g_ways:Lst S v_g_ways g.ways) (p_g:Nat) (g_g:S.heap.get p_g=some (.cells [v_g_rooms,v_g_doors,v_g_ways] 26 0 true true)) (l_g:p_g<S.next) :
  ∃ S',(evL Tryz.prog E0).call 96 #[.agg #[v_h_rooms,v_h_doors,v_h_ways],.int .i64 way,.bool back,.int .i64 ti,.func (.func 146) #[] #[.pointer (some ⟨p_g,0,none⟩)]] S=some (.tuple #[.int .i64 (r96d h way back ti g).1,.int .i64 (r96d h way back ti g).2],S')∧Agree S S':=by
 have qr:=hF.r; have qd:=hF.d; have qw:=hF.w
 generalize hz:(evL Tryz.prog E0).call 96 _ _=z
 rw [L_call,evCall_said rfl Tryz.func96 rfl (by decide) Tryz.ntmps96 Tryz.results96] at hz
 obtain ⟨S1,e1,n1,b1,a1⟩:=push_open S (.cells [v_h_rooms,v_h_doors,v_h_ways] 26 0 true true)
 have vg_1:=(a1.2 p_g (by omega)).trans g_g
 have g1:Agree S S1:=a1
 have s1:E0.same S S1=true:=symEnv_same a1
 try simp (disch:=first|omega|assumption) only [E0_G,SY,setArgs,off,agreeKind,boxed,Nat.reduceAdd,Nat.reduceSub,Nat.reduceLT,Nat.reduceBEq,e1] at hz
 rw [code_draws _ _ _ (by kernel_rfl)] at hz
 generalize hnd2:needy _=nd2 at hz
 obtain ⟨S3,k3,a3⟩:=c143 h way  S1 (v_h_rooms) (hv_h_rooms.agree g1) (v_h_doors) (hv_h_doors.agree g1) (v_h_ways) (hv_h_ways.agree g1)
 have l3:=a3.1
 have s3:E0.same S1 S3=true:=symEnv_same a3
 have vg_3:=(a3.2 p_g (by omega)).trans vg_1
 have v1_3:=(a3.2 S.next (by omega)).trans b1
 have g3:Agree S S3:=g1.trans a3
 try simp (disch:=first|omega|assumption) only [E0_G,SY,agreeKind,vals,ldA,rdCells,aggD,Nat.reduceAdd,Nat.reduceLT,Nat.reduceBEq,TY_EvH11,b1,store_agree,store_refl E0_same,k3] at hz
 rcases dB ((r143 h way)) with ⟨h4a,h4⟩|⟨h4a,h4⟩
 ·skip
  have lq5:=r143_iff.1 h4
  obtain ⟨S6,k6,a6⟩:=c88 ti  S3
  have l6:=a6.1
  have s6:E0.same S3 S6=true:=symEnv_same a6
  have vg_6:=(a6.2 p_g (by omega)).trans vg_3
  have v1_6:=(a6.2 S.next (by omega)).trans v1_3
  have g6:Agree S S6:=g3.trans a6
  obtain ⟨S7,k7,a7⟩:=c84 h (r88 ti) hF hs S6 (v_h_rooms) (hv_h_rooms.agree g6) (v_h_doors) (hv_h_doors.agree g6) (v_h_ways) (hv_h_ways.agree g6)
  have l7:=a7.1
  have s7:E0.same S6 S7=true:=symEnv_same a7
  have vg_7:=(a7.2 p_g (by omega)).trans vg_6
  have v1_7:=(a7.2 S.next (by omega)).trans v1_6
  have g7:Agree S S7:=g6.trans a7
  try simp (disch:=first|omega|assumption) only [E0_G,SY,off,agreeKind,vals,Nat.reduceAdd,Nat.reduceLT,Nat.reduceBEq,store_agree,store_refl E0_same,h4a,k6,k7] at hz
  rcases dP ((r84 h (r88 ti))=0) with ⟨h8a,h8⟩|⟨h8a,h8⟩
  ·skip
   have hV:=(r84_ok h8).1
   have lq9:=r88_iff.1 (r84_ok h8).2
   obtain ⟨S10,k10,a10⟩:=c144 h way back (by first|omega|assumption) S7 (v_h_rooms) (hv_h_rooms.agree g7) (v_h_doors) (hv_h_doors.agree g7) (v_h_ways) (hv_h_ways.agree g7)
   have l10:=a10.1
   have s10:E0.same S7 S10=true:=symEnv_same a10
   have vg_10:=(a10.2 p_g (by omega)).trans vg_7
   have g10:Agree S S10:=g7.trans a10
   have p10:=r144_ok (b:=back) hV (show 0≤way∧way<(h.ways.length:Int) by omega)
   obtain ⟨S11,e11,n11,b11,a11⟩:=push_open S10 (.cells [.int .i64 0,.bool false,.int .i64 0,.int .i64 0,.int .i64 0,.int .i64 0] 137 0 true true)
   have vg_11:=(a11.2 p_g (by omega)).trans vg_10
   have g11:Agree S S11:=g10.trans a11
   have s11:E0.same S10 S11=true:=symEnv_same a11
   obtain ⟨S12,k12,n12,b12,q12⟩:=st_at (o:=0) (c':=[.int .i64 (((r144 h way back).1).1),.bool (((r144 h way back).1).2.1),.int .i64 (((r144 h way back).1).2.2.1),.int .i64 (((r144 h way back).1).2.2.2.1),.int .i64 (((r144 h way back).1).2.2.2.2.1),.int .i64 (((r144 h way back).1).2.2.2.2.2)]) (v:=.agg #[.int .i64 (((r144 h way back).1).1),.bool (((r144 h way back).1).2.1),.int .i64 (((r144 h way back).1).2.2.1),.int .i64 (((r144 h way back).1).2.2.2.1),.int .i64 (((r144 h way back).1).2.2.2.2.1),.int .i64 (((r144 h way back).1).2.2.2.2.2)]) tz137 b11 rfl rfl (show 0+6≤6 by decide) rfl
   have vg_12:=(q12 p_g (by omega)).trans vg_11
   have g12:Agree S S12:=⟨by have:=(g11).1; omega,fun id hid=>(q12 id (by have:=(g11).1; omega)).trans ((g11).2 id hid)⟩
   try simp (disch:=first|omega|assumption) only [E0_G,SY,off,agreeKind,vals,allocV,ldA,rdCells,aggD,aExtract,Nat.reduceAdd,Nat.reduceLT,Nat.reduceBEq,TY_EvH11,store_agree,store_refl E0_same,v1_7,h8a,k10,e11,k12] at hz
   rcases dB ((r144 h way back).2) with ⟨h13a,h13⟩|⟨h13a,h13⟩
   ·skip
    obtain ⟨S14,k14,a14⟩:=c146 (⟨((r144 h way back).1).1,((r144 h way back).1).2.1,((r144 h way back).1).2.2.1,((r144 h way back).1).2.2.2.1,((r144 h way back).1).2.2.2.2.1,((r144 h way back).1).2.2.2.2.2⟩:Pg) ti g (by rw [hg]; have q:=r144_ok (b:=back) hV (show 0≤way∧way<(h.ways.length:Int) by omega); exact ⟨hV,⟨q.1,q.2.1⟩,q.2.2⟩) (by omega) S12 (v_g_rooms) (hv_g_rooms.agree g12) (v_g_doors) (hv_g_doors.agree g12) (v_g_ways) (hv_g_ways.agree g12) p_g vg_12 (by omega)
    have l14:=a14.1
    have s14:E0.same S12 S14=true:=symEnv_same a14
    have g14:Agree S S14:=g12.trans a14
    try simp (disch:=first|omega|assumption) only [E0_G,SY,off,agreeKind,vals,ldA,rdCells,aggD,Nat.reduceAdd,Nat.reduceLT,Nat.reduceBEq,TY_EvH11,store_agree,store_refl E0_same,b12,h13a,k14] at hz
    have hr:r96d h way back ti g=((r146 (⟨((r144 h way back).1).1,((r144 h way back).1).2.1,((r144 h way back).1).2.2.1,((r144 h way back).1).2.2.2.1,((r144 h way back).1).2.2.2.2.1,((r144 h way back).1).2.2.2.2.2⟩:Pg) ti g),0):=(if_pos h4).trans ((if_pos h8).trans ((if_pos h13).trans (rfl)))
    exact fin hz (by rw [hr]) g14
   ·skip
    try simp (disch:=first|omega|assumption) only [E0_G,SY,off,agreeKind,Nat.reduceAdd,Nat.reduceLT,Nat.reduceBEq,store_refl E0_same,h13a] at hz
    have hr:r96d h way back ti g=(0,5):=(if_pos h4).trans ((if_pos h8).trans ((if_neg h13).trans (rfl)))
    exact fin hz (by rw [hr]) g12
  ·skip
   try simp (disch:=first|omega|assumption) only [E0_G,SY,off,agreeKind,Nat.reduceAdd,Nat.reduceLT,Nat.reduceBEq,store_refl E0_same,h8a] at hz
   have hr:r96d h way back ti g=(0,(r84 h (r88 ti))):=(if_pos h4).trans ((if_neg h8).trans (rfl))
   exact fin hz (by rw [hr]) g7
 ·skip
  obtain ⟨S15,k15,a15⟩:=c84 h false hF hs S3 (v_h_rooms) (hv_h_rooms.agree g3) (v_h_doors) (hv_h_doors.agree g3) (v_h_ways) (hv_h_ways.agree g3)
  have l15:=a15.1
  have s15:E0.same S3 S15=true:=symEnv_same a15
  have g15:Agree S S15:=g3.trans a15
  try simp (disch:=first|omega|assumption) only [E0_G,SY,off,agreeKind,vals,Nat.reduceAdd,Nat.reduceLT,Nat.reduceBEq,store_agree,store_refl E0_same,h4a,k15] at hz
  have h16:¬ ((r84 h false)=0):=r84_false
  have h16a:=decide_eq_false h16
  try simp (disch:=first|omega|assumption) only [E0_G,SY,off,agreeKind,Nat.reduceAdd,Nat.reduceLT,Nat.reduceBEq,store_refl E0_same,h16a] at hz
  have hr:r96d h way back ti g=(0,(r84 h false)):=(if_neg h4).trans (rfl)
  exact fin hz (by rw [hr]) g15
def r35 (h:Hs) (way:Int) (back:Bool) (ti:Int):Int × Int:=((r96e h way back ti h).1,(r96e h way back ti h).2)
set_option maxHeartbeats 2000000 in
theorem c35 (h:Hs) (way:Int) (back:Bool) (ti:Int) (hF:Few h) (hs:∀ x ∈ h.rooms,x.name.size≤9223372036854775807) (S:AS) (v_h_rooms:Value) (hv_h_rooms:LstR S v_h_rooms h.rooms) (v_h_doors:Value) (hv_h_doors:LstR S v_h_doors h.doors) (v_h_ways:Value) (hv_h_ways:Lst S v_h_ways h.ways) :
  ∃ S',(evL Tryz.prog E0).call 35 #[.agg #[v_h_rooms,v_h_doors,v_h_ways],.int .i64 way,.bool back,.int .i64 ti] S=some (.tuple #[.int .i64 (r35 h way back ti).1,.int .i64 (r35 h way back ti).2],S')∧Agree S S':=by
 have qr:=hF.r; have qd:=hF.d; have qw:=hF.w
 generalize hz:(evL Tryz.prog E0).call 35 _ _=z
 rw [L_call,evCall_said rfl Tryz.func35 rfl (by decide) Tryz.ntmps35 Tryz.results35] at hz
 obtain ⟨S1,e1,n1,b1,a1⟩:=push_open S (.cells [v_h_rooms,v_h_doors,v_h_ways] 26 0 true true)
 have g1:Agree S S1:=a1
 have s1:E0.same S S1=true:=symEnv_same a1
 try simp (disch:=first|omega|assumption) only [E0_G,SY,setArgs,off,agreeKind,boxed,Nat.reduceAdd,Nat.reduceSub,Nat.reduceLT,Nat.reduceBEq,e1] at hz
 rw [code_draws _ _ _ (by kernel_rfl)] at hz
 generalize hnd2:needy _=nd2 at hz
 obtain ⟨S3,k3,a3,n3,b3⟩:=c97 (v_h_rooms) (v_h_doors) (v_h_ways) S1
 have l3:=a3.1
 have s3:E0.same S1 S3=true:=symEnv_same a3
 have g3:Agree S S3:=g1.trans a3
 obtain ⟨S4,k4,a4⟩:=c96e h way back ti h hF hs rfl S3 (v_h_rooms) (hv_h_rooms.agree g3) (v_h_doors) (hv_h_doors.agree g3) (v_h_ways) (hv_h_ways.agree g3) (v_h_rooms) (hv_h_rooms.agree g3) (v_h_doors) (hv_h_doors.agree g3) (v_h_ways) (hv_h_ways.agree g3) S1.next b3 (by omega)
 have l4:=a4.1
 have s4:E0.same S3 S4=true:=symEnv_same a4
 have g4:Agree S S4:=g3.trans a4
 try simp (disch:=first|omega|assumption) only [E0_G,SY,agreeKind,vals,ldA,rdCells,aggD,aExtract,Nat.reduceAdd,Nat.reduceLT,Nat.reduceBEq,TY_EvH11,b1,store_agree,store_refl E0_same,k3,k4] at hz
 have hr:r35 h way back ti=((r96e h way back ti h).1,(r96e h way back ti h).2):=rfl
 exact fin hz (by rw [hr]) g4
def r37 (h:Hs) (way:Int) (back:Bool) (ti:Int):Int × Int:=((r96d h way back ti h).1,(r96d h way back ti h).2)
set_option maxHeartbeats 2000000 in
theorem c37 (h:Hs) (way:Int) (back:Bool) (ti:Int) (hF:Few h) (hs:∀ x ∈ h.rooms,x.name.size≤9223372036854775807) (S:AS) (v_h_rooms:Value) (hv_h_rooms:LstR S v_h_rooms h.rooms) (v_h_doors:Value) (hv_h_doors:LstR S v_h_doors h.doors) (v_h_ways:Value) (hv_h_ways:Lst S v_h_ways h.ways) :
  ∃ S',(evL Tryz.prog E0).call 37 #[.agg #[v_h_rooms,v_h_doors,v_h_ways],.int .i64 way,.bool back,.int .i64 ti] S=some (.tuple #[.int .i64 (r37 h way back ti).1,.int .i64 (r37 h way back ti).2],S')∧Agree S S':=by
 have qr:=hF.r; have qd:=hF.d; have qw:=hF.w
 generalize hz:(evL Tryz.prog E0).call 37 _ _=z
 rw [L_call,evCall_said rfl Tryz.func37 rfl (by decide) Tryz.ntmps37 Tryz.results37] at hz
 obtain ⟨S1,e1,n1,b1,a1⟩:=push_open S (.cells [v_h_rooms,v_h_doors,v_h_ways] 26 0 true true)
 have g1:Agree S S1:=a1
 have s1:E0.same S S1=true:=symEnv_same a1
 try simp (disch:=first|omega|assumption) only [E0_G,SY,setArgs,off,agreeKind,boxed,Nat.reduceAdd,Nat.reduceSub,Nat.reduceLT,Nat.reduceBEq,e1] at hz
 rw [code_draws _ _ _ (by kernel_rfl)] at hz
 generalize hnd2:needy _=nd2 at hz
 obtain ⟨S3,k3,a3,n3,b3⟩:=c100 (v_h_rooms) (v_h_doors) (v_h_ways) S1
 have l3:=a3.1
 have s3:E0.same S1 S3=true:=symEnv_same a3
 have g3:Agree S S3:=g1.trans a3
 obtain ⟨S4,k4,a4⟩:=c96d h way back ti h hF hs rfl S3 (v_h_rooms) (hv_h_rooms.agree g3) (v_h_doors) (hv_h_doors.agree g3) (v_h_ways) (hv_h_ways.agree g3) (v_h_rooms) (hv_h_rooms.agree g3) (v_h_doors) (hv_h_doors.agree g3) (v_h_ways) (hv_h_ways.agree g3) S1.next b3 (by omega)
 have l4:=a4.1
 have s4:E0.same S3 S4=true:=symEnv_same a4
 have g4:Agree S S4:=g3.trans a4
 try simp (disch:=first|omega|assumption) only [E0_G,SY,agreeKind,vals,ldA,rdCells,aggD,aExtract,Nat.reduceAdd,Nat.reduceLT,Nat.reduceBEq,TY_EvH11,b1,store_agree,store_refl E0_same,k3,k4] at hz
 have hr:r37 h way back ti=((r96d h way back ti h).1,(r96d h way back ti h).2):=rfl
 exact fin hz (by rw [hr]) g4
def r99 (h:Hs) (g:Gt) (ti:Int):Int:=(if 0≤g.door then min ((r90 (lget h.doors (Int.toNat g.door)) ti)+g.secs) 1073741824 else min (ti+g.secs) 1073741824)
def r101 (h:Hs) (g:Gt) (ti:Int):Int:=(if (ti - g.secs)<0 then -1 else (if g.door<0 then ti - g.secs else (r92 (lget h.doors (Int.toNat g.door)) (ti - g.secs))))
end House
end Go.Proofs
