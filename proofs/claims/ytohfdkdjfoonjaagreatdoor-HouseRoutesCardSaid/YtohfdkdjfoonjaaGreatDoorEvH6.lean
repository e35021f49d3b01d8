import Derived.Test.YtohfdkdjfoonjaaGreatDoorEvH5
set_option linter.unusedSimpArgs false
set_option linter.unusedVariables false
namespace Go.Proofs
namespace House
open Go Go.RowKit Go.Aev
set_option maxRecDepth 100000
theorem tz29:szOf Tryz.prog 29=some 1:=by kernel_rfl
theorem tt29:inTab Tryz.prog 29=true:=by kernel_rfl
theorem t0_29:zeroOf Tryz.prog 29=some (.int .i64 0):=by kernel_rfl
theorem tz50:szOf Tryz.prog 50=some 3:=by kernel_rfl
theorem tt50:inTab Tryz.prog 50=true:=by kernel_rfl
theorem t0_50:zeroOf Tryz.prog 50=some (.agg #[.int .i64 0,.int .i64 0,.int .i64 0]):=by kernel_rfl
theorem tz51:szOf Tryz.prog 51=some 3:=by kernel_rfl
theorem tt51:inTab Tryz.prog 51=true:=by kernel_rfl
theorem t0_51:zeroOf Tryz.prog 51=some (.agg #[.int .i64 0,.int .i64 0,.int .i64 0]):=by kernel_rfl
theorem TY_EvH6:type_of% (And.intro TY_EvH5 (And.intro (And.intro (And.intro Tryz.underlying29 (And.intro tz29 tt29)) (And.intro t0_29 (And.intro Tryz.underlying50 tz50))) (And.intro (And.intro tt50 (And.intro t0_50 Tryz.underlying51)) (And.intro tz51 (And.intro tt51 t0_51))))):=(And.intro TY_EvH5 (And.intro (And.intro (And.intro Tryz.underlying29 (And.intro tz29 tt29)) (And.intro t0_29 (And.intro Tryz.underlying50 tz50))) (And.intro (And.intro tt50 (And.intro t0_50 Tryz.underlying51)) (And.intro tz51 (And.intro tt51 t0_51)))))
theorem r98_ok {h:Hs} {n:Int} {b:Bool} {ti:Int} (e:(r98 h n b ti).2=0):r59 h=0∧0≤n∧n<h.ways.length ∧ -1≤(r98 h n b ti).1.2.2.2.2∧(r98 h n b ti).1.2.2.2.2<h.doors.length∧0≤(r98 h n b ti).1.2.2.2.1∧(r98 h n b ti).1.2.2.2.1≤3600∧0≤ti∧ti≤1073741823:=by
 unfold r98 at e ⊢
 split at e
 case isFalse=>exact absurd e (by assumption)
 rename_i h1
 split at e
 case isFalse=>simp at e
 rename_i h2
 split at e
 case isFalse=>simp at e
 rename_i h3
 have h2':=r71_iff.1 h2
 have h3':=r69_iff.1 h3
 have k:=okw_at h1 (n:=n) (by omega)
 have k1:=k.k
 have k2:=k.s
 have k3:=k.d
 rw [if_pos h1,if_pos h2,if_pos h3]
 split at e
 ·split at e
  ·simp at e
  ·rename_i h4 h5
   rw [if_pos h4,if_neg h5]
   simp only
   exact ⟨h1,by omega,by omega,by omega,by omega,by omega,by omega,by omega,by omega⟩
 ·rename_i h4
  rw [if_neg h4]
  simp only
  exact ⟨h1,by omega,by omega,by omega,by omega,by omega,by omega,by omega,by omega⟩
def r105 (h:Hs) (room:Int) (ti:Int) (s:Stp):(Int × Int × Int):=(if ((r98 h s.way s.back s.at_).2)=0 then (if (((r98 h s.way s.back s.at_).1).2.1)=room then (if s.at_<ti then (0,0,3) else (if 0≤(((r98 h s.way s.back s.at_).1).2.2.2.2) then (if (r86 (lget h.doors (Int.toNat (((r98 h s.way s.back s.at_).1).2.2.2.2))) s.at_)=true then (if 1073741824≤(s.at_+(((r98 h s.way s.back s.at_).1).2.2.2.1)) then (0,0,3) else (((r98 h s.way s.back s.at_).1).2.2.1,s.at_+(((r98 h s.way s.back s.at_).1).2.2.2.1),0)) else (0,0,9)) else (if 1073741824≤(s.at_+(((r98 h s.way s.back s.at_).1).2.2.2.1)) then (0,0,3) else (((r98 h s.way s.back s.at_).1).2.2.1,s.at_+(((r98 h s.way s.back s.at_).1).2.2.2.1),0)))) else (0,0,4)) else (0,0,1))
set_option maxHeartbeats 8000000 in
theorem c105 (h:Hs) (room:Int) (ti:Int) (s:Stp) (hF:Few h) (S:AS) (v_h_rooms:Value) (hv_h_rooms:LstR S v_h_rooms h.rooms) (v_h_doors:Value) (hv_h_doors:LstR S v_h_doors h.doors) (v_h_ways:Value) (hv_h_ways:Lst S v_h_ways h.ways) :
  ∃ S',(evL Tryz.prog E0).call 105 #[.agg #[v_h_rooms,v_h_doors,v_h_ways],.int .i64 room,.int .i64 ti,.agg #[.int .i64 s.way,.bool s.back,.int .i64 s.at_]] S=some (.agg #[.int .i64 ((r105 h room ti s).1),.int .i64 ((r105 h room ti s).2.1),.int .i64 ((r105 h room ti s).2.2)],S')∧Agree S S':=by
 have qr:=hF.r; have qd:=hF.d; have qw:=hF.w
 generalize hz:(evL Tryz.prog E0).call 105 _ _=z
 rw [L_call,evCall_said rfl Tryz.func105 rfl (by decide) Tryz.ntmps105 Tryz.results105] at hz
 obtain ⟨S1,e1,n1,b1,a1⟩:=push_open S (.cells [v_h_rooms,v_h_doors,v_h_ways] 26 0 true true)
 have g1:Agree S S1:=a1
 have s1:E0.same S S1=true:=symEnv_same a1
 obtain ⟨S2,e2,n2,b2,a2⟩:=push_open S1 (.cells [.int .i64 s.way,.bool s.back,.int .i64 s.at_] 94 0 true true)
 have v1_2:=(a2.2 S.next (by omega)).trans b1
 have g2:Agree S S2:=g1.trans a2
 have s2:E0.same S1 S2=true:=symEnv_same a2
 obtain ⟨S3,e3,n3,b3,a3⟩:=push_open S2 (.cells [.int .i64 0,.int .i64 0,.int .i64 0] 51 0 true true)
 have v1_3:=(a3.2 S.next (by omega)).trans v1_2
 have v2_3:=(a3.2 S1.next (by omega)).trans b2
 have g3:Agree S S3:=g2.trans a3
 have s3:E0.same S2 S3=true:=symEnv_same a3
 obtain ⟨S4,k4,a4⟩:=c98 h s.way s.back s.at_ hF S3 (v_h_rooms) (hv_h_rooms.agree g3) (v_h_doors) (hv_h_doors.agree g3) (v_h_ways) (hv_h_ways.agree g3)
 have l4:=a4.1
 have s4:E0.same S3 S4=true:=symEnv_same a4
 have v1_4:=(a4.2 S.next (by omega)).trans v1_3
 have v2_4:=(a4.2 S1.next (by omega)).trans v2_3
 have v3_4:=(a4.2 S2.next (by omega)).trans b3
 have g4:Agree S S4:=g3.trans a4
 obtain ⟨S5,e5,n5,b5,a5⟩:=push_open S4 (.cells [.int .i64 0,.int .i64 0,.int .i64 0,.int .i64 0,.int .i64 0] 128 0 true true)
 have v1_5:=(a5.2 S.next (by omega)).trans v1_4
 have v2_5:=(a5.2 S1.next (by omega)).trans v2_4
 have v3_5:=(a5.2 S2.next (by omega)).trans v3_4
 have g5:Agree S S5:=g4.trans a5
 have s5:E0.same S4 S5=true:=symEnv_same a5
 obtain ⟨S6,k6,n6,b6,q6⟩:=st_at (o:=0) (c':=[.int .i64 (((r98 h s.way s.back s.at_).1).1),.int .i64 (((r98 h s.way s.back s.at_).1).2.1),.int .i64 (((r98 h s.way s.back s.at_).1).2.2.1),.int .i64 (((r98 h s.way s.back s.at_).1).2.2.2.1),.int .i64 (((r98 h s.way s.back s.at_).1).2.2.2.2)]) (v:=.agg #[.int .i64 (((r98 h s.way s.back s.at_).1).1),.int .i64 (((r98 h s.way s.back s.at_).1).2.1),.int .i64 (((r98 h s.way s.back s.at_).1).2.2.1),.int .i64 (((r98 h s.way s.back s.at_).1).2.2.2.1),.int .i64 (((r98 h s.way s.back s.at_).1).2.2.2.2)]) tz128 b5 rfl rfl (show 0+5≤5 by decide) rfl
 have v1_6:=(q6 S.next (by omega)).trans v1_5
 have v2_6:=(q6 S1.next (by omega)).trans v2_5
 have v3_6:=(q6 S2.next (by omega)).trans v3_5
 have g6:Agree S S6:=⟨by have:=(g5).1; omega,fun id hid=>(q6 id (by have:=(g5).1; omega)).trans ((g5).2 id hid)⟩
 try simp (disch:=first|omega|assumption) only [E0_G,SY,setArgs,off,agreeKind,vals,allocV,boxed,ldA,rdCells,aggD,aField,aExtract,Nat.reduceAdd,Nat.reduceSub,Nat.reduceLT,Nat.reduceBEq,TY_EvH6,e1,e2,v1_3,v2_3,e3,k4,e5,k6] at hz
 rcases dP (((r98 h s.way s.back s.at_).2)=0) with ⟨h7a,h7⟩|⟨h7a,h7⟩
 ·skip
  have lq8:=r98_ok h7
  try simp (disch:=first|omega|assumption) only [E0_G,SY,off,agreeKind,ldA,aggD,aField,Nat.reduceAdd,Nat.reduceLT,Nat.reduceBEq,TY_EvH6,b6,h7a] at hz
  rcases dP ((((r98 h s.way s.back s.at_).1).2.1)=room) with ⟨h9a,h9⟩|⟨h9a,h9⟩
  ·skip
   try simp (disch:=first|omega|assumption) only [E0_G,SY,off,agreeKind,ldA,aggD,aField,Nat.reduceAdd,Nat.reduceLT,Nat.reduceBEq,TY_EvH6,v2_6,h9a] at hz
   rcases dP (s.at_<ti) with ⟨h10a,h10⟩|⟨h10a,h10⟩
   ·skip
    have y11:aBuild Tryz.prog 51 [(2,.int .i64 3)]=some (.agg #[.int .i64 0,.int .i64 0,.int .i64 3]):=by kernel_rfl
    obtain ⟨S12,k12,n12,b12,q12⟩:=st_at (o:=0) (c':=[.int .i64 0,.int .i64 0,.int .i64 3]) (v:=.agg #[.int .i64 0,.int .i64 0,.int .i64 3]) tz51 v3_6 rfl rfl (show 0+3≤3 by decide) rfl
    have g12:Agree S S12:=⟨by have:=(g6).1; omega,fun id hid=>(q12 id (by have:=(g6).1; omega)).trans ((g6).2 id hid)⟩
    try simp (disch:=first|omega|assumption) only [E0_G,SY,off,agreeKind,partVals,ldA,rdCells,aggD,Nat.reduceAdd,Nat.reduceLT,Nat.reduceBEq,TY_EvH6,h10a,y11,k12,b12] at hz
    have hr:r105 h room ti s=(0,0,3):=(if_pos h7).trans ((if_pos h9).trans ((if_pos h10).trans (rfl)))
    exact fin hz (by rw [hr]) g12
   ·skip
    try simp (disch:=first|omega|assumption) only [E0_G,SY,off,agreeKind,ldA,aggD,aField,Nat.reduceAdd,Nat.reduceLT,Nat.reduceBEq,TY_EvH6,b6,h10a] at hz
    rcases dP (0≤(((r98 h s.way s.back s.at_).1).2.2.2.2)) with ⟨h13a,h13⟩|⟨h13a,h13⟩
    ·skip
     try simp (disch:=first|omega|assumption) only [SY,h13a] at hz
     rw [code_draws _ _ _ (by kernel_rfl)] at hz
     generalize hnd14:needy _=nd14 at hz
     have qz15:((Int.toNat (((r98 h s.way s.back s.at_).1).2.2.2.2):Nat):Int)=((r98 h s.way s.back s.at_).1).2.2.2.2:=Int.toNat_of_nonneg (by first|omega|simp; omega)
     have hx16:h.doors[(Int.toNat (((r98 h s.way s.back s.at_).1).2.2.2.2))]?=some (lget h.doors (Int.toNat (((r98 h s.way s.back s.at_).1).2.2.2.2))):=lget_some (by first|omega|simp; omega)
     obtain ⟨id16,of16,cc16,ty16,wr16,ex16,cs16,i16,j16,l16,rp16,q16⟩:=LstR.at (hv_h_doors) (P:=Tryz.prog) (t:=23) Tryz.underlying23 tz98 hx16
     obtain ⟨w16_0,w16_1,rp16,rr16_0,rr16_1⟩:=rp16
     have rq16:cs16=[w16_0,w16_1]:=rp16
     subst rq16
     have jr16:=j16
     have j16:=(g6.2 id16 l16).trans jr16
     have m16_0:cc16[of16]?=some (w16_0):=q16 0 (show 0<2 by decide)
     have m16_1:cc16[of16+1]?=some (w16_1):=q16 1 (show 1<2 by decide)
     rw [qz15] at i16
     obtain ⟨S17,k17,a17⟩:=c86 (lget h.doors (Int.toNat (((r98 h s.way s.back s.at_).1).2.2.2.2))) s.at_ (okd (r98_ok (by assumption)).1 (List.mem_of_getElem? (by assumption))) S6 (w16_0) (rr16_0.agree g6) (w16_1) (rr16_1.agree g6)
     have l17:=a17.1
     have s17:E0.same S6 S17=true:=symEnv_same a17
     have v2_17:=(a17.2 S1.next (by omega)).trans v2_6
     have v3_17:=(a17.2 S2.next (by omega)).trans v3_6
     have v5_17:=(a17.2 S4.next (by omega)).trans b6
     have g17:Agree S S17:=g6.trans a17
     try simp (disch:=first|omega|assumption) only [E0_G,SY,off,agreeKind,vals,ldA,rdCells,aggD,aField,Nat.reduceAdd,Nat.reduceLT,Nat.reduceBEq,TY_EvH6,v1_6,v2_6,b6,store_agree,store_refl E0_same,i16,j16,m16_0,m16_1,k17] at hz
     rcases dB ((r86 (lget h.doors (Int.toNat (((r98 h s.way s.back s.at_).1).2.2.2.2))) s.at_)) with ⟨h18a,h18⟩|⟨h18a,h18⟩
     ·skip
      have w19:IntKind.i64.wrap (s.at_+(((r98 h s.way s.back s.at_).1).2.2.2.1))=s.at_+(((r98 h s.way s.back s.at_).1).2.2.2.1):=by rw [IntWalk.i64_in]; omega
      try simp (disch:=first|omega|assumption) only [E0_G,SY,off,agreeKind,ldA,aggD,aField,Nat.reduceAdd,Nat.reduceLT,Nat.reduceBEq,TY_EvH6,store_refl E0_same,v2_17,v5_17,h18a,w19] at hz
      rcases dP (1073741824≤(s.at_+(((r98 h s.way s.back s.at_).1).2.2.2.1))) with ⟨h20a,h20⟩|⟨h20a,h20⟩
      ·skip
       have y21:aBuild Tryz.prog 51 [(2,.int .i64 3)]=some (.agg #[.int .i64 0,.int .i64 0,.int .i64 3]):=by kernel_rfl
       obtain ⟨S22,k22,n22,b22,q22⟩:=st_at (o:=0) (c':=[.int .i64 0,.int .i64 0,.int .i64 3]) (v:=.agg #[.int .i64 0,.int .i64 0,.int .i64 3]) tz51 v3_17 rfl rfl (show 0+3≤3 by decide) rfl
       have g22:Agree S S22:=⟨by have:=(g17).1; omega,fun id hid=>(q22 id (by have:=(g17).1; omega)).trans ((g17).2 id hid)⟩
       try simp (disch:=first|omega|assumption) only [E0_G,SY,off,agreeKind,partVals,ldA,rdCells,aggD,Nat.reduceAdd,Nat.reduceLT,Nat.reduceBEq,TY_EvH6,store_refl E0_same,h20a,y21,k22,b22] at hz
       have hr:r105 h room ti s=(0,0,3):=(if_pos h7).trans ((if_pos h9).trans ((if_neg h10).trans ((if_pos h13).trans ((if_pos h18).trans ((if_pos h20).trans (rfl))))))
       exact fin hz (by rw [hr]) g22
      ·skip
       have w23:IntKind.i64.wrap (s.at_+(((r98 h s.way s.back s.at_).1).2.2.2.1))=s.at_+(((r98 h s.way s.back s.at_).1).2.2.2.1):=by rw [IntWalk.i64_in]; omega
       have y24:aBuild Tryz.prog 51 [(0,.int .i64 (((r98 h s.way s.back s.at_).1).2.2.1)),(1,.int .i64 (s.at_+(((r98 h s.way s.back s.at_).1).2.2.2.1)))]=some (.agg #[.int .i64 (((r98 h s.way s.back s.at_).1).2.2.1),.int .i64 (s.at_+(((r98 h s.way s.back s.at_).1).2.2.2.1)),.int .i64 0]):=by kernel_rfl
       obtain ⟨S25,k25,n25,b25,q25⟩:=st_at (o:=0) (c':=[.int .i64 (((r98 h s.way s.back s.at_).1).2.2.1),.int .i64 (s.at_+(((r98 h s.way s.back s.at_).1).2.2.2.1)),.int .i64 0]) (v:=.agg #[.int .i64 (((r98 h s.way s.back s.at_).1).2.2.1),.int .i64 (s.at_+(((r98 h s.way s.back s.at_).1).2.2.2.1)),.int .i64 0]) tz51 v3_17 rfl rfl (show 0+3≤3 by decide) rfl
       have g25:Agree S S25:=⟨by have:=(g17).1; omega,fun id hid=>(q25 id (by have:=(g17).1; omega)).trans ((g17).2 id hid)⟩
       try simp (disch:=first|omega|assumption) only [E0_G,SY,off,agreeKind,partVals,ldA,rdCells,aggD,aField,Nat.reduceAdd,Nat.reduceLT,Nat.reduceBEq,TY_EvH6,store_refl E0_same,v2_17,v5_17,w19,h20a,y24,k25,b25] at hz
       have hr:r105 h room ti s=(((r98 h s.way s.back s.at_).1).2.2.1,s.at_+(((r98 h s.way s.back s.at_).1).2.2.2.1),0):=(if_pos h7).trans ((if_pos h9).trans ((if_neg h10).trans ((if_pos h13).trans ((if_pos h18).trans ((if_neg h20).trans (rfl))))))
       exact fin hz (by rw [hr]) g25
     ·skip
      have y26:aBuild Tryz.prog 51 [(2,.int .i64 9)]=some (.agg #[.int .i64 0,.int .i64 0,.int .i64 9]):=by kernel_rfl
      obtain ⟨S27,k27,n27,b27,q27⟩:=st_at (o:=0) (c':=[.int .i64 0,.int .i64 0,.int .i64 9]) (v:=.agg #[.int .i64 0,.int .i64 0,.int .i64 9]) tz51 v3_17 rfl rfl (show 0+3≤3 by decide) rfl
      have g27:Agree S S27:=⟨by have:=(g17).1; omega,fun id hid=>(q27 id (by have:=(g17).1; omega)).trans ((g17).2 id hid)⟩
      try simp (disch:=first|omega|assumption) only [E0_G,SY,off,agreeKind,partVals,ldA,rdCells,aggD,Nat.reduceAdd,Nat.reduceLT,Nat.reduceBEq,TY_EvH6,store_refl E0_same,h18a,y26,k27,b27] at hz
      have hr:r105 h room ti s=(0,0,9):=(if_pos h7).trans ((if_pos h9).trans ((if_neg h10).trans ((if_pos h13).trans ((if_neg h18).trans (rfl)))))
      exact fin hz (by rw [hr]) g27
    ·skip
     have w28:IntKind.i64.wrap (s.at_+(((r98 h s.way s.back s.at_).1).2.2.2.1))=s.at_+(((r98 h s.way s.back s.at_).1).2.2.2.1):=by rw [IntWalk.i64_in]; omega
     try simp (disch:=first|omega|assumption) only [E0_G,SY,off,agreeKind,ldA,aggD,aField,Nat.reduceAdd,Nat.reduceLT,Nat.reduceBEq,TY_EvH6,v2_6,b6,h13a,w28] at hz
     rcases dP (1073741824≤(s.at_+(((r98 h s.way s.back s.at_).1).2.2.2.1))) with ⟨h29a,h29⟩|⟨h29a,h29⟩
     ·skip
      have y30:aBuild Tryz.prog 51 [(2,.int .i64 3)]=some (.agg #[.int .i64 0,.int .i64 0,.int .i64 3]):=by kernel_rfl
      obtain ⟨S31,k31,n31,b31,q31⟩:=st_at (o:=0) (c':=[.int .i64 0,.int .i64 0,.int .i64 3]) (v:=.agg #[.int .i64 0,.int .i64 0,.int .i64 3]) tz51 v3_6 rfl rfl (show 0+3≤3 by decide) rfl
      have g31:Agree S S31:=⟨by have:=(g6).1; omega,fun id hid=>(q31 id (by have:=(g6).1; omega)).trans ((g6).2 id hid)⟩
      try simp (disch:=first|omega|assumption) only [E0_G,SY,off,agreeKind,partVals,ldA,rdCells,aggD,Nat.reduceAdd,Nat.reduceLT,Nat.reduceBEq,TY_EvH6,h29a,y30,k31,b31] at hz
      have hr:r105 h room ti s=(0,0,3):=(if_pos h7).trans ((if_pos h9).trans ((if_neg h10).trans ((if_neg h13).trans ((if_pos h29).trans (rfl)))))
      exact fin hz (by rw [hr]) g31
     ·skip
      have w32:IntKind.i64.wrap (s.at_+(((r98 h s.way s.back s.at_).1).2.2.2.1))=s.at_+(((r98 h s.way s.back s.at_).1).2.2.2.1):=by rw [IntWalk.i64_in]; omega
      have y33:aBuild Tryz.prog 51 [(0,.int .i64 (((r98 h s.way s.back s.at_).1).2.2.1)),(1,.int .i64 (s.at_+(((r98 h s.way s.back s.at_).1).2.2.2.1)))]=some (.agg #[.int .i64 (((r98 h s.way s.back s.at_).1).2.2.1),.int .i64 (s.at_+(((r98 h s.way s.back s.at_).1).2.2.2.1)),.int .i64 0]):=by kernel_rfl
      obtain ⟨S34,k34,n34,b34,q34⟩:=st_at (o:=0) (c':=[.int .i64 (((r98 h s.way s.back s.at_).1).2.2.1),.int .i64 (s.at_+(((r98 h s.way s.back s.at_).1).2.2.2.1)),.int .i64 0]) (v:=.agg #[.int .i64 (((r98 h s.way s.back s.at_).1).2.2.1),.int .i64 (s.at_+(((r98 h s.way s.back s.at_).1).2.2.2.1)),.int .i64 0]) tz51 v3_6 rfl rfl (show 0+3≤3 by decide) rfl
      have g34:Agree S S34:=⟨by have:=(g6).1; omega,fun id hid=>(q34 id (by have:=(g6).1; omega)).trans ((g6).2 id hid)⟩
      try simp (disch:=first|omega|assumption) only [E0_G,SY,off,agreeKind,partVals,ldA,rdCells,aggD,aField,Nat.reduceAdd,Nat.reduceLT,Nat.reduceBEq,TY_EvH6,v2_6,b6,w28,h29a,y33,k34,b34] at hz
      have hr:r105 h room ti s=(((r98 h s.way s.back s.at_).1).2.2.1,s.at_+(((r98 h s.way s.back s.at_).1).2.2.2.1),0):=(if_pos h7).trans ((if_pos h9).trans ((if_neg h10).trans ((if_neg h13).trans ((if_neg h29).trans (rfl)))))
      exact fin hz (by rw [hr]) g34
  ·skip
   have y35:aBuild Tryz.prog 51 [(2,.int .i64 4)]=some (.agg #[.int .i64 0,.int .i64 0,.int .i64 4]):=by kernel_rfl
   obtain ⟨S36,k36,n36,b36,q36⟩:=st_at (o:=0) (c':=[.int .i64 0,.int .i64 0,.int .i64 4]) (v:=.agg #[.int .i64 0,.int .i64 0,.int .i64 4]) tz51 v3_6 rfl rfl (show 0+3≤3 by decide) rfl
   have g36:Agree S S36:=⟨by have:=(g6).1; omega,fun id hid=>(q36 id (by have:=(g6).1; omega)).trans ((g6).2 id hid)⟩
   try simp (disch:=first|omega|assumption) only [E0_G,SY,off,agreeKind,partVals,ldA,rdCells,aggD,Nat.reduceAdd,Nat.reduceLT,Nat.reduceBEq,TY_EvH6,h9a,y35,k36,b36] at hz
   have hr:r105 h room ti s=(0,0,4):=(if_pos h7).trans ((if_neg h9).trans (rfl))
   exact fin hz (by rw [hr]) g36
 ·skip
  have y37:aBuild Tryz.prog 51 [(2,.int .i64 1)]=some (.agg #[.int .i64 0,.int .i64 0,.int .i64 1]):=by kernel_rfl
  obtain ⟨S38,k38,n38,b38,q38⟩:=st_at (o:=0) (c':=[.int .i64 0,.int .i64 0,.int .i64 1]) (v:=.agg #[.int .i64 0,.int .i64 0,.int .i64 1]) tz51 v3_6 rfl rfl (show 0+3≤3 by decide) rfl
  have g38:Agree S S38:=⟨by have:=(g6).1; omega,fun id hid=>(q38 id (by have:=(g6).1; omega)).trans ((g6).2 id hid)⟩
  try simp (disch:=first|omega|assumption) only [E0_G,SY,off,agreeKind,partVals,ldA,rdCells,aggD,Nat.reduceAdd,Nat.reduceLT,Nat.reduceBEq,TY_EvH6,h7a,y37,k38,b38] at hz
  have hr:r105 h room ti s=(0,0,1):=(if_neg h7).trans (rfl)
  exact fin hz (by rw [hr]) g38
def R40_0 (h:Hs) (from_:Int) (ti:Int) (l:List Stp)  : List Stp→Int→Int→Int→Sum (Int × Int × Int) (Int × Int × Int)
 | [],rm,tv,er=>.inr (rm,tv,er)
 | x12 :: l',rm,tv,er=>(if (((r105 h rm tv x12)).2.2)=0 then R40_0 h from_ ti l l' (((r105 h rm tv x12)).1) (((r105 h rm tv x12)).2.1) (((r105 h rm tv x12)).2.2) else .inl (0,0,((r105 h rm tv x12)).2.2))
def r40 (h:Hs) (from_:Int) (ti:Int) (l:List Stp):(Int × Int × Int):=(if (r104 h from_ ti)=0 then (if 60<(l.length:Int) then (0,0,2) else (onSum (R40_0 h from_ ti l l from_ ti 0) (fun (r8_0,r8_1,r8_2)=>(r8_0,r8_1,r8_2)) (fun (rm,tv,er)=>(rm,tv,er)))) else (0,0,(r104 h from_ ti)))
set_option maxHeartbeats 8000000 in
theorem c40 (h:Hs) (from_:Int) (ti:Int) (l:List Stp) (hF:Few h) (hl:l.length≤80) (S:AS) (v_h_rooms:Value) (hv_h_rooms:LstR S v_h_rooms h.rooms) (v_h_doors:Value) (hv_h_doors:LstR S v_h_doors h.doors) (v_h_ways:Value) (hv_h_ways:Lst S v_h_ways h.ways) (v_l:Value) (hv_l:LstR S v_l l) :
  ∃ S',(evL Tryz.prog E0).call 40 #[.agg #[v_h_rooms,v_h_doors,v_h_ways],.int .i64 from_,.int .i64 ti,v_l] S=some (.agg #[.int .i64 ((r40 h from_ ti l).1),.int .i64 ((r40 h from_ ti l).2.1),.int .i64 ((r40 h from_ ti l).2.2)],S')∧Agree S S':=by
 have qr:=hF.r; have qd:=hF.d; have qw:=hF.w
 generalize hz:(evL Tryz.prog E0).call 40 _ _=z
 rw [L_call,evCall_said rfl Tryz.func40 rfl (by decide) Tryz.ntmps40 Tryz.results40] at hz
 obtain ⟨S1,e1,n1,b1,a1⟩:=push_open S (.cells [v_h_rooms,v_h_doors,v_h_ways] 26 0 true true)
 have g1:Agree S S1:=a1
 have s1:E0.same S S1=true:=symEnv_same a1
 obtain ⟨S2,e2,n2,b2,a2⟩:=push_open S1 (.cells [.int .i64 0,.int .i64 0,.int .i64 0] 51 0 true true)
 have v1_2:=(a2.2 S.next (by omega)).trans b1
 have g2:Agree S S2:=g1.trans a2
 have s2:E0.same S1 S2=true:=symEnv_same a2
 obtain ⟨S3,k3,a3⟩:=c104 h from_ ti hF S2 (v_h_rooms) (hv_h_rooms.agree g2) (v_h_doors) (hv_h_doors.agree g2) (v_h_ways) (hv_h_ways.agree g2)
 have l3:=a3.1
 have s3:E0.same S2 S3=true:=symEnv_same a3
 have v1_3:=(a3.2 S.next (by omega)).trans v1_2
 have v2_3:=(a3.2 S1.next (by omega)).trans b2
 have g3:Agree S S3:=g2.trans a3
 try simp (disch:=first|omega|assumption) only [E0_G,SY,setArgs,off,agreeKind,vals,allocV,boxed,ldA,rdCells,aggD,Nat.reduceAdd,Nat.reduceSub,Nat.reduceLT,Nat.reduceBEq,TY_EvH6,e1,v1_2,e2,k3] at hz
 rcases dP ((r104 h from_ ti)=0) with ⟨h4a,h4⟩|⟨h4a,h4⟩
 ·skip
  have w5:=(hv_l.agree g3).len (P:=Tryz.prog) (t:=47) Tryz.underlying47
  try simp (disch:=first|omega|assumption) only [E0_G,SY,off,agreeKind,Nat.reduceAdd,Nat.reduceLT,Nat.reduceBEq,h4a,w5] at hz
  rcases dP (60<(l.length:Int)) with ⟨h6a,h6⟩|⟨h6a,h6⟩
  ·skip
   have y7:aBuild Tryz.prog 51 [(2,.int .i64 2)]=some (.agg #[.int .i64 0,.int .i64 0,.int .i64 2]):=by kernel_rfl
   obtain ⟨S8,k8,n8,b8,q8⟩:=st_at (o:=0) (c':=[.int .i64 0,.int .i64 0,.int .i64 2]) (v:=.agg #[.int .i64 0,.int .i64 0,.int .i64 2]) tz51 v2_3 rfl rfl (show 0+3≤3 by decide) rfl
   have g8:Agree S S8:=⟨by have:=(g3).1; omega,fun id hid=>(q8 id (by have:=(g3).1; omega)).trans ((g3).2 id hid)⟩
   try simp (disch:=first|omega|assumption) only [E0_G,SY,off,agreeKind,partVals,ldA,rdCells,aggD,Nat.reduceAdd,Nat.reduceLT,Nat.reduceBEq,TY_EvH6,h6a,y7,k8,b8] at hz
   have hr:r40 h from_ ti l=(0,0,2):=(if_pos h4).trans ((if_pos h6).trans (rfl))
   exact fin hz (by rw [hr]) g8
  ·skip
   have y9:aBuild Tryz.prog 51 [(0,.int .i64 from_),(1,.int .i64 ti)]=some (.agg #[.int .i64 from_,.int .i64 ti,.int .i64 0]):=by kernel_rfl
   obtain ⟨S10,e10,n10,b10,a10⟩:=push_open S3 (.cells [.int .i64 0,.int .i64 0,.int .i64 0] 51 0 true true)
   have v1_10:=(a10.2 S.next (by omega)).trans v1_3
   have v2_10:=(a10.2 S1.next (by omega)).trans v2_3
   have g10:Agree S S10:=g3.trans a10
   have s10:E0.same S3 S10=true:=symEnv_same a10
   obtain ⟨S11,k11,n11,b11,q11⟩:=st_at (o:=0) (c':=[.int .i64 from_,.int .i64 ti,.int .i64 0]) (v:=.agg #[.int .i64 from_,.int .i64 ti,.int .i64 0]) tz51 b10 rfl rfl (show 0+3≤3 by decide) rfl
   have v1_11:=(q11 S.next (by omega)).trans v1_10
   have v2_11:=(q11 S1.next (by omega)).trans v2_10
   have g11:Agree S S11:=⟨by have:=(g10).1; omega,fun id hid=>(q11 id (by have:=(g10).1; omega)).trans ((g10).2 id hid)⟩
   try simp (disch:=first|omega|assumption) only [E0_G,SY,off,agreeKind,partVals,allocV,Nat.reduceAdd,Nat.reduceLT,Nat.reduceBEq,TY_EvH6,h6a,y9,e10,k11] at hz
   generalize hL12:Rec.loop _ _ _ _=L12 at hz
   obtain ⟨x12,t12,S12e,rfl,hQ12⟩:=loop_met hL12 (fun m t S'=>∃ (k:Nat) (rm:Int) (tv:Int) (er:Int),m+k=l.length∧k≤l.length∧t.get 3=some (v_l)∧t.get 4=some (.pointer (some ⟨S.next,0,none⟩))∧t.get 8=some (.pointer (some ⟨S1.next,0,none⟩))∧t.get 10=some (.pointer (some ⟨S3.next,0,none⟩))∧t.get 11=some (.int .i64 (k:Int))∧S'.heap.get S.next=some (.cells [v_h_rooms,v_h_doors,v_h_ways] 26 0 true true)∧S'.heap.get S1.next=some (.cells [.int .i64 0,.int .i64 0,.int .i64 0] 51 0 true true)∧S'.heap.get S3.next=some (.cells [.int .i64 rm,.int .i64 tv,.int .i64 er] 51 0 true true)∧Agree S S'∧S11.next≤S'.next∧R40_0 h from_ ti l (l.drop k) rm tv er=R40_0 h from_ ti l l from_ ti 0)
    (fun x t S'=>(x=.exit 0∧∃ (k:Nat) (rm:Int) (tv:Int) (er:Int),t.get 8=some (.pointer (some ⟨S1.next,0,none⟩))∧t.get 10=some (.pointer (some ⟨S3.next,0,none⟩))∧S'.heap.get S.next=some (.cells [v_h_rooms,v_h_doors,v_h_ways] 26 0 true true)∧S'.heap.get S1.next=some (.cells [.int .i64 0,.int .i64 0,.int .i64 0] 51 0 true true)∧S'.heap.get S3.next=some (.cells [.int .i64 rm,.int .i64 tv,.int .i64 er] 51 0 true true)∧Agree S S'∧S11.next≤S'.next∧k≤l.length∧R40_0 h from_ ti l l from_ ti 0=.inr (rm,tv,er))∨(x=.ret∧∃ (r8_0:Int) (r8_1:Int) (r8_2:Int),t.get 8=some (.pointer (some ⟨S1.next,0,none⟩))∧S'.heap.get S1.next=some (.cells [.int .i64 r8_0,.int .i64 r8_1,.int .i64 r8_2] 51 0 true true)∧Agree S S'∧R40_0 h from_ ti l l from_ ti 0=.inl (r8_0,r8_1,r8_2))) (l.length - 0) ⟨0,from_,ti,0,by first|rfl|omega|(simp; omega)|simp,by first|rfl|omega|(simp; omega)|simp,by simp only [SY,eq_self,Nat.reduceBEq]<;>rfl,by simp only [SY,eq_self,Nat.reduceBEq]<;>rfl,by simp only [SY,eq_self,Nat.reduceBEq]<;>rfl,by simp only [SY,eq_self,Nat.reduceBEq]<;>rfl,by simp only [SY,Nat.reduceBEq]<;>rfl,v1_11,v2_11,b11,g11,Nat.le_refl _,rfl⟩ (by
     rintro m t S12 ⟨k,rm,tv,er,hi12_0,hi12_1,g12_3,g12_4,g12_8,g12_10,g12_11,bb12_1,bb12_2,bb12_10,ga12,gn12,hd12⟩
     refine .run fun z he=>?_
     have w13:=(hv_l.agree ga12).len (P:=Tryz.prog) (t:=47) Tryz.underlying47
     try simp (disch:=first|omega|assumption) only [E0_G,SY,off,agreeKind,Nat.reduceAdd,Nat.reduceLT,Nat.reduceBEq,g12_3,g12_11,w5] at he
     rcases dP ((k:Int)<(l.length:Int)) with ⟨h14a,h14⟩|⟨h14a,h14⟩
     ·skip
      try simp (disch:=first|omega|assumption) only [SY,h14a] at he
      rw [code_draws _ _ _ (by kernel_rfl)] at he
      generalize hnd15:needy _=nd15 at he
      have nn15_10:nd15 10=false:=by rw [← hnd15]; kernel_rfl
      have hx12:l[k]?=some (l[k]'(by first|omega|simp; omega)):=List.getElem?_eq_getElem _
      generalize l[k]'_=x12 at hx12
      obtain ⟨id16,of16,cc16,ty16,wr16,ex16,cs16,i16,j16,l16,rp16,q16⟩:=LstR.at (hv_l) (P:=Tryz.prog) (t:=47) Tryz.underlying47 tz94 hx12
      have rq16:cs16=[.int .i64 x12.way,.bool x12.back,.int .i64 x12.at_]:=rp16
      subst rq16
      have jr16:=j16
      have j16:=(ga12.2 id16 l16).trans jr16
      have m16_0:cc16[of16]?=some (.int .i64 x12.way):=q16 0 (show 0<3 by decide)
      have m16_1:cc16[of16+1]?=some (.bool x12.back):=q16 1 (show 1<3 by decide)
      have m16_2:cc16[of16+2]?=some (.int .i64 x12.at_):=q16 2 (show 2<3 by decide)
      obtain ⟨S17,k17,a17⟩:=c105 h rm tv x12 hF S12 (v_h_rooms) (hv_h_rooms.agree ga12) (v_h_doors) (hv_h_doors.agree ga12) (v_h_ways) (hv_h_ways.agree ga12)
      have l17:=a17.1
      have s17:E0.same S12 S17=true:=symEnv_same a17
      have v1_17:=(a17.2 S.next (by omega)).trans bb12_1
      have v2_17:=(a17.2 S1.next (by omega)).trans bb12_2
      have v10_17:=(a17.2 S3.next (by omega)).trans bb12_10
      have g17:Agree S S17:=ga12.trans a17
      obtain ⟨S18,k18,n18,b18,q18⟩:=st_at (o:=0) (c':=[.int .i64 (((r105 h rm tv x12)).1),.int .i64 (((r105 h rm tv x12)).2.1),.int .i64 (((r105 h rm tv x12)).2.2)]) (v:=.agg #[.int .i64 (((r105 h rm tv x12)).1),.int .i64 (((r105 h rm tv x12)).2.1),.int .i64 (((r105 h rm tv x12)).2.2)]) tz51 v10_17 rfl rfl (show 0+3≤3 by decide) rfl
      have v1_18:=(q18 S.next (by omega)).trans v1_17
      have v2_18:=(q18 S1.next (by omega)).trans v2_17
      have g18:Agree S S18:=⟨by have:=(g17).1; omega,fun id hid=>(q18 id (by have:=(g17).1; omega)).trans ((g17).2 id hid)⟩
      try simp (disch:=first|omega|assumption) only [E0_G,SY,off,agreeKind,vals,ldA,rdCells,aggD,aField,Nat.reduceAdd,Nat.reduceLT,Nat.reduceBEq,TY_EvH6,g12_3,g12_4,g12_10,g12_11,bb12_1,bb12_10,nn15_10,store_agree,store_refl E0_same,i16,j16,m16_0,m16_1,m16_2,k17,k18,b18] at he
      rcases dP ((((r105 h rm tv x12)).2.2)=0) with ⟨h19a,h19⟩|⟨h19a,h19⟩
      ·skip
       have w20:IntKind.i64.wrap ((k:Int)+1)=((k+1:Nat):Int):=by rw [IntWalk.i64_in]<;>omega
       try simp (disch:=first|omega|assumption) only [E0_G,SY,off,agreeKind,Nat.reduceAdd,Nat.reduceLT,Nat.reduceBEq,g12_11,store_refl E0_same,h19a,w20] at he
       rw [drop_cons' hx12] at hd12
       have hf:=(show _=(R40_0 h from_ ti l (l.drop (k+1)) (((r105 h rm tv x12)).1) (((r105 h rm tv x12)).2.1) (((r105 h rm tv x12)).2.2):Sum (Int × Int × Int) (Int × Int × Int)) from (if_pos h19).trans (rfl)).symm.trans hd12
       exact .next he (m - 1) (by omega) ⟨(k+1),((r105 h rm tv x12)).1,((r105 h rm tv x12)).2.1,((r105 h rm tv x12)).2.2,by first|omega|(simp; omega)|simp,by first|omega|(simp; omega)|simp,(by simp only [SY,eq_self,Nat.reduceBEq,g12_3]<;>rfl),(by simp only [SY,eq_self,Nat.reduceBEq,g12_4]<;>rfl),(by simp only [SY,eq_self,Nat.reduceBEq,g12_8]<;>rfl),(by simp only [SY,eq_self,Nat.reduceBEq,g12_10]<;>rfl),(by simp only [SY,eq_self,Nat.reduceBEq,g12_11]<;>rfl),v1_18,v2_18,b18,g18,by omega,hf⟩
      ·skip
       have y21:aBuild Tryz.prog 51 [(2,.int .i64 (((r105 h rm tv x12)).2.2))]=some (.agg #[.int .i64 0,.int .i64 0,.int .i64 (((r105 h rm tv x12)).2.2)]):=by kernel_rfl
       obtain ⟨S22,k22,n22,b22,q22⟩:=st_at (o:=0) (c':=[.int .i64 0,.int .i64 0,.int .i64 (((r105 h rm tv x12)).2.2)]) (v:=.agg #[.int .i64 0,.int .i64 0,.int .i64 (((r105 h rm tv x12)).2.2)]) tz51 v2_18 rfl rfl (show 0+3≤3 by decide) rfl
       have g22:Agree S S22:=⟨by have:=(g18).1; omega,fun id hid=>(q22 id (by have:=(g18).1; omega)).trans ((g18).2 id hid)⟩
       try simp (disch:=first|omega|assumption) only [E0_G,SY,off,agreeKind,partVals,ldA,aggD,aField,Nat.reduceAdd,Nat.reduceLT,Nat.reduceBEq,TY_EvH6,g12_8,g12_10,store_refl E0_same,b18,h19a,y21,k22] at he
       rw [drop_cons' hx12] at hd12
       have hf:=(show _=(.inl (0,0,((r105 h rm tv x12)).2.2):Sum (Int × Int × Int) (Int × Int × Int)) from (if_neg h19).trans (rfl)).symm.trans hd12
       exact .ret he (.inr ⟨rfl,⟨0,0,((r105 h rm tv x12)).2.2,(by simp only [SY,eq_self,Nat.reduceBEq,g12_8]<;>rfl),b22,g22,hf.symm⟩⟩)
     ·skip
      try simp (disch:=first|omega|assumption) only [SY,h14a] at he
      rw [List.drop_eq_nil_of_le (show l.length≤k by omega)] at hd12
      have hf:=(show _=(.inr (rm,tv,er):Sum (Int × Int × Int) (Int × Int × Int)) from rfl).symm.trans hd12
      exact .exit he (.inl ⟨rfl,⟨k,rm,tv,er,(by simp only [SY,eq_self,Nat.reduceBEq,g12_8]<;>rfl),(by simp only [SY,eq_self,Nat.reduceBEq,g12_10]<;>rfl),bb12_1,bb12_2,bb12_10,ga12,by omega,by first|omega|assumption|simp,hf.symm⟩⟩))
   rcases hQ12 with ⟨rfl,hQ12⟩|⟨rfl,hQ12⟩
   ·skip
    obtain ⟨k,rm,tv,er,ge12_8,ge12_10,be12_1,be12_2,be12_10,ge12,gm12,hj12_0,hR12⟩:=hQ12
    obtain ⟨S24,k24,n24,b24,q24⟩:=st_at (o:=0) (c':=[.int .i64 rm,.int .i64 tv,.int .i64 er]) (v:=.agg #[.int .i64 rm,.int .i64 tv,.int .i64 er]) tz51 be12_2 rfl rfl (show 0+3≤3 by decide) rfl
    have g24:Agree S S24:=⟨by have:=(ge12).1; omega,fun id hid=>(q24 id (by have:=(ge12).1; omega)).trans ((ge12).2 id hid)⟩
    try simp (disch:=first|omega|assumption) only [E0_G,SY,off,agreeKind,ldA,rdCells,aggD,eq_self,if_true,Nat.reduceAdd,Nat.reduceLT,Nat.reduceBEq,TY_EvH6,ge12_8,ge12_10,be12_10,k24,b24] at hz
    have hr:r40 h from_ ti l=(rm,tv,er):=(if_pos h4).trans ((if_neg h6).trans ((onSum_inr hR12).trans (rfl)))
    exact fin hz (by rw [hr]) g24
   ·skip
    obtain ⟨r8_0,r8_1,r8_2,ge12_8,bc12_8,ge12,hR12⟩:=hQ12
    try simp (disch:=first|omega|assumption) only [SY,ldA,rdCells,aggD,Nat.reduceAdd,TY_EvH6,ge12_8,bc12_8] at hz
    have hr:r40 h from_ ti l=(r8_0,r8_1,r8_2):=(if_pos h4).trans ((if_neg h6).trans ((onSum_inl hR12).trans (rfl)))
    exact fin hz (by rw [hr]) ge12
 ·skip
  have y25:aBuild Tryz.prog 51 [(2,.int .i64 (r104 h from_ ti))]=some (.agg #[.int .i64 0,.int .i64 0,.int .i64 (r104 h from_ ti)]):=by kernel_rfl
  obtain ⟨S26,k26,n26,b26,q26⟩:=st_at (o:=0) (c':=[.int .i64 0,.int .i64 0,.int .i64 (r104 h from_ ti)]) (v:=.agg #[.int .i64 0,.int .i64 0,.int .i64 (r104 h from_ ti)]) tz51 v2_3 rfl rfl (show 0+3≤3 by decide) rfl
  have g26:Agree S S26:=⟨by have:=(g3).1; omega,fun id hid=>(q26 id (by have:=(g3).1; omega)).trans ((g3).2 id hid)⟩
  try simp (disch:=first|omega|assumption) only [E0_G,SY,off,agreeKind,partVals,ldA,rdCells,aggD,Nat.reduceAdd,Nat.reduceLT,Nat.reduceBEq,TY_EvH6,h4a,y25,k26,b26] at hz
  have hr:r40 h from_ ti l=(0,0,(r104 h from_ ti)):=(if_neg h4).trans (rfl)
  exact fin hz (by rw [hr]) g26
def r6 (h:Hs) (from_:Int) (ti:Int) (l:List Stp):Bool:=(if (r20 h)=true then (if 80<(l.length:Int) then true else (if ((r39 h from_ ti (l:List Stp)).1)=(((r40 h from_ ti (l:List Stp))).1) then (if ((r39 h from_ ti (l:List Stp)).2.1)=(((r40 h from_ ti (l:List Stp))).2.1) then decide (((r39 h from_ ti (l:List Stp)).2.2)=(((r40 h from_ ti (l:List Stp))).2.2)) else false) else false)) else true)
end House
end Go.Proofs
