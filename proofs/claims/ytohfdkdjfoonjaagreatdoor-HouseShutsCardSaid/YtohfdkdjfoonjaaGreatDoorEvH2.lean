import Derived.Test.YtohfdkdjfoonjaaGreatDoorEvH1
set_option linter.unusedSimpArgs false
set_option linter.unusedVariables false
namespace Go.Proofs
namespace House
open Go Go.RowKit Go.Aev
set_option maxRecDepth 100000
theorem tz4:szOf Tryz.prog 4=some 1:=by kernel_rfl
theorem tt4:inTab Tryz.prog 4=true:=by kernel_rfl
theorem t0_4:zeroOf Tryz.prog 4=some (.bool false):=by kernel_rfl
theorem tz91:szOf Tryz.prog 91=some 5:=by kernel_rfl
theorem tt91:inTab Tryz.prog 91=true:=by kernel_rfl
theorem t0_91:zeroOf Tryz.prog 91=some (.agg #[.int .i64 0,.int .i64 0,.int .i64 0,.int .i64 0,.int .i64 0]):=by kernel_rfl
theorem tz92:szOf Tryz.prog 92=some 5:=by kernel_rfl
theorem tt92:inTab Tryz.prog 92=true:=by kernel_rfl
theorem t0_92:zeroOf Tryz.prog 92=some (.agg #[.int .i64 0,.int .i64 0,.int .i64 0,.int .i64 0,.int .i64 0]):=by kernel_rfl
theorem ti92:(Tryz.prog.info? 92).map (fun i=>Nat.ble i.bytes 65536)=some true:=by kernel_rfl
theorem tv92:(zeroOf Tryz.prog 92).isSome=true:=by kernel_rfl
theorem tz109:szOf Tryz.prog 109=some 2:=by kernel_rfl
theorem tt109:inTab Tryz.prog 109=true:=by kernel_rfl
theorem t0_109:zeroOf Tryz.prog 109=some (.agg #[.string (⟨#[]⟩),.int .i64 0]):=by kernel_rfl
theorem tz110:szOf Tryz.prog 110=some 2:=by kernel_rfl
theorem tt110:inTab Tryz.prog 110=true:=by kernel_rfl
theorem t0_110:zeroOf Tryz.prog 110=some (.agg #[.string (⟨#[]⟩),.int .i64 0]):=by kernel_rfl
theorem ti110:(Tryz.prog.info? 110).map (fun i=>Nat.ble i.bytes 65536)=some true:=by kernel_rfl
theorem tv110:(zeroOf Tryz.prog 110).isSome=true:=by kernel_rfl
theorem tz113:szOf Tryz.prog 113=some 1:=by kernel_rfl
theorem tt113:inTab Tryz.prog 113=true:=by kernel_rfl
theorem t0_113:zeroOf Tryz.prog 113=some (.map none):=by kernel_rfl
theorem tz168:szOf Tryz.prog 168=some 1:=by kernel_rfl
theorem tt168:inTab Tryz.prog 168=true:=by kernel_rfl
theorem t0_168:zeroOf Tryz.prog 168=some (.map none):=by kernel_rfl
theorem TY_EvH2:type_of% (And.intro TY_EvH1 (And.intro (And.intro (And.intro (And.intro Tryz.underlying4 (And.intro tz4 tt4)) (And.intro (And.intro t0_4 Tryz.underlying91) (And.intro tz91 tt91))) (And.intro (And.intro t0_91 (And.intro Tryz.underlying92 tz92)) (And.intro (And.intro tt92 t0_92) (And.intro Tryz.underlying109 tz109)))) (And.intro (And.intro (And.intro tt109 (And.intro t0_109 Tryz.underlying110)) (And.intro (And.intro tz110 tt110) (And.intro t0_110 Tryz.underlying113))) (And.intro (And.intro tz113 (And.intro tt113 t0_113)) (And.intro (And.intro Tryz.underlying168 tz168) (And.intro tt168 t0_168)))))):=(And.intro TY_EvH1 (And.intro (And.intro (And.intro (And.intro Tryz.underlying4 (And.intro tz4 tt4)) (And.intro (And.intro t0_4 Tryz.underlying91) (And.intro tz91 tt91))) (And.intro (And.intro t0_91 (And.intro Tryz.underlying92 tz92)) (And.intro (And.intro tt92 t0_92) (And.intro Tryz.underlying109 tz109)))) (And.intro (And.intro (And.intro tt109 (And.intro t0_109 Tryz.underlying110)) (And.intro (And.intro tz110 tt110) (And.intro t0_110 Tryz.underlying113))) (And.intro (And.intro tz113 (And.intro tt113 t0_113)) (And.intro (And.intro Tryz.underlying168 tz168) (And.intro tt168 t0_168))))))
def r83 (h:Hs) (x:Wy):Bool:=(if (r71 x.a 0 ((h.rooms.length:Int) - 1))=true then (if (r71 x.b 0 ((h.rooms.length:Int) - 1))=true then (if x.a=x.b then false else (if (r71 x.secs 1 3600)=true then (if (r71 x.back 0 3600)=true then (r71 x.door (-1) ((h.doors.length:Int) - 1)) else false) else false)) else false) else false)
set_option maxHeartbeats 2000000 in
theorem c83 (h:Hs) (x:Wy) (hF:Few h) (S:AS) (v_h_rooms:Value) (hv_h_rooms:LstR S v_h_rooms h.rooms) (v_h_doors:Value) (hv_h_doors:LstR S v_h_doors h.doors) (v_h_ways:Value) (hv_h_ways:Lst S v_h_ways h.ways) :
  ∃ S',(evL Tryz.prog E0).call 83 #[.agg #[v_h_rooms,v_h_doors,v_h_ways],.agg #[.int .i64 x.a,.int .i64 x.b,.int .i64 x.secs,.int .i64 x.back,.int .i64 x.door]] S=some (.bool (r83 h x),S')∧Agree S S':=by
 have qr:=hF.r; have qd:=hF.d; have qw:=hF.w
 generalize hz:(evL Tryz.prog E0).call 83 _ _=z
 rw [L_call,evCall_said rfl Tryz.func83 rfl (by decide) Tryz.ntmps83 Tryz.results83] at hz
 obtain ⟨S1,e1,n1,b1,a1⟩:=push_open S (.cells [v_h_rooms,v_h_doors,v_h_ways] 26 0 true true)
 have g1:Agree S S1:=a1
 obtain ⟨S2,e2,n2,b2,a2⟩:=push_open S1 (.cells [.int .i64 x.a,.int .i64 x.b,.int .i64 x.secs,.int .i64 x.back,.int .i64 x.door] 92 0 true true)
 have v1_2:=(a2.2 S.next (by omega)).trans b1
 have g2:Agree S S2:=g1.trans a2
 have w3:=(hv_h_rooms.agree g2).len (P:=Tryz.prog) (t:=22) Tryz.underlying22
 have w4:IntKind.i64.wrap ((h.rooms.length:Int) - 1)=(h.rooms.length:Int) - 1:=by rw [IntWalk.i64_in]; omega
 obtain ⟨S5,k5,a5⟩:=c71 x.a 0 ((h.rooms.length:Int) - 1)  S2
 have l5:=a5.1
 have v1_5:=(a5.2 S.next (by omega)).trans v1_2
 have v2_5:=(a5.2 S1.next (by omega)).trans b2
 have g5:Agree S S5:=g2.trans a5
 try simp (disch:=first|omega|assumption) only [E0_G,SY,setArgs,off,agreeKind,vals,boxed,ldA,aggD,aField,Nat.reduceAdd,Nat.reduceSub,Nat.reduceLT,Nat.reduceBEq,TY_EvH2,e1,v1_2,e2,b2,w3,w4,k5] at hz
 rcases dB ((r71 x.a 0 ((h.rooms.length:Int) - 1))) with ⟨h6a,h6⟩|⟨h6a,h6⟩
 ·have w7:=(hv_h_rooms.agree g5).len (P:=Tryz.prog) (t:=22) Tryz.underlying22
  have w8:IntKind.i64.wrap ((h.rooms.length:Int) - 1)=(h.rooms.length:Int) - 1:=by rw [IntWalk.i64_in]; omega
  obtain ⟨S9,k9,a9⟩:=c71 x.b 0 ((h.rooms.length:Int) - 1)  S5
  have l9:=a9.1
  have v1_9:=(a9.2 S.next (by omega)).trans v1_5
  have v2_9:=(a9.2 S1.next (by omega)).trans v2_5
  have g9:Agree S S9:=g5.trans a9
  try simp (disch:=first|omega|assumption) only [E0_G,SY,off,agreeKind,vals,ldA,aggD,aField,Nat.reduceAdd,Nat.reduceLT,Nat.reduceBEq,TY_EvH2,w3,w4,v1_5,v2_5,h6a,k9] at hz
  rcases dB ((r71 x.b 0 ((h.rooms.length:Int) - 1))) with ⟨h10a,h10⟩|⟨h10a,h10⟩
  ·try simp (disch:=first|omega|assumption) only [E0_G,SY,off,agreeKind,ldA,aggD,aField,Nat.reduceAdd,Nat.reduceLT,Nat.reduceBEq,TY_EvH2,v2_9,h10a] at hz
   rcases dP (x.a=x.b) with ⟨h11a,h11⟩|⟨h11a,h11⟩
   ·try simp only [E0_G,SY,off,agreeKind,Nat.reduceAdd,Nat.reduceLT,Nat.reduceBEq,h11a] at hz
    have hr:r83 h x=false:=(if_pos h6).trans ((if_pos h10).trans ((if_pos h11).trans (rfl)))
    exact fin hz (by rw [hr]) g9
   obtain ⟨S12,k12,a12⟩:=c71 x.secs 1 3600  S9
   have l12:=a12.1
   have v1_12:=(a12.2 S.next (by omega)).trans v1_9
   have v2_12:=(a12.2 S1.next (by omega)).trans v2_9
   have g12:Agree S S12:=g9.trans a12
   try simp (disch:=first|omega|assumption) only [E0_G,SY,off,agreeKind,vals,ldA,aggD,aField,Nat.reduceAdd,Nat.reduceLT,Nat.reduceBEq,TY_EvH2,v2_9,h11a,k12] at hz
   rcases dB ((r71 x.secs 1 3600)) with ⟨h13a,h13⟩|⟨h13a,h13⟩
   ·obtain ⟨S14,k14,a14⟩:=c71 x.back 0 3600  S12
    have l14:=a14.1
    have v1_14:=(a14.2 S.next (by omega)).trans v1_12
    have v2_14:=(a14.2 S1.next (by omega)).trans v2_12
    have g14:Agree S S14:=g12.trans a14
    try simp (disch:=first|omega|assumption) only [E0_G,SY,off,agreeKind,vals,ldA,aggD,aField,Nat.reduceAdd,Nat.reduceLT,Nat.reduceBEq,TY_EvH2,v2_12,h13a,k14] at hz
    rcases dB ((r71 x.back 0 3600)) with ⟨h15a,h15⟩|⟨h15a,h15⟩
    ·have w16:=(hv_h_doors.agree g14).len (P:=Tryz.prog) (t:=23) Tryz.underlying23
     have w17:IntKind.i64.wrap ((h.doors.length:Int) - 1)=(h.doors.length:Int) - 1:=by rw [IntWalk.i64_in]; omega
     obtain ⟨S18,k18,a18⟩:=c71 x.door (-1) ((h.doors.length:Int) - 1)  S14
     have l18:=a18.1
     have g18:Agree S S18:=g14.trans a18
     try simp (disch:=first|omega|assumption) only [E0_G,SY,off,agreeKind,vals,ldA,aggD,aField,Nat.reduceAdd,Nat.reduceLT,Nat.reduceBEq,TY_EvH2,v1_14,v2_14,h15a,w16,w17,k18] at hz
     have hr:r83 h x=(r71 x.door (-1) ((h.doors.length:Int) - 1)):=(if_pos h6).trans ((if_pos h10).trans ((if_neg h11).trans ((if_pos h13).trans ((if_pos h15).trans (rfl)))))
     exact fin hz (by rw [hr]) g18
    try simp only [E0_G,SY,off,agreeKind,Nat.reduceAdd,Nat.reduceLT,Nat.reduceBEq,h15a] at hz
    have hr:r83 h x=false:=(if_pos h6).trans ((if_pos h10).trans ((if_neg h11).trans ((if_pos h13).trans ((if_neg h15).trans (rfl)))))
    exact fin hz (by rw [hr]) g14
   try simp only [E0_G,SY,off,agreeKind,Nat.reduceAdd,Nat.reduceLT,Nat.reduceBEq,h13a] at hz
   have hr:r83 h x=false:=(if_pos h6).trans ((if_pos h10).trans ((if_neg h11).trans ((if_neg h13).trans (rfl))))
   exact fin hz (by rw [hr]) g12
  try simp only [E0_G,SY,off,agreeKind,Nat.reduceAdd,Nat.reduceLT,Nat.reduceBEq,h10a] at hz
  have hr:r83 h x=false:=(if_pos h6).trans ((if_neg h10).trans (rfl))
  exact fin hz (by rw [hr]) g9
 try simp only [E0_G,SY,off,agreeKind,Nat.reduceAdd,Nat.reduceLT,Nat.reduceBEq,h6a] at hz
 have hr:r83 h x=false:=(if_neg h6).trans (rfl)
 exact fin hz (by rw [hr]) g5
def r69 (t:Int):Bool:=(r71 t 0 1073741823)
set_option maxHeartbeats 2000000 in
theorem c69 (t:Int)  (S:AS)  :
  ∃ S',(evL Tryz.prog E0).call 69 #[.int .i64 t] S=some (.bool (r69 t),S')∧Agree S S':=by
 generalize hz:(evL Tryz.prog E0).call 69 _ _=z
 rw [L_call,evCall_said rfl Tryz.func69 rfl (by decide) Tryz.ntmps69 Tryz.results69] at hz
 obtain ⟨S1,k1,a1⟩:=c71 t 0 1073741823  S
 have l1:=a1.1
 have g1:Agree S S1:=a1
 try simp only [E0_G,SY,setArgs,off,agreeKind,vals,Nat.reduceAdd,Nat.reduceSub,Nat.reduceLT,Nat.reduceBEq,k1] at hz
 have hr:r69 t=(r71 t 0 1073741823):=rfl
 exact fin hz (by rw [hr]) g1
def r102 (h:Hs) (k:Int):Bool:=(r135 k (h.rooms.length:Int))
set_option maxHeartbeats 2000000 in
theorem c102 (h:Hs) (k:Int)  (S:AS) (v_h_rooms:Value) (hv_h_rooms:LstR S v_h_rooms h.rooms) (v_h_doors:Value) (hv_h_doors:LstR S v_h_doors h.doors) (v_h_ways:Value) (hv_h_ways:Lst S v_h_ways h.ways) :
  ∃ S',(evL Tryz.prog E0).call 102 #[.agg #[v_h_rooms,v_h_doors,v_h_ways],.int .i64 k] S=some (.bool (r102 h k),S')∧Agree S S':=by
 generalize hz:(evL Tryz.prog E0).call 102 _ _=z
 rw [L_call,evCall_said rfl Tryz.func102 rfl (by decide) Tryz.ntmps102 Tryz.results102] at hz
 obtain ⟨S1,e1,n1,b1,a1⟩:=push_open S (.cells [v_h_rooms,v_h_doors,v_h_ways] 26 0 true true)
 have g1:Agree S S1:=a1
 have w2:=(hv_h_rooms.agree g1).len (P:=Tryz.prog) (t:=22) Tryz.underlying22
 obtain ⟨S3,k3,a3⟩:=c135 k (h.rooms.length:Int)  S1
 have l3:=a3.1
 have g3:Agree S S3:=g1.trans a3
 try simp (disch:=first|omega|assumption) only [E0_G,SY,setArgs,off,agreeKind,vals,boxed,ldA,aggD,aField,Nat.reduceAdd,Nat.reduceSub,Nat.reduceLT,Nat.reduceBEq,TY_EvH2,e1,b1,w2,k3] at hz
 have hr:r102 h k=(r135 k (h.rooms.length:Int)):=rfl
 exact fin hz (by rw [hr]) g3
def r87 (h:Hs) (k:Int):Bool:=(r135 k (h.doors.length:Int))
set_option maxHeartbeats 2000000 in
theorem c87 (h:Hs) (k:Int)  (S:AS) (v_h_rooms:Value) (hv_h_rooms:LstR S v_h_rooms h.rooms) (v_h_doors:Value) (hv_h_doors:LstR S v_h_doors h.doors) (v_h_ways:Value) (hv_h_ways:Lst S v_h_ways h.ways) :
  ∃ S',(evL Tryz.prog E0).call 87 #[.agg #[v_h_rooms,v_h_doors,v_h_ways],.int .i64 k] S=some (.bool (r87 h k),S')∧Agree S S':=by
 generalize hz:(evL Tryz.prog E0).call 87 _ _=z
 rw [L_call,evCall_said rfl Tryz.func87 rfl (by decide) Tryz.ntmps87 Tryz.results87] at hz
 obtain ⟨S1,e1,n1,b1,a1⟩:=push_open S (.cells [v_h_rooms,v_h_doors,v_h_ways] 26 0 true true)
 have g1:Agree S S1:=a1
 have w2:=(hv_h_doors.agree g1).len (P:=Tryz.prog) (t:=23) Tryz.underlying23
 obtain ⟨S3,k3,a3⟩:=c135 k (h.doors.length:Int)  S1
 have l3:=a3.1
 have g3:Agree S S3:=g1.trans a3
 try simp (disch:=first|omega|assumption) only [E0_G,SY,setArgs,off,agreeKind,vals,boxed,ldA,aggD,aField,Nat.reduceAdd,Nat.reduceSub,Nat.reduceLT,Nat.reduceBEq,TY_EvH2,e1,b1,w2,k3] at hz
 have hr:r87 h k=(r135 k (h.doors.length:Int)):=rfl
 exact fin hz (by rw [hr]) g3
def R23_1 (h:Hs) (i:Nat) (x10:Rm):Nat→Nat→Sum (Int × Int) (Unit)
 | 0,j=>.inr ()
 | m'+1,j=>(if (j:Int)<(i:Int) then (if ((lget h.rooms j).name)=((lget h.rooms i).name) then .inl (6,(i:Int)) else R23_1 h i x10 m' (j+1)) else .inr ())
def R23_0 (h:Hs)  : List Rm→Nat→Sum (Int × Int) (Unit)
 | [],i=>.inr ()
 | x10 :: l',i=>(if (r81 x10.name)=true then (if (r71 x10.floor (-60) 60)=true then (onSum (R23_1 h i x10 (i+1) 0) (fun (r2,r3)=>.inl (r2,r3)) (fun _=>R23_0 h l' (i+1))) else .inl (1,(i:Int))) else .inl (1,(i:Int)))
def R23_2 (h:Hs)  : List Dr→Nat→Sum (Int × Int) (Unit)
 | [],i=>.inr ()
 | x29 :: l',i=>(if (r82 (x29.hours:List Sp) 86399)=true then (if (r82 (x29.shut:List Sp) 1073741823)=true then R23_2 h l' (i+1) else .inl (1,(i:Int))) else .inl (1,(i:Int)))
def R23_3 (h:Hs)  : List Wy→Nat→Sum (Int × Int) (Unit)
 | [],i=>.inr ()
 | x40 :: l',i=>(if (r83 h x40)=true then R23_3 h l' (i+1) else .inl (1,(i:Int)))
def r23 (h:Hs):Int × Int:=(if (h.rooms.length:Int)=0 then (1,-1) else (if 24<(h.rooms.length:Int) then (2,-1) else (if 16<(h.doors.length:Int) then (2,-1) else (if 60<(h.ways.length:Int) then (2,-1) else (onSum (R23_0 h h.rooms 0) (fun (r2,r3)=>(r2,r3)) (fun _=>(onSum (R23_2 h h.doors 0) (fun (r2,r3)=>(r2,r3)) (fun _=>(onSum (R23_3 h h.ways 0) (fun (r2,r3)=>(r2,r3)) (fun _=>(0,-1)))))))))))
set_option maxHeartbeats 8000000 in
theorem c23 (h:Hs) (hF:Few h) (S:AS) (v_h_rooms:Value) (hv_h_rooms:LstR S v_h_rooms h.rooms) (v_h_doors:Value) (hv_h_doors:LstR S v_h_doors h.doors) (v_h_ways:Value) (hv_h_ways:Lst S v_h_ways h.ways) :
  ∃ S',(evL Tryz.prog E0).call 23 #[.agg #[v_h_rooms,v_h_doors,v_h_ways]] S=some (.tuple #[.int .i64 (r23 h).1,.int .i64 (r23 h).2],S')∧Agree S S':=by
 have qr:=hF.r; have qd:=hF.d; have qw:=hF.w
 generalize hz:(evL Tryz.prog E0).call 23 _ _=z
 rw [L_call,evCall_said rfl Tryz.func23 rfl (by decide) Tryz.ntmps23 Tryz.results23] at hz
 obtain ⟨S1,e1,n1,b1,a1⟩:=push_open S (.cells [v_h_rooms,v_h_doors,v_h_ways] 26 0 true true)
 have g1:Agree S S1:=a1
 have s1:E0.same S S1=true:=symEnv_same a1
 have w2:=(hv_h_rooms.agree g1).len (P:=Tryz.prog) (t:=22) Tryz.underlying22
 try simp (disch:=first|omega|assumption) only [E0_G,SY,setArgs,off,agreeKind,boxed,ldA,aggD,aField,Nat.reduceAdd,Nat.reduceSub,Nat.reduceLT,Nat.reduceBEq,TY_EvH2,e1,b1,w2] at hz
 rcases dP ((h.rooms.length:Int)=0) with ⟨h3a,h3⟩|⟨h3a,h3⟩
 ·try simp only [E0_G,SY,off,agreeKind,Nat.reduceAdd,Nat.reduceLT,Nat.reduceBEq,h3a] at hz
  have hr:r23 h=(1,-1):=(if_pos h3).trans (rfl)
  exact fin hz (by rw [hr]) g1
 have w4:=(hv_h_rooms.agree g1).len (P:=Tryz.prog) (t:=22) Tryz.underlying22
 try simp (disch:=first|omega|assumption) only [E0_G,SY,off,agreeKind,ldA,aggD,aField,Nat.reduceAdd,Nat.reduceLT,Nat.reduceBEq,TY_EvH2,b1,w2,h3a] at hz
 rcases dP (24<(h.rooms.length:Int)) with ⟨h5a,h5⟩|⟨h5a,h5⟩
 ·try simp only [E0_G,SY,off,agreeKind,Nat.reduceAdd,Nat.reduceLT,Nat.reduceBEq,h5a] at hz
  have hr:r23 h=(2,-1):=(if_neg h3).trans ((if_pos h5).trans (rfl))
  exact fin hz (by rw [hr]) g1
 have w6:=(hv_h_doors.agree g1).len (P:=Tryz.prog) (t:=23) Tryz.underlying23
 try simp (disch:=first|omega|assumption) only [E0_G,SY,off,agreeKind,ldA,aggD,aField,Nat.reduceAdd,Nat.reduceLT,Nat.reduceBEq,TY_EvH2,b1,h5a,w6] at hz
 rcases dP (16<(h.doors.length:Int)) with ⟨h7a,h7⟩|⟨h7a,h7⟩
 ·try simp only [E0_G,SY,off,agreeKind,Nat.reduceAdd,Nat.reduceLT,Nat.reduceBEq,h7a] at hz
  have hr:r23 h=(2,-1):=(if_neg h3).trans ((if_neg h5).trans ((if_pos h7).trans (rfl)))
  exact fin hz (by rw [hr]) g1
 have w8:=(hv_h_ways.agree g1).len (P:=Tryz.prog) (t:=24) Tryz.underlying24
 try simp (disch:=first|omega|assumption) only [E0_G,SY,off,agreeKind,ldA,aggD,aField,Nat.reduceAdd,Nat.reduceLT,Nat.reduceBEq,TY_EvH2,b1,h7a,w8] at hz
 rcases dP (60<(h.ways.length:Int)) with ⟨h9a,h9⟩|⟨h9a,h9⟩
 ·try simp only [E0_G,SY,off,agreeKind,Nat.reduceAdd,Nat.reduceLT,Nat.reduceBEq,h9a] at hz
  have hr:r23 h=(2,-1):=(if_neg h3).trans ((if_neg h5).trans ((if_neg h7).trans ((if_pos h9).trans (rfl))))
  exact fin hz (by rw [hr]) g1
 try simp only [E0_G,SY,off,agreeKind,Nat.reduceLT,h9a] at hz
 generalize hL10:Rec.loop _ _ _ _=L10 at hz
 obtain ⟨x10,t10,S10e,rfl,hQ10⟩:=loop_met hL10 (fun m t S'=>∃ (i:Nat),m+i=h.rooms.length∧i≤h.rooms.length∧t.get 1=some (.pointer (some ⟨S.next,0,none⟩))∧t.get 4=some (.int .i64 (i:Int))∧S'.heap.get S.next=some (.cells [v_h_rooms,v_h_doors,v_h_ways] 26 0 true true)∧Agree S S'∧S1.next≤S'.next∧R23_0 h (h.rooms.drop i) i=R23_0 h h.rooms 0)
  (fun x t S'=>(x=.exit 0∧∃ (i:Nat),t.get 1=some (.pointer (some ⟨S.next,0,none⟩))∧S'.heap.get S.next=some (.cells [v_h_rooms,v_h_doors,v_h_ways] 26 0 true true)∧Agree S S'∧S1.next≤S'.next∧i≤h.rooms.length∧R23_0 h h.rooms 0=.inr ())∨(x=.ret∧∃ (r2:Int) (r3:Int),t.get 2=some (.int .i64 r2)∧t.get 3=some (.int .i64 r3)∧Agree S S'∧R23_0 h h.rooms 0=.inl (r2,r3))) (h.rooms.length - 0) ⟨0,by first|rfl|omega|(simp; omega)|simp,by first|rfl|omega|(simp; omega)|simp,by simp only [SY,eq_self,Nat.reduceBEq]<;>rfl,by simp only [SY,Nat.reduceBEq]<;>rfl,b1,g1,Nat.le_refl _,rfl⟩ (by
   rintro m t S10 ⟨i,hi10_0,hi10_1,g10_1,g10_4,bb10_1,ga10,gn10,hd10⟩
   refine .run fun z he=>?_
   have w11:=(hv_h_rooms.agree ga10).len (P:=Tryz.prog) (t:=22) Tryz.underlying22
   try simp (disch:=first|omega|assumption) only [E0_G,SY,off,agreeKind,ldA,aggD,aField,Nat.reduceAdd,Nat.reduceLT,Nat.reduceBEq,TY_EvH2,g10_1,g10_4,bb10_1,w2] at he
   rcases dP ((i:Int)<(h.rooms.length:Int)) with ⟨h12a,h12⟩|⟨h12a,h12⟩
   ·have hx10:h.rooms[i]?=some (h.rooms[i]'(by first|omega|simp; omega)):=List.getElem?_eq_getElem _
    generalize h.rooms[i]'_=x10 at hx10
    obtain ⟨id13,of13,cc13,ty13,wr13,ex13,cs13,i13,j13,l13,rp13,q13⟩:=LstR.at (hv_h_rooms) (P:=Tryz.prog) (t:=22) Tryz.underlying22 tz110 hx10
    have rq13:cs13=[.string x10.name,.int .i64 x10.floor]:=rp13.1
    subst rq13
    have jr13:=j13
    have j13:=(ga10.2 id13 l13).trans jr13
    have m13_0:cc13[of13]?=some (.string x10.name):=q13 0 (show 0<2 by decide)
    have m13_1:cc13[of13+1]?=some (.int .i64 x10.floor):=q13 1 (show 1<2 by decide)
    obtain ⟨S14,k14,a14⟩:=c81 x10.name  S10
    have l14:=a14.1
    have s14:E0.same S10 S14=true:=symEnv_same a14
    have v1_14:=(a14.2 S.next (by omega)).trans bb10_1
    have v13_14:=(a14.2 id13 (by omega)).trans j13
    have g14:Agree S S14:=ga10.trans a14
    try simp (disch:=first|omega|assumption) only [E0_G,SY,off,agreeKind,vals,ldA,aggD,aField,Nat.reduceAdd,Nat.reduceLT,Nat.reduceBEq,TY_EvH2,g10_1,g10_4,bb10_1,h12a,i13,j13,m13_0,k14] at he
    rcases dB ((r81 x10.name)) with ⟨h15a,h15⟩|⟨h15a,h15⟩
    ·have j16_13:=(g14.2 id13 l13).trans jr13
     obtain ⟨S17,k17,a17⟩:=c71 x10.floor (-60) 60  S14
     have l17:=a17.1
     have s17:E0.same S14 S17=true:=symEnv_same a17
     have v1_17:=(a17.2 S.next (by omega)).trans v1_14
     have g17:Agree S S17:=g14.trans a17
     try simp (disch:=first|omega|assumption) only [E0_G,SY,off,agreeKind,vals,ldA,aggD,aField,Nat.reduceAdd,Nat.reduceLT,Nat.reduceBEq,TY_EvH2,g10_1,g10_4,i13,m13_1,v1_14,v13_14,h15a,k17] at he
     rcases dB ((r71 x10.floor (-60) 60)) with ⟨h18a,h18⟩|⟨h18a,h18⟩
     ·try simp only [E0_G,SY,off,agreeKind,Nat.reduceLT,h18a] at he
      generalize hL19:Rec.loop _ _ _ _=L19 at he
      obtain ⟨x19,t19,S19e,rfl,hQ19⟩:=loop_met hL19 (fun m t S'=>∃ (j:Nat),m+j=i+1∧j≤i∧i<h.rooms.length∧t.get 1=some (.pointer (some ⟨S.next,0,none⟩))∧t.get 4=some (.int .i64 (i:Int))∧t.get 6=some (.int .i64 (j:Int))∧S'.heap.get S.next=some (.cells [v_h_rooms,v_h_doors,v_h_ways] 26 0 true true)∧Agree S S'∧S17.next≤S'.next∧R23_1 h i x10 m j=R23_1 h i x10 (i+1) 0)
       (fun x t S'=>(x=.exit 2∧∃ (j:Nat),t.get 1=some (.pointer (some ⟨S.next,0,none⟩))∧t.get 4=some (.int .i64 (i:Int))∧S'.heap.get S.next=some (.cells [v_h_rooms,v_h_doors,v_h_ways] 26 0 true true)∧Agree S S'∧S17.next≤S'.next∧j≤i∧i<h.rooms.length∧R23_1 h i x10 (i+1) 0=.inr ())∨(x=.ret∧∃ (r2:Int) (r3:Int),t.get 2=some (.int .i64 r2)∧t.get 3=some (.int .i64 r3)∧Agree S S'∧R23_1 h i x10 (i+1) 0=.inl (r2,r3))) (i+1) ⟨0,by first|rfl|omega|(simp; omega)|simp,by first|rfl|omega|(simp; omega)|simp,by first|rfl|omega|(simp; omega)|simp,by simp only [SY,eq_self,Nat.reduceBEq,g10_1]<;>rfl,by simp only [SY,eq_self,Nat.reduceBEq,g10_4]<;>rfl,by simp only [SY,Nat.reduceBEq]<;>rfl,v1_17,g17,Nat.le_refl _,rfl⟩ (by
        rintro m t S19 ⟨j,hi19_0,hi19_1,hi19_2,g19_1,g19_4,g19_6,bb19_1,ga19,gn19,hd19⟩
        refine .run fun z he=>?_
        try simp only [E0_G,SY,off,agreeKind,Nat.reduceAdd,Nat.reduceLT,Nat.reduceBEq,g19_4,g19_6] at he
        rcases dP ((j:Int)<(i:Int)) with ⟨h20a,h20⟩|⟨h20a,h20⟩
        ·try simp only [SY,h20a] at he
         rw [code_draws _ _ _ (by kernel_rfl)] at he
         generalize hnd21:needy _=nd21 at he
         have hx22:h.rooms[j]?=some (lget h.rooms j):=lget_some (by first|omega|simp; omega)
         obtain ⟨id22,of22,cc22,ty22,wr22,ex22,cs22,i22,j22,l22,rp22,q22⟩:=LstR.at (hv_h_rooms) (P:=Tryz.prog) (t:=22) Tryz.underlying22 tz110 hx22
         have rq22:cs22=[.string ((lget h.rooms j).name),.int .i64 ((lget h.rooms j).floor)]:=rp22.1
         subst rq22
         have j22:=(ga19.2 id22 l22).trans j22
         have m22_0:cc22[of22]?=some (.string ((lget h.rooms j).name)):=q22 0 (show 0<2 by decide)
         have m22_1:cc22[of22+1]?=some (.int .i64 ((lget h.rooms j).floor)):=q22 1 (show 1<2 by decide)
         have hx23:h.rooms[i]?=some (lget h.rooms i):=lget_some (by first|omega|simp; omega)
         obtain ⟨id23,of23,cc23,ty23,wr23,ex23,cs23,i23,j23,l23,rp23,q23⟩:=LstR.at (hv_h_rooms) (P:=Tryz.prog) (t:=22) Tryz.underlying22 tz110 hx23
         have rq23:cs23=[.string ((lget h.rooms i).name),.int .i64 ((lget h.rooms i).floor)]:=rp23.1
         subst rq23
         have j23:=(ga19.2 id23 l23).trans j23
         have m23_0:cc23[of23]?=some (.string ((lget h.rooms i).name)):=q23 0 (show 0<2 by decide)
         have m23_1:cc23[of23+1]?=some (.int .i64 ((lget h.rooms i).floor)):=q23 1 (show 1<2 by decide)
         try simp (disch:=first|omega|assumption) only [E0_G,SY,agreeKind,ldA,aggD,aField,Nat.reduceAdd,Nat.reduceLT,Nat.reduceBEq,TY_EvH2,g19_1,g19_4,g19_6,bb19_1,store_refl E0_same,i22,j22,m22_0,i23,j23,m23_0,bin_eqlStr,opB_eql,strEq_f] at he
         rcases dP (((lget h.rooms j).name)=((lget h.rooms i).name)) with ⟨h24a,h24⟩|⟨h24a,h24⟩
         ·try simp only [E0_G,SY,off,agreeKind,Nat.reduceAdd,Nat.reduceLT,Nat.reduceBEq,g19_4,store_refl E0_same,h24a] at he
          obtain ⟨m',rfl⟩:∃ m',m=m'+1:=⟨m - 1,by omega⟩
          have hf:=(show _=(.inl (6,(i:Int)):Sum (Int × Int) (Unit)) from (if_pos h20).trans ((if_pos h24).trans (rfl))).symm.trans hd19
          exact .ret he (.inr ⟨rfl,⟨6,(i:Int),(by simp only [SY,eq_self,Nat.reduceBEq]<;>rfl),(by simp only [SY,eq_self,Nat.reduceBEq]<;>rfl),ga19,hf.symm⟩⟩)
         have w25:IntKind.i64.wrap ((j:Int)+1)=((j+1:Nat):Int):=by rw [IntWalk.i64_in]<;>omega
         try simp only [E0_G,SY,off,agreeKind,Nat.reduceAdd,Nat.reduceLT,Nat.reduceBEq,g19_6,store_refl E0_same,h24a,w25] at he
         obtain ⟨m',rfl⟩:∃ m',m=m'+1:=⟨m - 1,by omega⟩
         have hf:=(show _=(R23_1 h i x10 m' (j+1):Sum (Int × Int) (Unit)) from (if_pos h20).trans ((if_neg h24).trans (rfl))).symm.trans hd19
         exact .next he m' (by omega) ⟨(j+1),by first|omega|(simp; omega)|simp,by first|omega|(simp; omega)|simp,by first|omega|(simp; omega)|simp,(by simp only [SY,eq_self,Nat.reduceBEq,g19_1]<;>rfl),(by simp only [SY,eq_self,Nat.reduceBEq,g19_4]<;>rfl),(by simp only [SY,eq_self,Nat.reduceBEq,g19_6]<;>rfl),bb19_1,ga19,by omega,hf⟩
        try simp only [SY,h20a] at he
        obtain ⟨m',rfl⟩:∃ m',m=m'+1:=⟨m - 1,by omega⟩
        have hf:=(show _=(.inr ():Sum (Int × Int) (Unit)) from (if_neg h20).trans (rfl)).symm.trans hd19
        exact .exit he (.inl ⟨rfl,⟨j,(by simp only [SY,eq_self,Nat.reduceBEq,g19_1]<;>rfl),(by simp only [SY,eq_self,Nat.reduceBEq,g19_4]<;>rfl),bb19_1,ga19,by omega,by first|omega|assumption|simp,by first|omega|assumption|simp,hf.symm⟩⟩))
      rcases hQ19 with ⟨rfl,hQ19⟩|⟨rfl,hQ19⟩
      ·obtain ⟨j,ge19_1,ge19_4,be19_1,ge19,gm19,hj19_0,hj19_1,hR19⟩:=hQ19
       have w27:IntKind.i64.wrap ((i:Int)+1)=((i+1:Nat):Int):=by rw [IntWalk.i64_in]<;>omega
       try simp only [E0_G,SY,off,agreeKind,eq_self,if_true,Nat.reduceAdd,Nat.reduceLT,Nat.reduceBEq,ge19_4,w27] at he
       rw [drop_cons' hx10] at hd10
       have hf:=(show _=(R23_0 h (h.rooms.drop (i+1)) (i+1):Sum (Int × Int) (Unit)) from (if_pos h15).trans ((if_pos h18).trans ((onSum_inr hR19).trans (rfl)))).symm.trans hd10
       exact .next he (m - 1) (by omega) ⟨(i+1),by first|omega|(simp; omega)|simp,by first|omega|(simp; omega)|simp,(by simp only [SY,eq_self,Nat.reduceBEq,ge19_1]<;>rfl),(by simp only [SY,eq_self,Nat.reduceBEq,ge19_4]<;>rfl),be19_1,ge19,by omega,hf⟩
      obtain ⟨r2,r3,ge19_2,ge19_3,ge19,hR19⟩:=hQ19
      try simp only [SY] at he
      rw [drop_cons' hx10] at hd10
      have hf:=(show _=(.inl (r2,r3):Sum (Int × Int) (Unit)) from (if_pos h15).trans ((if_pos h18).trans ((onSum_inl hR19).trans (rfl)))).symm.trans hd10
      exact .ret he (.inr ⟨rfl,⟨r2,r3,(by simp only [eq_self,ge19_2]<;>rfl),(by simp only [eq_self,ge19_3]<;>rfl),ge19,hf.symm⟩⟩)
     try simp only [E0_G,SY,off,agreeKind,Nat.reduceAdd,Nat.reduceLT,Nat.reduceBEq,g10_4,h18a] at he
     rw [drop_cons' hx10] at hd10
     have hf:=(show _=(.inl (1,(i:Int)):Sum (Int × Int) (Unit)) from (if_pos h15).trans ((if_neg h18).trans (rfl))).symm.trans hd10
     exact .ret he (.inr ⟨rfl,⟨1,(i:Int),(by simp only [SY,eq_self,Nat.reduceBEq]<;>rfl),(by simp only [SY,eq_self,Nat.reduceBEq]<;>rfl),g17,hf.symm⟩⟩)
    try simp only [E0_G,SY,off,agreeKind,Nat.reduceAdd,Nat.reduceLT,Nat.reduceBEq,g10_4,h15a] at he
    rw [drop_cons' hx10] at hd10
    have hf:=(show _=(.inl (1,(i:Int)):Sum (Int × Int) (Unit)) from (if_neg h15).trans (rfl)).symm.trans hd10
    exact .ret he (.inr ⟨rfl,⟨1,(i:Int),(by simp only [SY,eq_self,Nat.reduceBEq]<;>rfl),(by simp only [SY,eq_self,Nat.reduceBEq]<;>rfl),g14,hf.symm⟩⟩)
   try simp only [SY,h12a] at he
   rw [List.drop_eq_nil_of_le (show h.rooms.length≤i by omega)] at hd10
   have hf:=(show _=(.inr ():Sum (Int × Int) (Unit)) from rfl).symm.trans hd10
   exact .exit he (.inl ⟨rfl,⟨i,(by simp only [SY,eq_self,Nat.reduceBEq,g10_1]<;>rfl),bb10_1,ga10,by omega,by first|omega|assumption|simp,hf.symm⟩⟩))
 rcases hQ10 with ⟨rfl,hQ10⟩|⟨rfl,hQ10⟩
 ·obtain ⟨i,ge10_1,be10_1,ge10,gm10,hj10_0,hR10⟩:=hQ10
  try simp only [E0_G,SY,off,agreeKind,eq_self,if_true,Nat.reduceLT] at hz
  generalize hL29:Rec.loop _ _ _ _=L29 at hz
  obtain ⟨x29,t29,S29e,rfl,hQ29⟩:=loop_met hL29 (fun m t S'=>∃ (i:Nat),m+i=h.doors.length∧i≤h.doors.length∧t.get 1=some (.pointer (some ⟨S.next,0,none⟩))∧t.get 7=some (.int .i64 (i:Int))∧S'.heap.get S.next=some (.cells [v_h_rooms,v_h_doors,v_h_ways] 26 0 true true)∧Agree S S'∧S10e.next≤S'.next∧R23_2 h (h.doors.drop i) i=R23_2 h h.doors 0)
   (fun x t S'=>(x=.exit 4∧∃ (i:Nat),t.get 1=some (.pointer (some ⟨S.next,0,none⟩))∧S'.heap.get S.next=some (.cells [v_h_rooms,v_h_doors,v_h_ways] 26 0 true true)∧Agree S S'∧S10e.next≤S'.next∧i≤h.doors.length∧R23_2 h h.doors 0=.inr ())∨(x=.ret∧∃ (r2:Int) (r3:Int),t.get 2=some (.int .i64 r2)∧t.get 3=some (.int .i64 r3)∧Agree S S'∧R23_2 h h.doors 0=.inl (r2,r3))) (h.doors.length - 0) ⟨0,by first|rfl|omega|(simp; omega)|simp,by first|rfl|omega|(simp; omega)|simp,by simp only [SY,eq_self,Nat.reduceBEq,ge10_1]<;>rfl,by simp only [SY,Nat.reduceBEq]<;>rfl,be10_1,ge10,Nat.le_refl _,rfl⟩ (by
    rintro m t S29 ⟨i,hi29_0,hi29_1,g29_1,g29_7,bb29_1,ga29,gn29,hd29⟩
    refine .run fun z he=>?_
    have w30:=(hv_h_doors.agree ga29).len (P:=Tryz.prog) (t:=23) Tryz.underlying23
    try simp (disch:=first|omega|assumption) only [E0_G,SY,off,agreeKind,ldA,aggD,aField,Nat.reduceAdd,Nat.reduceLT,Nat.reduceBEq,TY_EvH2,g29_1,g29_7,bb29_1,w6] at he
    rcases dP ((i:Int)<(h.doors.length:Int)) with ⟨h31a,h31⟩|⟨h31a,h31⟩
    ·have hx29:h.doors[i]?=some (h.doors[i]'(by first|omega|simp; omega)):=List.getElem?_eq_getElem _
     generalize h.doors[i]'_=x29 at hx29
     obtain ⟨id32,of32,cc32,ty32,wr32,ex32,cs32,i32,j32,l32,rp32,q32⟩:=LstR.at (hv_h_doors) (P:=Tryz.prog) (t:=23) Tryz.underlying23 tz98 hx29
     obtain ⟨w32_0,w32_1,rp32,rr32_0,rr32_1⟩:=rp32
     have rq32:cs32=[w32_0,w32_1]:=rp32
     subst rq32
     have jr32:=j32
     have j32:=(ga29.2 id32 l32).trans jr32
     have m32_0:cc32[of32]?=some (w32_0):=q32 0 (show 0<2 by decide)
     have m32_1:cc32[of32+1]?=some (w32_1):=q32 1 (show 1<2 by decide)
     obtain ⟨S33,k33,a33⟩:=c82 (x29.hours:List Sp) 86399 (by have hq:=hF.s _ (List.mem_of_getElem? (by assumption)); omega) S29 (w32_0) (rr32_0.agree ga29)
     have l33:=a33.1
     have s33:E0.same S29 S33=true:=symEnv_same a33
     have v1_33:=(a33.2 S.next (by omega)).trans bb29_1
     have v32_33:=(a33.2 id32 (by omega)).trans j32
     have g33:Agree S S33:=ga29.trans a33
     have j34_32:=(g33.2 id32 l32).trans jr32
     obtain ⟨S35,k35,a35⟩:=c82 (x29.shut:List Sp) 1073741823 (by have hq:=hF.s _ (List.mem_of_getElem? (by assumption)); omega) S33 (w32_1) (rr32_1.agree g33)
     have l35:=a35.1
     have s35:E0.same S33 S35=true:=symEnv_same a35
     have v1_35:=(a35.2 S.next (by omega)).trans v1_33
     have g35:Agree S S35:=g33.trans a35
     try simp (disch:=first|omega|assumption) only [E0_G,SY,off,agreeKind,vals,ldA,aggD,aField,Nat.reduceAdd,Nat.reduceLT,Nat.reduceBEq,TY_EvH2,g29_1,g29_7,bb29_1,h31a,i32,j32,m32_0,m32_1,k33,v1_33,v32_33,k35] at he
     rcases dB ((r82 (x29.hours:List Sp) 86399)) with ⟨h36a,h36⟩|⟨h36a,h36⟩
     ·try simp only [E0_G,SY,off,agreeKind,Nat.reduceAdd,Nat.reduceLT,Nat.reduceBEq,h36a] at he
      rcases dB ((r82 (x29.shut:List Sp) 1073741823)) with ⟨h37a,h37⟩|⟨h37a,h37⟩
      ·have w38:IntKind.i64.wrap ((i:Int)+1)=((i+1:Nat):Int):=by rw [IntWalk.i64_in]<;>omega
       try simp only [E0_G,SY,off,agreeKind,Nat.reduceAdd,Nat.reduceLT,Nat.reduceBEq,g29_7,h37a,w38] at he
       rw [drop_cons' hx29] at hd29
       have hf:=(show _=(R23_2 h (h.doors.drop (i+1)) (i+1):Sum (Int × Int) (Unit)) from (if_pos h36).trans ((if_pos h37).trans (rfl))).symm.trans hd29
       exact .next he (m - 1) (by omega) ⟨(i+1),by first|omega|(simp; omega)|simp,by first|omega|(simp; omega)|simp,(by simp only [SY,eq_self,Nat.reduceBEq,g29_1]<;>rfl),(by simp only [SY,eq_self,Nat.reduceBEq,g29_7]<;>rfl),v1_35,g35,by omega,hf⟩
      try simp only [E0_G,SY,off,agreeKind,Nat.reduceAdd,Nat.reduceLT,Nat.reduceBEq,g29_7,h37a] at he
      rw [drop_cons' hx29] at hd29
      have hf:=(show _=(.inl (1,(i:Int)):Sum (Int × Int) (Unit)) from (if_pos h36).trans ((if_neg h37).trans (rfl))).symm.trans hd29
      exact .ret he (.inr ⟨rfl,⟨1,(i:Int),(by simp only [SY,eq_self,Nat.reduceBEq]<;>rfl),(by simp only [SY,eq_self,Nat.reduceBEq]<;>rfl),g35,hf.symm⟩⟩)
     try simp only [E0_G,SY,off,agreeKind,Nat.reduceAdd,Nat.reduceLT,Nat.reduceBEq,g29_7,h36a] at he
     rw [drop_cons' hx29] at hd29
     have hf:=(show _=(.inl (1,(i:Int)):Sum (Int × Int) (Unit)) from (if_neg h36).trans (rfl)).symm.trans hd29
     exact .ret he (.inr ⟨rfl,⟨1,(i:Int),(by simp only [SY,eq_self,Nat.reduceBEq]<;>rfl),(by simp only [SY,eq_self,Nat.reduceBEq]<;>rfl),g35,hf.symm⟩⟩)
    try simp only [SY,h31a] at he
    rw [List.drop_eq_nil_of_le (show h.doors.length≤i by omega)] at hd29
    have hf:=(show _=(.inr ():Sum (Int × Int) (Unit)) from rfl).symm.trans hd29
    exact .exit he (.inl ⟨rfl,⟨i,(by simp only [SY,eq_self,Nat.reduceBEq,g29_1]<;>rfl),bb29_1,ga29,by omega,by first|omega|assumption|simp,hf.symm⟩⟩))
  rcases hQ29 with ⟨rfl,hQ29⟩|⟨rfl,hQ29⟩
  ·obtain ⟨i,ge29_1,be29_1,ge29,gm29,hj29_0,hR29⟩:=hQ29
   try simp only [E0_G,SY,off,agreeKind,eq_self,if_true,Nat.reduceLT] at hz
   generalize hL40:Rec.loop _ _ _ _=L40 at hz
   obtain ⟨x40,t40,S40e,rfl,hQ40⟩:=loop_met hL40 (fun m t S'=>∃ (i:Nat),m+i=h.ways.length∧i≤h.ways.length∧t.get 1=some (.pointer (some ⟨S.next,0,none⟩))∧t.get 10=some (.int .i64 (i:Int))∧S'.heap.get S.next=some (.cells [v_h_rooms,v_h_doors,v_h_ways] 26 0 true true)∧Agree S S'∧S29e.next≤S'.next∧R23_3 h (h.ways.drop i) i=R23_3 h h.ways 0)
    (fun x t S'=>(x=.exit 6∧∃ (i:Nat),S'.heap.get S.next=some (.cells [v_h_rooms,v_h_doors,v_h_ways] 26 0 true true)∧Agree S S'∧S29e.next≤S'.next∧i≤h.ways.length∧R23_3 h h.ways 0=.inr ())∨(x=.ret∧∃ (r2:Int) (r3:Int),t.get 2=some (.int .i64 r2)∧t.get 3=some (.int .i64 r3)∧Agree S S'∧R23_3 h h.ways 0=.inl (r2,r3))) (h.ways.length - 0) ⟨0,by first|rfl|omega|(simp; omega)|simp,by first|rfl|omega|(simp; omega)|simp,by simp only [SY,eq_self,Nat.reduceBEq,ge29_1]<;>rfl,by simp only [SY,Nat.reduceBEq]<;>rfl,be29_1,ge29,Nat.le_refl _,rfl⟩ (by
     rintro m t S40 ⟨i,hi40_0,hi40_1,g40_1,g40_10,bb40_1,ga40,gn40,hd40⟩
     refine .run fun z he=>?_
     have w41:=(hv_h_ways.agree ga40).len (P:=Tryz.prog) (t:=24) Tryz.underlying24
     try simp (disch:=first|omega|assumption) only [E0_G,SY,off,agreeKind,ldA,aggD,aField,Nat.reduceAdd,Nat.reduceLT,Nat.reduceBEq,TY_EvH2,g40_1,g40_10,bb40_1,w8] at he
     rcases dP ((i:Int)<(h.ways.length:Int)) with ⟨h42a,h42⟩|⟨h42a,h42⟩
     ·try simp only [SY,h42a] at he
      rw [code_draws _ _ _ (by kernel_rfl)] at he
      generalize hnd43:needy _=nd43 at he
      have hx40:h.ways[i]?=some (h.ways[i]'(by first|omega|simp; omega)):=List.getElem?_eq_getElem _
      generalize h.ways[i]'_=x40 at hx40
      obtain ⟨id44,of44,cc44,ty44,wr44,ex44,i44,j44,l44,q44⟩:=(hv_h_ways).at (P:=Tryz.prog) (t:=24) Tryz.underlying24 tz92 hx40
      have j44:=(ga40.2 id44 l44).trans j44
      have m44_0:cc44[of44]?=some (.int .i64 x40.a):=q44 0 (show 0<5 by decide)
      have m44_1:cc44[of44+1]?=some (.int .i64 x40.b):=q44 1 (show 1<5 by decide)
      have m44_2:cc44[of44+2]?=some (.int .i64 x40.secs):=q44 2 (show 2<5 by decide)
      have m44_3:cc44[of44+3]?=some (.int .i64 x40.back):=q44 3 (show 3<5 by decide)
      have m44_4:cc44[of44+4]?=some (.int .i64 x40.door):=q44 4 (show 4<5 by decide)
      obtain ⟨S45,k45,a45⟩:=c83 h x40 hF S40 (v_h_rooms) (hv_h_rooms.agree ga40) (v_h_doors) (hv_h_doors.agree ga40) (v_h_ways) (hv_h_ways.agree ga40)
      have l45:=a45.1
      have s45:E0.same S40 S45=true:=symEnv_same a45
      have v1_45:=(a45.2 S.next (by omega)).trans bb40_1
      have g45:Agree S S45:=ga40.trans a45
      try simp (disch:=first|omega|assumption) only [E0_G,SY,off,agreeKind,vals,ldA,rdCells,aggD,aField,Nat.reduceAdd,Nat.reduceLT,Nat.reduceBEq,TY_EvH2,g40_1,g40_10,bb40_1,store_agree,store_refl E0_same,i44,j44,m44_0,m44_1,m44_2,m44_3,m44_4,k45] at he
      rcases dB ((r83 h x40)) with ⟨h46a,h46⟩|⟨h46a,h46⟩
      ·have w47:IntKind.i64.wrap ((i:Int)+1)=((i+1:Nat):Int):=by rw [IntWalk.i64_in]<;>omega
       try simp only [E0_G,SY,off,agreeKind,Nat.reduceAdd,Nat.reduceLT,Nat.reduceBEq,g40_10,store_refl E0_same,h46a,w47] at he
       rw [drop_cons' hx40] at hd40
       have hf:=(show _=(R23_3 h (h.ways.drop (i+1)) (i+1):Sum (Int × Int) (Unit)) from (if_pos h46).trans (rfl)).symm.trans hd40
       exact .next he (m - 1) (by omega) ⟨(i+1),by first|omega|(simp; omega)|simp,by first|omega|(simp; omega)|simp,(by simp only [SY,eq_self,Nat.reduceBEq,g40_1]<;>rfl),(by simp only [SY,eq_self,Nat.reduceBEq,g40_10]<;>rfl),v1_45,g45,by omega,hf⟩
      try simp only [E0_G,SY,off,agreeKind,Nat.reduceAdd,Nat.reduceLT,Nat.reduceBEq,g40_10,store_refl E0_same,h46a] at he
      rw [drop_cons' hx40] at hd40
      have hf:=(show _=(.inl (1,(i:Int)):Sum (Int × Int) (Unit)) from (if_neg h46).trans (rfl)).symm.trans hd40
      exact .ret he (.inr ⟨rfl,⟨1,(i:Int),(by simp only [SY,eq_self,Nat.reduceBEq]<;>rfl),(by simp only [SY,eq_self,Nat.reduceBEq]<;>rfl),g45,hf.symm⟩⟩)
     try simp only [SY,h42a] at he
     rw [List.drop_eq_nil_of_le (show h.ways.length≤i by omega)] at hd40
     have hf:=(show _=(.inr ():Sum (Int × Int) (Unit)) from rfl).symm.trans hd40
     exact .exit he (.inl ⟨rfl,⟨i,bb40_1,ga40,by omega,by first|omega|assumption|simp,hf.symm⟩⟩))
   rcases hQ40 with ⟨rfl,hQ40⟩|⟨rfl,hQ40⟩
   ·obtain ⟨i,be40_1,ge40,gm40,hj40_0,hR40⟩:=hQ40
    try simp only [E0_G,SY,off,agreeKind,eq_self,if_true,Nat.reduceAdd,Nat.reduceLT,Nat.reduceBEq] at hz
    have hr:r23 h=(0,-1):=(if_neg h3).trans ((if_neg h5).trans ((if_neg h7).trans ((if_neg h9).trans ((onSum_inr hR10).trans ((onSum_inr hR29).trans ((onSum_inr hR40).trans (rfl)))))))
    exact fin hz (by rw [hr]) ge40
   obtain ⟨r2,r3,ge40_2,ge40_3,ge40,hR40⟩:=hQ40
   try simp only [SY,ge40_2,ge40_3] at hz
   have hr:r23 h=(r2,r3):=(if_neg h3).trans ((if_neg h5).trans ((if_neg h7).trans ((if_neg h9).trans ((onSum_inr hR10).trans ((onSum_inr hR29).trans ((onSum_inl hR40).trans (rfl)))))))
   exact fin hz (by rw [hr]) ge40
  obtain ⟨r2,r3,ge29_2,ge29_3,ge29,hR29⟩:=hQ29
  try simp only [SY,ge29_2,ge29_3] at hz
  have hr:r23 h=(r2,r3):=(if_neg h3).trans ((if_neg h5).trans ((if_neg h7).trans ((if_neg h9).trans ((onSum_inr hR10).trans ((onSum_inl hR29).trans (rfl))))))
  exact fin hz (by rw [hr]) ge29
 obtain ⟨r2,r3,ge10_2,ge10_3,ge10,hR10⟩:=hQ10
 try simp only [SY,ge10_2,ge10_3] at hz
 have hr:r23 h=(r2,r3):=(if_neg h3).trans ((if_neg h5).trans ((if_neg h7).trans ((if_neg h9).trans ((onSum_inl hR10).trans (rfl)))))
 exact fin hz (by rw [hr]) ge10
def r59 (h:Hs):Int:=(r23 h).1
set_option maxHeartbeats 2000000 in
theorem c59 (h:Hs) (hF:Few h) (S:AS) (v_h_rooms:Value) (hv_h_rooms:LstR S v_h_rooms h.rooms) (v_h_doors:Value) (hv_h_doors:LstR S v_h_doors h.doors) (v_h_ways:Value) (hv_h_ways:Lst S v_h_ways h.ways) :
  ∃ S',(evL Tryz.prog E0).call 59 #[.agg #[v_h_rooms,v_h_doors,v_h_ways]] S=some (.int .i64 (r59 h),S')∧Agree S S':=by
 have qr:=hF.r; have qd:=hF.d; have qw:=hF.w
 generalize hz:(evL Tryz.prog E0).call 59 _ _=z
 rw [L_call,evCall_said rfl Tryz.func59 rfl (by decide) Tryz.ntmps59 Tryz.results59] at hz
 obtain ⟨S1,e1,n1,b1,a1⟩:=push_open S (.cells [v_h_rooms,v_h_doors,v_h_ways] 26 0 true true)
 have g1:Agree S S1:=a1
 obtain ⟨S2,k2,a2⟩:=c23 h hF S1 (v_h_rooms) (hv_h_rooms.agree g1) (v_h_doors) (hv_h_doors.agree g1) (v_h_ways) (hv_h_ways.agree g1)
 have l2:=a2.1
 have g2:Agree S S2:=g1.trans a2
 try simp (disch:=first|omega|assumption) only [E0_G,SY,setArgs,off,agreeKind,vals,boxed,ldA,rdCells,aggD,aExtract,Nat.reduceAdd,Nat.reduceSub,Nat.reduceLT,Nat.reduceBEq,TY_EvH2,e1,b1,k2] at hz
 have hr:r59 h=(r23 h).1:=rfl
 exact fin hz (by rw [hr]) g2
def R74_0 (l:List Rm)  : List Rm→Nat→List (ByteArray × Bool)→Sum (Int × Int) (Unit)
 | [],k,es=>.inr ()
 | x3 :: l',k,es=>(if (r131 x3.name)=true then (if x3.floor<(-60) then .inl (1,(k:Int)) else (if 60<x3.floor then .inl (1,(k:Int)) else (if (sLook es x3.name).getD false=true then .inl (6,(k:Int)) else R74_0 l l' (k+1) (sPut es x3.name true)))) else .inl (1,(k:Int)))
def r74 (l:List Rm):Int × Int:=(onSum (R74_0 l l 0 ([]:List (ByteArray × Bool))) (fun (r2,r3)=>(r2,r3)) (fun _=>(0,-1)))
set_option maxHeartbeats 2000000 in
theorem c74 (l:List Rm) (hl:l.length≤30) (hs:∀ x ∈ l,x.name.size≤9223372036854775807) (S:AS) (v_l:Value) (hv_l:LstR S v_l l) :
  ∃ S',(evL Tryz.prog E0).call 74 #[v_l] S=some (.tuple #[.int .i64 (r74 l).1,.int .i64 (r74 l).2],S')∧Agree S S':=by
 generalize hz:(evL Tryz.prog E0).call 74 _ _=z
 rw [L_call,evCall_said rfl Tryz.func74 rfl (by decide) Tryz.ntmps74 Tryz.results74] at hz
 obtain ⟨S1,e1,n1,b1,a1⟩:=push_open S (.mapb (mapVal Value.bool ([]:List (ByteArray × Bool))) 0)
 replace e1:S.push (.mapb [] 0)=S1:=e1
 have g1:Agree S S1:=a1
 have w2:=(hv_l.agree g1).len (P:=Tryz.prog) (t:=22) Tryz.underlying22
 try simp only [E0_G,SY,setArgs,off,agreeKind,Nat.reduceAdd,Nat.reduceSub,Nat.reduceLT,Nat.reduceBEq,e1,op_makeMap,w2] at hz
 generalize hL3:Rec.loop _ _ _ _=L3 at hz
 obtain ⟨x3,t3,S3e,rfl,hQ3⟩:=loop_met hL3 (fun m t S'=>∃ (k:Nat) (es:List (ByteArray × Bool)) (cl_es:Nat),m+k=l.length∧k≤l.length∧t.get 4=some (.map (some S.next))∧t.get 8=some (v_l)∧t.get 9=some (.int .i64 (l.length:Int))∧t.get 10=some (.int .i64 (k:Int))∧S'.heap.get S.next=some (.mapb (mapVal Value.bool es) cl_es)∧Agree S S'∧S1.next≤S'.next∧R74_0 l (l.drop k) k es=R74_0 l l 0 ([]:List (ByteArray × Bool)))
  (fun x t S'=>(x=.exit 0∧∃ (k:Nat) (es:List (ByteArray × Bool)) (cl_es:Nat),S'.heap.get S.next=some (.mapb (mapVal Value.bool es) cl_es)∧Agree S S'∧S1.next≤S'.next∧k≤l.length∧R74_0 l l 0 ([]:List (ByteArray × Bool))=.inr ())∨(x=.ret∧∃ (r2:Int) (r3:Int),t.get 2=some (.int .i64 r2)∧t.get 3=some (.int .i64 r3)∧Agree S S'∧R74_0 l l 0 ([]:List (ByteArray × Bool))=.inl (r2,r3))) (l.length - 0) ⟨0,([]:List (ByteArray × Bool)),0,by first|rfl|omega|(simp; omega)|simp,by first|rfl|omega|(simp; omega)|simp,by simp only [SY,eq_self,Nat.reduceBEq]<;>rfl,by simp only [SY,eq_self,Nat.reduceBEq]<;>rfl,by simp only [SY,eq_self,Nat.reduceBEq]<;>rfl,by simp only [SY,Nat.reduceBEq]<;>rfl,b1,g1,Nat.le_refl _,rfl⟩ (by
   rintro m t S3 ⟨k,es,cl_es,hi3_0,hi3_1,g3_4,g3_8,g3_9,g3_10,bb3_1,ga3,gn3,hd3⟩
   refine .run fun z he=>?_
   try simp only [E0_G,SY,off,agreeKind,Nat.reduceLT,Nat.reduceBEq,g3_9,g3_10] at he
   rcases dP ((k:Int)<(l.length:Int)) with ⟨h4a,h4⟩|⟨h4a,h4⟩
   ·have hx3:l[k]?=some (l[k]'(by first|omega|simp; omega)):=List.getElem?_eq_getElem _
    generalize l[k]'_=x3 at hx3
    obtain ⟨id5,of5,cc5,ty5,wr5,ex5,cs5,i5,j5,l5,rp5,q5⟩:=LstR.at (hv_l) (P:=Tryz.prog) (t:=22) Tryz.underlying22 tz110 hx3
    have rq5:cs5=[.string x3.name,.int .i64 x3.floor]:=rp5.1
    subst rq5
    have j5:=(ga3.2 id5 l5).trans j5
    have m5_0:cc5[of5]?=some (.string x3.name):=q5 0 (show 0<2 by decide)
    have m5_1:cc5[of5+1]?=some (.int .i64 x3.floor):=q5 1 (show 1<2 by decide)
    obtain ⟨S6,e6,n6,b6,a6⟩:=push_open S3 (.cells [.string (⟨#[]⟩),.int .i64 0] 110 0 true true)
    have v1_6:=(a6.2 S.next (by omega)).trans bb3_1
    have g6:Agree S S6:=ga3.trans a6
    obtain ⟨S7,k7,n7,b7,q7⟩:=st_at (o:=0) (c':=[.string x3.name,.int .i64 x3.floor]) (v:=.agg #[.string x3.name,.int .i64 x3.floor]) tz110 b6 rfl rfl (show 0+2≤2 by decide) rfl
    have v1_7:=(q7 S.next (by omega)).trans v1_6
    have g7:Agree S S7:=⟨by have:=(g6).1; omega,fun id hid=>(q7 id (by have:=(g6).1; omega)).trans ((g6).2 id hid)⟩
    obtain ⟨S8,k8,a8⟩:=c131 x3.name (hs _ (List.mem_of_getElem? (by assumption))) S7
    have l8:=a8.1
    have v1_8:=(a8.2 S.next (by omega)).trans v1_7
    have v6_8:=(a8.2 S3.next (by omega)).trans b7
    have g8:Agree S S8:=g7.trans a8
    try simp (disch:=first|omega|assumption) only [E0_G,SY,off,agreeKind,vals,allocV,ldA,rdCells,aggD,aField,Nat.reduceAdd,Nat.reduceLT,Nat.reduceBEq,TY_EvH2,g3_8,g3_10,h4a,i5,j5,m5_0,m5_1,e6,k7,b7,k8] at he
    rcases dB ((r131 x3.name)) with ⟨h9a,h9⟩|⟨h9a,h9⟩
    ·try simp (disch:=first|omega|assumption) only [E0_G,SY,off,agreeKind,ldA,aggD,aField,Nat.reduceAdd,Nat.reduceLT,Nat.reduceBEq,TY_EvH2,v6_8,h9a] at he
     rcases dP (x3.floor<(-60)) with ⟨h10a,h10⟩|⟨h10a,h10⟩
     ·try simp only [E0_G,SY,off,agreeKind,Nat.reduceAdd,Nat.reduceLT,Nat.reduceBEq,h10a] at he
      rw [drop_cons' hx3] at hd3
      have hf:=(show _=(.inl (1,(k:Int)):Sum (Int × Int) (Unit)) from (if_pos h9).trans ((if_pos h10).trans (rfl))).symm.trans hd3
      exact .ret he (.inr ⟨rfl,⟨1,(k:Int),(by simp only [SY,eq_self,Nat.reduceBEq]<;>rfl),(by simp only [SY,eq_self,Nat.reduceBEq]<;>rfl),g8,hf.symm⟩⟩)
     try simp (disch:=first|omega|assumption) only [E0_G,SY,off,agreeKind,ldA,aggD,aField,Nat.reduceAdd,Nat.reduceLT,Nat.reduceBEq,TY_EvH2,v6_8,h10a] at he
     rcases dP (60<x3.floor) with ⟨h11a,h11⟩|⟨h11a,h11⟩
     ·try simp only [E0_G,SY,off,agreeKind,Nat.reduceAdd,Nat.reduceLT,Nat.reduceBEq,h11a] at he
      rw [drop_cons' hx3] at hd3
      have hf:=(show _=(.inl (1,(k:Int)):Sum (Int × Int) (Unit)) from (if_pos h9).trans ((if_neg h10).trans ((if_pos h11).trans (rfl)))).symm.trans hd3
      exact .ret he (.inr ⟨rfl,⟨1,(k:Int),(by simp only [SY,eq_self,Nat.reduceBEq]<;>rfl),(by simp only [SY,eq_self,Nat.reduceBEq]<;>rfl),g8,hf.symm⟩⟩)
     have y12:=look_bool (P:=Tryz.prog) (t:=168) Tryz.underlying168 Tryz.underlying9 t0_4 v1_8 x3.name
     try simp (disch:=first|omega|assumption) only [E0_G,SY,off,agreeKind,ldA,aggD,aField,Nat.reduceAdd,Nat.reduceLT,Nat.reduceBEq,TY_EvH2,g3_4,v6_8,h11a,y12,op_lookup] at he
     rcases dB ((sLook es x3.name).getD false) with ⟨h13a,h13⟩|⟨h13a,h13⟩
     ·try simp only [E0_G,SY,off,agreeKind,Nat.reduceAdd,Nat.reduceLT,Nat.reduceBEq,h13a] at he
      rw [drop_cons' hx3] at hd3
      have hf:=(show _=(.inl (6,(k:Int)):Sum (Int × Int) (Unit)) from (if_pos h9).trans ((if_neg h10).trans ((if_neg h11).trans ((if_pos h13).trans (rfl))))).symm.trans hd3
      exact .ret he (.inr ⟨rfl,⟨6,(k:Int),(by simp only [SY,eq_self,Nat.reduceBEq]<;>rfl),(by simp only [SY,eq_self,Nat.reduceBEq]<;>rfl),g8,hf.symm⟩⟩)
     obtain ⟨S14,cl14,k14,n14,b14,q14⟩:=put_str (P:=Tryz.prog) (t:=168) Tryz.underlying168 Tryz.underlying9 v1_8 x3.name true
     replace k14:aMapUpdate Tryz.prog 168 (.map (some S.next)) (.string x3.name) (.bool true) S8=some S14:=k14
     have g14:Agree S S14:=⟨by have:=(g8).1; omega,fun id hid=>(q14 id (by have:=(g8).1; omega)).trans ((g8).2 id hid)⟩
     have w15:IntKind.i64.wrap ((k:Int)+1)=((k+1:Nat):Int):=by rw [IntWalk.i64_in]<;>omega
     try simp (disch:=first|omega|assumption) only [E0_G,SY,off,agreeKind,ldA,aggD,aField,Nat.reduceAdd,Nat.reduceLT,Nat.reduceBEq,TY_EvH2,g3_4,g3_10,v6_8,h13a,k14,op_mapUpdate,w15] at he
     rw [drop_cons' hx3] at hd3
     have hf:=(show _=(R74_0 l (l.drop (k+1)) (k+1) (sPut es x3.name true):Sum (Int × Int) (Unit)) from (if_pos h9).trans ((if_neg h10).trans ((if_neg h11).trans ((if_neg h13).trans (rfl))))).symm.trans hd3
     exact .next he (m - 1) (by omega) ⟨(k+1),(sPut es x3.name true),cl14,by first|omega|(simp; omega)|simp,by first|omega|(simp; omega)|simp,(by simp only [SY,eq_self,Nat.reduceBEq,g3_4]<;>rfl),(by simp only [SY,eq_self,Nat.reduceBEq,g3_8]<;>rfl),(by simp only [SY,eq_self,Nat.reduceBEq,g3_9]<;>rfl),(by simp only [SY,eq_self,Nat.reduceBEq,g3_10]<;>rfl),b14,g14,by omega,hf⟩
    try simp only [E0_G,SY,off,agreeKind,Nat.reduceAdd,Nat.reduceLT,Nat.reduceBEq,h9a] at he
    rw [drop_cons' hx3] at hd3
    have hf:=(show _=(.inl (1,(k:Int)):Sum (Int × Int) (Unit)) from (if_neg h9).trans (rfl)).symm.trans hd3
    exact .ret he (.inr ⟨rfl,⟨1,(k:Int),(by simp only [SY,eq_self,Nat.reduceBEq]<;>rfl),(by simp only [SY,eq_self,Nat.reduceBEq]<;>rfl),g8,hf.symm⟩⟩)
   try simp only [SY,h4a] at he
   rw [List.drop_eq_nil_of_le (show l.length≤k by omega)] at hd3
   have hf:=(show _=(.inr ():Sum (Int × Int) (Unit)) from rfl).symm.trans hd3
   exact .exit he (.inl ⟨rfl,⟨k,es,cl_es,bb3_1,ga3,by omega,by first|omega|assumption|simp,hf.symm⟩⟩))
 rcases hQ3 with ⟨rfl,hQ3⟩|⟨rfl,hQ3⟩
 ·obtain ⟨k,es,cl_es,be3_1,ge3,gm3,hj3_0,hR3⟩:=hQ3
  try simp only [E0_G,SY,off,agreeKind,eq_self,if_true,Nat.reduceAdd,Nat.reduceLT,Nat.reduceBEq] at hz
  have hr:r74 l=(0,-1):=(onSum_inr hR3).trans (rfl)
  exact fin hz (by rw [hr]) ge3
 obtain ⟨r2,r3,ge3_2,ge3_3,ge3,hR3⟩:=hQ3
 try simp only [SY,ge3_2,ge3_3] at hz
 have hr:r74 l=(r2,r3):=(onSum_inl hR3).trans (rfl)
 exact fin hz (by rw [hr]) ge3
def r77 (x:Dr):Bool:=(if (r132 (x.hours:List Sp) 86399)=true then (r132 (x.shut:List Sp) 1073741823) else false)
set_option maxHeartbeats 2000000 in
theorem c77 (x:Dr) (hx:x.hours.length≤12∧x.shut.length≤12) (S:AS) (v_x_hours:Value) (hv_x_hours:Lst S v_x_hours x.hours) (v_x_shut:Value) (hv_x_shut:Lst S v_x_shut x.shut) :
  ∃ S',(evL Tryz.prog E0).call 77 #[.agg #[v_x_hours,v_x_shut]] S=some (.bool (r77 x),S')∧Agree S S':=by
 generalize hz:(evL Tryz.prog E0).call 77 _ _=z
 rw [L_call,evCall_said rfl Tryz.func77 rfl (by decide) Tryz.ntmps77 Tryz.results77] at hz
 obtain ⟨S1,e1,n1,b1,a1⟩:=push_open S (.cells [v_x_hours,v_x_shut] 98 0 true true)
 have g1:Agree S S1:=a1
 obtain ⟨S2,k2,a2⟩:=c132 (x.hours:List Sp) 86399 (by omega) S1 (v_x_hours) (hv_x_hours.agree g1)
 have l2:=a2.1
 have v1_2:=(a2.2 S.next (by omega)).trans b1
 have g2:Agree S S2:=g1.trans a2
 try simp (disch:=first|omega|assumption) only [E0_G,SY,setArgs,off,agreeKind,vals,boxed,ldA,aggD,aField,Nat.reduceAdd,Nat.reduceSub,Nat.reduceLT,Nat.reduceBEq,TY_EvH2,e1,b1,k2] at hz
 rcases dB ((r132 (x.hours:List Sp) 86399)) with ⟨h3a,h3⟩|⟨h3a,h3⟩
 ·obtain ⟨S4,k4,a4⟩:=c132 (x.shut:List Sp) 1073741823 (by omega) S2 (v_x_shut) (hv_x_shut.agree g2)
  have l4:=a4.1
  have g4:Agree S S4:=g2.trans a4
  try simp (disch:=first|omega|assumption) only [E0_G,SY,off,agreeKind,vals,ldA,aggD,aField,Nat.reduceAdd,Nat.reduceLT,Nat.reduceBEq,TY_EvH2,v1_2,h3a,k4] at hz
  have hr:r77 x=(r132 (x.shut:List Sp) 1073741823):=(if_pos h3).trans (rfl)
  exact fin hz (by rw [hr]) g4
 try simp only [E0_G,SY,off,agreeKind,Nat.reduceAdd,Nat.reduceLT,Nat.reduceBEq,h3a] at hz
 have hr:r77 x=false:=(if_neg h3).trans (rfl)
 exact fin hz (by rw [hr]) g2
def r76 (x:Dr):Bool:=!(r77 x)
set_option maxHeartbeats 2000000 in
theorem c76 (x:Dr) (hx:x.hours.length≤12∧x.shut.length≤12) (S:AS) (v_x_hours:Value) (hv_x_hours:Lst S v_x_hours x.hours) (v_x_shut:Value) (hv_x_shut:Lst S v_x_shut x.shut) :
  ∃ S',(evL Tryz.prog E0).call 76 #[.agg #[v_x_hours,v_x_shut]] S=some (.bool (r76 x),S')∧Agree S S':=by
 generalize hz:(evL Tryz.prog E0).call 76 _ _=z
 rw [L_call,evCall_said rfl Tryz.func76 rfl (by decide) Tryz.ntmps76 Tryz.results76] at hz
 obtain ⟨S1,e1,n1,b1,a1⟩:=push_open S (.cells [v_x_hours,v_x_shut] 98 0 true true)
 have g1:Agree S S1:=a1
 obtain ⟨S2,k2,a2⟩:=c77 x hx S1 (v_x_hours) (hv_x_hours.agree g1) (v_x_shut) (hv_x_shut.agree g1)
 have l2:=a2.1
 have g2:Agree S S2:=g1.trans a2
 try simp only [E0_G,SY,setArgs,off,agreeKind,vals,boxed,ldA,rdCells,aggD,Nat.reduceAdd,Nat.reduceSub,Nat.reduceLT,Nat.reduceBEq,TY_EvH2,e1,b1,k2] at hz
 have hr:r76 x=!(r77 x):=rfl
 exact fin hz (by rw [hr]) g2
def R75_0 (l:List Dr)  : List Dr→Nat→Sum (Int) (Unit)
 | [],k=>.inr ()
 | x2 :: l',k=>(if (r76 x2)=true then .inl (k:Int) else R75_0 l l' (k+1))
def r75 (l:List Dr):Int:=(onSum (R75_0 l l 0) (fun (r4:Int)=>r4) (fun (_:Unit) => -1))
set_option maxHeartbeats 2000000 in
theorem c75 (l:List Dr) (hl:l.length≤30) (hs:∀ x ∈ l,x.hours.length≤12∧x.shut.length≤12) (S:AS) (v_l:Value) (hv_l:LstR S v_l l) :
  ∃ S',(evL Tryz.prog E0).call 75 #[v_l,.func (.func 76) #[] #[]] S=some (.int .i64 (r75 l),S')∧Agree S S':=by
 generalize hz:(evL Tryz.prog E0).call 75 _ _=z
 rw [L_call,evCall_said rfl Tryz.func75 rfl (by decide) Tryz.ntmps75 Tryz.results75] at hz
 have w1:=(hv_l).len (P:=Tryz.prog) (t:=23) Tryz.underlying23
 try simp only [E0_G,SY,setArgs,off,agreeKind,Nat.reduceAdd,Nat.reduceSub,Nat.reduceLT,Nat.reduceBEq,w1] at hz
 generalize hL2:Rec.loop _ _ _ _=L2 at hz
 obtain ⟨x2,t2,S2e,rfl,hQ2⟩:=loop_met hL2 (fun m t S'=>∃ (k:Nat),m+k=l.length∧k≤l.length∧t.get 0=some (v_l)∧t.get 1=some (.func (.func 76) #[] #[])∧t.get 7=some (.int .i64 (l.length:Int))∧t.get 8=some (.int .i64 (k:Int))∧Agree S S'∧S.next≤S'.next∧R75_0 l (l.drop k) k=R75_0 l l 0)
  (fun x t S'=>(x=.exit 0∧∃ (k:Nat),Agree S S'∧S.next≤S'.next∧k≤l.length∧R75_0 l l 0=.inr ())∨(x=.ret∧∃ (r4:Int),t.get 4=some (.int .i64 r4)∧Agree S S'∧R75_0 l l 0=.inl (r4))) (l.length - 0) ⟨0,by first|rfl|omega|(simp; omega)|simp,by first|rfl|omega|(simp; omega)|simp,by simp only [SY,eq_self,Nat.reduceBEq]<;>rfl,by simp only [SY,eq_self,Nat.reduceBEq]<;>rfl,by simp only [SY,eq_self,Nat.reduceBEq]<;>rfl,by simp only [SY,Nat.reduceBEq]<;>rfl,(Agree.refl S),Nat.le_refl _,rfl⟩ (by
   rintro m t S2 ⟨k,hi2_0,hi2_1,g2_0,g2_1,g2_7,g2_8,ga2,gn2,hd2⟩
   refine .run fun z he=>?_
   try simp only [E0_G,SY,off,agreeKind,Nat.reduceLT,Nat.reduceBEq,g2_7,g2_8] at he
   rcases dP ((k:Int)<(l.length:Int)) with ⟨h3a,h3⟩|⟨h3a,h3⟩
   ·have hx2:l[k]?=some (l[k]'(by first|omega|simp; omega)):=List.getElem?_eq_getElem _
    generalize l[k]'_=x2 at hx2
    obtain ⟨id4,of4,cc4,ty4,wr4,ex4,cs4,i4,j4,l4,rp4,q4⟩:=LstR.at (hv_l) (P:=Tryz.prog) (t:=23) Tryz.underlying23 tz98 hx2
    obtain ⟨w4_0,w4_1,rp4,rr4_0,rr4_1⟩:=rp4
    have rq4:cs4=[w4_0,w4_1]:=rp4
    subst rq4
    have j4:=(ga2.2 id4 l4).trans j4
    have m4_0:cc4[of4]?=some (w4_0):=q4 0 (show 0<2 by decide)
    have m4_1:cc4[of4+1]?=some (w4_1):=q4 1 (show 1<2 by decide)
    obtain ⟨S5,k5,a5⟩:=c76 x2 (hs _ (List.mem_of_getElem? (by assumption))) S2 (w4_0) (rr4_0.agree ga2) (w4_1) (rr4_1.agree ga2)
    have l5:=a5.1
    have g5:Agree S S5:=ga2.trans a5
    try simp only [E0_G,SY,off,agreeKind,vals,ldA,rdCells,aggD,Nat.reduceAdd,Nat.reduceLT,Nat.reduceBEq,TY_EvH2,g2_0,g2_1,g2_8,h3a,i4,j4,m4_0,m4_1,k5] at he
    rcases dB ((r76 x2)) with ⟨h6a,h6⟩|⟨h6a,h6⟩
    ·try simp only [E0_G,SY,off,agreeKind,Nat.reduceAdd,Nat.reduceLT,Nat.reduceBEq,h6a] at he
     rw [drop_cons' hx2] at hd2
     have hf:=(show _=(.inl (k:Int):Sum (Int) (Unit)) from (if_pos h6).trans (rfl)).symm.trans hd2
     exact .ret he (.inr ⟨rfl,⟨(k:Int),(by simp only [SY,eq_self,Nat.reduceBEq]<;>rfl),g5,hf.symm⟩⟩)
    have w7:IntKind.i64.wrap ((k:Int)+1)=((k+1:Nat):Int):=by rw [IntWalk.i64_in]<;>omega
    try simp only [E0_G,SY,off,agreeKind,Nat.reduceAdd,Nat.reduceLT,Nat.reduceBEq,g2_8,h6a,w7] at he
    rw [drop_cons' hx2] at hd2
    have hf:=(show _=(R75_0 l (l.drop (k+1)) (k+1):Sum (Int) (Unit)) from (if_neg h6).trans (rfl)).symm.trans hd2
    exact .next he (m - 1) (by omega) ⟨(k+1),by first|omega|(simp; omega)|simp,by first|omega|(simp; omega)|simp,(by simp only [SY,eq_self,Nat.reduceBEq,g2_0]<;>rfl),(by simp only [SY,eq_self,Nat.reduceBEq,g2_1]<;>rfl),(by simp only [SY,eq_self,Nat.reduceBEq,g2_7]<;>rfl),(by simp only [SY,eq_self,Nat.reduceBEq,g2_8]<;>rfl),g5,by omega,hf⟩
   try simp only [SY,h3a] at he
   rw [List.drop_eq_nil_of_le (show l.length≤k by omega)] at hd2
   have hf:=(show _=(.inr ():Sum (Int) (Unit)) from rfl).symm.trans hd2
   exact .exit he (.inl ⟨rfl,⟨k,ga2,by omega,by first|omega|assumption|simp,hf.symm⟩⟩))
 rcases hQ2 with ⟨rfl,hQ2⟩|⟨rfl,hQ2⟩
 ·obtain ⟨k,ge2,gm2,hj2_0,hR2⟩:=hQ2
  try simp only [E0_G,SY,off,agreeKind,eq_self,if_true,Nat.reduceLT,Nat.reduceBEq] at hz
  have hr:r75 l = -1:=(onSum_inr hR2).trans (rfl)
  exact fin hz (by rw [hr]) ge2
 obtain ⟨r4,ge2_4,ge2,hR2⟩:=hQ2
 try simp only [SY,ge2_4] at hz
 have hr:r75 l=r4:=(onSum_inl hR2).trans (rfl)
 exact fin hz (by rw [hr]) ge2
def r80 (h:Hs) (x:Wy):Bool:=(if (r102 h x.a)=true then (if (r102 h x.b)=true then (if x.a=x.b then false else (if (r133 1 3600 x.secs)=true then (if (r133 0 3600 x.back)=true then (if x.door=(-1) then true else (r87 h x.door)) else false) else false)) else false) else false)
set_option maxHeartbeats 2000000 in
theorem c80 (h:Hs) (x:Wy)  (S:AS) (v_h_rooms:Value) (hv_h_rooms:LstR S v_h_rooms h.rooms) (v_h_doors:Value) (hv_h_doors:LstR S v_h_doors h.doors) (v_h_ways:Value) (hv_h_ways:Lst S v_h_ways h.ways) :
  ∃ S',(evL Tryz.prog E0).call 80 #[.agg #[v_h_rooms,v_h_doors,v_h_ways],.agg #[.int .i64 x.a,.int .i64 x.b,.int .i64 x.secs,.int .i64 x.back,.int .i64 x.door]] S=some (.bool (r80 h x),S')∧Agree S S':=by
 generalize hz:(evL Tryz.prog E0).call 80 _ _=z
 rw [L_call,evCall_said rfl Tryz.func80 rfl (by decide) Tryz.ntmps80 Tryz.results80] at hz
 obtain ⟨S1,e1,n1,b1,a1⟩:=push_open S (.cells [v_h_rooms,v_h_doors,v_h_ways] 26 0 true true)
 have g1:Agree S S1:=a1
 obtain ⟨S2,e2,n2,b2,a2⟩:=push_open S1 (.cells [.int .i64 x.a,.int .i64 x.b,.int .i64 x.secs,.int .i64 x.back,.int .i64 x.door] 92 0 true true)
 have v1_2:=(a2.2 S.next (by omega)).trans b1
 have g2:Agree S S2:=g1.trans a2
 obtain ⟨S3,k3,a3⟩:=c102 h x.a  S2 (v_h_rooms) (hv_h_rooms.agree g2) (v_h_doors) (hv_h_doors.agree g2) (v_h_ways) (hv_h_ways.agree g2)
 have l3:=a3.1
 have v1_3:=(a3.2 S.next (by omega)).trans v1_2
 have v2_3:=(a3.2 S1.next (by omega)).trans b2
 have g3:Agree S S3:=g2.trans a3
 try simp (disch:=first|omega|assumption) only [E0_G,SY,setArgs,off,agreeKind,vals,boxed,ldA,rdCells,aggD,aField,Nat.reduceAdd,Nat.reduceSub,Nat.reduceLT,Nat.reduceBEq,TY_EvH2,e1,v1_2,e2,b2,k3] at hz
 rcases dB ((r102 h x.a)) with ⟨h4a,h4⟩|⟨h4a,h4⟩
 ·obtain ⟨S5,k5,a5⟩:=c102 h x.b  S3 (v_h_rooms) (hv_h_rooms.agree g3) (v_h_doors) (hv_h_doors.agree g3) (v_h_ways) (hv_h_ways.agree g3)
  have l5:=a5.1
  have v1_5:=(a5.2 S.next (by omega)).trans v1_3
  have v2_5:=(a5.2 S1.next (by omega)).trans v2_3
  have g5:Agree S S5:=g3.trans a5
  try simp (disch:=first|omega|assumption) only [E0_G,SY,off,agreeKind,vals,ldA,rdCells,aggD,aField,Nat.reduceAdd,Nat.reduceLT,Nat.reduceBEq,TY_EvH2,v1_3,v2_3,h4a,k5] at hz
  rcases dB ((r102 h x.b)) with ⟨h6a,h6⟩|⟨h6a,h6⟩
  ·try simp (disch:=first|omega|assumption) only [E0_G,SY,off,agreeKind,ldA,aggD,aField,Nat.reduceAdd,Nat.reduceLT,Nat.reduceBEq,TY_EvH2,v2_5,h6a] at hz
   rcases dP (x.a=x.b) with ⟨h7a,h7⟩|⟨h7a,h7⟩
   ·try simp only [E0_G,SY,off,agreeKind,Nat.reduceAdd,Nat.reduceLT,Nat.reduceBEq,h7a] at hz
    have hr:r80 h x=false:=(if_pos h4).trans ((if_pos h6).trans ((if_pos h7).trans (rfl)))
    exact fin hz (by rw [hr]) g5
   have y8:aBuild Tryz.prog 36 [(0,.int .i64 1),(1,.int .i64 3600)]=some (.agg #[.int .i64 1,.int .i64 3600]):=by kernel_rfl
   obtain ⟨S9,k9,a9⟩:=c133 1 3600 x.secs  S5
   have l9:=a9.1
   have v1_9:=(a9.2 S.next (by omega)).trans v1_5
   have v2_9:=(a9.2 S1.next (by omega)).trans v2_5
   have g9:Agree S S9:=g5.trans a9
   try simp (disch:=first|omega|assumption) only [E0_G,SY,off,agreeKind,partVals,vals,ldA,aggD,aField,Nat.reduceAdd,Nat.reduceLT,Nat.reduceBEq,TY_EvH2,v2_5,h7a,y8,k9] at hz
   rcases dB ((r133 1 3600 x.secs)) with ⟨h10a,h10⟩|⟨h10a,h10⟩
   ·have y11:aBuild Tryz.prog 36 [(1,.int .i64 3600)]=some (.agg #[.int .i64 0,.int .i64 3600]):=by kernel_rfl
    obtain ⟨S12,k12,a12⟩:=c133 0 3600 x.back  S9
    have l12:=a12.1
    have v1_12:=(a12.2 S.next (by omega)).trans v1_9
    have v2_12:=(a12.2 S1.next (by omega)).trans v2_9
    have g12:Agree S S12:=g9.trans a12
    try simp (disch:=first|omega|assumption) only [E0_G,SY,off,agreeKind,partVals,vals,ldA,aggD,aField,Nat.reduceAdd,Nat.reduceLT,Nat.reduceBEq,TY_EvH2,v2_9,h10a,y11,k12] at hz
    rcases dB ((r133 0 3600 x.back)) with ⟨h13a,h13⟩|⟨h13a,h13⟩
    ·try simp (disch:=first|omega|assumption) only [E0_G,SY,off,agreeKind,ldA,aggD,aField,Nat.reduceAdd,Nat.reduceLT,Nat.reduceBEq,TY_EvH2,v2_12,h13a] at hz
     rcases dP (x.door=(-1)) with ⟨h14a,h14⟩|⟨h14a,h14⟩
     ·try simp only [E0_G,SY,off,agreeKind,Nat.reduceAdd,Nat.reduceLT,Nat.reduceBEq,h14a] at hz
      have hr:r80 h x=true:=(if_pos h4).trans ((if_pos h6).trans ((if_neg h7).trans ((if_pos h10).trans ((if_pos h13).trans ((if_pos h14).trans (rfl))))))
      exact fin hz (by rw [hr]) g12
     obtain ⟨S15,k15,a15⟩:=c87 h x.door  S12 (v_h_rooms) (hv_h_rooms.agree g12) (v_h_doors) (hv_h_doors.agree g12) (v_h_ways) (hv_h_ways.agree g12)
     have l15:=a15.1
     have g15:Agree S S15:=g12.trans a15
     try simp (disch:=first|omega|assumption) only [E0_G,SY,off,agreeKind,vals,ldA,rdCells,aggD,aField,Nat.reduceAdd,Nat.reduceLT,Nat.reduceBEq,TY_EvH2,v1_12,v2_12,h14a,k15] at hz
     have hr:r80 h x=(r87 h x.door):=(if_pos h4).trans ((if_pos h6).trans ((if_neg h7).trans ((if_pos h10).trans ((if_pos h13).trans ((if_neg h14).trans (rfl))))))
     exact fin hz (by rw [hr]) g15
    try simp only [E0_G,SY,off,agreeKind,Nat.reduceAdd,Nat.reduceLT,Nat.reduceBEq,h13a] at hz
    have hr:r80 h x=false:=(if_pos h4).trans ((if_pos h6).trans ((if_neg h7).trans ((if_pos h10).trans ((if_neg h13).trans (rfl)))))
    exact fin hz (by rw [hr]) g12
   try simp only [E0_G,SY,off,agreeKind,Nat.reduceAdd,Nat.reduceLT,Nat.reduceBEq,h10a] at hz
   have hr:r80 h x=false:=(if_pos h4).trans ((if_pos h6).trans ((if_neg h7).trans ((if_neg h10).trans (rfl))))
   exact fin hz (by rw [hr]) g9
  try simp only [E0_G,SY,off,agreeKind,Nat.reduceAdd,Nat.reduceLT,Nat.reduceBEq,h6a] at hz
  have hr:r80 h x=false:=(if_pos h4).trans ((if_neg h6).trans (rfl))
  exact fin hz (by rw [hr]) g5
 try simp only [E0_G,SY,off,agreeKind,Nat.reduceAdd,Nat.reduceLT,Nat.reduceBEq,h4a] at hz
 have hr:r80 h x=false:=(if_neg h4).trans (rfl)
 exact fin hz (by rw [hr]) g3
def r79 (x:Wy) (h:Hs):Bool:=!(r80 h x)
set_option maxHeartbeats 2000000 in
theorem c79 (x:Wy) (h:Hs)  (S:AS) (v_h_rooms:Value) (hv_h_rooms:LstR S v_h_rooms h.rooms) (v_h_doors:Value) (hv_h_doors:LstR S v_h_doors h.doors) (v_h_ways:Value) (hv_h_ways:Lst S v_h_ways h.ways) (p_h:Nat) (g_h:S.heap.get p_h=some (.cells [v_h_rooms,v_h_doors,v_h_ways] 26 0 true true)) (l_h:p_h<S.next) :
  ∃ S',(evL Tryz.prog E0).call 79 #[.agg #[.int .i64 x.a,.int .i64 x.b,.int .i64 x.secs,.int .i64 x.back,.int .i64 x.door],.pointer (some ⟨p_h,0,none⟩)] S=some (.bool (r79 x h),S')∧Agree S S':=by
 generalize hz:(evL Tryz.prog E0).call 79 _ _=z
 rw [L_call,evCall_said rfl Tryz.func79 rfl (by decide) Tryz.ntmps79 Tryz.results79] at hz
 obtain ⟨S1,e1,n1,b1,a1⟩:=push_open S (.cells [.int .i64 x.a,.int .i64 x.b,.int .i64 x.secs,.int .i64 x.back,.int .i64 x.door] 92 0 true true)
 have vh_1:=(a1.2 p_h (by omega)).trans g_h
 have g1:Agree S S1:=a1
 obtain ⟨S2,k2,a2⟩:=c80 h x  S1 (v_h_rooms) (hv_h_rooms.agree g1) (v_h_doors) (hv_h_doors.agree g1) (v_h_ways) (hv_h_ways.agree g1)
 have l2:=a2.1
 have g2:Agree S S2:=g1.trans a2
 try simp only [E0_G,SY,setArgs,off,agreeKind,vals,boxed,ldA,rdCells,aggD,Nat.reduceAdd,Nat.reduceSub,Nat.reduceLT,Nat.reduceBEq,TY_EvH2,vh_1,e1,b1,k2] at hz
 have hr:r79 x h=!(r80 h x):=rfl
 exact fin hz (by rw [hr]) g2
def R78_0 (l:List Wy) (h:Hs)  : List Wy→Nat→Sum (Int) (Unit)
 | [],k=>.inr ()
 | x2 :: l',k=>(if (r79 x2 h)=true then .inl (k:Int) else R78_0 l h l' (k+1))
def r78 (l:List Wy) (h:Hs):Int:=(onSum (R78_0 l h l 0) (fun (r4:Int)=>r4) (fun (_:Unit) => -1))
set_option maxHeartbeats 2000000 in
theorem c78 (l:List Wy) (h:Hs) (hl:l.length≤70) (S:AS) (v_l:Value) (hv_l:Lst S v_l l) (v_h_rooms:Value) (hv_h_rooms:LstR S v_h_rooms h.rooms) (v_h_doors:Value) (hv_h_doors:LstR S v_h_doors h.doors) (v_h_ways:Value) (hv_h_ways:Lst S v_h_ways h.ways) (p_h:Nat) (g_h:S.heap.get p_h=some (.cells [v_h_rooms,v_h_doors,v_h_ways] 26 0 true true)) (l_h:p_h<S.next) :
  ∃ S',(evL Tryz.prog E0).call 78 #[v_l,.func (.func 79) #[] #[.pointer (some ⟨p_h,0,none⟩)]] S=some (.int .i64 (r78 l h),S')∧Agree S S':=by
 generalize hz:(evL Tryz.prog E0).call 78 _ _=z
 rw [L_call,evCall_said rfl Tryz.func78 rfl (by decide) Tryz.ntmps78 Tryz.results78] at hz
 have w1:=(hv_l).len (P:=Tryz.prog) (t:=24) Tryz.underlying24
 try simp only [E0_G,SY,setArgs,off,agreeKind,Nat.reduceAdd,Nat.reduceSub,Nat.reduceLT,Nat.reduceBEq,w1] at hz
 generalize hL2:Rec.loop _ _ _ _=L2 at hz
 obtain ⟨x2,t2,S2e,rfl,hQ2⟩:=loop_met hL2 (fun m t S'=>∃ (k:Nat),m+k=l.length∧k≤l.length∧t.get 0=some (v_l)∧t.get 1=some (.func (.func 79) #[] #[.pointer (some ⟨p_h,0,none⟩)])∧t.get 7=some (.int .i64 (l.length:Int))∧t.get 8=some (.int .i64 (k:Int))∧S'.heap.get p_h=some (.cells [v_h_rooms,v_h_doors,v_h_ways] 26 0 true true)∧Agree S S'∧S.next≤S'.next∧R78_0 l h (l.drop k) k=R78_0 l h l 0)
  (fun x t S'=>(x=.exit 0∧∃ (k:Nat),S'.heap.get p_h=some (.cells [v_h_rooms,v_h_doors,v_h_ways] 26 0 true true)∧Agree S S'∧S.next≤S'.next∧k≤l.length∧R78_0 l h l 0=.inr ())∨(x=.ret∧∃ (r4:Int),t.get 4=some (.int .i64 r4)∧Agree S S'∧R78_0 l h l 0=.inl (r4))) (l.length - 0) ⟨0,by first|rfl|omega|(simp; omega)|simp,by first|rfl|omega|(simp; omega)|simp,by simp only [SY,eq_self,Nat.reduceBEq]<;>rfl,by simp only [SY,eq_self,Nat.reduceBEq]<;>rfl,by simp only [SY,eq_self,Nat.reduceBEq]<;>rfl,by simp only [SY,Nat.reduceBEq]<;>rfl,g_h,(Agree.refl S),Nat.le_refl _,rfl⟩ (by
   rintro m t S2 ⟨k,hi2_0,hi2_1,g2_0,g2_1,g2_7,g2_8,bb2_h,ga2,gn2,hd2⟩
   refine .run fun z he=>?_
   try simp only [E0_G,SY,off,agreeKind,Nat.reduceLT,Nat.reduceBEq,g2_7,g2_8] at he
   rcases dP ((k:Int)<(l.length:Int)) with ⟨h3a,h3⟩|⟨h3a,h3⟩
   ·have hx2:l[k]?=some (l[k]'(by first|omega|simp; omega)):=List.getElem?_eq_getElem _
    generalize l[k]'_=x2 at hx2
    obtain ⟨id4,of4,cc4,ty4,wr4,ex4,i4,j4,l4,q4⟩:=(hv_l).at (P:=Tryz.prog) (t:=24) Tryz.underlying24 tz92 hx2
    have j4:=(ga2.2 id4 l4).trans j4
    have m4_0:cc4[of4]?=some (.int .i64 x2.a):=q4 0 (show 0<5 by decide)
    have m4_1:cc4[of4+1]?=some (.int .i64 x2.b):=q4 1 (show 1<5 by decide)
    have m4_2:cc4[of4+2]?=some (.int .i64 x2.secs):=q4 2 (show 2<5 by decide)
    have m4_3:cc4[of4+3]?=some (.int .i64 x2.back):=q4 3 (show 3<5 by decide)
    have m4_4:cc4[of4+4]?=some (.int .i64 x2.door):=q4 4 (show 4<5 by decide)
    obtain ⟨S5,k5,a5⟩:=c79 x2 h  S2 (v_h_rooms) (hv_h_rooms.agree ga2) (v_h_doors) (hv_h_doors.agree ga2) (v_h_ways) (hv_h_ways.agree ga2) p_h bb2_h (by omega)
    have l5:=a5.1
    have vh_5:=(a5.2 p_h (by omega)).trans bb2_h
    have g5:Agree S S5:=ga2.trans a5
    try simp only [E0_G,SY,off,agreeKind,vals,ldA,rdCells,aggD,Nat.reduceAdd,Nat.reduceLT,Nat.reduceBEq,TY_EvH2,g2_0,g2_1,g2_8,h3a,i4,j4,m4_0,m4_1,m4_2,m4_3,m4_4,k5] at he
    rcases dB ((r79 x2 h)) with ⟨h6a,h6⟩|⟨h6a,h6⟩
    ·try simp only [E0_G,SY,off,agreeKind,Nat.reduceAdd,Nat.reduceLT,Nat.reduceBEq,h6a] at he
     rw [drop_cons' hx2] at hd2
     have hf:=(show _=(.inl (k:Int):Sum (Int) (Unit)) from (if_pos h6).trans (rfl)).symm.trans hd2
     exact .ret he (.inr ⟨rfl,⟨(k:Int),(by simp only [SY,eq_self,Nat.reduceBEq]<;>rfl),g5,hf.symm⟩⟩)
    have w7:IntKind.i64.wrap ((k:Int)+1)=((k+1:Nat):Int):=by rw [IntWalk.i64_in]<;>omega
    try simp only [E0_G,SY,off,agreeKind,Nat.reduceAdd,Nat.reduceLT,Nat.reduceBEq,g2_8,h6a,w7] at he
    rw [drop_cons' hx2] at hd2
    have hf:=(show _=(R78_0 l h (l.drop (k+1)) (k+1):Sum (Int) (Unit)) from (if_neg h6).trans (rfl)).symm.trans hd2
    exact .next he (m - 1) (by omega) ⟨(k+1),by first|omega|(simp; omega)|simp,by first|omega|(simp; omega)|simp,(by simp only [SY,eq_self,Nat.reduceBEq,g2_0]<;>rfl),(by simp only [SY,eq_self,Nat.reduceBEq,g2_1]<;>rfl),(by simp only [SY,eq_self,Nat.reduceBEq,g2_7]<;>rfl),(by simp only [SY,eq_self,Nat.reduceBEq,g2_8]<;>rfl),vh_5,g5,by omega,hf⟩
   try simp only [SY,h3a] at he
   rw [List.drop_eq_nil_of_le (show l.length≤k by omega)] at hd2
   have hf:=(show _=(.inr ():Sum (Int) (Unit)) from rfl).symm.trans hd2
   exact .exit he (.inl ⟨rfl,⟨k,bb2_h,ga2,by omega,by first|omega|assumption|simp,hf.symm⟩⟩))
 rcases hQ2 with ⟨rfl,hQ2⟩|⟨rfl,hQ2⟩
 ·obtain ⟨k,be2_h,ge2,gm2,hj2_0,hR2⟩:=hQ2
  try simp only [E0_G,SY,off,agreeKind,eq_self,if_true,Nat.reduceLT,Nat.reduceBEq] at hz
  have hr:r78 l h = -1:=(onSum_inr hR2).trans (rfl)
  exact fin hz (by rw [hr]) ge2
 obtain ⟨r4,ge2_4,ge2,hR2⟩:=hQ2
 try simp only [SY,ge2_4] at hz
 have hr:r78 l h=r4:=(onSum_inl hR2).trans (rfl)
 exact fin hz (by rw [hr]) ge2
def r22 (h:Hs):Int × Int:=(if (h.rooms.length:Int)=0 then (1,-1) else (if 24<(h.rooms.length:Int) then (2,-1) else (if 16<(h.doors.length:Int) then (2,-1) else (if 60<(h.ways.length:Int) then (2,-1) else (if ((r74 (h.rooms:List Rm)).1)=0 then (if 0≤(r75 (h.doors:List Dr)) then (1,(r75 (h.doors:List Dr))) else (if 0≤(r78 (h.ways:List Wy) h) then (1,(r78 (h.ways:List Wy) h)) else (0,-1))) else ((r74 (h.rooms:List Rm)).1,(r74 (h.rooms:List Rm)).2))))))
set_option maxHeartbeats 8000000 in
theorem c22 (h:Hs) (hF:Few h) (hs:∀ x ∈ h.rooms,x.name.size≤9223372036854775807) (S:AS) (v_h_rooms:Value) (hv_h_rooms:LstR S v_h_rooms h.rooms) (v_h_doors:Value) (hv_h_doors:LstR S v_h_doors h.doors) (v_h_ways:Value) (hv_h_ways:Lst S v_h_ways h.ways) :
  ∃ S',(evL Tryz.prog E0).call 22 #[.agg #[v_h_rooms,v_h_doors,v_h_ways]] S=some (.tuple #[.int .i64 (r22 h).1,.int .i64 (r22 h).2],S')∧Agree S S':=by
 have qr:=hF.r; have qd:=hF.d; have qw:=hF.w
 generalize hz:(evL Tryz.prog E0).call 22 _ _=z
 rw [L_call,evCall_said rfl Tryz.func22 rfl (by decide) Tryz.ntmps22 Tryz.results22] at hz
 obtain ⟨S1,e1,n1,b1,a1⟩:=push_open S (.cells [v_h_rooms,v_h_doors,v_h_ways] 26 0 true true)
 have g1:Agree S S1:=a1
 have w2:=(hv_h_rooms.agree g1).len (P:=Tryz.prog) (t:=22) Tryz.underlying22
 try simp (disch:=first|omega|assumption) only [E0_G,SY,setArgs,off,agreeKind,boxed,ldA,aggD,aField,Nat.reduceAdd,Nat.reduceSub,Nat.reduceLT,Nat.reduceBEq,TY_EvH2,e1,b1,w2] at hz
 rcases dP ((h.rooms.length:Int)=0) with ⟨h3a,h3⟩|⟨h3a,h3⟩
 ·try simp only [E0_G,SY,off,agreeKind,Nat.reduceAdd,Nat.reduceLT,Nat.reduceBEq,h3a] at hz
  have hr:r22 h=(1,-1):=(if_pos h3).trans (rfl)
  exact fin hz (by rw [hr]) g1
 have w4:=(hv_h_rooms.agree g1).len (P:=Tryz.prog) (t:=22) Tryz.underlying22
 try simp (disch:=first|omega|assumption) only [E0_G,SY,off,agreeKind,ldA,aggD,aField,Nat.reduceAdd,Nat.reduceLT,Nat.reduceBEq,TY_EvH2,b1,w2,h3a] at hz
 rcases dP (24<(h.rooms.length:Int)) with ⟨h5a,h5⟩|⟨h5a,h5⟩
 ·try simp only [E0_G,SY,off,agreeKind,Nat.reduceAdd,Nat.reduceLT,Nat.reduceBEq,h5a] at hz
  have hr:r22 h=(2,-1):=(if_neg h3).trans ((if_pos h5).trans (rfl))
  exact fin hz (by rw [hr]) g1
 have w6:=(hv_h_doors.agree g1).len (P:=Tryz.prog) (t:=23) Tryz.underlying23
 try simp (disch:=first|omega|assumption) only [E0_G,SY,off,agreeKind,ldA,aggD,aField,Nat.reduceAdd,Nat.reduceLT,Nat.reduceBEq,TY_EvH2,b1,h5a,w6] at hz
 rcases dP (16<(h.doors.length:Int)) with ⟨h7a,h7⟩|⟨h7a,h7⟩
 ·try simp only [E0_G,SY,off,agreeKind,Nat.reduceAdd,Nat.reduceLT,Nat.reduceBEq,h7a] at hz
  have hr:r22 h=(2,-1):=(if_neg h3).trans ((if_neg h5).trans ((if_pos h7).trans (rfl)))
  exact fin hz (by rw [hr]) g1
 have w8:=(hv_h_ways.agree g1).len (P:=Tryz.prog) (t:=24) Tryz.underlying24
 try simp (disch:=first|omega|assumption) only [E0_G,SY,off,agreeKind,ldA,aggD,aField,Nat.reduceAdd,Nat.reduceLT,Nat.reduceBEq,TY_EvH2,b1,h7a,w8] at hz
 rcases dP (60<(h.ways.length:Int)) with ⟨h9a,h9⟩|⟨h9a,h9⟩
 ·try simp only [E0_G,SY,off,agreeKind,Nat.reduceAdd,Nat.reduceLT,Nat.reduceBEq,h9a] at hz
  have hr:r22 h=(2,-1):=(if_neg h3).trans ((if_neg h5).trans ((if_neg h7).trans ((if_pos h9).trans (rfl))))
  exact fin hz (by rw [hr]) g1
 obtain ⟨S10,k10,a10⟩:=c74 (h.rooms:List Rm) qr hs S1 (v_h_rooms) (hv_h_rooms.agree g1)
 have l10:=a10.1
 have v1_10:=(a10.2 S.next (by omega)).trans b1
 have g10:Agree S S10:=g1.trans a10
 try simp (disch:=first|omega|assumption) only [E0_G,SY,off,agreeKind,vals,ldA,aggD,aField,aExtract,Nat.reduceAdd,Nat.reduceLT,Nat.reduceBEq,TY_EvH2,b1,h9a,k10] at hz
 rcases dP (((r74 (h.rooms:List Rm)).1)=0) with ⟨h11a,h11⟩|⟨h11a,h11⟩
 ·obtain ⟨S12,k12,a12⟩:=c75 (h.doors:List Dr) (Nat.le_trans qd (by decide)) hF.s S10 (v_h_doors) (hv_h_doors.agree g10)
  have l12:=a12.1
  have v1_12:=(a12.2 S.next (by omega)).trans v1_10
  have g12:Agree S S12:=g10.trans a12
  try simp (disch:=first|omega|assumption) only [E0_G,SY,off,agreeKind,vals,ldA,aggD,aField,Nat.reduceAdd,Nat.reduceLT,Nat.reduceBEq,TY_EvH2,v1_10,h11a,k12] at hz
  rcases dP (0≤(r75 (h.doors:List Dr))) with ⟨h13a,h13⟩|⟨h13a,h13⟩
  ·try simp only [E0_G,SY,off,agreeKind,Nat.reduceAdd,Nat.reduceLT,Nat.reduceBEq,h13a] at hz
   have hr:r22 h=(1,(r75 (h.doors:List Dr))):=(if_neg h3).trans ((if_neg h5).trans ((if_neg h7).trans ((if_neg h9).trans ((if_pos h11).trans ((if_pos h13).trans (rfl))))))
   exact fin hz (by rw [hr]) g12
  obtain ⟨S14,k14,a14⟩:=c78 (h.ways:List Wy) h qw S12 (v_h_ways) (hv_h_ways.agree g12) (v_h_rooms) (hv_h_rooms.agree g12) (v_h_doors) (hv_h_doors.agree g12) (v_h_ways) (hv_h_ways.agree g12) S.next v1_12 (by omega)
  have l14:=a14.1
  have g14:Agree S S14:=g12.trans a14
  try simp (disch:=first|omega|assumption) only [E0_G,SY,off,agreeKind,vals,ldA,aggD,aField,Nat.reduceAdd,Nat.reduceLT,Nat.reduceBEq,TY_EvH2,v1_12,h13a,op_makeFunc1,k14] at hz
  rcases dP (0≤(r78 (h.ways:List Wy) h)) with ⟨h15a,h15⟩|⟨h15a,h15⟩
  ·try simp only [E0_G,SY,off,agreeKind,Nat.reduceAdd,Nat.reduceLT,Nat.reduceBEq,h15a] at hz
   have hr:r22 h=(1,(r78 (h.ways:List Wy) h)):=(if_neg h3).trans ((if_neg h5).trans ((if_neg h7).trans ((if_neg h9).trans ((if_pos h11).trans ((if_neg h13).trans ((if_pos h15).trans (rfl)))))))
   exact fin hz (by rw [hr]) g14
  try simp only [E0_G,SY,off,agreeKind,Nat.reduceAdd,Nat.reduceLT,Nat.reduceBEq,h15a] at hz
  have hr:r22 h=(0,-1):=(if_neg h3).trans ((if_neg h5).trans ((if_neg h7).trans ((if_neg h9).trans ((if_pos h11).trans ((if_neg h13).trans ((if_neg h15).trans (rfl)))))))
  exact fin hz (by rw [hr]) g14
 try simp only [E0_G,SY,off,agreeKind,Nat.reduceAdd,Nat.reduceLT,Nat.reduceBEq,h11a] at hz
 have hr:r22 h=((r74 (h.rooms:List Rm)).1,(r74 (h.rooms:List Rm)).2):=(if_neg h3).trans ((if_neg h5).trans ((if_neg h7).trans ((if_neg h9).trans ((if_neg h11).trans (rfl)))))
 exact fin hz (by rw [hr]) g10
def r84 (h:Hs) (right:Bool):Int:=(if ((r22 h).1)=0 then (if right=true then 0 else 1) else (r22 h).1)
set_option maxHeartbeats 2000000 in
theorem c84 (h:Hs) (right:Bool) (hF:Few h) (hs:∀ x ∈ h.rooms,x.name.size≤9223372036854775807) (S:AS) (v_h_rooms:Value) (hv_h_rooms:LstR S v_h_rooms h.rooms) (v_h_doors:Value) (hv_h_doors:LstR S v_h_doors h.doors) (v_h_ways:Value) (hv_h_ways:Lst S v_h_ways h.ways) :
  ∃ S',(evL Tryz.prog E0).call 84 #[.agg #[v_h_rooms,v_h_doors,v_h_ways],.bool right] S=some (.int .i64 (r84 h right),S')∧Agree S S':=by
 have qr:=hF.r; have qd:=hF.d; have qw:=hF.w
 generalize hz:(evL Tryz.prog E0).call 84 _ _=z
 rw [L_call,evCall_said rfl Tryz.func84 rfl (by decide) Tryz.ntmps84 Tryz.results84] at hz
 obtain ⟨S1,e1,n1,b1,a1⟩:=push_open S (.cells [v_h_rooms,v_h_doors,v_h_ways] 26 0 true true)
 have g1:Agree S S1:=a1
 obtain ⟨S2,k2,a2⟩:=c22 h hF hs S1 (v_h_rooms) (hv_h_rooms.agree g1) (v_h_doors) (hv_h_doors.agree g1) (v_h_ways) (hv_h_ways.agree g1)
 have l2:=a2.1
 have g2:Agree S S2:=g1.trans a2
 try simp (disch:=first|omega|assumption) only [E0_G,SY,setArgs,off,agreeKind,vals,boxed,ldA,rdCells,aggD,aExtract,Nat.reduceAdd,Nat.reduceSub,Nat.reduceLT,Nat.reduceBEq,TY_EvH2,e1,b1,k2] at hz
 rcases dP (((r22 h).1)=0) with ⟨h3a,h3⟩|⟨h3a,h3⟩
 ·try simp only [E0_G,SY,off,agreeKind,Nat.reduceAdd,Nat.reduceLT,Nat.reduceBEq,h3a] at hz
  rcases dB (right) with ⟨h4a,h4⟩|⟨h4a,h4⟩
  ·try simp only [E0_G,SY,off,agreeKind,Nat.reduceLT,Nat.reduceBEq,h4a] at hz
   have hr:r84 h right=0:=(if_pos h3).trans ((if_pos h4).trans (rfl))
   exact fin hz (by rw [hr]) g2
  try simp only [E0_G,SY,off,agreeKind,Nat.reduceLT,Nat.reduceBEq,h4a] at hz
  have hr:r84 h right=1:=(if_pos h3).trans ((if_neg h4).trans (rfl))
  exact fin hz (by rw [hr]) g2
 try simp only [E0_G,SY,off,agreeKind,Nat.reduceAdd,Nat.reduceLT,Nat.reduceBEq,h3a] at hz
 have hr:r84 h right=(r22 h).1:=(if_neg h3).trans (rfl)
 exact fin hz (by rw [hr]) g2
end House
end Go.Proofs
