import Derived.Test.YtohfdkdjfoonjaaGreatDoorBM
set_option linter.unusedSimpArgs false
set_option linter.unusedVariables false
namespace Go.Proofs
namespace House
open Go Go.RowKit Go.Aev
set_option maxRecDepth 100000
theorem tz136:szOf Tryz.prog 136=some 6:=by kernel_rfl
theorem tt136:inTab Tryz.prog 136=true:=by kernel_rfl
theorem t0_136:zeroOf Tryz.prog 136=some (.agg #[.int .i64 0,.bool false,.int .i64 0,.int .i64 0,.int .i64 0,.int .i64 0]):=by kernel_rfl
theorem tz137:szOf Tryz.prog 137=some 6:=by kernel_rfl
theorem tt137:inTab Tryz.prog 137=true:=by kernel_rfl
theorem t0_137:zeroOf Tryz.prog 137=some (.agg #[.int .i64 0,.bool false,.int .i64 0,.int .i64 0,.int .i64 0,.int .i64 0]):=by kernel_rfl
theorem ti137:(Tryz.prog.info? 137).map (fun i=>Nat.ble i.bytes 65536)=some true:=by kernel_rfl
theorem tv137:(zeroOf Tryz.prog 137).isSome=true:=by kernel_rfl
theorem TY_EvH4:type_of% (And.intro TY_EvH2 (And.intro (And.intro (And.intro Tryz.underlying136 tz136) (And.intro tt136 t0_136)) (And.intro (And.intro Tryz.underlying137 tz137) (And.intro tt137 t0_137)))):=(And.intro TY_EvH2 (And.intro (And.intro (And.intro Tryz.underlying136 tz136) (And.intro tt136 t0_136)) (And.intro (And.intro Tryz.underlying137 tz137) (And.intro tt137 t0_137))))
theorem r102_iff {h:Hs} {k:Int}:r102 h k=true↔0≤k∧k<h.rooms.length:=r135_iff
theorem r87_iff {h:Hs} {k:Int}:r87 h k=true↔0≤k∧k<h.doors.length:=r135_iff
theorem r69_iff {t:Int}:r69 t=true↔0≤t∧t≤1073741823:=r71_iff
def r144 (h:Hs) (way:Int) (back:Bool):(Int × Bool × Int × Int × Int × Int) × Bool:=(if back=true then ((way,true,(lget h.ways (Int.toNat way)).b,(lget h.ways (Int.toNat way)).a,(lget h.ways (Int.toNat way)).back,(lget h.ways (Int.toNat way)).door),decide (0<((lget h.ways (Int.toNat way)).back))) else ((way,false,(lget h.ways (Int.toNat way)).a,(lget h.ways (Int.toNat way)).b,(lget h.ways (Int.toNat way)).secs,(lget h.ways (Int.toNat way)).door),true))
set_option maxHeartbeats 2000000 in
theorem c144 (h:Hs) (way:Int) (back:Bool) (hw:0≤way∧way<h.ways.length) (S:AS) (v_h_rooms:Value) (hv_h_rooms:LstR S v_h_rooms h.rooms) (v_h_doors:Value) (hv_h_doors:LstR S v_h_doors h.doors) (v_h_ways:Value) (hv_h_ways:Lst S v_h_ways h.ways) :
  ∃ S',(evL Tryz.prog E0).call 144 #[.agg #[v_h_rooms,v_h_doors,v_h_ways],.int .i64 way,.bool back] S=some (.tuple #[.agg #[.int .i64 ((r144 h way back).1.1),.bool ((r144 h way back).1.2.1),.int .i64 ((r144 h way back).1.2.2.1),.int .i64 ((r144 h way back).1.2.2.2.1),.int .i64 ((r144 h way back).1.2.2.2.2.1),.int .i64 ((r144 h way back).1.2.2.2.2.2)],.bool (r144 h way back).2],S')∧Agree S S':=by
 generalize hz:(evL Tryz.prog E0).call 144 _ _=z
 rw [L_call,evCall_said rfl Tryz.func144 rfl (by decide) Tryz.ntmps144 Tryz.results144] at hz
 obtain ⟨S1,e1,n1,b1,a1⟩:=push_open S (.cells [v_h_rooms,v_h_doors,v_h_ways] 26 0 true true)
 have g1:Agree S S1:=a1
 have s1:E0.same S S1=true:=symEnv_same a1
 obtain ⟨S2,e2,n2,b2,a2⟩:=push_open S1 (.cells [.int .i64 0,.bool false,.int .i64 0,.int .i64 0,.int .i64 0,.int .i64 0] 137 0 true true)
 have v1_2:=(a2.2 S.next (by omega)).trans b1
 have g2:Agree S S2:=g1.trans a2
 have s2:E0.same S1 S2=true:=symEnv_same a2
 have qz3:((Int.toNat way:Nat):Int)=way:=Int.toNat_of_nonneg (by first|omega|simp; omega)
 have hx4:h.ways[(Int.toNat way)]?=some (lget h.ways (Int.toNat way)):=lget_some (by first|omega|simp; omega)
 obtain ⟨id4,of4,cc4,ty4,wr4,ex4,i4,j4,l4,q4⟩:=(hv_h_ways).at (P:=Tryz.prog) (t:=24) Tryz.underlying24 tz92 hx4
 have j4:=(g2.2 id4 l4).trans j4
 have m4_0:cc4[of4]?=some (.int .i64 ((lget h.ways (Int.toNat way)).a)):=q4 0 (show 0<5 by decide)
 have m4_1:cc4[of4+1]?=some (.int .i64 ((lget h.ways (Int.toNat way)).b)):=q4 1 (show 1<5 by decide)
 have m4_2:cc4[of4+2]?=some (.int .i64 ((lget h.ways (Int.toNat way)).secs)):=q4 2 (show 2<5 by decide)
 have m4_3:cc4[of4+3]?=some (.int .i64 ((lget h.ways (Int.toNat way)).back)):=q4 3 (show 3<5 by decide)
 have m4_4:cc4[of4+4]?=some (.int .i64 ((lget h.ways (Int.toNat way)).door)):=q4 4 (show 4<5 by decide)
 rw [qz3] at i4
 obtain ⟨S5,e5,n5,b5,a5⟩:=push_open S2 (.cells [.int .i64 0,.int .i64 0,.int .i64 0,.int .i64 0,.int .i64 0] 92 0 true true)
 have v1_5:=(a5.2 S.next (by omega)).trans v1_2
 have v2_5:=(a5.2 S1.next (by omega)).trans b2
 have v4_5:=(a5.2 id4 (by omega)).trans j4
 have g5:Agree S S5:=g2.trans a5
 have s5:E0.same S2 S5=true:=symEnv_same a5
 obtain ⟨S6,k6,n6,b6,q6⟩:=st_at (o:=0) (c':=[.int .i64 ((lget h.ways (Int.toNat way)).a),.int .i64 ((lget h.ways (Int.toNat way)).b),.int .i64 ((lget h.ways (Int.toNat way)).secs),.int .i64 ((lget h.ways (Int.toNat way)).back),.int .i64 ((lget h.ways (Int.toNat way)).door)]) (v:=.agg #[.int .i64 ((lget h.ways (Int.toNat way)).a),.int .i64 ((lget h.ways (Int.toNat way)).b),.int .i64 ((lget h.ways (Int.toNat way)).secs),.int .i64 ((lget h.ways (Int.toNat way)).back),.int .i64 ((lget h.ways (Int.toNat way)).door)]) tz92 b5 rfl rfl (show 0+5≤5 by decide) rfl
 have v1_6:=(q6 S.next (by omega)).trans v1_5
 have v2_6:=(q6 S1.next (by omega)).trans v2_5
 have v4_6:=(q6 id4 (by omega)).trans v4_5
 have g6:Agree S S6:=⟨by have:=(g5).1; omega,fun id hid=>(q6 id (by have:=(g5).1; omega)).trans ((g5).2 id hid)⟩
 try simp (disch:=first|omega|assumption) only [E0_G,SY,setArgs,off,agreeKind,partVals,vals,allocV,boxed,ldA,rdCells,oneB,aggD,aField,aFieldV,aExtract,eq_self,ne_eq,if_true,if_false,not_false_eq_true,Nat.reduceAdd,Nat.reduceSub,Nat.reduceMul,Nat.reduceLT,Nat.reduceEqDiff,Nat.reduceBEq,reduceIte,Int.reduceEq,Int.reduceLT,Int.reduceLE,reduceCtorEq,TY_EvH4,s1,e1,b1,v1_2,s2,e2,b2,i4,j4,m4_0,m4_1,m4_2,m4_3,m4_4,v1_5,v2_5,v4_5,s5,e5,b5,v1_6,v2_6,v4_6,k6,b6] at hz
 rcases dB (back) with ⟨h7a,h7⟩|⟨h7a,h7⟩
 ·try simp (disch:=first|omega|assumption) only [E0_G,SY,setArgs,off,agreeKind,partVals,vals,allocV,boxed,ldA,rdCells,oneB,aggD,aField,aFieldV,aExtract,eq_self,ne_eq,if_true,if_false,not_false_eq_true,Nat.reduceAdd,Nat.reduceSub,Nat.reduceMul,Nat.reduceLT,Nat.reduceEqDiff,Nat.reduceBEq,reduceIte,Int.reduceEq,Int.reduceLT,Int.reduceLE,reduceCtorEq,TY_EvH4,s1,e1,b1,v1_2,s2,e2,b2,i4,j4,m4_0,m4_1,m4_2,m4_3,m4_4,v1_5,v2_5,v4_5,s5,e5,b5,v1_6,v2_6,v4_6,k6,b6,h7a] at hz
  rw [code_draws3 _ _ _ [(Operand.tmp 26,Operand.tmp 6)] (by kernel_rfl) (by kernel_rfl) (by kernel_rfl) (by kernel_rfl)] at hz
  generalize hnd8:needy _=nd8 at hz
  have nn8_14:nd8 14=false:=by rw [← hnd8]; kernel_rfl
  have y9:aBuild Tryz.prog 137 [(0,.int .i64 way),(1,.bool true),(2,.int .i64 ((lget h.ways (Int.toNat way)).b)),(3,.int .i64 ((lget h.ways (Int.toNat way)).a)),(4,.int .i64 ((lget h.ways (Int.toNat way)).back)),(5,.int .i64 ((lget h.ways (Int.toNat way)).door))]=some (.agg #[.int .i64 way,.bool true,.int .i64 ((lget h.ways (Int.toNat way)).b),.int .i64 ((lget h.ways (Int.toNat way)).a),.int .i64 ((lget h.ways (Int.toNat way)).back),.int .i64 ((lget h.ways (Int.toNat way)).door)]):=by kernel_rfl
  obtain ⟨S10,k10,n10,b10,q10⟩:=st_at (o:=0) (c':=[.int .i64 way,.bool true,.int .i64 ((lget h.ways (Int.toNat way)).b),.int .i64 ((lget h.ways (Int.toNat way)).a),.int .i64 ((lget h.ways (Int.toNat way)).back),.int .i64 ((lget h.ways (Int.toNat way)).door)]) (v:=.agg #[.int .i64 way,.bool true,.int .i64 ((lget h.ways (Int.toNat way)).b),.int .i64 ((lget h.ways (Int.toNat way)).a),.int .i64 ((lget h.ways (Int.toNat way)).back),.int .i64 ((lget h.ways (Int.toNat way)).door)]) tz137 v2_6 rfl rfl (show 0+6≤6 by decide) rfl
  have v1_10:=(q10 S.next (by omega)).trans v1_6
  have v4_10:=(q10 id4 (by omega)).trans v4_6
  have v5_10:=(q10 S2.next (by omega)).trans b6
  have g10:Agree S S10:=⟨by have:=(g6).1; omega,fun id hid=>(q10 id (by have:=(g6).1; omega)).trans ((g6).2 id hid)⟩
  have nb11:=nbeq (show S2.next≠S1.next by omega)
  try simp (disch:=first|omega|assumption) only [E0_G,SY,setArgs,off,agreeKind,partVals,vals,allocV,boxed,ldA,rdCells,oneB,aggD,aField,aFieldV,aExtract,eq_self,ne_eq,if_true,if_false,not_false_eq_true,Nat.reduceAdd,Nat.reduceSub,Nat.reduceMul,Nat.reduceLT,Nat.reduceEqDiff,Nat.reduceBEq,reduceIte,Int.reduceEq,Int.reduceLT,Int.reduceLE,reduceCtorEq,TY_EvH4,s1,e1,b1,v1_2,s2,e2,b2,i4,j4,m4_0,m4_1,m4_2,m4_3,m4_4,v1_5,v2_5,v4_5,s5,e5,b5,v1_6,v2_6,v4_6,k6,b6,h7a,nn8_14,store_agree,store_refl E0_same,y9,v1_10,v4_10,v5_10,k10,b10,nb11,behindD_some,disW_pp,List.all_cons,List.all_nil,Bool.not_false,Bool.and_true] at hz
  have hr:r144 h way back=((way,true,(lget h.ways (Int.toNat way)).b,(lget h.ways (Int.toNat way)).a,(lget h.ways (Int.toNat way)).back,(lget h.ways (Int.toNat way)).door),decide (0<((lget h.ways (Int.toNat way)).back))):=(if_pos h7).trans (rfl)
  exact fin hz (by rw [hr]) g10
 have y12:aBuild Tryz.prog 137 [(0,.int .i64 way),(1,.bool false),(2,.int .i64 ((lget h.ways (Int.toNat way)).a)),(3,.int .i64 ((lget h.ways (Int.toNat way)).b)),(4,.int .i64 ((lget h.ways (Int.toNat way)).secs)),(5,.int .i64 ((lget h.ways (Int.toNat way)).door))]=some (.agg #[.int .i64 way,.bool false,.int .i64 ((lget h.ways (Int.toNat way)).a),.int .i64 ((lget h.ways (Int.toNat way)).b),.int .i64 ((lget h.ways (Int.toNat way)).secs),.int .i64 ((lget h.ways (Int.toNat way)).door)]):=by kernel_rfl
 obtain ⟨S13,k13,n13,b13,q13⟩:=st_at (o:=0) (c':=[.int .i64 way,.bool false,.int .i64 ((lget h.ways (Int.toNat way)).a),.int .i64 ((lget h.ways (Int.toNat way)).b),.int .i64 ((lget h.ways (Int.toNat way)).secs),.int .i64 ((lget h.ways (Int.toNat way)).door)]) (v:=.agg #[.int .i64 way,.bool false,.int .i64 ((lget h.ways (Int.toNat way)).a),.int .i64 ((lget h.ways (Int.toNat way)).b),.int .i64 ((lget h.ways (Int.toNat way)).secs),.int .i64 ((lget h.ways (Int.toNat way)).door)]) tz137 v2_6 rfl rfl (show 0+6≤6 by decide) rfl
 have v1_13:=(q13 S.next (by omega)).trans v1_6
 have v4_13:=(q13 id4 (by omega)).trans v4_6
 have v5_13:=(q13 S2.next (by omega)).trans b6
 have g13:Agree S S13:=⟨by have:=(g6).1; omega,fun id hid=>(q13 id (by have:=(g6).1; omega)).trans ((g6).2 id hid)⟩
 try simp (disch:=first|omega|assumption) only [E0_G,SY,setArgs,off,agreeKind,partVals,vals,allocV,boxed,ldA,rdCells,oneB,aggD,aField,aFieldV,aExtract,eq_self,ne_eq,if_true,if_false,not_false_eq_true,Nat.reduceAdd,Nat.reduceSub,Nat.reduceMul,Nat.reduceLT,Nat.reduceEqDiff,Nat.reduceBEq,reduceIte,Int.reduceEq,Int.reduceLT,Int.reduceLE,reduceCtorEq,TY_EvH4,s1,e1,b1,v1_2,s2,e2,b2,i4,j4,m4_0,m4_1,m4_2,m4_3,m4_4,v1_5,v2_5,v4_5,s5,e5,b5,v1_6,v2_6,v4_6,k6,b6,h7a,y12,v1_13,v4_13,v5_13,k13,b13] at hz
 have hr:r144 h way back=((way,false,(lget h.ways (Int.toNat way)).a,(lget h.ways (Int.toNat way)).b,(lget h.ways (Int.toNat way)).secs,(lget h.ways (Int.toNat way)).door),true):=(if_neg h7).trans (rfl)
 exact fin hz (by rw [hr]) g13
def r160 (ti:Int):Int × Int:=(ti - (Int.tmod ti 86400),Int.tmod ti 86400)
set_option maxHeartbeats 2000000 in
theorem c160 (ti:Int) (ht:0≤ti∧ti≤1073741823) (S:AS)  :
  ∃ S',(evL Tryz.prog E0).call 160 #[.int .i64 ti] S=some (.tuple #[.int .i64 (r160 ti).1,.int .i64 (r160 ti).2],S')∧Agree S S':=by
 have hm:=tm_ok ht.1
 generalize hz:(evL Tryz.prog E0).call 160 _ _=z
 rw [L_call,evCall_said rfl Tryz.func160 rfl (by decide) Tryz.ntmps160 Tryz.results160] at hz
 have w1:IntKind.i64.wrap (ti - (Int.tmod ti 86400))=ti - (Int.tmod ti 86400):=by rw [IntWalk.i64_in]; omega
 try simp (disch:=first|omega|assumption) only [E0_G,SY,setArgs,off,agreeKind,partVals,vals,allocV,boxed,ldA,rdCells,oneB,aggD,aField,aFieldV,aExtract,eq_self,ne_eq,if_true,if_false,not_false_eq_true,Nat.reduceAdd,Nat.reduceSub,Nat.reduceMul,Nat.reduceLT,Nat.reduceEqDiff,Nat.reduceBEq,reduceIte,Int.reduceEq,Int.reduceLT,Int.reduceLE,reduceCtorEq,TY_EvH4,w1] at hz
 have hr:r160 ti=(ti - (Int.tmod ti 86400),Int.tmod ti 86400):=rfl
 exact fin hz (by rw [hr]) (Agree.refl S)
theorem r160_ok {t:Int} (ht:0≤t):0≤(r160 t).2∧(r160 t).2<86400∧(r160 t).1=t - (r160 t).2∧0≤(r160 t).1∧(r160 t).2=t % 86400:=by
 have hm:=tm_ok ht
 have e:=hm.2.2.2
 have e1:(r160 t).2=t % 86400:=e
 have e2:(r160 t).1=t - t % 86400:=by rw [← e]; rfl
 rw [e1,e2]
 omega
def R136_0 (l:List Sp) (ti:Int)  : List Sp→Sum (Int) (Unit)
 | []=>.inr ()
 | x5 :: l'=>(if ((r160 ti).2)≤x5.hi then .inl (((r160 ti).1)+(max ((r160 ti).2) x5.lo)) else R136_0 l ti l')
def r136 (l:List Sp) (ti:Int):Int:=(if (l.length:Int)=0 then 1073741824 else (onSum (R136_0 l ti l) (fun (r4:Int)=>r4) (fun (_:Unit)=>(((r160 ti).1)+86400)+((lget l 0).lo))))
set_option maxHeartbeats 2000000 in
theorem c136 (l:List Sp) (ti:Int) (hb:Bd 86399 l) (hl:l.length≤12) (ht:0≤ti∧ti≤1073741823) (S:AS) (v_l:Value) (hv_l:Lst S v_l l) :
  ∃ S',(evL Tryz.prog E0).call 136 #[v_l,.int .i64 ti] S=some (.int .i64 (r136 l ti),S')∧Agree S S':=by
 generalize hz:(evL Tryz.prog E0).call 136 _ _=z
 rw [L_call,evCall_said rfl Tryz.func136 rfl (by decide) Tryz.ntmps136 Tryz.results136] at hz
 have w1:=(hv_l).len (P:=Tryz.prog) (t:=40) Tryz.underlying40
 try simp (disch:=first|omega|assumption) only [E0_G,SY,setArgs,off,agreeKind,partVals,vals,allocV,boxed,ldA,rdCells,oneB,aggD,aField,aFieldV,aExtract,eq_self,ne_eq,if_true,if_false,not_false_eq_true,Nat.reduceAdd,Nat.reduceSub,Nat.reduceMul,Nat.reduceLT,Nat.reduceEqDiff,Nat.reduceBEq,reduceIte,Int.reduceEq,Int.reduceLT,Int.reduceLE,reduceCtorEq,TY_EvH4,w1] at hz
 rcases dP ((l.length:Int)=0) with ⟨h2a,h2⟩|⟨h2a,h2⟩
 ·try simp (disch:=first|omega|assumption) only [E0_G,SY,setArgs,off,agreeKind,partVals,vals,allocV,boxed,ldA,rdCells,oneB,aggD,aField,aFieldV,aExtract,eq_self,ne_eq,if_true,if_false,not_false_eq_true,Nat.reduceAdd,Nat.reduceSub,Nat.reduceMul,Nat.reduceLT,Nat.reduceEqDiff,Nat.reduceBEq,reduceIte,Int.reduceEq,Int.reduceLT,Int.reduceLE,reduceCtorEq,TY_EvH4,w1,h2a] at hz
  have hr:r136 l ti=1073741824:=(if_pos h2).trans (rfl)
  exact fin hz (by rw [hr]) (Agree.refl S)
 obtain ⟨S3,k3,a3⟩:=c160 ti (by omega) S
 have l3:=a3.1
 have s3:E0.same S S3=true:=symEnv_same a3
 have g3:Agree S S3:=a3
 have p3:=r160_ok (show 0≤ti by omega)
 have w4:=(hv_l.agree g3).len (P:=Tryz.prog) (t:=40) Tryz.underlying40
 try simp (disch:=first|omega|assumption) only [E0_G,SY,setArgs,off,agreeKind,partVals,vals,allocV,boxed,ldA,rdCells,oneB,aggD,aField,aFieldV,aExtract,eq_self,ne_eq,if_true,if_false,not_false_eq_true,Nat.reduceAdd,Nat.reduceSub,Nat.reduceMul,Nat.reduceLT,Nat.reduceEqDiff,Nat.reduceBEq,reduceIte,Int.reduceEq,Int.reduceLT,Int.reduceLE,reduceCtorEq,TY_EvH4,w1,h2a,k3,s3,w4] at hz
 generalize hL5:Rec.loop _ _ _ _=L5 at hz
 obtain ⟨x5,t5,S5e,rfl,hQ5⟩:=loop_met hL5 (fun m t S'=>∃ (k:Nat),m+k=l.length∧k≤l.length∧t.get 0=some (v_l)∧t.get 5=some (.int .i64 ((r160 ti).1))∧t.get 6=some (.int .i64 ((r160 ti).2))∧t.get 17=some (v_l)∧t.get 18=some (.int .i64 (l.length:Int))∧t.get 19=some (.int .i64 (k:Int))∧Agree S S'∧S3.next≤S'.next∧R136_0 l ti (l.drop k)=R136_0 l ti l)
  (fun x t S'=>(x=.exit 0∧∃ (k:Nat),t.get 0=some (v_l)∧t.get 5=some (.int .i64 ((r160 ti).1))∧Agree S S'∧S3.next≤S'.next∧k≤l.length∧R136_0 l ti l=.inr ())∨(x=.ret∧∃ (r4:Int),t.get 4=some (.int .i64 r4)∧Agree S S'∧R136_0 l ti l=.inl (r4))) (l.length - 0) ⟨0,by first|rfl|omega|(simp; omega)|simp,by first|rfl|omega|(simp; omega)|simp,by simp only [SY,setArgs,off,agreeKind,partVals,vals,allocV,boxed,ldA,rdCells,oneB,aggD,aField,aFieldV,aExtract,eq_self,ne_eq,if_true,if_false,not_false_eq_true,Nat.reduceAdd,Nat.reduceSub,Nat.reduceMul,Nat.reduceLT,Nat.reduceEqDiff,Nat.reduceBEq,reduceIte,Int.reduceEq,Int.reduceLT,Int.reduceLE,reduceCtorEq]<;>rfl,by simp only [SY,setArgs,off,agreeKind,partVals,vals,allocV,boxed,ldA,rdCells,oneB,aggD,aField,aFieldV,aExtract,eq_self,ne_eq,if_true,if_false,not_false_eq_true,Nat.reduceAdd,Nat.reduceSub,Nat.reduceMul,Nat.reduceLT,Nat.reduceEqDiff,Nat.reduceBEq,reduceIte,Int.reduceEq,Int.reduceLT,Int.reduceLE,reduceCtorEq]<;>rfl,by simp only [SY,setArgs,off,agreeKind,partVals,vals,allocV,boxed,ldA,rdCells,oneB,aggD,aField,aFieldV,aExtract,eq_self,ne_eq,if_true,if_false,not_false_eq_true,Nat.reduceAdd,Nat.reduceSub,Nat.reduceMul,Nat.reduceLT,Nat.reduceEqDiff,Nat.reduceBEq,reduceIte,Int.reduceEq,Int.reduceLT,Int.reduceLE,reduceCtorEq]<;>rfl,by simp only [SY,setArgs,off,agreeKind,partVals,vals,allocV,boxed,ldA,rdCells,oneB,aggD,aField,aFieldV,aExtract,eq_self,ne_eq,if_true,if_false,not_false_eq_true,Nat.reduceAdd,Nat.reduceSub,Nat.reduceMul,Nat.reduceLT,Nat.reduceEqDiff,Nat.reduceBEq,reduceIte,Int.reduceEq,Int.reduceLT,Int.reduceLE,reduceCtorEq]<;>rfl,by simp only [SY,setArgs,off,agreeKind,partVals,vals,allocV,boxed,ldA,rdCells,oneB,aggD,aField,aFieldV,aExtract,eq_self,ne_eq,if_true,if_false,not_false_eq_true,Nat.reduceAdd,Nat.reduceSub,Nat.reduceMul,Nat.reduceLT,Nat.reduceEqDiff,Nat.reduceBEq,reduceIte,Int.reduceEq,Int.reduceLT,Int.reduceLE,reduceCtorEq]<;>rfl,by simp only [SY,setArgs,off,agreeKind,partVals,vals,allocV,boxed,ldA,rdCells,oneB,aggD,aField,aFieldV,aExtract,eq_self,ne_eq,if_true,if_false,not_false_eq_true,Nat.reduceAdd,Nat.reduceSub,Nat.reduceMul,Nat.reduceLT,Nat.reduceEqDiff,Nat.reduceBEq,reduceIte,Int.reduceEq,Int.reduceLT,Int.reduceLE,reduceCtorEq]<;>rfl,g3,Nat.le_refl _,rfl⟩ (by
   rintro m t S5 ⟨k,hi5_0,hi5_1,g5_0,g5_5,g5_6,g5_17,g5_18,g5_19,ga5,gn5,hd5⟩
   refine .run fun z he=>?_
   try simp (disch:=first|omega|assumption) only [E0_G,SY,setArgs,off,agreeKind,partVals,vals,allocV,boxed,ldA,rdCells,oneB,aggD,aField,aFieldV,aExtract,eq_self,ne_eq,if_true,if_false,not_false_eq_true,Nat.reduceAdd,Nat.reduceSub,Nat.reduceMul,Nat.reduceLT,Nat.reduceEqDiff,Nat.reduceBEq,reduceIte,Int.reduceEq,Int.reduceLT,Int.reduceLE,reduceCtorEq,TY_EvH4,g5_0,g5_5,g5_6,g5_17,g5_18,g5_19,w1,h2a,w4] at he
   rcases dP ((k:Int)<(l.length:Int)) with ⟨h6a,h6⟩|⟨h6a,h6⟩
   ·have hx5:l[k]?=some (l[k]'(by first|omega|simp; omega)):=List.getElem?_eq_getElem _
    generalize l[k]'_=x5 at hx5
    have eb8:=hb _ (List.mem_of_getElem? hx5)
    obtain ⟨id7,of7,cc7,ty7,wr7,ex7,i7,j7,l7,q7⟩:=(hv_l).at (P:=Tryz.prog) (t:=40) Tryz.underlying40 tz36 hx5
    have j7:=(ga5.2 id7 l7).trans j7
    have m7_0:cc7[of7]?=some (.int .i64 x5.lo):=q7 0 (show 0<2 by decide)
    have m7_1:cc7[of7+1]?=some (.int .i64 x5.hi):=q7 1 (show 1<2 by decide)
    obtain ⟨S9,e9,n9,b9,a9⟩:=push_open S5 (.cells [.int .i64 0,.int .i64 0] 36 0 true true)
    have v7_9:=(a9.2 id7 (by omega)).trans j7
    have g9:Agree S S9:=ga5.trans a9
    have s9:E0.same S5 S9=true:=symEnv_same a9
    obtain ⟨S10,k10,n10,b10,q10⟩:=st_at (o:=0) (c':=[.int .i64 x5.lo,.int .i64 x5.hi]) (v:=.agg #[.int .i64 x5.lo,.int .i64 x5.hi]) tz36 b9 rfl rfl (show 0+2≤2 by decide) rfl
    have v7_10:=(q10 id7 (by omega)).trans v7_9
    have g10:Agree S S10:=⟨by have:=(g9).1; omega,fun id hid=>(q10 id (by have:=(g9).1; omega)).trans ((g9).2 id hid)⟩
    try simp (disch:=first|omega|assumption) only [E0_G,SY,setArgs,off,agreeKind,partVals,vals,allocV,boxed,ldA,rdCells,oneB,aggD,aField,aFieldV,aExtract,eq_self,ne_eq,if_true,if_false,not_false_eq_true,Nat.reduceAdd,Nat.reduceSub,Nat.reduceMul,Nat.reduceLT,Nat.reduceEqDiff,Nat.reduceBEq,reduceIte,Int.reduceEq,Int.reduceLT,Int.reduceLE,reduceCtorEq,TY_EvH4,g5_0,g5_5,g5_6,g5_17,g5_18,g5_19,w1,h2a,w4,h6a,i7,j7,m7_0,m7_1,v7_9,s9,e9,b9,v7_10,k10,b10] at he
    rcases dP (((r160 ti).2)≤x5.hi) with ⟨h11a,h11⟩|⟨h11a,h11⟩
    ·have w12:IntKind.i64.wrap (((r160 ti).1)+(max ((r160 ti).2) x5.lo))=((r160 ti).1)+(max ((r160 ti).2) x5.lo):=by rw [IntWalk.i64_in]; omega
     try simp (disch:=first|omega|assumption) only [E0_G,SY,setArgs,off,agreeKind,partVals,vals,allocV,boxed,ldA,rdCells,oneB,aggD,aField,aFieldV,aExtract,eq_self,ne_eq,if_true,if_false,not_false_eq_true,Nat.reduceAdd,Nat.reduceSub,Nat.reduceMul,Nat.reduceLT,Nat.reduceEqDiff,Nat.reduceBEq,reduceIte,Int.reduceEq,Int.reduceLT,Int.reduceLE,reduceCtorEq,TY_EvH4,g5_0,g5_5,g5_6,g5_17,g5_18,g5_19,w1,h2a,w4,h6a,i7,j7,m7_0,m7_1,v7_9,s9,e9,b9,v7_10,k10,b10,h11a,w12] at he
     rw [drop_cons' hx5] at hd5
     have hf:=(show _=(.inl (((r160 ti).1)+(max ((r160 ti).2) x5.lo)):Sum (Int) (Unit)) from (if_pos h11).trans (rfl)).symm.trans hd5
     exact .ret he (.inr ⟨rfl,⟨((r160 ti).1)+(max ((r160 ti).2) x5.lo),(by simp only [SY,setArgs,off,agreeKind,partVals,vals,allocV,boxed,ldA,rdCells,oneB,aggD,aField,aFieldV,aExtract,eq_self,ne_eq,if_true,if_false,not_false_eq_true,Nat.reduceAdd,Nat.reduceSub,Nat.reduceMul,Nat.reduceLT,Nat.reduceEqDiff,Nat.reduceBEq,reduceIte,Int.reduceEq,Int.reduceLT,Int.reduceLE,reduceCtorEq,g5_0,g5_5,g5_6,g5_17,g5_18,g5_19]<;>rfl),g10,hf.symm⟩⟩)
    have w13:IntKind.i64.wrap ((k:Int)+1)=((k+1:Nat):Int):=by rw [IntWalk.i64_in]<;>omega
    try simp (disch:=first|omega|assumption) only [E0_G,SY,setArgs,off,agreeKind,partVals,vals,allocV,boxed,ldA,rdCells,oneB,aggD,aField,aFieldV,aExtract,eq_self,ne_eq,if_true,if_false,not_false_eq_true,Nat.reduceAdd,Nat.reduceSub,Nat.reduceMul,Nat.reduceLT,Nat.reduceEqDiff,Nat.reduceBEq,reduceIte,Int.reduceEq,Int.reduceLT,Int.reduceLE,reduceCtorEq,TY_EvH4,g5_0,g5_5,g5_6,g5_17,g5_18,g5_19,w1,h2a,w4,h6a,i7,j7,m7_0,m7_1,v7_9,s9,e9,b9,v7_10,k10,b10,h11a,w13] at he
    rw [drop_cons' hx5] at hd5
    have hf:=(show _=(R136_0 l ti (l.drop (k+1)):Sum (Int) (Unit)) from (if_neg h11).trans (rfl)).symm.trans hd5
    exact .next he (m - 1) (by omega) ⟨(k+1),by first|omega|(simp; omega)|simp,by first|omega|(simp; omega)|simp,(by simp only [SY,setArgs,off,agreeKind,partVals,vals,allocV,boxed,ldA,rdCells,oneB,aggD,aField,aFieldV,aExtract,eq_self,ne_eq,if_true,if_false,not_false_eq_true,Nat.reduceAdd,Nat.reduceSub,Nat.reduceMul,Nat.reduceLT,Nat.reduceEqDiff,Nat.reduceBEq,reduceIte,Int.reduceEq,Int.reduceLT,Int.reduceLE,reduceCtorEq,g5_0,g5_5,g5_6,g5_17,g5_18,g5_19]<;>rfl),(by simp only [SY,setArgs,off,agreeKind,partVals,vals,allocV,boxed,ldA,rdCells,oneB,aggD,aField,aFieldV,aExtract,eq_self,ne_eq,if_true,if_false,not_false_eq_true,Nat.reduceAdd,Nat.reduceSub,Nat.reduceMul,Nat.reduceLT,Nat.reduceEqDiff,Nat.reduceBEq,reduceIte,Int.reduceEq,Int.reduceLT,Int.reduceLE,reduceCtorEq,g5_0,g5_5,g5_6,g5_17,g5_18,g5_19]<;>rfl),(by simp only [SY,setArgs,off,agreeKind,partVals,vals,allocV,boxed,ldA,rdCells,oneB,aggD,aField,aFieldV,aExtract,eq_self,ne_eq,if_true,if_false,not_false_eq_true,Nat.reduceAdd,Nat.reduceSub,Nat.reduceMul,Nat.reduceLT,Nat.reduceEqDiff,Nat.reduceBEq,reduceIte,Int.reduceEq,Int.reduceLT,Int.reduceLE,reduceCtorEq,g5_0,g5_5,g5_6,g5_17,g5_18,g5_19]<;>rfl),(by simp only [SY,setArgs,off,agreeKind,partVals,vals,allocV,boxed,ldA,rdCells,oneB,aggD,aField,aFieldV,aExtract,eq_self,ne_eq,if_true,if_false,not_false_eq_true,Nat.reduceAdd,Nat.reduceSub,Nat.reduceMul,Nat.reduceLT,Nat.reduceEqDiff,Nat.reduceBEq,reduceIte,Int.reduceEq,Int.reduceLT,Int.reduceLE,reduceCtorEq,g5_0,g5_5,g5_6,g5_17,g5_18,g5_19]<;>rfl),(by simp only [SY,setArgs,off,agreeKind,partVals,vals,allocV,boxed,ldA,rdCells,oneB,aggD,aField,aFieldV,aExtract,eq_self,ne_eq,if_true,if_false,not_false_eq_true,Nat.reduceAdd,Nat.reduceSub,Nat.reduceMul,Nat.reduceLT,Nat.reduceEqDiff,Nat.reduceBEq,reduceIte,Int.reduceEq,Int.reduceLT,Int.reduceLE,reduceCtorEq,g5_0,g5_5,g5_6,g5_17,g5_18,g5_19]<;>rfl),(by simp only [SY,setArgs,off,agreeKind,partVals,vals,allocV,boxed,ldA,rdCells,oneB,aggD,aField,aFieldV,aExtract,eq_self,ne_eq,if_true,if_false,not_false_eq_true,Nat.reduceAdd,Nat.reduceSub,Nat.reduceMul,Nat.reduceLT,Nat.reduceEqDiff,Nat.reduceBEq,reduceIte,Int.reduceEq,Int.reduceLT,Int.reduceLE,reduceCtorEq,g5_0,g5_5,g5_6,g5_17,g5_18,g5_19]<;>rfl),g10,by omega,hf⟩
   try simp (disch:=first|omega|assumption) only [E0_G,SY,setArgs,off,agreeKind,partVals,vals,allocV,boxed,ldA,rdCells,oneB,aggD,aField,aFieldV,aExtract,eq_self,ne_eq,if_true,if_false,not_false_eq_true,Nat.reduceAdd,Nat.reduceSub,Nat.reduceMul,Nat.reduceLT,Nat.reduceEqDiff,Nat.reduceBEq,reduceIte,Int.reduceEq,Int.reduceLT,Int.reduceLE,reduceCtorEq,TY_EvH4,g5_0,g5_5,g5_6,g5_17,g5_18,g5_19,w1,h2a,w4,h6a] at he
   rw [List.drop_eq_nil_of_le (show l.length≤k by omega)] at hd5
   have hf:=(show _=(.inr ():Sum (Int) (Unit)) from rfl).symm.trans hd5
   exact .exit he (.inl ⟨rfl,⟨k,(by simp only [SY,setArgs,off,agreeKind,partVals,vals,allocV,boxed,ldA,rdCells,oneB,aggD,aField,aFieldV,aExtract,eq_self,ne_eq,if_true,if_false,not_false_eq_true,Nat.reduceAdd,Nat.reduceSub,Nat.reduceMul,Nat.reduceLT,Nat.reduceEqDiff,Nat.reduceBEq,reduceIte,Int.reduceEq,Int.reduceLT,Int.reduceLE,reduceCtorEq,g5_0,g5_5,g5_6,g5_17,g5_18,g5_19]<;>rfl),(by simp only [SY,setArgs,off,agreeKind,partVals,vals,allocV,boxed,ldA,rdCells,oneB,aggD,aField,aFieldV,aExtract,eq_self,ne_eq,if_true,if_false,not_false_eq_true,Nat.reduceAdd,Nat.reduceSub,Nat.reduceMul,Nat.reduceLT,Nat.reduceEqDiff,Nat.reduceBEq,reduceIte,Int.reduceEq,Int.reduceLT,Int.reduceLE,reduceCtorEq,g5_0,g5_5,g5_6,g5_17,g5_18,g5_19]<;>rfl),ga5,by omega,by first|omega|assumption|simp,hf.symm⟩⟩))
 rcases hQ5 with ⟨rfl,hQ5⟩|⟨rfl,hQ5⟩
 ·obtain ⟨k,ge5_0,ge5_5,ge5,gm5,hj5_0,hR5⟩:=hQ5
  have w15:IntKind.i64.wrap (((r160 ti).1)+86400)=((r160 ti).1)+86400:=by rw [IntWalk.i64_in]; omega
  have hx16:l[0]?=some (lget l 0):=lget_some (by first|omega|simp; omega)
  have eb17:=hb _ (List.mem_of_getElem? hx16)
  obtain ⟨id16,of16,cc16,ty16,wr16,ex16,i16,j16,l16,q16⟩:=(hv_l).at (P:=Tryz.prog) (t:=40) Tryz.underlying40 tz36 hx16
  have j16:=(ge5.2 id16 l16).trans j16
  have m16_0:cc16[of16]?=some (.int .i64 ((lget l 0).lo)):=q16 0 (show 0<2 by decide)
  have m16_1:cc16[of16+1]?=some (.int .i64 ((lget l 0).hi)):=q16 1 (show 1<2 by decide)
  have i16:aIndexAddr Tryz.prog 40 v_l (.int .i64 0)=_:=i16
  have w18:IntKind.i64.wrap ((((r160 ti).1)+86400)+((lget l 0).lo))=(((r160 ti).1)+86400)+((lget l 0).lo):=by rw [IntWalk.i64_in]; omega
  try simp (disch:=first|omega|assumption) only [E0_G,SY,setArgs,off,agreeKind,partVals,vals,allocV,boxed,ldA,rdCells,oneB,aggD,aField,aFieldV,aExtract,eq_self,ne_eq,if_true,if_false,not_false_eq_true,Nat.reduceAdd,Nat.reduceSub,Nat.reduceMul,Nat.reduceLT,Nat.reduceEqDiff,Nat.reduceBEq,reduceIte,Int.reduceEq,Int.reduceLT,Int.reduceLE,reduceCtorEq,TY_EvH4,w1,h2a,w4,ge5_0,ge5_5,w15,i16,j16,m16_0,m16_1,w18] at hz
  have hr:r136 l ti=(((r160 ti).1)+86400)+((lget l 0).lo):=(if_neg h2).trans ((onSum_inr hR5).trans (rfl))
  exact fin hz (by rw [hr]) ge5
 obtain ⟨r4,ge5_4,ge5,hR5⟩:=hQ5
 try simp (disch:=first|omega|assumption) only [E0_G,SY,setArgs,off,agreeKind,partVals,vals,allocV,boxed,ldA,rdCells,oneB,aggD,aField,aFieldV,aExtract,eq_self,ne_eq,if_true,if_false,not_false_eq_true,Nat.reduceAdd,Nat.reduceSub,Nat.reduceMul,Nat.reduceLT,Nat.reduceEqDiff,Nat.reduceBEq,reduceIte,Int.reduceEq,Int.reduceLT,Int.reduceLE,reduceCtorEq,TY_EvH4,w1,h2a,w4,ge5_4] at hz
 have hr:r136 l ti=r4:=(if_neg h2).trans ((onSum_inl hR5).trans (rfl))
 exact fin hz (by rw [hr]) ge5
theorem R136_ge (l:List Sp) (t:Int) (ht:0≤t):∀ (m:List Sp) (r:Int),Bd 86399 m→R136_0 l t m=.inl r→t≤r∧r≤(r160 t).1+86399:=by
 intro m
 have hq:=r160_ok ht
 induction m with
 | nil=>intro r _ e; cases e
 | cons x m ih =>
  intro r hb e
  have hx:=hb x (by simp)
  unfold R136_0 at e
  split at e
  ·simp only [Sum.inl.injEq] at e
   subst e
   omega
  ·exact ih r (fun y hy=>hb y (by simp [hy])) e
theorem r136_ge {l:List Sp} {t:Int} (ht:0≤t∧t≤1073741823) (hb:Bd 86399 l):t≤r136 l t∧r136 l t≤1073914623:=by
 have hq:=r160_ok ht.1
 unfold r136
 split
 ·omega
 ·rename_i h0
  cases e:R136_0 l t l with
  | inl r=>have:=R136_ge l t ht.1 l r hb e; unfold onSum; simp only; omega
  | inr u =>
   have hx:=hb (lget l 0) (List.mem_of_getElem? (lget_some (by omega)))
   unfold onSum
   simp only
   omega
def R137_0 (l:List Sp) (ti:Int)  : List Sp→Sum (Int × Int × Bool) (Unit)
 | []=>.inr ()
 | x3 :: l'=>(if (r133 x3.lo x3.hi ti)=true then .inl (x3.lo,x3.hi,true) else R137_0 l ti l')
def r137 (l:List Sp) (ti:Int):(Int × Int) × Bool:=(onSum (R137_0 l ti l) (fun (r4_0,r4_1,r5)=>((r4_0,r4_1),r5)) (fun _=>((0,0),false)))
set_option maxHeartbeats 2000000 in
theorem c137 (l:List Sp) (ti:Int) (hl:l.length≤12) (S:AS) (v_l:Value) (hv_l:Lst S v_l l) :
  ∃ S',(evL Tryz.prog E0).call 137 #[v_l,.int .i64 ti] S=some (.tuple #[.agg #[.int .i64 ((r137 l ti).1.1),.int .i64 ((r137 l ti).1.2)],.bool (r137 l ti).2],S')∧Agree S S':=by
 generalize hz:(evL Tryz.prog E0).call 137 _ _=z
 rw [L_call,evCall_said rfl Tryz.func137 rfl (by decide) Tryz.ntmps137 Tryz.results137] at hz
 obtain ⟨S1,e1,n1,b1,a1⟩:=push_open S (.cells [.int .i64 0,.int .i64 0] 36 0 true true)
 have g1:Agree S S1:=a1
 have s1:E0.same S S1=true:=symEnv_same a1
 have w2:=(hv_l.agree g1).len (P:=Tryz.prog) (t:=40) Tryz.underlying40
 try simp (disch:=first|omega|assumption) only [E0_G,SY,setArgs,off,agreeKind,partVals,vals,allocV,boxed,ldA,rdCells,oneB,aggD,aField,aFieldV,aExtract,eq_self,ne_eq,if_true,if_false,not_false_eq_true,Nat.reduceAdd,Nat.reduceSub,Nat.reduceMul,Nat.reduceLT,Nat.reduceEqDiff,Nat.reduceBEq,reduceIte,Int.reduceEq,Int.reduceLT,Int.reduceLE,reduceCtorEq,TY_EvH4,s1,e1,b1,w2] at hz
 generalize hL3:Rec.loop _ _ _ _=L3 at hz
 obtain ⟨x3,t3,S3e,rfl,hQ3⟩:=loop_met hL3 (fun m t S'=>∃ (k:Nat),m+k=l.length∧k≤l.length∧t.get 1=some (.int .i64 ti)∧t.get 4=some (.pointer (some ⟨S.next,0,none⟩))∧t.get 8=some (v_l)∧t.get 9=some (.int .i64 (l.length:Int))∧t.get 10=some (.int .i64 (k:Int))∧S'.heap.get S.next=some (.cells [.int .i64 0,.int .i64 0] 36 0 true true)∧Agree S S'∧S1.next≤S'.next∧R137_0 l ti (l.drop k)=R137_0 l ti l)
  (fun x t S'=>(x=.exit 0∧∃ (k:Nat),t.get 4=some (.pointer (some ⟨S.next,0,none⟩))∧S'.heap.get S.next=some (.cells [.int .i64 0,.int .i64 0] 36 0 true true)∧Agree S S'∧S1.next≤S'.next∧k≤l.length∧R137_0 l ti l=.inr ())∨(x=.ret∧∃ (r4_0:Int) (r4_1:Int) (r5:Bool),t.get 5=some (.bool r5)∧t.get 4=some (.pointer (some ⟨S.next,0,none⟩))∧S'.heap.get S.next=some (.cells [.int .i64 r4_0,.int .i64 r4_1] 36 0 true true)∧Agree S S'∧R137_0 l ti l=.inl (r4_0,r4_1,r5))) (l.length - 0) ⟨0,by first|rfl|omega|(simp; omega)|simp,by first|rfl|omega|(simp; omega)|simp,by simp only [SY,setArgs,off,agreeKind,partVals,vals,allocV,boxed,ldA,rdCells,oneB,aggD,aField,aFieldV,aExtract,eq_self,ne_eq,if_true,if_false,not_false_eq_true,Nat.reduceAdd,Nat.reduceSub,Nat.reduceMul,Nat.reduceLT,Nat.reduceEqDiff,Nat.reduceBEq,reduceIte,Int.reduceEq,Int.reduceLT,Int.reduceLE,reduceCtorEq]<;>rfl,by simp only [SY,setArgs,off,agreeKind,partVals,vals,allocV,boxed,ldA,rdCells,oneB,aggD,aField,aFieldV,aExtract,eq_self,ne_eq,if_true,if_false,not_false_eq_true,Nat.reduceAdd,Nat.reduceSub,Nat.reduceMul,Nat.reduceLT,Nat.reduceEqDiff,Nat.reduceBEq,reduceIte,Int.reduceEq,Int.reduceLT,Int.reduceLE,reduceCtorEq]<;>rfl,by simp only [SY,setArgs,off,agreeKind,partVals,vals,allocV,boxed,ldA,rdCells,oneB,aggD,aField,aFieldV,aExtract,eq_self,ne_eq,if_true,if_false,not_false_eq_true,Nat.reduceAdd,Nat.reduceSub,Nat.reduceMul,Nat.reduceLT,Nat.reduceEqDiff,Nat.reduceBEq,reduceIte,Int.reduceEq,Int.reduceLT,Int.reduceLE,reduceCtorEq]<;>rfl,by simp only [SY,setArgs,off,agreeKind,partVals,vals,allocV,boxed,ldA,rdCells,oneB,aggD,aField,aFieldV,aExtract,eq_self,ne_eq,if_true,if_false,not_false_eq_true,Nat.reduceAdd,Nat.reduceSub,Nat.reduceMul,Nat.reduceLT,Nat.reduceEqDiff,Nat.reduceBEq,reduceIte,Int.reduceEq,Int.reduceLT,Int.reduceLE,reduceCtorEq]<;>rfl,by simp only [SY,setArgs,off,agreeKind,partVals,vals,allocV,boxed,ldA,rdCells,oneB,aggD,aField,aFieldV,aExtract,eq_self,ne_eq,if_true,if_false,not_false_eq_true,Nat.reduceAdd,Nat.reduceSub,Nat.reduceMul,Nat.reduceLT,Nat.reduceEqDiff,Nat.reduceBEq,reduceIte,Int.reduceEq,Int.reduceLT,Int.reduceLE,reduceCtorEq]<;>rfl,b1,g1,Nat.le_refl _,rfl⟩ (by
   rintro m t S3 ⟨k,hi3_0,hi3_1,g3_1,g3_4,g3_8,g3_9,g3_10,bb3_1,ga3,gn3,hd3⟩
   refine .run fun z he=>?_
   try simp (disch:=first|omega|assumption) only [E0_G,SY,setArgs,off,agreeKind,partVals,vals,allocV,boxed,ldA,rdCells,oneB,aggD,aField,aFieldV,aExtract,eq_self,ne_eq,if_true,if_false,not_false_eq_true,Nat.reduceAdd,Nat.reduceSub,Nat.reduceMul,Nat.reduceLT,Nat.reduceEqDiff,Nat.reduceBEq,reduceIte,Int.reduceEq,Int.reduceLT,Int.reduceLE,reduceCtorEq,TY_EvH4,g3_1,g3_4,g3_8,g3_9,g3_10,bb3_1,w2] at he
   rcases dP ((k:Int)<(l.length:Int)) with ⟨h4a,h4⟩|⟨h4a,h4⟩
   ·have hx3:l[k]?=some (l[k]'(by first|omega|simp; omega)):=List.getElem?_eq_getElem _
    generalize l[k]'_=x3 at hx3
    obtain ⟨id5,of5,cc5,ty5,wr5,ex5,i5,j5,l5,q5⟩:=(hv_l).at (P:=Tryz.prog) (t:=40) Tryz.underlying40 tz36 hx3
    have j5:=(ga3.2 id5 l5).trans j5
    have m5_0:cc5[of5]?=some (.int .i64 x3.lo):=q5 0 (show 0<2 by decide)
    have m5_1:cc5[of5+1]?=some (.int .i64 x3.hi):=q5 1 (show 1<2 by decide)
    obtain ⟨S6,e6,n6,b6,a6⟩:=push_open S3 (.cells [.int .i64 0,.int .i64 0] 36 0 true true)
    have v1_6:=(a6.2 S.next (by omega)).trans bb3_1
    have v5_6:=(a6.2 id5 (by omega)).trans j5
    have g6:Agree S S6:=ga3.trans a6
    have s6:E0.same S3 S6=true:=symEnv_same a6
    obtain ⟨S7,k7,n7,b7,q7⟩:=st_at (o:=0) (c':=[.int .i64 x3.lo,.int .i64 x3.hi]) (v:=.agg #[.int .i64 x3.lo,.int .i64 x3.hi]) tz36 b6 rfl rfl (show 0+2≤2 by decide) rfl
    have v1_7:=(q7 S.next (by omega)).trans v1_6
    have v5_7:=(q7 id5 (by omega)).trans v5_6
    have g7:Agree S S7:=⟨by have:=(g6).1; omega,fun id hid=>(q7 id (by have:=(g6).1; omega)).trans ((g6).2 id hid)⟩
    obtain ⟨S8,k8,a8⟩:=c133 x3.lo x3.hi ti  S7
    have l8:=a8.1
    have s8:E0.same S7 S8=true:=symEnv_same a8
    have v1_8:=(a8.2 S.next (by omega)).trans v1_7
    have v5_8:=(a8.2 id5 (by omega)).trans v5_7
    have v6_8:=(a8.2 S3.next (by omega)).trans b7
    have g8:Agree S S8:=g7.trans a8
    try simp (disch:=first|omega|assumption) only [E0_G,SY,setArgs,off,agreeKind,partVals,vals,allocV,boxed,ldA,rdCells,oneB,aggD,aField,aFieldV,aExtract,eq_self,ne_eq,if_true,if_false,not_false_eq_true,Nat.reduceAdd,Nat.reduceSub,Nat.reduceMul,Nat.reduceLT,Nat.reduceEqDiff,Nat.reduceBEq,reduceIte,Int.reduceEq,Int.reduceLT,Int.reduceLE,reduceCtorEq,TY_EvH4,g3_1,g3_4,g3_8,g3_9,g3_10,bb3_1,w2,h4a,i5,j5,m5_0,m5_1,v1_6,v5_6,s6,e6,b6,v1_7,v5_7,k7,b7,k8,s8,v1_8,v5_8,v6_8] at he
    rcases dB ((r133 x3.lo x3.hi ti)) with ⟨h9a,h9⟩|⟨h9a,h9⟩
    ·have lq10:=r133_iff.1 h9
     obtain ⟨S11,k11,n11,b11,q11⟩:=st_at (o:=0) (c':=[.int .i64 x3.lo,.int .i64 x3.hi]) (v:=.agg #[.int .i64 x3.lo,.int .i64 x3.hi]) tz36 v1_8 rfl rfl (show 0+2≤2 by decide) rfl
     have v5_11:=(q11 id5 (by omega)).trans v5_8
     have v6_11:=(q11 S3.next (by omega)).trans v6_8
     have g11:Agree S S11:=⟨by have:=(g8).1; omega,fun id hid=>(q11 id (by have:=(g8).1; omega)).trans ((g8).2 id hid)⟩
     try simp (disch:=first|omega|assumption) only [E0_G,SY,setArgs,off,agreeKind,partVals,vals,allocV,boxed,ldA,rdCells,oneB,aggD,aField,aFieldV,aExtract,eq_self,ne_eq,if_true,if_false,not_false_eq_true,Nat.reduceAdd,Nat.reduceSub,Nat.reduceMul,Nat.reduceLT,Nat.reduceEqDiff,Nat.reduceBEq,reduceIte,Int.reduceEq,Int.reduceLT,Int.reduceLE,reduceCtorEq,TY_EvH4,g3_1,g3_4,g3_8,g3_9,g3_10,bb3_1,w2,h4a,i5,j5,m5_0,m5_1,v1_6,v5_6,s6,e6,b6,v1_7,v5_7,k7,b7,k8,s8,v1_8,v5_8,v6_8,h9a,v5_11,v6_11,k11,b11] at he
     rw [drop_cons' hx3] at hd3
     have hf:=(show _=(.inl (x3.lo,x3.hi,true):Sum (Int × Int × Bool) (Unit)) from (if_pos h9).trans (rfl)).symm.trans hd3
     exact .ret he (.inr ⟨rfl,⟨x3.lo,x3.hi,true,(by simp only [SY,setArgs,off,agreeKind,partVals,vals,allocV,boxed,ldA,rdCells,oneB,aggD,aField,aFieldV,aExtract,eq_self,ne_eq,if_true,if_false,not_false_eq_true,Nat.reduceAdd,Nat.reduceSub,Nat.reduceMul,Nat.reduceLT,Nat.reduceEqDiff,Nat.reduceBEq,reduceIte,Int.reduceEq,Int.reduceLT,Int.reduceLE,reduceCtorEq,g3_1,g3_4,g3_8,g3_9,g3_10]<;>rfl),(by simp only [SY,setArgs,off,agreeKind,partVals,vals,allocV,boxed,ldA,rdCells,oneB,aggD,aField,aFieldV,aExtract,eq_self,ne_eq,if_true,if_false,not_false_eq_true,Nat.reduceAdd,Nat.reduceSub,Nat.reduceMul,Nat.reduceLT,Nat.reduceEqDiff,Nat.reduceBEq,reduceIte,Int.reduceEq,Int.reduceLT,Int.reduceLE,reduceCtorEq,g3_1,g3_4,g3_8,g3_9,g3_10]<;>rfl),b11,g11,hf.symm⟩⟩)
    have w12:IntKind.i64.wrap ((k:Int)+1)=((k+1:Nat):Int):=by rw [IntWalk.i64_in]<;>omega
    try simp (disch:=first|omega|assumption) only [E0_G,SY,setArgs,off,agreeKind,partVals,vals,allocV,boxed,ldA,rdCells,oneB,aggD,aField,aFieldV,aExtract,eq_self,ne_eq,if_true,if_false,not_false_eq_true,Nat.reduceAdd,Nat.reduceSub,Nat.reduceMul,Nat.reduceLT,Nat.reduceEqDiff,Nat.reduceBEq,reduceIte,Int.reduceEq,Int.reduceLT,Int.reduceLE,reduceCtorEq,TY_EvH4,g3_1,g3_4,g3_8,g3_9,g3_10,bb3_1,w2,h4a,i5,j5,m5_0,m5_1,v1_6,v5_6,s6,e6,b6,v1_7,v5_7,k7,b7,k8,s8,v1_8,v5_8,v6_8,h9a,w12] at he
    rw [drop_cons' hx3] at hd3
    have hf:=(show _=(R137_0 l ti (l.drop (k+1)):Sum (Int × Int × Bool) (Unit)) from (if_neg h9).trans (rfl)).symm.trans hd3
    exact .next he (m - 1) (by omega) ⟨(k+1),by first|omega|(simp; omega)|simp,by first|omega|(simp; omega)|simp,(by simp only [SY,setArgs,off,agreeKind,partVals,vals,allocV,boxed,ldA,rdCells,oneB,aggD,aField,aFieldV,aExtract,eq_self,ne_eq,if_true,if_false,not_false_eq_true,Nat.reduceAdd,Nat.reduceSub,Nat.reduceMul,Nat.reduceLT,Nat.reduceEqDiff,Nat.reduceBEq,reduceIte,Int.reduceEq,Int.reduceLT,Int.reduceLE,reduceCtorEq,g3_1,g3_4,g3_8,g3_9,g3_10]<;>rfl),(by simp only [SY,setArgs,off,agreeKind,partVals,vals,allocV,boxed,ldA,rdCells,oneB,aggD,aField,aFieldV,aExtract,eq_self,ne_eq,if_true,if_false,not_false_eq_true,Nat.reduceAdd,Nat.reduceSub,Nat.reduceMul,Nat.reduceLT,Nat.reduceEqDiff,Nat.reduceBEq,reduceIte,Int.reduceEq,Int.reduceLT,Int.reduceLE,reduceCtorEq,g3_1,g3_4,g3_8,g3_9,g3_10]<;>rfl),(by simp only [SY,setArgs,off,agreeKind,partVals,vals,allocV,boxed,ldA,rdCells,oneB,aggD,aField,aFieldV,aExtract,eq_self,ne_eq,if_true,if_false,not_false_eq_true,Nat.reduceAdd,Nat.reduceSub,Nat.reduceMul,Nat.reduceLT,Nat.reduceEqDiff,Nat.reduceBEq,reduceIte,Int.reduceEq,Int.reduceLT,Int.reduceLE,reduceCtorEq,g3_1,g3_4,g3_8,g3_9,g3_10]<;>rfl),(by simp only [SY,setArgs,off,agreeKind,partVals,vals,allocV,boxed,ldA,rdCells,oneB,aggD,aField,aFieldV,aExtract,eq_self,ne_eq,if_true,if_false,not_false_eq_true,Nat.reduceAdd,Nat.reduceSub,Nat.reduceMul,Nat.reduceLT,Nat.reduceEqDiff,Nat.reduceBEq,reduceIte,Int.reduceEq,Int.reduceLT,Int.reduceLE,reduceCtorEq,g3_1,g3_4,g3_8,g3_9,g3_10]<;>rfl),(by simp only [SY,setArgs,off,agreeKind,partVals,vals,allocV,boxed,ldA,rdCells,oneB,aggD,aField,aFieldV,aExtract,eq_self,ne_eq,if_true,if_false,not_false_eq_true,Nat.reduceAdd,Nat.reduceSub,Nat.reduceMul,Nat.reduceLT,Nat.reduceEqDiff,Nat.reduceBEq,reduceIte,Int.reduceEq,Int.reduceLT,Int.reduceLE,reduceCtorEq,g3_1,g3_4,g3_8,g3_9,g3_10]<;>rfl),v1_8,g8,by omega,hf⟩
   try simp (disch:=first|omega|assumption) only [E0_G,SY,setArgs,off,agreeKind,partVals,vals,allocV,boxed,ldA,rdCells,oneB,aggD,aField,aFieldV,aExtract,eq_self,ne_eq,if_true,if_false,not_false_eq_true,Nat.reduceAdd,Nat.reduceSub,Nat.reduceMul,Nat.reduceLT,Nat.reduceEqDiff,Nat.reduceBEq,reduceIte,Int.reduceEq,Int.reduceLT,Int.reduceLE,reduceCtorEq,TY_EvH4,g3_1,g3_4,g3_8,g3_9,g3_10,bb3_1,w2,h4a] at he
   rw [List.drop_eq_nil_of_le (show l.length≤k by omega)] at hd3
   have hf:=(show _=(.inr ():Sum (Int × Int × Bool) (Unit)) from rfl).symm.trans hd3
   exact .exit he (.inl ⟨rfl,⟨k,(by simp only [SY,setArgs,off,agreeKind,partVals,vals,allocV,boxed,ldA,rdCells,oneB,aggD,aField,aFieldV,aExtract,eq_self,ne_eq,if_true,if_false,not_false_eq_true,Nat.reduceAdd,Nat.reduceSub,Nat.reduceMul,Nat.reduceLT,Nat.reduceEqDiff,Nat.reduceBEq,reduceIte,Int.reduceEq,Int.reduceLT,Int.reduceLE,reduceCtorEq,g3_1,g3_4,g3_8,g3_9,g3_10]<;>rfl),bb3_1,ga3,by omega,by first|omega|assumption|simp,hf.symm⟩⟩))
 rcases hQ3 with ⟨rfl,hQ3⟩|⟨rfl,hQ3⟩
 ·obtain ⟨k,ge3_4,be3_1,ge3,gm3,hj3_0,hR3⟩:=hQ3
  have y14:aBuild Tryz.prog 36 []=some (.agg #[.int .i64 0,.int .i64 0]):=by kernel_rfl
  obtain ⟨S15,k15,n15,b15,q15⟩:=st_at (o:=0) (c':=[.int .i64 0,.int .i64 0]) (v:=.agg #[.int .i64 0,.int .i64 0]) tz36 be3_1 rfl rfl (show 0+2≤2 by decide) rfl
  have g15:Agree S S15:=⟨by have:=(ge3).1; omega,fun id hid=>(q15 id (by have:=(ge3).1; omega)).trans ((ge3).2 id hid)⟩
  try simp (disch:=first|omega|assumption) only [E0_G,SY,setArgs,off,agreeKind,partVals,vals,allocV,boxed,ldA,rdCells,oneB,aggD,aField,aFieldV,aExtract,eq_self,ne_eq,if_true,if_false,not_false_eq_true,Nat.reduceAdd,Nat.reduceSub,Nat.reduceMul,Nat.reduceLT,Nat.reduceEqDiff,Nat.reduceBEq,reduceIte,Int.reduceEq,Int.reduceLT,Int.reduceLE,reduceCtorEq,TY_EvH4,w2,ge3_4,be3_1,y14,k15,b15] at hz
  have hr:r137 l ti=((0,0),false):=(onSum_inr hR3).trans (rfl)
  exact fin hz (by rw [hr]) g15
 obtain ⟨r4_0,r4_1,r5,ge3_5,ge3_4,bc3_4,ge3,hR3⟩:=hQ3
 try simp (disch:=first|omega|assumption) only [E0_G,SY,setArgs,off,agreeKind,partVals,vals,allocV,boxed,ldA,rdCells,oneB,aggD,aField,aFieldV,aExtract,eq_self,ne_eq,if_true,if_false,not_false_eq_true,Nat.reduceAdd,Nat.reduceSub,Nat.reduceMul,Nat.reduceLT,Nat.reduceEqDiff,Nat.reduceBEq,reduceIte,Int.reduceEq,Int.reduceLT,Int.reduceLE,reduceCtorEq,TY_EvH4,w2,ge3_5,ge3_4,bc3_4] at hz
 have hr:r137 l ti=((r4_0,r4_1),r5):=(onSum_inl hR3).trans (rfl)
 exact fin hz (by rw [hr]) ge3
end House
end Go.Proofs
