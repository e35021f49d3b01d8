import Derived.Test.YtpaipdipkgnpdaaGreatBF
import Derived.Test.YtpaipdipkgnpdaaGreatAevBw
section
set_option linter.unusedSimpArgs false
set_option linter.unusedVariables false
namespace Go.Proofs
namespace Clock
open Go Go.RowKit Go.Aev
set_option maxRecDepth 100000
theorem tz34:szOf Tryz.prog 34=some 1:=by kernel_rfl
theorem tt34:inTab Tryz.prog 34=true:=by kernel_rfl
theorem t0_34:zeroOf Tryz.prog 34=some (.int .i64 0):=by kernel_rfl
theorem TY_EvW4:type_of% (And.intro (And.intro (And.intro (And.intro (And.intro (And.intro (And.intro Tryz.underlying3 tz3) (And.intro tt3 t0_3)) (And.intro (And.intro Tryz.underlying22 tz22) (And.intro tt22 t0_22))) (And.intro (And.intro (And.intro Tryz.underlying23 tz23) (And.intro tt23 t0_23)) (And.intro (And.intro Tryz.underlying24 tz24) (And.intro tt24 t0_24)))) (And.intro (And.intro (And.intro (And.intro Tryz.underlying25 tz25) (And.intro tt25 t0_25)) (And.intro (And.intro Tryz.underlying26 tz26) (And.intro tt26 t0_26))) (And.intro (And.intro (And.intro Tryz.underlying27 tz27) (And.intro tt27 t0_27)) (And.intro (And.intro Tryz.underlying28 tz28) (And.intro tt28 t0_28))))) (And.intro (And.intro (And.intro (And.intro (And.intro Tryz.underlying29 tz29) (And.intro tt29 t0_29)) (And.intro (And.intro Tryz.underlying30 tz30) (And.intro tt30 t0_30))) (And.intro (And.intro (And.intro Tryz.underlying31 tz31) (And.intro tt31 t0_31)) (And.intro (And.intro Tryz.underlying34 tz34) (And.intro tt34 t0_34)))) (And.intro (And.intro (And.intro (And.intro Tryz.underlying36 tz36) (And.intro tt36 t0_36)) (And.intro (And.intro Tryz.underlying39 tz39) (And.intro tt39 t0_39))) (And.intro (And.intro (And.intro Tryz.underlying54 tz54) (And.intro tt54 t0_54)) (And.intro (And.intro Tryz.underlying92 tz92) (And.intro tt92 t0_92)))))) (And.intro (And.intro (And.intro (And.intro (And.intro (And.intro Tryz.underlying93 tz93) (And.intro tt93 t0_93)) (And.intro (And.intro Tryz.underlying94 tz94) (And.intro tt94 t0_94))) (And.intro (And.intro (And.intro Tryz.underlying103 tz103) (And.intro tt103 t0_103)) (And.intro (And.intro Tryz.underlying104 tz104) (And.intro tt104 t0_104)))) (And.intro (And.intro (And.intro (And.intro Tryz.underlying106 tz106) (And.intro tt106 t0_106)) (And.intro (And.intro Tryz.underlying107 tz107) (And.intro tt107 t0_107))) (And.intro (And.intro (And.intro Tryz.underlying111 tz111) (And.intro tt111 t0_111)) (And.intro (And.intro Tryz.underlying112 tz112) (And.intro tt112 t0_112))))) (And.intro (And.intro (And.intro (And.intro (And.intro Tryz.underlying114 tz114) (And.intro tt114 t0_114)) (And.intro (And.intro Tryz.underlying115 tz115) (And.intro tt115 t0_115))) (And.intro (And.intro (And.intro Tryz.underlying116 tz116) (And.intro tt116 t0_116)) (And.intro (And.intro Tryz.underlying117 tz117) (And.intro tt117 t0_117)))) (And.intro (And.intro (And.intro (And.intro Tryz.underlying130 tz130) (And.intro tt130 t0_130)) (And.intro (And.intro Tryz.underlying131 tz131) (And.intro tt131 t0_131))) (And.intro (And.intro (And.intro Tryz.underlying164 tz164) (And.intro tt164 t0_164)) (And.intro (And.intro Tryz.underlying165 tz165) (And.intro tt165 t0_165))))))):=(And.intro (And.intro (And.intro (And.intro (And.intro (And.intro (And.intro Tryz.underlying3 tz3) (And.intro tt3 t0_3)) (And.intro (And.intro Tryz.underlying22 tz22) (And.intro tt22 t0_22))) (And.intro (And.intro (And.intro Tryz.underlying23 tz23) (And.intro tt23 t0_23)) (And.intro (And.intro Tryz.underlying24 tz24) (And.intro tt24 t0_24)))) (And.intro (And.intro (And.intro (And.intro Tryz.underlying25 tz25) (And.intro tt25 t0_25)) (And.intro (And.intro Tryz.underlying26 tz26) (And.intro tt26 t0_26))) (And.intro (And.intro (And.intro Tryz.underlying27 tz27) (And.intro tt27 t0_27)) (And.intro (And.intro Tryz.underlying28 tz28) (And.intro tt28 t0_28))))) (And.intro (And.intro (And.intro (And.intro (And.intro Tryz.underlying29 tz29) (And.intro tt29 t0_29)) (And.intro (And.intro Tryz.underlying30 tz30) (And.intro tt30 t0_30))) (And.intro (And.intro (And.intro Tryz.underlying31 tz31) (And.intro tt31 t0_31)) (And.intro (And.intro Tryz.underlying34 tz34) (And.intro tt34 t0_34)))) (And.intro (And.intro (And.intro (And.intro Tryz.underlying36 tz36) (And.intro tt36 t0_36)) (And.intro (And.intro Tryz.underlying39 tz39) (And.intro tt39 t0_39))) (And.intro (And.intro (And.intro Tryz.underlying54 tz54) (And.intro tt54 t0_54)) (And.intro (And.intro Tryz.underlying92 tz92) (And.intro tt92 t0_92)))))) (And.intro (And.intro (And.intro (And.intro (And.intro (And.intro Tryz.underlying93 tz93) (And.intro tt93 t0_93)) (And.intro (And.intro Tryz.underlying94 tz94) (And.intro tt94 t0_94))) (And.intro (And.intro (And.intro Tryz.underlying103 tz103) (And.intro tt103 t0_103)) (And.intro (And.intro Tryz.underlying104 tz104) (And.intro tt104 t0_104)))) (And.intro (And.intro (And.intro (And.intro Tryz.underlying106 tz106) (And.intro tt106 t0_106)) (And.intro (And.intro Tryz.underlying107 tz107) (And.intro tt107 t0_107))) (And.intro (And.intro (And.intro Tryz.underlying111 tz111) (And.intro tt111 t0_111)) (And.intro (And.intro Tryz.underlying112 tz112) (And.intro tt112 t0_112))))) (And.intro (And.intro (And.intro (And.intro (And.intro Tryz.underlying114 tz114) (And.intro tt114 t0_114)) (And.intro (And.intro Tryz.underlying115 tz115) (And.intro tt115 t0_115))) (And.intro (And.intro (And.intro Tryz.underlying116 tz116) (And.intro tt116 t0_116)) (And.intro (And.intro Tryz.underlying117 tz117) (And.intro tt117 t0_117)))) (And.intro (And.intro (And.intro (And.intro Tryz.underlying130 tz130) (And.intro tt130 t0_130)) (And.intro (And.intro Tryz.underlying131 tz131) (And.intro tt131 t0_131))) (And.intro (And.intro (And.intro Tryz.underlying164 tz164) (And.intro tt164 t0_164)) (And.intro (And.intro Tryz.underlying165 tz165) (And.intro tt165 t0_165)))))))
def R67_159_0 (rn:Rn) (a:Int)  : List Lg→Nat→Int→Int→Sum (Int) (Unit)
 | [],k,mt,mm=>.inr ()
 | x70 :: l',k,mt,mm=>(if (IntKind.i64.wrap (a - mt))<x70.secs then .inl (r119 (((r118 mt mm (IntKind.i64.wrap (a - mt)) x70.rate)).1) (((r118 mt mm (IntKind.i64.wrap (a - mt)) x70.rate)).2)) else R67_159_0 rn a l' (k+1) (((r118 mt mm x70.secs x70.rate)).1) (((r118 mt mm x70.secs x70.rate)).2))
def r67 (rn:Rn) (a:Int):Int × Int:=(if (r69 rn)=0 then (if a<rn.start then (0,3) else (if (((r116 rn)).1)<a then (0,3) else (onSum (R67_159_0 rn a rn.legs 0 rn.start rn.micro) (fun (rc3_0:Int)=>(rc3_0,0)) (fun (_:Unit)=>((r119 (((r116 rn)).1) (((r116 rn)).2)),0))))) else (0,(r69 rn)))
set_option maxHeartbeats 2000000 in
theorem c67 (rn:Rn) (a:Int) (hl:rn.legs.length≤60) (S:AS) (v_rn_legs:Value) (hv_rn_legs:Lst S v_rn_legs rn.legs) :
  ∃ S',(evL Tryz.prog E0).call 67 #[.agg #[.int .i64 rn.start,.int .i64 rn.micro,v_rn_legs],.int .i64 a] S=some (.tuple #[.int .i64 (r67 rn a).1,.int .i64 (r67 rn a).2],S')∧Agree S S':=by
 generalize hz:(evL Tryz.prog E0).call 67 _ _=z
 rw [L_call,evCall_said rfl Tryz.func67 rfl (by decide) Tryz.ntmps67 Tryz.results67] at hz
 obtain ⟨S1,e1,n1,b1,a1⟩:=push_open S (.cells [.int .i64 rn.start,.int .i64 rn.micro,v_rn_legs] 94 0 true true)
 have g1:Agree S S1:=a1
 have s1:E0.same S S1=true:=symEnv_same a1
 obtain ⟨S2,e2,n2,b2,a2⟩:=push_open S1 (.cells [.int .i64 a] 3 0 true true)
 have v1_2:=(a2.2 S.next (by omega)).trans b1
 have g2:Agree S S2:=g1.trans a2
 have s2:E0.same S1 S2=true:=symEnv_same a2
 obtain ⟨S3,e3,n3,b3,a3⟩:=push_open S2 (.cells [.int .i64 0] 3 0 true true)
 have v1_3:=(a3.2 S.next (by omega)).trans v1_2
 have v2_3:=(a3.2 S1.next (by omega)).trans b2
 have g3:Agree S S3:=g2.trans a3
 have s3:E0.same S2 S3=true:=symEnv_same a3
 obtain ⟨S4,e4,n4,b4,a4⟩:=push_open S3 (.cells [.int .i64 0] 34 0 true true)
 have v1_4:=(a4.2 S.next (by omega)).trans v1_3
 have v2_4:=(a4.2 S1.next (by omega)).trans v2_3
 have v3_4:=(a4.2 S2.next (by omega)).trans b3
 have g4:Agree S S4:=g3.trans a4
 have s4:E0.same S3 S4=true:=symEnv_same a4
 obtain ⟨S5,k5,a5⟩:=c69 rn (by first|omega|assumption) S4 (v_rn_legs) (hv_rn_legs.agree g4)
 have l5:=a5.1
 have s5:E0.same S4 S5=true:=symEnv_same a5
 have v1_5:=(a5.2 S.next (by omega)).trans v1_4
 have v2_5:=(a5.2 S1.next (by omega)).trans v2_4
 have v3_5:=(a5.2 S2.next (by omega)).trans v3_4
 have v4_5:=(a5.2 S3.next (by omega)).trans b4
 have g5:Agree S S5:=g4.trans a5
 try simp (disch:=first|omega|assumption) only [E0_G,SY,setArgs,off,agreeKind,partVals,vals,allocV,boxed,ldA,rdCells,oneB,aggD,aField,aFieldV,aExtract,eq_self,ne_eq,if_true,if_false,not_false_eq_true,Nat.reduceAdd,Nat.reduceSub,Nat.reduceMul,Nat.reduceLT,Nat.reduceEqDiff,Nat.reduceBEq,reduceIte,Int.reduceEq,Int.reduceLT,Int.reduceLE,reduceCtorEq,TY_EvW4,s1,e1,b1,v1_2,s2,e2,b2,v1_3,v2_3,s3,e3,b3,v1_4,v2_4,v3_4,s4,e4,b4,k5,s5,v1_5,v2_5,v3_5,v4_5] at hz
 rcases dP ((r69 rn)=0) with ⟨h6a,h6⟩|⟨h6a,h6⟩
 ·skip
  obtain ⟨S7,k7,a7⟩:=c116 rn (by first|omega|assumption) S5 (v_rn_legs) (hv_rn_legs.agree g5)
  have l7:=a7.1
  have s7:E0.same S5 S7=true:=symEnv_same a7
  have v1_7:=(a7.2 S.next (by omega)).trans v1_5
  have v2_7:=(a7.2 S1.next (by omega)).trans v2_5
  have v3_7:=(a7.2 S2.next (by omega)).trans v3_5
  have v4_7:=(a7.2 S3.next (by omega)).trans v4_5
  have g7:Agree S S7:=g5.trans a7
  obtain ⟨S8,e8,n8,b8,a8⟩:=push_open S7 (.cells [.int .i64 0,.int .i64 0] 165 0 true true)
  have v1_8:=(a8.2 S.next (by omega)).trans v1_7
  have v2_8:=(a8.2 S1.next (by omega)).trans v2_7
  have v3_8:=(a8.2 S2.next (by omega)).trans v3_7
  have v4_8:=(a8.2 S3.next (by omega)).trans v4_7
  have g8:Agree S S8:=g7.trans a8
  have s8:E0.same S7 S8=true:=symEnv_same a8
  obtain ⟨S9,k9,n9,b9,q9⟩:=st_at (o:=0) (c':=[.int .i64 (((r116 rn)).1),.int .i64 (((r116 rn)).2)]) (v:=.agg #[.int .i64 (((r116 rn)).1),.int .i64 (((r116 rn)).2)]) tz165 b8 rfl rfl (show 0+2≤2 by decide) rfl
  have v1_9:=(q9 S.next (by omega)).trans v1_8
  have v2_9:=(q9 S1.next (by omega)).trans v2_8
  have v3_9:=(q9 S2.next (by omega)).trans v3_8
  have v4_9:=(q9 S3.next (by omega)).trans v4_8
  have g9:Agree S S9:=⟨by have:=(g8).1; omega,fun id hid=>(q9 id (by have:=(g8).1; omega)).trans ((g8).2 id hid)⟩
  try simp (disch:=first|omega|assumption) only [E0_G,SY,setArgs,off,agreeKind,partVals,vals,allocV,boxed,ldA,rdCells,oneB,aggD,aField,aFieldV,aExtract,eq_self,ne_eq,if_true,if_false,not_false_eq_true,Nat.reduceAdd,Nat.reduceSub,Nat.reduceMul,Nat.reduceLT,Nat.reduceEqDiff,Nat.reduceBEq,reduceIte,Int.reduceEq,Int.reduceLT,Int.reduceLE,reduceCtorEq,TY_EvW4,s1,e1,b1,v1_2,s2,e2,b2,v1_3,v2_3,s3,e3,b3,v1_4,v2_4,v3_4,s4,e4,b4,k5,s5,v1_5,v2_5,v3_5,v4_5,h6a,k7,s7,v1_7,v2_7,v3_7,v4_7,v1_8,v2_8,v3_8,v4_8,s8,e8,b8,v1_9,v2_9,v3_9,v4_9,k9,b9] at hz
  rcases dP (a<rn.start) with ⟨h10a,h10⟩|⟨h10a,h10⟩
  ·skip
   obtain ⟨S11,k11,n11,b11,q11⟩:=st_at (o:=0) (c':=[.int .i64 0]) (v:=.int .i64 0) tz3 v3_9 rfl rfl (show 0+1≤1 by decide) rfl
   have v1_11:=(q11 S.next (by omega)).trans v1_9
   have v2_11:=(q11 S1.next (by omega)).trans v2_9
   have v4_11:=(q11 S3.next (by omega)).trans v4_9
   have v8_11:=(q11 S7.next (by omega)).trans b9
   have g11:Agree S S11:=⟨by have:=(g9).1; omega,fun id hid=>(q11 id (by have:=(g9).1; omega)).trans ((g9).2 id hid)⟩
   obtain ⟨S12,k12,n12,b12,q12⟩:=st_at (o:=0) (c':=[.int .i64 3]) (v:=.int .i64 3) tz34 v4_11 rfl rfl (show 0+1≤1 by decide) rfl
   have v1_12:=(q12 S.next (by omega)).trans v1_11
   have v2_12:=(q12 S1.next (by omega)).trans v2_11
   have v3_12:=(q12 S2.next (by omega)).trans b11
   have v8_12:=(q12 S7.next (by omega)).trans v8_11
   have g12:Agree S S12:=⟨by have:=(g11).1; omega,fun id hid=>(q12 id (by have:=(g11).1; omega)).trans ((g11).2 id hid)⟩
   try simp (disch:=first|omega|assumption) only [E0_G,SY,setArgs,off,agreeKind,partVals,vals,allocV,boxed,ldA,rdCells,oneB,aggD,aField,aFieldV,aExtract,eq_self,ne_eq,if_true,if_false,not_false_eq_true,Nat.reduceAdd,Nat.reduceSub,Nat.reduceMul,Nat.reduceLT,Nat.reduceEqDiff,Nat.reduceBEq,reduceIte,Int.reduceEq,Int.reduceLT,Int.reduceLE,reduceCtorEq,TY_EvW4,s1,e1,b1,v1_2,s2,e2,b2,v1_3,v2_3,s3,e3,b3,v1_4,v2_4,v3_4,s4,e4,b4,k5,s5,v1_5,v2_5,v3_5,v4_5,h6a,k7,s7,v1_7,v2_7,v3_7,v4_7,v1_8,v2_8,v3_8,v4_8,s8,e8,b8,v1_9,v2_9,v3_9,v4_9,k9,b9,h10a,v1_11,v2_11,v4_11,v8_11,k11,b11,v1_12,v2_12,v3_12,v8_12,k12,b12] at hz
   have hr:r67 rn a=(0,3):=(if_pos h6).trans ((if_pos h10).trans (rfl))
   exact fin hz (by rw [hr]) g12
  ·skip
   try simp (disch:=first|omega|assumption) only [E0_G,SY,setArgs,off,agreeKind,partVals,vals,allocV,boxed,ldA,rdCells,oneB,aggD,aField,aFieldV,aExtract,eq_self,ne_eq,if_true,if_false,not_false_eq_true,Nat.reduceAdd,Nat.reduceSub,Nat.reduceMul,Nat.reduceLT,Nat.reduceEqDiff,Nat.reduceBEq,reduceIte,Int.reduceEq,Int.reduceLT,Int.reduceLE,reduceCtorEq,TY_EvW4,s1,e1,b1,v1_2,s2,e2,b2,v1_3,v2_3,s3,e3,b3,v1_4,v2_4,v3_4,s4,e4,b4,k5,s5,v1_5,v2_5,v3_5,v4_5,h6a,k7,s7,v1_7,v2_7,v3_7,v4_7,v1_8,v2_8,v3_8,v4_8,s8,e8,b8,v1_9,v2_9,v3_9,v4_9,k9,b9,h10a] at hz
   rcases dP ((((r116 rn)).1)<a) with ⟨h13a,h13⟩|⟨h13a,h13⟩
   ·skip
    obtain ⟨S14,k14,n14,b14,q14⟩:=st_at (o:=0) (c':=[.int .i64 0]) (v:=.int .i64 0) tz3 v3_9 rfl rfl (show 0+1≤1 by decide) rfl
    have v1_14:=(q14 S.next (by omega)).trans v1_9
    have v2_14:=(q14 S1.next (by omega)).trans v2_9
    have v4_14:=(q14 S3.next (by omega)).trans v4_9
    have v8_14:=(q14 S7.next (by omega)).trans b9
    have g14:Agree S S14:=⟨by have:=(g9).1; omega,fun id hid=>(q14 id (by have:=(g9).1; omega)).trans ((g9).2 id hid)⟩
    obtain ⟨S15,k15,n15,b15,q15⟩:=st_at (o:=0) (c':=[.int .i64 3]) (v:=.int .i64 3) tz34 v4_14 rfl rfl (show 0+1≤1 by decide) rfl
    have v1_15:=(q15 S.next (by omega)).trans v1_14
    have v2_15:=(q15 S1.next (by omega)).trans v2_14
    have v3_15:=(q15 S2.next (by omega)).trans b14
    have v8_15:=(q15 S7.next (by omega)).trans v8_14
    have g15:Agree S S15:=⟨by have:=(g14).1; omega,fun id hid=>(q15 id (by have:=(g14).1; omega)).trans ((g14).2 id hid)⟩
    try simp (disch:=first|omega|assumption) only [E0_G,SY,setArgs,off,agreeKind,partVals,vals,allocV,boxed,ldA,rdCells,oneB,aggD,aField,aFieldV,aExtract,eq_self,ne_eq,if_true,if_false,not_false_eq_true,Nat.reduceAdd,Nat.reduceSub,Nat.reduceMul,Nat.reduceLT,Nat.reduceEqDiff,Nat.reduceBEq,reduceIte,Int.reduceEq,Int.reduceLT,Int.reduceLE,reduceCtorEq,TY_EvW4,s1,e1,b1,v1_2,s2,e2,b2,v1_3,v2_3,s3,e3,b3,v1_4,v2_4,v3_4,s4,e4,b4,k5,s5,v1_5,v2_5,v3_5,v4_5,h6a,k7,s7,v1_7,v2_7,v3_7,v4_7,v1_8,v2_8,v3_8,v4_8,s8,e8,b8,v1_9,v2_9,v3_9,v4_9,k9,b9,h10a,h13a,v1_14,v2_14,v4_14,v8_14,k14,b14,v1_15,v2_15,v3_15,v8_15,k15,b15] at hz
    have hr:r67 rn a=(0,3):=(if_pos h6).trans ((if_neg h10).trans ((if_pos h13).trans (rfl)))
    exact fin hz (by rw [hr]) g15
   ·skip
    try simp (disch:=first|omega|assumption) only [E0_G,SY,setArgs,off,agreeKind,partVals,vals,allocV,boxed,ldA,rdCells,oneB,aggD,aField,aFieldV,aExtract,eq_self,ne_eq,if_true,if_false,not_false_eq_true,Nat.reduceAdd,Nat.reduceSub,Nat.reduceMul,Nat.reduceLT,Nat.reduceEqDiff,Nat.reduceBEq,reduceIte,Int.reduceEq,Int.reduceLT,Int.reduceLE,reduceCtorEq,TY_EvW4,s1,e1,b1,v1_2,s2,e2,b2,v1_3,v2_3,s3,e3,b3,v1_4,v2_4,v3_4,s4,e4,b4,k5,s5,v1_5,v2_5,v3_5,v4_5,h6a,k7,s7,v1_7,v2_7,v3_7,v4_7,v1_8,v2_8,v3_8,v4_8,s8,e8,b8,v1_9,v2_9,v3_9,v4_9,k9,b9,h10a,h13a] at hz
    generalize hc16:(evL Tryz.prog E0).call 117 _ _=zc16 at hz
    rw [L_call,evCall_said rfl Tryz.func117 rfl (by decide) Tryz.ntmps117 Tryz.results117] at hc16
    obtain ⟨S17,e17,n17,b17,a17⟩:=push_open S9 (.cells [.int .i64 rn.start,.int .i64 rn.micro,v_rn_legs] 94 0 true true)
    have v1_17:=(a17.2 S.next (by omega)).trans v1_9
    have v2_17:=(a17.2 S1.next (by omega)).trans v2_9
    have v3_17:=(a17.2 S2.next (by omega)).trans v3_9
    have v4_17:=(a17.2 S3.next (by omega)).trans v4_9
    have v8_17:=(a17.2 S7.next (by omega)).trans b9
    have g17:Agree S S17:=g9.trans a17
    have s17:E0.same S9 S17=true:=symEnv_same a17
    try simp (disch:=first|omega|assumption) only [E0_G,SY,setArgs,off,agreeKind,partVals,vals,allocV,boxed,ldA,rdCells,oneB,aggD,aField,aFieldV,aExtract,eq_self,ne_eq,if_true,if_false,not_false_eq_true,Nat.reduceAdd,Nat.reduceSub,Nat.reduceMul,Nat.reduceLT,Nat.reduceEqDiff,Nat.reduceBEq,reduceIte,Int.reduceEq,Int.reduceLT,Int.reduceLE,reduceCtorEq,TY_EvW4,s1,e1,b1,v1_2,s2,e2,b2,v1_3,v2_3,s3,e3,b3,v1_4,v2_4,v3_4,s4,e4,b4,k5,s5,v1_5,v2_5,v3_5,v4_5,h6a,k7,s7,v1_7,v2_7,v3_7,v4_7,v1_8,v2_8,v3_8,v4_8,s8,e8,b8,v1_9,v2_9,v3_9,v4_9,k9,b9,h10a,h13a,v1_17,v2_17,v3_17,v4_17,v8_17,s17,e17,b17,op_makeFunc1,op_makeFunc2] at hc16
    subst hc16
    try simp (disch:=first|omega|assumption) only [E0_G,SY,setArgs,off,agreeKind,partVals,vals,allocV,boxed,ldA,rdCells,oneB,aggD,aField,aFieldV,aExtract,eq_self,ne_eq,if_true,if_false,not_false_eq_true,Nat.reduceAdd,Nat.reduceSub,Nat.reduceMul,Nat.reduceLT,Nat.reduceEqDiff,Nat.reduceBEq,reduceIte,Int.reduceEq,Int.reduceLT,Int.reduceLE,reduceCtorEq,TY_EvW4,s1,e1,b1,v1_2,s2,e2,b2,v1_3,v2_3,s3,e3,b3,v1_4,v2_4,v3_4,s4,e4,b4,k5,s5,v1_5,v2_5,v3_5,v4_5,h6a,k7,s7,v1_7,v2_7,v3_7,v4_7,v1_8,v2_8,v3_8,v4_8,s8,e8,b8,v1_9,v2_9,v3_9,v4_9,k9,b9,h10a,h13a,v1_17,v2_17,v3_17,v4_17,v8_17,s17,e17,b17,op_makeFunc1,op_makeFunc2] at hz
    generalize hL18:evCode _ _ _ _ (Code.rangeFunc _ _ _ _) _=L18z at hz
    obtain ⟨xx18,S18,rfl,hQ18⟩:=range_in hL18 (fun t=>t.get 3=some (.pointer (some ⟨S1.next,0,none⟩))∧t.get 4=some (.pointer (some ⟨S2.next,0,none⟩))∧t.get 5=some (.pointer (some ⟨S3.next,0,none⟩))) (by refine ⟨?_,?_,?_⟩<;>first|(simp (disch:=first|omega|assumption) only [E0_G,SY,setArgs,off,agreeKind,partVals,vals,allocV,boxed,ldA,rdCells,oneB,aggD,aField,aFieldV,aExtract,eq_self,ne_eq,if_true,if_false,not_false_eq_true,Nat.reduceAdd,Nat.reduceSub,Nat.reduceMul,Nat.reduceLT,Nat.reduceEqDiff,Nat.reduceBEq,reduceIte,Int.reduceEq,Int.reduceLT,Int.reduceLE,reduceCtorEq,s1,e1,b1,v1_2,s2,e2,b2,v1_3,v2_3,s3,e3,b3,v1_4,v2_4,v3_4,s4,e4,b4,k5,s5,v1_5,v2_5,v3_5,v4_5,h6a,k7,s7,v1_7,v2_7,v3_7,v4_7,v1_8,v2_8,v3_8,v4_8,s8,e8,b8,v1_9,v2_9,v3_9,v4_9,k9,b9,h10a,h13a,v1_17,v2_17,v3_17,v4_17,v8_17,s17,e17,b17,op_makeFunc1,op_makeFunc2]<;>rfl)|trivial) (k:=159) (cs:=#[]) (ds:=#[.pointer (some ⟨S9.next,0,none⟩)]) (by simp (disch:=first|omega|assumption) only [E0_G,SY,setArgs,off,agreeKind,partVals,vals,allocV,boxed,ldA,rdCells,oneB,aggD,aField,aFieldV,aExtract,eq_self,ne_eq,if_true,if_false,not_false_eq_true,Nat.reduceAdd,Nat.reduceSub,Nat.reduceMul,Nat.reduceLT,Nat.reduceEqDiff,Nat.reduceBEq,reduceIte,Int.reduceEq,Int.reduceLT,Int.reduceLE,reduceCtorEq,s1,e1,b1,v1_2,s2,e2,b2,v1_3,v2_3,s3,e3,b3,v1_4,v2_4,v3_4,s4,e4,b4,k5,s5,v1_5,v2_5,v3_5,v4_5,h6a,k7,s7,v1_7,v2_7,v3_7,v4_7,v1_8,v2_8,v3_8,v4_8,s8,e8,b8,v1_9,v2_9,v3_9,v4_9,k9,b9,h10a,h13a,v1_17,v2_17,v3_17,v4_17,v8_17,s17,e17,b17,op_makeFunc1,op_makeFunc2]) ⟨_,rfl⟩ (fun a S'=>rfl) (fun xq S'=>(xq=.normal∧S'.heap.get S17.next=some (.dfd true)∧S'.heap.get S.next=some (.cells [.int .i64 rn.start,.int .i64 rn.micro,v_rn_legs] 94 0 true true)∧S'.heap.get S1.next=some (.cells [.int .i64 a] 3 0 true true)∧S'.heap.get S2.next=some (.cells [.int .i64 0] 3 0 true true)∧S'.heap.get S3.next=some (.cells [.int .i64 0] 34 0 true true)∧S'.heap.get S7.next=some (.cells [.int .i64 (((r116 rn)).1),.int .i64 (((r116 rn)).2)] 165 0 true true)∧S'.heap.get S9.next=some (.cells [.int .i64 rn.start,.int .i64 rn.micro,v_rn_legs] 94 0 true true)∧Agree S S'∧S17.next+2≤S'.next∧R67_159_0 rn a rn.legs 0 rn.start rn.micro=.inr ())∨(xq=.ret∧S'.heap.get S17.next=some (.dfd true)∧∃ (rc3_0:Int),S'.heap.get S.next=some (.cells [.int .i64 rn.start,.int .i64 rn.micro,v_rn_legs] 94 0 true true)∧S'.heap.get S1.next=some (.cells [.int .i64 a] 3 0 true true)∧S'.heap.get S2.next=some (.cells [.int .i64 rc3_0] 3 0 true true)∧S'.heap.get S3.next=some (.cells [.int .i64 0] 34 0 true true)∧S'.heap.get S7.next=some (.cells [.int .i64 (((r116 rn)).1),.int .i64 (((r116 rn)).2)] 165 0 true true)∧S'.heap.get S9.next=some (.cells [.int .i64 rn.start,.int .i64 rn.micro,v_rn_legs] 94 0 true true)∧Agree S S'∧S17.next+2≤S'.next∧R67_159_0 rn a rn.legs 0 rn.start rn.micro=.inl (rc3_0))) (by
      rintro t18 ⟨gt18_3,gt18_4,gt18_5⟩ L18 S18a S18b y18 n18a b18a a18a n18b b18b a18b yq18 hb18 zc18 hc18
      have v1_18a:=(a18a.2 S.next (by omega)).trans v1_17
      have v2_18a:=(a18a.2 S1.next (by omega)).trans v2_17
      have v3_18a:=(a18a.2 S2.next (by omega)).trans v3_17
      have v4_18a:=(a18a.2 S3.next (by omega)).trans v4_17
      have v8_18a:=(a18a.2 S7.next (by omega)).trans v8_17
      have v17_18a:=(a18a.2 S9.next (by omega)).trans b17
      have g18a:Agree S S18a:=g17.trans a18a
      have v1_18b:=(a18b.2 S.next (by omega)).trans v1_18a
      have v2_18b:=(a18b.2 S1.next (by omega)).trans v2_18a
      have v3_18b:=(a18b.2 S2.next (by omega)).trans v3_18a
      have v4_18b:=(a18b.2 S3.next (by omega)).trans v4_18a
      have v8_18b:=(a18b.2 S7.next (by omega)).trans v8_18a
      have v17_18b:=(a18b.2 S9.next (by omega)).trans v17_18a
      have vd18_18b:=(a18b.2 S17.next (by omega)).trans b18a
      have g18b:Agree S S18b:=g18a.trans a18b
      have yl18:S.next≤y18:=by have:=(g18b).1; omega
      rw [L_call,evCall_said rfl Tryz.func159 rfl (by decide) Tryz.ntmps159 Tryz.results159] at hc18
      have y66:aBuild Tryz.prog 165 [(0,.int .i64 rn.start),(1,.int .i64 rn.micro)]=some (.agg #[.int .i64 rn.start,.int .i64 rn.micro]):=by kernel_rfl
      obtain ⟨S67,e67,n67,b67,a67⟩:=push_open S18b (.cells [.int .i64 0,.int .i64 0] 165 0 true true)
      have v1_67:=(a67.2 S.next (by omega)).trans v1_18b
      have v2_67:=(a67.2 S1.next (by omega)).trans v2_18b
      have v3_67:=(a67.2 S2.next (by omega)).trans v3_18b
      have v4_67:=(a67.2 S3.next (by omega)).trans v4_18b
      have v8_67:=(a67.2 S7.next (by omega)).trans v8_18b
      have v17_67:=(a67.2 S9.next (by omega)).trans v17_18b
      have vd18_67:=(a67.2 S17.next (by omega)).trans vd18_18b
      have vl18_67:=(a67.2 y18 (by omega)).trans b18b
      have g67:Agree S S67:=g18b.trans a67
      have s67:E0.same S18b S67=true:=symEnv_same a67
      obtain ⟨S68,k68,n68,b68,q68⟩:=st_at (o:=0) (c':=[.int .i64 rn.start,.int .i64 rn.micro]) (v:=.agg #[.int .i64 rn.start,.int .i64 rn.micro]) tz165 b67 rfl rfl (show 0+2≤2 by decide) rfl
      have v1_68:=(q68 S.next (by omega)).trans v1_67
      have v2_68:=(q68 S1.next (by omega)).trans v2_67
      have v3_68:=(q68 S2.next (by omega)).trans v3_67
      have v4_68:=(q68 S3.next (by omega)).trans v4_67
      have v8_68:=(q68 S7.next (by omega)).trans v8_67
      have v17_68:=(q68 S9.next (by omega)).trans v17_67
      have vd18_68:=(q68 S17.next (by omega)).trans vd18_67
      have vl18_68:=(q68 y18 (by omega)).trans vl18_67
      have g68:Agree S S68:=⟨by have:=(g67).1; omega,fun id hid=>(q68 id (by have:=(g67).1; omega)).trans ((g67).2 id hid)⟩
      have w69:=(hv_rn_legs.agree g68).len (P:=Tryz.prog) (t:=92) Tryz.underlying92
      try simp (disch:=first|omega|assumption) only [E0_G,SY,setArgs,off,agreeKind,partVals,vals,allocV,boxed,ldA,rdCells,oneB,aggD,aField,aFieldV,aExtract,eq_self,ne_eq,if_true,if_false,not_false_eq_true,Nat.reduceAdd,Nat.reduceSub,Nat.reduceMul,Nat.reduceLT,Nat.reduceEqDiff,Nat.reduceBEq,reduceIte,Int.reduceEq,Int.reduceLT,Int.reduceLE,reduceCtorEq,TY_EvW4,s1,e1,b1,v1_2,s2,e2,b2,v1_3,v2_3,s3,e3,b3,v1_4,v2_4,v3_4,s4,e4,b4,k5,s5,v1_5,v2_5,v3_5,v4_5,h6a,k7,s7,v1_7,v2_7,v3_7,v4_7,v1_8,v2_8,v3_8,v4_8,s8,e8,b8,v1_9,v2_9,v3_9,v4_9,k9,b9,h10a,h13a,v1_17,v2_17,v3_17,v4_17,v8_17,s17,e17,b17,op_makeFunc1,op_makeFunc2,v1_18a,v2_18a,v3_18a,v4_18a,v8_18a,v17_18a,b18a,v1_18b,v2_18b,v3_18b,v4_18b,v8_18b,v17_18b,vd18_18b,b18b,y66,v1_67,v2_67,v3_67,v4_67,v8_67,v17_67,vd18_67,vl18_67,s67,e67,b67,v1_68,v2_68,v3_68,v4_68,v8_68,v17_68,vd18_68,vl18_68,k68,b68,w69] at hc18
      generalize hL70:Rec.loop _ _ _ _=L70 at hc18
      obtain ⟨x70,t70,S70e,rfl,hQ70⟩:=loop_met hL70 (fun m t S'=>∃ (k:Nat) (mt:Int) (mm:Int),m+k=rn.legs.length∧k≤rn.legs.length∧t.get 0=some (.func (.yield y18) #[] #[])∧t.get 3=some (.pointer (some ⟨S18b.next,0,none⟩))∧t.get 12=some (v_rn_legs)∧t.get 13=some (.int .i64 (rn.legs.length:Int))∧t.get 14=some (.int .i64 (k:Int))∧S'.heap.get S18b.next=some (.cells [.int .i64 mt,.int .i64 mm] 165 0 true true)∧S'.heap.get S.next=some (.cells [.int .i64 rn.start,.int .i64 rn.micro,v_rn_legs] 94 0 true true)∧S'.heap.get S1.next=some (.cells [.int .i64 a] 3 0 true true)∧S'.heap.get S2.next=some (.cells [.int .i64 0] 3 0 true true)∧S'.heap.get S3.next=some (.cells [.int .i64 0] 34 0 true true)∧S'.heap.get S7.next=some (.cells [.int .i64 (((r116 rn)).1),.int .i64 (((r116 rn)).2)] 165 0 true true)∧S'.heap.get S9.next=some (.cells [.int .i64 rn.start,.int .i64 rn.micro,v_rn_legs] 94 0 true true)∧S'.heap.get y18=some (.loop L18)∧S'.heap.get S17.next=some (.dfd true)∧Agree S S'∧S68.next≤S'.next∧R67_159_0 rn a (rn.legs.drop k) k mt mm=R67_159_0 rn a rn.legs 0 rn.start rn.micro)
       (fun x t S'=>(x=.exit 0∧∃ (k:Nat) (mt:Int) (mm:Int),S'.heap.get S18b.next=some (.cells [.int .i64 mt,.int .i64 mm] 165 0 true true)∧S'.heap.get S.next=some (.cells [.int .i64 rn.start,.int .i64 rn.micro,v_rn_legs] 94 0 true true)∧S'.heap.get S1.next=some (.cells [.int .i64 a] 3 0 true true)∧S'.heap.get S2.next=some (.cells [.int .i64 0] 3 0 true true)∧S'.heap.get S3.next=some (.cells [.int .i64 0] 34 0 true true)∧S'.heap.get S7.next=some (.cells [.int .i64 (((r116 rn)).1),.int .i64 (((r116 rn)).2)] 165 0 true true)∧S'.heap.get S9.next=some (.cells [.int .i64 rn.start,.int .i64 rn.micro,v_rn_legs] 94 0 true true)∧S'.heap.get y18=some (.loop L18)∧S'.heap.get S17.next=some (.dfd true)∧Agree S S'∧S68.next≤S'.next∧k≤rn.legs.length∧R67_159_0 rn a rn.legs 0 rn.start rn.micro=.inr ())∨(x=.ret∧∃ (rc3_0:Int),S'.heap.get S.next=some (.cells [.int .i64 rn.start,.int .i64 rn.micro,v_rn_legs] 94 0 true true)∧S'.heap.get S1.next=some (.cells [.int .i64 a] 3 0 true true)∧S'.heap.get S2.next=some (.cells [.int .i64 rc3_0] 3 0 true true)∧S'.heap.get S3.next=some (.cells [.int .i64 0] 34 0 true true)∧S'.heap.get S7.next=some (.cells [.int .i64 (((r116 rn)).1),.int .i64 (((r116 rn)).2)] 165 0 true true)∧S'.heap.get S9.next=some (.cells [.int .i64 rn.start,.int .i64 rn.micro,v_rn_legs] 94 0 true true)∧S'.heap.get y18=some (.loop (doneL L18 .ret))∧S'.heap.get S17.next=some (.dfd true)∧S68.next≤S'.next∧Agree S S'∧R67_159_0 rn a rn.legs 0 rn.start rn.micro=.inl (rc3_0))) (rn.legs.length - 0) (by refine ⟨0,rn.start,rn.micro,?_,?_,?_,?_,?_,?_,?_,b68,v1_68,v2_68,v3_68,v4_68,v8_68,v17_68,vl18_68,vd18_68,g68,Nat.le_refl _,rfl⟩<;>first|(simp only [SY,setArgs,off,agreeKind,partVals,vals,allocV,boxed,ldA,rdCells,oneB,aggD,aField,aFieldV,aExtract,eq_self,ne_eq,if_true,if_false,not_false_eq_true,Nat.reduceAdd,Nat.reduceSub,Nat.reduceMul,Nat.reduceLT,Nat.reduceEqDiff,Nat.reduceBEq,reduceIte,Int.reduceEq,Int.reduceLT,Int.reduceLE,reduceCtorEq]<;>rfl)|omega|assumption|(simp; omega)|simp) (by
        rintro m t S70 ⟨k,mt,mm,hi70_0,hi70_1,g70_0,g70_3,g70_12,g70_13,g70_14,bb70_67,bb70_1,bb70_2,bb70_3,bb70_4,bb70_8,bb70_17,bb70_l18,bb70_d18,ga70,gn70,hd70⟩
        refine .run fun z he=>?_
        try simp (disch:=first|omega|assumption) only [E0_G,SY,setArgs,off,agreeKind,partVals,vals,allocV,boxed,ldA,rdCells,oneB,aggD,aField,aFieldV,aExtract,eq_self,ne_eq,if_true,if_false,not_false_eq_true,Nat.reduceAdd,Nat.reduceSub,Nat.reduceMul,Nat.reduceLT,Nat.reduceEqDiff,Nat.reduceBEq,reduceIte,Int.reduceEq,Int.reduceLT,Int.reduceLE,reduceCtorEq,TY_EvW4,g70_0,g70_3,g70_12,g70_13,g70_14,bb70_67,bb70_1,bb70_2,bb70_3,bb70_4,bb70_8,bb70_17,bb70_l18,bb70_d18,h6a,h10a,h13a,w69] at he
        rcases dP ((k:Int)<(rn.legs.length:Int)) with ⟨h71a,h71⟩|⟨h71a,h71⟩
        ·skip
         have hx70:rn.legs[k]?=some (rn.legs[k]'(by first|omega|simp; omega)):=List.getElem?_eq_getElem _
         generalize rn.legs[k]'_=x70 at hx70
         obtain ⟨id72,of72,cc72,ty72,wr72,ex72,i72,j72,l72,q72⟩:=(hv_rn_legs).at (P:=Tryz.prog) (t:=92) Tryz.underlying92 tz104 hx70
         have jr72:=j72
         have j72:=(ga70.2 id72 l72).trans jr72
         have m72_0:cc72[of72]?=some (.int .i64 x70.secs):=q72 0 (show 0<2 by decide)
         have m72_1:cc72[of72+1]?=some (.int .i64 x70.rate):=q72 1 (show 1<2 by decide)
         obtain ⟨S73,e73,n73,b73,a73⟩:=push_open S70 (.cells [.int .i64 0,.int .i64 0] 104 0 true true)
         have v67_73:=(a73.2 S18b.next (by omega)).trans bb70_67
         have v1_73:=(a73.2 S.next (by omega)).trans bb70_1
         have v2_73:=(a73.2 S1.next (by omega)).trans bb70_2
         have v3_73:=(a73.2 S2.next (by omega)).trans bb70_3
         have v4_73:=(a73.2 S3.next (by omega)).trans bb70_4
         have v8_73:=(a73.2 S7.next (by omega)).trans bb70_8
         have v17_73:=(a73.2 S9.next (by omega)).trans bb70_17
         have vl18_73:=(a73.2 y18 (by omega)).trans bb70_l18
         have vd18_73:=(a73.2 S17.next (by omega)).trans bb70_d18
         have v72_73:=(a73.2 id72 (by omega)).trans j72
         have g73:Agree S S73:=ga70.trans a73
         have s73:E0.same S70 S73=true:=symEnv_same a73
         obtain ⟨S74,k74,n74,b74,q74⟩:=st_at (o:=0) (c':=[.int .i64 x70.secs,.int .i64 x70.rate]) (v:=.agg #[.int .i64 x70.secs,.int .i64 x70.rate]) tz104 b73 rfl rfl (show 0+2≤2 by decide) rfl
         have v67_74:=(q74 S18b.next (by omega)).trans v67_73
         have v1_74:=(q74 S.next (by omega)).trans v1_73
         have v2_74:=(q74 S1.next (by omega)).trans v2_73
         have v3_74:=(q74 S2.next (by omega)).trans v3_73
         have v4_74:=(q74 S3.next (by omega)).trans v4_73
         have v8_74:=(q74 S7.next (by omega)).trans v8_73
         have v17_74:=(q74 S9.next (by omega)).trans v17_73
         have vl18_74:=(q74 y18 (by omega)).trans vl18_73
         have vd18_74:=(q74 S17.next (by omega)).trans vd18_73
         have v72_74:=(q74 id72 (by omega)).trans v72_73
         have g74:Agree S S74:=⟨by have:=(g73).1; omega,fun id hid=>(q74 id (by have:=(g73).1; omega)).trans ((g73).2 id hid)⟩
         try simp (disch:=first|omega|assumption) only [E0_G,SY,setArgs,off,agreeKind,partVals,vals,allocV,boxed,ldA,rdCells,oneB,aggD,aField,aFieldV,aExtract,eq_self,ne_eq,if_true,if_false,not_false_eq_true,Nat.reduceAdd,Nat.reduceSub,Nat.reduceMul,Nat.reduceLT,Nat.reduceEqDiff,Nat.reduceBEq,reduceIte,Int.reduceEq,Int.reduceLT,Int.reduceLE,reduceCtorEq,TY_EvW4,g70_0,g70_3,g70_12,g70_13,g70_14,bb70_67,bb70_1,bb70_2,bb70_3,bb70_4,bb70_8,bb70_17,bb70_l18,bb70_d18,h6a,h10a,h13a,w69,h71a,i72,j72,m72_0,m72_1,v67_73,v1_73,v2_73,v3_73,v4_73,v8_73,v17_73,vl18_73,vd18_73,v72_73,s73,e73,b73,v67_74,v1_74,v2_74,v3_74,v4_74,v8_74,v17_74,vl18_74,vd18_74,v72_74,k74,b74] at he
         try simp (disch:=first|omega|assumption) only [E0_G,SY,setArgs,off,agreeKind,partVals,vals,allocV,boxed,ldA,rdCells,oneB,aggD,aField,aFieldV,aExtract,eq_self,ne_eq,if_true,if_false,not_false_eq_true,Nat.reduceAdd,Nat.reduceSub,Nat.reduceMul,Nat.reduceLT,Nat.reduceEqDiff,Nat.reduceBEq,reduceIte,Int.reduceEq,Int.reduceLT,Int.reduceLE,reduceCtorEq,TY_EvW4,g70_0,g70_3,g70_12,g70_13,g70_14,bb70_67,bb70_1,bb70_2,bb70_3,bb70_4,bb70_8,bb70_17,bb70_l18,bb70_d18,h6a,h10a,h13a,w69,h71a,i72,j72,m72_0,m72_1,v67_73,v1_73,v2_73,v3_73,v4_73,v8_73,v17_73,vl18_73,vd18_73,v72_73,s73,e73,b73,v67_74,v1_74,v2_74,v3_74,v4_74,v8_74,v17_74,vl18_74,vd18_74,v72_74,k74,b74] at he
         rcases dP ((IntKind.i64.wrap (a - mt))<x70.secs) with ⟨h76a,h76⟩|⟨h76a,h76⟩
         ·skip
          try simp (disch:=first|omega|assumption) only [E0_G,SY,setArgs,off,agreeKind,partVals,vals,allocV,boxed,ldA,rdCells,oneB,aggD,aField,aFieldV,aExtract,eq_self,ne_eq,if_true,if_false,not_false_eq_true,Nat.reduceAdd,Nat.reduceSub,Nat.reduceMul,Nat.reduceLT,Nat.reduceEqDiff,Nat.reduceBEq,reduceIte,Int.reduceEq,Int.reduceLT,Int.reduceLE,reduceCtorEq,TY_EvW4,g70_0,g70_3,g70_12,g70_13,g70_14,bb70_67,bb70_1,bb70_2,bb70_3,bb70_4,bb70_8,bb70_17,bb70_l18,bb70_d18,h6a,h10a,h13a,w69,h71a,i72,j72,m72_0,m72_1,v67_73,v1_73,v2_73,v3_73,v4_73,v8_73,v17_73,vl18_73,vd18_73,v72_73,s73,e73,b73,v67_74,v1_74,v2_74,v3_74,v4_74,v8_74,v17_74,vl18_74,vd18_74,v72_74,k74,b74,h76a] at he
          obtain ⟨S77,k77,bq77,bm77_67,bm77_1,bm77_2,bm77_3,bm77_4,bm77_8,bm77_17,bm77_d18,bm77_73,gm77,gl77⟩:=round_ret (P:=Tryz.prog) (E:=E0) (bs:=[.agg #[.int .i64 mt,.int .i64 mm],.agg #[.int .i64 x70.secs,.int .i64 x70.rate]]) hb18 rfl vl18_74 (Q:=fun S'=>S'.heap.get y18=some (.loop (doneL L18 .ret))∧S'.heap.get S18b.next=some (.cells [.int .i64 mt,.int .i64 mm] 165 0 true true)∧S'.heap.get S.next=some (.cells [.int .i64 rn.start,.int .i64 rn.micro,v_rn_legs] 94 0 true true)∧S'.heap.get S1.next=some (.cells [.int .i64 a] 3 0 true true)∧S'.heap.get S2.next=some (.cells [.int .i64 (r119 (((r118 mt mm (IntKind.i64.wrap (a - mt)) x70.rate)).1) (((r118 mt mm (IntKind.i64.wrap (a - mt)) x70.rate)).2))] 3 0 true true)∧S'.heap.get S3.next=some (.cells [.int .i64 0] 34 0 true true)∧S'.heap.get S7.next=some (.cells [.int .i64 (((r116 rn)).1),.int .i64 (((r116 rn)).2)] 165 0 true true)∧S'.heap.get S9.next=some (.cells [.int .i64 rn.start,.int .i64 rn.micro,v_rn_legs] 94 0 true true)∧S'.heap.get S17.next=some (.dfd true)∧S'.heap.get S70.next=some (.cells [.int .i64 x70.secs,.int .i64 x70.rate] 104 0 true true)∧Agree S S'∧S74.next≤S'.next) (by
            intro zA77 hA77
            obtain ⟨S87,e87,n87,b87,a87⟩:=push_open S74 (.cells [.int .i64 0,.int .i64 0] 165 0 true true)
            have v67_87:=(a87.2 S18b.next (by omega)).trans v67_74
            have v1_87:=(a87.2 S.next (by omega)).trans v1_74
            have v2_87:=(a87.2 S1.next (by omega)).trans v2_74
            have v3_87:=(a87.2 S2.next (by omega)).trans v3_74
            have v4_87:=(a87.2 S3.next (by omega)).trans v4_74
            have v8_87:=(a87.2 S7.next (by omega)).trans v8_74
            have v17_87:=(a87.2 S9.next (by omega)).trans v17_74
            have vl18_87:=(a87.2 y18 (by omega)).trans vl18_74
            have vd18_87:=(a87.2 S17.next (by omega)).trans vd18_74
            have v72_87:=(a87.2 id72 (by omega)).trans v72_74
            have v73_87:=(a87.2 S70.next (by omega)).trans b74
            have g87:Agree S S87:=g74.trans a87
            have s87:E0.same S74 S87=true:=symEnv_same a87
            obtain ⟨S88,k88,n88,b88,q88⟩:=st_at (o:=0) (c':=[.int .i64 mt,.int .i64 mm]) (v:=.agg #[.int .i64 mt,.int .i64 mm]) tz165 b87 rfl rfl (show 0+2≤2 by decide) rfl
            have v67_88:=(q88 S18b.next (by omega)).trans v67_87
            have v1_88:=(q88 S.next (by omega)).trans v1_87
            have v2_88:=(q88 S1.next (by omega)).trans v2_87
            have v3_88:=(q88 S2.next (by omega)).trans v3_87
            have v4_88:=(q88 S3.next (by omega)).trans v4_87
            have v8_88:=(q88 S7.next (by omega)).trans v8_87
            have v17_88:=(q88 S9.next (by omega)).trans v17_87
            have vl18_88:=(q88 y18 (by omega)).trans vl18_87
            have vd18_88:=(q88 S17.next (by omega)).trans vd18_87
            have v72_88:=(q88 id72 (by omega)).trans v72_87
            have v73_88:=(q88 S70.next (by omega)).trans v73_87
            have g88:Agree S S88:=⟨by have:=(g87).1; omega,fun id hid=>(q88 id (by have:=(g87).1; omega)).trans ((g87).2 id hid)⟩
            obtain ⟨S89,e89,n89,b89,a89⟩:=push_open S88 (.cells [.int .i64 0,.int .i64 0] 104 0 true true)
            have v67_89:=(a89.2 S18b.next (by omega)).trans v67_88
            have v1_89:=(a89.2 S.next (by omega)).trans v1_88
            have v2_89:=(a89.2 S1.next (by omega)).trans v2_88
            have v3_89:=(a89.2 S2.next (by omega)).trans v3_88
            have v4_89:=(a89.2 S3.next (by omega)).trans v4_88
            have v8_89:=(a89.2 S7.next (by omega)).trans v8_88
            have v17_89:=(a89.2 S9.next (by omega)).trans v17_88
            have vl18_89:=(a89.2 y18 (by omega)).trans vl18_88
            have vd18_89:=(a89.2 S17.next (by omega)).trans vd18_88
            have v72_89:=(a89.2 id72 (by omega)).trans v72_88
            have v73_89:=(a89.2 S70.next (by omega)).trans v73_88
            have v87_89:=(a89.2 S74.next (by omega)).trans b88
            have g89:Agree S S89:=g88.trans a89
            have s89:E0.same S88 S89=true:=symEnv_same a89
            obtain ⟨S90,k90,n90,b90,q90⟩:=st_at (o:=0) (c':=[.int .i64 x70.secs,.int .i64 x70.rate]) (v:=.agg #[.int .i64 x70.secs,.int .i64 x70.rate]) tz104 b89 rfl rfl (show 0+2≤2 by decide) rfl
            have v67_90:=(q90 S18b.next (by omega)).trans v67_89
            have v1_90:=(q90 S.next (by omega)).trans v1_89
            have v2_90:=(q90 S1.next (by omega)).trans v2_89
            have v3_90:=(q90 S2.next (by omega)).trans v3_89
            have v4_90:=(q90 S3.next (by omega)).trans v4_89
            have v8_90:=(q90 S7.next (by omega)).trans v8_89
            have v17_90:=(q90 S9.next (by omega)).trans v17_89
            have vl18_90:=(q90 y18 (by omega)).trans vl18_89
            have vd18_90:=(q90 S17.next (by omega)).trans vd18_89
            have v72_90:=(q90 id72 (by omega)).trans v72_89
            have v73_90:=(q90 S70.next (by omega)).trans v73_89
            have v87_90:=(q90 S74.next (by omega)).trans v87_89
            have g90:Agree S S90:=⟨by have:=(g89).1; omega,fun id hid=>(q90 id (by have:=(g89).1; omega)).trans ((g89).2 id hid)⟩
            try simp (disch:=first|omega|assumption) only [E0_G,SY,setArgs,off,agreeKind,partVals,vals,allocV,boxed,ldA,rdCells,oneB,aggD,aField,aFieldV,aExtract,eq_self,ne_eq,if_true,if_false,not_false_eq_true,Nat.reduceAdd,Nat.reduceSub,Nat.reduceMul,Nat.reduceLT,Nat.reduceEqDiff,Nat.reduceBEq,reduceIte,Int.reduceEq,Int.reduceLT,Int.reduceLE,reduceCtorEq,TY_EvW4,bb70_67,bb70_1,bb70_2,bb70_3,bb70_4,bb70_8,bb70_17,bb70_l18,bb70_d18,h6a,h10a,h13a,w69,h71a,i72,j72,m72_0,m72_1,v67_73,v1_73,v2_73,v3_73,v4_73,v8_73,v17_73,vl18_73,vd18_73,v72_73,s73,e73,b73,v67_74,v1_74,v2_74,v3_74,v4_74,v8_74,v17_74,vl18_74,vd18_74,v72_74,k74,b74,h76a,gt18_3,gt18_4,gt18_5,setP_cons,setP_nil,List.zip_cons_cons,List.zip_nil_left,List.zip_nil_right,v67_87,v1_87,v2_87,v3_87,v4_87,v8_87,v17_87,vl18_87,vd18_87,v72_87,v73_87,s87,e87,b87,v67_88,v1_88,v2_88,v3_88,v4_88,v8_88,v17_88,vl18_88,vd18_88,v72_88,v73_88,k88,b88,v67_89,v1_89,v2_89,v3_89,v4_89,v8_89,v17_89,vl18_89,vd18_89,v72_89,v73_89,v87_89,s89,e89,b89,v67_90,v1_90,v2_90,v3_90,v4_90,v8_90,v17_90,vl18_90,vd18_90,v72_90,v73_90,v87_90,k90,b90] at hA77
            refine ⟨_,S90,hA77.symm,vl18_90,?_⟩
            intro S91 n91 b91 q91 zB77 hB77
            have v67_91:=(q91 S18b.next (by omega)).trans v67_90
            have v1_91:=(q91 S.next (by omega)).trans v1_90
            have v2_91:=(q91 S1.next (by omega)).trans v2_90
            have v3_91:=(q91 S2.next (by omega)).trans v3_90
            have v4_91:=(q91 S3.next (by omega)).trans v4_90
            have v8_91:=(q91 S7.next (by omega)).trans v8_90
            have v17_91:=(q91 S9.next (by omega)).trans v17_90
            have vd18_91:=(q91 S17.next (by omega)).trans vd18_90
            have v72_91:=(q91 id72 (by omega)).trans v72_90
            have v73_91:=(q91 S70.next (by omega)).trans v73_90
            have v87_91:=(q91 S74.next (by omega)).trans v87_90
            have v89_91:=(q91 S88.next (by omega)).trans b90
            have g91:Agree S S91:=⟨by have:=(g90).1; omega,fun id hid=>(q91 id (by have:=(g90).1; omega)).trans ((g90).2 id hid)⟩
            obtain ⟨S92,k92,a92⟩:=c118 mt mm (IntKind.i64.wrap (a - mt)) x70.rate  S91
            have l92:=a92.1
            have s92:E0.same S91 S92=true:=symEnv_same a92
            have v67_92:=(a92.2 S18b.next (by omega)).trans v67_91
            have v1_92:=(a92.2 S.next (by omega)).trans v1_91
            have v2_92:=(a92.2 S1.next (by omega)).trans v2_91
            have v3_92:=(a92.2 S2.next (by omega)).trans v3_91
            have v4_92:=(a92.2 S3.next (by omega)).trans v4_91
            have v8_92:=(a92.2 S7.next (by omega)).trans v8_91
            have v17_92:=(a92.2 S9.next (by omega)).trans v17_91
            have vl18_92:=(a92.2 y18 (by omega)).trans b91
            have vd18_92:=(a92.2 S17.next (by omega)).trans vd18_91
            have v72_92:=(a92.2 id72 (by omega)).trans v72_91
            have v73_92:=(a92.2 S70.next (by omega)).trans v73_91
            have v87_92:=(a92.2 S74.next (by omega)).trans v87_91
            have v89_92:=(a92.2 S88.next (by omega)).trans v89_91
            have g92:Agree S S92:=g91.trans a92
            obtain ⟨S93,k93,a93⟩:=c119 (((r118 mt mm (IntKind.i64.wrap (a - mt)) x70.rate)).1) (((r118 mt mm (IntKind.i64.wrap (a - mt)) x70.rate)).2)  S92
            have l93:=a93.1
            have s93:E0.same S92 S93=true:=symEnv_same a93
            have v67_93:=(a93.2 S18b.next (by omega)).trans v67_92
            have v1_93:=(a93.2 S.next (by omega)).trans v1_92
            have v2_93:=(a93.2 S1.next (by omega)).trans v2_92
            have v3_93:=(a93.2 S2.next (by omega)).trans v3_92
            have v4_93:=(a93.2 S3.next (by omega)).trans v4_92
            have v8_93:=(a93.2 S7.next (by omega)).trans v8_92
            have v17_93:=(a93.2 S9.next (by omega)).trans v17_92
            have vl18_93:=(a93.2 y18 (by omega)).trans vl18_92
            have vd18_93:=(a93.2 S17.next (by omega)).trans vd18_92
            have v72_93:=(a93.2 id72 (by omega)).trans v72_92
            have v73_93:=(a93.2 S70.next (by omega)).trans v73_92
            have v87_93:=(a93.2 S74.next (by omega)).trans v87_92
            have v89_93:=(a93.2 S88.next (by omega)).trans v89_92
            have g93:Agree S S93:=g92.trans a93
            obtain ⟨S94,k94,n94,b94,q94⟩:=st_at (o:=0) (c':=[.int .i64 (r119 (((r118 mt mm (IntKind.i64.wrap (a - mt)) x70.rate)).1) (((r118 mt mm (IntKind.i64.wrap (a - mt)) x70.rate)).2))]) (v:=.int .i64 (r119 (((r118 mt mm (IntKind.i64.wrap (a - mt)) x70.rate)).1) (((r118 mt mm (IntKind.i64.wrap (a - mt)) x70.rate)).2))) tz3 v3_93 rfl rfl (show 0+1≤1 by decide) rfl
            have v67_94:=(q94 S18b.next (by omega)).trans v67_93
            have v1_94:=(q94 S.next (by omega)).trans v1_93
            have v2_94:=(q94 S1.next (by omega)).trans v2_93
            have v4_94:=(q94 S3.next (by omega)).trans v4_93
            have v8_94:=(q94 S7.next (by omega)).trans v8_93
            have v17_94:=(q94 S9.next (by omega)).trans v17_93
            have vl18_94:=(q94 y18 (by omega)).trans vl18_93
            have vd18_94:=(q94 S17.next (by omega)).trans vd18_93
            have v72_94:=(q94 id72 (by omega)).trans v72_93
            have v73_94:=(q94 S70.next (by omega)).trans v73_93
            have v87_94:=(q94 S74.next (by omega)).trans v87_93
            have v89_94:=(q94 S88.next (by omega)).trans v89_93
            have g94:Agree S S94:=⟨by have:=(g93).1; omega,fun id hid=>(q94 id (by have:=(g93).1; omega)).trans ((g93).2 id hid)⟩
            obtain ⟨S95,k95,n95,b95,q95⟩:=st_at (o:=0) (c':=[.int .i64 0]) (v:=.int .i64 0) tz34 v4_94 rfl rfl (show 0+1≤1 by decide) rfl
            have v67_95:=(q95 S18b.next (by omega)).trans v67_94
            have v1_95:=(q95 S.next (by omega)).trans v1_94
            have v2_95:=(q95 S1.next (by omega)).trans v2_94
            have v3_95:=(q95 S2.next (by omega)).trans b94
            have v8_95:=(q95 S7.next (by omega)).trans v8_94
            have v17_95:=(q95 S9.next (by omega)).trans v17_94
            have vl18_95:=(q95 y18 (by omega)).trans vl18_94
            have vd18_95:=(q95 S17.next (by omega)).trans vd18_94
            have v72_95:=(q95 id72 (by omega)).trans v72_94
            have v73_95:=(q95 S70.next (by omega)).trans v73_94
            have v87_95:=(q95 S74.next (by omega)).trans v87_94
            have v89_95:=(q95 S88.next (by omega)).trans v89_94
            have g95:Agree S S95:=⟨by have:=(g94).1; omega,fun id hid=>(q95 id (by have:=(g94).1; omega)).trans ((g94).2 id hid)⟩
            try simp (disch:=first|omega|assumption) only [E0_G,SY,setArgs,off,agreeKind,partVals,vals,allocV,boxed,ldA,rdCells,oneB,aggD,aField,aFieldV,aExtract,eq_self,ne_eq,if_true,if_false,not_false_eq_true,Nat.reduceAdd,Nat.reduceSub,Nat.reduceMul,Nat.reduceLT,Nat.reduceEqDiff,Nat.reduceBEq,reduceIte,Int.reduceEq,Int.reduceLT,Int.reduceLE,reduceCtorEq,TY_EvW4,bb70_67,bb70_1,bb70_2,bb70_3,bb70_4,bb70_8,bb70_17,bb70_l18,bb70_d18,h6a,h10a,h13a,w69,h71a,i72,j72,m72_0,m72_1,v67_73,v1_73,v2_73,v3_73,v4_73,v8_73,v17_73,vl18_73,vd18_73,v72_73,s73,e73,b73,v67_74,v1_74,v2_74,v3_74,v4_74,v8_74,v17_74,vl18_74,vd18_74,v72_74,k74,b74,h76a,gt18_3,gt18_4,gt18_5,setP_cons,setP_nil,List.zip_cons_cons,List.zip_nil_left,List.zip_nil_right,v67_87,v1_87,v2_87,v3_87,v4_87,v8_87,v17_87,vl18_87,vd18_87,v72_87,v73_87,s87,e87,b87,v67_88,v1_88,v2_88,v3_88,v4_88,v8_88,v17_88,vl18_88,vd18_88,v72_88,v73_88,k88,b88,v67_89,v1_89,v2_89,v3_89,v4_89,v8_89,v17_89,vl18_89,vd18_89,v72_89,v73_89,v87_89,s89,e89,b89,v67_90,v1_90,v2_90,v3_90,v4_90,v8_90,v17_90,vl18_90,vd18_90,v72_90,v73_90,v87_90,k90,b90,v67_91,v1_91,v2_91,v3_91,v4_91,v8_91,v17_91,vd18_91,v72_91,v73_91,v87_91,v89_91,b91,k92,s92,v67_92,v1_92,v2_92,v3_92,v4_92,v8_92,v17_92,vl18_92,vd18_92,v72_92,v73_92,v87_92,v89_92,k93,s93,v67_93,v1_93,v2_93,v3_93,v4_93,v8_93,v17_93,vl18_93,vd18_93,v72_93,v73_93,v87_93,v89_93,v67_94,v1_94,v2_94,v4_94,v8_94,v17_94,vl18_94,vd18_94,v72_94,v73_94,v87_94,v89_94,k94,b94,v67_95,v1_95,v2_95,v3_95,v8_95,v17_95,vl18_95,vd18_95,v72_95,v73_95,v87_95,v89_95,k95,b95] at hB77
            refine ⟨_,_,S95,hB77.symm,vl18_95,?_⟩
            intro S96 n96 b96 q96
            have v67_96:=(q96 S18b.next (by omega)).trans v67_95
            have v1_96:=(q96 S.next (by omega)).trans v1_95
            have v2_96:=(q96 S1.next (by omega)).trans v2_95
            have v3_96:=(q96 S2.next (by omega)).trans v3_95
            have v4_96:=(q96 S3.next (by omega)).trans b95
            have v8_96:=(q96 S7.next (by omega)).trans v8_95
            have v17_96:=(q96 S9.next (by omega)).trans v17_95
            have vd18_96:=(q96 S17.next (by omega)).trans vd18_95
            have v72_96:=(q96 id72 (by omega)).trans v72_95
            have v73_96:=(q96 S70.next (by omega)).trans v73_95
            have v87_96:=(q96 S74.next (by omega)).trans v87_95
            have v89_96:=(q96 S88.next (by omega)).trans v89_95
            have g96:Agree S S96:=⟨by have:=(g95).1; omega,fun id hid=>(q96 id (by have:=(g95).1; omega)).trans ((g95).2 id hid)⟩
            exact ⟨b96,v67_96,v1_96,v2_96,v3_96,v4_96,v8_96,v17_96,vd18_96,v73_96,g96,by omega⟩)
          replace k77:(evL Tryz.prog E0).round y18 #[.agg #[.int .i64 mt,.int .i64 mm],.agg #[.int .i64 x70.secs,.int .i64 x70.rate]] S74=some (.bool false,S77):=k77
          have bm77_72:=(gm77.2 id72 l72).trans jr72
          try simp (disch:=first|omega|assumption) only [E0_G,SY,setArgs,off,agreeKind,partVals,vals,allocV,boxed,ldA,rdCells,oneB,aggD,aField,aFieldV,aExtract,eq_self,ne_eq,if_true,if_false,not_false_eq_true,Nat.reduceAdd,Nat.reduceSub,Nat.reduceMul,Nat.reduceLT,Nat.reduceEqDiff,Nat.reduceBEq,reduceIte,Int.reduceEq,Int.reduceLT,Int.reduceLE,reduceCtorEq,TY_EvW4,g70_0,g70_3,g70_12,g70_13,g70_14,bb70_67,bb70_1,bb70_2,bb70_3,bb70_4,bb70_8,bb70_17,bb70_l18,bb70_d18,h6a,h10a,h13a,w69,h71a,i72,j72,m72_0,m72_1,v67_73,v1_73,v2_73,v3_73,v4_73,v8_73,v17_73,vl18_73,vd18_73,v72_73,s73,e73,b73,v67_74,v1_74,v2_74,v3_74,v4_74,v8_74,v17_74,vl18_74,vd18_74,v72_74,k74,b74,h76a,bm77_67,bm77_1,bm77_2,bm77_3,bm77_4,bm77_8,bm77_17,bm77_d18,bm77_72,bm77_73,bq77,k77,calledV_yield,firstOf_none,op_round,roundV_some] at he
          rw [drop_cons' hx70] at hd70
          have hf:=(show _=(.inl (r119 (((r118 mt mm (IntKind.i64.wrap (a - mt)) x70.rate)).1) (((r118 mt mm (IntKind.i64.wrap (a - mt)) x70.rate)).2)):Sum (Int) (Unit)) from (if_pos h76).trans (rfl)).symm.trans hd70
          refine .ret he (.inr ⟨rfl,⟨(r119 (((r118 mt mm (IntKind.i64.wrap (a - mt)) x70.rate)).1) (((r118 mt mm (IntKind.i64.wrap (a - mt)) x70.rate)).2)),bm77_1,bm77_2,bm77_3,bm77_4,bm77_8,bm77_17,bq77,bm77_d18,by omega,gm77,hf.symm⟩⟩)<;>first|(simp only [SY,setArgs,off,agreeKind,partVals,vals,allocV,boxed,ldA,rdCells,oneB,aggD,aField,aFieldV,aExtract,eq_self,ne_eq,if_true,if_false,not_false_eq_true,Nat.reduceAdd,Nat.reduceSub,Nat.reduceMul,Nat.reduceLT,Nat.reduceEqDiff,Nat.reduceBEq,reduceIte,Int.reduceEq,Int.reduceLT,Int.reduceLE,reduceCtorEq,g70_0,g70_3,g70_12,g70_13,g70_14]<;>rfl)|omega|assumption|(simp; omega)|simp
         ·skip
          try simp (disch:=first|omega|assumption) only [E0_G,SY,setArgs,off,agreeKind,partVals,vals,allocV,boxed,ldA,rdCells,oneB,aggD,aField,aFieldV,aExtract,eq_self,ne_eq,if_true,if_false,not_false_eq_true,Nat.reduceAdd,Nat.reduceSub,Nat.reduceMul,Nat.reduceLT,Nat.reduceEqDiff,Nat.reduceBEq,reduceIte,Int.reduceEq,Int.reduceLT,Int.reduceLE,reduceCtorEq,TY_EvW4,g70_0,g70_3,g70_12,g70_13,g70_14,bb70_67,bb70_1,bb70_2,bb70_3,bb70_4,bb70_8,bb70_17,bb70_l18,bb70_d18,h6a,h10a,h13a,w69,h71a,i72,j72,m72_0,m72_1,v67_73,v1_73,v2_73,v3_73,v4_73,v8_73,v17_73,vl18_73,vd18_73,v72_73,s73,e73,b73,v67_74,v1_74,v2_74,v3_74,v4_74,v8_74,v17_74,vl18_74,vd18_74,v72_74,k74,b74,h76a] at he
          obtain ⟨S97,k97,bq97,bm97_67,bm97_1,bm97_2,bm97_3,bm97_4,bm97_8,bm97_17,bm97_d18,bm97_73,gm97,gl97⟩:=round_in (P:=Tryz.prog) (E:=E0) (bs:=[.agg #[.int .i64 mt,.int .i64 mm],.agg #[.int .i64 x70.secs,.int .i64 x70.rate]]) hb18 rfl vl18_74 (Q:=fun S'=>S'.heap.get y18=some (.loop L18)∧S'.heap.get S18b.next=some (.cells [.int .i64 mt,.int .i64 mm] 165 0 true true)∧S'.heap.get S.next=some (.cells [.int .i64 rn.start,.int .i64 rn.micro,v_rn_legs] 94 0 true true)∧S'.heap.get S1.next=some (.cells [.int .i64 a] 3 0 true true)∧S'.heap.get S2.next=some (.cells [.int .i64 0] 3 0 true true)∧S'.heap.get S3.next=some (.cells [.int .i64 0] 34 0 true true)∧S'.heap.get S7.next=some (.cells [.int .i64 (((r116 rn)).1),.int .i64 (((r116 rn)).2)] 165 0 true true)∧S'.heap.get S9.next=some (.cells [.int .i64 rn.start,.int .i64 rn.micro,v_rn_legs] 94 0 true true)∧S'.heap.get S17.next=some (.dfd true)∧S'.heap.get S70.next=some (.cells [.int .i64 x70.secs,.int .i64 x70.rate] 104 0 true true)∧Agree S S'∧S74.next≤S'.next) (by
            intro zA97 hA97
            obtain ⟨S103,e103,n103,b103,a103⟩:=push_open S74 (.cells [.int .i64 0,.int .i64 0] 165 0 true true)
            have v67_103:=(a103.2 S18b.next (by omega)).trans v67_74
            have v1_103:=(a103.2 S.next (by omega)).trans v1_74
            have v2_103:=(a103.2 S1.next (by omega)).trans v2_74
            have v3_103:=(a103.2 S2.next (by omega)).trans v3_74
            have v4_103:=(a103.2 S3.next (by omega)).trans v4_74
            have v8_103:=(a103.2 S7.next (by omega)).trans v8_74
            have v17_103:=(a103.2 S9.next (by omega)).trans v17_74
            have vl18_103:=(a103.2 y18 (by omega)).trans vl18_74
            have vd18_103:=(a103.2 S17.next (by omega)).trans vd18_74
            have v72_103:=(a103.2 id72 (by omega)).trans v72_74
            have v73_103:=(a103.2 S70.next (by omega)).trans b74
            have g103:Agree S S103:=g74.trans a103
            have s103:E0.same S74 S103=true:=symEnv_same a103
            obtain ⟨S104,k104,n104,b104,q104⟩:=st_at (o:=0) (c':=[.int .i64 mt,.int .i64 mm]) (v:=.agg #[.int .i64 mt,.int .i64 mm]) tz165 b103 rfl rfl (show 0+2≤2 by decide) rfl
            have v67_104:=(q104 S18b.next (by omega)).trans v67_103
            have v1_104:=(q104 S.next (by omega)).trans v1_103
            have v2_104:=(q104 S1.next (by omega)).trans v2_103
            have v3_104:=(q104 S2.next (by omega)).trans v3_103
            have v4_104:=(q104 S3.next (by omega)).trans v4_103
            have v8_104:=(q104 S7.next (by omega)).trans v8_103
            have v17_104:=(q104 S9.next (by omega)).trans v17_103
            have vl18_104:=(q104 y18 (by omega)).trans vl18_103
            have vd18_104:=(q104 S17.next (by omega)).trans vd18_103
            have v72_104:=(q104 id72 (by omega)).trans v72_103
            have v73_104:=(q104 S70.next (by omega)).trans v73_103
            have g104:Agree S S104:=⟨by have:=(g103).1; omega,fun id hid=>(q104 id (by have:=(g103).1; omega)).trans ((g103).2 id hid)⟩
            obtain ⟨S105,e105,n105,b105,a105⟩:=push_open S104 (.cells [.int .i64 0,.int .i64 0] 104 0 true true)
            have v67_105:=(a105.2 S18b.next (by omega)).trans v67_104
            have v1_105:=(a105.2 S.next (by omega)).trans v1_104
            have v2_105:=(a105.2 S1.next (by omega)).trans v2_104
            have v3_105:=(a105.2 S2.next (by omega)).trans v3_104
            have v4_105:=(a105.2 S3.next (by omega)).trans v4_104
            have v8_105:=(a105.2 S7.next (by omega)).trans v8_104
            have v17_105:=(a105.2 S9.next (by omega)).trans v17_104
            have vl18_105:=(a105.2 y18 (by omega)).trans vl18_104
            have vd18_105:=(a105.2 S17.next (by omega)).trans vd18_104
            have v72_105:=(a105.2 id72 (by omega)).trans v72_104
            have v73_105:=(a105.2 S70.next (by omega)).trans v73_104
            have v103_105:=(a105.2 S74.next (by omega)).trans b104
            have g105:Agree S S105:=g104.trans a105
            have s105:E0.same S104 S105=true:=symEnv_same a105
            obtain ⟨S106,k106,n106,b106,q106⟩:=st_at (o:=0) (c':=[.int .i64 x70.secs,.int .i64 x70.rate]) (v:=.agg #[.int .i64 x70.secs,.int .i64 x70.rate]) tz104 b105 rfl rfl (show 0+2≤2 by decide) rfl
            have v67_106:=(q106 S18b.next (by omega)).trans v67_105
            have v1_106:=(q106 S.next (by omega)).trans v1_105
            have v2_106:=(q106 S1.next (by omega)).trans v2_105
            have v3_106:=(q106 S2.next (by omega)).trans v3_105
            have v4_106:=(q106 S3.next (by omega)).trans v4_105
            have v8_106:=(q106 S7.next (by omega)).trans v8_105
            have v17_106:=(q106 S9.next (by omega)).trans v17_105
            have vl18_106:=(q106 y18 (by omega)).trans vl18_105
            have vd18_106:=(q106 S17.next (by omega)).trans vd18_105
            have v72_106:=(q106 id72 (by omega)).trans v72_105
            have v73_106:=(q106 S70.next (by omega)).trans v73_105
            have v103_106:=(q106 S74.next (by omega)).trans v103_105
            have g106:Agree S S106:=⟨by have:=(g105).1; omega,fun id hid=>(q106 id (by have:=(g105).1; omega)).trans ((g105).2 id hid)⟩
            try simp (disch:=first|omega|assumption) only [E0_G,SY,setArgs,off,agreeKind,partVals,vals,allocV,boxed,ldA,rdCells,oneB,aggD,aField,aFieldV,aExtract,eq_self,ne_eq,if_true,if_false,not_false_eq_true,Nat.reduceAdd,Nat.reduceSub,Nat.reduceMul,Nat.reduceLT,Nat.reduceEqDiff,Nat.reduceBEq,reduceIte,Int.reduceEq,Int.reduceLT,Int.reduceLE,reduceCtorEq,TY_EvW4,bb70_67,bb70_1,bb70_2,bb70_3,bb70_4,bb70_8,bb70_17,bb70_l18,bb70_d18,h6a,h10a,h13a,w69,h71a,i72,j72,m72_0,m72_1,v67_73,v1_73,v2_73,v3_73,v4_73,v8_73,v17_73,vl18_73,vd18_73,v72_73,s73,e73,b73,v67_74,v1_74,v2_74,v3_74,v4_74,v8_74,v17_74,vl18_74,vd18_74,v72_74,k74,b74,h76a,gt18_3,gt18_4,gt18_5,setP_cons,setP_nil,List.zip_cons_cons,List.zip_nil_left,List.zip_nil_right,v67_103,v1_103,v2_103,v3_103,v4_103,v8_103,v17_103,vl18_103,vd18_103,v72_103,v73_103,s103,e103,b103,v67_104,v1_104,v2_104,v3_104,v4_104,v8_104,v17_104,vl18_104,vd18_104,v72_104,v73_104,k104,b104,v67_105,v1_105,v2_105,v3_105,v4_105,v8_105,v17_105,vl18_105,vd18_105,v72_105,v73_105,v103_105,s105,e105,b105,v67_106,v1_106,v2_106,v3_106,v4_106,v8_106,v17_106,vl18_106,vd18_106,v72_106,v73_106,v103_106,k106,b106] at hA97
            refine ⟨_,S106,hA97.symm,vl18_106,?_⟩
            intro S107 n107 b107 q107 zB97 hB97
            have v67_107:=(q107 S18b.next (by omega)).trans v67_106
            have v1_107:=(q107 S.next (by omega)).trans v1_106
            have v2_107:=(q107 S1.next (by omega)).trans v2_106
            have v3_107:=(q107 S2.next (by omega)).trans v3_106
            have v4_107:=(q107 S3.next (by omega)).trans v4_106
            have v8_107:=(q107 S7.next (by omega)).trans v8_106
            have v17_107:=(q107 S9.next (by omega)).trans v17_106
            have vd18_107:=(q107 S17.next (by omega)).trans vd18_106
            have v72_107:=(q107 id72 (by omega)).trans v72_106
            have v73_107:=(q107 S70.next (by omega)).trans v73_106
            have v103_107:=(q107 S74.next (by omega)).trans v103_106
            have v105_107:=(q107 S104.next (by omega)).trans b106
            have g107:Agree S S107:=⟨by have:=(g106).1; omega,fun id hid=>(q107 id (by have:=(g106).1; omega)).trans ((g106).2 id hid)⟩
            try simp (disch:=first|omega|assumption) only [E0_G,SY,setArgs,off,agreeKind,partVals,vals,allocV,boxed,ldA,rdCells,oneB,aggD,aField,aFieldV,aExtract,eq_self,ne_eq,if_true,if_false,not_false_eq_true,Nat.reduceAdd,Nat.reduceSub,Nat.reduceMul,Nat.reduceLT,Nat.reduceEqDiff,Nat.reduceBEq,reduceIte,Int.reduceEq,Int.reduceLT,Int.reduceLE,reduceCtorEq,TY_EvW4,bb70_67,bb70_1,bb70_2,bb70_3,bb70_4,bb70_8,bb70_17,bb70_l18,bb70_d18,h6a,h10a,h13a,w69,h71a,i72,j72,m72_0,m72_1,v67_73,v1_73,v2_73,v3_73,v4_73,v8_73,v17_73,vl18_73,vd18_73,v72_73,s73,e73,b73,v67_74,v1_74,v2_74,v3_74,v4_74,v8_74,v17_74,vl18_74,vd18_74,v72_74,k74,b74,h76a,gt18_3,gt18_4,gt18_5,setP_cons,setP_nil,List.zip_cons_cons,List.zip_nil_left,List.zip_nil_right,v67_103,v1_103,v2_103,v3_103,v4_103,v8_103,v17_103,vl18_103,vd18_103,v72_103,v73_103,s103,e103,b103,v67_104,v1_104,v2_104,v3_104,v4_104,v8_104,v17_104,vl18_104,vd18_104,v72_104,v73_104,k104,b104,v67_105,v1_105,v2_105,v3_105,v4_105,v8_105,v17_105,vl18_105,vd18_105,v72_105,v73_105,v103_105,s105,e105,b105,v67_106,v1_106,v2_106,v3_106,v4_106,v8_106,v17_106,vl18_106,vd18_106,v72_106,v73_106,v103_106,k106,b106,v67_107,v1_107,v2_107,v3_107,v4_107,v8_107,v17_107,vd18_107,v72_107,v73_107,v103_107,v105_107,b107] at hB97
            refine ⟨_,_,S107,hB97.symm,b107,?_⟩
            intro S108 n108 b108 q108
            have v67_108:=(q108 S18b.next (by omega)).trans v67_107
            have v1_108:=(q108 S.next (by omega)).trans v1_107
            have v2_108:=(q108 S1.next (by omega)).trans v2_107
            have v3_108:=(q108 S2.next (by omega)).trans v3_107
            have v4_108:=(q108 S3.next (by omega)).trans v4_107
            have v8_108:=(q108 S7.next (by omega)).trans v8_107
            have v17_108:=(q108 S9.next (by omega)).trans v17_107
            have vd18_108:=(q108 S17.next (by omega)).trans vd18_107
            have v72_108:=(q108 id72 (by omega)).trans v72_107
            have v73_108:=(q108 S70.next (by omega)).trans v73_107
            have v103_108:=(q108 S74.next (by omega)).trans v103_107
            have v105_108:=(q108 S104.next (by omega)).trans v105_107
            have g108:Agree S S108:=⟨by have:=(g107).1; omega,fun id hid=>(q108 id (by have:=(g107).1; omega)).trans ((g107).2 id hid)⟩
            exact ⟨b108,v67_108,v1_108,v2_108,v3_108,v4_108,v8_108,v17_108,vd18_108,v73_108,g108,by omega⟩)
          replace k97:(evL Tryz.prog E0).round y18 #[.agg #[.int .i64 mt,.int .i64 mm],.agg #[.int .i64 x70.secs,.int .i64 x70.rate]] S74=some (.bool true,S97):=k97
          have bm97_72:=(gm97.2 id72 l72).trans jr72
          obtain ⟨S109,k109,a109⟩:=c118 mt mm x70.secs x70.rate  S97
          have l109:=a109.1
          have s109:E0.same S97 S109=true:=symEnv_same a109
          have v67_109:=(a109.2 S18b.next (by omega)).trans bm97_67
          have v1_109:=(a109.2 S.next (by omega)).trans bm97_1
          have v2_109:=(a109.2 S1.next (by omega)).trans bm97_2
          have v3_109:=(a109.2 S2.next (by omega)).trans bm97_3
          have v4_109:=(a109.2 S3.next (by omega)).trans bm97_4
          have v8_109:=(a109.2 S7.next (by omega)).trans bm97_8
          have v17_109:=(a109.2 S9.next (by omega)).trans bm97_17
          have vd18_109:=(a109.2 S17.next (by omega)).trans bm97_d18
          have v72_109:=(a109.2 id72 (by omega)).trans bm97_72
          have v73_109:=(a109.2 S70.next (by omega)).trans bm97_73
          have vl18_109:=(a109.2 y18 (by omega)).trans bq97
          have g109:Agree S S109:=gm97.trans a109
          obtain ⟨S110,k110,n110,b110,q110⟩:=st_at (o:=0) (c':=[.int .i64 (((r118 mt mm x70.secs x70.rate)).1),.int .i64 (((r118 mt mm x70.secs x70.rate)).2)]) (v:=.agg #[.int .i64 (((r118 mt mm x70.secs x70.rate)).1),.int .i64 (((r118 mt mm x70.secs x70.rate)).2)]) tz165 v67_109 rfl rfl (show 0+2≤2 by decide) rfl
          have v1_110:=(q110 S.next (by omega)).trans v1_109
          have v2_110:=(q110 S1.next (by omega)).trans v2_109
          have v3_110:=(q110 S2.next (by omega)).trans v3_109
          have v4_110:=(q110 S3.next (by omega)).trans v4_109
          have v8_110:=(q110 S7.next (by omega)).trans v8_109
          have v17_110:=(q110 S9.next (by omega)).trans v17_109
          have vd18_110:=(q110 S17.next (by omega)).trans vd18_109
          have v72_110:=(q110 id72 (by omega)).trans v72_109
          have v73_110:=(q110 S70.next (by omega)).trans v73_109
          have vl18_110:=(q110 y18 (by omega)).trans vl18_109
          have g110:Agree S S110:=⟨by have:=(g109).1; omega,fun id hid=>(q110 id (by have:=(g109).1; omega)).trans ((g109).2 id hid)⟩
          have w111:IntKind.i64.wrap ((k:Int)+1)=((k+1:Nat):Int):=by rw [IntWalk.i64_in]<;>omega
          try simp (disch:=first|omega|assumption) only [E0_G,SY,setArgs,off,agreeKind,partVals,vals,allocV,boxed,ldA,rdCells,oneB,aggD,aField,aFieldV,aExtract,eq_self,ne_eq,if_true,if_false,not_false_eq_true,Nat.reduceAdd,Nat.reduceSub,Nat.reduceMul,Nat.reduceLT,Nat.reduceEqDiff,Nat.reduceBEq,reduceIte,Int.reduceEq,Int.reduceLT,Int.reduceLE,reduceCtorEq,TY_EvW4,g70_0,g70_3,g70_12,g70_13,g70_14,bb70_67,bb70_1,bb70_2,bb70_3,bb70_4,bb70_8,bb70_17,bb70_l18,bb70_d18,h6a,h10a,h13a,w69,h71a,i72,j72,m72_0,m72_1,v67_73,v1_73,v2_73,v3_73,v4_73,v8_73,v17_73,vl18_73,vd18_73,v72_73,s73,e73,b73,v67_74,v1_74,v2_74,v3_74,v4_74,v8_74,v17_74,vl18_74,vd18_74,v72_74,k74,b74,h76a,bm97_67,bm97_1,bm97_2,bm97_3,bm97_4,bm97_8,bm97_17,bm97_d18,bm97_72,bm97_73,bq97,k97,calledV_yield,firstOf_none,op_round,roundV_some,k109,s109,v67_109,v1_109,v2_109,v3_109,v4_109,v8_109,v17_109,vd18_109,v72_109,v73_109,vl18_109,v1_110,v2_110,v3_110,v4_110,v8_110,v17_110,vd18_110,v72_110,v73_110,vl18_110,k110,b110,w111] at he
          rw [drop_cons' hx70] at hd70
          have hf:=(show _=(R67_159_0 rn a (rn.legs.drop (k+1)) (k+1) (((r118 mt mm x70.secs x70.rate)).1) (((r118 mt mm x70.secs x70.rate)).2):Sum (Int) (Unit)) from (if_neg h76).trans (rfl)).symm.trans hd70
          refine .next he (m - 1) (by omega) ⟨(k+1),((r118 mt mm x70.secs x70.rate)).1,((r118 mt mm x70.secs x70.rate)).2,?_,?_,?_,?_,?_,?_,?_,b110,v1_110,v2_110,v3_110,v4_110,v8_110,v17_110,vl18_110,vd18_110,g110,by omega,hf⟩<;>first|(simp only [SY,setArgs,off,agreeKind,partVals,vals,allocV,boxed,ldA,rdCells,oneB,aggD,aField,aFieldV,aExtract,eq_self,ne_eq,if_true,if_false,not_false_eq_true,Nat.reduceAdd,Nat.reduceSub,Nat.reduceMul,Nat.reduceLT,Nat.reduceEqDiff,Nat.reduceBEq,reduceIte,Int.reduceEq,Int.reduceLT,Int.reduceLE,reduceCtorEq,g70_0,g70_3,g70_12,g70_13,g70_14]<;>rfl)|omega|assumption|(simp; omega)|simp
        ·skip
         try simp (disch:=first|omega|assumption) only [E0_G,SY,setArgs,off,agreeKind,partVals,vals,allocV,boxed,ldA,rdCells,oneB,aggD,aField,aFieldV,aExtract,eq_self,ne_eq,if_true,if_false,not_false_eq_true,Nat.reduceAdd,Nat.reduceSub,Nat.reduceMul,Nat.reduceLT,Nat.reduceEqDiff,Nat.reduceBEq,reduceIte,Int.reduceEq,Int.reduceLT,Int.reduceLE,reduceCtorEq,TY_EvW4,g70_0,g70_3,g70_12,g70_13,g70_14,bb70_67,bb70_1,bb70_2,bb70_3,bb70_4,bb70_8,bb70_17,bb70_l18,bb70_d18,h6a,h10a,h13a,w69,h71a] at he
         rw [List.drop_eq_nil_of_le (show rn.legs.length≤k by omega)] at hd70
         have hf:=(show _=(.inr ():Sum (Int) (Unit)) from rfl).symm.trans hd70
         refine .exit he (.inl ⟨rfl,⟨k,mt,mm,bb70_67,bb70_1,bb70_2,bb70_3,bb70_4,bb70_8,bb70_17,bb70_l18,bb70_d18,ga70,by omega,?_,hf.symm⟩⟩)<;>first|(simp only [SY,setArgs,off,agreeKind,partVals,vals,allocV,boxed,ldA,rdCells,oneB,aggD,aField,aFieldV,aExtract,eq_self,ne_eq,if_true,if_false,not_false_eq_true,Nat.reduceAdd,Nat.reduceSub,Nat.reduceMul,Nat.reduceLT,Nat.reduceEqDiff,Nat.reduceBEq,reduceIte,Int.reduceEq,Int.reduceLT,Int.reduceLE,reduceCtorEq,g70_0,g70_3,g70_12,g70_13,g70_14]<;>rfl)|omega|assumption|(simp; omega)|simp)
      rcases hQ70 with ⟨rfl,hQ70⟩|⟨rfl,hQ70⟩
      ·skip
       obtain ⟨k,mt,mm,be70_67,be70_1,be70_2,be70_3,be70_4,be70_8,be70_17,be70_l18,be70_d18,ge70,gm70,hj70_0,hR70⟩:=hQ70
       try simp (disch:=first|omega|assumption) only [E0_G,SY,setArgs,off,agreeKind,partVals,vals,allocV,boxed,ldA,rdCells,oneB,aggD,aField,aFieldV,aExtract,eq_self,ne_eq,if_true,if_false,not_false_eq_true,Nat.reduceAdd,Nat.reduceSub,Nat.reduceMul,Nat.reduceLT,Nat.reduceEqDiff,Nat.reduceBEq,reduceIte,Int.reduceEq,Int.reduceLT,Int.reduceLE,reduceCtorEq,TY_EvW4,h6a,h10a,h13a,w69,be70_67,be70_1,be70_2,be70_3,be70_4,be70_8,be70_17,be70_l18,be70_d18] at hc18
       refine ⟨_,S70e,_,.normal,hc18.symm,be70_l18,(hb18.ready).1,(hb18.ready).2,fun S113 n113 q113=>?_⟩
       have v67_113:=(q113 S18b.next (by omega)).trans be70_67
       have v1_113:=(q113 S.next (by omega)).trans be70_1
       have v2_113:=(q113 S1.next (by omega)).trans be70_2
       have v3_113:=(q113 S2.next (by omega)).trans be70_3
       have v4_113:=(q113 S3.next (by omega)).trans be70_4
       have v8_113:=(q113 S7.next (by omega)).trans be70_8
       have v17_113:=(q113 S9.next (by omega)).trans be70_17
       have vd18_113:=(q113 S17.next (by omega)).trans be70_d18
       have g113:Agree S S113:=⟨by have:=(ge70).1; omega,fun id hid=>(q113 id (by have:=(ge70).1; omega)).trans ((ge70).2 id hid)⟩
       exact .inl ⟨rfl,vd18_113,v1_113,v2_113,v3_113,v4_113,v8_113,v17_113,g113,by omega,hR70⟩
      ·skip
       obtain ⟨rc3_0,bk70_1,bk70_2,bk70_3,bk70_4,bk70_8,bk70_17,bk70_l18,bk70_d18,gm70,ge70,hR70⟩:=hQ70
       try simp (disch:=first|omega|assumption) only [E0_G,SY,setArgs,off,agreeKind,partVals,vals,allocV,boxed,ldA,rdCells,oneB,aggD,aField,aFieldV,aExtract,eq_self,ne_eq,if_true,if_false,not_false_eq_true,Nat.reduceAdd,Nat.reduceSub,Nat.reduceMul,Nat.reduceLT,Nat.reduceEqDiff,Nat.reduceBEq,reduceIte,Int.reduceEq,Int.reduceLT,Int.reduceLE,reduceCtorEq,TY_EvW4,h6a,h10a,h13a,w69,bk70_1,bk70_2,bk70_3,bk70_4,bk70_8,bk70_17,bk70_l18,bk70_d18] at hc18
       refine ⟨_,S70e,_,.ret,hc18.symm,bk70_l18,(done_ret L18).1,(done_ret L18).2,fun S114 n114 q114=>?_⟩
       have v1_114:=(q114 S.next (by omega)).trans bk70_1
       have v2_114:=(q114 S1.next (by omega)).trans bk70_2
       have v3_114:=(q114 S2.next (by omega)).trans bk70_3
       have v4_114:=(q114 S3.next (by omega)).trans bk70_4
       have v8_114:=(q114 S7.next (by omega)).trans bk70_8
       have v17_114:=(q114 S9.next (by omega)).trans bk70_17
       have vd18_114:=(q114 S17.next (by omega)).trans bk70_d18
       have g114:Agree S S114:=⟨by have:=(ge70).1; omega,fun id hid=>(q114 id (by have:=(ge70).1; omega)).trans ((ge70).2 id hid)⟩
       exact .inr ⟨rfl,vd18_114,rc3_0,v1_114,v2_114,v3_114,v4_114,v8_114,v17_114,g114,by omega,hR70⟩)
    rcases hQ18 with hQ18|hQ18
    ·skip
     obtain ⟨rfl,bd18,bm18_1,bm18_2,bm18_3,bm18_4,bm18_8,bm18_17,gm18,gl18,hR18⟩:=hQ18
     obtain ⟨S115,k115,a115⟩:=c119 (((r116 rn)).1) (((r116 rn)).2)  S18
     have l115:=a115.1
     have s115:E0.same S18 S115=true:=symEnv_same a115
     have v1_115:=(a115.2 S.next (by omega)).trans bm18_1
     have v2_115:=(a115.2 S1.next (by omega)).trans bm18_2
     have v3_115:=(a115.2 S2.next (by omega)).trans bm18_3
     have v4_115:=(a115.2 S3.next (by omega)).trans bm18_4
     have v8_115:=(a115.2 S7.next (by omega)).trans bm18_8
     have v17_115:=(a115.2 S9.next (by omega)).trans bm18_17
     have vd18_115:=(a115.2 S17.next (by omega)).trans bd18
     have g115:Agree S S115:=gm18.trans a115
     obtain ⟨S116,k116,n116,b116,q116⟩:=st_at (o:=0) (c':=[.int .i64 (r119 (((r116 rn)).1) (((r116 rn)).2))]) (v:=.int .i64 (r119 (((r116 rn)).1) (((r116 rn)).2))) tz3 v3_115 rfl rfl (show 0+1≤1 by decide) rfl
     have v1_116:=(q116 S.next (by omega)).trans v1_115
     have v2_116:=(q116 S1.next (by omega)).trans v2_115
     have v4_116:=(q116 S3.next (by omega)).trans v4_115
     have v8_116:=(q116 S7.next (by omega)).trans v8_115
     have v17_116:=(q116 S9.next (by omega)).trans v17_115
     have vd18_116:=(q116 S17.next (by omega)).trans vd18_115
     have g116:Agree S S116:=⟨by have:=(g115).1; omega,fun id hid=>(q116 id (by have:=(g115).1; omega)).trans ((g115).2 id hid)⟩
     obtain ⟨S117,k117,n117,b117,q117⟩:=st_at (o:=0) (c':=[.int .i64 0]) (v:=.int .i64 0) tz34 v4_116 rfl rfl (show 0+1≤1 by decide) rfl
     have v1_117:=(q117 S.next (by omega)).trans v1_116
     have v2_117:=(q117 S1.next (by omega)).trans v2_116
     have v3_117:=(q117 S2.next (by omega)).trans b116
     have v8_117:=(q117 S7.next (by omega)).trans v8_116
     have v17_117:=(q117 S9.next (by omega)).trans v17_116
     have vd18_117:=(q117 S17.next (by omega)).trans vd18_116
     have g117:Agree S S117:=⟨by have:=(g116).1; omega,fun id hid=>(q117 id (by have:=(g116).1; omega)).trans ((g116).2 id hid)⟩
     try simp (disch:=first|omega|assumption) only [E0_G,SY,setArgs,off,agreeKind,partVals,vals,allocV,boxed,ldA,rdCells,oneB,aggD,aField,aFieldV,aExtract,eq_self,ne_eq,if_true,if_false,not_false_eq_true,Nat.reduceAdd,Nat.reduceSub,Nat.reduceMul,Nat.reduceLT,Nat.reduceEqDiff,Nat.reduceBEq,reduceIte,Int.reduceEq,Int.reduceLT,Int.reduceLE,reduceCtorEq,TY_EvW4,s1,e1,b1,v1_2,s2,e2,b2,v1_3,v2_3,s3,e3,b3,v1_4,v2_4,v3_4,s4,e4,b4,k5,s5,v1_5,v2_5,v3_5,v4_5,h6a,k7,s7,v1_7,v2_7,v3_7,v4_7,v1_8,v2_8,v3_8,v4_8,s8,e8,b8,v1_9,v2_9,v3_9,v4_9,k9,b9,h10a,h13a,v1_17,v2_17,v3_17,v4_17,v8_17,s17,e17,b17,op_makeFunc1,op_makeFunc2,bm18_1,bm18_2,bm18_3,bm18_4,bm18_8,bm18_17,bd18,k115,s115,v1_115,v2_115,v3_115,v4_115,v8_115,v17_115,vd18_115,v1_116,v2_116,v4_116,v8_116,v17_116,vd18_116,k116,b116,v1_117,v2_117,v3_117,v8_117,v17_117,vd18_117,k117,b117] at hz
     obtain ⟨S118,k118,n118,q118⟩:=take1 vd18_117
     have v1_118:=(q118 S.next (by omega)).trans v1_117
     have v2_118:=(q118 S1.next (by omega)).trans v2_117
     have v3_118:=(q118 S2.next (by omega)).trans v3_117
     have v4_118:=(q118 S3.next (by omega)).trans b117
     have v8_118:=(q118 S7.next (by omega)).trans v8_117
     have v17_118:=(q118 S9.next (by omega)).trans v17_117
     have g118:Agree S S118:=⟨by have:=(g117).1; omega,fun id hid=>(q118 id (by have:=(g117).1; omega)).trans ((g117).2 id hid)⟩
     first|rw [handed_take k118] at hz|rw [handed_take_n k118] at hz
     try simp (disch:=first|omega|assumption) only [E0_G,SY,setArgs,off,agreeKind,partVals,vals,allocV,boxed,ldA,rdCells,oneB,aggD,aField,aFieldV,aExtract,eq_self,ne_eq,if_true,if_false,not_false_eq_true,Nat.reduceAdd,Nat.reduceSub,Nat.reduceMul,Nat.reduceLT,Nat.reduceEqDiff,Nat.reduceBEq,reduceIte,Int.reduceEq,Int.reduceLT,Int.reduceLE,reduceCtorEq,TY_EvW4,s1,e1,b1,v1_2,s2,e2,b2,v1_3,v2_3,s3,e3,b3,v1_4,v2_4,v3_4,s4,e4,b4,k5,s5,v1_5,v2_5,v3_5,v4_5,h6a,k7,s7,v1_7,v2_7,v3_7,v4_7,v1_8,v2_8,v3_8,v4_8,s8,e8,b8,v1_9,v2_9,v3_9,v4_9,k9,b9,h10a,h13a,v1_17,v2_17,v3_17,v4_17,v8_17,s17,e17,b17,op_makeFunc1,op_makeFunc2,bm18_1,bm18_2,bm18_3,bm18_4,bm18_8,bm18_17,bd18,k115,s115,v1_115,v2_115,v3_115,v4_115,v8_115,v17_115,vd18_115,v1_116,v2_116,v4_116,v8_116,v17_116,vd18_116,k116,b116,v1_117,v2_117,v3_117,v8_117,v17_117,vd18_117,k117,b117,v1_118,v2_118,v3_118,v4_118,v8_118,v17_118] at hz
     have hr:r67 rn a=((r119 (((r116 rn)).1) (((r116 rn)).2)),0):=(if_pos h6).trans ((if_neg h10).trans ((if_neg h13).trans ((onSum_inr hR18).trans (rfl))))
     exact fin hz (by rw [hr]) g118
    ·skip
     obtain ⟨rfl,bd18,rc3_0,bm18r_1,bm18r_2,bm18r_3,bm18r_4,bm18r_8,bm18r_17,gm18r,gl18r,hR18⟩:=hQ18
     try simp (disch:=first|omega|assumption) only [E0_G,SY,setArgs,off,agreeKind,partVals,vals,allocV,boxed,ldA,rdCells,oneB,aggD,aField,aFieldV,aExtract,eq_self,ne_eq,if_true,if_false,not_false_eq_true,Nat.reduceAdd,Nat.reduceSub,Nat.reduceMul,Nat.reduceLT,Nat.reduceEqDiff,Nat.reduceBEq,reduceIte,Int.reduceEq,Int.reduceLT,Int.reduceLE,reduceCtorEq,TY_EvW4,s1,e1,b1,v1_2,s2,e2,b2,v1_3,v2_3,s3,e3,b3,v1_4,v2_4,v3_4,s4,e4,b4,k5,s5,v1_5,v2_5,v3_5,v4_5,h6a,k7,s7,v1_7,v2_7,v3_7,v4_7,v1_8,v2_8,v3_8,v4_8,s8,e8,b8,v1_9,v2_9,v3_9,v4_9,k9,b9,h10a,h13a,v1_17,v2_17,v3_17,v4_17,v8_17,s17,e17,b17,op_makeFunc1,op_makeFunc2,bm18r_1,bm18r_2,bm18r_3,bm18r_4,bm18r_8,bm18r_17,bd18] at hz
     obtain ⟨S119,k119,n119,q119⟩:=take1 bd18
     have v1_119:=(q119 S.next (by omega)).trans bm18r_1
     have v2_119:=(q119 S1.next (by omega)).trans bm18r_2
     have v3_119:=(q119 S2.next (by omega)).trans bm18r_3
     have v4_119:=(q119 S3.next (by omega)).trans bm18r_4
     have v8_119:=(q119 S7.next (by omega)).trans bm18r_8
     have v17_119:=(q119 S9.next (by omega)).trans bm18r_17
     have g119:Agree S S119:=⟨by have:=(gm18r).1; omega,fun id hid=>(q119 id (by have:=(gm18r).1; omega)).trans ((gm18r).2 id hid)⟩
     first|rw [handed_take k119] at hz|rw [handed_take_n k119] at hz
     try simp (disch:=first|omega|assumption) only [E0_G,SY,setArgs,off,agreeKind,partVals,vals,allocV,boxed,ldA,rdCells,oneB,aggD,aField,aFieldV,aExtract,eq_self,ne_eq,if_true,if_false,not_false_eq_true,Nat.reduceAdd,Nat.reduceSub,Nat.reduceMul,Nat.reduceLT,Nat.reduceEqDiff,Nat.reduceBEq,reduceIte,Int.reduceEq,Int.reduceLT,Int.reduceLE,reduceCtorEq,TY_EvW4,s1,e1,b1,v1_2,s2,e2,b2,v1_3,v2_3,s3,e3,b3,v1_4,v2_4,v3_4,s4,e4,b4,k5,s5,v1_5,v2_5,v3_5,v4_5,h6a,k7,s7,v1_7,v2_7,v3_7,v4_7,v1_8,v2_8,v3_8,v4_8,s8,e8,b8,v1_9,v2_9,v3_9,v4_9,k9,b9,h10a,h13a,v1_17,v2_17,v3_17,v4_17,v8_17,s17,e17,b17,op_makeFunc1,op_makeFunc2,bm18r_1,bm18r_2,bm18r_3,bm18r_4,bm18r_8,bm18r_17,bd18,v1_119,v2_119,v3_119,v4_119,v8_119,v17_119] at hz
     have hr:r67 rn a=(rc3_0,0):=(if_pos h6).trans ((if_neg h10).trans ((if_neg h13).trans ((onSum_inl hR18).trans (rfl))))
     exact fin hz (by rw [hr]) g119
 ·skip
  obtain ⟨S120,k120,n120,b120,q120⟩:=st_at (o:=0) (c':=[.int .i64 0]) (v:=.int .i64 0) tz3 v3_5 rfl rfl (show 0+1≤1 by decide) rfl
  have v1_120:=(q120 S.next (by omega)).trans v1_5
  have v2_120:=(q120 S1.next (by omega)).trans v2_5
  have v4_120:=(q120 S3.next (by omega)).trans v4_5
  have g120:Agree S S120:=⟨by have:=(g5).1; omega,fun id hid=>(q120 id (by have:=(g5).1; omega)).trans ((g5).2 id hid)⟩
  obtain ⟨S121,k121,n121,b121,q121⟩:=st_at (o:=0) (c':=[.int .i64 (r69 rn)]) (v:=.int .i64 (r69 rn)) tz34 v4_120 rfl rfl (show 0+1≤1 by decide) rfl
  have v1_121:=(q121 S.next (by omega)).trans v1_120
  have v2_121:=(q121 S1.next (by omega)).trans v2_120
  have v3_121:=(q121 S2.next (by omega)).trans b120
  have g121:Agree S S121:=⟨by have:=(g120).1; omega,fun id hid=>(q121 id (by have:=(g120).1; omega)).trans ((g120).2 id hid)⟩
  try simp (disch:=first|omega|assumption) only [E0_G,SY,setArgs,off,agreeKind,partVals,vals,allocV,boxed,ldA,rdCells,oneB,aggD,aField,aFieldV,aExtract,eq_self,ne_eq,if_true,if_false,not_false_eq_true,Nat.reduceAdd,Nat.reduceSub,Nat.reduceMul,Nat.reduceLT,Nat.reduceEqDiff,Nat.reduceBEq,reduceIte,Int.reduceEq,Int.reduceLT,Int.reduceLE,reduceCtorEq,TY_EvW4,s1,e1,b1,v1_2,s2,e2,b2,v1_3,v2_3,s3,e3,b3,v1_4,v2_4,v3_4,s4,e4,b4,k5,s5,v1_5,v2_5,v3_5,v4_5,h6a,v1_120,v2_120,v4_120,k120,b120,v1_121,v2_121,v3_121,k121,b121] at hz
  have hr:r67 rn a=(0,(r69 rn)):=(if_neg h6).trans (rfl)
  exact fin hz (by rw [hr]) g121
end Clock
end Go.Proofs
end
section
set_option linter.unusedSimpArgs false
set_option linter.unusedVariables false
namespace Go.Proofs
namespace Clock
open Go Go.RowKit Go.Aev
set_option maxRecDepth 100000
theorem tz4:szOf Tryz.prog 4=some 1:=by kernel_rfl
theorem tt4:inTab Tryz.prog 4=true:=by kernel_rfl
theorem t0_4:zeroOf Tryz.prog 4=some (.bool false):=by kernel_rfl
theorem TY_EvW5:type_of% (And.intro (And.intro (And.intro (And.intro (And.intro (And.intro (And.intro Tryz.underlying3 tz3) (And.intro tt3 t0_3)) (And.intro (And.intro Tryz.underlying4 tz4) (And.intro tt4 t0_4))) (And.intro (And.intro (And.intro Tryz.underlying22 tz22) (And.intro tt22 t0_22)) (And.intro (And.intro Tryz.underlying23 tz23) (And.intro tt23 t0_23)))) (And.intro (And.intro (And.intro (And.intro Tryz.underlying24 tz24) (And.intro tt24 t0_24)) (And.intro (And.intro Tryz.underlying25 tz25) (And.intro tt25 t0_25))) (And.intro (And.intro (And.intro Tryz.underlying26 tz26) (And.intro tt26 t0_26)) (And.intro (And.intro Tryz.underlying27 tz27) (And.intro tt27 (And.intro t0_27 Tryz.underlying28)))))) (And.intro (And.intro (And.intro (And.intro (And.intro tz28 tt28) (And.intro t0_28 Tryz.underlying29)) (And.intro (And.intro tz29 tt29) (And.intro t0_29 Tryz.underlying30))) (And.intro (And.intro (And.intro tz30 tt30) (And.intro t0_30 Tryz.underlying31)) (And.intro (And.intro tz31 tt31) (And.intro t0_31 Tryz.underlying34)))) (And.intro (And.intro (And.intro (And.intro tz34 tt34) (And.intro t0_34 Tryz.underlying36)) (And.intro (And.intro tz36 tt36) (And.intro t0_36 Tryz.underlying39))) (And.intro (And.intro (And.intro tz39 tt39) (And.intro t0_39 Tryz.underlying54)) (And.intro (And.intro tz54 tt54) (And.intro t0_54 (And.intro Tryz.underlying92 tz92))))))) (And.intro (And.intro (And.intro (And.intro (And.intro (And.intro tt92 t0_92) (And.intro Tryz.underlying93 tz93)) (And.intro (And.intro tt93 t0_93) (And.intro Tryz.underlying94 tz94))) (And.intro (And.intro (And.intro tt94 t0_94) (And.intro Tryz.underlying103 tz103)) (And.intro (And.intro tt103 t0_103) (And.intro Tryz.underlying104 tz104)))) (And.intro (And.intro (And.intro (And.intro tt104 t0_104) (And.intro Tryz.underlying106 tz106)) (And.intro (And.intro tt106 t0_106) (And.intro Tryz.underlying107 tz107))) (And.intro (And.intro (And.intro tt107 t0_107) (And.intro Tryz.underlying111 tz111)) (And.intro (And.intro tt111 t0_111) (And.intro Tryz.underlying112 (And.intro tz112 tt112)))))) (And.intro (And.intro (And.intro (And.intro (And.intro t0_112 Tryz.underlying114) (And.intro tz114 tt114)) (And.intro (And.intro t0_114 Tryz.underlying115) (And.intro tz115 tt115))) (And.intro (And.intro (And.intro t0_115 Tryz.underlying116) (And.intro tz116 tt116)) (And.intro (And.intro t0_116 Tryz.underlying117) (And.intro tz117 tt117)))) (And.intro (And.intro (And.intro (And.intro t0_117 Tryz.underlying130) (And.intro tz130 tt130)) (And.intro (And.intro t0_130 Tryz.underlying131) (And.intro tz131 tt131))) (And.intro (And.intro (And.intro t0_131 Tryz.underlying164) (And.intro tz164 tt164)) (And.intro (And.intro t0_164 Tryz.underlying165) (And.intro tz165 (And.intro tt165 t0_165)))))))):=(And.intro (And.intro (And.intro (And.intro (And.intro (And.intro (And.intro Tryz.underlying3 tz3) (And.intro tt3 t0_3)) (And.intro (And.intro Tryz.underlying4 tz4) (And.intro tt4 t0_4))) (And.intro (And.intro (And.intro Tryz.underlying22 tz22) (And.intro tt22 t0_22)) (And.intro (And.intro Tryz.underlying23 tz23) (And.intro tt23 t0_23)))) (And.intro (And.intro (And.intro (And.intro Tryz.underlying24 tz24) (And.intro tt24 t0_24)) (And.intro (And.intro Tryz.underlying25 tz25) (And.intro tt25 t0_25))) (And.intro (And.intro (And.intro Tryz.underlying26 tz26) (And.intro tt26 t0_26)) (And.intro (And.intro Tryz.underlying27 tz27) (And.intro tt27 (And.intro t0_27 Tryz.underlying28)))))) (And.intro (And.intro (And.intro (And.intro (And.intro tz28 tt28) (And.intro t0_28 Tryz.underlying29)) (And.intro (And.intro tz29 tt29) (And.intro t0_29 Tryz.underlying30))) (And.intro (And.intro (And.intro tz30 tt30) (And.intro t0_30 Tryz.underlying31)) (And.intro (And.intro tz31 tt31) (And.intro t0_31 Tryz.underlying34)))) (And.intro (And.intro (And.intro (And.intro tz34 tt34) (And.intro t0_34 Tryz.underlying36)) (And.intro (And.intro tz36 tt36) (And.intro t0_36 Tryz.underlying39))) (And.intro (And.intro (And.intro tz39 tt39) (And.intro t0_39 Tryz.underlying54)) (And.intro (And.intro tz54 tt54) (And.intro t0_54 (And.intro Tryz.underlying92 tz92))))))) (And.intro (And.intro (And.intro (And.intro (And.intro (And.intro tt92 t0_92) (And.intro Tryz.underlying93 tz93)) (And.intro (And.intro tt93 t0_93) (And.intro Tryz.underlying94 tz94))) (And.intro (And.intro (And.intro tt94 t0_94) (And.intro Tryz.underlying103 tz103)) (And.intro (And.intro tt103 t0_103) (And.intro Tryz.underlying104 tz104)))) (And.intro (And.intro (And.intro (And.intro tt104 t0_104) (And.intro Tryz.underlying106 tz106)) (And.intro (And.intro tt106 t0_106) (And.intro Tryz.underlying107 tz107))) (And.intro (And.intro (And.intro tt107 t0_107) (And.intro Tryz.underlying111 tz111)) (And.intro (And.intro tt111 t0_111) (And.intro Tryz.underlying112 (And.intro tz112 tt112)))))) (And.intro (And.intro (And.intro (And.intro (And.intro t0_112 Tryz.underlying114) (And.intro tz114 tt114)) (And.intro (And.intro t0_114 Tryz.underlying115) (And.intro tz115 tt115))) (And.intro (And.intro (And.intro t0_115 Tryz.underlying116) (And.intro tz116 tt116)) (And.intro (And.intro t0_116 Tryz.underlying117) (And.intro tz117 tt117)))) (And.intro (And.intro (And.intro (And.intro t0_117 Tryz.underlying130) (And.intro tz130 tt130)) (And.intro (And.intro t0_130 Tryz.underlying131) (And.intro tz131 tt131))) (And.intro (And.intro (And.intro t0_131 Tryz.underlying164) (And.intro tz164 tt164)) (And.intro (And.intro t0_164 Tryz.underlying165) (And.intro tz165 (And.intro tt165 t0_165))))))))
structure Mo where
 time:Int
 micro:Int
deriving DecidableEq
instance:Inhabited Mo:=⟨⟨0,0⟩⟩
instance:Flat Mo:=⟨[.i64,.i64],fun x=>[x.time,x.micro],fun _=>rfl⟩
def r161 (x:Stp) (mo:Mo):Bool:=decide (x.at_=(r119 mo.time mo.micro))
set_option maxHeartbeats 2000000 in
theorem c161 (x:Stp) (mo:Mo)  (S:AS) (p_mo:Nat) (g_mo:S.heap.get p_mo=some (.cells [.int .i64 mo.time,.int .i64 mo.micro] 165 0 true true)) (l_mo:p_mo<S.next) :
  ∃ S',(evL Tryz.prog E0).call 161 #[.agg #[.int .i64 x.at_,.int .i64 x.lo,.int .i64 x.hi],.pointer (some ⟨p_mo,0,none⟩)] S=some (.bool (r161 x mo),S')∧Agree S S':=by
 generalize hz:(evL Tryz.prog E0).call 161 _ _=z
 rw [L_call,evCall_said rfl Tryz.func161 rfl (by decide) Tryz.ntmps161 Tryz.results161] at hz
 obtain ⟨S1,e1,n1,b1,a1⟩:=push_open S (.cells [.int .i64 x.at_,.int .i64 x.lo,.int .i64 x.hi] 117 0 true true)
 have vmo_1:=(a1.2 p_mo (by omega)).trans g_mo
 have g1:Agree S S1:=a1
 have s1:E0.same S S1=true:=symEnv_same a1
 try simp (disch:=first|omega|assumption) only [E0_G,SY,setArgs,off,agreeKind,partVals,vals,allocV,boxed,ldA,rdCells,oneB,aggD,aField,aFieldV,aExtract,eq_self,ne_eq,if_true,if_false,not_false_eq_true,Nat.reduceAdd,Nat.reduceSub,Nat.reduceMul,Nat.reduceLT,Nat.reduceEqDiff,Nat.reduceBEq,reduceIte,Int.reduceEq,Int.reduceLT,Int.reduceLE,reduceCtorEq,TY_EvW5,g_mo,vmo_1,s1,e1,b1] at hz
 rw [code_draws _ _ _ (by kernel_rfl)] at hz
 generalize hnd2:needy _=nd2 at hz
 obtain ⟨S3,k3,a3⟩:=c119 mo.time mo.micro  S1
 have l3:=a3.1
 have s3:E0.same S1 S3=true:=symEnv_same a3
 have vmo_3:=(a3.2 p_mo (by omega)).trans vmo_1
 have v1_3:=(a3.2 S.next (by omega)).trans b1
 have g3:Agree S S3:=g1.trans a3
 try simp (disch:=first|omega|assumption) only [E0_G,SY,setArgs,off,agreeKind,partVals,vals,allocV,boxed,ldA,rdCells,oneB,aggD,aField,aFieldV,aExtract,eq_self,ne_eq,if_true,if_false,not_false_eq_true,Nat.reduceAdd,Nat.reduceSub,Nat.reduceMul,Nat.reduceLT,Nat.reduceEqDiff,Nat.reduceBEq,reduceIte,Int.reduceEq,Int.reduceLT,Int.reduceLE,reduceCtorEq,TY_EvW5,g_mo,vmo_1,s1,e1,b1,store_agree,store_refl E0_same,k3,s3,vmo_3,v1_3] at hz
 have hr:r161 x mo=decide (x.at_=(r119 mo.time mo.micro)):=rfl
 exact fin hz (by rw [hr]) g3
def R160_0 (l:List Stp) (mo:Mo)  : List Stp→Nat→Sum (Int) (Unit)
 | [],k=>.inr ()
 | x2 :: l',k=>(if (r161 x2 mo)=true then .inl (k:Int) else R160_0 l mo l' (k+1))
def r160 (l:List Stp) (mo:Mo):Int:=(onSum (R160_0 l mo l 0) (fun (r4:Int)=>r4) (fun (_:Unit) => -1))
set_option maxHeartbeats 2000000 in
theorem c160 (l:List Stp) (mo:Mo) (hl:l.length≤100) (S:AS) (v_l:Value) (hv_l:Lst S v_l l) (p_mo:Nat) (g_mo:S.heap.get p_mo=some (.cells [.int .i64 mo.time,.int .i64 mo.micro] 165 0 true true)) (l_mo:p_mo<S.next) :
  ∃ S',(evL Tryz.prog E0).call 160 #[v_l,.func (.func 161) #[] #[.pointer (some ⟨p_mo,0,none⟩)]] S=some (.int .i64 (r160 l mo),S')∧Agree S S':=by
 generalize hz:(evL Tryz.prog E0).call 160 _ _=z
 rw [L_call,evCall_said rfl Tryz.func160 rfl (by decide) Tryz.ntmps160 Tryz.results160] at hz
 have w1:=(hv_l).len (P:=Tryz.prog) (t:=24) Tryz.underlying24
 try simp (disch:=first|omega|assumption) only [E0_G,SY,setArgs,off,agreeKind,partVals,vals,allocV,boxed,ldA,rdCells,oneB,aggD,aField,aFieldV,aExtract,eq_self,ne_eq,if_true,if_false,not_false_eq_true,Nat.reduceAdd,Nat.reduceSub,Nat.reduceMul,Nat.reduceLT,Nat.reduceEqDiff,Nat.reduceBEq,reduceIte,Int.reduceEq,Int.reduceLT,Int.reduceLE,reduceCtorEq,TY_EvW5,g_mo,w1] at hz
 generalize hL2:Rec.loop _ _ _ _=L2 at hz
 obtain ⟨x2,t2,S2e,rfl,hQ2⟩:=loop_met hL2 (fun m t S'=>∃ (k:Nat),m+k=l.length∧k≤l.length∧t.get 0=some (v_l)∧t.get 1=some (.func (.func 161) #[] #[.pointer (some ⟨p_mo,0,none⟩)])∧t.get 7=some (.int .i64 (l.length:Int))∧t.get 8=some (.int .i64 (k:Int))∧S'.heap.get p_mo=some (.cells [.int .i64 mo.time,.int .i64 mo.micro] 165 0 true true)∧Agree S S'∧S.next≤S'.next∧R160_0 l mo (l.drop k) k=R160_0 l mo l 0)
  (fun x t S'=>(x=.exit 0∧∃ (k:Nat),S'.heap.get p_mo=some (.cells [.int .i64 mo.time,.int .i64 mo.micro] 165 0 true true)∧Agree S S'∧S.next≤S'.next∧k≤l.length∧R160_0 l mo l 0=.inr ())∨(x=.ret∧∃ (r4:Int),t.get 4=some (.int .i64 r4)∧Agree S S'∧R160_0 l mo l 0=.inl (r4))) (l.length - 0) (by refine ⟨0,?_,?_,?_,?_,?_,?_,g_mo,(Agree.refl S),Nat.le_refl _,rfl⟩<;>first|(simp only [SY,setArgs,off,agreeKind,partVals,vals,allocV,boxed,ldA,rdCells,oneB,aggD,aField,aFieldV,aExtract,eq_self,ne_eq,if_true,if_false,not_false_eq_true,Nat.reduceAdd,Nat.reduceSub,Nat.reduceMul,Nat.reduceLT,Nat.reduceEqDiff,Nat.reduceBEq,reduceIte,Int.reduceEq,Int.reduceLT,Int.reduceLE,reduceCtorEq,g_mo]<;>rfl)|omega|assumption|(simp; omega)|simp) (by
   rintro m t S2 ⟨k,hi2_0,hi2_1,g2_0,g2_1,g2_7,g2_8,bb2_mo,ga2,gn2,hd2⟩
   refine .run fun z he=>?_
   try simp (disch:=first|omega|assumption) only [E0_G,SY,setArgs,off,agreeKind,partVals,vals,allocV,boxed,ldA,rdCells,oneB,aggD,aField,aFieldV,aExtract,eq_self,ne_eq,if_true,if_false,not_false_eq_true,Nat.reduceAdd,Nat.reduceSub,Nat.reduceMul,Nat.reduceLT,Nat.reduceEqDiff,Nat.reduceBEq,reduceIte,Int.reduceEq,Int.reduceLT,Int.reduceLE,reduceCtorEq,TY_EvW5,g2_0,g2_1,g2_7,g2_8,bb2_mo,w1] at he
   rcases dP ((k:Int)<(l.length:Int)) with ⟨h3a,h3⟩|⟨h3a,h3⟩
   ·skip
    have hx2:l[k]?=some (l[k]'(by first|omega|simp; omega)):=List.getElem?_eq_getElem _
    generalize l[k]'_=x2 at hx2
    obtain ⟨id4,of4,cc4,ty4,wr4,ex4,i4,j4,l4,q4⟩:=(hv_l).at (P:=Tryz.prog) (t:=24) Tryz.underlying24 tz117 hx2
    have jr4:=j4
    have j4:=(ga2.2 id4 l4).trans jr4
    have m4_0:cc4[of4]?=some (.int .i64 x2.at_):=q4 0 (show 0<3 by decide)
    have m4_1:cc4[of4+1]?=some (.int .i64 x2.lo):=q4 1 (show 1<3 by decide)
    have m4_2:cc4[of4+2]?=some (.int .i64 x2.hi):=q4 2 (show 2<3 by decide)
    obtain ⟨S5,k5,a5⟩:=c161 x2 mo  S2 p_mo bb2_mo (by omega)
    have l5:=a5.1
    have s5:E0.same S2 S5=true:=symEnv_same a5
    have vmo_5:=(a5.2 p_mo (by omega)).trans bb2_mo
    have v4_5:=(a5.2 id4 (by omega)).trans j4
    have g5:Agree S S5:=ga2.trans a5
    try simp (disch:=first|omega|assumption) only [E0_G,SY,setArgs,off,agreeKind,partVals,vals,allocV,boxed,ldA,rdCells,oneB,aggD,aField,aFieldV,aExtract,eq_self,ne_eq,if_true,if_false,not_false_eq_true,Nat.reduceAdd,Nat.reduceSub,Nat.reduceMul,Nat.reduceLT,Nat.reduceEqDiff,Nat.reduceBEq,reduceIte,Int.reduceEq,Int.reduceLT,Int.reduceLE,reduceCtorEq,TY_EvW5,g2_0,g2_1,g2_7,g2_8,bb2_mo,w1,h3a,i4,j4,m4_0,m4_1,m4_2,k5,s5,vmo_5,v4_5] at he
    rcases dB ((r161 x2 mo)) with ⟨h6a,h6⟩|⟨h6a,h6⟩
    ·skip
     try simp (disch:=first|omega|assumption) only [E0_G,SY,setArgs,off,agreeKind,partVals,vals,allocV,boxed,ldA,rdCells,oneB,aggD,aField,aFieldV,aExtract,eq_self,ne_eq,if_true,if_false,not_false_eq_true,Nat.reduceAdd,Nat.reduceSub,Nat.reduceMul,Nat.reduceLT,Nat.reduceEqDiff,Nat.reduceBEq,reduceIte,Int.reduceEq,Int.reduceLT,Int.reduceLE,reduceCtorEq,TY_EvW5,g2_0,g2_1,g2_7,g2_8,bb2_mo,w1,h3a,i4,j4,m4_0,m4_1,m4_2,k5,s5,vmo_5,v4_5,h6a] at he
     rw [drop_cons' hx2] at hd2
     have hf:=(show _=(.inl (k:Int):Sum (Int) (Unit)) from (if_pos h6).trans (rfl)).symm.trans hd2
     refine .ret he (.inr ⟨rfl,⟨(k:Int),?_,g5,hf.symm⟩⟩)<;>first|(simp only [SY,setArgs,off,agreeKind,partVals,vals,allocV,boxed,ldA,rdCells,oneB,aggD,aField,aFieldV,aExtract,eq_self,ne_eq,if_true,if_false,not_false_eq_true,Nat.reduceAdd,Nat.reduceSub,Nat.reduceMul,Nat.reduceLT,Nat.reduceEqDiff,Nat.reduceBEq,reduceIte,Int.reduceEq,Int.reduceLT,Int.reduceLE,reduceCtorEq,g2_0,g2_1,g2_7,g2_8]<;>rfl)|omega|assumption|(simp; omega)|simp
    ·skip
     have w7:IntKind.i64.wrap ((k:Int)+1)=((k+1:Nat):Int):=by rw [IntWalk.i64_in]<;>omega
     try simp (disch:=first|omega|assumption) only [E0_G,SY,setArgs,off,agreeKind,partVals,vals,allocV,boxed,ldA,rdCells,oneB,aggD,aField,aFieldV,aExtract,eq_self,ne_eq,if_true,if_false,not_false_eq_true,Nat.reduceAdd,Nat.reduceSub,Nat.reduceMul,Nat.reduceLT,Nat.reduceEqDiff,Nat.reduceBEq,reduceIte,Int.reduceEq,Int.reduceLT,Int.reduceLE,reduceCtorEq,TY_EvW5,g2_0,g2_1,g2_7,g2_8,bb2_mo,w1,h3a,i4,j4,m4_0,m4_1,m4_2,k5,s5,vmo_5,v4_5,h6a,w7] at he
     rw [drop_cons' hx2] at hd2
     have hf:=(show _=(R160_0 l mo (l.drop (k+1)) (k+1):Sum (Int) (Unit)) from (if_neg h6).trans (rfl)).symm.trans hd2
     refine .next he (m - 1) (by omega) ⟨(k+1),?_,?_,?_,?_,?_,?_,vmo_5,g5,by omega,hf⟩<;>first|(simp only [SY,setArgs,off,agreeKind,partVals,vals,allocV,boxed,ldA,rdCells,oneB,aggD,aField,aFieldV,aExtract,eq_self,ne_eq,if_true,if_false,not_false_eq_true,Nat.reduceAdd,Nat.reduceSub,Nat.reduceMul,Nat.reduceLT,Nat.reduceEqDiff,Nat.reduceBEq,reduceIte,Int.reduceEq,Int.reduceLT,Int.reduceLE,reduceCtorEq,g2_0,g2_1,g2_7,g2_8]<;>rfl)|omega|assumption|(simp; omega)|simp
   ·skip
    try simp (disch:=first|omega|assumption) only [E0_G,SY,setArgs,off,agreeKind,partVals,vals,allocV,boxed,ldA,rdCells,oneB,aggD,aField,aFieldV,aExtract,eq_self,ne_eq,if_true,if_false,not_false_eq_true,Nat.reduceAdd,Nat.reduceSub,Nat.reduceMul,Nat.reduceLT,Nat.reduceEqDiff,Nat.reduceBEq,reduceIte,Int.reduceEq,Int.reduceLT,Int.reduceLE,reduceCtorEq,TY_EvW5,g2_0,g2_1,g2_7,g2_8,bb2_mo,w1,h3a] at he
    rw [List.drop_eq_nil_of_le (show l.length≤k by omega)] at hd2
    have hf:=(show _=(.inr ():Sum (Int) (Unit)) from rfl).symm.trans hd2
    refine .exit he (.inl ⟨rfl,⟨k,bb2_mo,ga2,by omega,?_,hf.symm⟩⟩)<;>first|(simp only [SY,setArgs,off,agreeKind,partVals,vals,allocV,boxed,ldA,rdCells,oneB,aggD,aField,aFieldV,aExtract,eq_self,ne_eq,if_true,if_false,not_false_eq_true,Nat.reduceAdd,Nat.reduceSub,Nat.reduceMul,Nat.reduceLT,Nat.reduceEqDiff,Nat.reduceBEq,reduceIte,Int.reduceEq,Int.reduceLT,Int.reduceLE,reduceCtorEq,g2_0,g2_1,g2_7,g2_8]<;>rfl)|omega|assumption|(simp; omega)|simp)
 rcases hQ2 with ⟨rfl,hQ2⟩|⟨rfl,hQ2⟩
 ·skip
  obtain ⟨k,be2_mo,ge2,gm2,hj2_0,hR2⟩:=hQ2
  try simp (disch:=first|omega|assumption) only [E0_G,SY,setArgs,off,agreeKind,partVals,vals,allocV,boxed,ldA,rdCells,oneB,aggD,aField,aFieldV,aExtract,eq_self,ne_eq,if_true,if_false,not_false_eq_true,Nat.reduceAdd,Nat.reduceSub,Nat.reduceMul,Nat.reduceLT,Nat.reduceEqDiff,Nat.reduceBEq,reduceIte,Int.reduceEq,Int.reduceLT,Int.reduceLE,reduceCtorEq,TY_EvW5,w1,be2_mo] at hz
  have hr:r160 l mo = -1:=(onSum_inr hR2).trans (rfl)
  exact fin hz (by rw [hr]) ge2
 ·skip
  obtain ⟨r4,ge2_4,ge2,hR2⟩:=hQ2
  try simp (disch:=first|omega|assumption) only [E0_G,SY,setArgs,off,agreeKind,partVals,vals,allocV,boxed,ldA,rdCells,oneB,aggD,aField,aFieldV,aExtract,eq_self,ne_eq,if_true,if_false,not_false_eq_true,Nat.reduceAdd,Nat.reduceSub,Nat.reduceMul,Nat.reduceLT,Nat.reduceEqDiff,Nat.reduceBEq,reduceIte,Int.reduceEq,Int.reduceLT,Int.reduceLE,reduceCtorEq,TY_EvW5,w1,ge2_4] at hz
  have hr:r160 l mo=r4:=(onSum_inl hR2).trans (rfl)
  exact fin hz (by rw [hr]) ge2
theorem R160_lt (l:List Stp) (mo:Mo):∀ (l':List Stp) (k:Nat) (q:Int),R160_0 l mo l' k=.inl q→q<(k+l'.length:Int)
 | [],k,q,h=>by simp [R160_0] at h
 | y :: l',k,q,h=>by
  unfold R160_0 at h
  split at h
  ·simp only [Sum.inl.injEq] at h
   subst h; simp; omega
  ·have:=R160_lt l mo l' (k+1) q h
   simp only [List.length_cons] at *
   omega
theorem r160_lt (l:List Stp) (mo:Mo):r160 l mo<(l.length:Int):=by
 unfold r160
 cases h:R160_0 l mo l 0 with
 | inl q=>have:=R160_lt l mo l 0 q h; simp [onSum]; omega
 | inr q=>simp [onSum]; omega
def R122_159_0 (s:Se) (rn:Rn)  : List Lg→Nat→Int→Int→List Int→Sum (Unit) ((List Int))
 | [],k,mt,mm,sd=>.inr sd
 | x166 :: l',k,mt,mm,sd=>(if x166.rate=0 then (if (r160 (s.stops:List Stp) (⟨mt,mm⟩:Mo))<0 then .inl () else R122_159_0 s rn l' (k+1) (((r118 mt mm x166.secs x166.rate)).1) (((r118 mt mm x166.secs x166.rate)).2) (sd.set (Int.toNat (r160 (s.stops:List Stp) (⟨mt,mm⟩:Mo))) (IntKind.i64.wrap ((lget sd (Int.toNat (r160 (s.stops:List Stp) (⟨mt,mm⟩:Mo))))+x166.secs)))) else R122_159_0 s rn l' (k+1) (((r118 mt mm x166.secs x166.rate)).1) (((r118 mt mm x166.secs x166.rate)).2) sd)
def R122_0 (s:Se) (rn:Rn) (sd:List Int):List Stp→Nat→Sum (Bool) (Unit)
 | [],k2=>.inr ()
 | x298 :: l',k2=>(if (r120 x298.lo x298.hi (lget sd k2))=true then R122_0 s rn sd l' (k2+1) else .inl false)
def r122 (s:Se) (rn:Rn):Bool:=(onSum (R122_159_0 s rn rn.legs 0 rn.start rn.micro (List.replicate s.stops.length (0:Int))) (fun (_:Unit)=>false) (fun (sd:(List Int))=>(onSum (R122_0 s rn sd s.stops 0) (fun (r4_0:Bool)=>r4_0) (fun (_:Unit)=>true))))
set_option maxHeartbeats 2000000 in
theorem c122 (s:Se) (rn:Rn) (hl:rn.legs.length≤60) (hp:s.stops.length≤12) (S:AS) (v_s_stops:Value) (hv_s_stops:Lst S v_s_stops s.stops) (v_rn_legs:Value) (hv_rn_legs:Lst S v_rn_legs rn.legs) :
  ∃ S',(evL Tryz.prog E0).call 122 #[.agg #[.int .i64 s.id,.int .i64 s.inLo,.int .i64 s.inHi,.int .i64 s.outLo,.int .i64 s.outHi,.int .i64 s.zLo,.int .i64 s.zHi,.int .i64 s.eLo,.int .i64 s.eHi,.int .i64 s.rLo,.int .i64 s.rHi,v_s_stops],.agg #[.int .i64 rn.start,.int .i64 rn.micro,v_rn_legs]] S=some (.bool (r122 s rn),S')∧Agree S S':=by
 generalize hz:(evL Tryz.prog E0).call 122 _ _=z
 rw [L_call,evCall_said rfl Tryz.func122 rfl (by decide) Tryz.ntmps122 Tryz.results122] at hz
 obtain ⟨S1,e1,n1,b1,a1⟩:=push_open S (.cells [.int .i64 s.id,.int .i64 s.inLo,.int .i64 s.inHi,.int .i64 s.outLo,.int .i64 s.outHi,.int .i64 s.zLo,.int .i64 s.zHi,.int .i64 s.eLo,.int .i64 s.eHi,.int .i64 s.rLo,.int .i64 s.rHi,v_s_stops] 26 0 true true)
 have g1:Agree S S1:=a1
 have s1:E0.same S S1=true:=symEnv_same a1
 obtain ⟨S2,e2,n2,b2,a2⟩:=push_open S1 (.cells [.int .i64 rn.start,.int .i64 rn.micro,v_rn_legs] 94 0 true true)
 have v1_2:=(a2.2 S.next (by omega)).trans b1
 have g2:Agree S S2:=g1.trans a2
 have s2:E0.same S1 S2=true:=symEnv_same a2
 obtain ⟨S3,e3,n3,b3,a3⟩:=push_open S2 (.cells [.bool false] 4 0 true true)
 have v1_3:=(a3.2 S.next (by omega)).trans v1_2
 have v2_3:=(a3.2 S1.next (by omega)).trans b2
 have g3:Agree S S3:=g2.trans a3
 have s3:E0.same S2 S3=true:=symEnv_same a3
 have w4:=(hv_s_stops.agree g3).len (P:=Tryz.prog) (t:=24) Tryz.underlying24
 obtain ⟨u5,S5,k5,vq5,a5,oo5⟩:=make_own (P:=Tryz.prog) (t:=31) (el:=3) (x0:=(0:Int)) (n:=s.stops.length) (k:=.i64) (k':=.i64) S3 Tryz.underlying31 ti3 t0_3 rfl tz3 rfl (by omega)
 subst vq5
 have l5:=a5.1
 have s5:E0.same S3 S5=true:=symEnv_same a5
 have v1_5:=(a5.2 S.next (by omega)).trans v1_3
 have v2_5:=(a5.2 S1.next (by omega)).trans v2_3
 have v3_5:=(a5.2 S2.next (by omega)).trans b3
 have g5:Agree S S5:=g3.trans a5
 obtain ⟨S6,e6,n6,b6,a6⟩:=push_open S5 (.cells [.slice none 0 0] 31 0 true true)
 have v1_6:=(a6.2 S.next (by omega)).trans v1_5
 have v2_6:=(a6.2 S1.next (by omega)).trans v2_5
 have v3_6:=(a6.2 S2.next (by omega)).trans v3_5
 have o5_7:=oo5.agree a6
 have g6:Agree S S6:=g5.trans a6
 have s6:E0.same S5 S6=true:=symEnv_same a6
 have ne8:blkOf (.slice (some ⟨S3.next,0,none⟩) s.stops.length s.stops.length)≠some S5.next:=oo5.new (Nat.le_refl _)
 obtain ⟨S9,k9,n9,b9,q9⟩:=st_at (o:=0) (c':=[.slice (some ⟨S3.next,0,none⟩) s.stops.length s.stops.length]) (v:=.slice (some ⟨S3.next,0,none⟩) s.stops.length s.stops.length) tz31 b6 rfl rfl (show 0+1≤1 by decide) rfl
 have v1_9:=(q9 S.next (by omega)).trans v1_6
 have v2_9:=(q9 S1.next (by omega)).trans v2_6
 have v3_9:=(q9 S2.next (by omega)).trans v3_6
 have o5_10:=o5_7.frame (by omega) (fun id hid hb=>q9 id (fun e=>(show blkOf (.slice (some ⟨S3.next,0,none⟩) s.stops.length s.stops.length)≠some S5.next from by first|exact o5_7.ne (by omega)|exact o5_7.new (by omega)|assumption) (e ▸ hb)))
 have g9:Agree S S9:=⟨by have:=(g6).1; omega,fun id hid=>(q9 id (by have:=(g6).1; omega)).trans ((g6).2 id hid)⟩
 try simp (disch:=first|omega|assumption) only [E0_G,SY,setArgs,off,agreeKind,partVals,vals,allocV,boxed,ldA,rdCells,oneB,aggD,aField,aFieldV,aExtract,eq_self,ne_eq,if_true,if_false,not_false_eq_true,Nat.reduceAdd,Nat.reduceSub,Nat.reduceMul,Nat.reduceLT,Nat.reduceEqDiff,Nat.reduceBEq,reduceIte,Int.reduceEq,Int.reduceLT,Int.reduceLE,reduceCtorEq,TY_EvW5,s1,e1,b1,v1_2,s2,e2,b2,v1_3,v2_3,s3,e3,b3,w4,k5,s5,op_makeSlice,v1_5,v2_5,v3_5,v1_6,v2_6,v3_6,s6,e6,b6,v1_9,v2_9,v3_9,k9,b9] at hz
 generalize hc11:(evL Tryz.prog E0).call 117 _ _=zc11 at hz
 rw [L_call,evCall_said rfl Tryz.func117 rfl (by decide) Tryz.ntmps117 Tryz.results117] at hc11
 obtain ⟨S12,e12,n12,b12,a12⟩:=push_open S9 (.cells [.int .i64 rn.start,.int .i64 rn.micro,v_rn_legs] 94 0 true true)
 have v1_12:=(a12.2 S.next (by omega)).trans v1_9
 have v2_12:=(a12.2 S1.next (by omega)).trans v2_9
 have v3_12:=(a12.2 S2.next (by omega)).trans v3_9
 have v6_12:=(a12.2 S5.next (by omega)).trans b9
 have o5_13:=o5_10.agree a12
 have g12:Agree S S12:=g9.trans a12
 have s12:E0.same S9 S12=true:=symEnv_same a12
 have ne14:blkOf (.slice (some ⟨S3.next,0,none⟩) s.stops.length s.stops.length)≠some S9.next:=o5_10.new (Nat.le_refl _)
 try simp (disch:=first|omega|assumption) only [E0_G,SY,setArgs,off,agreeKind,partVals,vals,allocV,boxed,ldA,rdCells,oneB,aggD,aField,aFieldV,aExtract,eq_self,ne_eq,if_true,if_false,not_false_eq_true,Nat.reduceAdd,Nat.reduceSub,Nat.reduceMul,Nat.reduceLT,Nat.reduceEqDiff,Nat.reduceBEq,reduceIte,Int.reduceEq,Int.reduceLT,Int.reduceLE,reduceCtorEq,TY_EvW5,s1,e1,b1,v1_2,s2,e2,b2,v1_3,v2_3,s3,e3,b3,w4,k5,s5,op_makeSlice,v1_5,v2_5,v3_5,v1_6,v2_6,v3_6,s6,e6,b6,v1_9,v2_9,v3_9,k9,b9,v1_12,v2_12,v3_12,v6_12,s12,e12,b12,op_makeFunc1,op_makeFunc2] at hc11
 subst hc11
 try simp (disch:=first|omega|assumption) only [E0_G,SY,setArgs,off,agreeKind,partVals,vals,allocV,boxed,ldA,rdCells,oneB,aggD,aField,aFieldV,aExtract,eq_self,ne_eq,if_true,if_false,not_false_eq_true,Nat.reduceAdd,Nat.reduceSub,Nat.reduceMul,Nat.reduceLT,Nat.reduceEqDiff,Nat.reduceBEq,reduceIte,Int.reduceEq,Int.reduceLT,Int.reduceLE,reduceCtorEq,TY_EvW5,s1,e1,b1,v1_2,s2,e2,b2,v1_3,v2_3,s3,e3,b3,w4,k5,s5,op_makeSlice,v1_5,v2_5,v3_5,v1_6,v2_6,v3_6,s6,e6,b6,v1_9,v2_9,v3_9,k9,b9,v1_12,v2_12,v3_12,v6_12,s12,e12,b12,op_makeFunc1,op_makeFunc2] at hz
 generalize hL15:evCode _ _ _ _ (Code.rangeFunc _ _ _ _) _=L15z at hz
 obtain ⟨xx15,S15,rfl,hQ15⟩:=range_in hL15 (fun t=>t.get 2=some (.pointer (some ⟨S.next,0,none⟩))∧t.get 4=some (.pointer (some ⟨S2.next,0,none⟩))∧t.get 5=some (.pointer (some ⟨S5.next,0,none⟩))) (by refine ⟨?_,?_,?_⟩<;>first|(simp (disch:=first|omega|assumption) only [E0_G,SY,setArgs,off,agreeKind,partVals,vals,allocV,boxed,ldA,rdCells,oneB,aggD,aField,aFieldV,aExtract,eq_self,ne_eq,if_true,if_false,not_false_eq_true,Nat.reduceAdd,Nat.reduceSub,Nat.reduceMul,Nat.reduceLT,Nat.reduceEqDiff,Nat.reduceBEq,reduceIte,Int.reduceEq,Int.reduceLT,Int.reduceLE,reduceCtorEq,s1,e1,b1,v1_2,s2,e2,b2,v1_3,v2_3,s3,e3,b3,w4,k5,s5,op_makeSlice,v1_5,v2_5,v3_5,v1_6,v2_6,v3_6,s6,e6,b6,v1_9,v2_9,v3_9,k9,b9,v1_12,v2_12,v3_12,v6_12,s12,e12,b12,op_makeFunc1,op_makeFunc2]<;>rfl)|trivial) (k:=159) (cs:=#[]) (ds:=#[.pointer (some ⟨S9.next,0,none⟩)]) (by simp (disch:=first|omega|assumption) only [E0_G,SY,setArgs,off,agreeKind,partVals,vals,allocV,boxed,ldA,rdCells,oneB,aggD,aField,aFieldV,aExtract,eq_self,ne_eq,if_true,if_false,not_false_eq_true,Nat.reduceAdd,Nat.reduceSub,Nat.reduceMul,Nat.reduceLT,Nat.reduceEqDiff,Nat.reduceBEq,reduceIte,Int.reduceEq,Int.reduceLT,Int.reduceLE,reduceCtorEq,s1,e1,b1,v1_2,s2,e2,b2,v1_3,v2_3,s3,e3,b3,w4,k5,s5,op_makeSlice,v1_5,v2_5,v3_5,v1_6,v2_6,v3_6,s6,e6,b6,v1_9,v2_9,v3_9,k9,b9,v1_12,v2_12,v3_12,v6_12,s12,e12,b12,op_makeFunc1,op_makeFunc2]) ⟨_,rfl⟩ (fun a S'=>rfl) (fun xq S'=>(xq=.normal∧S'.heap.get S12.next=some (.dfd true)∧∃ (sd:List Int),S'.heap.get S.next=some (.cells [.int .i64 s.id,.int .i64 s.inLo,.int .i64 s.inHi,.int .i64 s.outLo,.int .i64 s.outHi,.int .i64 s.zLo,.int .i64 s.zHi,.int .i64 s.eLo,.int .i64 s.eHi,.int .i64 s.rLo,.int .i64 s.rHi,v_s_stops] 26 0 true true)∧S'.heap.get S1.next=some (.cells [.int .i64 rn.start,.int .i64 rn.micro,v_rn_legs] 94 0 true true)∧S'.heap.get S2.next=some (.cells [.bool false] 4 0 true true)∧S'.heap.get S5.next=some (.cells [.slice (some ⟨S3.next,0,none⟩) s.stops.length s.stops.length] 31 0 true true)∧S'.heap.get S9.next=some (.cells [.int .i64 rn.start,.int .i64 rn.micro,v_rn_legs] 94 0 true true)∧Agree S S'∧S12.next+2≤S'.next∧Own 3 S3.next S' (.slice (some ⟨S3.next,0,none⟩) s.stops.length s.stops.length) sd∧blkOf (.slice (some ⟨S3.next,0,none⟩) s.stops.length s.stops.length)≠some S.next∧blkOf (.slice (some ⟨S3.next,0,none⟩) s.stops.length s.stops.length)≠some S1.next∧blkOf (.slice (some ⟨S3.next,0,none⟩) s.stops.length s.stops.length)≠some S2.next∧blkOf (.slice (some ⟨S3.next,0,none⟩) s.stops.length s.stops.length)≠some S5.next∧blkOf (.slice (some ⟨S3.next,0,none⟩) s.stops.length s.stops.length)≠some S9.next∧blkOf (.slice (some ⟨S3.next,0,none⟩) s.stops.length s.stops.length)≠some S12.next∧sd.length=s.stops.length∧R122_159_0 s rn rn.legs 0 rn.start rn.micro (List.replicate s.stops.length (0:Int))=.inr (sd))∨(xq=.ret∧S'.heap.get S12.next=some (.dfd true)∧S'.heap.get S.next=some (.cells [.int .i64 s.id,.int .i64 s.inLo,.int .i64 s.inHi,.int .i64 s.outLo,.int .i64 s.outHi,.int .i64 s.zLo,.int .i64 s.zHi,.int .i64 s.eLo,.int .i64 s.eHi,.int .i64 s.rLo,.int .i64 s.rHi,v_s_stops] 26 0 true true)∧S'.heap.get S1.next=some (.cells [.int .i64 rn.start,.int .i64 rn.micro,v_rn_legs] 94 0 true true)∧S'.heap.get S2.next=some (.cells [.bool false] 4 0 true true)∧S'.heap.get S5.next=some (.cells [.slice (some ⟨S3.next,0,none⟩) s.stops.length s.stops.length] 31 0 true true)∧S'.heap.get S9.next=some (.cells [.int .i64 rn.start,.int .i64 rn.micro,v_rn_legs] 94 0 true true)∧Agree S S'∧S12.next+2≤S'.next∧R122_159_0 s rn rn.legs 0 rn.start rn.micro (List.replicate s.stops.length (0:Int))=.inl ())) (by
   rintro t15 ⟨gt15_2,gt15_4,gt15_5⟩ L15 S15a S15b y15 n15a b15a a15a n15b b15b a15b yq15 hb15 zc15 hc15
   have v1_15a:=(a15a.2 S.next (by omega)).trans v1_12
   have v2_15a:=(a15a.2 S1.next (by omega)).trans v2_12
   have v3_15a:=(a15a.2 S2.next (by omega)).trans v3_12
   have v6_15a:=(a15a.2 S5.next (by omega)).trans v6_12
   have v12_15a:=(a15a.2 S9.next (by omega)).trans b12
   have o5_155:=o5_13.agree a15a
   have g15a:Agree S S15a:=g12.trans a15a
   have ne156:blkOf (.slice (some ⟨S3.next,0,none⟩) s.stops.length s.stops.length)≠some S12.next:=o5_13.new (by omega)
   have v1_15b:=(a15b.2 S.next (by omega)).trans v1_15a
   have v2_15b:=(a15b.2 S1.next (by omega)).trans v2_15a
   have v3_15b:=(a15b.2 S2.next (by omega)).trans v3_15a
   have v6_15b:=(a15b.2 S5.next (by omega)).trans v6_15a
   have v12_15b:=(a15b.2 S9.next (by omega)).trans v12_15a
   have vd15_15b:=(a15b.2 S12.next (by omega)).trans b15a
   have o5_157:=o5_155.agree a15b
   have g15b:Agree S S15b:=g15a.trans a15b
   have ne158:blkOf (.slice (some ⟨S3.next,0,none⟩) s.stops.length s.stops.length)≠some y15:=o5_155.new (by omega)
   have yl15:S.next≤y15:=by have:=(g15b).1; omega
   rw [L_call,evCall_said rfl Tryz.func159 rfl (by decide) Tryz.ntmps159 Tryz.results159] at hc15
   have y159:aBuild Tryz.prog 165 [(0,.int .i64 rn.start),(1,.int .i64 rn.micro)]=some (.agg #[.int .i64 rn.start,.int .i64 rn.micro]):=by kernel_rfl
   obtain ⟨S160,e160,n160,b160,a160⟩:=push_open S15b (.cells [.int .i64 0,.int .i64 0] 165 0 true true)
   have v1_160:=(a160.2 S.next (by omega)).trans v1_15b
   have v2_160:=(a160.2 S1.next (by omega)).trans v2_15b
   have v3_160:=(a160.2 S2.next (by omega)).trans v3_15b
   have v6_160:=(a160.2 S5.next (by omega)).trans v6_15b
   have v12_160:=(a160.2 S9.next (by omega)).trans v12_15b
   have vd15_160:=(a160.2 S12.next (by omega)).trans vd15_15b
   have vl15_160:=(a160.2 y15 (by omega)).trans b15b
   have o5_161:=o5_157.agree a160
   have g160:Agree S S160:=g15b.trans a160
   have s160:E0.same S15b S160=true:=symEnv_same a160
   have ne162:blkOf (.slice (some ⟨S3.next,0,none⟩) s.stops.length s.stops.length)≠some S15b.next:=o5_157.new (Nat.le_refl _)
   obtain ⟨S163,k163,n163,b163,q163⟩:=st_at (o:=0) (c':=[.int .i64 rn.start,.int .i64 rn.micro]) (v:=.agg #[.int .i64 rn.start,.int .i64 rn.micro]) tz165 b160 rfl rfl (show 0+2≤2 by decide) rfl
   have v1_163:=(q163 S.next (by omega)).trans v1_160
   have v2_163:=(q163 S1.next (by omega)).trans v2_160
   have v3_163:=(q163 S2.next (by omega)).trans v3_160
   have v6_163:=(q163 S5.next (by omega)).trans v6_160
   have v12_163:=(q163 S9.next (by omega)).trans v12_160
   have vd15_163:=(q163 S12.next (by omega)).trans vd15_160
   have vl15_163:=(q163 y15 (by omega)).trans vl15_160
   have o5_164:=o5_161.frame (by omega) (fun id hid hb=>q163 id (fun e=>(show blkOf (.slice (some ⟨S3.next,0,none⟩) s.stops.length s.stops.length)≠some S15b.next from by first|exact o5_161.ne (by omega)|exact o5_161.new (by omega)|assumption) (e ▸ hb)))
   have g163:Agree S S163:=⟨by have:=(g160).1; omega,fun id hid=>(q163 id (by have:=(g160).1; omega)).trans ((g160).2 id hid)⟩
   have w165:=(hv_rn_legs.agree g163).len (P:=Tryz.prog) (t:=92) Tryz.underlying92
   try simp (disch:=first|omega|assumption) only [E0_G,SY,setArgs,off,agreeKind,partVals,vals,allocV,boxed,ldA,rdCells,oneB,aggD,aField,aFieldV,aExtract,eq_self,ne_eq,if_true,if_false,not_false_eq_true,Nat.reduceAdd,Nat.reduceSub,Nat.reduceMul,Nat.reduceLT,Nat.reduceEqDiff,Nat.reduceBEq,reduceIte,Int.reduceEq,Int.reduceLT,Int.reduceLE,reduceCtorEq,TY_EvW5,s1,e1,b1,v1_2,s2,e2,b2,v1_3,v2_3,s3,e3,b3,w4,k5,s5,op_makeSlice,v1_5,v2_5,v3_5,v1_6,v2_6,v3_6,s6,e6,b6,v1_9,v2_9,v3_9,k9,b9,v1_12,v2_12,v3_12,v6_12,s12,e12,b12,op_makeFunc1,op_makeFunc2,v1_15a,v2_15a,v3_15a,v6_15a,v12_15a,b15a,v1_15b,v2_15b,v3_15b,v6_15b,v12_15b,vd15_15b,b15b,y159,v1_160,v2_160,v3_160,v6_160,v12_160,vd15_160,vl15_160,s160,e160,b160,v1_163,v2_163,v3_163,v6_163,v12_163,vd15_163,vl15_163,k163,b163,w165] at hc15
   generalize hL166:Rec.loop _ _ _ _=L166 at hc15
   obtain ⟨x166,t166,S166e,rfl,hQ166⟩:=loop_met hL166 (fun m t S'=>∃ (k:Nat) (mt:Int) (mm:Int) (sd:List Int),m+k=rn.legs.length∧sd.length=s.stops.length∧k≤rn.legs.length∧t.get 0=some (.func (.yield y15) #[] #[])∧t.get 3=some (.pointer (some ⟨S15b.next,0,none⟩))∧t.get 12=some (v_rn_legs)∧t.get 13=some (.int .i64 (rn.legs.length:Int))∧t.get 14=some (.int .i64 (k:Int))∧S'.heap.get S15b.next=some (.cells [.int .i64 mt,.int .i64 mm] 165 0 true true)∧S'.heap.get S.next=some (.cells [.int .i64 s.id,.int .i64 s.inLo,.int .i64 s.inHi,.int .i64 s.outLo,.int .i64 s.outHi,.int .i64 s.zLo,.int .i64 s.zHi,.int .i64 s.eLo,.int .i64 s.eHi,.int .i64 s.rLo,.int .i64 s.rHi,v_s_stops] 26 0 true true)∧S'.heap.get S1.next=some (.cells [.int .i64 rn.start,.int .i64 rn.micro,v_rn_legs] 94 0 true true)∧S'.heap.get S2.next=some (.cells [.bool false] 4 0 true true)∧S'.heap.get S5.next=some (.cells [.slice (some ⟨S3.next,0,none⟩) s.stops.length s.stops.length] 31 0 true true)∧S'.heap.get S9.next=some (.cells [.int .i64 rn.start,.int .i64 rn.micro,v_rn_legs] 94 0 true true)∧S'.heap.get y15=some (.loop L15)∧S'.heap.get S12.next=some (.dfd true)∧Agree S S'∧S163.next≤S'.next∧Own 3 S3.next S' (.slice (some ⟨S3.next,0,none⟩) s.stops.length s.stops.length) sd∧R122_159_0 s rn (rn.legs.drop k) k mt mm sd=R122_159_0 s rn rn.legs 0 rn.start rn.micro (List.replicate s.stops.length (0:Int)))
    (fun x t S'=>(x=.exit 0∧∃ (k:Nat) (mt:Int) (mm:Int) (sd:List Int),S'.heap.get S15b.next=some (.cells [.int .i64 mt,.int .i64 mm] 165 0 true true)∧S'.heap.get S.next=some (.cells [.int .i64 s.id,.int .i64 s.inLo,.int .i64 s.inHi,.int .i64 s.outLo,.int .i64 s.outHi,.int .i64 s.zLo,.int .i64 s.zHi,.int .i64 s.eLo,.int .i64 s.eHi,.int .i64 s.rLo,.int .i64 s.rHi,v_s_stops] 26 0 true true)∧S'.heap.get S1.next=some (.cells [.int .i64 rn.start,.int .i64 rn.micro,v_rn_legs] 94 0 true true)∧S'.heap.get S2.next=some (.cells [.bool false] 4 0 true true)∧S'.heap.get S5.next=some (.cells [.slice (some ⟨S3.next,0,none⟩) s.stops.length s.stops.length] 31 0 true true)∧S'.heap.get S9.next=some (.cells [.int .i64 rn.start,.int .i64 rn.micro,v_rn_legs] 94 0 true true)∧S'.heap.get y15=some (.loop L15)∧S'.heap.get S12.next=some (.dfd true)∧Agree S S'∧S163.next≤S'.next∧Own 3 S3.next S' (.slice (some ⟨S3.next,0,none⟩) s.stops.length s.stops.length) sd∧sd.length=s.stops.length∧k≤rn.legs.length∧R122_159_0 s rn rn.legs 0 rn.start rn.micro (List.replicate s.stops.length (0:Int))=.inr sd)∨(x=.ret∧S'.heap.get S.next=some (.cells [.int .i64 s.id,.int .i64 s.inLo,.int .i64 s.inHi,.int .i64 s.outLo,.int .i64 s.outHi,.int .i64 s.zLo,.int .i64 s.zHi,.int .i64 s.eLo,.int .i64 s.eHi,.int .i64 s.rLo,.int .i64 s.rHi,v_s_stops] 26 0 true true)∧S'.heap.get S1.next=some (.cells [.int .i64 rn.start,.int .i64 rn.micro,v_rn_legs] 94 0 true true)∧S'.heap.get S2.next=some (.cells [.bool false] 4 0 true true)∧S'.heap.get S5.next=some (.cells [.slice (some ⟨S3.next,0,none⟩) s.stops.length s.stops.length] 31 0 true true)∧S'.heap.get S9.next=some (.cells [.int .i64 rn.start,.int .i64 rn.micro,v_rn_legs] 94 0 true true)∧S'.heap.get y15=some (.loop (doneL L15 .ret))∧S'.heap.get S12.next=some (.dfd true)∧S163.next≤S'.next∧Agree S S'∧R122_159_0 s rn rn.legs 0 rn.start rn.micro (List.replicate s.stops.length (0:Int))=.inl ())) (rn.legs.length - 0) (by refine ⟨0,rn.start,rn.micro,(List.replicate s.stops.length (0:Int)),?_,?_,?_,?_,?_,?_,?_,?_,b163,v1_163,v2_163,v3_163,v6_163,v12_163,vl15_163,vd15_163,g163,Nat.le_refl _,o5_164,rfl⟩<;>first|(simp only [SY,setArgs,off,agreeKind,partVals,vals,allocV,boxed,ldA,rdCells,oneB,aggD,aField,aFieldV,aExtract,eq_self,ne_eq,if_true,if_false,not_false_eq_true,Nat.reduceAdd,Nat.reduceSub,Nat.reduceMul,Nat.reduceLT,Nat.reduceEqDiff,Nat.reduceBEq,reduceIte,Int.reduceEq,Int.reduceLT,Int.reduceLE,reduceCtorEq]<;>rfl)|omega|assumption|(simp; omega)|simp) (by
     rintro m t S166 ⟨k,mt,mm,sd,hi166_0,hi166_1,hi166_2,g166_0,g166_3,g166_12,g166_13,g166_14,bb166_160,bb166_1,bb166_2,bb166_3,bb166_6,bb166_12,bb166_l15,bb166_d15,ga166,gn166,ow_sd,hd166⟩
     refine .run fun z he=>?_
     try simp (disch:=first|omega|assumption) only [E0_G,SY,setArgs,off,agreeKind,partVals,vals,allocV,boxed,ldA,rdCells,oneB,aggD,aField,aFieldV,aExtract,eq_self,ne_eq,if_true,if_false,not_false_eq_true,Nat.reduceAdd,Nat.reduceSub,Nat.reduceMul,Nat.reduceLT,Nat.reduceEqDiff,Nat.reduceBEq,reduceIte,Int.reduceEq,Int.reduceLT,Int.reduceLE,reduceCtorEq,TY_EvW5,g166_0,g166_3,g166_12,g166_13,g166_14,bb166_160,bb166_1,bb166_2,bb166_3,bb166_6,bb166_12,bb166_l15,bb166_d15,w4,w165] at he
     rcases dP ((k:Int)<(rn.legs.length:Int)) with ⟨h167a,h167⟩|⟨h167a,h167⟩
     ·skip
      have hx166:rn.legs[k]?=some (rn.legs[k]'(by first|omega|simp; omega)):=List.getElem?_eq_getElem _
      generalize rn.legs[k]'_=x166 at hx166
      obtain ⟨id168,of168,cc168,ty168,wr168,ex168,i168,j168,l168,q168⟩:=(hv_rn_legs).at (P:=Tryz.prog) (t:=92) Tryz.underlying92 tz104 hx166
      have jr168:=j168
      have j168:=(ga166.2 id168 l168).trans jr168
      have m168_0:cc168[of168]?=some (.int .i64 x166.secs):=q168 0 (show 0<2 by decide)
      have m168_1:cc168[of168+1]?=some (.int .i64 x166.rate):=q168 1 (show 1<2 by decide)
      obtain ⟨S169,e169,n169,b169,a169⟩:=push_open S166 (.cells [.int .i64 0,.int .i64 0] 104 0 true true)
      have v160_169:=(a169.2 S15b.next (by omega)).trans bb166_160
      have v1_169:=(a169.2 S.next (by omega)).trans bb166_1
      have v2_169:=(a169.2 S1.next (by omega)).trans bb166_2
      have v3_169:=(a169.2 S2.next (by omega)).trans bb166_3
      have v6_169:=(a169.2 S5.next (by omega)).trans bb166_6
      have v12_169:=(a169.2 S9.next (by omega)).trans bb166_12
      have vl15_169:=(a169.2 y15 (by omega)).trans bb166_l15
      have vd15_169:=(a169.2 S12.next (by omega)).trans bb166_d15
      have v168_169:=(a169.2 id168 (by omega)).trans j168
      have ow_170:=ow_sd.agree a169
      have g169:Agree S S169:=ga166.trans a169
      have s169:E0.same S166 S169=true:=symEnv_same a169
      have ne171:blkOf (.slice (some ⟨S3.next,0,none⟩) s.stops.length s.stops.length)≠some S166.next:=ow_sd.new (Nat.le_refl _)
      obtain ⟨S172,k172,n172,b172,q172⟩:=st_at (o:=0) (c':=[.int .i64 x166.secs,.int .i64 x166.rate]) (v:=.agg #[.int .i64 x166.secs,.int .i64 x166.rate]) tz104 b169 rfl rfl (show 0+2≤2 by decide) rfl
      have v160_172:=(q172 S15b.next (by omega)).trans v160_169
      have v1_172:=(q172 S.next (by omega)).trans v1_169
      have v2_172:=(q172 S1.next (by omega)).trans v2_169
      have v3_172:=(q172 S2.next (by omega)).trans v3_169
      have v6_172:=(q172 S5.next (by omega)).trans v6_169
      have v12_172:=(q172 S9.next (by omega)).trans v12_169
      have vl15_172:=(q172 y15 (by omega)).trans vl15_169
      have vd15_172:=(q172 S12.next (by omega)).trans vd15_169
      have v168_172:=(q172 id168 (by omega)).trans v168_169
      have ow_173:=ow_170.frame (by omega) (fun id hid hb=>q172 id (fun e=>(show blkOf (.slice (some ⟨S3.next,0,none⟩) s.stops.length s.stops.length)≠some S166.next from by first|exact ow_170.ne (by omega)|exact ow_170.new (by omega)|assumption) (e ▸ hb)))
      have g172:Agree S S172:=⟨by have:=(g169).1; omega,fun id hid=>(q172 id (by have:=(g169).1; omega)).trans ((g169).2 id hid)⟩
      try simp (disch:=first|omega|assumption) only [E0_G,SY,setArgs,off,agreeKind,partVals,vals,allocV,boxed,ldA,rdCells,oneB,aggD,aField,aFieldV,aExtract,eq_self,ne_eq,if_true,if_false,not_false_eq_true,Nat.reduceAdd,Nat.reduceSub,Nat.reduceMul,Nat.reduceLT,Nat.reduceEqDiff,Nat.reduceBEq,reduceIte,Int.reduceEq,Int.reduceLT,Int.reduceLE,reduceCtorEq,TY_EvW5,g166_0,g166_3,g166_12,g166_13,g166_14,bb166_160,bb166_1,bb166_2,bb166_3,bb166_6,bb166_12,bb166_l15,bb166_d15,w4,w165,h167a,i168,j168,m168_0,m168_1,v160_169,v1_169,v2_169,v3_169,v6_169,v12_169,vl15_169,vd15_169,v168_169,s169,e169,b169,v160_172,v1_172,v2_172,v3_172,v6_172,v12_172,vl15_172,vd15_172,v168_172,k172,b172] at he
      try simp (disch:=first|omega|assumption) only [E0_G,SY,setArgs,off,agreeKind,partVals,vals,allocV,boxed,ldA,rdCells,oneB,aggD,aField,aFieldV,aExtract,eq_self,ne_eq,if_true,if_false,not_false_eq_true,Nat.reduceAdd,Nat.reduceSub,Nat.reduceMul,Nat.reduceLT,Nat.reduceEqDiff,Nat.reduceBEq,reduceIte,Int.reduceEq,Int.reduceLT,Int.reduceLE,reduceCtorEq,TY_EvW5,g166_0,g166_3,g166_12,g166_13,g166_14,bb166_160,bb166_1,bb166_2,bb166_3,bb166_6,bb166_12,bb166_l15,bb166_d15,w4,w165,h167a,i168,j168,m168_0,m168_1,v160_169,v1_169,v2_169,v3_169,v6_169,v12_169,vl15_169,vd15_169,v168_169,s169,e169,b169,v160_172,v1_172,v2_172,v3_172,v6_172,v12_172,vl15_172,vd15_172,v168_172,k172,b172] at he
      rcases dP (x166.rate=0) with ⟨h175a,h175⟩|⟨h175a,h175⟩
      ·skip
       try simp (disch:=first|omega|assumption) only [E0_G,SY,setArgs,off,agreeKind,partVals,vals,allocV,boxed,ldA,rdCells,oneB,aggD,aField,aFieldV,aExtract,eq_self,ne_eq,if_true,if_false,not_false_eq_true,Nat.reduceAdd,Nat.reduceSub,Nat.reduceMul,Nat.reduceLT,Nat.reduceEqDiff,Nat.reduceBEq,reduceIte,Int.reduceEq,Int.reduceLT,Int.reduceLE,reduceCtorEq,TY_EvW5,g166_0,g166_3,g166_12,g166_13,g166_14,bb166_160,bb166_1,bb166_2,bb166_3,bb166_6,bb166_12,bb166_l15,bb166_d15,w4,w165,h167a,i168,j168,m168_0,m168_1,v160_169,v1_169,v2_169,v3_169,v6_169,v12_169,vl15_169,vd15_169,v168_169,s169,e169,b169,v160_172,v1_172,v2_172,v3_172,v6_172,v12_172,vl15_172,vd15_172,v168_172,k172,b172,h175a] at he
       try simp (disch:=first|omega|assumption) only [E0_G,SY,setArgs,off,agreeKind,partVals,vals,allocV,boxed,ldA,rdCells,oneB,aggD,aField,aFieldV,aExtract,eq_self,ne_eq,if_true,if_false,not_false_eq_true,Nat.reduceAdd,Nat.reduceSub,Nat.reduceMul,Nat.reduceLT,Nat.reduceEqDiff,Nat.reduceBEq,reduceIte,Int.reduceEq,Int.reduceLT,Int.reduceLE,reduceCtorEq,TY_EvW5,g166_0,g166_3,g166_12,g166_13,g166_14,bb166_160,bb166_1,bb166_2,bb166_3,bb166_6,bb166_12,bb166_l15,bb166_d15,w4,w165,h167a,i168,j168,m168_0,m168_1,v160_169,v1_169,v2_169,v3_169,v6_169,v12_169,vl15_169,vd15_169,v168_169,s169,e169,b169,v160_172,v1_172,v2_172,v3_172,v6_172,v12_172,vl15_172,vd15_172,v168_172,k172,b172,h175a] at he
       rcases dP ((r160 (s.stops:List Stp) (⟨mt,mm⟩:Mo))<0) with ⟨h177a,h177⟩|⟨h177a,h177⟩
       ·skip
        try simp (disch:=first|omega|assumption) only [E0_G,SY,setArgs,off,agreeKind,partVals,vals,allocV,boxed,ldA,rdCells,oneB,aggD,aField,aFieldV,aExtract,eq_self,ne_eq,if_true,if_false,not_false_eq_true,Nat.reduceAdd,Nat.reduceSub,Nat.reduceMul,Nat.reduceLT,Nat.reduceEqDiff,Nat.reduceBEq,reduceIte,Int.reduceEq,Int.reduceLT,Int.reduceLE,reduceCtorEq,TY_EvW5,g166_0,g166_3,g166_12,g166_13,g166_14,bb166_160,bb166_1,bb166_2,bb166_3,bb166_6,bb166_12,bb166_l15,bb166_d15,w4,w165,h167a,i168,j168,m168_0,m168_1,v160_169,v1_169,v2_169,v3_169,v6_169,v12_169,vl15_169,vd15_169,v168_169,s169,e169,b169,v160_172,v1_172,v2_172,v3_172,v6_172,v12_172,vl15_172,vd15_172,v168_172,k172,b172,h175a,h177a] at he
        obtain ⟨S178,k178,bq178,bm178_160,bm178_1,bm178_2,bm178_3,bm178_6,bm178_12,bm178_d15,bm178_169,gm178,gl178,om178_0,ne178_m0,ne178_m1,ne178_m2,ne178_m3,ne178_m4,ne178_m5,ne178_m6,ne178_m7⟩:=round_ret (P:=Tryz.prog) (E:=E0) (bs:=[.agg #[.int .i64 mt,.int .i64 mm],.agg #[.int .i64 x166.secs,.int .i64 x166.rate]]) hb15 rfl vl15_172 (Q:=fun S'=>S'.heap.get y15=some (.loop (doneL L15 .ret))∧S'.heap.get S15b.next=some (.cells [.int .i64 mt,.int .i64 mm] 165 0 true true)∧S'.heap.get S.next=some (.cells [.int .i64 s.id,.int .i64 s.inLo,.int .i64 s.inHi,.int .i64 s.outLo,.int .i64 s.outHi,.int .i64 s.zLo,.int .i64 s.zHi,.int .i64 s.eLo,.int .i64 s.eHi,.int .i64 s.rLo,.int .i64 s.rHi,v_s_stops] 26 0 true true)∧S'.heap.get S1.next=some (.cells [.int .i64 rn.start,.int .i64 rn.micro,v_rn_legs] 94 0 true true)∧S'.heap.get S2.next=some (.cells [.bool false] 4 0 true true)∧S'.heap.get S5.next=some (.cells [.slice (some ⟨S3.next,0,none⟩) s.stops.length s.stops.length] 31 0 true true)∧S'.heap.get S9.next=some (.cells [.int .i64 rn.start,.int .i64 rn.micro,v_rn_legs] 94 0 true true)∧S'.heap.get S12.next=some (.dfd true)∧S'.heap.get S166.next=some (.cells [.int .i64 x166.secs,.int .i64 x166.rate] 104 0 true true)∧Agree S S'∧S172.next≤S'.next∧Own 3 S3.next S' (.slice (some ⟨S3.next,0,none⟩) s.stops.length s.stops.length) sd∧blkOf (.slice (some ⟨S3.next,0,none⟩) s.stops.length s.stops.length)≠some S15b.next∧blkOf (.slice (some ⟨S3.next,0,none⟩) s.stops.length s.stops.length)≠some S.next∧blkOf (.slice (some ⟨S3.next,0,none⟩) s.stops.length s.stops.length)≠some S1.next∧blkOf (.slice (some ⟨S3.next,0,none⟩) s.stops.length s.stops.length)≠some S2.next∧blkOf (.slice (some ⟨S3.next,0,none⟩) s.stops.length s.stops.length)≠some S5.next∧blkOf (.slice (some ⟨S3.next,0,none⟩) s.stops.length s.stops.length)≠some S9.next∧blkOf (.slice (some ⟨S3.next,0,none⟩) s.stops.length s.stops.length)≠some S12.next∧blkOf (.slice (some ⟨S3.next,0,none⟩) s.stops.length s.stops.length)≠some S166.next) (by
          intro zA178 hA178
          obtain ⟨S195,e195,n195,b195,a195⟩:=push_open S172 (.cells [.int .i64 0,.int .i64 0] 165 0 true true)
          have v160_195:=(a195.2 S15b.next (by omega)).trans v160_172
          have v1_195:=(a195.2 S.next (by omega)).trans v1_172
          have v2_195:=(a195.2 S1.next (by omega)).trans v2_172
          have v3_195:=(a195.2 S2.next (by omega)).trans v3_172
          have v6_195:=(a195.2 S5.next (by omega)).trans v6_172
          have v12_195:=(a195.2 S9.next (by omega)).trans v12_172
          have vl15_195:=(a195.2 y15 (by omega)).trans vl15_172
          have vd15_195:=(a195.2 S12.next (by omega)).trans vd15_172
          have v168_195:=(a195.2 id168 (by omega)).trans v168_172
          have v169_195:=(a195.2 S166.next (by omega)).trans b172
          have ow_196:=ow_173.agree a195
          have g195:Agree S S195:=g172.trans a195
          have s195:E0.same S172 S195=true:=symEnv_same a195
          have ne197:blkOf (.slice (some ⟨S3.next,0,none⟩) s.stops.length s.stops.length)≠some S172.next:=ow_173.new (Nat.le_refl _)
          obtain ⟨S198,k198,n198,b198,q198⟩:=st_at (o:=0) (c':=[.int .i64 mt,.int .i64 mm]) (v:=.agg #[.int .i64 mt,.int .i64 mm]) tz165 b195 rfl rfl (show 0+2≤2 by decide) rfl
          have v160_198:=(q198 S15b.next (by omega)).trans v160_195
          have v1_198:=(q198 S.next (by omega)).trans v1_195
          have v2_198:=(q198 S1.next (by omega)).trans v2_195
          have v3_198:=(q198 S2.next (by omega)).trans v3_195
          have v6_198:=(q198 S5.next (by omega)).trans v6_195
          have v12_198:=(q198 S9.next (by omega)).trans v12_195
          have vl15_198:=(q198 y15 (by omega)).trans vl15_195
          have vd15_198:=(q198 S12.next (by omega)).trans vd15_195
          have v168_198:=(q198 id168 (by omega)).trans v168_195
          have v169_198:=(q198 S166.next (by omega)).trans v169_195
          have ow_199:=ow_196.frame (by omega) (fun id hid hb=>q198 id (fun e=>(show blkOf (.slice (some ⟨S3.next,0,none⟩) s.stops.length s.stops.length)≠some S172.next from by first|exact ow_196.ne (by omega)|exact ow_196.new (by omega)|assumption) (e ▸ hb)))
          have g198:Agree S S198:=⟨by have:=(g195).1; omega,fun id hid=>(q198 id (by have:=(g195).1; omega)).trans ((g195).2 id hid)⟩
          obtain ⟨S200,e200,n200,b200,a200⟩:=push_open S198 (.cells [.int .i64 0,.int .i64 0] 104 0 true true)
          have v160_200:=(a200.2 S15b.next (by omega)).trans v160_198
          have v1_200:=(a200.2 S.next (by omega)).trans v1_198
          have v2_200:=(a200.2 S1.next (by omega)).trans v2_198
          have v3_200:=(a200.2 S2.next (by omega)).trans v3_198
          have v6_200:=(a200.2 S5.next (by omega)).trans v6_198
          have v12_200:=(a200.2 S9.next (by omega)).trans v12_198
          have vl15_200:=(a200.2 y15 (by omega)).trans vl15_198
          have vd15_200:=(a200.2 S12.next (by omega)).trans vd15_198
          have v168_200:=(a200.2 id168 (by omega)).trans v168_198
          have v169_200:=(a200.2 S166.next (by omega)).trans v169_198
          have v195_200:=(a200.2 S172.next (by omega)).trans b198
          have ow_201:=ow_199.agree a200
          have g200:Agree S S200:=g198.trans a200
          have s200:E0.same S198 S200=true:=symEnv_same a200
          have ne202:blkOf (.slice (some ⟨S3.next,0,none⟩) s.stops.length s.stops.length)≠some S198.next:=ow_199.new (Nat.le_refl _)
          obtain ⟨S203,k203,n203,b203,q203⟩:=st_at (o:=0) (c':=[.int .i64 x166.secs,.int .i64 x166.rate]) (v:=.agg #[.int .i64 x166.secs,.int .i64 x166.rate]) tz104 b200 rfl rfl (show 0+2≤2 by decide) rfl
          have v160_203:=(q203 S15b.next (by omega)).trans v160_200
          have v1_203:=(q203 S.next (by omega)).trans v1_200
          have v2_203:=(q203 S1.next (by omega)).trans v2_200
          have v3_203:=(q203 S2.next (by omega)).trans v3_200
          have v6_203:=(q203 S5.next (by omega)).trans v6_200
          have v12_203:=(q203 S9.next (by omega)).trans v12_200
          have vl15_203:=(q203 y15 (by omega)).trans vl15_200
          have vd15_203:=(q203 S12.next (by omega)).trans vd15_200
          have v168_203:=(q203 id168 (by omega)).trans v168_200
          have v169_203:=(q203 S166.next (by omega)).trans v169_200
          have v195_203:=(q203 S172.next (by omega)).trans v195_200
          have ow_204:=ow_201.frame (by omega) (fun id hid hb=>q203 id (fun e=>(show blkOf (.slice (some ⟨S3.next,0,none⟩) s.stops.length s.stops.length)≠some S198.next from by first|exact ow_201.ne (by omega)|exact ow_201.new (by omega)|assumption) (e ▸ hb)))
          have g203:Agree S S203:=⟨by have:=(g200).1; omega,fun id hid=>(q203 id (by have:=(g200).1; omega)).trans ((g200).2 id hid)⟩
          try simp (disch:=first|omega|assumption) only [E0_G,SY,setArgs,off,agreeKind,partVals,vals,allocV,boxed,ldA,rdCells,oneB,aggD,aField,aFieldV,aExtract,eq_self,ne_eq,if_true,if_false,not_false_eq_true,Nat.reduceAdd,Nat.reduceSub,Nat.reduceMul,Nat.reduceLT,Nat.reduceEqDiff,Nat.reduceBEq,reduceIte,Int.reduceEq,Int.reduceLT,Int.reduceLE,reduceCtorEq,TY_EvW5,bb166_160,bb166_1,bb166_2,bb166_3,bb166_6,bb166_12,bb166_l15,bb166_d15,w4,w165,h167a,i168,j168,m168_0,m168_1,v160_169,v1_169,v2_169,v3_169,v6_169,v12_169,vl15_169,vd15_169,v168_169,s169,e169,b169,v160_172,v1_172,v2_172,v3_172,v6_172,v12_172,vl15_172,vd15_172,v168_172,k172,b172,h175a,h177a,gt15_2,gt15_4,gt15_5,setP_cons,setP_nil,List.zip_cons_cons,List.zip_nil_left,List.zip_nil_right,v160_195,v1_195,v2_195,v3_195,v6_195,v12_195,vl15_195,vd15_195,v168_195,v169_195,s195,e195,b195,v160_198,v1_198,v2_198,v3_198,v6_198,v12_198,vl15_198,vd15_198,v168_198,v169_198,k198,b198,v160_200,v1_200,v2_200,v3_200,v6_200,v12_200,vl15_200,vd15_200,v168_200,v169_200,v195_200,s200,e200,b200,v160_203,v1_203,v2_203,v3_203,v6_203,v12_203,vl15_203,vd15_203,v168_203,v169_203,v195_203,k203,b203] at hA178
          refine ⟨_,S203,hA178.symm,vl15_203,?_⟩
          intro S205 n205 b205 q205 zB178 hB178
          have v160_205:=(q205 S15b.next (by omega)).trans v160_203
          have v1_205:=(q205 S.next (by omega)).trans v1_203
          have v2_205:=(q205 S1.next (by omega)).trans v2_203
          have v3_205:=(q205 S2.next (by omega)).trans v3_203
          have v6_205:=(q205 S5.next (by omega)).trans v6_203
          have v12_205:=(q205 S9.next (by omega)).trans v12_203
          have vd15_205:=(q205 S12.next (by omega)).trans vd15_203
          have v168_205:=(q205 id168 (by omega)).trans v168_203
          have v169_205:=(q205 S166.next (by omega)).trans v169_203
          have v195_205:=(q205 S172.next (by omega)).trans v195_203
          have v200_205:=(q205 S198.next (by omega)).trans b203
          have ow_206:=ow_204.frame (by omega) (fun id hid hb=>q205 id (fun e=>(show blkOf (.slice (some ⟨S3.next,0,none⟩) s.stops.length s.stops.length)≠some y15 from by first|exact ow_204.ne (by omega)|exact ow_204.new (by omega)|assumption) (e ▸ hb)))
          have g205:Agree S S205:=⟨by have:=(g203).1; omega,fun id hid=>(q205 id (by have:=(g203).1; omega)).trans ((g203).2 id hid)⟩
          obtain ⟨S207,k207,a207⟩:=c160 (s.stops:List Stp) (⟨mt,mm⟩:Mo) (by first|omega|assumption) S205 (v_s_stops) (hv_s_stops.agree g205) S172.next v195_205 (by omega)
          have l207:=a207.1
          have s207:E0.same S205 S207=true:=symEnv_same a207
          have v160_207:=(a207.2 S15b.next (by omega)).trans v160_205
          have v1_207:=(a207.2 S.next (by omega)).trans v1_205
          have v2_207:=(a207.2 S1.next (by omega)).trans v2_205
          have v3_207:=(a207.2 S2.next (by omega)).trans v3_205
          have v6_207:=(a207.2 S5.next (by omega)).trans v6_205
          have v12_207:=(a207.2 S9.next (by omega)).trans v12_205
          have vl15_207:=(a207.2 y15 (by omega)).trans b205
          have vd15_207:=(a207.2 S12.next (by omega)).trans vd15_205
          have v168_207:=(a207.2 id168 (by omega)).trans v168_205
          have v169_207:=(a207.2 S166.next (by omega)).trans v169_205
          have v195_207:=(a207.2 S172.next (by omega)).trans v195_205
          have v200_207:=(a207.2 S198.next (by omega)).trans v200_205
          have ow_208:=ow_206.agree a207
          have g207:Agree S S207:=g205.trans a207
          have p207:=r160_lt (s.stops:List Stp) (⟨mt,mm⟩:Mo)
          obtain ⟨S209,k209,n209,b209,q209⟩:=st_at (o:=0) (c':=[.bool false]) (v:=.bool false) tz4 v3_207 rfl rfl (show 0+1≤1 by decide) rfl
          have v160_209:=(q209 S15b.next (by omega)).trans v160_207
          have v1_209:=(q209 S.next (by omega)).trans v1_207
          have v2_209:=(q209 S1.next (by omega)).trans v2_207
          have v6_209:=(q209 S5.next (by omega)).trans v6_207
          have v12_209:=(q209 S9.next (by omega)).trans v12_207
          have vl15_209:=(q209 y15 (by omega)).trans vl15_207
          have vd15_209:=(q209 S12.next (by omega)).trans vd15_207
          have v168_209:=(q209 id168 (by omega)).trans v168_207
          have v169_209:=(q209 S166.next (by omega)).trans v169_207
          have v195_209:=(q209 S172.next (by omega)).trans v195_207
          have v200_209:=(q209 S198.next (by omega)).trans v200_207
          have ow_210:=ow_208.frame (by omega) (fun id hid hb=>q209 id (fun e=>(show blkOf (.slice (some ⟨S3.next,0,none⟩) s.stops.length s.stops.length)≠some S2.next from by first|exact ow_208.ne (by omega)|exact ow_208.new (by omega)|assumption) (e ▸ hb)))
          have g209:Agree S S209:=⟨by have:=(g207).1; omega,fun id hid=>(q209 id (by have:=(g207).1; omega)).trans ((g207).2 id hid)⟩
          try simp (disch:=first|omega|assumption) only [E0_G,SY,setArgs,off,agreeKind,partVals,vals,allocV,boxed,ldA,rdCells,oneB,aggD,aField,aFieldV,aExtract,eq_self,ne_eq,if_true,if_false,not_false_eq_true,Nat.reduceAdd,Nat.reduceSub,Nat.reduceMul,Nat.reduceLT,Nat.reduceEqDiff,Nat.reduceBEq,reduceIte,Int.reduceEq,Int.reduceLT,Int.reduceLE,reduceCtorEq,TY_EvW5,bb166_160,bb166_1,bb166_2,bb166_3,bb166_6,bb166_12,bb166_l15,bb166_d15,w4,w165,h167a,i168,j168,m168_0,m168_1,v160_169,v1_169,v2_169,v3_169,v6_169,v12_169,vl15_169,vd15_169,v168_169,s169,e169,b169,v160_172,v1_172,v2_172,v3_172,v6_172,v12_172,vl15_172,vd15_172,v168_172,k172,b172,h175a,h177a,gt15_2,gt15_4,gt15_5,setP_cons,setP_nil,List.zip_cons_cons,List.zip_nil_left,List.zip_nil_right,v160_195,v1_195,v2_195,v3_195,v6_195,v12_195,vl15_195,vd15_195,v168_195,v169_195,s195,e195,b195,v160_198,v1_198,v2_198,v3_198,v6_198,v12_198,vl15_198,vd15_198,v168_198,v169_198,k198,b198,v160_200,v1_200,v2_200,v3_200,v6_200,v12_200,vl15_200,vd15_200,v168_200,v169_200,v195_200,s200,e200,b200,v160_203,v1_203,v2_203,v3_203,v6_203,v12_203,vl15_203,vd15_203,v168_203,v169_203,v195_203,k203,b203,v160_205,v1_205,v2_205,v3_205,v6_205,v12_205,vd15_205,v168_205,v169_205,v195_205,v200_205,b205,op_makeFunc1,op_makeFunc2,k207,s207,v160_207,v1_207,v2_207,v3_207,v6_207,v12_207,vl15_207,vd15_207,v168_207,v169_207,v195_207,v200_207,v160_209,v1_209,v2_209,v6_209,v12_209,vl15_209,vd15_209,v168_209,v169_209,v195_209,v200_209,k209,b209] at hB178
          refine ⟨_,_,S209,hB178.symm,vl15_209,?_⟩
          intro S211 n211 b211 q211
          have v160_211:=(q211 S15b.next (by omega)).trans v160_209
          have v1_211:=(q211 S.next (by omega)).trans v1_209
          have v2_211:=(q211 S1.next (by omega)).trans v2_209
          have v3_211:=(q211 S2.next (by omega)).trans b209
          have v6_211:=(q211 S5.next (by omega)).trans v6_209
          have v12_211:=(q211 S9.next (by omega)).trans v12_209
          have vd15_211:=(q211 S12.next (by omega)).trans vd15_209
          have v168_211:=(q211 id168 (by omega)).trans v168_209
          have v169_211:=(q211 S166.next (by omega)).trans v169_209
          have v195_211:=(q211 S172.next (by omega)).trans v195_209
          have v200_211:=(q211 S198.next (by omega)).trans v200_209
          have ow_212:=ow_210.frame (by omega) (fun id hid hb=>q211 id (fun e=>(show blkOf (.slice (some ⟨S3.next,0,none⟩) s.stops.length s.stops.length)≠some y15 from by first|exact ow_210.ne (by omega)|exact ow_210.new (by omega)|assumption) (e ▸ hb)))
          have g211:Agree S S211:=⟨by have:=(g209).1; omega,fun id hid=>(q211 id (by have:=(g209).1; omega)).trans ((g209).2 id hid)⟩
          exact ⟨b211,v160_211,v1_211,v2_211,v3_211,v6_211,v12_211,vd15_211,v169_211,g211,by omega,ow_212,(by first|exact ow_212.ne (by omega)|exact ow_212.new (by omega)|assumption),(by first|exact ow_212.ne (by omega)|exact ow_212.new (by omega)|assumption),(by first|exact ow_212.ne (by omega)|exact ow_212.new (by omega)|assumption),(by first|exact ow_212.ne (by omega)|exact ow_212.new (by omega)|assumption),(by first|exact ow_212.ne (by omega)|exact ow_212.new (by omega)|assumption),(by first|exact ow_212.ne (by omega)|exact ow_212.new (by omega)|assumption),(by first|exact ow_212.ne (by omega)|exact ow_212.new (by omega)|assumption),(by first|exact ow_212.ne (by omega)|exact ow_212.new (by omega)|assumption)⟩)
        replace k178:(evL Tryz.prog E0).round y15 #[.agg #[.int .i64 mt,.int .i64 mm],.agg #[.int .i64 x166.secs,.int .i64 x166.rate]] S172=some (.bool false,S178):=k178
        have bm178_168:=(gm178.2 id168 l168).trans jr168
        try simp (disch:=first|omega|assumption) only [E0_G,SY,setArgs,off,agreeKind,partVals,vals,allocV,boxed,ldA,rdCells,oneB,aggD,aField,aFieldV,aExtract,eq_self,ne_eq,if_true,if_false,not_false_eq_true,Nat.reduceAdd,Nat.reduceSub,Nat.reduceMul,Nat.reduceLT,Nat.reduceEqDiff,Nat.reduceBEq,reduceIte,Int.reduceEq,Int.reduceLT,Int.reduceLE,reduceCtorEq,TY_EvW5,g166_0,g166_3,g166_12,g166_13,g166_14,bb166_160,bb166_1,bb166_2,bb166_3,bb166_6,bb166_12,bb166_l15,bb166_d15,w4,w165,h167a,i168,j168,m168_0,m168_1,v160_169,v1_169,v2_169,v3_169,v6_169,v12_169,vl15_169,vd15_169,v168_169,s169,e169,b169,v160_172,v1_172,v2_172,v3_172,v6_172,v12_172,vl15_172,vd15_172,v168_172,k172,b172,h175a,h177a,bm178_160,bm178_1,bm178_2,bm178_3,bm178_6,bm178_12,bm178_d15,bm178_168,bm178_169,bq178,k178,calledV_yield,firstOf_none,op_round,roundV_some] at he
        rw [drop_cons' hx166] at hd166
        have hf:=(show _=(.inl ():Sum (Unit) ((List Int))) from (if_pos h175).trans ((if_pos h177).trans (rfl))).symm.trans hd166
        refine .ret he (.inr ⟨rfl,⟨bm178_1,bm178_2,bm178_3,bm178_6,bm178_12,bq178,bm178_d15,by omega,gm178,hf.symm⟩⟩)<;>first|(simp only [SY,setArgs,off,agreeKind,partVals,vals,allocV,boxed,ldA,rdCells,oneB,aggD,aField,aFieldV,aExtract,eq_self,ne_eq,if_true,if_false,not_false_eq_true,Nat.reduceAdd,Nat.reduceSub,Nat.reduceMul,Nat.reduceLT,Nat.reduceEqDiff,Nat.reduceBEq,reduceIte,Int.reduceEq,Int.reduceLT,Int.reduceLE,reduceCtorEq,g166_0,g166_3,g166_12,g166_13,g166_14]<;>rfl)|omega|assumption|(simp; omega)|simp
       ·skip
        try simp (disch:=first|omega|assumption) only [E0_G,SY,setArgs,off,agreeKind,partVals,vals,allocV,boxed,ldA,rdCells,oneB,aggD,aField,aFieldV,aExtract,eq_self,ne_eq,if_true,if_false,not_false_eq_true,Nat.reduceAdd,Nat.reduceSub,Nat.reduceMul,Nat.reduceLT,Nat.reduceEqDiff,Nat.reduceBEq,reduceIte,Int.reduceEq,Int.reduceLT,Int.reduceLE,reduceCtorEq,TY_EvW5,g166_0,g166_3,g166_12,g166_13,g166_14,bb166_160,bb166_1,bb166_2,bb166_3,bb166_6,bb166_12,bb166_l15,bb166_d15,w4,w165,h167a,i168,j168,m168_0,m168_1,v160_169,v1_169,v2_169,v3_169,v6_169,v12_169,vl15_169,vd15_169,v168_169,s169,e169,b169,v160_172,v1_172,v2_172,v3_172,v6_172,v12_172,vl15_172,vd15_172,v168_172,k172,b172,h175a,h177a] at he
        obtain ⟨S213,k213,bq213,bm213_160,bm213_1,bm213_2,bm213_3,bm213_6,bm213_12,bm213_d15,bm213_169,gm213,gl213,om213_0,ne213_m0,ne213_m1,ne213_m2,ne213_m3,ne213_m4,ne213_m5,ne213_m6,ne213_m7⟩:=round_in (P:=Tryz.prog) (E:=E0) (bs:=[.agg #[.int .i64 mt,.int .i64 mm],.agg #[.int .i64 x166.secs,.int .i64 x166.rate]]) hb15 rfl vl15_172 (Q:=fun S'=>S'.heap.get y15=some (.loop L15)∧S'.heap.get S15b.next=some (.cells [.int .i64 mt,.int .i64 mm] 165 0 true true)∧S'.heap.get S.next=some (.cells [.int .i64 s.id,.int .i64 s.inLo,.int .i64 s.inHi,.int .i64 s.outLo,.int .i64 s.outHi,.int .i64 s.zLo,.int .i64 s.zHi,.int .i64 s.eLo,.int .i64 s.eHi,.int .i64 s.rLo,.int .i64 s.rHi,v_s_stops] 26 0 true true)∧S'.heap.get S1.next=some (.cells [.int .i64 rn.start,.int .i64 rn.micro,v_rn_legs] 94 0 true true)∧S'.heap.get S2.next=some (.cells [.bool false] 4 0 true true)∧S'.heap.get S5.next=some (.cells [.slice (some ⟨S3.next,0,none⟩) s.stops.length s.stops.length] 31 0 true true)∧S'.heap.get S9.next=some (.cells [.int .i64 rn.start,.int .i64 rn.micro,v_rn_legs] 94 0 true true)∧S'.heap.get S12.next=some (.dfd true)∧S'.heap.get S166.next=some (.cells [.int .i64 x166.secs,.int .i64 x166.rate] 104 0 true true)∧Agree S S'∧S172.next≤S'.next∧Own 3 S3.next S' (.slice (some ⟨S3.next,0,none⟩) s.stops.length s.stops.length) (sd.set (Int.toNat (r160 (s.stops:List Stp) (⟨mt,mm⟩:Mo))) (IntKind.i64.wrap ((lget sd (Int.toNat (r160 (s.stops:List Stp) (⟨mt,mm⟩:Mo))))+x166.secs)))∧blkOf (.slice (some ⟨S3.next,0,none⟩) s.stops.length s.stops.length)≠some S15b.next∧blkOf (.slice (some ⟨S3.next,0,none⟩) s.stops.length s.stops.length)≠some S.next∧blkOf (.slice (some ⟨S3.next,0,none⟩) s.stops.length s.stops.length)≠some S1.next∧blkOf (.slice (some ⟨S3.next,0,none⟩) s.stops.length s.stops.length)≠some S2.next∧blkOf (.slice (some ⟨S3.next,0,none⟩) s.stops.length s.stops.length)≠some S5.next∧blkOf (.slice (some ⟨S3.next,0,none⟩) s.stops.length s.stops.length)≠some S9.next∧blkOf (.slice (some ⟨S3.next,0,none⟩) s.stops.length s.stops.length)≠some S12.next∧blkOf (.slice (some ⟨S3.next,0,none⟩) s.stops.length s.stops.length)≠some S166.next) (by
          intro zA213 hA213
          obtain ⟨S234,e234,n234,b234,a234⟩:=push_open S172 (.cells [.int .i64 0,.int .i64 0] 165 0 true true)
          have v160_234:=(a234.2 S15b.next (by omega)).trans v160_172
          have v1_234:=(a234.2 S.next (by omega)).trans v1_172
          have v2_234:=(a234.2 S1.next (by omega)).trans v2_172
          have v3_234:=(a234.2 S2.next (by omega)).trans v3_172
          have v6_234:=(a234.2 S5.next (by omega)).trans v6_172
          have v12_234:=(a234.2 S9.next (by omega)).trans v12_172
          have vl15_234:=(a234.2 y15 (by omega)).trans vl15_172
          have vd15_234:=(a234.2 S12.next (by omega)).trans vd15_172
          have v168_234:=(a234.2 id168 (by omega)).trans v168_172
          have v169_234:=(a234.2 S166.next (by omega)).trans b172
          have ow_235:=ow_173.agree a234
          have g234:Agree S S234:=g172.trans a234
          have s234:E0.same S172 S234=true:=symEnv_same a234
          have ne236:blkOf (.slice (some ⟨S3.next,0,none⟩) s.stops.length s.stops.length)≠some S172.next:=ow_173.new (Nat.le_refl _)
          obtain ⟨S237,k237,n237,b237,q237⟩:=st_at (o:=0) (c':=[.int .i64 mt,.int .i64 mm]) (v:=.agg #[.int .i64 mt,.int .i64 mm]) tz165 b234 rfl rfl (show 0+2≤2 by decide) rfl
          have v160_237:=(q237 S15b.next (by omega)).trans v160_234
          have v1_237:=(q237 S.next (by omega)).trans v1_234
          have v2_237:=(q237 S1.next (by omega)).trans v2_234
          have v3_237:=(q237 S2.next (by omega)).trans v3_234
          have v6_237:=(q237 S5.next (by omega)).trans v6_234
          have v12_237:=(q237 S9.next (by omega)).trans v12_234
          have vl15_237:=(q237 y15 (by omega)).trans vl15_234
          have vd15_237:=(q237 S12.next (by omega)).trans vd15_234
          have v168_237:=(q237 id168 (by omega)).trans v168_234
          have v169_237:=(q237 S166.next (by omega)).trans v169_234
          have ow_238:=ow_235.frame (by omega) (fun id hid hb=>q237 id (fun e=>(show blkOf (.slice (some ⟨S3.next,0,none⟩) s.stops.length s.stops.length)≠some S172.next from by first|exact ow_235.ne (by omega)|exact ow_235.new (by omega)|assumption) (e ▸ hb)))
          have g237:Agree S S237:=⟨by have:=(g234).1; omega,fun id hid=>(q237 id (by have:=(g234).1; omega)).trans ((g234).2 id hid)⟩
          obtain ⟨S239,e239,n239,b239,a239⟩:=push_open S237 (.cells [.int .i64 0,.int .i64 0] 104 0 true true)
          have v160_239:=(a239.2 S15b.next (by omega)).trans v160_237
          have v1_239:=(a239.2 S.next (by omega)).trans v1_237
          have v2_239:=(a239.2 S1.next (by omega)).trans v2_237
          have v3_239:=(a239.2 S2.next (by omega)).trans v3_237
          have v6_239:=(a239.2 S5.next (by omega)).trans v6_237
          have v12_239:=(a239.2 S9.next (by omega)).trans v12_237
          have vl15_239:=(a239.2 y15 (by omega)).trans vl15_237
          have vd15_239:=(a239.2 S12.next (by omega)).trans vd15_237
          have v168_239:=(a239.2 id168 (by omega)).trans v168_237
          have v169_239:=(a239.2 S166.next (by omega)).trans v169_237
          have v234_239:=(a239.2 S172.next (by omega)).trans b237
          have ow_240:=ow_238.agree a239
          have g239:Agree S S239:=g237.trans a239
          have s239:E0.same S237 S239=true:=symEnv_same a239
          have ne241:blkOf (.slice (some ⟨S3.next,0,none⟩) s.stops.length s.stops.length)≠some S237.next:=ow_238.new (Nat.le_refl _)
          obtain ⟨S242,k242,n242,b242,q242⟩:=st_at (o:=0) (c':=[.int .i64 x166.secs,.int .i64 x166.rate]) (v:=.agg #[.int .i64 x166.secs,.int .i64 x166.rate]) tz104 b239 rfl rfl (show 0+2≤2 by decide) rfl
          have v160_242:=(q242 S15b.next (by omega)).trans v160_239
          have v1_242:=(q242 S.next (by omega)).trans v1_239
          have v2_242:=(q242 S1.next (by omega)).trans v2_239
          have v3_242:=(q242 S2.next (by omega)).trans v3_239
          have v6_242:=(q242 S5.next (by omega)).trans v6_239
          have v12_242:=(q242 S9.next (by omega)).trans v12_239
          have vl15_242:=(q242 y15 (by omega)).trans vl15_239
          have vd15_242:=(q242 S12.next (by omega)).trans vd15_239
          have v168_242:=(q242 id168 (by omega)).trans v168_239
          have v169_242:=(q242 S166.next (by omega)).trans v169_239
          have v234_242:=(q242 S172.next (by omega)).trans v234_239
          have ow_243:=ow_240.frame (by omega) (fun id hid hb=>q242 id (fun e=>(show blkOf (.slice (some ⟨S3.next,0,none⟩) s.stops.length s.stops.length)≠some S237.next from by first|exact ow_240.ne (by omega)|exact ow_240.new (by omega)|assumption) (e ▸ hb)))
          have g242:Agree S S242:=⟨by have:=(g239).1; omega,fun id hid=>(q242 id (by have:=(g239).1; omega)).trans ((g239).2 id hid)⟩
          try simp (disch:=first|omega|assumption) only [E0_G,SY,setArgs,off,agreeKind,partVals,vals,allocV,boxed,ldA,rdCells,oneB,aggD,aField,aFieldV,aExtract,eq_self,ne_eq,if_true,if_false,not_false_eq_true,Nat.reduceAdd,Nat.reduceSub,Nat.reduceMul,Nat.reduceLT,Nat.reduceEqDiff,Nat.reduceBEq,reduceIte,Int.reduceEq,Int.reduceLT,Int.reduceLE,reduceCtorEq,TY_EvW5,bb166_160,bb166_1,bb166_2,bb166_3,bb166_6,bb166_12,bb166_l15,bb166_d15,w4,w165,h167a,i168,j168,m168_0,m168_1,v160_169,v1_169,v2_169,v3_169,v6_169,v12_169,vl15_169,vd15_169,v168_169,s169,e169,b169,v160_172,v1_172,v2_172,v3_172,v6_172,v12_172,vl15_172,vd15_172,v168_172,k172,b172,h175a,h177a,gt15_2,gt15_4,gt15_5,setP_cons,setP_nil,List.zip_cons_cons,List.zip_nil_left,List.zip_nil_right,v160_234,v1_234,v2_234,v3_234,v6_234,v12_234,vl15_234,vd15_234,v168_234,v169_234,s234,e234,b234,v160_237,v1_237,v2_237,v3_237,v6_237,v12_237,vl15_237,vd15_237,v168_237,v169_237,k237,b237,v160_239,v1_239,v2_239,v3_239,v6_239,v12_239,vl15_239,vd15_239,v168_239,v169_239,v234_239,s239,e239,b239,v160_242,v1_242,v2_242,v3_242,v6_242,v12_242,vl15_242,vd15_242,v168_242,v169_242,v234_242,k242,b242] at hA213
          refine ⟨_,S242,hA213.symm,vl15_242,?_⟩
          intro S244 n244 b244 q244 zB213 hB213
          have v160_244:=(q244 S15b.next (by omega)).trans v160_242
          have v1_244:=(q244 S.next (by omega)).trans v1_242
          have v2_244:=(q244 S1.next (by omega)).trans v2_242
          have v3_244:=(q244 S2.next (by omega)).trans v3_242
          have v6_244:=(q244 S5.next (by omega)).trans v6_242
          have v12_244:=(q244 S9.next (by omega)).trans v12_242
          have vd15_244:=(q244 S12.next (by omega)).trans vd15_242
          have v168_244:=(q244 id168 (by omega)).trans v168_242
          have v169_244:=(q244 S166.next (by omega)).trans v169_242
          have v234_244:=(q244 S172.next (by omega)).trans v234_242
          have v239_244:=(q244 S237.next (by omega)).trans b242
          have ow_245:=ow_243.frame (by omega) (fun id hid hb=>q244 id (fun e=>(show blkOf (.slice (some ⟨S3.next,0,none⟩) s.stops.length s.stops.length)≠some y15 from by first|exact ow_243.ne (by omega)|exact ow_243.new (by omega)|assumption) (e ▸ hb)))
          have g244:Agree S S244:=⟨by have:=(g242).1; omega,fun id hid=>(q244 id (by have:=(g242).1; omega)).trans ((g242).2 id hid)⟩
          obtain ⟨S246,k246,a246⟩:=c160 (s.stops:List Stp) (⟨mt,mm⟩:Mo) (by first|omega|assumption) S244 (v_s_stops) (hv_s_stops.agree g244) S172.next v234_244 (by omega)
          have l246:=a246.1
          have s246:E0.same S244 S246=true:=symEnv_same a246
          have v160_246:=(a246.2 S15b.next (by omega)).trans v160_244
          have v1_246:=(a246.2 S.next (by omega)).trans v1_244
          have v2_246:=(a246.2 S1.next (by omega)).trans v2_244
          have v3_246:=(a246.2 S2.next (by omega)).trans v3_244
          have v6_246:=(a246.2 S5.next (by omega)).trans v6_244
          have v12_246:=(a246.2 S9.next (by omega)).trans v12_244
          have vl15_246:=(a246.2 y15 (by omega)).trans b244
          have vd15_246:=(a246.2 S12.next (by omega)).trans vd15_244
          have v168_246:=(a246.2 id168 (by omega)).trans v168_244
          have v169_246:=(a246.2 S166.next (by omega)).trans v169_244
          have v234_246:=(a246.2 S172.next (by omega)).trans v234_244
          have v239_246:=(a246.2 S237.next (by omega)).trans v239_244
          have ow_247:=ow_245.agree a246
          have g246:Agree S S246:=g244.trans a246
          have p246:=r160_lt (s.stops:List Stp) (⟨mt,mm⟩:Mo)
          try simp (disch:=first|omega|assumption) only [E0_G,SY,setArgs,off,agreeKind,partVals,vals,allocV,boxed,ldA,rdCells,oneB,aggD,aField,aFieldV,aExtract,eq_self,ne_eq,if_true,if_false,not_false_eq_true,Nat.reduceAdd,Nat.reduceSub,Nat.reduceMul,Nat.reduceLT,Nat.reduceEqDiff,Nat.reduceBEq,reduceIte,Int.reduceEq,Int.reduceLT,Int.reduceLE,reduceCtorEq,TY_EvW5,bb166_160,bb166_1,bb166_2,bb166_3,bb166_6,bb166_12,bb166_l15,bb166_d15,w4,w165,h167a,i168,j168,m168_0,m168_1,v160_169,v1_169,v2_169,v3_169,v6_169,v12_169,vl15_169,vd15_169,v168_169,s169,e169,b169,v160_172,v1_172,v2_172,v3_172,v6_172,v12_172,vl15_172,vd15_172,v168_172,k172,b172,h175a,h177a,gt15_2,gt15_4,gt15_5,setP_cons,setP_nil,List.zip_cons_cons,List.zip_nil_left,List.zip_nil_right,v160_234,v1_234,v2_234,v3_234,v6_234,v12_234,vl15_234,vd15_234,v168_234,v169_234,s234,e234,b234,v160_237,v1_237,v2_237,v3_237,v6_237,v12_237,vl15_237,vd15_237,v168_237,v169_237,k237,b237,v160_239,v1_239,v2_239,v3_239,v6_239,v12_239,vl15_239,vd15_239,v168_239,v169_239,v234_239,s239,e239,b239,v160_242,v1_242,v2_242,v3_242,v6_242,v12_242,vl15_242,vd15_242,v168_242,v169_242,v234_242,k242,b242,v160_244,v1_244,v2_244,v3_244,v6_244,v12_244,vd15_244,v168_244,v169_244,v234_244,v239_244,b244,op_makeFunc1,op_makeFunc2,k246,s246,v160_246,v1_246,v2_246,v3_246,v6_246,v12_246,vl15_246,vd15_246,v168_246,v169_246,v234_246,v239_246] at hB213
          rw [code_draws _ _ _ (by kernel_rfl)] at hB213
          generalize hnd248:needy _=nd248 at hB213
          have nn248_8:nd248 8=false:=by rw [← hnd248]; kernel_rfl
          have qz249:((Int.toNat (r160 (s.stops:List Stp) (⟨mt,mm⟩:Mo)):Nat):Int)=(r160 (s.stops:List Stp) (⟨mt,mm⟩:Mo)):=Int.toNat_of_nonneg (by first|omega|simp; omega)
          have hx250:sd[(Int.toNat (r160 (s.stops:List Stp) (⟨mt,mm⟩:Mo)))]?=some (lget sd (Int.toNat (r160 (s.stops:List Stp) (⟨mt,mm⟩:Mo)))):=lget_some (by first|omega|simp; omega)
          obtain ⟨id250,of250,cc250,ty250,wr250,ex250,i250,j250,l250,q250,lb250,bk250,oq250⟩:=ow_247.at4 (P:=Tryz.prog) (t:=31) Tryz.underlying31 tz3 hx250
          have m250_0:cc250[of250]?=some (.int .i64 (lget sd (Int.toNat (r160 (s.stops:List Stp) (⟨mt,mm⟩:Mo))))):=q250 0 (show 0<1 by decide)
          rw [qz249] at i250
          have qz251:((Int.toNat (r160 (s.stops:List Stp) (⟨mt,mm⟩:Mo)):Nat):Int)=(r160 (s.stops:List Stp) (⟨mt,mm⟩:Mo)):=Int.toNat_of_nonneg (by first|omega|simp; omega)
          obtain ⟨id252,of252,cc252,ty252,wr252,ex252,i252,j252,l252,q252,lb252,bk252,oq252⟩:=ow_247.at4 (P:=Tryz.prog) (t:=31) Tryz.underlying31 tz3 hx250
          obtain rfl:id250=id252:=Option.some.inj (bk250.symm.trans bk252)
          obtain rfl:of250=of252:=oq250.trans oq252.symm
          have m252_0:cc252[of250]?=some (.int .i64 (lget sd (Int.toNat (r160 (s.stops:List Stp) (⟨mt,mm⟩:Mo))))):=q252 0 (show 0<1 by decide)
          rw [qz251] at i252
          obtain ⟨S253,k253,n253,o253,q253⟩:=ow_247.put1 (P:=Tryz.prog) (lget_some (l:=sd) (by first|omega|simp; omega)) bk252 oq252 3 (.int .i64 (IntKind.i64.wrap ((lget sd (Int.toNat (r160 (s.stops:List Stp) (⟨mt,mm⟩:Mo))))+x166.secs))) 0 (IntKind.i64.wrap ((lget sd (Int.toNat (r160 (s.stops:List Stp) (⟨mt,mm⟩:Mo))))+x166.secs)) tz3 rfl rfl (by decide) rfl
          replace k253:stA Tryz.prog 3 ⟨id250,of250,none⟩ (.int .i64 (IntKind.i64.wrap ((lget sd (Int.toNat (r160 (s.stops:List Stp) (⟨mt,mm⟩:Mo))))+x166.secs))) S246=some S253:=k253
          have v160_253:=(q253 S15b.next (fun e=>(show blkOf (.slice (some ⟨S3.next,0,none⟩) s.stops.length s.stops.length)≠some S15b.next from by first|exact ow_247.ne (by omega)|exact ow_247.new (by omega)|assumption) (e ▸ bk252))).trans v160_246
          have v1_253:=(q253 S.next (fun e=>(show blkOf (.slice (some ⟨S3.next,0,none⟩) s.stops.length s.stops.length)≠some S.next from by first|exact ow_247.ne (by omega)|exact ow_247.new (by omega)|assumption) (e ▸ bk252))).trans v1_246
          have v2_253:=(q253 S1.next (fun e=>(show blkOf (.slice (some ⟨S3.next,0,none⟩) s.stops.length s.stops.length)≠some S1.next from by first|exact ow_247.ne (by omega)|exact ow_247.new (by omega)|assumption) (e ▸ bk252))).trans v2_246
          have v3_253:=(q253 S2.next (fun e=>(show blkOf (.slice (some ⟨S3.next,0,none⟩) s.stops.length s.stops.length)≠some S2.next from by first|exact ow_247.ne (by omega)|exact ow_247.new (by omega)|assumption) (e ▸ bk252))).trans v3_246
          have v6_253:=(q253 S5.next (fun e=>(show blkOf (.slice (some ⟨S3.next,0,none⟩) s.stops.length s.stops.length)≠some S5.next from by first|exact ow_247.ne (by omega)|exact ow_247.new (by omega)|assumption) (e ▸ bk252))).trans v6_246
          have v12_253:=(q253 S9.next (fun e=>(show blkOf (.slice (some ⟨S3.next,0,none⟩) s.stops.length s.stops.length)≠some S9.next from by first|exact ow_247.ne (by omega)|exact ow_247.new (by omega)|assumption) (e ▸ bk252))).trans v12_246
          have vl15_253:=(q253 y15 (fun e=>(show blkOf (.slice (some ⟨S3.next,0,none⟩) s.stops.length s.stops.length)≠some y15 from by first|exact ow_247.ne (by omega)|exact ow_247.new (by omega)|assumption) (e ▸ bk252))).trans vl15_246
          have vd15_253:=(q253 S12.next (fun e=>(show blkOf (.slice (some ⟨S3.next,0,none⟩) s.stops.length s.stops.length)≠some S12.next from by first|exact ow_247.ne (by omega)|exact ow_247.new (by omega)|assumption) (e ▸ bk252))).trans vd15_246
          have v169_253:=(q253 S166.next (fun e=>(show blkOf (.slice (some ⟨S3.next,0,none⟩) s.stops.length s.stops.length)≠some S166.next from by first|exact ow_247.ne (by omega)|exact ow_247.new (by omega)|assumption) (e ▸ bk252))).trans v169_246
          have v234_253:=(q253 S172.next (fun e=>(show blkOf (.slice (some ⟨S3.next,0,none⟩) s.stops.length s.stops.length)≠some S172.next from by first|exact ow_247.ne (by omega)|exact ow_247.new (by omega)|assumption) (e ▸ bk252))).trans v234_246
          have v239_253:=(q253 S237.next (fun e=>(show blkOf (.slice (some ⟨S3.next,0,none⟩) s.stops.length s.stops.length)≠some S237.next from by first|exact ow_247.ne (by omega)|exact ow_247.new (by omega)|assumption) (e ▸ bk252))).trans v239_246
          have g253:Agree S S253:=⟨by have:=(g246).1; omega,fun id hid=>(q253 id (fun e=>(show blkOf (.slice (some ⟨S3.next,0,none⟩) s.stops.length s.stops.length)≠some id from ow_247.ne (by omega)) (e ▸ bk252))).trans ((g246).2 id hid)⟩
          try simp (disch:=first|omega|assumption) only [E0_G,SY,setArgs,off,agreeKind,partVals,vals,allocV,boxed,ldA,rdCells,oneB,aggD,aField,aFieldV,aExtract,eq_self,ne_eq,if_true,if_false,not_false_eq_true,Nat.reduceAdd,Nat.reduceSub,Nat.reduceMul,Nat.reduceLT,Nat.reduceEqDiff,Nat.reduceBEq,reduceIte,Int.reduceEq,Int.reduceLT,Int.reduceLE,reduceCtorEq,TY_EvW5,bb166_160,bb166_1,bb166_2,bb166_3,bb166_6,bb166_12,bb166_l15,bb166_d15,w4,w165,h167a,i168,j168,m168_0,m168_1,v160_169,v1_169,v2_169,v3_169,v6_169,v12_169,vl15_169,vd15_169,v168_169,s169,e169,b169,v160_172,v1_172,v2_172,v3_172,v6_172,v12_172,vl15_172,vd15_172,v168_172,k172,b172,h175a,h177a,gt15_2,gt15_4,gt15_5,setP_cons,setP_nil,List.zip_cons_cons,List.zip_nil_left,List.zip_nil_right,v160_234,v1_234,v2_234,v3_234,v6_234,v12_234,vl15_234,vd15_234,v168_234,v169_234,s234,e234,b234,v160_237,v1_237,v2_237,v3_237,v6_237,v12_237,vl15_237,vd15_237,v168_237,v169_237,k237,b237,v160_239,v1_239,v2_239,v3_239,v6_239,v12_239,vl15_239,vd15_239,v168_239,v169_239,v234_239,s239,e239,b239,v160_242,v1_242,v2_242,v3_242,v6_242,v12_242,vl15_242,vd15_242,v168_242,v169_242,v234_242,k242,b242,v160_244,v1_244,v2_244,v3_244,v6_244,v12_244,vd15_244,v168_244,v169_244,v234_244,v239_244,b244,op_makeFunc1,op_makeFunc2,k246,s246,v160_246,v1_246,v2_246,v3_246,v6_246,v12_246,vl15_246,vd15_246,v168_246,v169_246,v234_246,v239_246,nn248_8,store_agree,store_refl E0_same,i250,j250,m250_0,i252,j252,m252_0,v160_253,v1_253,v2_253,v3_253,v6_253,v12_253,vl15_253,vd15_253,v169_253,v234_253,v239_253,k253] at hB213
          refine ⟨_,_,S253,hB213.symm,vl15_253,?_⟩
          intro S254 n254 b254 q254
          have v160_254:=(q254 S15b.next (by omega)).trans v160_253
          have v1_254:=(q254 S.next (by omega)).trans v1_253
          have v2_254:=(q254 S1.next (by omega)).trans v2_253
          have v3_254:=(q254 S2.next (by omega)).trans v3_253
          have v6_254:=(q254 S5.next (by omega)).trans v6_253
          have v12_254:=(q254 S9.next (by omega)).trans v12_253
          have vd15_254:=(q254 S12.next (by omega)).trans vd15_253
          have v169_254:=(q254 S166.next (by omega)).trans v169_253
          have v234_254:=(q254 S172.next (by omega)).trans v234_253
          have v239_254:=(q254 S237.next (by omega)).trans v239_253
          have o253_255:=o253.frame (by omega) (fun id hid hb=>q254 id (fun e=>(show blkOf (.slice (some ⟨S3.next,0,none⟩) s.stops.length s.stops.length)≠some y15 from by first|exact o253.ne (by omega)|exact o253.new (by omega)|assumption) (e ▸ hb)))
          have g254:Agree S S254:=⟨by have:=(g253).1; omega,fun id hid=>(q254 id (by have:=(g253).1; omega)).trans ((g253).2 id hid)⟩
          exact ⟨b254,v160_254,v1_254,v2_254,v3_254,v6_254,v12_254,vd15_254,v169_254,g254,by omega,o253_255,(by first|exact o253_255.ne (by omega)|exact o253_255.new (by omega)|assumption),(by first|exact o253_255.ne (by omega)|exact o253_255.new (by omega)|assumption),(by first|exact o253_255.ne (by omega)|exact o253_255.new (by omega)|assumption),(by first|exact o253_255.ne (by omega)|exact o253_255.new (by omega)|assumption),(by first|exact o253_255.ne (by omega)|exact o253_255.new (by omega)|assumption),(by first|exact o253_255.ne (by omega)|exact o253_255.new (by omega)|assumption),(by first|exact o253_255.ne (by omega)|exact o253_255.new (by omega)|assumption),(by first|exact o253_255.ne (by omega)|exact o253_255.new (by omega)|assumption)⟩)
        replace k213:(evL Tryz.prog E0).round y15 #[.agg #[.int .i64 mt,.int .i64 mm],.agg #[.int .i64 x166.secs,.int .i64 x166.rate]] S172=some (.bool true,S213):=k213
        have bm213_168:=(gm213.2 id168 l168).trans jr168
        obtain ⟨S256,k256,a256⟩:=c118 mt mm x166.secs x166.rate  S213
        have l256:=a256.1
        have s256:E0.same S213 S256=true:=symEnv_same a256
        have v160_256:=(a256.2 S15b.next (by omega)).trans bm213_160
        have v1_256:=(a256.2 S.next (by omega)).trans bm213_1
        have v2_256:=(a256.2 S1.next (by omega)).trans bm213_2
        have v3_256:=(a256.2 S2.next (by omega)).trans bm213_3
        have v6_256:=(a256.2 S5.next (by omega)).trans bm213_6
        have v12_256:=(a256.2 S9.next (by omega)).trans bm213_12
        have vd15_256:=(a256.2 S12.next (by omega)).trans bm213_d15
        have v168_256:=(a256.2 id168 (by omega)).trans bm213_168
        have v169_256:=(a256.2 S166.next (by omega)).trans bm213_169
        have vl15_256:=(a256.2 y15 (by omega)).trans bq213
        have om213_257:=om213_0.agree a256
        have g256:Agree S S256:=gm213.trans a256
        obtain ⟨S258,k258,n258,b258,q258⟩:=st_at (o:=0) (c':=[.int .i64 (((r118 mt mm x166.secs x166.rate)).1),.int .i64 (((r118 mt mm x166.secs x166.rate)).2)]) (v:=.agg #[.int .i64 (((r118 mt mm x166.secs x166.rate)).1),.int .i64 (((r118 mt mm x166.secs x166.rate)).2)]) tz165 v160_256 rfl rfl (show 0+2≤2 by decide) rfl
        have v1_258:=(q258 S.next (by omega)).trans v1_256
        have v2_258:=(q258 S1.next (by omega)).trans v2_256
        have v3_258:=(q258 S2.next (by omega)).trans v3_256
        have v6_258:=(q258 S5.next (by omega)).trans v6_256
        have v12_258:=(q258 S9.next (by omega)).trans v12_256
        have vd15_258:=(q258 S12.next (by omega)).trans vd15_256
        have v168_258:=(q258 id168 (by omega)).trans v168_256
        have v169_258:=(q258 S166.next (by omega)).trans v169_256
        have vl15_258:=(q258 y15 (by omega)).trans vl15_256
        have om213_259:=om213_257.frame (by omega) (fun id hid hb=>q258 id (fun e=>(show blkOf (.slice (some ⟨S3.next,0,none⟩) s.stops.length s.stops.length)≠some S15b.next from by first|exact om213_257.ne (by omega)|exact om213_257.new (by omega)|assumption) (e ▸ hb)))
        have g258:Agree S S258:=⟨by have:=(g256).1; omega,fun id hid=>(q258 id (by have:=(g256).1; omega)).trans ((g256).2 id hid)⟩
        have w260:IntKind.i64.wrap ((k:Int)+1)=((k+1:Nat):Int):=by rw [IntWalk.i64_in]<;>omega
        try simp (disch:=first|omega|assumption) only [E0_G,SY,setArgs,off,agreeKind,partVals,vals,allocV,boxed,ldA,rdCells,oneB,aggD,aField,aFieldV,aExtract,eq_self,ne_eq,if_true,if_false,not_false_eq_true,Nat.reduceAdd,Nat.reduceSub,Nat.reduceMul,Nat.reduceLT,Nat.reduceEqDiff,Nat.reduceBEq,reduceIte,Int.reduceEq,Int.reduceLT,Int.reduceLE,reduceCtorEq,TY_EvW5,g166_0,g166_3,g166_12,g166_13,g166_14,bb166_160,bb166_1,bb166_2,bb166_3,bb166_6,bb166_12,bb166_l15,bb166_d15,w4,w165,h167a,i168,j168,m168_0,m168_1,v160_169,v1_169,v2_169,v3_169,v6_169,v12_169,vl15_169,vd15_169,v168_169,s169,e169,b169,v160_172,v1_172,v2_172,v3_172,v6_172,v12_172,vl15_172,vd15_172,v168_172,k172,b172,h175a,h177a,bm213_160,bm213_1,bm213_2,bm213_3,bm213_6,bm213_12,bm213_d15,bm213_168,bm213_169,bq213,k213,calledV_yield,firstOf_none,op_round,roundV_some,k256,s256,v160_256,v1_256,v2_256,v3_256,v6_256,v12_256,vd15_256,v168_256,v169_256,vl15_256,v1_258,v2_258,v3_258,v6_258,v12_258,vd15_258,v168_258,v169_258,vl15_258,k258,b258,w260] at he
        rw [drop_cons' hx166] at hd166
        have hf:=(show _=(R122_159_0 s rn (rn.legs.drop (k+1)) (k+1) (((r118 mt mm x166.secs x166.rate)).1) (((r118 mt mm x166.secs x166.rate)).2) (sd.set (Int.toNat (r160 (s.stops:List Stp) (⟨mt,mm⟩:Mo))) (IntKind.i64.wrap ((lget sd (Int.toNat (r160 (s.stops:List Stp) (⟨mt,mm⟩:Mo))))+x166.secs))):Sum (Unit) ((List Int))) from (if_pos h175).trans ((if_neg h177).trans (rfl))).symm.trans hd166
        refine .next he (m - 1) (by omega) ⟨(k+1),((r118 mt mm x166.secs x166.rate)).1,((r118 mt mm x166.secs x166.rate)).2,sd.set (Int.toNat (r160 (s.stops:List Stp) (⟨mt,mm⟩:Mo))) (IntKind.i64.wrap ((lget sd (Int.toNat (r160 (s.stops:List Stp) (⟨mt,mm⟩:Mo))))+x166.secs)),?_,?_,?_,?_,?_,?_,?_,?_,b258,v1_258,v2_258,v3_258,v6_258,v12_258,vl15_258,vd15_258,g258,by omega,om213_259,hf⟩<;>first|(simp only [SY,setArgs,off,agreeKind,partVals,vals,allocV,boxed,ldA,rdCells,oneB,aggD,aField,aFieldV,aExtract,eq_self,ne_eq,if_true,if_false,not_false_eq_true,Nat.reduceAdd,Nat.reduceSub,Nat.reduceMul,Nat.reduceLT,Nat.reduceEqDiff,Nat.reduceBEq,reduceIte,Int.reduceEq,Int.reduceLT,Int.reduceLE,reduceCtorEq,g166_0,g166_3,g166_12,g166_13,g166_14]<;>rfl)|omega|assumption|(simp; omega)|simp
      ·skip
       try simp (disch:=first|omega|assumption) only [E0_G,SY,setArgs,off,agreeKind,partVals,vals,allocV,boxed,ldA,rdCells,oneB,aggD,aField,aFieldV,aExtract,eq_self,ne_eq,if_true,if_false,not_false_eq_true,Nat.reduceAdd,Nat.reduceSub,Nat.reduceMul,Nat.reduceLT,Nat.reduceEqDiff,Nat.reduceBEq,reduceIte,Int.reduceEq,Int.reduceLT,Int.reduceLE,reduceCtorEq,TY_EvW5,g166_0,g166_3,g166_12,g166_13,g166_14,bb166_160,bb166_1,bb166_2,bb166_3,bb166_6,bb166_12,bb166_l15,bb166_d15,w4,w165,h167a,i168,j168,m168_0,m168_1,v160_169,v1_169,v2_169,v3_169,v6_169,v12_169,vl15_169,vd15_169,v168_169,s169,e169,b169,v160_172,v1_172,v2_172,v3_172,v6_172,v12_172,vl15_172,vd15_172,v168_172,k172,b172,h175a] at he
       obtain ⟨S261,k261,bq261,bm261_160,bm261_1,bm261_2,bm261_3,bm261_6,bm261_12,bm261_d15,bm261_169,gm261,gl261,om261_0,ne261_m0,ne261_m1,ne261_m2,ne261_m3,ne261_m4,ne261_m5,ne261_m6,ne261_m7⟩:=round_in (P:=Tryz.prog) (E:=E0) (bs:=[.agg #[.int .i64 mt,.int .i64 mm],.agg #[.int .i64 x166.secs,.int .i64 x166.rate]]) hb15 rfl vl15_172 (Q:=fun S'=>S'.heap.get y15=some (.loop L15)∧S'.heap.get S15b.next=some (.cells [.int .i64 mt,.int .i64 mm] 165 0 true true)∧S'.heap.get S.next=some (.cells [.int .i64 s.id,.int .i64 s.inLo,.int .i64 s.inHi,.int .i64 s.outLo,.int .i64 s.outHi,.int .i64 s.zLo,.int .i64 s.zHi,.int .i64 s.eLo,.int .i64 s.eHi,.int .i64 s.rLo,.int .i64 s.rHi,v_s_stops] 26 0 true true)∧S'.heap.get S1.next=some (.cells [.int .i64 rn.start,.int .i64 rn.micro,v_rn_legs] 94 0 true true)∧S'.heap.get S2.next=some (.cells [.bool false] 4 0 true true)∧S'.heap.get S5.next=some (.cells [.slice (some ⟨S3.next,0,none⟩) s.stops.length s.stops.length] 31 0 true true)∧S'.heap.get S9.next=some (.cells [.int .i64 rn.start,.int .i64 rn.micro,v_rn_legs] 94 0 true true)∧S'.heap.get S12.next=some (.dfd true)∧S'.heap.get S166.next=some (.cells [.int .i64 x166.secs,.int .i64 x166.rate] 104 0 true true)∧Agree S S'∧S172.next≤S'.next∧Own 3 S3.next S' (.slice (some ⟨S3.next,0,none⟩) s.stops.length s.stops.length) sd∧blkOf (.slice (some ⟨S3.next,0,none⟩) s.stops.length s.stops.length)≠some S15b.next∧blkOf (.slice (some ⟨S3.next,0,none⟩) s.stops.length s.stops.length)≠some S.next∧blkOf (.slice (some ⟨S3.next,0,none⟩) s.stops.length s.stops.length)≠some S1.next∧blkOf (.slice (some ⟨S3.next,0,none⟩) s.stops.length s.stops.length)≠some S2.next∧blkOf (.slice (some ⟨S3.next,0,none⟩) s.stops.length s.stops.length)≠some S5.next∧blkOf (.slice (some ⟨S3.next,0,none⟩) s.stops.length s.stops.length)≠some S9.next∧blkOf (.slice (some ⟨S3.next,0,none⟩) s.stops.length s.stops.length)≠some S12.next∧blkOf (.slice (some ⟨S3.next,0,none⟩) s.stops.length s.stops.length)≠some S166.next) (by
         intro zA261 hA261
         obtain ⟨S274,e274,n274,b274,a274⟩:=push_open S172 (.cells [.int .i64 0,.int .i64 0] 165 0 true true)
         have v160_274:=(a274.2 S15b.next (by omega)).trans v160_172
         have v1_274:=(a274.2 S.next (by omega)).trans v1_172
         have v2_274:=(a274.2 S1.next (by omega)).trans v2_172
         have v3_274:=(a274.2 S2.next (by omega)).trans v3_172
         have v6_274:=(a274.2 S5.next (by omega)).trans v6_172
         have v12_274:=(a274.2 S9.next (by omega)).trans v12_172
         have vl15_274:=(a274.2 y15 (by omega)).trans vl15_172
         have vd15_274:=(a274.2 S12.next (by omega)).trans vd15_172
         have v168_274:=(a274.2 id168 (by omega)).trans v168_172
         have v169_274:=(a274.2 S166.next (by omega)).trans b172
         have ow_275:=ow_173.agree a274
         have g274:Agree S S274:=g172.trans a274
         have s274:E0.same S172 S274=true:=symEnv_same a274
         have ne276:blkOf (.slice (some ⟨S3.next,0,none⟩) s.stops.length s.stops.length)≠some S172.next:=ow_173.new (Nat.le_refl _)
         obtain ⟨S277,k277,n277,b277,q277⟩:=st_at (o:=0) (c':=[.int .i64 mt,.int .i64 mm]) (v:=.agg #[.int .i64 mt,.int .i64 mm]) tz165 b274 rfl rfl (show 0+2≤2 by decide) rfl
         have v160_277:=(q277 S15b.next (by omega)).trans v160_274
         have v1_277:=(q277 S.next (by omega)).trans v1_274
         have v2_277:=(q277 S1.next (by omega)).trans v2_274
         have v3_277:=(q277 S2.next (by omega)).trans v3_274
         have v6_277:=(q277 S5.next (by omega)).trans v6_274
         have v12_277:=(q277 S9.next (by omega)).trans v12_274
         have vl15_277:=(q277 y15 (by omega)).trans vl15_274
         have vd15_277:=(q277 S12.next (by omega)).trans vd15_274
         have v168_277:=(q277 id168 (by omega)).trans v168_274
         have v169_277:=(q277 S166.next (by omega)).trans v169_274
         have ow_278:=ow_275.frame (by omega) (fun id hid hb=>q277 id (fun e=>(show blkOf (.slice (some ⟨S3.next,0,none⟩) s.stops.length s.stops.length)≠some S172.next from by first|exact ow_275.ne (by omega)|exact ow_275.new (by omega)|assumption) (e ▸ hb)))
         have g277:Agree S S277:=⟨by have:=(g274).1; omega,fun id hid=>(q277 id (by have:=(g274).1; omega)).trans ((g274).2 id hid)⟩
         obtain ⟨S279,e279,n279,b279,a279⟩:=push_open S277 (.cells [.int .i64 0,.int .i64 0] 104 0 true true)
         have v160_279:=(a279.2 S15b.next (by omega)).trans v160_277
         have v1_279:=(a279.2 S.next (by omega)).trans v1_277
         have v2_279:=(a279.2 S1.next (by omega)).trans v2_277
         have v3_279:=(a279.2 S2.next (by omega)).trans v3_277
         have v6_279:=(a279.2 S5.next (by omega)).trans v6_277
         have v12_279:=(a279.2 S9.next (by omega)).trans v12_277
         have vl15_279:=(a279.2 y15 (by omega)).trans vl15_277
         have vd15_279:=(a279.2 S12.next (by omega)).trans vd15_277
         have v168_279:=(a279.2 id168 (by omega)).trans v168_277
         have v169_279:=(a279.2 S166.next (by omega)).trans v169_277
         have v274_279:=(a279.2 S172.next (by omega)).trans b277
         have ow_280:=ow_278.agree a279
         have g279:Agree S S279:=g277.trans a279
         have s279:E0.same S277 S279=true:=symEnv_same a279
         have ne281:blkOf (.slice (some ⟨S3.next,0,none⟩) s.stops.length s.stops.length)≠some S277.next:=ow_278.new (Nat.le_refl _)
         obtain ⟨S282,k282,n282,b282,q282⟩:=st_at (o:=0) (c':=[.int .i64 x166.secs,.int .i64 x166.rate]) (v:=.agg #[.int .i64 x166.secs,.int .i64 x166.rate]) tz104 b279 rfl rfl (show 0+2≤2 by decide) rfl
         have v160_282:=(q282 S15b.next (by omega)).trans v160_279
         have v1_282:=(q282 S.next (by omega)).trans v1_279
         have v2_282:=(q282 S1.next (by omega)).trans v2_279
         have v3_282:=(q282 S2.next (by omega)).trans v3_279
         have v6_282:=(q282 S5.next (by omega)).trans v6_279
         have v12_282:=(q282 S9.next (by omega)).trans v12_279
         have vl15_282:=(q282 y15 (by omega)).trans vl15_279
         have vd15_282:=(q282 S12.next (by omega)).trans vd15_279
         have v168_282:=(q282 id168 (by omega)).trans v168_279
         have v169_282:=(q282 S166.next (by omega)).trans v169_279
         have v274_282:=(q282 S172.next (by omega)).trans v274_279
         have ow_283:=ow_280.frame (by omega) (fun id hid hb=>q282 id (fun e=>(show blkOf (.slice (some ⟨S3.next,0,none⟩) s.stops.length s.stops.length)≠some S277.next from by first|exact ow_280.ne (by omega)|exact ow_280.new (by omega)|assumption) (e ▸ hb)))
         have g282:Agree S S282:=⟨by have:=(g279).1; omega,fun id hid=>(q282 id (by have:=(g279).1; omega)).trans ((g279).2 id hid)⟩
         try simp (disch:=first|omega|assumption) only [E0_G,SY,setArgs,off,agreeKind,partVals,vals,allocV,boxed,ldA,rdCells,oneB,aggD,aField,aFieldV,aExtract,eq_self,ne_eq,if_true,if_false,not_false_eq_true,Nat.reduceAdd,Nat.reduceSub,Nat.reduceMul,Nat.reduceLT,Nat.reduceEqDiff,Nat.reduceBEq,reduceIte,Int.reduceEq,Int.reduceLT,Int.reduceLE,reduceCtorEq,TY_EvW5,bb166_160,bb166_1,bb166_2,bb166_3,bb166_6,bb166_12,bb166_l15,bb166_d15,w4,w165,h167a,i168,j168,m168_0,m168_1,v160_169,v1_169,v2_169,v3_169,v6_169,v12_169,vl15_169,vd15_169,v168_169,s169,e169,b169,v160_172,v1_172,v2_172,v3_172,v6_172,v12_172,vl15_172,vd15_172,v168_172,k172,b172,h175a,gt15_2,gt15_4,gt15_5,setP_cons,setP_nil,List.zip_cons_cons,List.zip_nil_left,List.zip_nil_right,v160_274,v1_274,v2_274,v3_274,v6_274,v12_274,vl15_274,vd15_274,v168_274,v169_274,s274,e274,b274,v160_277,v1_277,v2_277,v3_277,v6_277,v12_277,vl15_277,vd15_277,v168_277,v169_277,k277,b277,v160_279,v1_279,v2_279,v3_279,v6_279,v12_279,vl15_279,vd15_279,v168_279,v169_279,v274_279,s279,e279,b279,v160_282,v1_282,v2_282,v3_282,v6_282,v12_282,vl15_282,vd15_282,v168_282,v169_282,v274_282,k282,b282] at hA261
         refine ⟨_,S282,hA261.symm,vl15_282,?_⟩
         intro S284 n284 b284 q284 zB261 hB261
         have v160_284:=(q284 S15b.next (by omega)).trans v160_282
         have v1_284:=(q284 S.next (by omega)).trans v1_282
         have v2_284:=(q284 S1.next (by omega)).trans v2_282
         have v3_284:=(q284 S2.next (by omega)).trans v3_282
         have v6_284:=(q284 S5.next (by omega)).trans v6_282
         have v12_284:=(q284 S9.next (by omega)).trans v12_282
         have vd15_284:=(q284 S12.next (by omega)).trans vd15_282
         have v168_284:=(q284 id168 (by omega)).trans v168_282
         have v169_284:=(q284 S166.next (by omega)).trans v169_282
         have v274_284:=(q284 S172.next (by omega)).trans v274_282
         have v279_284:=(q284 S277.next (by omega)).trans b282
         have ow_285:=ow_283.frame (by omega) (fun id hid hb=>q284 id (fun e=>(show blkOf (.slice (some ⟨S3.next,0,none⟩) s.stops.length s.stops.length)≠some y15 from by first|exact ow_283.ne (by omega)|exact ow_283.new (by omega)|assumption) (e ▸ hb)))
         have g284:Agree S S284:=⟨by have:=(g282).1; omega,fun id hid=>(q284 id (by have:=(g282).1; omega)).trans ((g282).2 id hid)⟩
         try simp (disch:=first|omega|assumption) only [E0_G,SY,setArgs,off,agreeKind,partVals,vals,allocV,boxed,ldA,rdCells,oneB,aggD,aField,aFieldV,aExtract,eq_self,ne_eq,if_true,if_false,not_false_eq_true,Nat.reduceAdd,Nat.reduceSub,Nat.reduceMul,Nat.reduceLT,Nat.reduceEqDiff,Nat.reduceBEq,reduceIte,Int.reduceEq,Int.reduceLT,Int.reduceLE,reduceCtorEq,TY_EvW5,bb166_160,bb166_1,bb166_2,bb166_3,bb166_6,bb166_12,bb166_l15,bb166_d15,w4,w165,h167a,i168,j168,m168_0,m168_1,v160_169,v1_169,v2_169,v3_169,v6_169,v12_169,vl15_169,vd15_169,v168_169,s169,e169,b169,v160_172,v1_172,v2_172,v3_172,v6_172,v12_172,vl15_172,vd15_172,v168_172,k172,b172,h175a,gt15_2,gt15_4,gt15_5,setP_cons,setP_nil,List.zip_cons_cons,List.zip_nil_left,List.zip_nil_right,v160_274,v1_274,v2_274,v3_274,v6_274,v12_274,vl15_274,vd15_274,v168_274,v169_274,s274,e274,b274,v160_277,v1_277,v2_277,v3_277,v6_277,v12_277,vl15_277,vd15_277,v168_277,v169_277,k277,b277,v160_279,v1_279,v2_279,v3_279,v6_279,v12_279,vl15_279,vd15_279,v168_279,v169_279,v274_279,s279,e279,b279,v160_282,v1_282,v2_282,v3_282,v6_282,v12_282,vl15_282,vd15_282,v168_282,v169_282,v274_282,k282,b282,v160_284,v1_284,v2_284,v3_284,v6_284,v12_284,vd15_284,v168_284,v169_284,v274_284,v279_284,b284] at hB261
         refine ⟨_,_,S284,hB261.symm,b284,?_⟩
         intro S286 n286 b286 q286
         have v160_286:=(q286 S15b.next (by omega)).trans v160_284
         have v1_286:=(q286 S.next (by omega)).trans v1_284
         have v2_286:=(q286 S1.next (by omega)).trans v2_284
         have v3_286:=(q286 S2.next (by omega)).trans v3_284
         have v6_286:=(q286 S5.next (by omega)).trans v6_284
         have v12_286:=(q286 S9.next (by omega)).trans v12_284
         have vd15_286:=(q286 S12.next (by omega)).trans vd15_284
         have v168_286:=(q286 id168 (by omega)).trans v168_284
         have v169_286:=(q286 S166.next (by omega)).trans v169_284
         have v274_286:=(q286 S172.next (by omega)).trans v274_284
         have v279_286:=(q286 S277.next (by omega)).trans v279_284
         have ow_287:=ow_285.frame (by omega) (fun id hid hb=>q286 id (fun e=>(show blkOf (.slice (some ⟨S3.next,0,none⟩) s.stops.length s.stops.length)≠some y15 from by first|exact ow_285.ne (by omega)|exact ow_285.new (by omega)|assumption) (e ▸ hb)))
         have g286:Agree S S286:=⟨by have:=(g284).1; omega,fun id hid=>(q286 id (by have:=(g284).1; omega)).trans ((g284).2 id hid)⟩
         exact ⟨b286,v160_286,v1_286,v2_286,v3_286,v6_286,v12_286,vd15_286,v169_286,g286,by omega,ow_287,(by first|exact ow_287.ne (by omega)|exact ow_287.new (by omega)|assumption),(by first|exact ow_287.ne (by omega)|exact ow_287.new (by omega)|assumption),(by first|exact ow_287.ne (by omega)|exact ow_287.new (by omega)|assumption),(by first|exact ow_287.ne (by omega)|exact ow_287.new (by omega)|assumption),(by first|exact ow_287.ne (by omega)|exact ow_287.new (by omega)|assumption),(by first|exact ow_287.ne (by omega)|exact ow_287.new (by omega)|assumption),(by first|exact ow_287.ne (by omega)|exact ow_287.new (by omega)|assumption),(by first|exact ow_287.ne (by omega)|exact ow_287.new (by omega)|assumption)⟩)
       replace k261:(evL Tryz.prog E0).round y15 #[.agg #[.int .i64 mt,.int .i64 mm],.agg #[.int .i64 x166.secs,.int .i64 x166.rate]] S172=some (.bool true,S261):=k261
       have bm261_168:=(gm261.2 id168 l168).trans jr168
       obtain ⟨S288,k288,a288⟩:=c118 mt mm x166.secs x166.rate  S261
       have l288:=a288.1
       have s288:E0.same S261 S288=true:=symEnv_same a288
       have v160_288:=(a288.2 S15b.next (by omega)).trans bm261_160
       have v1_288:=(a288.2 S.next (by omega)).trans bm261_1
       have v2_288:=(a288.2 S1.next (by omega)).trans bm261_2
       have v3_288:=(a288.2 S2.next (by omega)).trans bm261_3
       have v6_288:=(a288.2 S5.next (by omega)).trans bm261_6
       have v12_288:=(a288.2 S9.next (by omega)).trans bm261_12
       have vd15_288:=(a288.2 S12.next (by omega)).trans bm261_d15
       have v168_288:=(a288.2 id168 (by omega)).trans bm261_168
       have v169_288:=(a288.2 S166.next (by omega)).trans bm261_169
       have vl15_288:=(a288.2 y15 (by omega)).trans bq261
       have om261_289:=om261_0.agree a288
       have g288:Agree S S288:=gm261.trans a288
       obtain ⟨S290,k290,n290,b290,q290⟩:=st_at (o:=0) (c':=[.int .i64 (((r118 mt mm x166.secs x166.rate)).1),.int .i64 (((r118 mt mm x166.secs x166.rate)).2)]) (v:=.agg #[.int .i64 (((r118 mt mm x166.secs x166.rate)).1),.int .i64 (((r118 mt mm x166.secs x166.rate)).2)]) tz165 v160_288 rfl rfl (show 0+2≤2 by decide) rfl
       have v1_290:=(q290 S.next (by omega)).trans v1_288
       have v2_290:=(q290 S1.next (by omega)).trans v2_288
       have v3_290:=(q290 S2.next (by omega)).trans v3_288
       have v6_290:=(q290 S5.next (by omega)).trans v6_288
       have v12_290:=(q290 S9.next (by omega)).trans v12_288
       have vd15_290:=(q290 S12.next (by omega)).trans vd15_288
       have v168_290:=(q290 id168 (by omega)).trans v168_288
       have v169_290:=(q290 S166.next (by omega)).trans v169_288
       have vl15_290:=(q290 y15 (by omega)).trans vl15_288
       have om261_291:=om261_289.frame (by omega) (fun id hid hb=>q290 id (fun e=>(show blkOf (.slice (some ⟨S3.next,0,none⟩) s.stops.length s.stops.length)≠some S15b.next from by first|exact om261_289.ne (by omega)|exact om261_289.new (by omega)|assumption) (e ▸ hb)))
       have g290:Agree S S290:=⟨by have:=(g288).1; omega,fun id hid=>(q290 id (by have:=(g288).1; omega)).trans ((g288).2 id hid)⟩
       have w292:IntKind.i64.wrap ((k:Int)+1)=((k+1:Nat):Int):=by rw [IntWalk.i64_in]<;>omega
       try simp (disch:=first|omega|assumption) only [E0_G,SY,setArgs,off,agreeKind,partVals,vals,allocV,boxed,ldA,rdCells,oneB,aggD,aField,aFieldV,aExtract,eq_self,ne_eq,if_true,if_false,not_false_eq_true,Nat.reduceAdd,Nat.reduceSub,Nat.reduceMul,Nat.reduceLT,Nat.reduceEqDiff,Nat.reduceBEq,reduceIte,Int.reduceEq,Int.reduceLT,Int.reduceLE,reduceCtorEq,TY_EvW5,g166_0,g166_3,g166_12,g166_13,g166_14,bb166_160,bb166_1,bb166_2,bb166_3,bb166_6,bb166_12,bb166_l15,bb166_d15,w4,w165,h167a,i168,j168,m168_0,m168_1,v160_169,v1_169,v2_169,v3_169,v6_169,v12_169,vl15_169,vd15_169,v168_169,s169,e169,b169,v160_172,v1_172,v2_172,v3_172,v6_172,v12_172,vl15_172,vd15_172,v168_172,k172,b172,h175a,bm261_160,bm261_1,bm261_2,bm261_3,bm261_6,bm261_12,bm261_d15,bm261_168,bm261_169,bq261,k261,calledV_yield,firstOf_none,op_round,roundV_some,k288,s288,v160_288,v1_288,v2_288,v3_288,v6_288,v12_288,vd15_288,v168_288,v169_288,vl15_288,v1_290,v2_290,v3_290,v6_290,v12_290,vd15_290,v168_290,v169_290,vl15_290,k290,b290,w292] at he
       rw [drop_cons' hx166] at hd166
       have hf:=(show _=(R122_159_0 s rn (rn.legs.drop (k+1)) (k+1) (((r118 mt mm x166.secs x166.rate)).1) (((r118 mt mm x166.secs x166.rate)).2) sd:Sum (Unit) ((List Int))) from (if_neg h175).trans (rfl)).symm.trans hd166
       refine .next he (m - 1) (by omega) ⟨(k+1),((r118 mt mm x166.secs x166.rate)).1,((r118 mt mm x166.secs x166.rate)).2,sd,?_,?_,?_,?_,?_,?_,?_,?_,b290,v1_290,v2_290,v3_290,v6_290,v12_290,vl15_290,vd15_290,g290,by omega,om261_291,hf⟩<;>first|(simp only [SY,setArgs,off,agreeKind,partVals,vals,allocV,boxed,ldA,rdCells,oneB,aggD,aField,aFieldV,aExtract,eq_self,ne_eq,if_true,if_false,not_false_eq_true,Nat.reduceAdd,Nat.reduceSub,Nat.reduceMul,Nat.reduceLT,Nat.reduceEqDiff,Nat.reduceBEq,reduceIte,Int.reduceEq,Int.reduceLT,Int.reduceLE,reduceCtorEq,g166_0,g166_3,g166_12,g166_13,g166_14]<;>rfl)|omega|assumption|(simp; omega)|simp
     ·skip
      try simp (disch:=first|omega|assumption) only [E0_G,SY,setArgs,off,agreeKind,partVals,vals,allocV,boxed,ldA,rdCells,oneB,aggD,aField,aFieldV,aExtract,eq_self,ne_eq,if_true,if_false,not_false_eq_true,Nat.reduceAdd,Nat.reduceSub,Nat.reduceMul,Nat.reduceLT,Nat.reduceEqDiff,Nat.reduceBEq,reduceIte,Int.reduceEq,Int.reduceLT,Int.reduceLE,reduceCtorEq,TY_EvW5,g166_0,g166_3,g166_12,g166_13,g166_14,bb166_160,bb166_1,bb166_2,bb166_3,bb166_6,bb166_12,bb166_l15,bb166_d15,w4,w165,h167a] at he
      rw [List.drop_eq_nil_of_le (show rn.legs.length≤k by omega)] at hd166
      have hf:=(show _=(.inr sd:Sum (Unit) ((List Int))) from rfl).symm.trans hd166
      refine .exit he (.inl ⟨rfl,⟨k,mt,mm,sd,bb166_160,bb166_1,bb166_2,bb166_3,bb166_6,bb166_12,bb166_l15,bb166_d15,ga166,by omega,ow_sd,?_,?_,hf.symm⟩⟩)<;>first|(simp only [SY,setArgs,off,agreeKind,partVals,vals,allocV,boxed,ldA,rdCells,oneB,aggD,aField,aFieldV,aExtract,eq_self,ne_eq,if_true,if_false,not_false_eq_true,Nat.reduceAdd,Nat.reduceSub,Nat.reduceMul,Nat.reduceLT,Nat.reduceEqDiff,Nat.reduceBEq,reduceIte,Int.reduceEq,Int.reduceLT,Int.reduceLE,reduceCtorEq,g166_0,g166_3,g166_12,g166_13,g166_14]<;>rfl)|omega|assumption|(simp; omega)|simp)
   rcases hQ166 with ⟨rfl,hQ166⟩|⟨rfl,hQ166⟩
   ·skip
    obtain ⟨k,mt,mm,sd,be166_160,be166_1,be166_2,be166_3,be166_6,be166_12,be166_l15,be166_d15,ge166,gm166,oe_sd166,hj166_0,hj166_1,hR166⟩:=hQ166
    try simp (disch:=first|omega|assumption) only [E0_G,SY,setArgs,off,agreeKind,partVals,vals,allocV,boxed,ldA,rdCells,oneB,aggD,aField,aFieldV,aExtract,eq_self,ne_eq,if_true,if_false,not_false_eq_true,Nat.reduceAdd,Nat.reduceSub,Nat.reduceMul,Nat.reduceLT,Nat.reduceEqDiff,Nat.reduceBEq,reduceIte,Int.reduceEq,Int.reduceLT,Int.reduceLE,reduceCtorEq,TY_EvW5,w4,w165,be166_160,be166_1,be166_2,be166_3,be166_6,be166_12,be166_l15,be166_d15] at hc15
    refine ⟨_,S166e,_,.normal,hc15.symm,be166_l15,(hb15.ready).1,(hb15.ready).2,fun S294 n294 q294=>?_⟩
    have v160_294:=(q294 S15b.next (by omega)).trans be166_160
    have v1_294:=(q294 S.next (by omega)).trans be166_1
    have v2_294:=(q294 S1.next (by omega)).trans be166_2
    have v3_294:=(q294 S2.next (by omega)).trans be166_3
    have v6_294:=(q294 S5.next (by omega)).trans be166_6
    have v12_294:=(q294 S9.next (by omega)).trans be166_12
    have vd15_294:=(q294 S12.next (by omega)).trans be166_d15
    have oe_295:=oe_sd166.frame (by omega) (fun id hid hb=>q294 id (fun e=>(show blkOf (.slice (some ⟨S3.next,0,none⟩) s.stops.length s.stops.length)≠some y15 from by first|exact oe_sd166.ne (by omega)|exact oe_sd166.new (by omega)|assumption) (e ▸ hb)))
    have g294:Agree S S294:=⟨by have:=(ge166).1; omega,fun id hid=>(q294 id (by have:=(ge166).1; omega)).trans ((ge166).2 id hid)⟩
    exact .inl ⟨rfl,vd15_294,sd,v1_294,v2_294,v3_294,v6_294,v12_294,g294,by omega,oe_295,(by first|exact oe_295.ne (by omega)|exact oe_295.new (by omega)|assumption),(by first|exact oe_295.ne (by omega)|exact oe_295.new (by omega)|assumption),(by first|exact oe_295.ne (by omega)|exact oe_295.new (by omega)|assumption),(by first|exact oe_295.ne (by omega)|exact oe_295.new (by omega)|assumption),(by first|exact oe_295.ne (by omega)|exact oe_295.new (by omega)|assumption),(by first|exact oe_295.ne (by omega)|exact oe_295.new (by omega)|assumption),by first|assumption|omega,hR166⟩
   ·skip
    obtain ⟨bk166_1,bk166_2,bk166_3,bk166_6,bk166_12,bk166_l15,bk166_d15,gm166,ge166,hR166⟩:=hQ166
    try simp (disch:=first|omega|assumption) only [E0_G,SY,setArgs,off,agreeKind,partVals,vals,allocV,boxed,ldA,rdCells,oneB,aggD,aField,aFieldV,aExtract,eq_self,ne_eq,if_true,if_false,not_false_eq_true,Nat.reduceAdd,Nat.reduceSub,Nat.reduceMul,Nat.reduceLT,Nat.reduceEqDiff,Nat.reduceBEq,reduceIte,Int.reduceEq,Int.reduceLT,Int.reduceLE,reduceCtorEq,TY_EvW5,w4,w165,bk166_1,bk166_2,bk166_3,bk166_6,bk166_12,bk166_l15,bk166_d15] at hc15
    refine ⟨_,S166e,_,.ret,hc15.symm,bk166_l15,(done_ret L15).1,(done_ret L15).2,fun S296 n296 q296=>?_⟩
    have v1_296:=(q296 S.next (by omega)).trans bk166_1
    have v2_296:=(q296 S1.next (by omega)).trans bk166_2
    have v3_296:=(q296 S2.next (by omega)).trans bk166_3
    have v6_296:=(q296 S5.next (by omega)).trans bk166_6
    have v12_296:=(q296 S9.next (by omega)).trans bk166_12
    have vd15_296:=(q296 S12.next (by omega)).trans bk166_d15
    have g296:Agree S S296:=⟨by have:=(ge166).1; omega,fun id hid=>(q296 id (by have:=(ge166).1; omega)).trans ((ge166).2 id hid)⟩
    exact .inr ⟨rfl,vd15_296,v1_296,v2_296,v3_296,v6_296,v12_296,g296,by omega,hR166⟩)
 rcases hQ15 with hQ15|hQ15
 ·skip
  obtain ⟨rfl,bd15,sd,bm15_1,bm15_2,bm15_3,bm15_6,bm15_12,gm15,gl15,om15_0,ne15_m0,ne15_m1,ne15_m2,ne15_m3,ne15_m4,ne15_d0,hv15_0,hR15⟩:=hQ15
  have w297:=(hv_s_stops.agree gm15).len (P:=Tryz.prog) (t:=24) Tryz.underlying24
  try simp (disch:=first|omega|assumption) only [E0_G,SY,setArgs,off,agreeKind,partVals,vals,allocV,boxed,ldA,rdCells,oneB,aggD,aField,aFieldV,aExtract,eq_self,ne_eq,if_true,if_false,not_false_eq_true,Nat.reduceAdd,Nat.reduceSub,Nat.reduceMul,Nat.reduceLT,Nat.reduceEqDiff,Nat.reduceBEq,reduceIte,Int.reduceEq,Int.reduceLT,Int.reduceLE,reduceCtorEq,TY_EvW5,s1,e1,b1,v1_2,s2,e2,b2,v1_3,v2_3,s3,e3,b3,w4,k5,s5,op_makeSlice,v1_5,v2_5,v3_5,v1_6,v2_6,v3_6,s6,e6,b6,v1_9,v2_9,v3_9,k9,b9,v1_12,v2_12,v3_12,v6_12,s12,e12,b12,op_makeFunc1,op_makeFunc2,bm15_1,bm15_2,bm15_3,bm15_6,bm15_12,bd15,w297] at hz
  generalize hL298:Rec.loop _ _ _ _=L298 at hz
  obtain ⟨x298,t298,S298e,rfl,hQ298⟩:=loop_met hL298 (fun m t S'=>∃ (k2:Nat),m+k2=s.stops.length∧k2≤s.stops.length∧t.get 4=some (.pointer (some ⟨S2.next,0,none⟩))∧t.get 5=some (.pointer (some ⟨S5.next,0,none⟩))∧t.get 37=some (v_s_stops)∧t.get 38=some (.int .i64 (s.stops.length:Int))∧t.get 39=some (.int .i64 (k2:Int))∧S'.heap.get S2.next=some (.cells [.bool false] 4 0 true true)∧S'.heap.get S5.next=some (.cells [.slice (some ⟨S3.next,0,none⟩) s.stops.length s.stops.length] 31 0 true true)∧S'.heap.get S12.next=some (.dfd true)∧Agree S S'∧S15.next≤S'.next∧Own 3 S3.next S' (.slice (some ⟨S3.next,0,none⟩) s.stops.length s.stops.length) sd∧R122_0 s rn sd (s.stops.drop k2) k2=R122_0 s rn sd s.stops 0)
   (fun x t S'=>(x=.exit 2∧∃ (k2:Nat),t.get 4=some (.pointer (some ⟨S2.next,0,none⟩))∧S'.heap.get S2.next=some (.cells [.bool false] 4 0 true true)∧S'.heap.get S5.next=some (.cells [.slice (some ⟨S3.next,0,none⟩) s.stops.length s.stops.length] 31 0 true true)∧S'.heap.get S12.next=some (.dfd true)∧Agree S S'∧S15.next≤S'.next∧Own 3 S3.next S' (.slice (some ⟨S3.next,0,none⟩) s.stops.length s.stops.length) sd∧k2≤s.stops.length∧R122_0 s rn sd s.stops 0=.inr ())∨(x=.ret∧∃ (r4_0:Bool),t.get 4=some (.pointer (some ⟨S2.next,0,none⟩))∧S'.heap.get S2.next=some (.cells [.bool r4_0] 4 0 true true)∧S'.heap.get S12.next=some (.dfd true)∧S15.next≤S'.next∧Agree S S'∧R122_0 s rn sd s.stops 0=.inl (r4_0))) (s.stops.length - 0) (by refine ⟨0,?_,?_,?_,?_,?_,?_,?_,bm15_3,bm15_6,bd15,gm15,Nat.le_refl _,om15_0,rfl⟩<;>first|(simp only [SY,setArgs,off,agreeKind,partVals,vals,allocV,boxed,ldA,rdCells,oneB,aggD,aField,aFieldV,aExtract,eq_self,ne_eq,if_true,if_false,not_false_eq_true,Nat.reduceAdd,Nat.reduceSub,Nat.reduceMul,Nat.reduceLT,Nat.reduceEqDiff,Nat.reduceBEq,reduceIte,Int.reduceEq,Int.reduceLT,Int.reduceLE,reduceCtorEq]<;>rfl)|omega|assumption|(simp; omega)|simp) (by
    rintro m t S298 ⟨k2,hi298_0,hi298_1,g298_4,g298_5,g298_37,g298_38,g298_39,bb298_3,bb298_6,bb298_d15,ga298,gn298,cw298_0,hd298⟩
    refine .run fun z he=>?_
    try simp (disch:=first|omega|assumption) only [E0_G,SY,setArgs,off,agreeKind,partVals,vals,allocV,boxed,ldA,rdCells,oneB,aggD,aField,aFieldV,aExtract,eq_self,ne_eq,if_true,if_false,not_false_eq_true,Nat.reduceAdd,Nat.reduceSub,Nat.reduceMul,Nat.reduceLT,Nat.reduceEqDiff,Nat.reduceBEq,reduceIte,Int.reduceEq,Int.reduceLT,Int.reduceLE,reduceCtorEq,TY_EvW5,g298_4,g298_5,g298_37,g298_38,g298_39,bb298_3,bb298_6,bb298_d15,w4,w297] at he
    rcases dP ((k2:Int)<(s.stops.length:Int)) with ⟨h299a,h299⟩|⟨h299a,h299⟩
    ·skip
     have hx298:s.stops[k2]?=some (s.stops[k2]'(by first|omega|simp; omega)):=List.getElem?_eq_getElem _
     generalize s.stops[k2]'_=x298 at hx298
     obtain ⟨id300,of300,cc300,ty300,wr300,ex300,i300,j300,l300,q300⟩:=(hv_s_stops).at (P:=Tryz.prog) (t:=24) Tryz.underlying24 tz117 hx298
     have jr300:=j300
     have j300:=(ga298.2 id300 l300).trans jr300
     have m300_0:cc300[of300]?=some (.int .i64 x298.at_):=q300 0 (show 0<3 by decide)
     have m300_1:cc300[of300+1]?=some (.int .i64 x298.lo):=q300 1 (show 1<3 by decide)
     have m300_2:cc300[of300+2]?=some (.int .i64 x298.hi):=q300 2 (show 2<3 by decide)
     obtain ⟨S301,e301,n301,b301,a301⟩:=push_open S298 (.cells [.int .i64 0,.int .i64 0,.int .i64 0] 117 0 true true)
     have v3_301:=(a301.2 S2.next (by omega)).trans bb298_3
     have v6_301:=(a301.2 S5.next (by omega)).trans bb298_6
     have vd15_301:=(a301.2 S12.next (by omega)).trans bb298_d15
     have v300_301:=(a301.2 id300 (by omega)).trans j300
     have ocw298_302:=cw298_0.agree a301
     have g301:Agree S S301:=ga298.trans a301
     have s301:E0.same S298 S301=true:=symEnv_same a301
     have ne303:blkOf (.slice (some ⟨S3.next,0,none⟩) s.stops.length s.stops.length)≠some S298.next:=cw298_0.new (Nat.le_refl _)
     obtain ⟨S304,k304,n304,b304,q304⟩:=st_at (o:=0) (c':=[.int .i64 x298.at_,.int .i64 x298.lo,.int .i64 x298.hi]) (v:=.agg #[.int .i64 x298.at_,.int .i64 x298.lo,.int .i64 x298.hi]) tz117 b301 rfl rfl (show 0+3≤3 by decide) rfl
     have v3_304:=(q304 S2.next (by omega)).trans v3_301
     have v6_304:=(q304 S5.next (by omega)).trans v6_301
     have vd15_304:=(q304 S12.next (by omega)).trans vd15_301
     have v300_304:=(q304 id300 (by omega)).trans v300_301
     have ocw298_305:=ocw298_302.frame (by omega) (fun id hid hb=>q304 id (fun e=>(show blkOf (.slice (some ⟨S3.next,0,none⟩) s.stops.length s.stops.length)≠some S298.next from by first|exact ocw298_302.ne (by omega)|exact ocw298_302.new (by omega)|assumption) (e ▸ hb)))
     have g304:Agree S S304:=⟨by have:=(g301).1; omega,fun id hid=>(q304 id (by have:=(g301).1; omega)).trans ((g301).2 id hid)⟩
     try simp (disch:=first|omega|assumption) only [E0_G,SY,setArgs,off,agreeKind,partVals,vals,allocV,boxed,ldA,rdCells,oneB,aggD,aField,aFieldV,aExtract,eq_self,ne_eq,if_true,if_false,not_false_eq_true,Nat.reduceAdd,Nat.reduceSub,Nat.reduceMul,Nat.reduceLT,Nat.reduceEqDiff,Nat.reduceBEq,reduceIte,Int.reduceEq,Int.reduceLT,Int.reduceLE,reduceCtorEq,TY_EvW5,g298_4,g298_5,g298_37,g298_38,g298_39,bb298_3,bb298_6,bb298_d15,w4,w297,h299a,i300,j300,m300_0,m300_1,m300_2,v3_301,v6_301,vd15_301,v300_301,s301,e301,b301,v3_304,v6_304,vd15_304,v300_304,k304,b304] at he
     rw [code_draws _ _ _ (by kernel_rfl)] at he
     generalize hnd306:needy _=nd306 at he
     have hx307:sd[k2]?=some (lget sd k2):=lget_some (by first|omega|simp; omega)
     obtain ⟨id307,of307,cc307,ty307,wr307,ex307,i307,j307,l307,q307,lb307,bk307,oq307⟩:=ocw298_305.at4 (P:=Tryz.prog) (t:=31) Tryz.underlying31 tz3 hx307
     have m307_0:cc307[of307]?=some (.int .i64 (lget sd k2)):=q307 0 (show 0<1 by decide)
     obtain ⟨S308,k308,a308⟩:=c120 x298.lo x298.hi (lget sd k2)  S304
     have l308:=a308.1
     have s308:E0.same S304 S308=true:=symEnv_same a308
     have v3_308:=(a308.2 S2.next (by omega)).trans v3_304
     have v6_308:=(a308.2 S5.next (by omega)).trans v6_304
     have vd15_308:=(a308.2 S12.next (by omega)).trans vd15_304
     have v300_308:=(a308.2 id300 (by omega)).trans v300_304
     have v301_308:=(a308.2 S298.next (by omega)).trans b304
     have v307_308:=(a308.2 id307 (by omega)).trans j307
     have ocw298_309:=ocw298_305.agree a308
     have g308:Agree S S308:=g304.trans a308
     try simp (disch:=first|omega|assumption) only [E0_G,SY,setArgs,off,agreeKind,partVals,vals,allocV,boxed,ldA,rdCells,oneB,aggD,aField,aFieldV,aExtract,eq_self,ne_eq,if_true,if_false,not_false_eq_true,Nat.reduceAdd,Nat.reduceSub,Nat.reduceMul,Nat.reduceLT,Nat.reduceEqDiff,Nat.reduceBEq,reduceIte,Int.reduceEq,Int.reduceLT,Int.reduceLE,reduceCtorEq,TY_EvW5,g298_4,g298_5,g298_37,g298_38,g298_39,bb298_3,bb298_6,bb298_d15,w4,w297,h299a,i300,j300,m300_0,m300_1,m300_2,v3_301,v6_301,vd15_301,v300_301,s301,e301,b301,v3_304,v6_304,vd15_304,v300_304,k304,b304,store_agree,store_refl E0_same,i307,j307,m307_0,k308,s308,v3_308,v6_308,vd15_308,v300_308,v301_308,v307_308] at he
     rcases dB ((r120 x298.lo x298.hi (lget sd k2))) with ⟨h310a,h310⟩|⟨h310a,h310⟩
     ·skip
      have w311:IntKind.i64.wrap ((k2:Int)+1)=((k2+1:Nat):Int):=by rw [IntWalk.i64_in]<;>omega
      try simp (disch:=first|omega|assumption) only [E0_G,SY,setArgs,off,agreeKind,partVals,vals,allocV,boxed,ldA,rdCells,oneB,aggD,aField,aFieldV,aExtract,eq_self,ne_eq,if_true,if_false,not_false_eq_true,Nat.reduceAdd,Nat.reduceSub,Nat.reduceMul,Nat.reduceLT,Nat.reduceEqDiff,Nat.reduceBEq,reduceIte,Int.reduceEq,Int.reduceLT,Int.reduceLE,reduceCtorEq,TY_EvW5,g298_4,g298_5,g298_37,g298_38,g298_39,bb298_3,bb298_6,bb298_d15,w4,w297,h299a,i300,j300,m300_0,m300_1,m300_2,v3_301,v6_301,vd15_301,v300_301,s301,e301,b301,v3_304,v6_304,vd15_304,v300_304,k304,b304,store_agree,store_refl E0_same,i307,j307,m307_0,k308,s308,v3_308,v6_308,vd15_308,v300_308,v301_308,v307_308,h310a,w311] at he
      rw [drop_cons' hx298] at hd298
      have hf:=(show _=(R122_0 s rn sd (s.stops.drop (k2+1)) (k2+1):Sum (Bool) (Unit)) from (if_pos h310).trans (rfl)).symm.trans hd298
      refine .next he (m - 1) (by omega) ⟨(k2+1),?_,?_,?_,?_,?_,?_,?_,v3_308,v6_308,vd15_308,g308,by omega,ocw298_309,hf⟩<;>first|(simp only [SY,setArgs,off,agreeKind,partVals,vals,allocV,boxed,ldA,rdCells,oneB,aggD,aField,aFieldV,aExtract,eq_self,ne_eq,if_true,if_false,not_false_eq_true,Nat.reduceAdd,Nat.reduceSub,Nat.reduceMul,Nat.reduceLT,Nat.reduceEqDiff,Nat.reduceBEq,reduceIte,Int.reduceEq,Int.reduceLT,Int.reduceLE,reduceCtorEq,g298_4,g298_5,g298_37,g298_38,g298_39]<;>rfl)|omega|assumption|(simp; omega)|simp
     ·skip
      obtain ⟨S312,k312,n312,b312,q312⟩:=st_at (o:=0) (c':=[.bool false]) (v:=.bool false) tz4 v3_308 rfl rfl (show 0+1≤1 by decide) rfl
      have v6_312:=(q312 S5.next (by omega)).trans v6_308
      have vd15_312:=(q312 S12.next (by omega)).trans vd15_308
      have v300_312:=(q312 id300 (by omega)).trans v300_308
      have v301_312:=(q312 S298.next (by omega)).trans v301_308
      have ocw298_313:=ocw298_309.frame (by omega) (fun id hid hb=>q312 id (fun e=>(show blkOf (.slice (some ⟨S3.next,0,none⟩) s.stops.length s.stops.length)≠some S2.next from by first|exact ocw298_309.ne (by omega)|exact ocw298_309.new (by omega)|assumption) (e ▸ hb)))
      have g312:Agree S S312:=⟨by have:=(g308).1; omega,fun id hid=>(q312 id (by have:=(g308).1; omega)).trans ((g308).2 id hid)⟩
      try simp (disch:=first|omega|assumption) only [E0_G,SY,setArgs,off,agreeKind,partVals,vals,allocV,boxed,ldA,rdCells,oneB,aggD,aField,aFieldV,aExtract,eq_self,ne_eq,if_true,if_false,not_false_eq_true,Nat.reduceAdd,Nat.reduceSub,Nat.reduceMul,Nat.reduceLT,Nat.reduceEqDiff,Nat.reduceBEq,reduceIte,Int.reduceEq,Int.reduceLT,Int.reduceLE,reduceCtorEq,TY_EvW5,g298_4,g298_5,g298_37,g298_38,g298_39,bb298_3,bb298_6,bb298_d15,w4,w297,h299a,i300,j300,m300_0,m300_1,m300_2,v3_301,v6_301,vd15_301,v300_301,s301,e301,b301,v3_304,v6_304,vd15_304,v300_304,k304,b304,store_agree,store_refl E0_same,i307,j307,m307_0,k308,s308,v3_308,v6_308,vd15_308,v300_308,v301_308,v307_308,h310a,v6_312,vd15_312,v300_312,v301_312,k312,b312] at he
      rw [drop_cons' hx298] at hd298
      have hf:=(show _=(.inl false:Sum (Bool) (Unit)) from (if_neg h310).trans (rfl)).symm.trans hd298
      refine .ret he (.inr ⟨rfl,⟨false,?_,b312,vd15_312,by omega,g312,hf.symm⟩⟩)<;>first|(simp only [SY,setArgs,off,agreeKind,partVals,vals,allocV,boxed,ldA,rdCells,oneB,aggD,aField,aFieldV,aExtract,eq_self,ne_eq,if_true,if_false,not_false_eq_true,Nat.reduceAdd,Nat.reduceSub,Nat.reduceMul,Nat.reduceLT,Nat.reduceEqDiff,Nat.reduceBEq,reduceIte,Int.reduceEq,Int.reduceLT,Int.reduceLE,reduceCtorEq,g298_4,g298_5,g298_37,g298_38,g298_39]<;>rfl)|omega|assumption|(simp; omega)|simp
    ·skip
     try simp (disch:=first|omega|assumption) only [E0_G,SY,setArgs,off,agreeKind,partVals,vals,allocV,boxed,ldA,rdCells,oneB,aggD,aField,aFieldV,aExtract,eq_self,ne_eq,if_true,if_false,not_false_eq_true,Nat.reduceAdd,Nat.reduceSub,Nat.reduceMul,Nat.reduceLT,Nat.reduceEqDiff,Nat.reduceBEq,reduceIte,Int.reduceEq,Int.reduceLT,Int.reduceLE,reduceCtorEq,TY_EvW5,g298_4,g298_5,g298_37,g298_38,g298_39,bb298_3,bb298_6,bb298_d15,w4,w297,h299a] at he
     rw [List.drop_eq_nil_of_le (show s.stops.length≤k2 by omega)] at hd298
     have hf:=(show _=(.inr ():Sum (Bool) (Unit)) from rfl).symm.trans hd298
     refine .exit he (.inl ⟨rfl,⟨k2,?_,bb298_3,bb298_6,bb298_d15,ga298,by omega,cw298_0,?_,hf.symm⟩⟩)<;>first|(simp only [SY,setArgs,off,agreeKind,partVals,vals,allocV,boxed,ldA,rdCells,oneB,aggD,aField,aFieldV,aExtract,eq_self,ne_eq,if_true,if_false,not_false_eq_true,Nat.reduceAdd,Nat.reduceSub,Nat.reduceMul,Nat.reduceLT,Nat.reduceEqDiff,Nat.reduceBEq,reduceIte,Int.reduceEq,Int.reduceLT,Int.reduceLE,reduceCtorEq,g298_4,g298_5,g298_37,g298_38,g298_39]<;>rfl)|omega|assumption|(simp; omega)|simp)
  rcases hQ298 with ⟨rfl,hQ298⟩|⟨rfl,hQ298⟩
  ·skip
   obtain ⟨k2,ge298_4,be298_3,be298_6,be298_d15,ge298,gm298,ce298_0,hj298_0,hR298⟩:=hQ298
   obtain ⟨S315,k315,n315,b315,q315⟩:=st_at (o:=0) (c':=[.bool true]) (v:=.bool true) tz4 be298_3 rfl rfl (show 0+1≤1 by decide) rfl
   have v6_315:=(q315 S5.next (by omega)).trans be298_6
   have vd15_315:=(q315 S12.next (by omega)).trans be298_d15
   have oce298_316:=ce298_0.frame (by omega) (fun id hid hb=>q315 id (fun e=>(show blkOf (.slice (some ⟨S3.next,0,none⟩) s.stops.length s.stops.length)≠some S2.next from by first|exact ce298_0.ne (by omega)|exact ce298_0.new (by omega)|assumption) (e ▸ hb)))
   have g315:Agree S S315:=⟨by have:=(ge298).1; omega,fun id hid=>(q315 id (by have:=(ge298).1; omega)).trans ((ge298).2 id hid)⟩
   try simp (disch:=first|omega|assumption) only [E0_G,SY,setArgs,off,agreeKind,partVals,vals,allocV,boxed,ldA,rdCells,oneB,aggD,aField,aFieldV,aExtract,eq_self,ne_eq,if_true,if_false,not_false_eq_true,Nat.reduceAdd,Nat.reduceSub,Nat.reduceMul,Nat.reduceLT,Nat.reduceEqDiff,Nat.reduceBEq,reduceIte,Int.reduceEq,Int.reduceLT,Int.reduceLE,reduceCtorEq,TY_EvW5,w4,w297,ge298_4,be298_3,be298_6,be298_d15,v6_315,vd15_315,k315,b315] at hz
   obtain ⟨S317,k317,n317,q317⟩:=take1 vd15_315
   have v3_317:=(q317 S2.next (by omega)).trans b315
   have v6_317:=(q317 S5.next (by omega)).trans v6_315
   have oce298_318:=oce298_316.frame (by omega) (fun id hid hb=>q317 id (fun e=>(show blkOf (.slice (some ⟨S3.next,0,none⟩) s.stops.length s.stops.length)≠some S12.next from by first|exact oce298_316.ne (by omega)|exact oce298_316.new (by omega)|assumption) (e ▸ hb)))
   have g317:Agree S S317:=⟨by have:=(g315).1; omega,fun id hid=>(q317 id (by have:=(g315).1; omega)).trans ((g315).2 id hid)⟩
   first|rw [handed_take k317] at hz|rw [handed_take_n k317] at hz
   try simp (disch:=first|omega|assumption) only [E0_G,SY,setArgs,off,agreeKind,partVals,vals,allocV,boxed,ldA,rdCells,oneB,aggD,aField,aFieldV,aExtract,eq_self,ne_eq,if_true,if_false,not_false_eq_true,Nat.reduceAdd,Nat.reduceSub,Nat.reduceMul,Nat.reduceLT,Nat.reduceEqDiff,Nat.reduceBEq,reduceIte,Int.reduceEq,Int.reduceLT,Int.reduceLE,reduceCtorEq,TY_EvW5,w4,w297,ge298_4,be298_3,be298_6,be298_d15,v6_315,vd15_315,k315,b315,v3_317,v6_317] at hz
   have hr:r122 s rn=true:=(onSum_inr hR15).trans ((onSum_inr hR298).trans (rfl))
   exact fin hz (by rw [hr]) g317
  ·skip
   obtain ⟨r4_0,ge298_4,bc298_4,bk298_d15,gm298,ge298,hR298⟩:=hQ298
   try simp (disch:=first|omega|assumption) only [E0_G,SY,setArgs,off,agreeKind,partVals,vals,allocV,boxed,ldA,rdCells,oneB,aggD,aField,aFieldV,aExtract,eq_self,ne_eq,if_true,if_false,not_false_eq_true,Nat.reduceAdd,Nat.reduceSub,Nat.reduceMul,Nat.reduceLT,Nat.reduceEqDiff,Nat.reduceBEq,reduceIte,Int.reduceEq,Int.reduceLT,Int.reduceLE,reduceCtorEq,TY_EvW5,w4,w297,ge298_4,bc298_4,bk298_d15] at hz
   obtain ⟨S319,k319,n319,q319⟩:=take1 bk298_d15
   have v3_319:=(q319 S2.next (by omega)).trans bc298_4
   have g319:Agree S S319:=⟨by have:=(ge298).1; omega,fun id hid=>(q319 id (by have:=(ge298).1; omega)).trans ((ge298).2 id hid)⟩
   first|rw [handed_take k319] at hz|rw [handed_take_n k319] at hz
   try simp (disch:=first|omega|assumption) only [E0_G,SY,setArgs,off,agreeKind,partVals,vals,allocV,boxed,ldA,rdCells,oneB,aggD,aField,aFieldV,aExtract,eq_self,ne_eq,if_true,if_false,not_false_eq_true,Nat.reduceAdd,Nat.reduceSub,Nat.reduceMul,Nat.reduceLT,Nat.reduceEqDiff,Nat.reduceBEq,reduceIte,Int.reduceEq,Int.reduceLT,Int.reduceLE,reduceCtorEq,TY_EvW5,w4,w297,ge298_4,bc298_4,bk298_d15,v3_319] at hz
   have hr:r122 s rn=r4_0:=(onSum_inr hR15).trans ((onSum_inl hR298).trans (rfl))
   exact fin hz (by rw [hr]) g319
 ·skip
  obtain ⟨rfl,bd15,bm15r_1,bm15r_2,bm15r_3,bm15r_6,bm15r_12,gm15r,gl15r,hR15⟩:=hQ15
  try simp (disch:=first|omega|assumption) only [E0_G,SY,setArgs,off,agreeKind,partVals,vals,allocV,boxed,ldA,rdCells,oneB,aggD,aField,aFieldV,aExtract,eq_self,ne_eq,if_true,if_false,not_false_eq_true,Nat.reduceAdd,Nat.reduceSub,Nat.reduceMul,Nat.reduceLT,Nat.reduceEqDiff,Nat.reduceBEq,reduceIte,Int.reduceEq,Int.reduceLT,Int.reduceLE,reduceCtorEq,TY_EvW5,s1,e1,b1,v1_2,s2,e2,b2,v1_3,v2_3,s3,e3,b3,w4,k5,s5,op_makeSlice,v1_5,v2_5,v3_5,v1_6,v2_6,v3_6,s6,e6,b6,v1_9,v2_9,v3_9,k9,b9,v1_12,v2_12,v3_12,v6_12,s12,e12,b12,op_makeFunc1,op_makeFunc2,bm15r_1,bm15r_2,bm15r_3,bm15r_6,bm15r_12,bd15] at hz
  obtain ⟨S320,k320,n320,q320⟩:=take1 bd15
  have v1_320:=(q320 S.next (by omega)).trans bm15r_1
  have v2_320:=(q320 S1.next (by omega)).trans bm15r_2
  have v3_320:=(q320 S2.next (by omega)).trans bm15r_3
  have v6_320:=(q320 S5.next (by omega)).trans bm15r_6
  have v12_320:=(q320 S9.next (by omega)).trans bm15r_12
  have g320:Agree S S320:=⟨by have:=(gm15r).1; omega,fun id hid=>(q320 id (by have:=(gm15r).1; omega)).trans ((gm15r).2 id hid)⟩
  first|rw [handed_take k320] at hz|rw [handed_take_n k320] at hz
  try simp (disch:=first|omega|assumption) only [E0_G,SY,setArgs,off,agreeKind,partVals,vals,allocV,boxed,ldA,rdCells,oneB,aggD,aField,aFieldV,aExtract,eq_self,ne_eq,if_true,if_false,not_false_eq_true,Nat.reduceAdd,Nat.reduceSub,Nat.reduceMul,Nat.reduceLT,Nat.reduceEqDiff,Nat.reduceBEq,reduceIte,Int.reduceEq,Int.reduceLT,Int.reduceLE,reduceCtorEq,TY_EvW5,s1,e1,b1,v1_2,s2,e2,b2,v1_3,v2_3,s3,e3,b3,w4,k5,s5,op_makeSlice,v1_5,v2_5,v3_5,v1_6,v2_6,v3_6,s6,e6,b6,v1_9,v2_9,v3_9,k9,b9,v1_12,v2_12,v3_12,v6_12,s12,e12,b12,op_makeFunc1,op_makeFunc2,bm15r_1,bm15r_2,bm15r_3,bm15r_6,bm15r_12,bd15,v1_320,v2_320,v3_320,v6_320,v12_320] at hz
  have hr:r122 s rn=false:=(onSum_inl hR15).trans (rfl)
  exact fin hz (by rw [hr]) g320
end Clock
end Go.Proofs
end
section
set_option linter.unusedSimpArgs false
set_option linter.unusedVariables false
namespace Go.Proofs
namespace Clock
open Go Go.RowKit Go.Aev
set_option maxRecDepth 100000
theorem TY_EvW6:type_of% (And.intro (And.intro (And.intro (And.intro (And.intro (And.intro (And.intro Tryz.underlying3 tz3) (And.intro tt3 t0_3)) (And.intro (And.intro Tryz.underlying4 tz4) (And.intro tt4 t0_4))) (And.intro (And.intro (And.intro Tryz.underlying22 tz22) (And.intro tt22 t0_22)) (And.intro (And.intro Tryz.underlying23 tz23) (And.intro tt23 t0_23)))) (And.intro (And.intro (And.intro (And.intro Tryz.underlying24 tz24) (And.intro tt24 t0_24)) (And.intro (And.intro Tryz.underlying25 tz25) (And.intro tt25 t0_25))) (And.intro (And.intro (And.intro Tryz.underlying26 tz26) (And.intro tt26 t0_26)) (And.intro (And.intro Tryz.underlying27 tz27) (And.intro tt27 (And.intro t0_27 Tryz.underlying28)))))) (And.intro (And.intro (And.intro (And.intro (And.intro tz28 tt28) (And.intro t0_28 Tryz.underlying29)) (And.intro (And.intro tz29 tt29) (And.intro t0_29 Tryz.underlying30))) (And.intro (And.intro (And.intro tz30 tt30) (And.intro t0_30 Tryz.underlying31)) (And.intro (And.intro tz31 tt31) (And.intro t0_31 Tryz.underlying34)))) (And.intro (And.intro (And.intro (And.intro tz34 tt34) (And.intro t0_34 Tryz.underlying36)) (And.intro (And.intro tz36 tt36) (And.intro t0_36 Tryz.underlying39))) (And.intro (And.intro (And.intro tz39 tt39) (And.intro t0_39 Tryz.underlying54)) (And.intro (And.intro tz54 tt54) (And.intro t0_54 (And.intro Tryz.underlying92 tz92))))))) (And.intro (And.intro (And.intro (And.intro (And.intro (And.intro tt92 t0_92) (And.intro Tryz.underlying93 tz93)) (And.intro (And.intro tt93 t0_93) (And.intro Tryz.underlying94 tz94))) (And.intro (And.intro (And.intro tt94 t0_94) (And.intro Tryz.underlying103 tz103)) (And.intro (And.intro tt103 t0_103) (And.intro Tryz.underlying104 tz104)))) (And.intro (And.intro (And.intro (And.intro tt104 t0_104) (And.intro Tryz.underlying106 tz106)) (And.intro (And.intro tt106 t0_106) (And.intro Tryz.underlying107 tz107))) (And.intro (And.intro (And.intro tt107 t0_107) (And.intro Tryz.underlying111 tz111)) (And.intro (And.intro tt111 t0_111) (And.intro Tryz.underlying112 (And.intro tz112 tt112)))))) (And.intro (And.intro (And.intro (And.intro (And.intro t0_112 Tryz.underlying114) (And.intro tz114 tt114)) (And.intro (And.intro t0_114 Tryz.underlying115) (And.intro tz115 tt115))) (And.intro (And.intro (And.intro t0_115 Tryz.underlying116) (And.intro tz116 tt116)) (And.intro (And.intro t0_116 Tryz.underlying117) (And.intro tz117 tt117)))) (And.intro (And.intro (And.intro (And.intro t0_117 Tryz.underlying130) (And.intro tz130 tt130)) (And.intro (And.intro t0_130 Tryz.underlying131) (And.intro tz131 tt131))) (And.intro (And.intro (And.intro t0_131 Tryz.underlying164) (And.intro tz164 tt164)) (And.intro (And.intro t0_164 Tryz.underlying165) (And.intro tz165 (And.intro tt165 t0_165)))))))):=(And.intro (And.intro (And.intro (And.intro (And.intro (And.intro (And.intro Tryz.underlying3 tz3) (And.intro tt3 t0_3)) (And.intro (And.intro Tryz.underlying4 tz4) (And.intro tt4 t0_4))) (And.intro (And.intro (And.intro Tryz.underlying22 tz22) (And.intro tt22 t0_22)) (And.intro (And.intro Tryz.underlying23 tz23) (And.intro tt23 t0_23)))) (And.intro (And.intro (And.intro (And.intro Tryz.underlying24 tz24) (And.intro tt24 t0_24)) (And.intro (And.intro Tryz.underlying25 tz25) (And.intro tt25 t0_25))) (And.intro (And.intro (And.intro Tryz.underlying26 tz26) (And.intro tt26 t0_26)) (And.intro (And.intro Tryz.underlying27 tz27) (And.intro tt27 (And.intro t0_27 Tryz.underlying28)))))) (And.intro (And.intro (And.intro (And.intro (And.intro tz28 tt28) (And.intro t0_28 Tryz.underlying29)) (And.intro (And.intro tz29 tt29) (And.intro t0_29 Tryz.underlying30))) (And.intro (And.intro (And.intro tz30 tt30) (And.intro t0_30 Tryz.underlying31)) (And.intro (And.intro tz31 tt31) (And.intro t0_31 Tryz.underlying34)))) (And.intro (And.intro (And.intro (And.intro tz34 tt34) (And.intro t0_34 Tryz.underlying36)) (And.intro (And.intro tz36 tt36) (And.intro t0_36 Tryz.underlying39))) (And.intro (And.intro (And.intro tz39 tt39) (And.intro t0_39 Tryz.underlying54)) (And.intro (And.intro tz54 tt54) (And.intro t0_54 (And.intro Tryz.underlying92 tz92))))))) (And.intro (And.intro (And.intro (And.intro (And.intro (And.intro tt92 t0_92) (And.intro Tryz.underlying93 tz93)) (And.intro (And.intro tt93 t0_93) (And.intro Tryz.underlying94 tz94))) (And.intro (And.intro (And.intro tt94 t0_94) (And.intro Tryz.underlying103 tz103)) (And.intro (And.intro tt103 t0_103) (And.intro Tryz.underlying104 tz104)))) (And.intro (And.intro (And.intro (And.intro tt104 t0_104) (And.intro Tryz.underlying106 tz106)) (And.intro (And.intro tt106 t0_106) (And.intro Tryz.underlying107 tz107))) (And.intro (And.intro (And.intro tt107 t0_107) (And.intro Tryz.underlying111 tz111)) (And.intro (And.intro tt111 t0_111) (And.intro Tryz.underlying112 (And.intro tz112 tt112)))))) (And.intro (And.intro (And.intro (And.intro (And.intro t0_112 Tryz.underlying114) (And.intro tz114 tt114)) (And.intro (And.intro t0_114 Tryz.underlying115) (And.intro tz115 tt115))) (And.intro (And.intro (And.intro t0_115 Tryz.underlying116) (And.intro tz116 tt116)) (And.intro (And.intro t0_116 Tryz.underlying117) (And.intro tz117 tt117)))) (And.intro (And.intro (And.intro (And.intro t0_117 Tryz.underlying130) (And.intro tz130 tt130)) (And.intro (And.intro t0_130 Tryz.underlying131) (And.intro tz131 tt131))) (And.intro (And.intro (And.intro t0_131 Tryz.underlying164) (And.intro tz164 tt164)) (And.intro (And.intro t0_164 Tryz.underlying165) (And.intro tz165 (And.intro tt165 t0_165))))))))
def r68 (s:Se) (rn:Rn):Int:=(if (r25 (mkRc s.id s.inLo s.inHi s.outLo s.outHi s.zLo s.zHi s.eLo s.eHi s.rLo s.rHi s.stops ([]) ([])))=0 then (if (r69 rn)=0 then (if (r120 s.inLo s.inHi rn.start)=true then (if (r120 s.outLo s.outHi (((r116 rn)).1))=true then (if (r120 s.zLo s.zHi (r119 rn.start rn.micro))=true then (if (r120 s.eLo s.eHi (r119 (((r116 rn)).1) (((r116 rn)).2)))=true then (if (r121 s rn)=true then (if (r122 s rn)=true then 0 else 8) else 8) else 8) else 8) else 8) else 8) else (r69 rn)) else (r25 (mkRc s.id s.inLo s.inHi s.outLo s.outHi s.zLo s.zHi s.eLo s.eHi s.rLo s.rHi s.stops ([]) ([]))))
set_option maxHeartbeats 2000000 in
theorem c68 (s:Se) (rn:Rn) (hl:rn.legs.length≤60) (hp:s.stops.length≤12) (S:AS) (v_s_stops:Value) (hv_s_stops:Lst S v_s_stops s.stops) (v_rn_legs:Value) (hv_rn_legs:Lst S v_rn_legs rn.legs) :
  ∃ S',(evL Tryz.prog E0).call 68 #[.agg #[.int .i64 s.id,.int .i64 s.inLo,.int .i64 s.inHi,.int .i64 s.outLo,.int .i64 s.outHi,.int .i64 s.zLo,.int .i64 s.zHi,.int .i64 s.eLo,.int .i64 s.eHi,.int .i64 s.rLo,.int .i64 s.rHi,v_s_stops],.agg #[.int .i64 rn.start,.int .i64 rn.micro,v_rn_legs]] S=some (.int .i64 (r68 s rn),S')∧Agree S S':=by
 generalize hz:(evL Tryz.prog E0).call 68 _ _=z
 rw [L_call,evCall_said rfl Tryz.func68 rfl (by decide) Tryz.ntmps68 Tryz.results68] at hz
 obtain ⟨S1,e1,n1,b1,a1⟩:=push_open S (.cells [.int .i64 s.id,.int .i64 s.inLo,.int .i64 s.inHi,.int .i64 s.outLo,.int .i64 s.outHi,.int .i64 s.zLo,.int .i64 s.zHi,.int .i64 s.eLo,.int .i64 s.eHi,.int .i64 s.rLo,.int .i64 s.rHi,v_s_stops] 26 0 true true)
 have g1:Agree S S1:=a1
 have s1:E0.same S S1=true:=symEnv_same a1
 obtain ⟨S2,e2,n2,b2,a2⟩:=push_open S1 (.cells [.int .i64 rn.start,.int .i64 rn.micro,v_rn_legs] 94 0 true true)
 have v1_2:=(a2.2 S.next (by omega)).trans b1
 have g2:Agree S S2:=g1.trans a2
 have s2:E0.same S1 S2=true:=symEnv_same a2
 have y3:aBuild Tryz.prog 30 [(0,.agg #[.int .i64 s.id,.int .i64 s.inLo,.int .i64 s.inHi,.int .i64 s.outLo,.int .i64 s.outHi,.int .i64 s.zLo,.int .i64 s.zHi,.int .i64 s.eLo,.int .i64 s.eHi,.int .i64 s.rLo,.int .i64 s.rHi,v_s_stops])]=some (.agg #[.int .i64 s.id,.int .i64 s.inLo,.int .i64 s.inHi,.int .i64 s.outLo,.int .i64 s.outHi,.int .i64 s.zLo,.int .i64 s.zHi,.int .i64 s.eLo,.int .i64 s.eHi,.int .i64 s.rLo,.int .i64 s.rHi,v_s_stops,.slice none 0 0,.slice none 0 0]):=by kernel_rfl
 obtain ⟨S4,k4,a4⟩:=c25 (mkRc s.id s.inLo s.inHi s.outLo s.outHi s.zLo s.zHi s.eLo s.eHi s.rLo s.rHi s.stops ([]) ([])) (by first|omega|(simp [mkRc]; done)|(simp [mkRc]; omega)) (by first|omega|(simp [mkRc]; done)|(simp [mkRc]; omega)) (by first|omega|(simp [mkRc]; done)|(simp [mkRc]; omega)) S2 (v_s_stops) (hv_s_stops.agree g2) (.slice none 0 0) ((Lst.nil S2)) (.slice none 0 0) ((Lst.nil S2))
 have l4:=a4.1
 have s4:E0.same S2 S4=true:=symEnv_same a4
 have v1_4:=(a4.2 S.next (by omega)).trans v1_2
 have v2_4:=(a4.2 S1.next (by omega)).trans b2
 have g4:Agree S S4:=g2.trans a4
 try simp (disch:=first|omega|assumption) only [E0_G,SY,setArgs,off,agreeKind,partVals,vals,allocV,boxed,ldA,rdCells,oneB,aggD,aField,aFieldV,aExtract,eq_self,ne_eq,if_true,if_false,not_false_eq_true,Nat.reduceAdd,Nat.reduceSub,Nat.reduceMul,Nat.reduceLT,Nat.reduceEqDiff,Nat.reduceBEq,reduceIte,Int.reduceEq,Int.reduceLT,Int.reduceLE,reduceCtorEq,TY_EvW6,s1,e1,b1,v1_2,s2,e2,b2,y3,k4,s4,v1_4,v2_4] at hz
 rcases dP ((r25 (mkRc s.id s.inLo s.inHi s.outLo s.outHi s.zLo s.zHi s.eLo s.eHi s.rLo s.rHi s.stops ([]) ([])))=0) with ⟨h5a,h5⟩|⟨h5a,h5⟩
 ·skip
  obtain ⟨S6,k6,a6⟩:=c69 rn (by first|omega|assumption) S4 (v_rn_legs) (hv_rn_legs.agree g4)
  have l6:=a6.1
  have s6:E0.same S4 S6=true:=symEnv_same a6
  have v1_6:=(a6.2 S.next (by omega)).trans v1_4
  have v2_6:=(a6.2 S1.next (by omega)).trans v2_4
  have g6:Agree S S6:=g4.trans a6
  try simp (disch:=first|omega|assumption) only [E0_G,SY,setArgs,off,agreeKind,partVals,vals,allocV,boxed,ldA,rdCells,oneB,aggD,aField,aFieldV,aExtract,eq_self,ne_eq,if_true,if_false,not_false_eq_true,Nat.reduceAdd,Nat.reduceSub,Nat.reduceMul,Nat.reduceLT,Nat.reduceEqDiff,Nat.reduceBEq,reduceIte,Int.reduceEq,Int.reduceLT,Int.reduceLE,reduceCtorEq,TY_EvW6,s1,e1,b1,v1_2,s2,e2,b2,y3,k4,s4,v1_4,v2_4,h5a,k6,s6,v1_6,v2_6] at hz
  rcases dP ((r69 rn)=0) with ⟨h7a,h7⟩|⟨h7a,h7⟩
  ·skip
   try simp (disch:=first|omega|assumption) only [E0_G,SY,setArgs,off,agreeKind,partVals,vals,allocV,boxed,ldA,rdCells,oneB,aggD,aField,aFieldV,aExtract,eq_self,ne_eq,if_true,if_false,not_false_eq_true,Nat.reduceAdd,Nat.reduceSub,Nat.reduceMul,Nat.reduceLT,Nat.reduceEqDiff,Nat.reduceBEq,reduceIte,Int.reduceEq,Int.reduceLT,Int.reduceLE,reduceCtorEq,TY_EvW6,s1,e1,b1,v1_2,s2,e2,b2,y3,k4,s4,v1_4,v2_4,h5a,k6,s6,v1_6,v2_6,h7a] at hz
   rw [code_draws4 _ _ _ [(7,.var 165,some 7),(8,.var 165,some 8)] 2 (by kernel_rfl) (by kernel_rfl) (by kernel_rfl) (by kernel_rfl) (by kernel_rfl)] at hz
   generalize hnd8:needy _=nd8 at hz
   obtain ⟨S9,e9,n9,b9,a9⟩:=push_open S6 .resv
   have v1_9:=(a9.2 S.next (by omega)).trans v1_6
   have v2_9:=(a9.2 S1.next (by omega)).trans v2_6
   have g9:Agree S S9:=g6.trans a9
   have nx9:=n9.symm
   obtain ⟨S10,e10,n10,b10,a10⟩:=push_open S9 .resv
   have v1_10:=(a10.2 S.next (by omega)).trans v1_9
   have v2_10:=(a10.2 S1.next (by omega)).trans v2_9
   have v9_10:=(a10.2 S6.next (by omega)).trans b9
   have g10:Agree S S10:=g9.trans a10
   have nn8_9:nd8 9=false:=by rw [← hnd8]; kernel_rfl
   have nn8_10:nd8 10=false:=by rw [← hnd8]; kernel_rfl
   have y11:aBuild Tryz.prog 165 [(0,.int .i64 rn.start),(1,.int .i64 rn.micro)]=some (.agg #[.int .i64 rn.start,.int .i64 rn.micro]):=by kernel_rfl
   obtain ⟨S12,k12,a12⟩:=c116 rn (by first|omega|assumption) S10 (v_rn_legs) (hv_rn_legs.agree g10)
   have l12:=a12.1
   have s12:E0.same S10 S12=true:=symEnv_same a12
   have v1_12:=(a12.2 S.next (by omega)).trans v1_10
   have v2_12:=(a12.2 S1.next (by omega)).trans v2_10
   have v9_12:=(a12.2 S6.next (by omega)).trans v9_10
   have v10_12:=(a12.2 S9.next (by omega)).trans b10
   have g12:Agree S S12:=g10.trans a12
   try simp (disch:=first|omega|assumption) only [E0_G,SY,setArgs,off,agreeKind,partVals,vals,allocV,boxed,ldA,rdCells,oneB,aggD,aField,aFieldV,aExtract,eq_self,ne_eq,if_true,if_false,not_false_eq_true,Nat.reduceAdd,Nat.reduceSub,Nat.reduceMul,Nat.reduceLT,Nat.reduceEqDiff,Nat.reduceBEq,reduceIte,Int.reduceEq,Int.reduceLT,Int.reduceLE,reduceCtorEq,TY_EvW6,s1,e1,b1,v1_2,s2,e2,b2,y3,k4,s4,v1_4,v2_4,h5a,k6,s6,v1_6,v2_6,h7a,v1_9,v2_9,e9,b9,nx9,v1_10,v2_10,v9_10,e10,b10,cut_list,cutRun,fillK_none,fillK_ite,fillK_sl,pVals,pushR_two,pushR_three,pushR_four,List.take_succ_cons,List.take_zero,List.drop_succ_cons,List.drop_zero,List.take_nil,nn8_9,nn8_10,store_agree,store_refl E0_same,y11,k12,s12,v1_12,v2_12,v9_12,v10_12] at hz
   obtain ⟨S13,k13,n13,b13,q13⟩:=fillK_var (P:=Tryz.prog) (e:=165) (c:=[.int .i64 0,.int .i64 0]) v9_12 (by kernel_rfl) (by kernel_rfl)
   have v1_13:=(q13 S.next (by omega)).trans v1_12
   have v2_13:=(q13 S1.next (by omega)).trans v2_12
   have v10_13:=(q13 S9.next (by omega)).trans v10_12
   have g13:Agree S S13:=⟨by have:=(g12).1; omega,fun id hid=>(q13 id (by have:=(g12).1; omega)).trans ((g12).2 id hid)⟩
   try simp (disch:=first|omega|assumption) only [E0_G,SY,setArgs,off,agreeKind,partVals,vals,allocV,boxed,ldA,rdCells,oneB,aggD,aField,aFieldV,aExtract,eq_self,ne_eq,if_true,if_false,not_false_eq_true,Nat.reduceAdd,Nat.reduceSub,Nat.reduceMul,Nat.reduceLT,Nat.reduceEqDiff,Nat.reduceBEq,reduceIte,Int.reduceEq,Int.reduceLT,Int.reduceLE,reduceCtorEq,TY_EvW6,s1,e1,b1,v1_2,s2,e2,b2,y3,k4,s4,v1_4,v2_4,h5a,k6,s6,v1_6,v2_6,h7a,v1_9,v2_9,e9,b9,nx9,v1_10,v2_10,v9_10,e10,b10,cut_list,cutRun,fillK_none,fillK_ite,fillK_sl,pVals,pushR_two,pushR_three,pushR_four,List.take_succ_cons,List.take_zero,List.drop_succ_cons,List.drop_zero,List.take_nil,nn8_9,nn8_10,store_agree,store_refl E0_same,y11,k12,s12,v1_12,v2_12,v9_12,v10_12,v1_13,v2_13,v10_13,k13,b13] at hz
   obtain ⟨S14,k14,n14,b14,q14⟩:=fillK_var (P:=Tryz.prog) (e:=165) (c:=[.int .i64 0,.int .i64 0]) v10_13 (by kernel_rfl) (by kernel_rfl)
   have v1_14:=(q14 S.next (by omega)).trans v1_13
   have v2_14:=(q14 S1.next (by omega)).trans v2_13
   have v9_14:=(q14 S6.next (by omega)).trans b13
   have g14:Agree S S14:=⟨by have:=(g13).1; omega,fun id hid=>(q14 id (by have:=(g13).1; omega)).trans ((g13).2 id hid)⟩
   obtain ⟨S15,k15,n15,b15,q15⟩:=st_at (o:=0) (c':=[.int .i64 rn.start,.int .i64 rn.micro]) (v:=.agg #[.int .i64 rn.start,.int .i64 rn.micro]) tz165 v9_14 rfl rfl (show 0+2≤2 by decide) rfl
   have v1_15:=(q15 S.next (by omega)).trans v1_14
   have v2_15:=(q15 S1.next (by omega)).trans v2_14
   have v10_15:=(q15 S9.next (by omega)).trans b14
   have g15:Agree S S15:=⟨by have:=(g14).1; omega,fun id hid=>(q15 id (by have:=(g14).1; omega)).trans ((g14).2 id hid)⟩
   obtain ⟨S16,k16,n16,b16,q16⟩:=st_at (o:=0) (c':=[.int .i64 (((r116 rn)).1),.int .i64 (((r116 rn)).2)]) (v:=.agg #[.int .i64 (((r116 rn)).1),.int .i64 (((r116 rn)).2)]) tz165 v10_15 rfl rfl (show 0+2≤2 by decide) rfl
   have v1_16:=(q16 S.next (by omega)).trans v1_15
   have v2_16:=(q16 S1.next (by omega)).trans v2_15
   have v9_16:=(q16 S6.next (by omega)).trans b15
   have g16:Agree S S16:=⟨by have:=(g15).1; omega,fun id hid=>(q16 id (by have:=(g15).1; omega)).trans ((g15).2 id hid)⟩
   try simp (disch:=first|omega|assumption) only [E0_G,SY,setArgs,off,agreeKind,partVals,vals,allocV,boxed,ldA,rdCells,oneB,aggD,aField,aFieldV,aExtract,eq_self,ne_eq,if_true,if_false,not_false_eq_true,Nat.reduceAdd,Nat.reduceSub,Nat.reduceMul,Nat.reduceLT,Nat.reduceEqDiff,Nat.reduceBEq,reduceIte,Int.reduceEq,Int.reduceLT,Int.reduceLE,reduceCtorEq,TY_EvW6,s1,e1,b1,v1_2,s2,e2,b2,y3,k4,s4,v1_4,v2_4,h5a,k6,s6,v1_6,v2_6,h7a,v1_9,v2_9,e9,b9,nx9,v1_10,v2_10,v9_10,e10,b10,cut_list,cutRun,fillK_none,fillK_ite,fillK_sl,pVals,pushR_two,pushR_three,pushR_four,List.take_succ_cons,List.take_zero,List.drop_succ_cons,List.drop_zero,List.take_nil,nn8_9,nn8_10,store_agree,store_refl E0_same,y11,k12,s12,v1_12,v2_12,v9_12,v10_12,v1_13,v2_13,v10_13,k13,b13,v1_14,v2_14,v9_14,k14,b14,v1_15,v2_15,v10_15,k15,b15,v1_16,v2_16,v9_16,k16,b16] at hz
   rw [code_draws _ _ _ (by kernel_rfl)] at hz
   generalize hnd17:needy _=nd17 at hz
   obtain ⟨S18,k18,a18⟩:=c120 s.inLo s.inHi rn.start  S16
   have l18:=a18.1
   have s18:E0.same S16 S18=true:=symEnv_same a18
   have v1_18:=(a18.2 S.next (by omega)).trans v1_16
   have v2_18:=(a18.2 S1.next (by omega)).trans v2_16
   have v9_18:=(a18.2 S6.next (by omega)).trans v9_16
   have v10_18:=(a18.2 S9.next (by omega)).trans b16
   have g18:Agree S S18:=g16.trans a18
   try simp (disch:=first|omega|assumption) only [E0_G,SY,setArgs,off,agreeKind,partVals,vals,allocV,boxed,ldA,rdCells,oneB,aggD,aField,aFieldV,aExtract,eq_self,ne_eq,if_true,if_false,not_false_eq_true,Nat.reduceAdd,Nat.reduceSub,Nat.reduceMul,Nat.reduceLT,Nat.reduceEqDiff,Nat.reduceBEq,reduceIte,Int.reduceEq,Int.reduceLT,Int.reduceLE,reduceCtorEq,TY_EvW6,s1,e1,b1,v1_2,s2,e2,b2,y3,k4,s4,v1_4,v2_4,h5a,k6,s6,v1_6,v2_6,h7a,v1_9,v2_9,e9,b9,nx9,v1_10,v2_10,v9_10,e10,b10,cut_list,cutRun,fillK_none,fillK_ite,fillK_sl,pVals,pushR_two,pushR_three,pushR_four,List.take_succ_cons,List.take_zero,List.drop_succ_cons,List.drop_zero,List.take_nil,nn8_9,nn8_10,store_agree,store_refl E0_same,y11,k12,s12,v1_12,v2_12,v9_12,v10_12,v1_13,v2_13,v10_13,k13,b13,v1_14,v2_14,v9_14,k14,b14,v1_15,v2_15,v10_15,k15,b15,v1_16,v2_16,v9_16,k16,b16,k18,s18,v1_18,v2_18,v9_18,v10_18] at hz
   rcases dB ((r120 s.inLo s.inHi rn.start)) with ⟨h19a,h19⟩|⟨h19a,h19⟩
   ·skip
    obtain ⟨S20,k20,a20⟩:=c120 s.outLo s.outHi (((r116 rn)).1)  S18
    have l20:=a20.1
    have s20:E0.same S18 S20=true:=symEnv_same a20
    have v1_20:=(a20.2 S.next (by omega)).trans v1_18
    have v2_20:=(a20.2 S1.next (by omega)).trans v2_18
    have v9_20:=(a20.2 S6.next (by omega)).trans v9_18
    have v10_20:=(a20.2 S9.next (by omega)).trans v10_18
    have g20:Agree S S20:=g18.trans a20
    try simp (disch:=first|omega|assumption) only [E0_G,SY,setArgs,off,agreeKind,partVals,vals,allocV,boxed,ldA,rdCells,oneB,aggD,aField,aFieldV,aExtract,eq_self,ne_eq,if_true,if_false,not_false_eq_true,Nat.reduceAdd,Nat.reduceSub,Nat.reduceMul,Nat.reduceLT,Nat.reduceEqDiff,Nat.reduceBEq,reduceIte,Int.reduceEq,Int.reduceLT,Int.reduceLE,reduceCtorEq,TY_EvW6,s1,e1,b1,v1_2,s2,e2,b2,y3,k4,s4,v1_4,v2_4,h5a,k6,s6,v1_6,v2_6,h7a,v1_9,v2_9,e9,b9,nx9,v1_10,v2_10,v9_10,e10,b10,cut_list,cutRun,fillK_none,fillK_ite,fillK_sl,pVals,pushR_two,pushR_three,pushR_four,List.take_succ_cons,List.take_zero,List.drop_succ_cons,List.drop_zero,List.take_nil,nn8_9,nn8_10,store_agree,store_refl E0_same,y11,k12,s12,v1_12,v2_12,v9_12,v10_12,v1_13,v2_13,v10_13,k13,b13,v1_14,v2_14,v9_14,k14,b14,v1_15,v2_15,v10_15,k15,b15,v1_16,v2_16,v9_16,k16,b16,k18,s18,v1_18,v2_18,v9_18,v10_18,h19a,k20,s20,v1_20,v2_20,v9_20,v10_20] at hz
    rcases dB ((r120 s.outLo s.outHi (((r116 rn)).1))) with ⟨h21a,h21⟩|⟨h21a,h21⟩
    ·skip
     obtain ⟨S22,k22,a22⟩:=c119 rn.start rn.micro  S20
     have l22:=a22.1
     have s22:E0.same S20 S22=true:=symEnv_same a22
     have v1_22:=(a22.2 S.next (by omega)).trans v1_20
     have v2_22:=(a22.2 S1.next (by omega)).trans v2_20
     have v9_22:=(a22.2 S6.next (by omega)).trans v9_20
     have v10_22:=(a22.2 S9.next (by omega)).trans v10_20
     have g22:Agree S S22:=g20.trans a22
     obtain ⟨S23,k23,a23⟩:=c120 s.zLo s.zHi (r119 rn.start rn.micro)  S22
     have l23:=a23.1
     have s23:E0.same S22 S23=true:=symEnv_same a23
     have v1_23:=(a23.2 S.next (by omega)).trans v1_22
     have v2_23:=(a23.2 S1.next (by omega)).trans v2_22
     have v9_23:=(a23.2 S6.next (by omega)).trans v9_22
     have v10_23:=(a23.2 S9.next (by omega)).trans v10_22
     have g23:Agree S S23:=g22.trans a23
     try simp (disch:=first|omega|assumption) only [E0_G,SY,setArgs,off,agreeKind,partVals,vals,allocV,boxed,ldA,rdCells,oneB,aggD,aField,aFieldV,aExtract,eq_self,ne_eq,if_true,if_false,not_false_eq_true,Nat.reduceAdd,Nat.reduceSub,Nat.reduceMul,Nat.reduceLT,Nat.reduceEqDiff,Nat.reduceBEq,reduceIte,Int.reduceEq,Int.reduceLT,Int.reduceLE,reduceCtorEq,TY_EvW6,s1,e1,b1,v1_2,s2,e2,b2,y3,k4,s4,v1_4,v2_4,h5a,k6,s6,v1_6,v2_6,h7a,v1_9,v2_9,e9,b9,nx9,v1_10,v2_10,v9_10,e10,b10,cut_list,cutRun,fillK_none,fillK_ite,fillK_sl,pVals,pushR_two,pushR_three,pushR_four,List.take_succ_cons,List.take_zero,List.drop_succ_cons,List.drop_zero,List.take_nil,nn8_9,nn8_10,store_agree,store_refl E0_same,y11,k12,s12,v1_12,v2_12,v9_12,v10_12,v1_13,v2_13,v10_13,k13,b13,v1_14,v2_14,v9_14,k14,b14,v1_15,v2_15,v10_15,k15,b15,v1_16,v2_16,v9_16,k16,b16,k18,s18,v1_18,v2_18,v9_18,v10_18,h19a,k20,s20,v1_20,v2_20,v9_20,v10_20,h21a,k22,s22,v1_22,v2_22,v9_22,v10_22,k23,s23,v1_23,v2_23,v9_23,v10_23] at hz
     rcases dB ((r120 s.zLo s.zHi (r119 rn.start rn.micro))) with ⟨h24a,h24⟩|⟨h24a,h24⟩
     ·skip
      obtain ⟨S25,k25,a25⟩:=c119 (((r116 rn)).1) (((r116 rn)).2)  S23
      have l25:=a25.1
      have s25:E0.same S23 S25=true:=symEnv_same a25
      have v1_25:=(a25.2 S.next (by omega)).trans v1_23
      have v2_25:=(a25.2 S1.next (by omega)).trans v2_23
      have v9_25:=(a25.2 S6.next (by omega)).trans v9_23
      have v10_25:=(a25.2 S9.next (by omega)).trans v10_23
      have g25:Agree S S25:=g23.trans a25
      obtain ⟨S26,k26,a26⟩:=c120 s.eLo s.eHi (r119 (((r116 rn)).1) (((r116 rn)).2))  S25
      have l26:=a26.1
      have s26:E0.same S25 S26=true:=symEnv_same a26
      have v1_26:=(a26.2 S.next (by omega)).trans v1_25
      have v2_26:=(a26.2 S1.next (by omega)).trans v2_25
      have v9_26:=(a26.2 S6.next (by omega)).trans v9_25
      have v10_26:=(a26.2 S9.next (by omega)).trans v10_25
      have g26:Agree S S26:=g25.trans a26
      try simp (disch:=first|omega|assumption) only [E0_G,SY,setArgs,off,agreeKind,partVals,vals,allocV,boxed,ldA,rdCells,oneB,aggD,aField,aFieldV,aExtract,eq_self,ne_eq,if_true,if_false,not_false_eq_true,Nat.reduceAdd,Nat.reduceSub,Nat.reduceMul,Nat.reduceLT,Nat.reduceEqDiff,Nat.reduceBEq,reduceIte,Int.reduceEq,Int.reduceLT,Int.reduceLE,reduceCtorEq,TY_EvW6,s1,e1,b1,v1_2,s2,e2,b2,y3,k4,s4,v1_4,v2_4,h5a,k6,s6,v1_6,v2_6,h7a,v1_9,v2_9,e9,b9,nx9,v1_10,v2_10,v9_10,e10,b10,cut_list,cutRun,fillK_none,fillK_ite,fillK_sl,pVals,pushR_two,pushR_three,pushR_four,List.take_succ_cons,List.take_zero,List.drop_succ_cons,List.drop_zero,List.take_nil,nn8_9,nn8_10,store_agree,store_refl E0_same,y11,k12,s12,v1_12,v2_12,v9_12,v10_12,v1_13,v2_13,v10_13,k13,b13,v1_14,v2_14,v9_14,k14,b14,v1_15,v2_15,v10_15,k15,b15,v1_16,v2_16,v9_16,k16,b16,k18,s18,v1_18,v2_18,v9_18,v10_18,h19a,k20,s20,v1_20,v2_20,v9_20,v10_20,h21a,k22,s22,v1_22,v2_22,v9_22,v10_22,k23,s23,v1_23,v2_23,v9_23,v10_23,h24a,k25,s25,v1_25,v2_25,v9_25,v10_25,k26,s26,v1_26,v2_26,v9_26,v10_26] at hz
      rcases dB ((r120 s.eLo s.eHi (r119 (((r116 rn)).1) (((r116 rn)).2)))) with ⟨h27a,h27⟩|⟨h27a,h27⟩
      ·skip
       obtain ⟨S28,k28,a28⟩:=c121 s rn (by first|omega|assumption) S26 (v_s_stops) (hv_s_stops.agree g26) (v_rn_legs) (hv_rn_legs.agree g26)
       have l28:=a28.1
       have s28:E0.same S26 S28=true:=symEnv_same a28
       have v1_28:=(a28.2 S.next (by omega)).trans v1_26
       have v2_28:=(a28.2 S1.next (by omega)).trans v2_26
       have v9_28:=(a28.2 S6.next (by omega)).trans v9_26
       have v10_28:=(a28.2 S9.next (by omega)).trans v10_26
       have g28:Agree S S28:=g26.trans a28
       try simp (disch:=first|omega|assumption) only [E0_G,SY,setArgs,off,agreeKind,partVals,vals,allocV,boxed,ldA,rdCells,oneB,aggD,aField,aFieldV,aExtract,eq_self,ne_eq,if_true,if_false,not_false_eq_true,Nat.reduceAdd,Nat.reduceSub,Nat.reduceMul,Nat.reduceLT,Nat.reduceEqDiff,Nat.reduceBEq,reduceIte,Int.reduceEq,Int.reduceLT,Int.reduceLE,reduceCtorEq,TY_EvW6,s1,e1,b1,v1_2,s2,e2,b2,y3,k4,s4,v1_4,v2_4,h5a,k6,s6,v1_6,v2_6,h7a,v1_9,v2_9,e9,b9,nx9,v1_10,v2_10,v9_10,e10,b10,cut_list,cutRun,fillK_none,fillK_ite,fillK_sl,pVals,pushR_two,pushR_three,pushR_four,List.take_succ_cons,List.take_zero,List.drop_succ_cons,List.drop_zero,List.take_nil,nn8_9,nn8_10,store_agree,store_refl E0_same,y11,k12,s12,v1_12,v2_12,v9_12,v10_12,v1_13,v2_13,v10_13,k13,b13,v1_14,v2_14,v9_14,k14,b14,v1_15,v2_15,v10_15,k15,b15,v1_16,v2_16,v9_16,k16,b16,k18,s18,v1_18,v2_18,v9_18,v10_18,h19a,k20,s20,v1_20,v2_20,v9_20,v10_20,h21a,k22,s22,v1_22,v2_22,v9_22,v10_22,k23,s23,v1_23,v2_23,v9_23,v10_23,h24a,k25,s25,v1_25,v2_25,v9_25,v10_25,k26,s26,v1_26,v2_26,v9_26,v10_26,h27a,k28,s28,v1_28,v2_28,v9_28,v10_28] at hz
       rcases dB ((r121 s rn)) with ⟨h29a,h29⟩|⟨h29a,h29⟩
       ·skip
        obtain ⟨S30,k30,a30⟩:=c122 s rn (by first|omega|assumption) (by first|omega|assumption) S28 (v_s_stops) (hv_s_stops.agree g28) (v_rn_legs) (hv_rn_legs.agree g28)
        have l30:=a30.1
        have s30:E0.same S28 S30=true:=symEnv_same a30
        have v1_30:=(a30.2 S.next (by omega)).trans v1_28
        have v2_30:=(a30.2 S1.next (by omega)).trans v2_28
        have v9_30:=(a30.2 S6.next (by omega)).trans v9_28
        have v10_30:=(a30.2 S9.next (by omega)).trans v10_28
        have g30:Agree S S30:=g28.trans a30
        try simp (disch:=first|omega|assumption) only [E0_G,SY,setArgs,off,agreeKind,partVals,vals,allocV,boxed,ldA,rdCells,oneB,aggD,aField,aFieldV,aExtract,eq_self,ne_eq,if_true,if_false,not_false_eq_true,Nat.reduceAdd,Nat.reduceSub,Nat.reduceMul,Nat.reduceLT,Nat.reduceEqDiff,Nat.reduceBEq,reduceIte,Int.reduceEq,Int.reduceLT,Int.reduceLE,reduceCtorEq,TY_EvW6,s1,e1,b1,v1_2,s2,e2,b2,y3,k4,s4,v1_4,v2_4,h5a,k6,s6,v1_6,v2_6,h7a,v1_9,v2_9,e9,b9,nx9,v1_10,v2_10,v9_10,e10,b10,cut_list,cutRun,fillK_none,fillK_ite,fillK_sl,pVals,pushR_two,pushR_three,pushR_four,List.take_succ_cons,List.take_zero,List.drop_succ_cons,List.drop_zero,List.take_nil,nn8_9,nn8_10,store_agree,store_refl E0_same,y11,k12,s12,v1_12,v2_12,v9_12,v10_12,v1_13,v2_13,v10_13,k13,b13,v1_14,v2_14,v9_14,k14,b14,v1_15,v2_15,v10_15,k15,b15,v1_16,v2_16,v9_16,k16,b16,k18,s18,v1_18,v2_18,v9_18,v10_18,h19a,k20,s20,v1_20,v2_20,v9_20,v10_20,h21a,k22,s22,v1_22,v2_22,v9_22,v10_22,k23,s23,v1_23,v2_23,v9_23,v10_23,h24a,k25,s25,v1_25,v2_25,v9_25,v10_25,k26,s26,v1_26,v2_26,v9_26,v10_26,h27a,k28,s28,v1_28,v2_28,v9_28,v10_28,h29a,k30,s30,v1_30,v2_30,v9_30,v10_30] at hz
        rcases dB ((r122 s rn)) with ⟨h31a,h31⟩|⟨h31a,h31⟩
        ·skip
         try simp (disch:=first|omega|assumption) only [E0_G,SY,setArgs,off,agreeKind,partVals,vals,allocV,boxed,ldA,rdCells,oneB,aggD,aField,aFieldV,aExtract,eq_self,ne_eq,if_true,if_false,not_false_eq_true,Nat.reduceAdd,Nat.reduceSub,Nat.reduceMul,Nat.reduceLT,Nat.reduceEqDiff,Nat.reduceBEq,reduceIte,Int.reduceEq,Int.reduceLT,Int.reduceLE,reduceCtorEq,TY_EvW6,s1,e1,b1,v1_2,s2,e2,b2,y3,k4,s4,v1_4,v2_4,h5a,k6,s6,v1_6,v2_6,h7a,v1_9,v2_9,e9,b9,nx9,v1_10,v2_10,v9_10,e10,b10,cut_list,cutRun,fillK_none,fillK_ite,fillK_sl,pVals,pushR_two,pushR_three,pushR_four,List.take_succ_cons,List.take_zero,List.drop_succ_cons,List.drop_zero,List.take_nil,nn8_9,nn8_10,store_agree,store_refl E0_same,y11,k12,s12,v1_12,v2_12,v9_12,v10_12,v1_13,v2_13,v10_13,k13,b13,v1_14,v2_14,v9_14,k14,b14,v1_15,v2_15,v10_15,k15,b15,v1_16,v2_16,v9_16,k16,b16,k18,s18,v1_18,v2_18,v9_18,v10_18,h19a,k20,s20,v1_20,v2_20,v9_20,v10_20,h21a,k22,s22,v1_22,v2_22,v9_22,v10_22,k23,s23,v1_23,v2_23,v9_23,v10_23,h24a,k25,s25,v1_25,v2_25,v9_25,v10_25,k26,s26,v1_26,v2_26,v9_26,v10_26,h27a,k28,s28,v1_28,v2_28,v9_28,v10_28,h29a,k30,s30,v1_30,v2_30,v9_30,v10_30,h31a] at hz
         have hr:r68 s rn=0:=(if_pos h5).trans ((if_pos h7).trans ((if_pos h19).trans ((if_pos h21).trans ((if_pos h24).trans ((if_pos h27).trans ((if_pos h29).trans ((if_pos h31).trans (rfl))))))))
         exact fin hz (by rw [hr]) g30
        ·skip
         try simp (disch:=first|omega|assumption) only [E0_G,SY,setArgs,off,agreeKind,partVals,vals,allocV,boxed,ldA,rdCells,oneB,aggD,aField,aFieldV,aExtract,eq_self,ne_eq,if_true,if_false,not_false_eq_true,Nat.reduceAdd,Nat.reduceSub,Nat.reduceMul,Nat.reduceLT,Nat.reduceEqDiff,Nat.reduceBEq,reduceIte,Int.reduceEq,Int.reduceLT,Int.reduceLE,reduceCtorEq,TY_EvW6,s1,e1,b1,v1_2,s2,e2,b2,y3,k4,s4,v1_4,v2_4,h5a,k6,s6,v1_6,v2_6,h7a,v1_9,v2_9,e9,b9,nx9,v1_10,v2_10,v9_10,e10,b10,cut_list,cutRun,fillK_none,fillK_ite,fillK_sl,pVals,pushR_two,pushR_three,pushR_four,List.take_succ_cons,List.take_zero,List.drop_succ_cons,List.drop_zero,List.take_nil,nn8_9,nn8_10,store_agree,store_refl E0_same,y11,k12,s12,v1_12,v2_12,v9_12,v10_12,v1_13,v2_13,v10_13,k13,b13,v1_14,v2_14,v9_14,k14,b14,v1_15,v2_15,v10_15,k15,b15,v1_16,v2_16,v9_16,k16,b16,k18,s18,v1_18,v2_18,v9_18,v10_18,h19a,k20,s20,v1_20,v2_20,v9_20,v10_20,h21a,k22,s22,v1_22,v2_22,v9_22,v10_22,k23,s23,v1_23,v2_23,v9_23,v10_23,h24a,k25,s25,v1_25,v2_25,v9_25,v10_25,k26,s26,v1_26,v2_26,v9_26,v10_26,h27a,k28,s28,v1_28,v2_28,v9_28,v10_28,h29a,k30,s30,v1_30,v2_30,v9_30,v10_30,h31a] at hz
         have hr:r68 s rn=8:=(if_pos h5).trans ((if_pos h7).trans ((if_pos h19).trans ((if_pos h21).trans ((if_pos h24).trans ((if_pos h27).trans ((if_pos h29).trans ((if_neg h31).trans (rfl))))))))
         exact fin hz (by rw [hr]) g30
       ·skip
        try simp (disch:=first|omega|assumption) only [E0_G,SY,setArgs,off,agreeKind,partVals,vals,allocV,boxed,ldA,rdCells,oneB,aggD,aField,aFieldV,aExtract,eq_self,ne_eq,if_true,if_false,not_false_eq_true,Nat.reduceAdd,Nat.reduceSub,Nat.reduceMul,Nat.reduceLT,Nat.reduceEqDiff,Nat.reduceBEq,reduceIte,Int.reduceEq,Int.reduceLT,Int.reduceLE,reduceCtorEq,TY_EvW6,s1,e1,b1,v1_2,s2,e2,b2,y3,k4,s4,v1_4,v2_4,h5a,k6,s6,v1_6,v2_6,h7a,v1_9,v2_9,e9,b9,nx9,v1_10,v2_10,v9_10,e10,b10,cut_list,cutRun,fillK_none,fillK_ite,fillK_sl,pVals,pushR_two,pushR_three,pushR_four,List.take_succ_cons,List.take_zero,List.drop_succ_cons,List.drop_zero,List.take_nil,nn8_9,nn8_10,store_agree,store_refl E0_same,y11,k12,s12,v1_12,v2_12,v9_12,v10_12,v1_13,v2_13,v10_13,k13,b13,v1_14,v2_14,v9_14,k14,b14,v1_15,v2_15,v10_15,k15,b15,v1_16,v2_16,v9_16,k16,b16,k18,s18,v1_18,v2_18,v9_18,v10_18,h19a,k20,s20,v1_20,v2_20,v9_20,v10_20,h21a,k22,s22,v1_22,v2_22,v9_22,v10_22,k23,s23,v1_23,v2_23,v9_23,v10_23,h24a,k25,s25,v1_25,v2_25,v9_25,v10_25,k26,s26,v1_26,v2_26,v9_26,v10_26,h27a,k28,s28,v1_28,v2_28,v9_28,v10_28,h29a] at hz
        have hr:r68 s rn=8:=(if_pos h5).trans ((if_pos h7).trans ((if_pos h19).trans ((if_pos h21).trans ((if_pos h24).trans ((if_pos h27).trans ((if_neg h29).trans (rfl)))))))
        exact fin hz (by rw [hr]) g28
      ·skip
       try simp (disch:=first|omega|assumption) only [E0_G,SY,setArgs,off,agreeKind,partVals,vals,allocV,boxed,ldA,rdCells,oneB,aggD,aField,aFieldV,aExtract,eq_self,ne_eq,if_true,if_false,not_false_eq_true,Nat.reduceAdd,Nat.reduceSub,Nat.reduceMul,Nat.reduceLT,Nat.reduceEqDiff,Nat.reduceBEq,reduceIte,Int.reduceEq,Int.reduceLT,Int.reduceLE,reduceCtorEq,TY_EvW6,s1,e1,b1,v1_2,s2,e2,b2,y3,k4,s4,v1_4,v2_4,h5a,k6,s6,v1_6,v2_6,h7a,v1_9,v2_9,e9,b9,nx9,v1_10,v2_10,v9_10,e10,b10,cut_list,cutRun,fillK_none,fillK_ite,fillK_sl,pVals,pushR_two,pushR_three,pushR_four,List.take_succ_cons,List.take_zero,List.drop_succ_cons,List.drop_zero,List.take_nil,nn8_9,nn8_10,store_agree,store_refl E0_same,y11,k12,s12,v1_12,v2_12,v9_12,v10_12,v1_13,v2_13,v10_13,k13,b13,v1_14,v2_14,v9_14,k14,b14,v1_15,v2_15,v10_15,k15,b15,v1_16,v2_16,v9_16,k16,b16,k18,s18,v1_18,v2_18,v9_18,v10_18,h19a,k20,s20,v1_20,v2_20,v9_20,v10_20,h21a,k22,s22,v1_22,v2_22,v9_22,v10_22,k23,s23,v1_23,v2_23,v9_23,v10_23,h24a,k25,s25,v1_25,v2_25,v9_25,v10_25,k26,s26,v1_26,v2_26,v9_26,v10_26,h27a] at hz
       have hr:r68 s rn=8:=(if_pos h5).trans ((if_pos h7).trans ((if_pos h19).trans ((if_pos h21).trans ((if_pos h24).trans ((if_neg h27).trans (rfl))))))
       exact fin hz (by rw [hr]) g26
     ·skip
      try simp (disch:=first|omega|assumption) only [E0_G,SY,setArgs,off,agreeKind,partVals,vals,allocV,boxed,ldA,rdCells,oneB,aggD,aField,aFieldV,aExtract,eq_self,ne_eq,if_true,if_false,not_false_eq_true,Nat.reduceAdd,Nat.reduceSub,Nat.reduceMul,Nat.reduceLT,Nat.reduceEqDiff,Nat.reduceBEq,reduceIte,Int.reduceEq,Int.reduceLT,Int.reduceLE,reduceCtorEq,TY_EvW6,s1,e1,b1,v1_2,s2,e2,b2,y3,k4,s4,v1_4,v2_4,h5a,k6,s6,v1_6,v2_6,h7a,v1_9,v2_9,e9,b9,nx9,v1_10,v2_10,v9_10,e10,b10,cut_list,cutRun,fillK_none,fillK_ite,fillK_sl,pVals,pushR_two,pushR_three,pushR_four,List.take_succ_cons,List.take_zero,List.drop_succ_cons,List.drop_zero,List.take_nil,nn8_9,nn8_10,store_agree,store_refl E0_same,y11,k12,s12,v1_12,v2_12,v9_12,v10_12,v1_13,v2_13,v10_13,k13,b13,v1_14,v2_14,v9_14,k14,b14,v1_15,v2_15,v10_15,k15,b15,v1_16,v2_16,v9_16,k16,b16,k18,s18,v1_18,v2_18,v9_18,v10_18,h19a,k20,s20,v1_20,v2_20,v9_20,v10_20,h21a,k22,s22,v1_22,v2_22,v9_22,v10_22,k23,s23,v1_23,v2_23,v9_23,v10_23,h24a] at hz
      have hr:r68 s rn=8:=(if_pos h5).trans ((if_pos h7).trans ((if_pos h19).trans ((if_pos h21).trans ((if_neg h24).trans (rfl)))))
      exact fin hz (by rw [hr]) g23
    ·skip
     try simp (disch:=first|omega|assumption) only [E0_G,SY,setArgs,off,agreeKind,partVals,vals,allocV,boxed,ldA,rdCells,oneB,aggD,aField,aFieldV,aExtract,eq_self,ne_eq,if_true,if_false,not_false_eq_true,Nat.reduceAdd,Nat.reduceSub,Nat.reduceMul,Nat.reduceLT,Nat.reduceEqDiff,Nat.reduceBEq,reduceIte,Int.reduceEq,Int.reduceLT,Int.reduceLE,reduceCtorEq,TY_EvW6,s1,e1,b1,v1_2,s2,e2,b2,y3,k4,s4,v1_4,v2_4,h5a,k6,s6,v1_6,v2_6,h7a,v1_9,v2_9,e9,b9,nx9,v1_10,v2_10,v9_10,e10,b10,cut_list,cutRun,fillK_none,fillK_ite,fillK_sl,pVals,pushR_two,pushR_three,pushR_four,List.take_succ_cons,List.take_zero,List.drop_succ_cons,List.drop_zero,List.take_nil,nn8_9,nn8_10,store_agree,store_refl E0_same,y11,k12,s12,v1_12,v2_12,v9_12,v10_12,v1_13,v2_13,v10_13,k13,b13,v1_14,v2_14,v9_14,k14,b14,v1_15,v2_15,v10_15,k15,b15,v1_16,v2_16,v9_16,k16,b16,k18,s18,v1_18,v2_18,v9_18,v10_18,h19a,k20,s20,v1_20,v2_20,v9_20,v10_20,h21a] at hz
     have hr:r68 s rn=8:=(if_pos h5).trans ((if_pos h7).trans ((if_pos h19).trans ((if_neg h21).trans (rfl))))
     exact fin hz (by rw [hr]) g20
   ·skip
    try simp (disch:=first|omega|assumption) only [E0_G,SY,setArgs,off,agreeKind,partVals,vals,allocV,boxed,ldA,rdCells,oneB,aggD,aField,aFieldV,aExtract,eq_self,ne_eq,if_true,if_false,not_false_eq_true,Nat.reduceAdd,Nat.reduceSub,Nat.reduceMul,Nat.reduceLT,Nat.reduceEqDiff,Nat.reduceBEq,reduceIte,Int.reduceEq,Int.reduceLT,Int.reduceLE,reduceCtorEq,TY_EvW6,s1,e1,b1,v1_2,s2,e2,b2,y3,k4,s4,v1_4,v2_4,h5a,k6,s6,v1_6,v2_6,h7a,v1_9,v2_9,e9,b9,nx9,v1_10,v2_10,v9_10,e10,b10,cut_list,cutRun,fillK_none,fillK_ite,fillK_sl,pVals,pushR_two,pushR_three,pushR_four,List.take_succ_cons,List.take_zero,List.drop_succ_cons,List.drop_zero,List.take_nil,nn8_9,nn8_10,store_agree,store_refl E0_same,y11,k12,s12,v1_12,v2_12,v9_12,v10_12,v1_13,v2_13,v10_13,k13,b13,v1_14,v2_14,v9_14,k14,b14,v1_15,v2_15,v10_15,k15,b15,v1_16,v2_16,v9_16,k16,b16,k18,s18,v1_18,v2_18,v9_18,v10_18,h19a] at hz
    have hr:r68 s rn=8:=(if_pos h5).trans ((if_pos h7).trans ((if_neg h19).trans (rfl)))
    exact fin hz (by rw [hr]) g18
  ·skip
   try simp (disch:=first|omega|assumption) only [E0_G,SY,setArgs,off,agreeKind,partVals,vals,allocV,boxed,ldA,rdCells,oneB,aggD,aField,aFieldV,aExtract,eq_self,ne_eq,if_true,if_false,not_false_eq_true,Nat.reduceAdd,Nat.reduceSub,Nat.reduceMul,Nat.reduceLT,Nat.reduceEqDiff,Nat.reduceBEq,reduceIte,Int.reduceEq,Int.reduceLT,Int.reduceLE,reduceCtorEq,TY_EvW6,s1,e1,b1,v1_2,s2,e2,b2,y3,k4,s4,v1_4,v2_4,h5a,k6,s6,v1_6,v2_6,h7a] at hz
   have hr:r68 s rn=(r69 rn):=(if_pos h5).trans ((if_neg h7).trans (rfl))
   exact fin hz (by rw [hr]) g6
 ·skip
  try simp (disch:=first|omega|assumption) only [E0_G,SY,setArgs,off,agreeKind,partVals,vals,allocV,boxed,ldA,rdCells,oneB,aggD,aField,aFieldV,aExtract,eq_self,ne_eq,if_true,if_false,not_false_eq_true,Nat.reduceAdd,Nat.reduceSub,Nat.reduceMul,Nat.reduceLT,Nat.reduceEqDiff,Nat.reduceBEq,reduceIte,Int.reduceEq,Int.reduceLT,Int.reduceLE,reduceCtorEq,TY_EvW6,s1,e1,b1,v1_2,s2,e2,b2,y3,k4,s4,v1_4,v2_4,h5a] at hz
  have hr:r68 s rn=(r25 (mkRc s.id s.inLo s.inHi s.outLo s.outHi s.zLo s.zHi s.eLo s.eHi s.rLo s.rHi s.stops ([]) ([]))):=(if_neg h5).trans (rfl)
  exact fin hz (by rw [hr]) g4
end Clock
end Go.Proofs
end
