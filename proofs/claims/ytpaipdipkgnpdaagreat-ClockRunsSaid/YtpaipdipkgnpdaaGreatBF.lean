import Derived.Test.YtpaipdipkgnpdaaGreatBE
import Derived.Test.YtpaipdipkgnpdaaGreatAevBv
section
set_option linter.unusedSimpArgs false
set_option linter.unusedVariables false
namespace Go.Proofs
namespace Clock
open Go Go.RowKit Go.Aev
set_option maxRecDepth 100000
theorem tz92:szOf Tryz.prog 92=some 1:=by kernel_rfl
theorem tt92:inTab Tryz.prog 92=true:=by kernel_rfl
theorem t0_92:zeroOf Tryz.prog 92=some (.slice none 0 0):=by kernel_rfl
theorem tz93:szOf Tryz.prog 93=some 3:=by kernel_rfl
theorem tt93:inTab Tryz.prog 93=true:=by kernel_rfl
theorem t0_93:zeroOf Tryz.prog 93=some (.agg #[.int .i64 0,.int .i64 0,.slice none 0 0]):=by kernel_rfl
theorem tz94:szOf Tryz.prog 94=some 3:=by kernel_rfl
theorem tt94:inTab Tryz.prog 94=true:=by kernel_rfl
theorem t0_94:zeroOf Tryz.prog 94=some (.agg #[.int .i64 0,.int .i64 0,.slice none 0 0]):=by kernel_rfl
theorem tz103:szOf Tryz.prog 103=some 2:=by kernel_rfl
theorem tt103:inTab Tryz.prog 103=true:=by kernel_rfl
theorem t0_103:zeroOf Tryz.prog 103=some (.agg #[.int .i64 0,.int .i64 0]):=by kernel_rfl
theorem tz104:szOf Tryz.prog 104=some 2:=by kernel_rfl
theorem tt104:inTab Tryz.prog 104=true:=by kernel_rfl
theorem t0_104:zeroOf Tryz.prog 104=some (.agg #[.int .i64 0,.int .i64 0]):=by kernel_rfl
theorem tz164:szOf Tryz.prog 164=some 2:=by kernel_rfl
theorem tt164:inTab Tryz.prog 164=true:=by kernel_rfl
theorem t0_164:zeroOf Tryz.prog 164=some (.agg #[.int .i64 0,.int .i64 0]):=by kernel_rfl
theorem tz165:szOf Tryz.prog 165=some 2:=by kernel_rfl
theorem tt165:inTab Tryz.prog 165=true:=by kernel_rfl
theorem t0_165:zeroOf Tryz.prog 165=some (.agg #[.int .i64 0,.int .i64 0]):=by kernel_rfl
theorem TY_EvW2:type_of% (And.intro (And.intro (And.intro (And.intro (And.intro (And.intro Tryz.underlying3 (And.intro tz3 tt3)) (And.intro (And.intro t0_3 Tryz.underlying22) (And.intro tz22 tt22))) (And.intro (And.intro (And.intro t0_22 Tryz.underlying23) (And.intro tz23 tt23)) (And.intro (And.intro t0_23 Tryz.underlying24) (And.intro tz24 tt24)))) (And.intro (And.intro (And.intro (And.intro t0_24 Tryz.underlying25) (And.intro tz25 tt25)) (And.intro (And.intro t0_25 Tryz.underlying26) (And.intro tz26 tt26))) (And.intro (And.intro (And.intro t0_26 Tryz.underlying27) (And.intro tz27 tt27)) (And.intro (And.intro t0_27 Tryz.underlying28) (And.intro tz28 tt28))))) (And.intro (And.intro (And.intro (And.intro t0_28 (And.intro Tryz.underlying29 tz29)) (And.intro (And.intro tt29 t0_29) (And.intro Tryz.underlying30 tz30))) (And.intro (And.intro (And.intro tt30 t0_30) (And.intro Tryz.underlying31 tz31)) (And.intro (And.intro tt31 t0_31) (And.intro Tryz.underlying36 tz36)))) (And.intro (And.intro (And.intro (And.intro tt36 t0_36) (And.intro Tryz.underlying39 tz39)) (And.intro (And.intro tt39 t0_39) (And.intro Tryz.underlying54 tz54))) (And.intro (And.intro (And.intro tt54 t0_54) (And.intro Tryz.underlying92 tz92)) (And.intro (And.intro tt92 t0_92) (And.intro Tryz.underlying93 tz93)))))) (And.intro (And.intro (And.intro (And.intro (And.intro tt93 (And.intro t0_93 Tryz.underlying94)) (And.intro (And.intro tz94 tt94) (And.intro t0_94 Tryz.underlying103))) (And.intro (And.intro (And.intro tz103 tt103) (And.intro t0_103 Tryz.underlying104)) (And.intro (And.intro tz104 tt104) (And.intro t0_104 Tryz.underlying106)))) (And.intro (And.intro (And.intro (And.intro tz106 tt106) (And.intro t0_106 Tryz.underlying107)) (And.intro (And.intro tz107 tt107) (And.intro t0_107 Tryz.underlying111))) (And.intro (And.intro (And.intro tz111 tt111) (And.intro t0_111 Tryz.underlying112)) (And.intro (And.intro tz112 tt112) (And.intro t0_112 Tryz.underlying114))))) (And.intro (And.intro (And.intro (And.intro tz114 (And.intro tt114 t0_114)) (And.intro (And.intro Tryz.underlying115 tz115) (And.intro tt115 t0_115))) (And.intro (And.intro (And.intro Tryz.underlying116 tz116) (And.intro tt116 t0_116)) (And.intro (And.intro Tryz.underlying117 tz117) (And.intro tt117 t0_117)))) (And.intro (And.intro (And.intro (And.intro Tryz.underlying130 tz130) (And.intro tt130 t0_130)) (And.intro (And.intro Tryz.underlying131 tz131) (And.intro tt131 t0_131))) (And.intro (And.intro (And.intro Tryz.underlying164 tz164) (And.intro tt164 t0_164)) (And.intro (And.intro Tryz.underlying165 tz165) (And.intro tt165 t0_165))))))):=(And.intro (And.intro (And.intro (And.intro (And.intro (And.intro Tryz.underlying3 (And.intro tz3 tt3)) (And.intro (And.intro t0_3 Tryz.underlying22) (And.intro tz22 tt22))) (And.intro (And.intro (And.intro t0_22 Tryz.underlying23) (And.intro tz23 tt23)) (And.intro (And.intro t0_23 Tryz.underlying24) (And.intro tz24 tt24)))) (And.intro (And.intro (And.intro (And.intro t0_24 Tryz.underlying25) (And.intro tz25 tt25)) (And.intro (And.intro t0_25 Tryz.underlying26) (And.intro tz26 tt26))) (And.intro (And.intro (And.intro t0_26 Tryz.underlying27) (And.intro tz27 tt27)) (And.intro (And.intro t0_27 Tryz.underlying28) (And.intro tz28 tt28))))) (And.intro (And.intro (And.intro (And.intro t0_28 (And.intro Tryz.underlying29 tz29)) (And.intro (And.intro tt29 t0_29) (And.intro Tryz.underlying30 tz30))) (And.intro (And.intro (And.intro tt30 t0_30) (And.intro Tryz.underlying31 tz31)) (And.intro (And.intro tt31 t0_31) (And.intro Tryz.underlying36 tz36)))) (And.intro (And.intro (And.intro (And.intro tt36 t0_36) (And.intro Tryz.underlying39 tz39)) (And.intro (And.intro tt39 t0_39) (And.intro Tryz.underlying54 tz54))) (And.intro (And.intro (And.intro tt54 t0_54) (And.intro Tryz.underlying92 tz92)) (And.intro (And.intro tt92 t0_92) (And.intro Tryz.underlying93 tz93)))))) (And.intro (And.intro (And.intro (And.intro (And.intro tt93 (And.intro t0_93 Tryz.underlying94)) (And.intro (And.intro tz94 tt94) (And.intro t0_94 Tryz.underlying103))) (And.intro (And.intro (And.intro tz103 tt103) (And.intro t0_103 Tryz.underlying104)) (And.intro (And.intro tz104 tt104) (And.intro t0_104 Tryz.underlying106)))) (And.intro (And.intro (And.intro (And.intro tz106 tt106) (And.intro t0_106 Tryz.underlying107)) (And.intro (And.intro tz107 tt107) (And.intro t0_107 Tryz.underlying111))) (And.intro (And.intro (And.intro tz111 tt111) (And.intro t0_111 Tryz.underlying112)) (And.intro (And.intro tz112 tt112) (And.intro t0_112 Tryz.underlying114))))) (And.intro (And.intro (And.intro (And.intro tz114 (And.intro tt114 t0_114)) (And.intro (And.intro Tryz.underlying115 tz115) (And.intro tt115 t0_115))) (And.intro (And.intro (And.intro Tryz.underlying116 tz116) (And.intro tt116 t0_116)) (And.intro (And.intro Tryz.underlying117 tz117) (And.intro tt117 t0_117)))) (And.intro (And.intro (And.intro (And.intro Tryz.underlying130 tz130) (And.intro tt130 t0_130)) (And.intro (And.intro Tryz.underlying131 tz131) (And.intro tt131 t0_131))) (And.intro (And.intro (And.intro Tryz.underlying164 tz164) (And.intro tt164 t0_164)) (And.intro (And.intro Tryz.underlying165 tz165) (And.intro tt165 t0_165)))))))
def r118 (time micro:Int) (a:Int) (b:Int):(Int × Int):=(IntKind.i64.wrap (time+a),IntKind.i64.wrap (micro+(IntKind.i64.wrap (a * b))))
set_option maxHeartbeats 2000000 in
theorem c118 (time micro:Int) (a:Int) (b:Int)  (S:AS)  :
  ∃ S',(evL Tryz.prog E0).call 118 #[.agg #[.int .i64 time,.int .i64 micro],.int .i64 a,.int .i64 b] S=some (.agg #[.int .i64 ((r118 time micro a b).1),.int .i64 ((r118 time micro a b).2)],S')∧Agree S S':=by
 generalize hz:(evL Tryz.prog E0).call 118 _ _=z
 rw [L_call,evCall_said rfl Tryz.func118 rfl (by decide) Tryz.ntmps118 Tryz.results118] at hz
 obtain ⟨S1,e1,n1,b1,a1⟩:=push_open S (.cells [.int .i64 time,.int .i64 micro] 165 0 true true)
 have g1:Agree S S1:=a1
 have s1:E0.same S S1=true:=symEnv_same a1
 obtain ⟨S2,e2,n2,b2,a2⟩:=push_open S1 (.cells [.int .i64 0,.int .i64 0] 165 0 true true)
 have v1_2:=(a2.2 S.next (by omega)).trans b1
 have g2:Agree S S2:=g1.trans a2
 have s2:E0.same S1 S2=true:=symEnv_same a2
 have y3:aBuild Tryz.prog 165 [(0,.int .i64 (IntKind.i64.wrap (time+a))),(1,.int .i64 (IntKind.i64.wrap (micro+(IntKind.i64.wrap (a * b)))))]=some (.agg #[.int .i64 (IntKind.i64.wrap (time+a)),.int .i64 (IntKind.i64.wrap (micro+(IntKind.i64.wrap (a * b))))]):=by kernel_rfl
 obtain ⟨S4,k4,n4,b4,q4⟩:=st_at (o:=0) (c':=[.int .i64 (IntKind.i64.wrap (time+a)),.int .i64 (IntKind.i64.wrap (micro+(IntKind.i64.wrap (a * b))))]) (v:=.agg #[.int .i64 (IntKind.i64.wrap (time+a)),.int .i64 (IntKind.i64.wrap (micro+(IntKind.i64.wrap (a * b))))]) tz165 b2 rfl rfl (show 0+2≤2 by decide) rfl
 have v1_4:=(q4 S.next (by omega)).trans v1_2
 have g4:Agree S S4:=⟨by have:=(g2).1; omega,fun id hid=>(q4 id (by have:=(g2).1; omega)).trans ((g2).2 id hid)⟩
 try simp (disch:=first|omega|assumption) only [E0_G,SY,setArgs,off,agreeKind,partVals,vals,allocV,boxed,ldA,rdCells,oneB,aggD,aField,aFieldV,aExtract,eq_self,ne_eq,if_true,if_false,not_false_eq_true,Nat.reduceAdd,Nat.reduceSub,Nat.reduceMul,Nat.reduceLT,Nat.reduceEqDiff,Nat.reduceBEq,reduceIte,Int.reduceEq,Int.reduceLT,Int.reduceLE,reduceCtorEq,TY_EvW2,s1,e1,b1,v1_2,s2,e2,b2,y3,v1_4,k4,b4] at hz
 have hr:r118 time micro a b=(IntKind.i64.wrap (time+a),IntKind.i64.wrap (micro+(IntKind.i64.wrap (a * b)))):=rfl
 exact fin hz (by rw [hr]) g4
def r119 (time micro:Int):Int:=IntKind.i64.wrap (Int.tdiv micro 1000000)
set_option maxHeartbeats 2000000 in
theorem c119 (time micro:Int)  (S:AS)  :
  ∃ S',(evL Tryz.prog E0).call 119 #[.agg #[.int .i64 time,.int .i64 micro]] S=some (.int .i64 (r119 time micro),S')∧Agree S S':=by
 generalize hz:(evL Tryz.prog E0).call 119 _ _=z
 rw [L_call,evCall_said rfl Tryz.func119 rfl (by decide) Tryz.ntmps119 Tryz.results119] at hz
 obtain ⟨S1,e1,n1,b1,a1⟩:=push_open S (.cells [.int .i64 time,.int .i64 micro] 165 0 true true)
 have g1:Agree S S1:=a1
 have s1:E0.same S S1=true:=symEnv_same a1
 try simp (disch:=first|omega|assumption) only [E0_G,SY,setArgs,off,agreeKind,partVals,vals,allocV,boxed,ldA,rdCells,oneB,aggD,aField,aFieldV,aExtract,eq_self,ne_eq,if_true,if_false,not_false_eq_true,Nat.reduceAdd,Nat.reduceSub,Nat.reduceMul,Nat.reduceLT,Nat.reduceEqDiff,Nat.reduceBEq,reduceIte,Int.reduceEq,Int.reduceLT,Int.reduceLE,reduceCtorEq,TY_EvW2,s1,e1,b1] at hz
 have hr:r119 time micro=IntKind.i64.wrap (Int.tdiv micro 1000000):=rfl
 exact fin hz (by rw [hr]) g1
def R116_159_0 (rn:Rn)  : List Lg→Nat→Int→Int→Int→Int→Int × Int
 | [],k,mt,mm,lt,lm=>(lt,lm)
 | x42 :: l',k,mt,mm,lt,lm=>R116_159_0 rn l' (k+1) (((r118 mt mm x42.secs x42.rate)).1) (((r118 mt mm x42.secs x42.rate)).2) (((r118 mt mm x42.secs x42.rate)).1) (((r118 mt mm x42.secs x42.rate)).2)
def r116 (rn:Rn):(Int × Int):=((R116_159_0 rn rn.legs 0 rn.start rn.micro rn.start rn.micro).1,(R116_159_0 rn rn.legs 0 rn.start rn.micro rn.start rn.micro).2)
set_option maxHeartbeats 2000000 in
theorem c116 (rn:Rn) (hl:rn.legs.length≤60) (S:AS) (v_rn_legs:Value) (hv_rn_legs:Lst S v_rn_legs rn.legs) :
  ∃ S',(evL Tryz.prog E0).call 116 #[.agg #[.int .i64 rn.start,.int .i64 rn.micro,v_rn_legs]] S=some (.agg #[.int .i64 ((r116 rn).1),.int .i64 ((r116 rn).2)],S')∧Agree S S':=by
 generalize hz:(evL Tryz.prog E0).call 116 _ _=z
 rw [L_call,evCall_said rfl Tryz.func116 rfl (by decide) Tryz.ntmps116 Tryz.results116] at hz
 obtain ⟨S1,e1,n1,b1,a1⟩:=push_open S (.cells [.int .i64 rn.start,.int .i64 rn.micro,v_rn_legs] 94 0 true true)
 have g1:Agree S S1:=a1
 have s1:E0.same S S1=true:=symEnv_same a1
 obtain ⟨S2,e2,n2,b2,a2⟩:=push_open S1 (.cells [.int .i64 0,.int .i64 0] 165 0 true true)
 have v1_2:=(a2.2 S.next (by omega)).trans b1
 have g2:Agree S S2:=g1.trans a2
 have s2:E0.same S1 S2=true:=symEnv_same a2
 have y3:aBuild Tryz.prog 165 [(0,.int .i64 rn.start),(1,.int .i64 rn.micro)]=some (.agg #[.int .i64 rn.start,.int .i64 rn.micro]):=by kernel_rfl
 obtain ⟨S4,e4,n4,b4,a4⟩:=push_open S2 (.cells [.int .i64 0,.int .i64 0] 165 0 true true)
 have v1_4:=(a4.2 S.next (by omega)).trans v1_2
 have v2_4:=(a4.2 S1.next (by omega)).trans b2
 have g4:Agree S S4:=g2.trans a4
 have s4:E0.same S2 S4=true:=symEnv_same a4
 obtain ⟨S5,k5,n5,b5,q5⟩:=st_at (o:=0) (c':=[.int .i64 rn.start,.int .i64 rn.micro]) (v:=.agg #[.int .i64 rn.start,.int .i64 rn.micro]) tz165 b4 rfl rfl (show 0+2≤2 by decide) rfl
 have v1_5:=(q5 S.next (by omega)).trans v1_4
 have v2_5:=(q5 S1.next (by omega)).trans v2_4
 have g5:Agree S S5:=⟨by have:=(g4).1; omega,fun id hid=>(q5 id (by have:=(g4).1; omega)).trans ((g4).2 id hid)⟩
 try simp (disch:=first|omega|assumption) only [E0_G,SY,setArgs,off,agreeKind,partVals,vals,allocV,boxed,ldA,rdCells,oneB,aggD,aField,aFieldV,aExtract,eq_self,ne_eq,if_true,if_false,not_false_eq_true,Nat.reduceAdd,Nat.reduceSub,Nat.reduceMul,Nat.reduceLT,Nat.reduceEqDiff,Nat.reduceBEq,reduceIte,Int.reduceEq,Int.reduceLT,Int.reduceLE,reduceCtorEq,TY_EvW2,s1,e1,b1,v1_2,s2,e2,b2,y3,v1_4,v2_4,s4,e4,b4,v1_5,v2_5,k5,b5] at hz
 generalize hc6:(evL Tryz.prog E0).call 117 _ _=zc6 at hz
 rw [L_call,evCall_said rfl Tryz.func117 rfl (by decide) Tryz.ntmps117 Tryz.results117] at hc6
 obtain ⟨S7,e7,n7,b7,a7⟩:=push_open S5 (.cells [.int .i64 rn.start,.int .i64 rn.micro,v_rn_legs] 94 0 true true)
 have v1_7:=(a7.2 S.next (by omega)).trans v1_5
 have v2_7:=(a7.2 S1.next (by omega)).trans v2_5
 have v4_7:=(a7.2 S2.next (by omega)).trans b5
 have g7:Agree S S7:=g5.trans a7
 have s7:E0.same S5 S7=true:=symEnv_same a7
 try simp (disch:=first|omega|assumption) only [E0_G,SY,setArgs,off,agreeKind,partVals,vals,allocV,boxed,ldA,rdCells,oneB,aggD,aField,aFieldV,aExtract,eq_self,ne_eq,if_true,if_false,not_false_eq_true,Nat.reduceAdd,Nat.reduceSub,Nat.reduceMul,Nat.reduceLT,Nat.reduceEqDiff,Nat.reduceBEq,reduceIte,Int.reduceEq,Int.reduceLT,Int.reduceLE,reduceCtorEq,TY_EvW2,s1,e1,b1,v1_2,s2,e2,b2,y3,v1_4,v2_4,s4,e4,b4,v1_5,v2_5,k5,b5,v1_7,v2_7,v4_7,s7,e7,b7,op_makeFunc1,op_makeFunc2] at hc6
 subst hc6
 try simp (disch:=first|omega|assumption) only [E0_G,SY,setArgs,off,agreeKind,partVals,vals,allocV,boxed,ldA,rdCells,oneB,aggD,aField,aFieldV,aExtract,eq_self,ne_eq,if_true,if_false,not_false_eq_true,Nat.reduceAdd,Nat.reduceSub,Nat.reduceMul,Nat.reduceLT,Nat.reduceEqDiff,Nat.reduceBEq,reduceIte,Int.reduceEq,Int.reduceLT,Int.reduceLE,reduceCtorEq,TY_EvW2,s1,e1,b1,v1_2,s2,e2,b2,y3,v1_4,v2_4,s4,e4,b4,v1_5,v2_5,k5,b5,v1_7,v2_7,v4_7,s7,e7,b7,op_makeFunc1,op_makeFunc2] at hz
 generalize hL8:evCode _ _ _ _ (Code.rangeFunc _ _ _ _) _=L8z at hz
 obtain ⟨xx8,S8,rfl,hQ8⟩:=range_in hL8 (fun t=>t.get 3=some (.pointer (some ⟨S2.next,0,none⟩))) (by refine ?_<;>first|(simp (disch:=first|omega|assumption) only [E0_G,SY,setArgs,off,agreeKind,partVals,vals,allocV,boxed,ldA,rdCells,oneB,aggD,aField,aFieldV,aExtract,eq_self,ne_eq,if_true,if_false,not_false_eq_true,Nat.reduceAdd,Nat.reduceSub,Nat.reduceMul,Nat.reduceLT,Nat.reduceEqDiff,Nat.reduceBEq,reduceIte,Int.reduceEq,Int.reduceLT,Int.reduceLE,reduceCtorEq,s1,e1,b1,v1_2,s2,e2,b2,y3,v1_4,v2_4,s4,e4,b4,v1_5,v2_5,k5,b5,v1_7,v2_7,v4_7,s7,e7,b7,op_makeFunc1,op_makeFunc2]<;>rfl)|trivial) (k:=159) (cs:=#[]) (ds:=#[.pointer (some ⟨S5.next,0,none⟩)]) (by simp (disch:=first|omega|assumption) only [E0_G,SY,setArgs,off,agreeKind,partVals,vals,allocV,boxed,ldA,rdCells,oneB,aggD,aField,aFieldV,aExtract,eq_self,ne_eq,if_true,if_false,not_false_eq_true,Nat.reduceAdd,Nat.reduceSub,Nat.reduceMul,Nat.reduceLT,Nat.reduceEqDiff,Nat.reduceBEq,reduceIte,Int.reduceEq,Int.reduceLT,Int.reduceLE,reduceCtorEq,s1,e1,b1,v1_2,s2,e2,b2,y3,v1_4,v2_4,s4,e4,b4,v1_5,v2_5,k5,b5,v1_7,v2_7,v4_7,s7,e7,b7,op_makeFunc1,op_makeFunc2]) ⟨_,rfl⟩ (fun a S'=>rfl) (fun xq S'=>xq=.normal∧S'.heap.get S7.next=some (.dfd true)∧S'.heap.get S.next=some (.cells [.int .i64 rn.start,.int .i64 rn.micro,v_rn_legs] 94 0 true true)∧S'.heap.get S1.next=some (.cells [.int .i64 0,.int .i64 0] 165 0 true true)∧S'.heap.get S2.next=some (.cells [.int .i64 ((R116_159_0 rn rn.legs 0 rn.start rn.micro rn.start rn.micro).1),.int .i64 ((R116_159_0 rn rn.legs 0 rn.start rn.micro rn.start rn.micro).2)] 165 0 true true)∧S'.heap.get S5.next=some (.cells [.int .i64 rn.start,.int .i64 rn.micro,v_rn_legs] 94 0 true true)∧Agree S S'∧S7.next≤S'.next) (by
   rintro t8 gt8_3 L8 S8a S8b y8 n8a b8a a8a n8b b8b a8b yq8 hb8 zc8 hc8
   have v1_8a:=(a8a.2 S.next (by omega)).trans v1_7
   have v2_8a:=(a8a.2 S1.next (by omega)).trans v2_7
   have v4_8a:=(a8a.2 S2.next (by omega)).trans v4_7
   have v7_8a:=(a8a.2 S5.next (by omega)).trans b7
   have g8a:Agree S S8a:=g7.trans a8a
   have v1_8b:=(a8b.2 S.next (by omega)).trans v1_8a
   have v2_8b:=(a8b.2 S1.next (by omega)).trans v2_8a
   have v4_8b:=(a8b.2 S2.next (by omega)).trans v4_8a
   have v7_8b:=(a8b.2 S5.next (by omega)).trans v7_8a
   have vd8_8b:=(a8b.2 S7.next (by omega)).trans b8a
   have g8b:Agree S S8b:=g8a.trans a8b
   have yl8:S.next≤y8:=by have:=(g8b).1; omega
   rw [L_call,evCall_said rfl Tryz.func159 rfl (by decide) Tryz.ntmps159 Tryz.results159] at hc8
   have y38:aBuild Tryz.prog 165 [(0,.int .i64 rn.start),(1,.int .i64 rn.micro)]=some (.agg #[.int .i64 rn.start,.int .i64 rn.micro]):=by kernel_rfl
   obtain ⟨S39,e39,n39,b39,a39⟩:=push_open S8b (.cells [.int .i64 0,.int .i64 0] 165 0 true true)
   have v1_39:=(a39.2 S.next (by omega)).trans v1_8b
   have v2_39:=(a39.2 S1.next (by omega)).trans v2_8b
   have v4_39:=(a39.2 S2.next (by omega)).trans v4_8b
   have v7_39:=(a39.2 S5.next (by omega)).trans v7_8b
   have vd8_39:=(a39.2 S7.next (by omega)).trans vd8_8b
   have vl8_39:=(a39.2 y8 (by omega)).trans b8b
   have g39:Agree S S39:=g8b.trans a39
   have s39:E0.same S8b S39=true:=symEnv_same a39
   obtain ⟨S40,k40,n40,b40,q40⟩:=st_at (o:=0) (c':=[.int .i64 rn.start,.int .i64 rn.micro]) (v:=.agg #[.int .i64 rn.start,.int .i64 rn.micro]) tz165 b39 rfl rfl (show 0+2≤2 by decide) rfl
   have v1_40:=(q40 S.next (by omega)).trans v1_39
   have v2_40:=(q40 S1.next (by omega)).trans v2_39
   have v4_40:=(q40 S2.next (by omega)).trans v4_39
   have v7_40:=(q40 S5.next (by omega)).trans v7_39
   have vd8_40:=(q40 S7.next (by omega)).trans vd8_39
   have vl8_40:=(q40 y8 (by omega)).trans vl8_39
   have g40:Agree S S40:=⟨by have:=(g39).1; omega,fun id hid=>(q40 id (by have:=(g39).1; omega)).trans ((g39).2 id hid)⟩
   have w41:=(hv_rn_legs.agree g40).len (P:=Tryz.prog) (t:=92) Tryz.underlying92
   try simp (disch:=first|omega|assumption) only [E0_G,SY,setArgs,off,agreeKind,partVals,vals,allocV,boxed,ldA,rdCells,oneB,aggD,aField,aFieldV,aExtract,eq_self,ne_eq,if_true,if_false,not_false_eq_true,Nat.reduceAdd,Nat.reduceSub,Nat.reduceMul,Nat.reduceLT,Nat.reduceEqDiff,Nat.reduceBEq,reduceIte,Int.reduceEq,Int.reduceLT,Int.reduceLE,reduceCtorEq,TY_EvW2,s1,e1,b1,v1_2,s2,e2,b2,y3,v1_4,v2_4,s4,e4,b4,v1_5,v2_5,k5,b5,v1_7,v2_7,v4_7,s7,e7,b7,op_makeFunc1,op_makeFunc2,v1_8a,v2_8a,v4_8a,v7_8a,b8a,v1_8b,v2_8b,v4_8b,v7_8b,vd8_8b,b8b,y38,v1_39,v2_39,v4_39,v7_39,vd8_39,vl8_39,s39,e39,b39,v1_40,v2_40,v4_40,v7_40,vd8_40,vl8_40,k40,b40,w41] at hc8
   generalize hL42:Rec.loop _ _ _ _=L42 at hc8
   obtain ⟨x42,t42,S42e,rfl,hQ42⟩:=loop_met hL42 (fun m t S'=>∃ (k:Nat) (mt:Int) (mm:Int) (lt:Int) (lm:Int),m+k=rn.legs.length∧k≤rn.legs.length∧t.get 0=some (.func (.yield y8) #[] #[])∧t.get 3=some (.pointer (some ⟨S8b.next,0,none⟩))∧t.get 12=some (v_rn_legs)∧t.get 13=some (.int .i64 (rn.legs.length:Int))∧t.get 14=some (.int .i64 (k:Int))∧S'.heap.get S8b.next=some (.cells [.int .i64 mt,.int .i64 mm] 165 0 true true)∧S'.heap.get S.next=some (.cells [.int .i64 rn.start,.int .i64 rn.micro,v_rn_legs] 94 0 true true)∧S'.heap.get S1.next=some (.cells [.int .i64 0,.int .i64 0] 165 0 true true)∧S'.heap.get S2.next=some (.cells [.int .i64 lt,.int .i64 lm] 165 0 true true)∧S'.heap.get S5.next=some (.cells [.int .i64 rn.start,.int .i64 rn.micro,v_rn_legs] 94 0 true true)∧S'.heap.get y8=some (.loop L8)∧S'.heap.get S7.next=some (.dfd true)∧Agree S S'∧S40.next≤S'.next∧R116_159_0 rn (rn.legs.drop k) k mt mm lt lm=R116_159_0 rn rn.legs 0 rn.start rn.micro rn.start rn.micro)
    (fun x t S'=>x=.exit 0∧∃ (k:Nat) (mt:Int) (mm:Int) (lt:Int) (lm:Int),S'.heap.get S8b.next=some (.cells [.int .i64 mt,.int .i64 mm] 165 0 true true)∧S'.heap.get S.next=some (.cells [.int .i64 rn.start,.int .i64 rn.micro,v_rn_legs] 94 0 true true)∧S'.heap.get S1.next=some (.cells [.int .i64 0,.int .i64 0] 165 0 true true)∧S'.heap.get S2.next=some (.cells [.int .i64 lt,.int .i64 lm] 165 0 true true)∧S'.heap.get S5.next=some (.cells [.int .i64 rn.start,.int .i64 rn.micro,v_rn_legs] 94 0 true true)∧S'.heap.get y8=some (.loop L8)∧S'.heap.get S7.next=some (.dfd true)∧Agree S S'∧S40.next≤S'.next∧k≤rn.legs.length∧R116_159_0 rn rn.legs 0 rn.start rn.micro rn.start rn.micro=(lt,lm)) (rn.legs.length - 0) (by refine ⟨0,rn.start,rn.micro,rn.start,rn.micro,?_,?_,?_,?_,?_,?_,?_,b40,v1_40,v2_40,v4_40,v7_40,vl8_40,vd8_40,g40,Nat.le_refl _,rfl⟩<;>first|(simp only [SY,setArgs,off,agreeKind,partVals,vals,allocV,boxed,ldA,rdCells,oneB,aggD,aField,aFieldV,aExtract,eq_self,ne_eq,if_true,if_false,not_false_eq_true,Nat.reduceAdd,Nat.reduceSub,Nat.reduceMul,Nat.reduceLT,Nat.reduceEqDiff,Nat.reduceBEq,reduceIte,Int.reduceEq,Int.reduceLT,Int.reduceLE,reduceCtorEq]<;>rfl)|omega|assumption|(simp; omega)|simp) (by
     rintro m t S42 ⟨k,mt,mm,lt,lm,hi42_0,hi42_1,g42_0,g42_3,g42_12,g42_13,g42_14,bb42_39,bb42_1,bb42_2,bb42_4,bb42_7,bb42_l8,bb42_d8,ga42,gn42,hd42⟩
     refine .run fun z he=>?_
     try simp (disch:=first|omega|assumption) only [E0_G,SY,setArgs,off,agreeKind,partVals,vals,allocV,boxed,ldA,rdCells,oneB,aggD,aField,aFieldV,aExtract,eq_self,ne_eq,if_true,if_false,not_false_eq_true,Nat.reduceAdd,Nat.reduceSub,Nat.reduceMul,Nat.reduceLT,Nat.reduceEqDiff,Nat.reduceBEq,reduceIte,Int.reduceEq,Int.reduceLT,Int.reduceLE,reduceCtorEq,TY_EvW2,g42_0,g42_3,g42_12,g42_13,g42_14,bb42_39,bb42_1,bb42_2,bb42_4,bb42_7,bb42_l8,bb42_d8,w41] at he
     rcases dP ((k:Int)<(rn.legs.length:Int)) with ⟨h43a,h43⟩|⟨h43a,h43⟩
     ·skip
      have hx42:rn.legs[k]?=some (rn.legs[k]'(by first|omega|simp; omega)):=List.getElem?_eq_getElem _
      generalize rn.legs[k]'_=x42 at hx42
      obtain ⟨id44,of44,cc44,ty44,wr44,ex44,i44,j44,l44,q44⟩:=(hv_rn_legs).at (P:=Tryz.prog) (t:=92) Tryz.underlying92 tz104 hx42
      have jr44:=j44
      have j44:=(ga42.2 id44 l44).trans jr44
      have m44_0:cc44[of44]?=some (.int .i64 x42.secs):=q44 0 (show 0<2 by decide)
      have m44_1:cc44[of44+1]?=some (.int .i64 x42.rate):=q44 1 (show 1<2 by decide)
      obtain ⟨S45,e45,n45,b45,a45⟩:=push_open S42 (.cells [.int .i64 0,.int .i64 0] 104 0 true true)
      have v39_45:=(a45.2 S8b.next (by omega)).trans bb42_39
      have v1_45:=(a45.2 S.next (by omega)).trans bb42_1
      have v2_45:=(a45.2 S1.next (by omega)).trans bb42_2
      have v4_45:=(a45.2 S2.next (by omega)).trans bb42_4
      have v7_45:=(a45.2 S5.next (by omega)).trans bb42_7
      have vl8_45:=(a45.2 y8 (by omega)).trans bb42_l8
      have vd8_45:=(a45.2 S7.next (by omega)).trans bb42_d8
      have v44_45:=(a45.2 id44 (by omega)).trans j44
      have g45:Agree S S45:=ga42.trans a45
      have s45:E0.same S42 S45=true:=symEnv_same a45
      obtain ⟨S46,k46,n46,b46,q46⟩:=st_at (o:=0) (c':=[.int .i64 x42.secs,.int .i64 x42.rate]) (v:=.agg #[.int .i64 x42.secs,.int .i64 x42.rate]) tz104 b45 rfl rfl (show 0+2≤2 by decide) rfl
      have v39_46:=(q46 S8b.next (by omega)).trans v39_45
      have v1_46:=(q46 S.next (by omega)).trans v1_45
      have v2_46:=(q46 S1.next (by omega)).trans v2_45
      have v4_46:=(q46 S2.next (by omega)).trans v4_45
      have v7_46:=(q46 S5.next (by omega)).trans v7_45
      have vl8_46:=(q46 y8 (by omega)).trans vl8_45
      have vd8_46:=(q46 S7.next (by omega)).trans vd8_45
      have v44_46:=(q46 id44 (by omega)).trans v44_45
      have g46:Agree S S46:=⟨by have:=(g45).1; omega,fun id hid=>(q46 id (by have:=(g45).1; omega)).trans ((g45).2 id hid)⟩
      try simp (disch:=first|omega|assumption) only [E0_G,SY,setArgs,off,agreeKind,partVals,vals,allocV,boxed,ldA,rdCells,oneB,aggD,aField,aFieldV,aExtract,eq_self,ne_eq,if_true,if_false,not_false_eq_true,Nat.reduceAdd,Nat.reduceSub,Nat.reduceMul,Nat.reduceLT,Nat.reduceEqDiff,Nat.reduceBEq,reduceIte,Int.reduceEq,Int.reduceLT,Int.reduceLE,reduceCtorEq,TY_EvW2,g42_0,g42_3,g42_12,g42_13,g42_14,bb42_39,bb42_1,bb42_2,bb42_4,bb42_7,bb42_l8,bb42_d8,w41,h43a,i44,j44,m44_0,m44_1,v39_45,v1_45,v2_45,v4_45,v7_45,vl8_45,vd8_45,v44_45,s45,e45,b45,v39_46,v1_46,v2_46,v4_46,v7_46,vl8_46,vd8_46,v44_46,k46,b46] at he
      obtain ⟨S47,k47,bq47,bm47_39,bm47_1,bm47_2,bm47_4,bm47_7,bm47_d8,bm47_45,gm47,gl47⟩:=round_in (P:=Tryz.prog) (E:=E0) (bs:=[.agg #[.int .i64 mt,.int .i64 mm],.agg #[.int .i64 x42.secs,.int .i64 x42.rate]]) hb8 rfl vl8_46 (Q:=fun S'=>S'.heap.get y8=some (.loop L8)∧S'.heap.get S8b.next=some (.cells [.int .i64 mt,.int .i64 mm] 165 0 true true)∧S'.heap.get S.next=some (.cells [.int .i64 rn.start,.int .i64 rn.micro,v_rn_legs] 94 0 true true)∧S'.heap.get S1.next=some (.cells [.int .i64 0,.int .i64 0] 165 0 true true)∧S'.heap.get S2.next=some (.cells [.int .i64 (((r118 mt mm x42.secs x42.rate)).1),.int .i64 (((r118 mt mm x42.secs x42.rate)).2)] 165 0 true true)∧S'.heap.get S5.next=some (.cells [.int .i64 rn.start,.int .i64 rn.micro,v_rn_legs] 94 0 true true)∧S'.heap.get S7.next=some (.dfd true)∧S'.heap.get S42.next=some (.cells [.int .i64 x42.secs,.int .i64 x42.rate] 104 0 true true)∧Agree S S'∧S46.next≤S'.next) (by
        intro zA47 hA47
        obtain ⟨S55,e55,n55,b55,a55⟩:=push_open S46 (.cells [.int .i64 0,.int .i64 0] 165 0 true true)
        have v39_55:=(a55.2 S8b.next (by omega)).trans v39_46
        have v1_55:=(a55.2 S.next (by omega)).trans v1_46
        have v2_55:=(a55.2 S1.next (by omega)).trans v2_46
        have v4_55:=(a55.2 S2.next (by omega)).trans v4_46
        have v7_55:=(a55.2 S5.next (by omega)).trans v7_46
        have vl8_55:=(a55.2 y8 (by omega)).trans vl8_46
        have vd8_55:=(a55.2 S7.next (by omega)).trans vd8_46
        have v44_55:=(a55.2 id44 (by omega)).trans v44_46
        have v45_55:=(a55.2 S42.next (by omega)).trans b46
        have g55:Agree S S55:=g46.trans a55
        have s55:E0.same S46 S55=true:=symEnv_same a55
        obtain ⟨S56,k56,n56,b56,q56⟩:=st_at (o:=0) (c':=[.int .i64 mt,.int .i64 mm]) (v:=.agg #[.int .i64 mt,.int .i64 mm]) tz165 b55 rfl rfl (show 0+2≤2 by decide) rfl
        have v39_56:=(q56 S8b.next (by omega)).trans v39_55
        have v1_56:=(q56 S.next (by omega)).trans v1_55
        have v2_56:=(q56 S1.next (by omega)).trans v2_55
        have v4_56:=(q56 S2.next (by omega)).trans v4_55
        have v7_56:=(q56 S5.next (by omega)).trans v7_55
        have vl8_56:=(q56 y8 (by omega)).trans vl8_55
        have vd8_56:=(q56 S7.next (by omega)).trans vd8_55
        have v44_56:=(q56 id44 (by omega)).trans v44_55
        have v45_56:=(q56 S42.next (by omega)).trans v45_55
        have g56:Agree S S56:=⟨by have:=(g55).1; omega,fun id hid=>(q56 id (by have:=(g55).1; omega)).trans ((g55).2 id hid)⟩
        obtain ⟨S57,e57,n57,b57,a57⟩:=push_open S56 (.cells [.int .i64 0,.int .i64 0] 104 0 true true)
        have v39_57:=(a57.2 S8b.next (by omega)).trans v39_56
        have v1_57:=(a57.2 S.next (by omega)).trans v1_56
        have v2_57:=(a57.2 S1.next (by omega)).trans v2_56
        have v4_57:=(a57.2 S2.next (by omega)).trans v4_56
        have v7_57:=(a57.2 S5.next (by omega)).trans v7_56
        have vl8_57:=(a57.2 y8 (by omega)).trans vl8_56
        have vd8_57:=(a57.2 S7.next (by omega)).trans vd8_56
        have v44_57:=(a57.2 id44 (by omega)).trans v44_56
        have v45_57:=(a57.2 S42.next (by omega)).trans v45_56
        have v55_57:=(a57.2 S46.next (by omega)).trans b56
        have g57:Agree S S57:=g56.trans a57
        have s57:E0.same S56 S57=true:=symEnv_same a57
        obtain ⟨S58,k58,n58,b58,q58⟩:=st_at (o:=0) (c':=[.int .i64 x42.secs,.int .i64 x42.rate]) (v:=.agg #[.int .i64 x42.secs,.int .i64 x42.rate]) tz104 b57 rfl rfl (show 0+2≤2 by decide) rfl
        have v39_58:=(q58 S8b.next (by omega)).trans v39_57
        have v1_58:=(q58 S.next (by omega)).trans v1_57
        have v2_58:=(q58 S1.next (by omega)).trans v2_57
        have v4_58:=(q58 S2.next (by omega)).trans v4_57
        have v7_58:=(q58 S5.next (by omega)).trans v7_57
        have vl8_58:=(q58 y8 (by omega)).trans vl8_57
        have vd8_58:=(q58 S7.next (by omega)).trans vd8_57
        have v44_58:=(q58 id44 (by omega)).trans v44_57
        have v45_58:=(q58 S42.next (by omega)).trans v45_57
        have v55_58:=(q58 S46.next (by omega)).trans v55_57
        have g58:Agree S S58:=⟨by have:=(g57).1; omega,fun id hid=>(q58 id (by have:=(g57).1; omega)).trans ((g57).2 id hid)⟩
        try simp (disch:=first|omega|assumption) only [E0_G,SY,setArgs,off,agreeKind,partVals,vals,allocV,boxed,ldA,rdCells,oneB,aggD,aField,aFieldV,aExtract,eq_self,ne_eq,if_true,if_false,not_false_eq_true,Nat.reduceAdd,Nat.reduceSub,Nat.reduceMul,Nat.reduceLT,Nat.reduceEqDiff,Nat.reduceBEq,reduceIte,Int.reduceEq,Int.reduceLT,Int.reduceLE,reduceCtorEq,TY_EvW2,bb42_39,bb42_1,bb42_2,bb42_4,bb42_7,bb42_l8,bb42_d8,w41,h43a,i44,j44,m44_0,m44_1,v39_45,v1_45,v2_45,v4_45,v7_45,vl8_45,vd8_45,v44_45,s45,e45,b45,v39_46,v1_46,v2_46,v4_46,v7_46,vl8_46,vd8_46,v44_46,k46,b46,gt8_3,setP_cons,setP_nil,List.zip_cons_cons,List.zip_nil_left,List.zip_nil_right,v39_55,v1_55,v2_55,v4_55,v7_55,vl8_55,vd8_55,v44_55,v45_55,s55,e55,b55,v39_56,v1_56,v2_56,v4_56,v7_56,vl8_56,vd8_56,v44_56,v45_56,k56,b56,v39_57,v1_57,v2_57,v4_57,v7_57,vl8_57,vd8_57,v44_57,v45_57,v55_57,s57,e57,b57,v39_58,v1_58,v2_58,v4_58,v7_58,vl8_58,vd8_58,v44_58,v45_58,v55_58,k58,b58] at hA47
        refine ⟨_,S58,hA47.symm,vl8_58,?_⟩
        intro S59 n59 b59 q59 zB47 hB47
        have v39_59:=(q59 S8b.next (by omega)).trans v39_58
        have v1_59:=(q59 S.next (by omega)).trans v1_58
        have v2_59:=(q59 S1.next (by omega)).trans v2_58
        have v4_59:=(q59 S2.next (by omega)).trans v4_58
        have v7_59:=(q59 S5.next (by omega)).trans v7_58
        have vd8_59:=(q59 S7.next (by omega)).trans vd8_58
        have v44_59:=(q59 id44 (by omega)).trans v44_58
        have v45_59:=(q59 S42.next (by omega)).trans v45_58
        have v55_59:=(q59 S46.next (by omega)).trans v55_58
        have v57_59:=(q59 S56.next (by omega)).trans b58
        have g59:Agree S S59:=⟨by have:=(g58).1; omega,fun id hid=>(q59 id (by have:=(g58).1; omega)).trans ((g58).2 id hid)⟩
        obtain ⟨S60,k60,a60⟩:=c118 mt mm x42.secs x42.rate  S59
        have l60:=a60.1
        have s60:E0.same S59 S60=true:=symEnv_same a60
        have v39_60:=(a60.2 S8b.next (by omega)).trans v39_59
        have v1_60:=(a60.2 S.next (by omega)).trans v1_59
        have v2_60:=(a60.2 S1.next (by omega)).trans v2_59
        have v4_60:=(a60.2 S2.next (by omega)).trans v4_59
        have v7_60:=(a60.2 S5.next (by omega)).trans v7_59
        have vl8_60:=(a60.2 y8 (by omega)).trans b59
        have vd8_60:=(a60.2 S7.next (by omega)).trans vd8_59
        have v44_60:=(a60.2 id44 (by omega)).trans v44_59
        have v45_60:=(a60.2 S42.next (by omega)).trans v45_59
        have v55_60:=(a60.2 S46.next (by omega)).trans v55_59
        have v57_60:=(a60.2 S56.next (by omega)).trans v57_59
        have g60:Agree S S60:=g59.trans a60
        obtain ⟨S61,k61,n61,b61,q61⟩:=st_at (o:=0) (c':=[.int .i64 (((r118 mt mm x42.secs x42.rate)).1),.int .i64 (((r118 mt mm x42.secs x42.rate)).2)]) (v:=.agg #[.int .i64 (((r118 mt mm x42.secs x42.rate)).1),.int .i64 (((r118 mt mm x42.secs x42.rate)).2)]) tz165 v4_60 rfl rfl (show 0+2≤2 by decide) rfl
        have v39_61:=(q61 S8b.next (by omega)).trans v39_60
        have v1_61:=(q61 S.next (by omega)).trans v1_60
        have v2_61:=(q61 S1.next (by omega)).trans v2_60
        have v7_61:=(q61 S5.next (by omega)).trans v7_60
        have vl8_61:=(q61 y8 (by omega)).trans vl8_60
        have vd8_61:=(q61 S7.next (by omega)).trans vd8_60
        have v44_61:=(q61 id44 (by omega)).trans v44_60
        have v45_61:=(q61 S42.next (by omega)).trans v45_60
        have v55_61:=(q61 S46.next (by omega)).trans v55_60
        have v57_61:=(q61 S56.next (by omega)).trans v57_60
        have g61:Agree S S61:=⟨by have:=(g60).1; omega,fun id hid=>(q61 id (by have:=(g60).1; omega)).trans ((g60).2 id hid)⟩
        try simp (disch:=first|omega|assumption) only [E0_G,SY,setArgs,off,agreeKind,partVals,vals,allocV,boxed,ldA,rdCells,oneB,aggD,aField,aFieldV,aExtract,eq_self,ne_eq,if_true,if_false,not_false_eq_true,Nat.reduceAdd,Nat.reduceSub,Nat.reduceMul,Nat.reduceLT,Nat.reduceEqDiff,Nat.reduceBEq,reduceIte,Int.reduceEq,Int.reduceLT,Int.reduceLE,reduceCtorEq,TY_EvW2,bb42_39,bb42_1,bb42_2,bb42_4,bb42_7,bb42_l8,bb42_d8,w41,h43a,i44,j44,m44_0,m44_1,v39_45,v1_45,v2_45,v4_45,v7_45,vl8_45,vd8_45,v44_45,s45,e45,b45,v39_46,v1_46,v2_46,v4_46,v7_46,vl8_46,vd8_46,v44_46,k46,b46,gt8_3,setP_cons,setP_nil,List.zip_cons_cons,List.zip_nil_left,List.zip_nil_right,v39_55,v1_55,v2_55,v4_55,v7_55,vl8_55,vd8_55,v44_55,v45_55,s55,e55,b55,v39_56,v1_56,v2_56,v4_56,v7_56,vl8_56,vd8_56,v44_56,v45_56,k56,b56,v39_57,v1_57,v2_57,v4_57,v7_57,vl8_57,vd8_57,v44_57,v45_57,v55_57,s57,e57,b57,v39_58,v1_58,v2_58,v4_58,v7_58,vl8_58,vd8_58,v44_58,v45_58,v55_58,k58,b58,v39_59,v1_59,v2_59,v4_59,v7_59,vd8_59,v44_59,v45_59,v55_59,v57_59,b59,k60,s60,v39_60,v1_60,v2_60,v4_60,v7_60,vl8_60,vd8_60,v44_60,v45_60,v55_60,v57_60,v39_61,v1_61,v2_61,v7_61,vl8_61,vd8_61,v44_61,v45_61,v55_61,v57_61,k61,b61] at hB47
        refine ⟨_,_,S61,hB47.symm,vl8_61,?_⟩
        intro S62 n62 b62 q62
        have v39_62:=(q62 S8b.next (by omega)).trans v39_61
        have v1_62:=(q62 S.next (by omega)).trans v1_61
        have v2_62:=(q62 S1.next (by omega)).trans v2_61
        have v4_62:=(q62 S2.next (by omega)).trans b61
        have v7_62:=(q62 S5.next (by omega)).trans v7_61
        have vd8_62:=(q62 S7.next (by omega)).trans vd8_61
        have v44_62:=(q62 id44 (by omega)).trans v44_61
        have v45_62:=(q62 S42.next (by omega)).trans v45_61
        have v55_62:=(q62 S46.next (by omega)).trans v55_61
        have v57_62:=(q62 S56.next (by omega)).trans v57_61
        have g62:Agree S S62:=⟨by have:=(g61).1; omega,fun id hid=>(q62 id (by have:=(g61).1; omega)).trans ((g61).2 id hid)⟩
        exact ⟨b62,v39_62,v1_62,v2_62,v4_62,v7_62,vd8_62,v45_62,g62,by omega⟩)
      replace k47:(evL Tryz.prog E0).round y8 #[.agg #[.int .i64 mt,.int .i64 mm],.agg #[.int .i64 x42.secs,.int .i64 x42.rate]] S46=some (.bool true,S47):=k47
      have bm47_44:=(gm47.2 id44 l44).trans jr44
      obtain ⟨S63,k63,a63⟩:=c118 mt mm x42.secs x42.rate  S47
      have l63:=a63.1
      have s63:E0.same S47 S63=true:=symEnv_same a63
      have v39_63:=(a63.2 S8b.next (by omega)).trans bm47_39
      have v1_63:=(a63.2 S.next (by omega)).trans bm47_1
      have v2_63:=(a63.2 S1.next (by omega)).trans bm47_2
      have v4_63:=(a63.2 S2.next (by omega)).trans bm47_4
      have v7_63:=(a63.2 S5.next (by omega)).trans bm47_7
      have vd8_63:=(a63.2 S7.next (by omega)).trans bm47_d8
      have v44_63:=(a63.2 id44 (by omega)).trans bm47_44
      have v45_63:=(a63.2 S42.next (by omega)).trans bm47_45
      have vl8_63:=(a63.2 y8 (by omega)).trans bq47
      have g63:Agree S S63:=gm47.trans a63
      obtain ⟨S64,k64,n64,b64,q64⟩:=st_at (o:=0) (c':=[.int .i64 (((r118 mt mm x42.secs x42.rate)).1),.int .i64 (((r118 mt mm x42.secs x42.rate)).2)]) (v:=.agg #[.int .i64 (((r118 mt mm x42.secs x42.rate)).1),.int .i64 (((r118 mt mm x42.secs x42.rate)).2)]) tz165 v39_63 rfl rfl (show 0+2≤2 by decide) rfl
      have v1_64:=(q64 S.next (by omega)).trans v1_63
      have v2_64:=(q64 S1.next (by omega)).trans v2_63
      have v4_64:=(q64 S2.next (by omega)).trans v4_63
      have v7_64:=(q64 S5.next (by omega)).trans v7_63
      have vd8_64:=(q64 S7.next (by omega)).trans vd8_63
      have v44_64:=(q64 id44 (by omega)).trans v44_63
      have v45_64:=(q64 S42.next (by omega)).trans v45_63
      have vl8_64:=(q64 y8 (by omega)).trans vl8_63
      have g64:Agree S S64:=⟨by have:=(g63).1; omega,fun id hid=>(q64 id (by have:=(g63).1; omega)).trans ((g63).2 id hid)⟩
      have w65:IntKind.i64.wrap ((k:Int)+1)=((k+1:Nat):Int):=by rw [IntWalk.i64_in]<;>omega
      try simp (disch:=first|omega|assumption) only [E0_G,SY,setArgs,off,agreeKind,partVals,vals,allocV,boxed,ldA,rdCells,oneB,aggD,aField,aFieldV,aExtract,eq_self,ne_eq,if_true,if_false,not_false_eq_true,Nat.reduceAdd,Nat.reduceSub,Nat.reduceMul,Nat.reduceLT,Nat.reduceEqDiff,Nat.reduceBEq,reduceIte,Int.reduceEq,Int.reduceLT,Int.reduceLE,reduceCtorEq,TY_EvW2,g42_0,g42_3,g42_12,g42_13,g42_14,bb42_39,bb42_1,bb42_2,bb42_4,bb42_7,bb42_l8,bb42_d8,w41,h43a,i44,j44,m44_0,m44_1,v39_45,v1_45,v2_45,v4_45,v7_45,vl8_45,vd8_45,v44_45,s45,e45,b45,v39_46,v1_46,v2_46,v4_46,v7_46,vl8_46,vd8_46,v44_46,k46,b46,bm47_39,bm47_1,bm47_2,bm47_4,bm47_7,bm47_d8,bm47_44,bm47_45,bq47,k47,calledV_yield,firstOf_none,op_round,roundV_some,k63,s63,v39_63,v1_63,v2_63,v4_63,v7_63,vd8_63,v44_63,v45_63,vl8_63,v1_64,v2_64,v4_64,v7_64,vd8_64,v44_64,v45_64,vl8_64,k64,b64,w65] at he
      rw [drop_cons' hx42] at hd42
      have hf:=(show _=(R116_159_0 rn (rn.legs.drop (k+1)) (k+1) (((r118 mt mm x42.secs x42.rate)).1) (((r118 mt mm x42.secs x42.rate)).2) (((r118 mt mm x42.secs x42.rate)).1) (((r118 mt mm x42.secs x42.rate)).2):Int × Int) from rfl).symm.trans hd42
      refine .next he (m - 1) (by omega) ⟨(k+1),((r118 mt mm x42.secs x42.rate)).1,((r118 mt mm x42.secs x42.rate)).2,((r118 mt mm x42.secs x42.rate)).1,((r118 mt mm x42.secs x42.rate)).2,?_,?_,?_,?_,?_,?_,?_,b64,v1_64,v2_64,v4_64,v7_64,vl8_64,vd8_64,g64,by omega,hf⟩<;>first|(simp only [SY,setArgs,off,agreeKind,partVals,vals,allocV,boxed,ldA,rdCells,oneB,aggD,aField,aFieldV,aExtract,eq_self,ne_eq,if_true,if_false,not_false_eq_true,Nat.reduceAdd,Nat.reduceSub,Nat.reduceMul,Nat.reduceLT,Nat.reduceEqDiff,Nat.reduceBEq,reduceIte,Int.reduceEq,Int.reduceLT,Int.reduceLE,reduceCtorEq,g42_0,g42_3,g42_12,g42_13,g42_14]<;>rfl)|omega|assumption|(simp; omega)|simp
     ·skip
      try simp (disch:=first|omega|assumption) only [E0_G,SY,setArgs,off,agreeKind,partVals,vals,allocV,boxed,ldA,rdCells,oneB,aggD,aField,aFieldV,aExtract,eq_self,ne_eq,if_true,if_false,not_false_eq_true,Nat.reduceAdd,Nat.reduceSub,Nat.reduceMul,Nat.reduceLT,Nat.reduceEqDiff,Nat.reduceBEq,reduceIte,Int.reduceEq,Int.reduceLT,Int.reduceLE,reduceCtorEq,TY_EvW2,g42_0,g42_3,g42_12,g42_13,g42_14,bb42_39,bb42_1,bb42_2,bb42_4,bb42_7,bb42_l8,bb42_d8,w41,h43a] at he
      rw [List.drop_eq_nil_of_le (show rn.legs.length≤k by omega)] at hd42
      have hf:=(show _=((lt,lm):Int × Int) from rfl).symm.trans hd42
      refine .exit he ⟨rfl,⟨k,mt,mm,lt,lm,bb42_39,bb42_1,bb42_2,bb42_4,bb42_7,bb42_l8,bb42_d8,ga42,by omega,?_,hf.symm⟩⟩<;>first|(simp only [SY,setArgs,off,agreeKind,partVals,vals,allocV,boxed,ldA,rdCells,oneB,aggD,aField,aFieldV,aExtract,eq_self,ne_eq,if_true,if_false,not_false_eq_true,Nat.reduceAdd,Nat.reduceSub,Nat.reduceMul,Nat.reduceLT,Nat.reduceEqDiff,Nat.reduceBEq,reduceIte,Int.reduceEq,Int.reduceLT,Int.reduceLE,reduceCtorEq,g42_0,g42_3,g42_12,g42_13,g42_14]<;>rfl)|omega|assumption|(simp; omega)|simp)
   obtain ⟨rfl,k,mt,mm,lt,lm,be42_39,be42_1,be42_2,be42_4,be42_7,be42_l8,be42_d8,ge42,gm42,hj42_0,hR42⟩:=hQ42
   obtain rfl:lt=(R116_159_0 rn rn.legs 0 rn.start rn.micro rn.start rn.micro).1:=by rw [hR42]
   obtain rfl:lm=(R116_159_0 rn rn.legs 0 rn.start rn.micro rn.start rn.micro).2:=by rw [hR42]
   try simp (disch:=first|omega|assumption) only [E0_G,SY,setArgs,off,agreeKind,partVals,vals,allocV,boxed,ldA,rdCells,oneB,aggD,aField,aFieldV,aExtract,eq_self,ne_eq,if_true,if_false,not_false_eq_true,Nat.reduceAdd,Nat.reduceSub,Nat.reduceMul,Nat.reduceLT,Nat.reduceEqDiff,Nat.reduceBEq,reduceIte,Int.reduceEq,Int.reduceLT,Int.reduceLE,reduceCtorEq,TY_EvW2,w41,be42_39,be42_1,be42_2,be42_4,be42_7,be42_l8,be42_d8] at hc8
   refine ⟨_,S42e,_,.normal,hc8.symm,be42_l8,hb8.ready.1,hb8.ready.2,fun S67 n67 q67=>?_⟩
   have v39_67:=(q67 S8b.next (by omega)).trans be42_39
   have v1_67:=(q67 S.next (by omega)).trans be42_1
   have v2_67:=(q67 S1.next (by omega)).trans be42_2
   have v4_67:=(q67 S2.next (by omega)).trans be42_4
   have v7_67:=(q67 S5.next (by omega)).trans be42_7
   have vd8_67:=(q67 S7.next (by omega)).trans be42_d8
   have g67:Agree S S67:=⟨by have:=(ge42).1; omega,fun id hid=>(q67 id (by have:=(ge42).1; omega)).trans ((ge42).2 id hid)⟩
   exact ⟨rfl,vd8_67,v1_67,v2_67,v4_67,v7_67,g67,by omega⟩)
 obtain ⟨rfl,bd8,bm8_1,bm8_2,bm8_4,bm8_7,gm8,gl8⟩:=hQ8
 obtain ⟨S68,k68,n68,b68,q68⟩:=st_at (o:=0) (c':=[.int .i64 ((R116_159_0 rn rn.legs 0 rn.start rn.micro rn.start rn.micro).1),.int .i64 ((R116_159_0 rn rn.legs 0 rn.start rn.micro rn.start rn.micro).2)]) (v:=.agg #[.int .i64 ((R116_159_0 rn rn.legs 0 rn.start rn.micro rn.start rn.micro).1),.int .i64 ((R116_159_0 rn rn.legs 0 rn.start rn.micro rn.start rn.micro).2)]) tz165 bm8_2 rfl rfl (show 0+2≤2 by decide) rfl
 have v1_68:=(q68 S.next (by omega)).trans bm8_1
 have v4_68:=(q68 S2.next (by omega)).trans bm8_4
 have v7_68:=(q68 S5.next (by omega)).trans bm8_7
 have vd8_68:=(q68 S7.next (by omega)).trans bd8
 have g68:Agree S S68:=⟨by have:=(gm8).1; omega,fun id hid=>(q68 id (by have:=(gm8).1; omega)).trans ((gm8).2 id hid)⟩
 try simp (disch:=first|omega|assumption) only [E0_G,SY,setArgs,off,agreeKind,partVals,vals,allocV,boxed,ldA,rdCells,oneB,aggD,aField,aFieldV,aExtract,eq_self,ne_eq,if_true,if_false,not_false_eq_true,Nat.reduceAdd,Nat.reduceSub,Nat.reduceMul,Nat.reduceLT,Nat.reduceEqDiff,Nat.reduceBEq,reduceIte,Int.reduceEq,Int.reduceLT,Int.reduceLE,reduceCtorEq,TY_EvW2,s1,e1,b1,v1_2,s2,e2,b2,y3,v1_4,v2_4,s4,e4,b4,v1_5,v2_5,k5,b5,v1_7,v2_7,v4_7,s7,e7,b7,op_makeFunc1,op_makeFunc2,bm8_1,bm8_2,bm8_4,bm8_7,bd8,v1_68,v4_68,v7_68,vd8_68,k68,b68] at hz
 obtain ⟨S69,k69,n69,q69⟩:=take1 vd8_68
 have v1_69:=(q69 S.next (by omega)).trans v1_68
 have v2_69:=(q69 S1.next (by omega)).trans b68
 have v4_69:=(q69 S2.next (by omega)).trans v4_68
 have v7_69:=(q69 S5.next (by omega)).trans v7_68
 have g69:Agree S S69:=⟨by have:=(g68).1; omega,fun id hid=>(q69 id (by have:=(g68).1; omega)).trans ((g68).2 id hid)⟩
 first|rw [handed_take k69] at hz|rw [handed_take_n k69] at hz
 try simp (disch:=first|omega|assumption) only [E0_G,SY,setArgs,off,agreeKind,partVals,vals,allocV,boxed,ldA,rdCells,oneB,aggD,aField,aFieldV,aExtract,eq_self,ne_eq,if_true,if_false,not_false_eq_true,Nat.reduceAdd,Nat.reduceSub,Nat.reduceMul,Nat.reduceLT,Nat.reduceEqDiff,Nat.reduceBEq,reduceIte,Int.reduceEq,Int.reduceLT,Int.reduceLE,reduceCtorEq,TY_EvW2,s1,e1,b1,v1_2,s2,e2,b2,y3,v1_4,v2_4,s4,e4,b4,v1_5,v2_5,k5,b5,v1_7,v2_7,v4_7,s7,e7,b7,op_makeFunc1,op_makeFunc2,bm8_1,bm8_2,bm8_4,bm8_7,bd8,v1_68,v4_68,v7_68,vd8_68,k68,b68,v1_69,v2_69,v4_69,v7_69] at hz
 have hr:r116 rn=((R116_159_0 rn rn.legs 0 rn.start rn.micro rn.start rn.micro).1,(R116_159_0 rn rn.legs 0 rn.start rn.micro rn.start rn.micro).2):=rfl
 exact fin hz (by rw [hr]) g69
end Clock
end Go.Proofs
end
section
set_option linter.unusedSimpArgs false
set_option linter.unusedVariables false
namespace Go.Proofs
namespace Clock
open Go Go.RowKit Go.Aev
set_option maxRecDepth 100000
theorem TY_EvW3:type_of% (And.intro (And.intro (And.intro (And.intro (And.intro (And.intro Tryz.underlying3 (And.intro tz3 tt3)) (And.intro (And.intro t0_3 Tryz.underlying22) (And.intro tz22 tt22))) (And.intro (And.intro (And.intro t0_22 Tryz.underlying23) (And.intro tz23 tt23)) (And.intro (And.intro t0_23 Tryz.underlying24) (And.intro tz24 tt24)))) (And.intro (And.intro (And.intro (And.intro t0_24 Tryz.underlying25) (And.intro tz25 tt25)) (And.intro (And.intro t0_25 Tryz.underlying26) (And.intro tz26 tt26))) (And.intro (And.intro (And.intro t0_26 Tryz.underlying27) (And.intro tz27 tt27)) (And.intro (And.intro t0_27 Tryz.underlying28) (And.intro tz28 tt28))))) (And.intro (And.intro (And.intro (And.intro t0_28 (And.intro Tryz.underlying29 tz29)) (And.intro (And.intro tt29 t0_29) (And.intro Tryz.underlying30 tz30))) (And.intro (And.intro (And.intro tt30 t0_30) (And.intro Tryz.underlying31 tz31)) (And.intro (And.intro tt31 t0_31) (And.intro Tryz.underlying36 tz36)))) (And.intro (And.intro (And.intro (And.intro tt36 t0_36) (And.intro Tryz.underlying39 tz39)) (And.intro (And.intro tt39 t0_39) (And.intro Tryz.underlying54 tz54))) (And.intro (And.intro (And.intro tt54 t0_54) (And.intro Tryz.underlying92 tz92)) (And.intro (And.intro tt92 t0_92) (And.intro Tryz.underlying93 tz93)))))) (And.intro (And.intro (And.intro (And.intro (And.intro tt93 (And.intro t0_93 Tryz.underlying94)) (And.intro (And.intro tz94 tt94) (And.intro t0_94 Tryz.underlying103))) (And.intro (And.intro (And.intro tz103 tt103) (And.intro t0_103 Tryz.underlying104)) (And.intro (And.intro tz104 tt104) (And.intro t0_104 Tryz.underlying106)))) (And.intro (And.intro (And.intro (And.intro tz106 tt106) (And.intro t0_106 Tryz.underlying107)) (And.intro (And.intro tz107 tt107) (And.intro t0_107 Tryz.underlying111))) (And.intro (And.intro (And.intro tz111 tt111) (And.intro t0_111 Tryz.underlying112)) (And.intro (And.intro tz112 tt112) (And.intro t0_112 Tryz.underlying114))))) (And.intro (And.intro (And.intro (And.intro tz114 (And.intro tt114 t0_114)) (And.intro (And.intro Tryz.underlying115 tz115) (And.intro tt115 t0_115))) (And.intro (And.intro (And.intro Tryz.underlying116 tz116) (And.intro tt116 t0_116)) (And.intro (And.intro Tryz.underlying117 tz117) (And.intro tt117 t0_117)))) (And.intro (And.intro (And.intro (And.intro Tryz.underlying130 tz130) (And.intro tt130 t0_130)) (And.intro (And.intro Tryz.underlying131 tz131) (And.intro tt131 t0_131))) (And.intro (And.intro (And.intro Tryz.underlying164 tz164) (And.intro tt164 t0_164)) (And.intro (And.intro Tryz.underlying165 tz165) (And.intro tt165 t0_165))))))):=(And.intro (And.intro (And.intro (And.intro (And.intro (And.intro Tryz.underlying3 (And.intro tz3 tt3)) (And.intro (And.intro t0_3 Tryz.underlying22) (And.intro tz22 tt22))) (And.intro (And.intro (And.intro t0_22 Tryz.underlying23) (And.intro tz23 tt23)) (And.intro (And.intro t0_23 Tryz.underlying24) (And.intro tz24 tt24)))) (And.intro (And.intro (And.intro (And.intro t0_24 Tryz.underlying25) (And.intro tz25 tt25)) (And.intro (And.intro t0_25 Tryz.underlying26) (And.intro tz26 tt26))) (And.intro (And.intro (And.intro t0_26 Tryz.underlying27) (And.intro tz27 tt27)) (And.intro (And.intro t0_27 Tryz.underlying28) (And.intro tz28 tt28))))) (And.intro (And.intro (And.intro (And.intro t0_28 (And.intro Tryz.underlying29 tz29)) (And.intro (And.intro tt29 t0_29) (And.intro Tryz.underlying30 tz30))) (And.intro (And.intro (And.intro tt30 t0_30) (And.intro Tryz.underlying31 tz31)) (And.intro (And.intro tt31 t0_31) (And.intro Tryz.underlying36 tz36)))) (And.intro (And.intro (And.intro (And.intro tt36 t0_36) (And.intro Tryz.underlying39 tz39)) (And.intro (And.intro tt39 t0_39) (And.intro Tryz.underlying54 tz54))) (And.intro (And.intro (And.intro tt54 t0_54) (And.intro Tryz.underlying92 tz92)) (And.intro (And.intro tt92 t0_92) (And.intro Tryz.underlying93 tz93)))))) (And.intro (And.intro (And.intro (And.intro (And.intro tt93 (And.intro t0_93 Tryz.underlying94)) (And.intro (And.intro tz94 tt94) (And.intro t0_94 Tryz.underlying103))) (And.intro (And.intro (And.intro tz103 tt103) (And.intro t0_103 Tryz.underlying104)) (And.intro (And.intro tz104 tt104) (And.intro t0_104 Tryz.underlying106)))) (And.intro (And.intro (And.intro (And.intro tz106 tt106) (And.intro t0_106 Tryz.underlying107)) (And.intro (And.intro tz107 tt107) (And.intro t0_107 Tryz.underlying111))) (And.intro (And.intro (And.intro tz111 tt111) (And.intro t0_111 Tryz.underlying112)) (And.intro (And.intro tz112 tt112) (And.intro t0_112 Tryz.underlying114))))) (And.intro (And.intro (And.intro (And.intro tz114 (And.intro tt114 t0_114)) (And.intro (And.intro Tryz.underlying115 tz115) (And.intro tt115 t0_115))) (And.intro (And.intro (And.intro Tryz.underlying116 tz116) (And.intro tt116 t0_116)) (And.intro (And.intro Tryz.underlying117 tz117) (And.intro tt117 t0_117)))) (And.intro (And.intro (And.intro (And.intro Tryz.underlying130 tz130) (And.intro tt130 t0_130)) (And.intro (And.intro Tryz.underlying131 tz131) (And.intro tt131 t0_131))) (And.intro (And.intro (And.intro Tryz.underlying164 tz164) (And.intro tt164 t0_164)) (And.intro (And.intro Tryz.underlying165 tz165) (And.intro tt165 t0_165)))))))
def r123 (x:Lg):Bool:=(if 900000≤x.rate then (if 1≤x.secs then (if x.secs≤36000 then (if x.rate=0 then true else decide (x.rate≤1100000)) else false) else false) else (if 1≤x.secs then (if x.secs≤36000 then (if x.rate=0 then true else false) else false) else false))
set_option maxHeartbeats 2000000 in
theorem c123 (x:Lg)  (S:AS)  :
  ∃ S',(evL Tryz.prog E0).call 123 #[.agg #[.int .i64 x.secs,.int .i64 x.rate]] S=some (.bool (r123 x),S')∧Agree S S':=by
 generalize hz:(evL Tryz.prog E0).call 123 _ _=z
 rw [L_call,evCall_said rfl Tryz.func123 rfl (by decide) Tryz.ntmps123 Tryz.results123] at hz
 obtain ⟨S1,e1,n1,b1,a1⟩:=push_open S (.cells [.int .i64 x.secs,.int .i64 x.rate] 104 0 true true)
 have g1:Agree S S1:=a1
 have s1:E0.same S S1=true:=symEnv_same a1
 try simp (disch:=first|omega|assumption) only [E0_G,SY,setArgs,off,agreeKind,partVals,vals,allocV,boxed,ldA,rdCells,oneB,aggD,aField,aFieldV,aExtract,eq_self,ne_eq,if_true,if_false,not_false_eq_true,Nat.reduceAdd,Nat.reduceSub,Nat.reduceMul,Nat.reduceLT,Nat.reduceEqDiff,Nat.reduceBEq,reduceIte,Int.reduceEq,Int.reduceLT,Int.reduceLE,reduceCtorEq,TY_EvW3,s1,e1,b1] at hz
 rcases dP (900000≤x.rate) with ⟨h2a,h2⟩|⟨h2a,h2⟩
 ·skip
  try simp (disch:=first|omega|assumption) only [E0_G,SY,setArgs,off,agreeKind,partVals,vals,allocV,boxed,ldA,rdCells,oneB,aggD,aField,aFieldV,aExtract,eq_self,ne_eq,if_true,if_false,not_false_eq_true,Nat.reduceAdd,Nat.reduceSub,Nat.reduceMul,Nat.reduceLT,Nat.reduceEqDiff,Nat.reduceBEq,reduceIte,Int.reduceEq,Int.reduceLT,Int.reduceLE,reduceCtorEq,TY_EvW3,s1,e1,b1,h2a] at hz
  rcases dP (1≤x.secs) with ⟨h3a,h3⟩|⟨h3a,h3⟩
  ·skip
   try simp (disch:=first|omega|assumption) only [E0_G,SY,setArgs,off,agreeKind,partVals,vals,allocV,boxed,ldA,rdCells,oneB,aggD,aField,aFieldV,aExtract,eq_self,ne_eq,if_true,if_false,not_false_eq_true,Nat.reduceAdd,Nat.reduceSub,Nat.reduceMul,Nat.reduceLT,Nat.reduceEqDiff,Nat.reduceBEq,reduceIte,Int.reduceEq,Int.reduceLT,Int.reduceLE,reduceCtorEq,TY_EvW3,s1,e1,b1,h2a,h3a] at hz
   rcases dP (x.secs≤36000) with ⟨h4a,h4⟩|⟨h4a,h4⟩
   ·skip
    try simp (disch:=first|omega|assumption) only [E0_G,SY,setArgs,off,agreeKind,partVals,vals,allocV,boxed,ldA,rdCells,oneB,aggD,aField,aFieldV,aExtract,eq_self,ne_eq,if_true,if_false,not_false_eq_true,Nat.reduceAdd,Nat.reduceSub,Nat.reduceMul,Nat.reduceLT,Nat.reduceEqDiff,Nat.reduceBEq,reduceIte,Int.reduceEq,Int.reduceLT,Int.reduceLE,reduceCtorEq,TY_EvW3,s1,e1,b1,h2a,h3a,h4a] at hz
    rcases dP (x.rate=0) with ⟨h5a,h5⟩|⟨h5a,h5⟩
    ·skip
     try simp (disch:=first|omega|assumption) only [E0_G,SY,setArgs,off,agreeKind,partVals,vals,allocV,boxed,ldA,rdCells,oneB,aggD,aField,aFieldV,aExtract,eq_self,ne_eq,if_true,if_false,not_false_eq_true,Nat.reduceAdd,Nat.reduceSub,Nat.reduceMul,Nat.reduceLT,Nat.reduceEqDiff,Nat.reduceBEq,reduceIte,Int.reduceEq,Int.reduceLT,Int.reduceLE,reduceCtorEq,TY_EvW3,s1,e1,b1,h2a,h3a,h4a,h5a] at hz
     have hr:r123 x=true:=(if_pos h2).trans ((if_pos h3).trans ((if_pos h4).trans ((if_pos h5).trans (rfl))))
     exact fin hz (by rw [hr]) g1
    ·skip
     try simp (disch:=first|omega|assumption) only [E0_G,SY,setArgs,off,agreeKind,partVals,vals,allocV,boxed,ldA,rdCells,oneB,aggD,aField,aFieldV,aExtract,eq_self,ne_eq,if_true,if_false,not_false_eq_true,Nat.reduceAdd,Nat.reduceSub,Nat.reduceMul,Nat.reduceLT,Nat.reduceEqDiff,Nat.reduceBEq,reduceIte,Int.reduceEq,Int.reduceLT,Int.reduceLE,reduceCtorEq,TY_EvW3,s1,e1,b1,h2a,h3a,h4a,h5a] at hz
     have hr:r123 x=decide (x.rate≤1100000):=(if_pos h2).trans ((if_pos h3).trans ((if_pos h4).trans ((if_neg h5).trans (rfl))))
     exact fin hz (by rw [hr]) g1
   ·skip
    try simp (disch:=first|omega|assumption) only [E0_G,SY,setArgs,off,agreeKind,partVals,vals,allocV,boxed,ldA,rdCells,oneB,aggD,aField,aFieldV,aExtract,eq_self,ne_eq,if_true,if_false,not_false_eq_true,Nat.reduceAdd,Nat.reduceSub,Nat.reduceMul,Nat.reduceLT,Nat.reduceEqDiff,Nat.reduceBEq,reduceIte,Int.reduceEq,Int.reduceLT,Int.reduceLE,reduceCtorEq,TY_EvW3,s1,e1,b1,h2a,h3a,h4a] at hz
    have hr:r123 x=false:=(if_pos h2).trans ((if_pos h3).trans ((if_neg h4).trans (rfl)))
    exact fin hz (by rw [hr]) g1
  ·skip
   try simp (disch:=first|omega|assumption) only [E0_G,SY,setArgs,off,agreeKind,partVals,vals,allocV,boxed,ldA,rdCells,oneB,aggD,aField,aFieldV,aExtract,eq_self,ne_eq,if_true,if_false,not_false_eq_true,Nat.reduceAdd,Nat.reduceSub,Nat.reduceMul,Nat.reduceLT,Nat.reduceEqDiff,Nat.reduceBEq,reduceIte,Int.reduceEq,Int.reduceLT,Int.reduceLE,reduceCtorEq,TY_EvW3,s1,e1,b1,h2a,h3a] at hz
   have hr:r123 x=false:=(if_pos h2).trans ((if_neg h3).trans (rfl))
   exact fin hz (by rw [hr]) g1
 ·skip
  try simp (disch:=first|omega|assumption) only [E0_G,SY,setArgs,off,agreeKind,partVals,vals,allocV,boxed,ldA,rdCells,oneB,aggD,aField,aFieldV,aExtract,eq_self,ne_eq,if_true,if_false,not_false_eq_true,Nat.reduceAdd,Nat.reduceSub,Nat.reduceMul,Nat.reduceLT,Nat.reduceEqDiff,Nat.reduceBEq,reduceIte,Int.reduceEq,Int.reduceLT,Int.reduceLE,reduceCtorEq,TY_EvW3,s1,e1,b1,h2a] at hz
  rcases dP (1≤x.secs) with ⟨h6a,h6⟩|⟨h6a,h6⟩
  ·skip
   try simp (disch:=first|omega|assumption) only [E0_G,SY,setArgs,off,agreeKind,partVals,vals,allocV,boxed,ldA,rdCells,oneB,aggD,aField,aFieldV,aExtract,eq_self,ne_eq,if_true,if_false,not_false_eq_true,Nat.reduceAdd,Nat.reduceSub,Nat.reduceMul,Nat.reduceLT,Nat.reduceEqDiff,Nat.reduceBEq,reduceIte,Int.reduceEq,Int.reduceLT,Int.reduceLE,reduceCtorEq,TY_EvW3,s1,e1,b1,h2a,h6a] at hz
   rcases dP (x.secs≤36000) with ⟨h7a,h7⟩|⟨h7a,h7⟩
   ·skip
    try simp (disch:=first|omega|assumption) only [E0_G,SY,setArgs,off,agreeKind,partVals,vals,allocV,boxed,ldA,rdCells,oneB,aggD,aField,aFieldV,aExtract,eq_self,ne_eq,if_true,if_false,not_false_eq_true,Nat.reduceAdd,Nat.reduceSub,Nat.reduceMul,Nat.reduceLT,Nat.reduceEqDiff,Nat.reduceBEq,reduceIte,Int.reduceEq,Int.reduceLT,Int.reduceLE,reduceCtorEq,TY_EvW3,s1,e1,b1,h2a,h6a,h7a] at hz
    rcases dP (x.rate=0) with ⟨h8a,h8⟩|⟨h8a,h8⟩
    ·skip
     try simp (disch:=first|omega|assumption) only [E0_G,SY,setArgs,off,agreeKind,partVals,vals,allocV,boxed,ldA,rdCells,oneB,aggD,aField,aFieldV,aExtract,eq_self,ne_eq,if_true,if_false,not_false_eq_true,Nat.reduceAdd,Nat.reduceSub,Nat.reduceMul,Nat.reduceLT,Nat.reduceEqDiff,Nat.reduceBEq,reduceIte,Int.reduceEq,Int.reduceLT,Int.reduceLE,reduceCtorEq,TY_EvW3,s1,e1,b1,h2a,h6a,h7a,h8a] at hz
     have hr:r123 x=true:=(if_neg h2).trans ((if_pos h6).trans ((if_pos h7).trans ((if_pos h8).trans (rfl))))
     exact fin hz (by rw [hr]) g1
    ·skip
     try simp (disch:=first|omega|assumption) only [E0_G,SY,setArgs,off,agreeKind,partVals,vals,allocV,boxed,ldA,rdCells,oneB,aggD,aField,aFieldV,aExtract,eq_self,ne_eq,if_true,if_false,not_false_eq_true,Nat.reduceAdd,Nat.reduceSub,Nat.reduceMul,Nat.reduceLT,Nat.reduceEqDiff,Nat.reduceBEq,reduceIte,Int.reduceEq,Int.reduceLT,Int.reduceLE,reduceCtorEq,TY_EvW3,s1,e1,b1,h2a,h6a,h7a,h8a] at hz
     have hr:r123 x=false:=(if_neg h2).trans ((if_pos h6).trans ((if_pos h7).trans ((if_neg h8).trans (rfl))))
     exact fin hz (by rw [hr]) g1
   ·skip
    try simp (disch:=first|omega|assumption) only [E0_G,SY,setArgs,off,agreeKind,partVals,vals,allocV,boxed,ldA,rdCells,oneB,aggD,aField,aFieldV,aExtract,eq_self,ne_eq,if_true,if_false,not_false_eq_true,Nat.reduceAdd,Nat.reduceSub,Nat.reduceMul,Nat.reduceLT,Nat.reduceEqDiff,Nat.reduceBEq,reduceIte,Int.reduceEq,Int.reduceLT,Int.reduceLE,reduceCtorEq,TY_EvW3,s1,e1,b1,h2a,h6a,h7a] at hz
    have hr:r123 x=false:=(if_neg h2).trans ((if_pos h6).trans ((if_neg h7).trans (rfl)))
    exact fin hz (by rw [hr]) g1
  ·skip
   try simp (disch:=first|omega|assumption) only [E0_G,SY,setArgs,off,agreeKind,partVals,vals,allocV,boxed,ldA,rdCells,oneB,aggD,aField,aFieldV,aExtract,eq_self,ne_eq,if_true,if_false,not_false_eq_true,Nat.reduceAdd,Nat.reduceSub,Nat.reduceMul,Nat.reduceLT,Nat.reduceEqDiff,Nat.reduceBEq,reduceIte,Int.reduceEq,Int.reduceLT,Int.reduceLE,reduceCtorEq,TY_EvW3,s1,e1,b1,h2a,h6a] at hz
   have hr:r123 x=false:=(if_neg h2).trans ((if_neg h6).trans (rfl))
   exact fin hz (by rw [hr]) g1
def R69_0 (rn:Rn)  : List Lg→Nat→Sum (Int) (Unit)
 | [],k=>.inr ()
 | x9 :: l',k=>(if (r123 x9)=true then R69_0 rn l' (k+1) else .inl 1)
def r69 (rn:Rn):Int:=(if 40<(rn.legs.length:Int) then 2 else (if (r100 rn.start)=true then (if rn.micro<0 then 1 else (if 43199999999<rn.micro then 1 else (onSum (R69_0 rn rn.legs 0) (fun (r2:Int)=>r2) (fun (_:Unit)=>(if (r100 (((r116 rn)).1))=true then (if 43199999999<(((r116 rn)).2) then 1 else 0) else 1))))) else 1))
set_option maxHeartbeats 2000000 in
theorem c69 (rn:Rn) (hl:rn.legs.length≤60) (S:AS) (v_rn_legs:Value) (hv_rn_legs:Lst S v_rn_legs rn.legs) :
  ∃ S',(evL Tryz.prog E0).call 69 #[.agg #[.int .i64 rn.start,.int .i64 rn.micro,v_rn_legs]] S=some (.int .i64 (r69 rn),S')∧Agree S S':=by
 generalize hz:(evL Tryz.prog E0).call 69 _ _=z
 rw [L_call,evCall_said rfl Tryz.func69 rfl (by decide) Tryz.ntmps69 Tryz.results69] at hz
 obtain ⟨S1,e1,n1,b1,a1⟩:=push_open S (.cells [.int .i64 rn.start,.int .i64 rn.micro,v_rn_legs] 94 0 true true)
 have g1:Agree S S1:=a1
 have s1:E0.same S S1=true:=symEnv_same a1
 have w2:=(hv_rn_legs.agree g1).len (P:=Tryz.prog) (t:=92) Tryz.underlying92
 try simp (disch:=first|omega|assumption) only [E0_G,SY,setArgs,off,agreeKind,partVals,vals,allocV,boxed,ldA,rdCells,oneB,aggD,aField,aFieldV,aExtract,eq_self,ne_eq,if_true,if_false,not_false_eq_true,Nat.reduceAdd,Nat.reduceSub,Nat.reduceMul,Nat.reduceLT,Nat.reduceEqDiff,Nat.reduceBEq,reduceIte,Int.reduceEq,Int.reduceLT,Int.reduceLE,reduceCtorEq,TY_EvW3,s1,e1,b1,w2] at hz
 rcases dP (40<(rn.legs.length:Int)) with ⟨h3a,h3⟩|⟨h3a,h3⟩
 ·skip
  try simp (disch:=first|omega|assumption) only [E0_G,SY,setArgs,off,agreeKind,partVals,vals,allocV,boxed,ldA,rdCells,oneB,aggD,aField,aFieldV,aExtract,eq_self,ne_eq,if_true,if_false,not_false_eq_true,Nat.reduceAdd,Nat.reduceSub,Nat.reduceMul,Nat.reduceLT,Nat.reduceEqDiff,Nat.reduceBEq,reduceIte,Int.reduceEq,Int.reduceLT,Int.reduceLE,reduceCtorEq,TY_EvW3,s1,e1,b1,w2,h3a] at hz
  have hr:r69 rn=2:=(if_pos h3).trans (rfl)
  exact fin hz (by rw [hr]) g1
 ·skip
  obtain ⟨S4,k4,a4⟩:=c100 rn.start  S1
  have l4:=a4.1
  have s4:E0.same S1 S4=true:=symEnv_same a4
  have v1_4:=(a4.2 S.next (by omega)).trans b1
  have g4:Agree S S4:=g1.trans a4
  try simp (disch:=first|omega|assumption) only [E0_G,SY,setArgs,off,agreeKind,partVals,vals,allocV,boxed,ldA,rdCells,oneB,aggD,aField,aFieldV,aExtract,eq_self,ne_eq,if_true,if_false,not_false_eq_true,Nat.reduceAdd,Nat.reduceSub,Nat.reduceMul,Nat.reduceLT,Nat.reduceEqDiff,Nat.reduceBEq,reduceIte,Int.reduceEq,Int.reduceLT,Int.reduceLE,reduceCtorEq,TY_EvW3,s1,e1,b1,w2,h3a,k4,s4,v1_4] at hz
  rcases dB ((r100 rn.start)) with ⟨h5a,h5⟩|⟨h5a,h5⟩
  ·skip
   try simp (disch:=first|omega|assumption) only [E0_G,SY,setArgs,off,agreeKind,partVals,vals,allocV,boxed,ldA,rdCells,oneB,aggD,aField,aFieldV,aExtract,eq_self,ne_eq,if_true,if_false,not_false_eq_true,Nat.reduceAdd,Nat.reduceSub,Nat.reduceMul,Nat.reduceLT,Nat.reduceEqDiff,Nat.reduceBEq,reduceIte,Int.reduceEq,Int.reduceLT,Int.reduceLE,reduceCtorEq,TY_EvW3,s1,e1,b1,w2,h3a,k4,s4,v1_4,h5a] at hz
   rcases dP (rn.micro<0) with ⟨h6a,h6⟩|⟨h6a,h6⟩
   ·skip
    try simp (disch:=first|omega|assumption) only [E0_G,SY,setArgs,off,agreeKind,partVals,vals,allocV,boxed,ldA,rdCells,oneB,aggD,aField,aFieldV,aExtract,eq_self,ne_eq,if_true,if_false,not_false_eq_true,Nat.reduceAdd,Nat.reduceSub,Nat.reduceMul,Nat.reduceLT,Nat.reduceEqDiff,Nat.reduceBEq,reduceIte,Int.reduceEq,Int.reduceLT,Int.reduceLE,reduceCtorEq,TY_EvW3,s1,e1,b1,w2,h3a,k4,s4,v1_4,h5a,h6a] at hz
    have hr:r69 rn=1:=(if_neg h3).trans ((if_pos h5).trans ((if_pos h6).trans (rfl)))
    exact fin hz (by rw [hr]) g4
   ·skip
    try simp (disch:=first|omega|assumption) only [E0_G,SY,setArgs,off,agreeKind,partVals,vals,allocV,boxed,ldA,rdCells,oneB,aggD,aField,aFieldV,aExtract,eq_self,ne_eq,if_true,if_false,not_false_eq_true,Nat.reduceAdd,Nat.reduceSub,Nat.reduceMul,Nat.reduceLT,Nat.reduceEqDiff,Nat.reduceBEq,reduceIte,Int.reduceEq,Int.reduceLT,Int.reduceLE,reduceCtorEq,TY_EvW3,s1,e1,b1,w2,h3a,k4,s4,v1_4,h5a,h6a] at hz
    rcases dP (43199999999<rn.micro) with ⟨h7a,h7⟩|⟨h7a,h7⟩
    ·skip
     try simp (disch:=first|omega|assumption) only [E0_G,SY,setArgs,off,agreeKind,partVals,vals,allocV,boxed,ldA,rdCells,oneB,aggD,aField,aFieldV,aExtract,eq_self,ne_eq,if_true,if_false,not_false_eq_true,Nat.reduceAdd,Nat.reduceSub,Nat.reduceMul,Nat.reduceLT,Nat.reduceEqDiff,Nat.reduceBEq,reduceIte,Int.reduceEq,Int.reduceLT,Int.reduceLE,reduceCtorEq,TY_EvW3,s1,e1,b1,w2,h3a,k4,s4,v1_4,h5a,h6a,h7a] at hz
     have hr:r69 rn=1:=(if_neg h3).trans ((if_pos h5).trans ((if_neg h6).trans ((if_pos h7).trans (rfl))))
     exact fin hz (by rw [hr]) g4
    ·skip
     have w8:=(hv_rn_legs.agree g4).len (P:=Tryz.prog) (t:=92) Tryz.underlying92
     try simp (disch:=first|omega|assumption) only [E0_G,SY,setArgs,off,agreeKind,partVals,vals,allocV,boxed,ldA,rdCells,oneB,aggD,aField,aFieldV,aExtract,eq_self,ne_eq,if_true,if_false,not_false_eq_true,Nat.reduceAdd,Nat.reduceSub,Nat.reduceMul,Nat.reduceLT,Nat.reduceEqDiff,Nat.reduceBEq,reduceIte,Int.reduceEq,Int.reduceLT,Int.reduceLE,reduceCtorEq,TY_EvW3,s1,e1,b1,w2,h3a,k4,s4,v1_4,h5a,h6a,h7a,w8] at hz
     generalize hL9:Rec.loop _ _ _ _=L9 at hz
     obtain ⟨x9,t9,S9e,rfl,hQ9⟩:=loop_met hL9 (fun m t S'=>∃ (k:Nat),m+k=rn.legs.length∧k≤rn.legs.length∧t.get 1=some (.pointer (some ⟨S.next,0,none⟩))∧t.get 25=some (v_rn_legs)∧t.get 26=some (.int .i64 (rn.legs.length:Int))∧t.get 27=some (.int .i64 (k:Int))∧S'.heap.get S.next=some (.cells [.int .i64 rn.start,.int .i64 rn.micro,v_rn_legs] 94 0 true true)∧Agree S S'∧S4.next≤S'.next∧R69_0 rn (rn.legs.drop k) k=R69_0 rn rn.legs 0)
      (fun x t S'=>(x=.exit 0∧∃ (k:Nat),t.get 1=some (.pointer (some ⟨S.next,0,none⟩))∧S'.heap.get S.next=some (.cells [.int .i64 rn.start,.int .i64 rn.micro,v_rn_legs] 94 0 true true)∧Agree S S'∧S4.next≤S'.next∧k≤rn.legs.length∧R69_0 rn rn.legs 0=.inr ())∨(x=.ret∧∃ (r2:Int),t.get 2=some (.int .i64 r2)∧Agree S S'∧R69_0 rn rn.legs 0=.inl (r2))) (rn.legs.length - 0) (by refine ⟨0,?_,?_,?_,?_,?_,?_,v1_4,g4,Nat.le_refl _,rfl⟩<;>first|(simp only [SY,setArgs,off,agreeKind,partVals,vals,allocV,boxed,ldA,rdCells,oneB,aggD,aField,aFieldV,aExtract,eq_self,ne_eq,if_true,if_false,not_false_eq_true,Nat.reduceAdd,Nat.reduceSub,Nat.reduceMul,Nat.reduceLT,Nat.reduceEqDiff,Nat.reduceBEq,reduceIte,Int.reduceEq,Int.reduceLT,Int.reduceLE,reduceCtorEq]<;>rfl)|omega|assumption|(simp; omega)|simp) (by
       rintro m t S9 ⟨k,hi9_0,hi9_1,g9_1,g9_25,g9_26,g9_27,bb9_1,ga9,gn9,hd9⟩
       refine .run fun z he=>?_
       try simp (disch:=first|omega|assumption) only [E0_G,SY,setArgs,off,agreeKind,partVals,vals,allocV,boxed,ldA,rdCells,oneB,aggD,aField,aFieldV,aExtract,eq_self,ne_eq,if_true,if_false,not_false_eq_true,Nat.reduceAdd,Nat.reduceSub,Nat.reduceMul,Nat.reduceLT,Nat.reduceEqDiff,Nat.reduceBEq,reduceIte,Int.reduceEq,Int.reduceLT,Int.reduceLE,reduceCtorEq,TY_EvW3,g9_1,g9_25,g9_26,g9_27,bb9_1,w2,h3a,h5a,h6a,h7a,w8] at he
       rcases dP ((k:Int)<(rn.legs.length:Int)) with ⟨h10a,h10⟩|⟨h10a,h10⟩
       ·skip
        have hx9:rn.legs[k]?=some (rn.legs[k]'(by first|omega|simp; omega)):=List.getElem?_eq_getElem _
        generalize rn.legs[k]'_=x9 at hx9
        obtain ⟨id11,of11,cc11,ty11,wr11,ex11,i11,j11,l11,q11⟩:=(hv_rn_legs).at (P:=Tryz.prog) (t:=92) Tryz.underlying92 tz104 hx9
        have jr11:=j11
        have j11:=(ga9.2 id11 l11).trans jr11
        have m11_0:cc11[of11]?=some (.int .i64 x9.secs):=q11 0 (show 0<2 by decide)
        have m11_1:cc11[of11+1]?=some (.int .i64 x9.rate):=q11 1 (show 1<2 by decide)
        obtain ⟨S12,e12,n12,b12,a12⟩:=push_open S9 (.cells [.int .i64 0,.int .i64 0] 104 0 true true)
        have v1_12:=(a12.2 S.next (by omega)).trans bb9_1
        have v11_12:=(a12.2 id11 (by omega)).trans j11
        have g12:Agree S S12:=ga9.trans a12
        have s12:E0.same S9 S12=true:=symEnv_same a12
        obtain ⟨S13,k13,n13,b13,q13⟩:=st_at (o:=0) (c':=[.int .i64 x9.secs,.int .i64 x9.rate]) (v:=.agg #[.int .i64 x9.secs,.int .i64 x9.rate]) tz104 b12 rfl rfl (show 0+2≤2 by decide) rfl
        have v1_13:=(q13 S.next (by omega)).trans v1_12
        have v11_13:=(q13 id11 (by omega)).trans v11_12
        have g13:Agree S S13:=⟨by have:=(g12).1; omega,fun id hid=>(q13 id (by have:=(g12).1; omega)).trans ((g12).2 id hid)⟩
        obtain ⟨S14,k14,a14⟩:=c123 x9  S13
        have l14:=a14.1
        have s14:E0.same S13 S14=true:=symEnv_same a14
        have v1_14:=(a14.2 S.next (by omega)).trans v1_13
        have v11_14:=(a14.2 id11 (by omega)).trans v11_13
        have v12_14:=(a14.2 S9.next (by omega)).trans b13
        have g14:Agree S S14:=g13.trans a14
        try simp (disch:=first|omega|assumption) only [E0_G,SY,setArgs,off,agreeKind,partVals,vals,allocV,boxed,ldA,rdCells,oneB,aggD,aField,aFieldV,aExtract,eq_self,ne_eq,if_true,if_false,not_false_eq_true,Nat.reduceAdd,Nat.reduceSub,Nat.reduceMul,Nat.reduceLT,Nat.reduceEqDiff,Nat.reduceBEq,reduceIte,Int.reduceEq,Int.reduceLT,Int.reduceLE,reduceCtorEq,TY_EvW3,g9_1,g9_25,g9_26,g9_27,bb9_1,w2,h3a,h5a,h6a,h7a,w8,h10a,i11,j11,m11_0,m11_1,v1_12,v11_12,s12,e12,b12,v1_13,v11_13,k13,b13,k14,s14,v1_14,v11_14,v12_14] at he
        rcases dB ((r123 x9)) with ⟨h15a,h15⟩|⟨h15a,h15⟩
        ·skip
         have w16:IntKind.i64.wrap ((k:Int)+1)=((k+1:Nat):Int):=by rw [IntWalk.i64_in]<;>omega
         try simp (disch:=first|omega|assumption) only [E0_G,SY,setArgs,off,agreeKind,partVals,vals,allocV,boxed,ldA,rdCells,oneB,aggD,aField,aFieldV,aExtract,eq_self,ne_eq,if_true,if_false,not_false_eq_true,Nat.reduceAdd,Nat.reduceSub,Nat.reduceMul,Nat.reduceLT,Nat.reduceEqDiff,Nat.reduceBEq,reduceIte,Int.reduceEq,Int.reduceLT,Int.reduceLE,reduceCtorEq,TY_EvW3,g9_1,g9_25,g9_26,g9_27,bb9_1,w2,h3a,h5a,h6a,h7a,w8,h10a,i11,j11,m11_0,m11_1,v1_12,v11_12,s12,e12,b12,v1_13,v11_13,k13,b13,k14,s14,v1_14,v11_14,v12_14,h15a,w16] at he
         rw [drop_cons' hx9] at hd9
         have hf:=(show _=(R69_0 rn (rn.legs.drop (k+1)) (k+1):Sum (Int) (Unit)) from (if_pos h15).trans (rfl)).symm.trans hd9
         refine .next he (m - 1) (by omega) ⟨(k+1),?_,?_,?_,?_,?_,?_,v1_14,g14,by omega,hf⟩<;>first|(simp only [SY,setArgs,off,agreeKind,partVals,vals,allocV,boxed,ldA,rdCells,oneB,aggD,aField,aFieldV,aExtract,eq_self,ne_eq,if_true,if_false,not_false_eq_true,Nat.reduceAdd,Nat.reduceSub,Nat.reduceMul,Nat.reduceLT,Nat.reduceEqDiff,Nat.reduceBEq,reduceIte,Int.reduceEq,Int.reduceLT,Int.reduceLE,reduceCtorEq,g9_1,g9_25,g9_26,g9_27]<;>rfl)|omega|assumption|(simp; omega)|simp
        ·skip
         try simp (disch:=first|omega|assumption) only [E0_G,SY,setArgs,off,agreeKind,partVals,vals,allocV,boxed,ldA,rdCells,oneB,aggD,aField,aFieldV,aExtract,eq_self,ne_eq,if_true,if_false,not_false_eq_true,Nat.reduceAdd,Nat.reduceSub,Nat.reduceMul,Nat.reduceLT,Nat.reduceEqDiff,Nat.reduceBEq,reduceIte,Int.reduceEq,Int.reduceLT,Int.reduceLE,reduceCtorEq,TY_EvW3,g9_1,g9_25,g9_26,g9_27,bb9_1,w2,h3a,h5a,h6a,h7a,w8,h10a,i11,j11,m11_0,m11_1,v1_12,v11_12,s12,e12,b12,v1_13,v11_13,k13,b13,k14,s14,v1_14,v11_14,v12_14,h15a] at he
         rw [drop_cons' hx9] at hd9
         have hf:=(show _=(.inl 1:Sum (Int) (Unit)) from (if_neg h15).trans (rfl)).symm.trans hd9
         refine .ret he (.inr ⟨rfl,⟨1,?_,g14,hf.symm⟩⟩)<;>first|(simp only [SY,setArgs,off,agreeKind,partVals,vals,allocV,boxed,ldA,rdCells,oneB,aggD,aField,aFieldV,aExtract,eq_self,ne_eq,if_true,if_false,not_false_eq_true,Nat.reduceAdd,Nat.reduceSub,Nat.reduceMul,Nat.reduceLT,Nat.reduceEqDiff,Nat.reduceBEq,reduceIte,Int.reduceEq,Int.reduceLT,Int.reduceLE,reduceCtorEq,g9_1,g9_25,g9_26,g9_27]<;>rfl)|omega|assumption|(simp; omega)|simp
       ·skip
        try simp (disch:=first|omega|assumption) only [E0_G,SY,setArgs,off,agreeKind,partVals,vals,allocV,boxed,ldA,rdCells,oneB,aggD,aField,aFieldV,aExtract,eq_self,ne_eq,if_true,if_false,not_false_eq_true,Nat.reduceAdd,Nat.reduceSub,Nat.reduceMul,Nat.reduceLT,Nat.reduceEqDiff,Nat.reduceBEq,reduceIte,Int.reduceEq,Int.reduceLT,Int.reduceLE,reduceCtorEq,TY_EvW3,g9_1,g9_25,g9_26,g9_27,bb9_1,w2,h3a,h5a,h6a,h7a,w8,h10a] at he
        rw [List.drop_eq_nil_of_le (show rn.legs.length≤k by omega)] at hd9
        have hf:=(show _=(.inr ():Sum (Int) (Unit)) from rfl).symm.trans hd9
        refine .exit he (.inl ⟨rfl,⟨k,?_,bb9_1,ga9,by omega,?_,hf.symm⟩⟩)<;>first|(simp only [SY,setArgs,off,agreeKind,partVals,vals,allocV,boxed,ldA,rdCells,oneB,aggD,aField,aFieldV,aExtract,eq_self,ne_eq,if_true,if_false,not_false_eq_true,Nat.reduceAdd,Nat.reduceSub,Nat.reduceMul,Nat.reduceLT,Nat.reduceEqDiff,Nat.reduceBEq,reduceIte,Int.reduceEq,Int.reduceLT,Int.reduceLE,reduceCtorEq,g9_1,g9_25,g9_26,g9_27]<;>rfl)|omega|assumption|(simp; omega)|simp)
     rcases hQ9 with ⟨rfl,hQ9⟩|⟨rfl,hQ9⟩
     ·skip
      obtain ⟨k,ge9_1,be9_1,ge9,gm9,hj9_0,hR9⟩:=hQ9
      obtain ⟨S18,k18,a18⟩:=c116 rn (by first|omega|assumption) S9e (v_rn_legs) (hv_rn_legs.agree ge9)
      have l18:=a18.1
      have s18:E0.same S9e S18=true:=symEnv_same a18
      have v1_18:=(a18.2 S.next (by omega)).trans be9_1
      have g18:Agree S S18:=ge9.trans a18
      obtain ⟨S19,e19,n19,b19,a19⟩:=push_open S18 (.cells [.int .i64 0,.int .i64 0] 165 0 true true)
      have v1_19:=(a19.2 S.next (by omega)).trans v1_18
      have g19:Agree S S19:=g18.trans a19
      have s19:E0.same S18 S19=true:=symEnv_same a19
      obtain ⟨S20,k20,n20,b20,q20⟩:=st_at (o:=0) (c':=[.int .i64 (((r116 rn)).1),.int .i64 (((r116 rn)).2)]) (v:=.agg #[.int .i64 (((r116 rn)).1),.int .i64 (((r116 rn)).2)]) tz165 b19 rfl rfl (show 0+2≤2 by decide) rfl
      have v1_20:=(q20 S.next (by omega)).trans v1_19
      have g20:Agree S S20:=⟨by have:=(g19).1; omega,fun id hid=>(q20 id (by have:=(g19).1; omega)).trans ((g19).2 id hid)⟩
      obtain ⟨S21,k21,a21⟩:=c100 (((r116 rn)).1)  S20
      have l21:=a21.1
      have s21:E0.same S20 S21=true:=symEnv_same a21
      have v1_21:=(a21.2 S.next (by omega)).trans v1_20
      have v19_21:=(a21.2 S18.next (by omega)).trans b20
      have g21:Agree S S21:=g20.trans a21
      try simp (disch:=first|omega|assumption) only [E0_G,SY,setArgs,off,agreeKind,partVals,vals,allocV,boxed,ldA,rdCells,oneB,aggD,aField,aFieldV,aExtract,eq_self,ne_eq,if_true,if_false,not_false_eq_true,Nat.reduceAdd,Nat.reduceSub,Nat.reduceMul,Nat.reduceLT,Nat.reduceEqDiff,Nat.reduceBEq,reduceIte,Int.reduceEq,Int.reduceLT,Int.reduceLE,reduceCtorEq,TY_EvW3,w2,h3a,h5a,h6a,h7a,w8,ge9_1,be9_1,k18,s18,v1_18,v1_19,s19,e19,b19,v1_20,k20,b20,k21,s21,v1_21,v19_21] at hz
      rcases dB ((r100 (((r116 rn)).1))) with ⟨h22a,h22⟩|⟨h22a,h22⟩
      ·skip
       try simp (disch:=first|omega|assumption) only [E0_G,SY,setArgs,off,agreeKind,partVals,vals,allocV,boxed,ldA,rdCells,oneB,aggD,aField,aFieldV,aExtract,eq_self,ne_eq,if_true,if_false,not_false_eq_true,Nat.reduceAdd,Nat.reduceSub,Nat.reduceMul,Nat.reduceLT,Nat.reduceEqDiff,Nat.reduceBEq,reduceIte,Int.reduceEq,Int.reduceLT,Int.reduceLE,reduceCtorEq,TY_EvW3,w2,h3a,h5a,h6a,h7a,w8,ge9_1,be9_1,k18,s18,v1_18,v1_19,s19,e19,b19,v1_20,k20,b20,k21,s21,v1_21,v19_21,h22a] at hz
       rcases dP (43199999999<(((r116 rn)).2)) with ⟨h23a,h23⟩|⟨h23a,h23⟩
       ·skip
        try simp (disch:=first|omega|assumption) only [E0_G,SY,setArgs,off,agreeKind,partVals,vals,allocV,boxed,ldA,rdCells,oneB,aggD,aField,aFieldV,aExtract,eq_self,ne_eq,if_true,if_false,not_false_eq_true,Nat.reduceAdd,Nat.reduceSub,Nat.reduceMul,Nat.reduceLT,Nat.reduceEqDiff,Nat.reduceBEq,reduceIte,Int.reduceEq,Int.reduceLT,Int.reduceLE,reduceCtorEq,TY_EvW3,w2,h3a,h5a,h6a,h7a,w8,ge9_1,be9_1,k18,s18,v1_18,v1_19,s19,e19,b19,v1_20,k20,b20,k21,s21,v1_21,v19_21,h22a,h23a] at hz
        have hr:r69 rn=1:=(if_neg h3).trans ((if_pos h5).trans ((if_neg h6).trans ((if_neg h7).trans ((onSum_inr hR9).trans ((if_pos h22).trans ((if_pos h23).trans (rfl)))))))
        exact fin hz (by rw [hr]) g21
       ·skip
        try simp (disch:=first|omega|assumption) only [E0_G,SY,setArgs,off,agreeKind,partVals,vals,allocV,boxed,ldA,rdCells,oneB,aggD,aField,aFieldV,aExtract,eq_self,ne_eq,if_true,if_false,not_false_eq_true,Nat.reduceAdd,Nat.reduceSub,Nat.reduceMul,Nat.reduceLT,Nat.reduceEqDiff,Nat.reduceBEq,reduceIte,Int.reduceEq,Int.reduceLT,Int.reduceLE,reduceCtorEq,TY_EvW3,w2,h3a,h5a,h6a,h7a,w8,ge9_1,be9_1,k18,s18,v1_18,v1_19,s19,e19,b19,v1_20,k20,b20,k21,s21,v1_21,v19_21,h22a,h23a] at hz
        have hr:r69 rn=0:=(if_neg h3).trans ((if_pos h5).trans ((if_neg h6).trans ((if_neg h7).trans ((onSum_inr hR9).trans ((if_pos h22).trans ((if_neg h23).trans (rfl)))))))
        exact fin hz (by rw [hr]) g21
      ·skip
       try simp (disch:=first|omega|assumption) only [E0_G,SY,setArgs,off,agreeKind,partVals,vals,allocV,boxed,ldA,rdCells,oneB,aggD,aField,aFieldV,aExtract,eq_self,ne_eq,if_true,if_false,not_false_eq_true,Nat.reduceAdd,Nat.reduceSub,Nat.reduceMul,Nat.reduceLT,Nat.reduceEqDiff,Nat.reduceBEq,reduceIte,Int.reduceEq,Int.reduceLT,Int.reduceLE,reduceCtorEq,TY_EvW3,w2,h3a,h5a,h6a,h7a,w8,ge9_1,be9_1,k18,s18,v1_18,v1_19,s19,e19,b19,v1_20,k20,b20,k21,s21,v1_21,v19_21,h22a] at hz
       have hr:r69 rn=1:=(if_neg h3).trans ((if_pos h5).trans ((if_neg h6).trans ((if_neg h7).trans ((onSum_inr hR9).trans ((if_neg h22).trans (rfl))))))
       exact fin hz (by rw [hr]) g21
     ·skip
      obtain ⟨r2,ge9_2,ge9,hR9⟩:=hQ9
      try simp (disch:=first|omega|assumption) only [E0_G,SY,setArgs,off,agreeKind,partVals,vals,allocV,boxed,ldA,rdCells,oneB,aggD,aField,aFieldV,aExtract,eq_self,ne_eq,if_true,if_false,not_false_eq_true,Nat.reduceAdd,Nat.reduceSub,Nat.reduceMul,Nat.reduceLT,Nat.reduceEqDiff,Nat.reduceBEq,reduceIte,Int.reduceEq,Int.reduceLT,Int.reduceLE,reduceCtorEq,TY_EvW3,w2,h3a,h5a,h6a,h7a,w8,ge9_2] at hz
      have hr:r69 rn=r2:=(if_neg h3).trans ((if_pos h5).trans ((if_neg h6).trans ((if_neg h7).trans ((onSum_inl hR9).trans (rfl)))))
      exact fin hz (by rw [hr]) ge9
  ·skip
   try simp (disch:=first|omega|assumption) only [E0_G,SY,setArgs,off,agreeKind,partVals,vals,allocV,boxed,ldA,rdCells,oneB,aggD,aField,aFieldV,aExtract,eq_self,ne_eq,if_true,if_false,not_false_eq_true,Nat.reduceAdd,Nat.reduceSub,Nat.reduceMul,Nat.reduceLT,Nat.reduceEqDiff,Nat.reduceBEq,reduceIte,Int.reduceEq,Int.reduceLT,Int.reduceLE,reduceCtorEq,TY_EvW3,s1,e1,b1,w2,h3a,k4,s4,v1_4,h5a] at hz
   have hr:r69 rn=1:=(if_neg h3).trans ((if_neg h5).trans (rfl))
   exact fin hz (by rw [hr]) g4
def R121_0 (s:Se) (rn:Rn)  : List Lg→Nat→Sum (Bool) (Unit)
 | [],k=>.inr ()
 | x4 :: l',k=>(if x4.rate=0 then R121_0 s rn l' (k+1) else (if (r120 s.rLo s.rHi x4.rate)=true then R121_0 s rn l' (k+1) else .inl false))
def r121 (s:Se) (rn:Rn):Bool:=(onSum (R121_0 s rn rn.legs 0) (fun (r4:Bool)=>r4) (fun (_:Unit)=>true))
set_option maxHeartbeats 2000000 in
theorem c121 (s:Se) (rn:Rn) (hl:rn.legs.length≤60) (S:AS) (v_s_stops:Value) (hv_s_stops:Lst S v_s_stops s.stops) (v_rn_legs:Value) (hv_rn_legs:Lst S v_rn_legs rn.legs) :
  ∃ S',(evL Tryz.prog E0).call 121 #[.agg #[.int .i64 s.id,.int .i64 s.inLo,.int .i64 s.inHi,.int .i64 s.outLo,.int .i64 s.outHi,.int .i64 s.zLo,.int .i64 s.zHi,.int .i64 s.eLo,.int .i64 s.eHi,.int .i64 s.rLo,.int .i64 s.rHi,v_s_stops],.agg #[.int .i64 rn.start,.int .i64 rn.micro,v_rn_legs]] S=some (.bool (r121 s rn),S')∧Agree S S':=by
 generalize hz:(evL Tryz.prog E0).call 121 _ _=z
 rw [L_call,evCall_said rfl Tryz.func121 rfl (by decide) Tryz.ntmps121 Tryz.results121] at hz
 obtain ⟨S1,e1,n1,b1,a1⟩:=push_open S (.cells [.int .i64 s.id,.int .i64 s.inLo,.int .i64 s.inHi,.int .i64 s.outLo,.int .i64 s.outHi,.int .i64 s.zLo,.int .i64 s.zHi,.int .i64 s.eLo,.int .i64 s.eHi,.int .i64 s.rLo,.int .i64 s.rHi,v_s_stops] 26 0 true true)
 have g1:Agree S S1:=a1
 have s1:E0.same S S1=true:=symEnv_same a1
 obtain ⟨S2,e2,n2,b2,a2⟩:=push_open S1 (.cells [.int .i64 rn.start,.int .i64 rn.micro,v_rn_legs] 94 0 true true)
 have v1_2:=(a2.2 S.next (by omega)).trans b1
 have g2:Agree S S2:=g1.trans a2
 have s2:E0.same S1 S2=true:=symEnv_same a2
 have w3:=(hv_rn_legs.agree g2).len (P:=Tryz.prog) (t:=92) Tryz.underlying92
 try simp (disch:=first|omega|assumption) only [E0_G,SY,setArgs,off,agreeKind,partVals,vals,allocV,boxed,ldA,rdCells,oneB,aggD,aField,aFieldV,aExtract,eq_self,ne_eq,if_true,if_false,not_false_eq_true,Nat.reduceAdd,Nat.reduceSub,Nat.reduceMul,Nat.reduceLT,Nat.reduceEqDiff,Nat.reduceBEq,reduceIte,Int.reduceEq,Int.reduceLT,Int.reduceLE,reduceCtorEq,TY_EvW3,s1,e1,b1,v1_2,s2,e2,b2,w3] at hz
 generalize hL4:Rec.loop _ _ _ _=L4 at hz
 obtain ⟨x4,t4,S4e,rfl,hQ4⟩:=loop_met hL4 (fun m t S'=>∃ (k:Nat),m+k=rn.legs.length∧k≤rn.legs.length∧t.get 2=some (.pointer (some ⟨S.next,0,none⟩))∧t.get 8=some (v_rn_legs)∧t.get 9=some (.int .i64 (rn.legs.length:Int))∧t.get 10=some (.int .i64 (k:Int))∧S'.heap.get S.next=some (.cells [.int .i64 s.id,.int .i64 s.inLo,.int .i64 s.inHi,.int .i64 s.outLo,.int .i64 s.outHi,.int .i64 s.zLo,.int .i64 s.zHi,.int .i64 s.eLo,.int .i64 s.eHi,.int .i64 s.rLo,.int .i64 s.rHi,v_s_stops] 26 0 true true)∧Agree S S'∧S2.next≤S'.next∧R121_0 s rn (rn.legs.drop k) k=R121_0 s rn rn.legs 0)
  (fun x t S'=>(x=.exit 0∧∃ (k:Nat),S'.heap.get S.next=some (.cells [.int .i64 s.id,.int .i64 s.inLo,.int .i64 s.inHi,.int .i64 s.outLo,.int .i64 s.outHi,.int .i64 s.zLo,.int .i64 s.zHi,.int .i64 s.eLo,.int .i64 s.eHi,.int .i64 s.rLo,.int .i64 s.rHi,v_s_stops] 26 0 true true)∧Agree S S'∧S2.next≤S'.next∧k≤rn.legs.length∧R121_0 s rn rn.legs 0=.inr ())∨(x=.ret∧∃ (r4:Bool),t.get 4=some (.bool r4)∧Agree S S'∧R121_0 s rn rn.legs 0=.inl (r4))) (rn.legs.length - 0) (by refine ⟨0,?_,?_,?_,?_,?_,?_,v1_2,g2,Nat.le_refl _,rfl⟩<;>first|(simp only [SY,setArgs,off,agreeKind,partVals,vals,allocV,boxed,ldA,rdCells,oneB,aggD,aField,aFieldV,aExtract,eq_self,ne_eq,if_true,if_false,not_false_eq_true,Nat.reduceAdd,Nat.reduceSub,Nat.reduceMul,Nat.reduceLT,Nat.reduceEqDiff,Nat.reduceBEq,reduceIte,Int.reduceEq,Int.reduceLT,Int.reduceLE,reduceCtorEq]<;>rfl)|omega|assumption|(simp; omega)|simp) (by
   rintro m t S4 ⟨k,hi4_0,hi4_1,g4_2,g4_8,g4_9,g4_10,bb4_1,ga4,gn4,hd4⟩
   refine .run fun z he=>?_
   try simp (disch:=first|omega|assumption) only [E0_G,SY,setArgs,off,agreeKind,partVals,vals,allocV,boxed,ldA,rdCells,oneB,aggD,aField,aFieldV,aExtract,eq_self,ne_eq,if_true,if_false,not_false_eq_true,Nat.reduceAdd,Nat.reduceSub,Nat.reduceMul,Nat.reduceLT,Nat.reduceEqDiff,Nat.reduceBEq,reduceIte,Int.reduceEq,Int.reduceLT,Int.reduceLE,reduceCtorEq,TY_EvW3,g4_2,g4_8,g4_9,g4_10,bb4_1,w3] at he
   rcases dP ((k:Int)<(rn.legs.length:Int)) with ⟨h5a,h5⟩|⟨h5a,h5⟩
   ·skip
    have hx4:rn.legs[k]?=some (rn.legs[k]'(by first|omega|simp; omega)):=List.getElem?_eq_getElem _
    generalize rn.legs[k]'_=x4 at hx4
    obtain ⟨id6,of6,cc6,ty6,wr6,ex6,i6,j6,l6,q6⟩:=(hv_rn_legs).at (P:=Tryz.prog) (t:=92) Tryz.underlying92 tz104 hx4
    have jr6:=j6
    have j6:=(ga4.2 id6 l6).trans jr6
    have m6_0:cc6[of6]?=some (.int .i64 x4.secs):=q6 0 (show 0<2 by decide)
    have m6_1:cc6[of6+1]?=some (.int .i64 x4.rate):=q6 1 (show 1<2 by decide)
    obtain ⟨S7,e7,n7,b7,a7⟩:=push_open S4 (.cells [.int .i64 0,.int .i64 0] 104 0 true true)
    have v1_7:=(a7.2 S.next (by omega)).trans bb4_1
    have v6_7:=(a7.2 id6 (by omega)).trans j6
    have g7:Agree S S7:=ga4.trans a7
    have s7:E0.same S4 S7=true:=symEnv_same a7
    obtain ⟨S8,k8,n8,b8,q8⟩:=st_at (o:=0) (c':=[.int .i64 x4.secs,.int .i64 x4.rate]) (v:=.agg #[.int .i64 x4.secs,.int .i64 x4.rate]) tz104 b7 rfl rfl (show 0+2≤2 by decide) rfl
    have v1_8:=(q8 S.next (by omega)).trans v1_7
    have v6_8:=(q8 id6 (by omega)).trans v6_7
    have g8:Agree S S8:=⟨by have:=(g7).1; omega,fun id hid=>(q8 id (by have:=(g7).1; omega)).trans ((g7).2 id hid)⟩
    try simp (disch:=first|omega|assumption) only [E0_G,SY,setArgs,off,agreeKind,partVals,vals,allocV,boxed,ldA,rdCells,oneB,aggD,aField,aFieldV,aExtract,eq_self,ne_eq,if_true,if_false,not_false_eq_true,Nat.reduceAdd,Nat.reduceSub,Nat.reduceMul,Nat.reduceLT,Nat.reduceEqDiff,Nat.reduceBEq,reduceIte,Int.reduceEq,Int.reduceLT,Int.reduceLE,reduceCtorEq,TY_EvW3,g4_2,g4_8,g4_9,g4_10,bb4_1,w3,h5a,i6,j6,m6_0,m6_1,v1_7,v6_7,s7,e7,b7,v1_8,v6_8,k8,b8] at he
    rcases dP (x4.rate=0) with ⟨h9a,h9⟩|⟨h9a,h9⟩
    ·skip
     have w10:IntKind.i64.wrap ((k:Int)+1)=((k+1:Nat):Int):=by rw [IntWalk.i64_in]<;>omega
     try simp (disch:=first|omega|assumption) only [E0_G,SY,setArgs,off,agreeKind,partVals,vals,allocV,boxed,ldA,rdCells,oneB,aggD,aField,aFieldV,aExtract,eq_self,ne_eq,if_true,if_false,not_false_eq_true,Nat.reduceAdd,Nat.reduceSub,Nat.reduceMul,Nat.reduceLT,Nat.reduceEqDiff,Nat.reduceBEq,reduceIte,Int.reduceEq,Int.reduceLT,Int.reduceLE,reduceCtorEq,TY_EvW3,g4_2,g4_8,g4_9,g4_10,bb4_1,w3,h5a,i6,j6,m6_0,m6_1,v1_7,v6_7,s7,e7,b7,v1_8,v6_8,k8,b8,h9a,w10] at he
     rw [drop_cons' hx4] at hd4
     have hf:=(show _=(R121_0 s rn (rn.legs.drop (k+1)) (k+1):Sum (Bool) (Unit)) from (if_pos h9).trans (rfl)).symm.trans hd4
     refine .next he (m - 1) (by omega) ⟨(k+1),?_,?_,?_,?_,?_,?_,v1_8,g8,by omega,hf⟩<;>first|(simp only [SY,setArgs,off,agreeKind,partVals,vals,allocV,boxed,ldA,rdCells,oneB,aggD,aField,aFieldV,aExtract,eq_self,ne_eq,if_true,if_false,not_false_eq_true,Nat.reduceAdd,Nat.reduceSub,Nat.reduceMul,Nat.reduceLT,Nat.reduceEqDiff,Nat.reduceBEq,reduceIte,Int.reduceEq,Int.reduceLT,Int.reduceLE,reduceCtorEq,g4_2,g4_8,g4_9,g4_10]<;>rfl)|omega|assumption|(simp; omega)|simp
    ·skip
     obtain ⟨S11,k11,a11⟩:=c120 s.rLo s.rHi x4.rate  S8
     have l11:=a11.1
     have s11:E0.same S8 S11=true:=symEnv_same a11
     have v1_11:=(a11.2 S.next (by omega)).trans v1_8
     have v6_11:=(a11.2 id6 (by omega)).trans v6_8
     have v7_11:=(a11.2 S4.next (by omega)).trans b8
     have g11:Agree S S11:=g8.trans a11
     try simp (disch:=first|omega|assumption) only [E0_G,SY,setArgs,off,agreeKind,partVals,vals,allocV,boxed,ldA,rdCells,oneB,aggD,aField,aFieldV,aExtract,eq_self,ne_eq,if_true,if_false,not_false_eq_true,Nat.reduceAdd,Nat.reduceSub,Nat.reduceMul,Nat.reduceLT,Nat.reduceEqDiff,Nat.reduceBEq,reduceIte,Int.reduceEq,Int.reduceLT,Int.reduceLE,reduceCtorEq,TY_EvW3,g4_2,g4_8,g4_9,g4_10,bb4_1,w3,h5a,i6,j6,m6_0,m6_1,v1_7,v6_7,s7,e7,b7,v1_8,v6_8,k8,b8,h9a,k11,s11,v1_11,v6_11,v7_11] at he
     rcases dB ((r120 s.rLo s.rHi x4.rate)) with ⟨h12a,h12⟩|⟨h12a,h12⟩
     ·skip
      have w13:IntKind.i64.wrap ((k:Int)+1)=((k+1:Nat):Int):=by rw [IntWalk.i64_in]<;>omega
      try simp (disch:=first|omega|assumption) only [E0_G,SY,setArgs,off,agreeKind,partVals,vals,allocV,boxed,ldA,rdCells,oneB,aggD,aField,aFieldV,aExtract,eq_self,ne_eq,if_true,if_false,not_false_eq_true,Nat.reduceAdd,Nat.reduceSub,Nat.reduceMul,Nat.reduceLT,Nat.reduceEqDiff,Nat.reduceBEq,reduceIte,Int.reduceEq,Int.reduceLT,Int.reduceLE,reduceCtorEq,TY_EvW3,g4_2,g4_8,g4_9,g4_10,bb4_1,w3,h5a,i6,j6,m6_0,m6_1,v1_7,v6_7,s7,e7,b7,v1_8,v6_8,k8,b8,h9a,k11,s11,v1_11,v6_11,v7_11,h12a,w13] at he
      rw [drop_cons' hx4] at hd4
      have hf:=(show _=(R121_0 s rn (rn.legs.drop (k+1)) (k+1):Sum (Bool) (Unit)) from (if_neg h9).trans ((if_pos h12).trans (rfl))).symm.trans hd4
      refine .next he (m - 1) (by omega) ⟨(k+1),?_,?_,?_,?_,?_,?_,v1_11,g11,by omega,hf⟩<;>first|(simp only [SY,setArgs,off,agreeKind,partVals,vals,allocV,boxed,ldA,rdCells,oneB,aggD,aField,aFieldV,aExtract,eq_self,ne_eq,if_true,if_false,not_false_eq_true,Nat.reduceAdd,Nat.reduceSub,Nat.reduceMul,Nat.reduceLT,Nat.reduceEqDiff,Nat.reduceBEq,reduceIte,Int.reduceEq,Int.reduceLT,Int.reduceLE,reduceCtorEq,g4_2,g4_8,g4_9,g4_10]<;>rfl)|omega|assumption|(simp; omega)|simp
     ·skip
      try simp (disch:=first|omega|assumption) only [E0_G,SY,setArgs,off,agreeKind,partVals,vals,allocV,boxed,ldA,rdCells,oneB,aggD,aField,aFieldV,aExtract,eq_self,ne_eq,if_true,if_false,not_false_eq_true,Nat.reduceAdd,Nat.reduceSub,Nat.reduceMul,Nat.reduceLT,Nat.reduceEqDiff,Nat.reduceBEq,reduceIte,Int.reduceEq,Int.reduceLT,Int.reduceLE,reduceCtorEq,TY_EvW3,g4_2,g4_8,g4_9,g4_10,bb4_1,w3,h5a,i6,j6,m6_0,m6_1,v1_7,v6_7,s7,e7,b7,v1_8,v6_8,k8,b8,h9a,k11,s11,v1_11,v6_11,v7_11,h12a] at he
      rw [drop_cons' hx4] at hd4
      have hf:=(show _=(.inl false:Sum (Bool) (Unit)) from (if_neg h9).trans ((if_neg h12).trans (rfl))).symm.trans hd4
      refine .ret he (.inr ⟨rfl,⟨false,?_,g11,hf.symm⟩⟩)<;>first|(simp only [SY,setArgs,off,agreeKind,partVals,vals,allocV,boxed,ldA,rdCells,oneB,aggD,aField,aFieldV,aExtract,eq_self,ne_eq,if_true,if_false,not_false_eq_true,Nat.reduceAdd,Nat.reduceSub,Nat.reduceMul,Nat.reduceLT,Nat.reduceEqDiff,Nat.reduceBEq,reduceIte,Int.reduceEq,Int.reduceLT,Int.reduceLE,reduceCtorEq,g4_2,g4_8,g4_9,g4_10]<;>rfl)|omega|assumption|(simp; omega)|simp
   ·skip
    try simp (disch:=first|omega|assumption) only [E0_G,SY,setArgs,off,agreeKind,partVals,vals,allocV,boxed,ldA,rdCells,oneB,aggD,aField,aFieldV,aExtract,eq_self,ne_eq,if_true,if_false,not_false_eq_true,Nat.reduceAdd,Nat.reduceSub,Nat.reduceMul,Nat.reduceLT,Nat.reduceEqDiff,Nat.reduceBEq,reduceIte,Int.reduceEq,Int.reduceLT,Int.reduceLE,reduceCtorEq,TY_EvW3,g4_2,g4_8,g4_9,g4_10,bb4_1,w3,h5a] at he
    rw [List.drop_eq_nil_of_le (show rn.legs.length≤k by omega)] at hd4
    have hf:=(show _=(.inr ():Sum (Bool) (Unit)) from rfl).symm.trans hd4
    refine .exit he (.inl ⟨rfl,⟨k,bb4_1,ga4,by omega,?_,hf.symm⟩⟩)<;>first|(simp only [SY,setArgs,off,agreeKind,partVals,vals,allocV,boxed,ldA,rdCells,oneB,aggD,aField,aFieldV,aExtract,eq_self,ne_eq,if_true,if_false,not_false_eq_true,Nat.reduceAdd,Nat.reduceSub,Nat.reduceMul,Nat.reduceLT,Nat.reduceEqDiff,Nat.reduceBEq,reduceIte,Int.reduceEq,Int.reduceLT,Int.reduceLE,reduceCtorEq,g4_2,g4_8,g4_9,g4_10]<;>rfl)|omega|assumption|(simp; omega)|simp)
 rcases hQ4 with ⟨rfl,hQ4⟩|⟨rfl,hQ4⟩
 ·skip
  obtain ⟨k,be4_1,ge4,gm4,hj4_0,hR4⟩:=hQ4
  try simp (disch:=first|omega|assumption) only [E0_G,SY,setArgs,off,agreeKind,partVals,vals,allocV,boxed,ldA,rdCells,oneB,aggD,aField,aFieldV,aExtract,eq_self,ne_eq,if_true,if_false,not_false_eq_true,Nat.reduceAdd,Nat.reduceSub,Nat.reduceMul,Nat.reduceLT,Nat.reduceEqDiff,Nat.reduceBEq,reduceIte,Int.reduceEq,Int.reduceLT,Int.reduceLE,reduceCtorEq,TY_EvW3,w3,be4_1] at hz
  have hr:r121 s rn=true:=(onSum_inr hR4).trans (rfl)
  exact fin hz (by rw [hr]) ge4
 ·skip
  obtain ⟨r4,ge4_4,ge4,hR4⟩:=hQ4
  try simp (disch:=first|omega|assumption) only [E0_G,SY,setArgs,off,agreeKind,partVals,vals,allocV,boxed,ldA,rdCells,oneB,aggD,aField,aFieldV,aExtract,eq_self,ne_eq,if_true,if_false,not_false_eq_true,Nat.reduceAdd,Nat.reduceSub,Nat.reduceMul,Nat.reduceLT,Nat.reduceEqDiff,Nat.reduceBEq,reduceIte,Int.reduceEq,Int.reduceLT,Int.reduceLE,reduceCtorEq,TY_EvW3,w3,ge4_4] at hz
  have hr:r121 s rn=r4:=(onSum_inl hR4).trans (rfl)
  exact fin hz (by rw [hr]) ge4
def R71_0 (rn:Rn)  : List Lg→Nat→Int→Int
 | [],i,tm=>tm
 | x2 :: l',i,tm=>R71_0 rn l' (i+1) (IntKind.i64.wrap (tm+x2.secs))
def r71 (rn:Rn):Int:=R71_0 rn rn.legs 0 rn.start
set_option maxHeartbeats 2000000 in
theorem c71 (rn:Rn) (hl:rn.legs.length≤60) (S:AS) (v_rn_legs:Value) (hv_rn_legs:Lst S v_rn_legs rn.legs) :
  ∃ S',(evL Tryz.prog E0).call 71 #[.agg #[.int .i64 rn.start,.int .i64 rn.micro,v_rn_legs]] S=some (.int .i64 (r71 rn),S')∧Agree S S':=by
 generalize hz:(evL Tryz.prog E0).call 71 _ _=z
 rw [L_call,evCall_said rfl Tryz.func71 rfl (by decide) Tryz.ntmps71 Tryz.results71] at hz
 obtain ⟨S1,e1,n1,b1,a1⟩:=push_open S (.cells [.int .i64 rn.start,.int .i64 rn.micro,v_rn_legs] 94 0 true true)
 have g1:Agree S S1:=a1
 have s1:E0.same S S1=true:=symEnv_same a1
 try simp (disch:=first|omega|assumption) only [E0_G,SY,setArgs,off,agreeKind,partVals,vals,allocV,boxed,ldA,rdCells,oneB,aggD,aField,aFieldV,aExtract,eq_self,ne_eq,if_true,if_false,not_false_eq_true,Nat.reduceAdd,Nat.reduceSub,Nat.reduceMul,Nat.reduceLT,Nat.reduceEqDiff,Nat.reduceBEq,reduceIte,Int.reduceEq,Int.reduceLT,Int.reduceLE,reduceCtorEq,TY_EvW3,s1,e1,b1] at hz
 generalize hL2:Rec.loop _ _ _ _=L2 at hz
 obtain ⟨x2,t2,S2e,rfl,hQ2⟩:=loop_met hL2 (fun m t S'=>∃ (i:Nat) (tm:Int),m+i=rn.legs.length∧i≤rn.legs.length∧t.get 1=some (.pointer (some ⟨S.next,0,none⟩))∧t.get 3=some (.int .i64 tm)∧t.get 4=some (.int .i64 (i:Int))∧S'.heap.get S.next=some (.cells [.int .i64 rn.start,.int .i64 rn.micro,v_rn_legs] 94 0 true true)∧Agree S S'∧S1.next≤S'.next∧R71_0 rn (rn.legs.drop i) i tm=R71_0 rn rn.legs 0 rn.start)
  (fun x t S'=>x=.exit 0∧∃ (i:Nat) (tm:Int),t.get 3=some (.int .i64 tm)∧S'.heap.get S.next=some (.cells [.int .i64 rn.start,.int .i64 rn.micro,v_rn_legs] 94 0 true true)∧Agree S S'∧S1.next≤S'.next∧i≤rn.legs.length∧R71_0 rn rn.legs 0 rn.start=tm) (rn.legs.length - 0) (by refine ⟨0,rn.start,?_,?_,?_,?_,?_,b1,g1,Nat.le_refl _,rfl⟩<;>first|(simp only [SY,setArgs,off,agreeKind,partVals,vals,allocV,boxed,ldA,rdCells,oneB,aggD,aField,aFieldV,aExtract,eq_self,ne_eq,if_true,if_false,not_false_eq_true,Nat.reduceAdd,Nat.reduceSub,Nat.reduceMul,Nat.reduceLT,Nat.reduceEqDiff,Nat.reduceBEq,reduceIte,Int.reduceEq,Int.reduceLT,Int.reduceLE,reduceCtorEq]<;>rfl)|omega|assumption|(simp; omega)|simp) (by
   rintro m t S2 ⟨i,tm,hi2_0,hi2_1,g2_1,g2_3,g2_4,bb2_1,ga2,gn2,hd2⟩
   refine .run fun z he=>?_
   have w3:=(hv_rn_legs.agree ga2).len (P:=Tryz.prog) (t:=92) Tryz.underlying92
   try simp (disch:=first|omega|assumption) only [E0_G,SY,setArgs,off,agreeKind,partVals,vals,allocV,boxed,ldA,rdCells,oneB,aggD,aField,aFieldV,aExtract,eq_self,ne_eq,if_true,if_false,not_false_eq_true,Nat.reduceAdd,Nat.reduceSub,Nat.reduceMul,Nat.reduceLT,Nat.reduceEqDiff,Nat.reduceBEq,reduceIte,Int.reduceEq,Int.reduceLT,Int.reduceLE,reduceCtorEq,TY_EvW3,g2_1,g2_3,g2_4,bb2_1,w3] at he
   rcases dP ((i:Int)<(rn.legs.length:Int)) with ⟨h4a,h4⟩|⟨h4a,h4⟩
   ·skip
    have hx2:rn.legs[i]?=some (rn.legs[i]'(by first|omega|simp; omega)):=List.getElem?_eq_getElem _
    generalize rn.legs[i]'_=x2 at hx2
    obtain ⟨id5,of5,cc5,ty5,wr5,ex5,i5,j5,l5,q5⟩:=(hv_rn_legs).at (P:=Tryz.prog) (t:=92) Tryz.underlying92 tz104 hx2
    have jr5:=j5
    have j5:=(ga2.2 id5 l5).trans jr5
    have m5_0:cc5[of5]?=some (.int .i64 x2.secs):=q5 0 (show 0<2 by decide)
    have m5_1:cc5[of5+1]?=some (.int .i64 x2.rate):=q5 1 (show 1<2 by decide)
    have w6:IntKind.i64.wrap ((i:Int)+1)=((i+1:Nat):Int):=by rw [IntWalk.i64_in]<;>omega
    try simp (disch:=first|omega|assumption) only [E0_G,SY,setArgs,off,agreeKind,partVals,vals,allocV,boxed,ldA,rdCells,oneB,aggD,aField,aFieldV,aExtract,eq_self,ne_eq,if_true,if_false,not_false_eq_true,Nat.reduceAdd,Nat.reduceSub,Nat.reduceMul,Nat.reduceLT,Nat.reduceEqDiff,Nat.reduceBEq,reduceIte,Int.reduceEq,Int.reduceLT,Int.reduceLE,reduceCtorEq,TY_EvW3,g2_1,g2_3,g2_4,bb2_1,w3,h4a,i5,j5,m5_0,m5_1,w6] at he
    rw [drop_cons' hx2] at hd2
    have hf:=(show _=(R71_0 rn (rn.legs.drop (i+1)) (i+1) (IntKind.i64.wrap (tm+x2.secs)):Int) from rfl).symm.trans hd2
    refine .next he (m - 1) (by omega) ⟨(i+1),IntKind.i64.wrap (tm+x2.secs),?_,?_,?_,?_,?_,bb2_1,ga2,by omega,hf⟩<;>first|(simp only [SY,setArgs,off,agreeKind,partVals,vals,allocV,boxed,ldA,rdCells,oneB,aggD,aField,aFieldV,aExtract,eq_self,ne_eq,if_true,if_false,not_false_eq_true,Nat.reduceAdd,Nat.reduceSub,Nat.reduceMul,Nat.reduceLT,Nat.reduceEqDiff,Nat.reduceBEq,reduceIte,Int.reduceEq,Int.reduceLT,Int.reduceLE,reduceCtorEq,g2_1,g2_3,g2_4]<;>rfl)|omega|assumption|(simp; omega)|simp
   ·skip
    try simp (disch:=first|omega|assumption) only [E0_G,SY,setArgs,off,agreeKind,partVals,vals,allocV,boxed,ldA,rdCells,oneB,aggD,aField,aFieldV,aExtract,eq_self,ne_eq,if_true,if_false,not_false_eq_true,Nat.reduceAdd,Nat.reduceSub,Nat.reduceMul,Nat.reduceLT,Nat.reduceEqDiff,Nat.reduceBEq,reduceIte,Int.reduceEq,Int.reduceLT,Int.reduceLE,reduceCtorEq,TY_EvW3,g2_1,g2_3,g2_4,bb2_1,w3,h4a] at he
    rw [List.drop_eq_nil_of_le (show rn.legs.length≤i by omega)] at hd2
    have hf:=(show _=(tm:Int) from rfl).symm.trans hd2
    refine .exit he ⟨rfl,⟨i,tm,?_,bb2_1,ga2,by omega,?_,hf.symm⟩⟩<;>first|(simp only [SY,setArgs,off,agreeKind,partVals,vals,allocV,boxed,ldA,rdCells,oneB,aggD,aField,aFieldV,aExtract,eq_self,ne_eq,if_true,if_false,not_false_eq_true,Nat.reduceAdd,Nat.reduceSub,Nat.reduceMul,Nat.reduceLT,Nat.reduceEqDiff,Nat.reduceBEq,reduceIte,Int.reduceEq,Int.reduceLT,Int.reduceLE,reduceCtorEq,g2_1,g2_3,g2_4]<;>rfl)|omega|assumption|(simp; omega)|simp)
 obtain ⟨rfl,i,tm,ge2_3,be2_1,ge2,gm2,hj2_0,hR2⟩:=hQ2
 obtain rfl:tm=R71_0 rn rn.legs 0 rn.start:=hR2.symm
 try simp (disch:=first|omega|assumption) only [E0_G,SY,setArgs,off,agreeKind,partVals,vals,allocV,boxed,ldA,rdCells,oneB,aggD,aField,aFieldV,aExtract,eq_self,ne_eq,if_true,if_false,not_false_eq_true,Nat.reduceAdd,Nat.reduceSub,Nat.reduceMul,Nat.reduceLT,Nat.reduceEqDiff,Nat.reduceBEq,reduceIte,Int.reduceEq,Int.reduceLT,Int.reduceLE,reduceCtorEq,TY_EvW3,ge2_3,be2_1] at hz
 have hr:r71 rn=R71_0 rn rn.legs 0 rn.start:=rfl
 exact fin hz (by rw [hr]) ge2
def R72_0 (rn:Rn) (a:Int)  : List Lg→Nat→Int→Int→Int
 | [],i,p,tm=>p
 | x2 :: l',i,p,tm=>R72_0 rn a l' (i+1) (IntKind.i64.wrap (p+(IntKind.i64.wrap ((min (max 0 (IntKind.i64.wrap (a - tm))) x2.secs) * x2.rate)))) (IntKind.i64.wrap (tm+x2.secs))
def r72 (rn:Rn) (a:Int):Int:=R72_0 rn a rn.legs 0 rn.micro rn.start
set_option maxHeartbeats 2000000 in
theorem c72 (rn:Rn) (a:Int) (hl:rn.legs.length≤60) (S:AS) (v_rn_legs:Value) (hv_rn_legs:Lst S v_rn_legs rn.legs) :
  ∃ S',(evL Tryz.prog E0).call 72 #[.agg #[.int .i64 rn.start,.int .i64 rn.micro,v_rn_legs],.int .i64 a] S=some (.int .i64 (r72 rn a),S')∧Agree S S':=by
 generalize hz:(evL Tryz.prog E0).call 72 _ _=z
 rw [L_call,evCall_said rfl Tryz.func72 rfl (by decide) Tryz.ntmps72 Tryz.results72] at hz
 obtain ⟨S1,e1,n1,b1,a1⟩:=push_open S (.cells [.int .i64 rn.start,.int .i64 rn.micro,v_rn_legs] 94 0 true true)
 have g1:Agree S S1:=a1
 have s1:E0.same S S1=true:=symEnv_same a1
 try simp (disch:=first|omega|assumption) only [E0_G,SY,setArgs,off,agreeKind,partVals,vals,allocV,boxed,ldA,rdCells,oneB,aggD,aField,aFieldV,aExtract,eq_self,ne_eq,if_true,if_false,not_false_eq_true,Nat.reduceAdd,Nat.reduceSub,Nat.reduceMul,Nat.reduceLT,Nat.reduceEqDiff,Nat.reduceBEq,reduceIte,Int.reduceEq,Int.reduceLT,Int.reduceLE,reduceCtorEq,TY_EvW3,s1,e1,b1] at hz
 generalize hL2:Rec.loop _ _ _ _=L2 at hz
 obtain ⟨x2,t2,S2e,rfl,hQ2⟩:=loop_met hL2 (fun m t S'=>∃ (i:Nat) (p:Int) (tm:Int),m+i=rn.legs.length∧i≤rn.legs.length∧t.get 1=some (.int .i64 a)∧t.get 2=some (.pointer (some ⟨S.next,0,none⟩))∧t.get 5=some (.int .i64 p)∧t.get 6=some (.int .i64 tm)∧t.get 7=some (.int .i64 (i:Int))∧S'.heap.get S.next=some (.cells [.int .i64 rn.start,.int .i64 rn.micro,v_rn_legs] 94 0 true true)∧Agree S S'∧S1.next≤S'.next∧R72_0 rn a (rn.legs.drop i) i p tm=R72_0 rn a rn.legs 0 rn.micro rn.start)
  (fun x t S'=>x=.exit 0∧∃ (i:Nat) (p:Int) (tm:Int),t.get 5=some (.int .i64 p)∧S'.heap.get S.next=some (.cells [.int .i64 rn.start,.int .i64 rn.micro,v_rn_legs] 94 0 true true)∧Agree S S'∧S1.next≤S'.next∧i≤rn.legs.length∧R72_0 rn a rn.legs 0 rn.micro rn.start=p) (rn.legs.length - 0) (by refine ⟨0,rn.micro,rn.start,?_,?_,?_,?_,?_,?_,?_,b1,g1,Nat.le_refl _,rfl⟩<;>first|(simp only [SY,setArgs,off,agreeKind,partVals,vals,allocV,boxed,ldA,rdCells,oneB,aggD,aField,aFieldV,aExtract,eq_self,ne_eq,if_true,if_false,not_false_eq_true,Nat.reduceAdd,Nat.reduceSub,Nat.reduceMul,Nat.reduceLT,Nat.reduceEqDiff,Nat.reduceBEq,reduceIte,Int.reduceEq,Int.reduceLT,Int.reduceLE,reduceCtorEq]<;>rfl)|omega|assumption|(simp; omega)|simp) (by
   rintro m t S2 ⟨i,p,tm,hi2_0,hi2_1,g2_1,g2_2,g2_5,g2_6,g2_7,bb2_1,ga2,gn2,hd2⟩
   refine .run fun z he=>?_
   have w3:=(hv_rn_legs.agree ga2).len (P:=Tryz.prog) (t:=92) Tryz.underlying92
   try simp (disch:=first|omega|assumption) only [E0_G,SY,setArgs,off,agreeKind,partVals,vals,allocV,boxed,ldA,rdCells,oneB,aggD,aField,aFieldV,aExtract,eq_self,ne_eq,if_true,if_false,not_false_eq_true,Nat.reduceAdd,Nat.reduceSub,Nat.reduceMul,Nat.reduceLT,Nat.reduceEqDiff,Nat.reduceBEq,reduceIte,Int.reduceEq,Int.reduceLT,Int.reduceLE,reduceCtorEq,TY_EvW3,g2_1,g2_2,g2_5,g2_6,g2_7,bb2_1,w3] at he
   rcases dP ((i:Int)<(rn.legs.length:Int)) with ⟨h4a,h4⟩|⟨h4a,h4⟩
   ·skip
    try simp (disch:=first|omega|assumption) only [E0_G,SY,setArgs,off,agreeKind,partVals,vals,allocV,boxed,ldA,rdCells,oneB,aggD,aField,aFieldV,aExtract,eq_self,ne_eq,if_true,if_false,not_false_eq_true,Nat.reduceAdd,Nat.reduceSub,Nat.reduceMul,Nat.reduceLT,Nat.reduceEqDiff,Nat.reduceBEq,reduceIte,Int.reduceEq,Int.reduceLT,Int.reduceLE,reduceCtorEq,TY_EvW3,g2_1,g2_2,g2_5,g2_6,g2_7,bb2_1,w3,h4a] at he
    rw [code_draws _ _ _ (by kernel_rfl)] at he
    generalize hnd5:needy _=nd5 at he
    have hx2:rn.legs[i]?=some (rn.legs[i]'(by first|omega|simp; omega)):=List.getElem?_eq_getElem _
    generalize rn.legs[i]'_=x2 at hx2
    obtain ⟨id6,of6,cc6,ty6,wr6,ex6,i6,j6,l6,q6⟩:=(hv_rn_legs).at (P:=Tryz.prog) (t:=92) Tryz.underlying92 tz104 hx2
    have jr6:=j6
    have j6:=(ga2.2 id6 l6).trans jr6
    have m6_0:cc6[of6]?=some (.int .i64 x2.secs):=q6 0 (show 0<2 by decide)
    have m6_1:cc6[of6+1]?=some (.int .i64 x2.rate):=q6 1 (show 1<2 by decide)
    obtain ⟨id7,of7,cc7,ty7,wr7,ex7,i7,j7,l7,q7⟩:=(hv_rn_legs).at (P:=Tryz.prog) (t:=92) Tryz.underlying92 tz104 hx2
    have jr7:=j7
    have j7:=(ga2.2 id7 l7).trans jr7
    have j7_6:=(ga2.2 id6 l6).trans jr6
    have m7_0:cc7[of7]?=some (.int .i64 x2.secs):=q7 0 (show 0<2 by decide)
    have m7_1:cc7[of7+1]?=some (.int .i64 x2.rate):=q7 1 (show 1<2 by decide)
    obtain ⟨id8,of8,cc8,ty8,wr8,ex8,i8,j8,l8,q8⟩:=(hv_rn_legs).at (P:=Tryz.prog) (t:=92) Tryz.underlying92 tz104 hx2
    have jr8:=j8
    have j8:=(ga2.2 id8 l8).trans jr8
    have j8_6:=(ga2.2 id6 l6).trans jr6
    have j8_7:=(ga2.2 id7 l7).trans jr7
    have m8_0:cc8[of8]?=some (.int .i64 x2.secs):=q8 0 (show 0<2 by decide)
    have m8_1:cc8[of8+1]?=some (.int .i64 x2.rate):=q8 1 (show 1<2 by decide)
    have w9:IntKind.i64.wrap ((i:Int)+1)=((i+1:Nat):Int):=by rw [IntWalk.i64_in]<;>omega
    try simp (disch:=first|omega|assumption) only [E0_G,SY,setArgs,off,agreeKind,partVals,vals,allocV,boxed,ldA,rdCells,oneB,aggD,aField,aFieldV,aExtract,eq_self,ne_eq,if_true,if_false,not_false_eq_true,Nat.reduceAdd,Nat.reduceSub,Nat.reduceMul,Nat.reduceLT,Nat.reduceEqDiff,Nat.reduceBEq,reduceIte,Int.reduceEq,Int.reduceLT,Int.reduceLE,reduceCtorEq,TY_EvW3,g2_1,g2_2,g2_5,g2_6,g2_7,bb2_1,w3,h4a,store_agree,store_refl E0_same,i6,j6,m6_0,m6_1,j7_6,i7,j7,m7_0,m7_1,j8_6,j8_7,i8,j8,m8_0,m8_1,w9] at he
    rw [drop_cons' hx2] at hd2
    have hf:=(show _=(R72_0 rn a (rn.legs.drop (i+1)) (i+1) (IntKind.i64.wrap (p+(IntKind.i64.wrap ((min (max 0 (IntKind.i64.wrap (a - tm))) x2.secs) * x2.rate)))) (IntKind.i64.wrap (tm+x2.secs)):Int) from rfl).symm.trans hd2
    refine .next he (m - 1) (by omega) ⟨(i+1),IntKind.i64.wrap (p+(IntKind.i64.wrap ((min (max 0 (IntKind.i64.wrap (a - tm))) x2.secs) * x2.rate))),IntKind.i64.wrap (tm+x2.secs),?_,?_,?_,?_,?_,?_,?_,bb2_1,ga2,by omega,hf⟩<;>first|(simp only [SY,setArgs,off,agreeKind,partVals,vals,allocV,boxed,ldA,rdCells,oneB,aggD,aField,aFieldV,aExtract,eq_self,ne_eq,if_true,if_false,not_false_eq_true,Nat.reduceAdd,Nat.reduceSub,Nat.reduceMul,Nat.reduceLT,Nat.reduceEqDiff,Nat.reduceBEq,reduceIte,Int.reduceEq,Int.reduceLT,Int.reduceLE,reduceCtorEq,g2_1,g2_2,g2_5,g2_6,g2_7]<;>rfl)|omega|assumption|(simp; omega)|simp
   ·skip
    try simp (disch:=first|omega|assumption) only [E0_G,SY,setArgs,off,agreeKind,partVals,vals,allocV,boxed,ldA,rdCells,oneB,aggD,aField,aFieldV,aExtract,eq_self,ne_eq,if_true,if_false,not_false_eq_true,Nat.reduceAdd,Nat.reduceSub,Nat.reduceMul,Nat.reduceLT,Nat.reduceEqDiff,Nat.reduceBEq,reduceIte,Int.reduceEq,Int.reduceLT,Int.reduceLE,reduceCtorEq,TY_EvW3,g2_1,g2_2,g2_5,g2_6,g2_7,bb2_1,w3,h4a] at he
    rw [List.drop_eq_nil_of_le (show rn.legs.length≤i by omega)] at hd2
    have hf:=(show _=(p:Int) from rfl).symm.trans hd2
    refine .exit he ⟨rfl,⟨i,p,tm,?_,bb2_1,ga2,by omega,?_,hf.symm⟩⟩<;>first|(simp only [SY,setArgs,off,agreeKind,partVals,vals,allocV,boxed,ldA,rdCells,oneB,aggD,aField,aFieldV,aExtract,eq_self,ne_eq,if_true,if_false,not_false_eq_true,Nat.reduceAdd,Nat.reduceSub,Nat.reduceMul,Nat.reduceLT,Nat.reduceEqDiff,Nat.reduceBEq,reduceIte,Int.reduceEq,Int.reduceLT,Int.reduceLE,reduceCtorEq,g2_1,g2_2,g2_5,g2_6,g2_7]<;>rfl)|omega|assumption|(simp; omega)|simp)
 obtain ⟨rfl,i,p,tm,ge2_5,be2_1,ge2,gm2,hj2_0,hR2⟩:=hQ2
 obtain rfl:p=R72_0 rn a rn.legs 0 rn.micro rn.start:=hR2.symm
 try simp (disch:=first|omega|assumption) only [E0_G,SY,setArgs,off,agreeKind,partVals,vals,allocV,boxed,ldA,rdCells,oneB,aggD,aField,aFieldV,aExtract,eq_self,ne_eq,if_true,if_false,not_false_eq_true,Nat.reduceAdd,Nat.reduceSub,Nat.reduceMul,Nat.reduceLT,Nat.reduceEqDiff,Nat.reduceBEq,reduceIte,Int.reduceEq,Int.reduceLT,Int.reduceLE,reduceCtorEq,TY_EvW3,ge2_5,be2_1] at hz
 have hr:r72 rn a=R72_0 rn a rn.legs 0 rn.micro rn.start:=rfl
 exact fin hz (by rw [hr]) ge2
def R66_0 (rn:Rn)  : List Lg→Nat→Sum (Int) (Unit)
 | [],i=>.inr ()
 | x8 :: l',i=>(if x8.secs<1 then .inl 1 else (if 36000<x8.secs then .inl 1 else (if x8.rate=0 then R66_0 rn l' (i+1) else (if x8.rate<900000 then .inl 1 else (if 1100000<x8.rate then .inl 1 else R66_0 rn l' (i+1))))))
def r66 (rn:Rn):Int:=(if 40<(rn.legs.length:Int) then 2 else (if rn.start<0 then 1 else (if 1073741823<rn.start then 1 else (if rn.micro<0 then 1 else (if 43199999999<rn.micro then 1 else (onSum (R66_0 rn rn.legs 0) (fun (r2:Int)=>r2) (fun (_:Unit)=>(if 1073741823<(r71 rn) then 1 else (if 43199999999<(r72 rn (r71 rn)) then 1 else 0)))))))))
set_option maxHeartbeats 2000000 in
theorem c66 (rn:Rn) (hl:rn.legs.length≤60) (S:AS) (v_rn_legs:Value) (hv_rn_legs:Lst S v_rn_legs rn.legs) :
  ∃ S',(evL Tryz.prog E0).call 66 #[.agg #[.int .i64 rn.start,.int .i64 rn.micro,v_rn_legs]] S=some (.int .i64 (r66 rn),S')∧Agree S S':=by
 generalize hz:(evL Tryz.prog E0).call 66 _ _=z
 rw [L_call,evCall_said rfl Tryz.func66 rfl (by decide) Tryz.ntmps66 Tryz.results66] at hz
 obtain ⟨S1,e1,n1,b1,a1⟩:=push_open S (.cells [.int .i64 rn.start,.int .i64 rn.micro,v_rn_legs] 94 0 true true)
 have g1:Agree S S1:=a1
 have s1:E0.same S S1=true:=symEnv_same a1
 have w2:=(hv_rn_legs.agree g1).len (P:=Tryz.prog) (t:=92) Tryz.underlying92
 try simp (disch:=first|omega|assumption) only [E0_G,SY,setArgs,off,agreeKind,partVals,vals,allocV,boxed,ldA,rdCells,oneB,aggD,aField,aFieldV,aExtract,eq_self,ne_eq,if_true,if_false,not_false_eq_true,Nat.reduceAdd,Nat.reduceSub,Nat.reduceMul,Nat.reduceLT,Nat.reduceEqDiff,Nat.reduceBEq,reduceIte,Int.reduceEq,Int.reduceLT,Int.reduceLE,reduceCtorEq,TY_EvW3,s1,e1,b1,w2] at hz
 rcases dP (40<(rn.legs.length:Int)) with ⟨h3a,h3⟩|⟨h3a,h3⟩
 ·skip
  try simp (disch:=first|omega|assumption) only [E0_G,SY,setArgs,off,agreeKind,partVals,vals,allocV,boxed,ldA,rdCells,oneB,aggD,aField,aFieldV,aExtract,eq_self,ne_eq,if_true,if_false,not_false_eq_true,Nat.reduceAdd,Nat.reduceSub,Nat.reduceMul,Nat.reduceLT,Nat.reduceEqDiff,Nat.reduceBEq,reduceIte,Int.reduceEq,Int.reduceLT,Int.reduceLE,reduceCtorEq,TY_EvW3,s1,e1,b1,w2,h3a] at hz
  have hr:r66 rn=2:=(if_pos h3).trans (rfl)
  exact fin hz (by rw [hr]) g1
 ·skip
  try simp (disch:=first|omega|assumption) only [E0_G,SY,setArgs,off,agreeKind,partVals,vals,allocV,boxed,ldA,rdCells,oneB,aggD,aField,aFieldV,aExtract,eq_self,ne_eq,if_true,if_false,not_false_eq_true,Nat.reduceAdd,Nat.reduceSub,Nat.reduceMul,Nat.reduceLT,Nat.reduceEqDiff,Nat.reduceBEq,reduceIte,Int.reduceEq,Int.reduceLT,Int.reduceLE,reduceCtorEq,TY_EvW3,s1,e1,b1,w2,h3a] at hz
  rcases dP (rn.start<0) with ⟨h4a,h4⟩|⟨h4a,h4⟩
  ·skip
   try simp (disch:=first|omega|assumption) only [E0_G,SY,setArgs,off,agreeKind,partVals,vals,allocV,boxed,ldA,rdCells,oneB,aggD,aField,aFieldV,aExtract,eq_self,ne_eq,if_true,if_false,not_false_eq_true,Nat.reduceAdd,Nat.reduceSub,Nat.reduceMul,Nat.reduceLT,Nat.reduceEqDiff,Nat.reduceBEq,reduceIte,Int.reduceEq,Int.reduceLT,Int.reduceLE,reduceCtorEq,TY_EvW3,s1,e1,b1,w2,h3a,h4a] at hz
   have hr:r66 rn=1:=(if_neg h3).trans ((if_pos h4).trans (rfl))
   exact fin hz (by rw [hr]) g1
  ·skip
   try simp (disch:=first|omega|assumption) only [E0_G,SY,setArgs,off,agreeKind,partVals,vals,allocV,boxed,ldA,rdCells,oneB,aggD,aField,aFieldV,aExtract,eq_self,ne_eq,if_true,if_false,not_false_eq_true,Nat.reduceAdd,Nat.reduceSub,Nat.reduceMul,Nat.reduceLT,Nat.reduceEqDiff,Nat.reduceBEq,reduceIte,Int.reduceEq,Int.reduceLT,Int.reduceLE,reduceCtorEq,TY_EvW3,s1,e1,b1,w2,h3a,h4a] at hz
   rcases dP (1073741823<rn.start) with ⟨h5a,h5⟩|⟨h5a,h5⟩
   ·skip
    try simp (disch:=first|omega|assumption) only [E0_G,SY,setArgs,off,agreeKind,partVals,vals,allocV,boxed,ldA,rdCells,oneB,aggD,aField,aFieldV,aExtract,eq_self,ne_eq,if_true,if_false,not_false_eq_true,Nat.reduceAdd,Nat.reduceSub,Nat.reduceMul,Nat.reduceLT,Nat.reduceEqDiff,Nat.reduceBEq,reduceIte,Int.reduceEq,Int.reduceLT,Int.reduceLE,reduceCtorEq,TY_EvW3,s1,e1,b1,w2,h3a,h4a,h5a] at hz
    have hr:r66 rn=1:=(if_neg h3).trans ((if_neg h4).trans ((if_pos h5).trans (rfl)))
    exact fin hz (by rw [hr]) g1
   ·skip
    try simp (disch:=first|omega|assumption) only [E0_G,SY,setArgs,off,agreeKind,partVals,vals,allocV,boxed,ldA,rdCells,oneB,aggD,aField,aFieldV,aExtract,eq_self,ne_eq,if_true,if_false,not_false_eq_true,Nat.reduceAdd,Nat.reduceSub,Nat.reduceMul,Nat.reduceLT,Nat.reduceEqDiff,Nat.reduceBEq,reduceIte,Int.reduceEq,Int.reduceLT,Int.reduceLE,reduceCtorEq,TY_EvW3,s1,e1,b1,w2,h3a,h4a,h5a] at hz
    rcases dP (rn.micro<0) with ⟨h6a,h6⟩|⟨h6a,h6⟩
    ·skip
     try simp (disch:=first|omega|assumption) only [E0_G,SY,setArgs,off,agreeKind,partVals,vals,allocV,boxed,ldA,rdCells,oneB,aggD,aField,aFieldV,aExtract,eq_self,ne_eq,if_true,if_false,not_false_eq_true,Nat.reduceAdd,Nat.reduceSub,Nat.reduceMul,Nat.reduceLT,Nat.reduceEqDiff,Nat.reduceBEq,reduceIte,Int.reduceEq,Int.reduceLT,Int.reduceLE,reduceCtorEq,TY_EvW3,s1,e1,b1,w2,h3a,h4a,h5a,h6a] at hz
     have hr:r66 rn=1:=(if_neg h3).trans ((if_neg h4).trans ((if_neg h5).trans ((if_pos h6).trans (rfl))))
     exact fin hz (by rw [hr]) g1
    ·skip
     try simp (disch:=first|omega|assumption) only [E0_G,SY,setArgs,off,agreeKind,partVals,vals,allocV,boxed,ldA,rdCells,oneB,aggD,aField,aFieldV,aExtract,eq_self,ne_eq,if_true,if_false,not_false_eq_true,Nat.reduceAdd,Nat.reduceSub,Nat.reduceMul,Nat.reduceLT,Nat.reduceEqDiff,Nat.reduceBEq,reduceIte,Int.reduceEq,Int.reduceLT,Int.reduceLE,reduceCtorEq,TY_EvW3,s1,e1,b1,w2,h3a,h4a,h5a,h6a] at hz
     rcases dP (43199999999<rn.micro) with ⟨h7a,h7⟩|⟨h7a,h7⟩
     ·skip
      try simp (disch:=first|omega|assumption) only [E0_G,SY,setArgs,off,agreeKind,partVals,vals,allocV,boxed,ldA,rdCells,oneB,aggD,aField,aFieldV,aExtract,eq_self,ne_eq,if_true,if_false,not_false_eq_true,Nat.reduceAdd,Nat.reduceSub,Nat.reduceMul,Nat.reduceLT,Nat.reduceEqDiff,Nat.reduceBEq,reduceIte,Int.reduceEq,Int.reduceLT,Int.reduceLE,reduceCtorEq,TY_EvW3,s1,e1,b1,w2,h3a,h4a,h5a,h6a,h7a] at hz
      have hr:r66 rn=1:=(if_neg h3).trans ((if_neg h4).trans ((if_neg h5).trans ((if_neg h6).trans ((if_pos h7).trans (rfl)))))
      exact fin hz (by rw [hr]) g1
     ·skip
      try simp (disch:=first|omega|assumption) only [E0_G,SY,setArgs,off,agreeKind,partVals,vals,allocV,boxed,ldA,rdCells,oneB,aggD,aField,aFieldV,aExtract,eq_self,ne_eq,if_true,if_false,not_false_eq_true,Nat.reduceAdd,Nat.reduceSub,Nat.reduceMul,Nat.reduceLT,Nat.reduceEqDiff,Nat.reduceBEq,reduceIte,Int.reduceEq,Int.reduceLT,Int.reduceLE,reduceCtorEq,TY_EvW3,s1,e1,b1,w2,h3a,h4a,h5a,h6a,h7a] at hz
      generalize hL8:Rec.loop _ _ _ _=L8 at hz
      obtain ⟨x8,t8,S8e,rfl,hQ8⟩:=loop_met hL8 (fun m t S'=>∃ (i:Nat),m+i=rn.legs.length∧i≤rn.legs.length∧t.get 1=some (.pointer (some ⟨S.next,0,none⟩))∧t.get 3=some (.int .i64 (i:Int))∧S'.heap.get S.next=some (.cells [.int .i64 rn.start,.int .i64 rn.micro,v_rn_legs] 94 0 true true)∧Agree S S'∧S1.next≤S'.next∧R66_0 rn (rn.legs.drop i) i=R66_0 rn rn.legs 0)
       (fun x t S'=>(x=.exit 0∧∃ (i:Nat),t.get 1=some (.pointer (some ⟨S.next,0,none⟩))∧S'.heap.get S.next=some (.cells [.int .i64 rn.start,.int .i64 rn.micro,v_rn_legs] 94 0 true true)∧Agree S S'∧S1.next≤S'.next∧i≤rn.legs.length∧R66_0 rn rn.legs 0=.inr ())∨(x=.ret∧∃ (r2:Int),t.get 2=some (.int .i64 r2)∧Agree S S'∧R66_0 rn rn.legs 0=.inl (r2))) (rn.legs.length - 0) (by refine ⟨0,?_,?_,?_,?_,b1,g1,Nat.le_refl _,rfl⟩<;>first|(simp only [SY,setArgs,off,agreeKind,partVals,vals,allocV,boxed,ldA,rdCells,oneB,aggD,aField,aFieldV,aExtract,eq_self,ne_eq,if_true,if_false,not_false_eq_true,Nat.reduceAdd,Nat.reduceSub,Nat.reduceMul,Nat.reduceLT,Nat.reduceEqDiff,Nat.reduceBEq,reduceIte,Int.reduceEq,Int.reduceLT,Int.reduceLE,reduceCtorEq]<;>rfl)|omega|assumption|(simp; omega)|simp) (by
        rintro m t S8 ⟨i,hi8_0,hi8_1,g8_1,g8_3,bb8_1,ga8,gn8,hd8⟩
        refine .run fun z he=>?_
        have w9:=(hv_rn_legs.agree ga8).len (P:=Tryz.prog) (t:=92) Tryz.underlying92
        try simp (disch:=first|omega|assumption) only [E0_G,SY,setArgs,off,agreeKind,partVals,vals,allocV,boxed,ldA,rdCells,oneB,aggD,aField,aFieldV,aExtract,eq_self,ne_eq,if_true,if_false,not_false_eq_true,Nat.reduceAdd,Nat.reduceSub,Nat.reduceMul,Nat.reduceLT,Nat.reduceEqDiff,Nat.reduceBEq,reduceIte,Int.reduceEq,Int.reduceLT,Int.reduceLE,reduceCtorEq,TY_EvW3,g8_1,g8_3,bb8_1,w2,h3a,h4a,h5a,h6a,h7a,w9] at he
        rcases dP ((i:Int)<(rn.legs.length:Int)) with ⟨h10a,h10⟩|⟨h10a,h10⟩
        ·skip
         have hx8:rn.legs[i]?=some (rn.legs[i]'(by first|omega|simp; omega)):=List.getElem?_eq_getElem _
         generalize rn.legs[i]'_=x8 at hx8
         obtain ⟨id11,of11,cc11,ty11,wr11,ex11,i11,j11,l11,q11⟩:=(hv_rn_legs).at (P:=Tryz.prog) (t:=92) Tryz.underlying92 tz104 hx8
         have jr11:=j11
         have j11:=(ga8.2 id11 l11).trans jr11
         have m11_0:cc11[of11]?=some (.int .i64 x8.secs):=q11 0 (show 0<2 by decide)
         have m11_1:cc11[of11+1]?=some (.int .i64 x8.rate):=q11 1 (show 1<2 by decide)
         obtain ⟨S12,e12,n12,b12,a12⟩:=push_open S8 (.cells [.int .i64 0,.int .i64 0] 104 0 true true)
         have v1_12:=(a12.2 S.next (by omega)).trans bb8_1
         have v11_12:=(a12.2 id11 (by omega)).trans j11
         have g12:Agree S S12:=ga8.trans a12
         have s12:E0.same S8 S12=true:=symEnv_same a12
         obtain ⟨S13,k13,n13,b13,q13⟩:=st_at (o:=0) (c':=[.int .i64 x8.secs,.int .i64 x8.rate]) (v:=.agg #[.int .i64 x8.secs,.int .i64 x8.rate]) tz104 b12 rfl rfl (show 0+2≤2 by decide) rfl
         have v1_13:=(q13 S.next (by omega)).trans v1_12
         have v11_13:=(q13 id11 (by omega)).trans v11_12
         have g13:Agree S S13:=⟨by have:=(g12).1; omega,fun id hid=>(q13 id (by have:=(g12).1; omega)).trans ((g12).2 id hid)⟩
         try simp (disch:=first|omega|assumption) only [E0_G,SY,setArgs,off,agreeKind,partVals,vals,allocV,boxed,ldA,rdCells,oneB,aggD,aField,aFieldV,aExtract,eq_self,ne_eq,if_true,if_false,not_false_eq_true,Nat.reduceAdd,Nat.reduceSub,Nat.reduceMul,Nat.reduceLT,Nat.reduceEqDiff,Nat.reduceBEq,reduceIte,Int.reduceEq,Int.reduceLT,Int.reduceLE,reduceCtorEq,TY_EvW3,g8_1,g8_3,bb8_1,w2,h3a,h4a,h5a,h6a,h7a,w9,h10a,i11,j11,m11_0,m11_1,v1_12,v11_12,s12,e12,b12,v1_13,v11_13,k13,b13] at he
         rcases dP (x8.secs<1) with ⟨h14a,h14⟩|⟨h14a,h14⟩
         ·skip
          try simp (disch:=first|omega|assumption) only [E0_G,SY,setArgs,off,agreeKind,partVals,vals,allocV,boxed,ldA,rdCells,oneB,aggD,aField,aFieldV,aExtract,eq_self,ne_eq,if_true,if_false,not_false_eq_true,Nat.reduceAdd,Nat.reduceSub,Nat.reduceMul,Nat.reduceLT,Nat.reduceEqDiff,Nat.reduceBEq,reduceIte,Int.reduceEq,Int.reduceLT,Int.reduceLE,reduceCtorEq,TY_EvW3,g8_1,g8_3,bb8_1,w2,h3a,h4a,h5a,h6a,h7a,w9,h10a,i11,j11,m11_0,m11_1,v1_12,v11_12,s12,e12,b12,v1_13,v11_13,k13,b13,h14a] at he
          rw [drop_cons' hx8] at hd8
          have hf:=(show _=(.inl 1:Sum (Int) (Unit)) from (if_pos h14).trans (rfl)).symm.trans hd8
          refine .ret he (.inr ⟨rfl,⟨1,?_,g13,hf.symm⟩⟩)<;>first|(simp only [SY,setArgs,off,agreeKind,partVals,vals,allocV,boxed,ldA,rdCells,oneB,aggD,aField,aFieldV,aExtract,eq_self,ne_eq,if_true,if_false,not_false_eq_true,Nat.reduceAdd,Nat.reduceSub,Nat.reduceMul,Nat.reduceLT,Nat.reduceEqDiff,Nat.reduceBEq,reduceIte,Int.reduceEq,Int.reduceLT,Int.reduceLE,reduceCtorEq,g8_1,g8_3]<;>rfl)|omega|assumption|(simp; omega)|simp
         ·skip
          try simp (disch:=first|omega|assumption) only [E0_G,SY,setArgs,off,agreeKind,partVals,vals,allocV,boxed,ldA,rdCells,oneB,aggD,aField,aFieldV,aExtract,eq_self,ne_eq,if_true,if_false,not_false_eq_true,Nat.reduceAdd,Nat.reduceSub,Nat.reduceMul,Nat.reduceLT,Nat.reduceEqDiff,Nat.reduceBEq,reduceIte,Int.reduceEq,Int.reduceLT,Int.reduceLE,reduceCtorEq,TY_EvW3,g8_1,g8_3,bb8_1,w2,h3a,h4a,h5a,h6a,h7a,w9,h10a,i11,j11,m11_0,m11_1,v1_12,v11_12,s12,e12,b12,v1_13,v11_13,k13,b13,h14a] at he
          rcases dP (36000<x8.secs) with ⟨h15a,h15⟩|⟨h15a,h15⟩
          ·skip
           try simp (disch:=first|omega|assumption) only [E0_G,SY,setArgs,off,agreeKind,partVals,vals,allocV,boxed,ldA,rdCells,oneB,aggD,aField,aFieldV,aExtract,eq_self,ne_eq,if_true,if_false,not_false_eq_true,Nat.reduceAdd,Nat.reduceSub,Nat.reduceMul,Nat.reduceLT,Nat.reduceEqDiff,Nat.reduceBEq,reduceIte,Int.reduceEq,Int.reduceLT,Int.reduceLE,reduceCtorEq,TY_EvW3,g8_1,g8_3,bb8_1,w2,h3a,h4a,h5a,h6a,h7a,w9,h10a,i11,j11,m11_0,m11_1,v1_12,v11_12,s12,e12,b12,v1_13,v11_13,k13,b13,h14a,h15a] at he
           rw [drop_cons' hx8] at hd8
           have hf:=(show _=(.inl 1:Sum (Int) (Unit)) from (if_neg h14).trans ((if_pos h15).trans (rfl))).symm.trans hd8
           refine .ret he (.inr ⟨rfl,⟨1,?_,g13,hf.symm⟩⟩)<;>first|(simp only [SY,setArgs,off,agreeKind,partVals,vals,allocV,boxed,ldA,rdCells,oneB,aggD,aField,aFieldV,aExtract,eq_self,ne_eq,if_true,if_false,not_false_eq_true,Nat.reduceAdd,Nat.reduceSub,Nat.reduceMul,Nat.reduceLT,Nat.reduceEqDiff,Nat.reduceBEq,reduceIte,Int.reduceEq,Int.reduceLT,Int.reduceLE,reduceCtorEq,g8_1,g8_3]<;>rfl)|omega|assumption|(simp; omega)|simp
          ·skip
           try simp (disch:=first|omega|assumption) only [E0_G,SY,setArgs,off,agreeKind,partVals,vals,allocV,boxed,ldA,rdCells,oneB,aggD,aField,aFieldV,aExtract,eq_self,ne_eq,if_true,if_false,not_false_eq_true,Nat.reduceAdd,Nat.reduceSub,Nat.reduceMul,Nat.reduceLT,Nat.reduceEqDiff,Nat.reduceBEq,reduceIte,Int.reduceEq,Int.reduceLT,Int.reduceLE,reduceCtorEq,TY_EvW3,g8_1,g8_3,bb8_1,w2,h3a,h4a,h5a,h6a,h7a,w9,h10a,i11,j11,m11_0,m11_1,v1_12,v11_12,s12,e12,b12,v1_13,v11_13,k13,b13,h14a,h15a] at he
           rcases dP (x8.rate=0) with ⟨h16a,h16⟩|⟨h16a,h16⟩
           ·skip
            have w17:IntKind.i64.wrap ((i:Int)+1)=((i+1:Nat):Int):=by rw [IntWalk.i64_in]<;>omega
            try simp (disch:=first|omega|assumption) only [E0_G,SY,setArgs,off,agreeKind,partVals,vals,allocV,boxed,ldA,rdCells,oneB,aggD,aField,aFieldV,aExtract,eq_self,ne_eq,if_true,if_false,not_false_eq_true,Nat.reduceAdd,Nat.reduceSub,Nat.reduceMul,Nat.reduceLT,Nat.reduceEqDiff,Nat.reduceBEq,reduceIte,Int.reduceEq,Int.reduceLT,Int.reduceLE,reduceCtorEq,TY_EvW3,g8_1,g8_3,bb8_1,w2,h3a,h4a,h5a,h6a,h7a,w9,h10a,i11,j11,m11_0,m11_1,v1_12,v11_12,s12,e12,b12,v1_13,v11_13,k13,b13,h14a,h15a,h16a,w17] at he
            rw [drop_cons' hx8] at hd8
            have hf:=(show _=(R66_0 rn (rn.legs.drop (i+1)) (i+1):Sum (Int) (Unit)) from (if_neg h14).trans ((if_neg h15).trans ((if_pos h16).trans (rfl)))).symm.trans hd8
            refine .next he (m - 1) (by omega) ⟨(i+1),?_,?_,?_,?_,v1_13,g13,by omega,hf⟩<;>first|(simp only [SY,setArgs,off,agreeKind,partVals,vals,allocV,boxed,ldA,rdCells,oneB,aggD,aField,aFieldV,aExtract,eq_self,ne_eq,if_true,if_false,not_false_eq_true,Nat.reduceAdd,Nat.reduceSub,Nat.reduceMul,Nat.reduceLT,Nat.reduceEqDiff,Nat.reduceBEq,reduceIte,Int.reduceEq,Int.reduceLT,Int.reduceLE,reduceCtorEq,g8_1,g8_3]<;>rfl)|omega|assumption|(simp; omega)|simp
           ·skip
            try simp (disch:=first|omega|assumption) only [E0_G,SY,setArgs,off,agreeKind,partVals,vals,allocV,boxed,ldA,rdCells,oneB,aggD,aField,aFieldV,aExtract,eq_self,ne_eq,if_true,if_false,not_false_eq_true,Nat.reduceAdd,Nat.reduceSub,Nat.reduceMul,Nat.reduceLT,Nat.reduceEqDiff,Nat.reduceBEq,reduceIte,Int.reduceEq,Int.reduceLT,Int.reduceLE,reduceCtorEq,TY_EvW3,g8_1,g8_3,bb8_1,w2,h3a,h4a,h5a,h6a,h7a,w9,h10a,i11,j11,m11_0,m11_1,v1_12,v11_12,s12,e12,b12,v1_13,v11_13,k13,b13,h14a,h15a,h16a] at he
            rcases dP (x8.rate<900000) with ⟨h18a,h18⟩|⟨h18a,h18⟩
            ·skip
             try simp (disch:=first|omega|assumption) only [E0_G,SY,setArgs,off,agreeKind,partVals,vals,allocV,boxed,ldA,rdCells,oneB,aggD,aField,aFieldV,aExtract,eq_self,ne_eq,if_true,if_false,not_false_eq_true,Nat.reduceAdd,Nat.reduceSub,Nat.reduceMul,Nat.reduceLT,Nat.reduceEqDiff,Nat.reduceBEq,reduceIte,Int.reduceEq,Int.reduceLT,Int.reduceLE,reduceCtorEq,TY_EvW3,g8_1,g8_3,bb8_1,w2,h3a,h4a,h5a,h6a,h7a,w9,h10a,i11,j11,m11_0,m11_1,v1_12,v11_12,s12,e12,b12,v1_13,v11_13,k13,b13,h14a,h15a,h16a,h18a] at he
             rw [drop_cons' hx8] at hd8
             have hf:=(show _=(.inl 1:Sum (Int) (Unit)) from (if_neg h14).trans ((if_neg h15).trans ((if_neg h16).trans ((if_pos h18).trans (rfl))))).symm.trans hd8
             refine .ret he (.inr ⟨rfl,⟨1,?_,g13,hf.symm⟩⟩)<;>first|(simp only [SY,setArgs,off,agreeKind,partVals,vals,allocV,boxed,ldA,rdCells,oneB,aggD,aField,aFieldV,aExtract,eq_self,ne_eq,if_true,if_false,not_false_eq_true,Nat.reduceAdd,Nat.reduceSub,Nat.reduceMul,Nat.reduceLT,Nat.reduceEqDiff,Nat.reduceBEq,reduceIte,Int.reduceEq,Int.reduceLT,Int.reduceLE,reduceCtorEq,g8_1,g8_3]<;>rfl)|omega|assumption|(simp; omega)|simp
            ·skip
             try simp (disch:=first|omega|assumption) only [E0_G,SY,setArgs,off,agreeKind,partVals,vals,allocV,boxed,ldA,rdCells,oneB,aggD,aField,aFieldV,aExtract,eq_self,ne_eq,if_true,if_false,not_false_eq_true,Nat.reduceAdd,Nat.reduceSub,Nat.reduceMul,Nat.reduceLT,Nat.reduceEqDiff,Nat.reduceBEq,reduceIte,Int.reduceEq,Int.reduceLT,Int.reduceLE,reduceCtorEq,TY_EvW3,g8_1,g8_3,bb8_1,w2,h3a,h4a,h5a,h6a,h7a,w9,h10a,i11,j11,m11_0,m11_1,v1_12,v11_12,s12,e12,b12,v1_13,v11_13,k13,b13,h14a,h15a,h16a,h18a] at he
             rcases dP (1100000<x8.rate) with ⟨h19a,h19⟩|⟨h19a,h19⟩
             ·skip
              try simp (disch:=first|omega|assumption) only [E0_G,SY,setArgs,off,agreeKind,partVals,vals,allocV,boxed,ldA,rdCells,oneB,aggD,aField,aFieldV,aExtract,eq_self,ne_eq,if_true,if_false,not_false_eq_true,Nat.reduceAdd,Nat.reduceSub,Nat.reduceMul,Nat.reduceLT,Nat.reduceEqDiff,Nat.reduceBEq,reduceIte,Int.reduceEq,Int.reduceLT,Int.reduceLE,reduceCtorEq,TY_EvW3,g8_1,g8_3,bb8_1,w2,h3a,h4a,h5a,h6a,h7a,w9,h10a,i11,j11,m11_0,m11_1,v1_12,v11_12,s12,e12,b12,v1_13,v11_13,k13,b13,h14a,h15a,h16a,h18a,h19a] at he
              rw [drop_cons' hx8] at hd8
              have hf:=(show _=(.inl 1:Sum (Int) (Unit)) from (if_neg h14).trans ((if_neg h15).trans ((if_neg h16).trans ((if_neg h18).trans ((if_pos h19).trans (rfl)))))).symm.trans hd8
              refine .ret he (.inr ⟨rfl,⟨1,?_,g13,hf.symm⟩⟩)<;>first|(simp only [SY,setArgs,off,agreeKind,partVals,vals,allocV,boxed,ldA,rdCells,oneB,aggD,aField,aFieldV,aExtract,eq_self,ne_eq,if_true,if_false,not_false_eq_true,Nat.reduceAdd,Nat.reduceSub,Nat.reduceMul,Nat.reduceLT,Nat.reduceEqDiff,Nat.reduceBEq,reduceIte,Int.reduceEq,Int.reduceLT,Int.reduceLE,reduceCtorEq,g8_1,g8_3]<;>rfl)|omega|assumption|(simp; omega)|simp
             ·skip
              have w20:IntKind.i64.wrap ((i:Int)+1)=((i+1:Nat):Int):=by rw [IntWalk.i64_in]<;>omega
              try simp (disch:=first|omega|assumption) only [E0_G,SY,setArgs,off,agreeKind,partVals,vals,allocV,boxed,ldA,rdCells,oneB,aggD,aField,aFieldV,aExtract,eq_self,ne_eq,if_true,if_false,not_false_eq_true,Nat.reduceAdd,Nat.reduceSub,Nat.reduceMul,Nat.reduceLT,Nat.reduceEqDiff,Nat.reduceBEq,reduceIte,Int.reduceEq,Int.reduceLT,Int.reduceLE,reduceCtorEq,TY_EvW3,g8_1,g8_3,bb8_1,w2,h3a,h4a,h5a,h6a,h7a,w9,h10a,i11,j11,m11_0,m11_1,v1_12,v11_12,s12,e12,b12,v1_13,v11_13,k13,b13,h14a,h15a,h16a,h18a,h19a,w20] at he
              rw [drop_cons' hx8] at hd8
              have hf:=(show _=(R66_0 rn (rn.legs.drop (i+1)) (i+1):Sum (Int) (Unit)) from (if_neg h14).trans ((if_neg h15).trans ((if_neg h16).trans ((if_neg h18).trans ((if_neg h19).trans (rfl)))))).symm.trans hd8
              refine .next he (m - 1) (by omega) ⟨(i+1),?_,?_,?_,?_,v1_13,g13,by omega,hf⟩<;>first|(simp only [SY,setArgs,off,agreeKind,partVals,vals,allocV,boxed,ldA,rdCells,oneB,aggD,aField,aFieldV,aExtract,eq_self,ne_eq,if_true,if_false,not_false_eq_true,Nat.reduceAdd,Nat.reduceSub,Nat.reduceMul,Nat.reduceLT,Nat.reduceEqDiff,Nat.reduceBEq,reduceIte,Int.reduceEq,Int.reduceLT,Int.reduceLE,reduceCtorEq,g8_1,g8_3]<;>rfl)|omega|assumption|(simp; omega)|simp
        ·skip
         try simp (disch:=first|omega|assumption) only [E0_G,SY,setArgs,off,agreeKind,partVals,vals,allocV,boxed,ldA,rdCells,oneB,aggD,aField,aFieldV,aExtract,eq_self,ne_eq,if_true,if_false,not_false_eq_true,Nat.reduceAdd,Nat.reduceSub,Nat.reduceMul,Nat.reduceLT,Nat.reduceEqDiff,Nat.reduceBEq,reduceIte,Int.reduceEq,Int.reduceLT,Int.reduceLE,reduceCtorEq,TY_EvW3,g8_1,g8_3,bb8_1,w2,h3a,h4a,h5a,h6a,h7a,w9,h10a] at he
         rw [List.drop_eq_nil_of_le (show rn.legs.length≤i by omega)] at hd8
         have hf:=(show _=(.inr ():Sum (Int) (Unit)) from rfl).symm.trans hd8
         refine .exit he (.inl ⟨rfl,⟨i,?_,bb8_1,ga8,by omega,?_,hf.symm⟩⟩)<;>first|(simp only [SY,setArgs,off,agreeKind,partVals,vals,allocV,boxed,ldA,rdCells,oneB,aggD,aField,aFieldV,aExtract,eq_self,ne_eq,if_true,if_false,not_false_eq_true,Nat.reduceAdd,Nat.reduceSub,Nat.reduceMul,Nat.reduceLT,Nat.reduceEqDiff,Nat.reduceBEq,reduceIte,Int.reduceEq,Int.reduceLT,Int.reduceLE,reduceCtorEq,g8_1,g8_3]<;>rfl)|omega|assumption|(simp; omega)|simp)
      rcases hQ8 with ⟨rfl,hQ8⟩|⟨rfl,hQ8⟩
      ·skip
       obtain ⟨i,ge8_1,be8_1,ge8,gm8,hj8_0,hR8⟩:=hQ8
       try simp (disch:=first|omega|assumption) only [E0_G,SY,setArgs,off,agreeKind,partVals,vals,allocV,boxed,ldA,rdCells,oneB,aggD,aField,aFieldV,aExtract,eq_self,ne_eq,if_true,if_false,not_false_eq_true,Nat.reduceAdd,Nat.reduceSub,Nat.reduceMul,Nat.reduceLT,Nat.reduceEqDiff,Nat.reduceBEq,reduceIte,Int.reduceEq,Int.reduceLT,Int.reduceLE,reduceCtorEq,TY_EvW3,w2,h3a,h4a,h5a,h6a,h7a,ge8_1,be8_1] at hz
       rw [code_draws _ _ _ (by kernel_rfl)] at hz
       generalize hnd22:needy _=nd22 at hz
       obtain ⟨S23,k23,a23⟩:=c71 rn (by first|omega|assumption) S8e (v_rn_legs) (hv_rn_legs.agree ge8)
       have l23:=a23.1
       have s23:E0.same S8e S23=true:=symEnv_same a23
       have v1_23:=(a23.2 S.next (by omega)).trans be8_1
       have g23:Agree S S23:=ge8.trans a23
       try simp (disch:=first|omega|assumption) only [E0_G,SY,setArgs,off,agreeKind,partVals,vals,allocV,boxed,ldA,rdCells,oneB,aggD,aField,aFieldV,aExtract,eq_self,ne_eq,if_true,if_false,not_false_eq_true,Nat.reduceAdd,Nat.reduceSub,Nat.reduceMul,Nat.reduceLT,Nat.reduceEqDiff,Nat.reduceBEq,reduceIte,Int.reduceEq,Int.reduceLT,Int.reduceLE,reduceCtorEq,TY_EvW3,w2,h3a,h4a,h5a,h6a,h7a,ge8_1,be8_1,store_agree,store_refl E0_same,k23,s23,v1_23] at hz
       rcases dP (1073741823<(r71 rn)) with ⟨h24a,h24⟩|⟨h24a,h24⟩
       ·skip
        try simp (disch:=first|omega|assumption) only [E0_G,SY,setArgs,off,agreeKind,partVals,vals,allocV,boxed,ldA,rdCells,oneB,aggD,aField,aFieldV,aExtract,eq_self,ne_eq,if_true,if_false,not_false_eq_true,Nat.reduceAdd,Nat.reduceSub,Nat.reduceMul,Nat.reduceLT,Nat.reduceEqDiff,Nat.reduceBEq,reduceIte,Int.reduceEq,Int.reduceLT,Int.reduceLE,reduceCtorEq,TY_EvW3,w2,h3a,h4a,h5a,h6a,h7a,ge8_1,be8_1,store_agree,store_refl E0_same,k23,s23,v1_23,h24a] at hz
        have hr:r66 rn=1:=(if_neg h3).trans ((if_neg h4).trans ((if_neg h5).trans ((if_neg h6).trans ((if_neg h7).trans ((onSum_inr hR8).trans ((if_pos h24).trans (rfl)))))))
        exact fin hz (by rw [hr]) g23
       ·skip
        obtain ⟨S25,k25,a25⟩:=c71 rn (by first|omega|assumption) S23 (v_rn_legs) (hv_rn_legs.agree g23)
        have l25:=a25.1
        have s25:E0.same S23 S25=true:=symEnv_same a25
        have v1_25:=(a25.2 S.next (by omega)).trans v1_23
        have g25:Agree S S25:=g23.trans a25
        obtain ⟨S26,k26,a26⟩:=c72 rn (r71 rn) (by first|omega|assumption) S25 (v_rn_legs) (hv_rn_legs.agree g25)
        have l26:=a26.1
        have s26:E0.same S25 S26=true:=symEnv_same a26
        have v1_26:=(a26.2 S.next (by omega)).trans v1_25
        have g26:Agree S S26:=g25.trans a26
        try simp (disch:=first|omega|assumption) only [E0_G,SY,setArgs,off,agreeKind,partVals,vals,allocV,boxed,ldA,rdCells,oneB,aggD,aField,aFieldV,aExtract,eq_self,ne_eq,if_true,if_false,not_false_eq_true,Nat.reduceAdd,Nat.reduceSub,Nat.reduceMul,Nat.reduceLT,Nat.reduceEqDiff,Nat.reduceBEq,reduceIte,Int.reduceEq,Int.reduceLT,Int.reduceLE,reduceCtorEq,TY_EvW3,w2,h3a,h4a,h5a,h6a,h7a,ge8_1,be8_1,store_agree,store_refl E0_same,k23,s23,v1_23,h24a,k25,s25,v1_25,k26,s26,v1_26] at hz
        rcases dP (43199999999<(r72 rn (r71 rn))) with ⟨h27a,h27⟩|⟨h27a,h27⟩
        ·skip
         try simp (disch:=first|omega|assumption) only [E0_G,SY,setArgs,off,agreeKind,partVals,vals,allocV,boxed,ldA,rdCells,oneB,aggD,aField,aFieldV,aExtract,eq_self,ne_eq,if_true,if_false,not_false_eq_true,Nat.reduceAdd,Nat.reduceSub,Nat.reduceMul,Nat.reduceLT,Nat.reduceEqDiff,Nat.reduceBEq,reduceIte,Int.reduceEq,Int.reduceLT,Int.reduceLE,reduceCtorEq,TY_EvW3,w2,h3a,h4a,h5a,h6a,h7a,ge8_1,be8_1,store_agree,store_refl E0_same,k23,s23,v1_23,h24a,k25,s25,v1_25,k26,s26,v1_26,h27a] at hz
         have hr:r66 rn=1:=(if_neg h3).trans ((if_neg h4).trans ((if_neg h5).trans ((if_neg h6).trans ((if_neg h7).trans ((onSum_inr hR8).trans ((if_neg h24).trans ((if_pos h27).trans (rfl))))))))
         exact fin hz (by rw [hr]) g26
        ·skip
         try simp (disch:=first|omega|assumption) only [E0_G,SY,setArgs,off,agreeKind,partVals,vals,allocV,boxed,ldA,rdCells,oneB,aggD,aField,aFieldV,aExtract,eq_self,ne_eq,if_true,if_false,not_false_eq_true,Nat.reduceAdd,Nat.reduceSub,Nat.reduceMul,Nat.reduceLT,Nat.reduceEqDiff,Nat.reduceBEq,reduceIte,Int.reduceEq,Int.reduceLT,Int.reduceLE,reduceCtorEq,TY_EvW3,w2,h3a,h4a,h5a,h6a,h7a,ge8_1,be8_1,store_agree,store_refl E0_same,k23,s23,v1_23,h24a,k25,s25,v1_25,k26,s26,v1_26,h27a] at hz
         have hr:r66 rn=0:=(if_neg h3).trans ((if_neg h4).trans ((if_neg h5).trans ((if_neg h6).trans ((if_neg h7).trans ((onSum_inr hR8).trans ((if_neg h24).trans ((if_neg h27).trans (rfl))))))))
         exact fin hz (by rw [hr]) g26
      ·skip
       obtain ⟨r2,ge8_2,ge8,hR8⟩:=hQ8
       try simp (disch:=first|omega|assumption) only [E0_G,SY,setArgs,off,agreeKind,partVals,vals,allocV,boxed,ldA,rdCells,oneB,aggD,aField,aFieldV,aExtract,eq_self,ne_eq,if_true,if_false,not_false_eq_true,Nat.reduceAdd,Nat.reduceSub,Nat.reduceMul,Nat.reduceLT,Nat.reduceEqDiff,Nat.reduceBEq,reduceIte,Int.reduceEq,Int.reduceLT,Int.reduceLE,reduceCtorEq,TY_EvW3,w2,h3a,h4a,h5a,h6a,h7a,ge8_2] at hz
       have hr:r66 rn=r2:=(if_neg h3).trans ((if_neg h4).trans ((if_neg h5).trans ((if_neg h6).trans ((if_neg h7).trans ((onSum_inl hR8).trans (rfl))))))
       exact fin hz (by rw [hr]) ge8
def R125_0 (rn:Rn) (a:Int)  : List Lg→Nat→Int→Int→Int
 | [],i,u,tm=>u
 | x2 :: l',i,u,tm=>(if x2.rate=0 then (if (IntKind.i64.wrap (Int.tdiv (r72 rn tm) 1000000))=a then R125_0 rn a l' (i+1) (IntKind.i64.wrap (u+x2.secs)) (IntKind.i64.wrap (tm+x2.secs)) else R125_0 rn a l' (i+1) u (IntKind.i64.wrap (tm+x2.secs))) else R125_0 rn a l' (i+1) u (IntKind.i64.wrap (tm+x2.secs)))
def r125 (rn:Rn) (a:Int):Int:=R125_0 rn a rn.legs 0 0 rn.start
set_option maxHeartbeats 2000000 in
theorem c125 (rn:Rn) (a:Int) (hl:rn.legs.length≤60) (S:AS) (v_rn_legs:Value) (hv_rn_legs:Lst S v_rn_legs rn.legs) :
  ∃ S',(evL Tryz.prog E0).call 125 #[.agg #[.int .i64 rn.start,.int .i64 rn.micro,v_rn_legs],.int .i64 a] S=some (.int .i64 (r125 rn a),S')∧Agree S S':=by
 generalize hz:(evL Tryz.prog E0).call 125 _ _=z
 rw [L_call,evCall_said rfl Tryz.func125 rfl (by decide) Tryz.ntmps125 Tryz.results125] at hz
 obtain ⟨S1,e1,n1,b1,a1⟩:=push_open S (.cells [.int .i64 rn.start,.int .i64 rn.micro,v_rn_legs] 94 0 true true)
 have g1:Agree S S1:=a1
 have s1:E0.same S S1=true:=symEnv_same a1
 try simp (disch:=first|omega|assumption) only [E0_G,SY,setArgs,off,agreeKind,partVals,vals,allocV,boxed,ldA,rdCells,oneB,aggD,aField,aFieldV,aExtract,eq_self,ne_eq,if_true,if_false,not_false_eq_true,Nat.reduceAdd,Nat.reduceSub,Nat.reduceMul,Nat.reduceLT,Nat.reduceEqDiff,Nat.reduceBEq,reduceIte,Int.reduceEq,Int.reduceLT,Int.reduceLE,reduceCtorEq,TY_EvW3,s1,e1,b1] at hz
 generalize hL2:Rec.loop _ _ _ _=L2 at hz
 obtain ⟨x2,t2,S2e,rfl,hQ2⟩:=loop_met hL2 (fun m t S'=>∃ (i:Nat) (u:Int) (tm:Int),m+i=rn.legs.length∧i≤rn.legs.length∧t.get 1=some (.int .i64 a)∧t.get 2=some (.pointer (some ⟨S.next,0,none⟩))∧t.get 5=some (.int .i64 u)∧t.get 6=some (.int .i64 tm)∧t.get 7=some (.int .i64 (i:Int))∧S'.heap.get S.next=some (.cells [.int .i64 rn.start,.int .i64 rn.micro,v_rn_legs] 94 0 true true)∧Agree S S'∧S1.next≤S'.next∧R125_0 rn a (rn.legs.drop i) i u tm=R125_0 rn a rn.legs 0 0 rn.start)
  (fun x t S'=>x=.exit 0∧∃ (i:Nat) (u:Int) (tm:Int),t.get 5=some (.int .i64 u)∧S'.heap.get S.next=some (.cells [.int .i64 rn.start,.int .i64 rn.micro,v_rn_legs] 94 0 true true)∧Agree S S'∧S1.next≤S'.next∧i≤rn.legs.length∧R125_0 rn a rn.legs 0 0 rn.start=u) (rn.legs.length - 0) (by refine ⟨0,0,rn.start,?_,?_,?_,?_,?_,?_,?_,b1,g1,Nat.le_refl _,rfl⟩<;>first|(simp only [SY,setArgs,off,agreeKind,partVals,vals,allocV,boxed,ldA,rdCells,oneB,aggD,aField,aFieldV,aExtract,eq_self,ne_eq,if_true,if_false,not_false_eq_true,Nat.reduceAdd,Nat.reduceSub,Nat.reduceMul,Nat.reduceLT,Nat.reduceEqDiff,Nat.reduceBEq,reduceIte,Int.reduceEq,Int.reduceLT,Int.reduceLE,reduceCtorEq]<;>rfl)|omega|assumption|(simp; omega)|simp) (by
   rintro m t S2 ⟨i,u,tm,hi2_0,hi2_1,g2_1,g2_2,g2_5,g2_6,g2_7,bb2_1,ga2,gn2,hd2⟩
   refine .run fun z he=>?_
   have w3:=(hv_rn_legs.agree ga2).len (P:=Tryz.prog) (t:=92) Tryz.underlying92
   try simp (disch:=first|omega|assumption) only [E0_G,SY,setArgs,off,agreeKind,partVals,vals,allocV,boxed,ldA,rdCells,oneB,aggD,aField,aFieldV,aExtract,eq_self,ne_eq,if_true,if_false,not_false_eq_true,Nat.reduceAdd,Nat.reduceSub,Nat.reduceMul,Nat.reduceLT,Nat.reduceEqDiff,Nat.reduceBEq,reduceIte,Int.reduceEq,Int.reduceLT,Int.reduceLE,reduceCtorEq,TY_EvW3,g2_1,g2_2,g2_5,g2_6,g2_7,bb2_1,w3] at he
   rcases dP ((i:Int)<(rn.legs.length:Int)) with ⟨h4a,h4⟩|⟨h4a,h4⟩
   ·skip
    have hx2:rn.legs[i]?=some (rn.legs[i]'(by first|omega|simp; omega)):=List.getElem?_eq_getElem _
    generalize rn.legs[i]'_=x2 at hx2
    obtain ⟨id5,of5,cc5,ty5,wr5,ex5,i5,j5,l5,q5⟩:=(hv_rn_legs).at (P:=Tryz.prog) (t:=92) Tryz.underlying92 tz104 hx2
    have jr5:=j5
    have j5:=(ga2.2 id5 l5).trans jr5
    have m5_0:cc5[of5]?=some (.int .i64 x2.secs):=q5 0 (show 0<2 by decide)
    have m5_1:cc5[of5+1]?=some (.int .i64 x2.rate):=q5 1 (show 1<2 by decide)
    try simp (disch:=first|omega|assumption) only [E0_G,SY,setArgs,off,agreeKind,partVals,vals,allocV,boxed,ldA,rdCells,oneB,aggD,aField,aFieldV,aExtract,eq_self,ne_eq,if_true,if_false,not_false_eq_true,Nat.reduceAdd,Nat.reduceSub,Nat.reduceMul,Nat.reduceLT,Nat.reduceEqDiff,Nat.reduceBEq,reduceIte,Int.reduceEq,Int.reduceLT,Int.reduceLE,reduceCtorEq,TY_EvW3,g2_1,g2_2,g2_5,g2_6,g2_7,bb2_1,w3,h4a,i5,j5,m5_0,m5_1] at he
    rcases dP (x2.rate=0) with ⟨h6a,h6⟩|⟨h6a,h6⟩
    ·skip
     obtain ⟨S7,k7,a7⟩:=c72 rn tm (by first|omega|assumption) S2 (v_rn_legs) (hv_rn_legs.agree ga2)
     have l7:=a7.1
     have s7:E0.same S2 S7=true:=symEnv_same a7
     have v1_7:=(a7.2 S.next (by omega)).trans bb2_1
     have v5_7:=(a7.2 id5 (by omega)).trans j5
     have g7:Agree S S7:=ga2.trans a7
     try simp (disch:=first|omega|assumption) only [E0_G,SY,setArgs,off,agreeKind,partVals,vals,allocV,boxed,ldA,rdCells,oneB,aggD,aField,aFieldV,aExtract,eq_self,ne_eq,if_true,if_false,not_false_eq_true,Nat.reduceAdd,Nat.reduceSub,Nat.reduceMul,Nat.reduceLT,Nat.reduceEqDiff,Nat.reduceBEq,reduceIte,Int.reduceEq,Int.reduceLT,Int.reduceLE,reduceCtorEq,TY_EvW3,g2_1,g2_2,g2_5,g2_6,g2_7,bb2_1,w3,h4a,i5,j5,m5_0,m5_1,h6a,k7,s7,v1_7,v5_7] at he
     rcases dP ((IntKind.i64.wrap (Int.tdiv (r72 rn tm) 1000000))=a) with ⟨h8a,h8⟩|⟨h8a,h8⟩
     ·skip
      obtain ⟨id9,of9,cc9,ty9,wr9,ex9,i9,j9,l9,q9⟩:=(hv_rn_legs).at (P:=Tryz.prog) (t:=92) Tryz.underlying92 tz104 hx2
      have jr9:=j9
      have j9:=(g7.2 id9 l9).trans jr9
      have j9_5:=(g7.2 id5 l5).trans jr5
      have m9_0:cc9[of9]?=some (.int .i64 x2.secs):=q9 0 (show 0<2 by decide)
      have m9_1:cc9[of9+1]?=some (.int .i64 x2.rate):=q9 1 (show 1<2 by decide)
      obtain ⟨id10,of10,cc10,ty10,wr10,ex10,i10,j10,l10,q10⟩:=(hv_rn_legs).at (P:=Tryz.prog) (t:=92) Tryz.underlying92 tz104 hx2
      have jr10:=j10
      have j10:=(g7.2 id10 l10).trans jr10
      have j10_5:=(g7.2 id5 l5).trans jr5
      have j10_9:=(g7.2 id9 l9).trans jr9
      have m10_0:cc10[of10]?=some (.int .i64 x2.secs):=q10 0 (show 0<2 by decide)
      have m10_1:cc10[of10+1]?=some (.int .i64 x2.rate):=q10 1 (show 1<2 by decide)
      have w11:IntKind.i64.wrap ((i:Int)+1)=((i+1:Nat):Int):=by rw [IntWalk.i64_in]<;>omega
      try simp (disch:=first|omega|assumption) only [E0_G,SY,setArgs,off,agreeKind,partVals,vals,allocV,boxed,ldA,rdCells,oneB,aggD,aField,aFieldV,aExtract,eq_self,ne_eq,if_true,if_false,not_false_eq_true,Nat.reduceAdd,Nat.reduceSub,Nat.reduceMul,Nat.reduceLT,Nat.reduceEqDiff,Nat.reduceBEq,reduceIte,Int.reduceEq,Int.reduceLT,Int.reduceLE,reduceCtorEq,TY_EvW3,g2_1,g2_2,g2_5,g2_6,g2_7,bb2_1,w3,h4a,i5,j5,m5_0,m5_1,h6a,k7,s7,v1_7,v5_7,h8a,j9_5,i9,j9,m9_0,m9_1,j10_5,j10_9,i10,j10,m10_0,m10_1,w11] at he
      rw [drop_cons' hx2] at hd2
      have hf:=(show _=(R125_0 rn a (rn.legs.drop (i+1)) (i+1) (IntKind.i64.wrap (u+x2.secs)) (IntKind.i64.wrap (tm+x2.secs)):Int) from (if_pos h6).trans ((if_pos h8).trans (rfl))).symm.trans hd2
      refine .next he (m - 1) (by omega) ⟨(i+1),IntKind.i64.wrap (u+x2.secs),IntKind.i64.wrap (tm+x2.secs),?_,?_,?_,?_,?_,?_,?_,v1_7,g7,by omega,hf⟩<;>first|(simp only [SY,setArgs,off,agreeKind,partVals,vals,allocV,boxed,ldA,rdCells,oneB,aggD,aField,aFieldV,aExtract,eq_self,ne_eq,if_true,if_false,not_false_eq_true,Nat.reduceAdd,Nat.reduceSub,Nat.reduceMul,Nat.reduceLT,Nat.reduceEqDiff,Nat.reduceBEq,reduceIte,Int.reduceEq,Int.reduceLT,Int.reduceLE,reduceCtorEq,g2_1,g2_2,g2_5,g2_6,g2_7]<;>rfl)|omega|assumption|(simp; omega)|simp
     ·skip
      obtain ⟨id12,of12,cc12,ty12,wr12,ex12,i12,j12,l12,q12⟩:=(hv_rn_legs).at (P:=Tryz.prog) (t:=92) Tryz.underlying92 tz104 hx2
      have jr12:=j12
      have j12:=(g7.2 id12 l12).trans jr12
      have j12_5:=(g7.2 id5 l5).trans jr5
      have m12_0:cc12[of12]?=some (.int .i64 x2.secs):=q12 0 (show 0<2 by decide)
      have m12_1:cc12[of12+1]?=some (.int .i64 x2.rate):=q12 1 (show 1<2 by decide)
      have w13:IntKind.i64.wrap ((i:Int)+1)=((i+1:Nat):Int):=by rw [IntWalk.i64_in]<;>omega
      try simp (disch:=first|omega|assumption) only [E0_G,SY,setArgs,off,agreeKind,partVals,vals,allocV,boxed,ldA,rdCells,oneB,aggD,aField,aFieldV,aExtract,eq_self,ne_eq,if_true,if_false,not_false_eq_true,Nat.reduceAdd,Nat.reduceSub,Nat.reduceMul,Nat.reduceLT,Nat.reduceEqDiff,Nat.reduceBEq,reduceIte,Int.reduceEq,Int.reduceLT,Int.reduceLE,reduceCtorEq,TY_EvW3,g2_1,g2_2,g2_5,g2_6,g2_7,bb2_1,w3,h4a,i5,j5,m5_0,m5_1,h6a,k7,s7,v1_7,v5_7,h8a,j12_5,i12,j12,m12_0,m12_1,w13] at he
      rw [drop_cons' hx2] at hd2
      have hf:=(show _=(R125_0 rn a (rn.legs.drop (i+1)) (i+1) u (IntKind.i64.wrap (tm+x2.secs)):Int) from (if_pos h6).trans ((if_neg h8).trans (rfl))).symm.trans hd2
      refine .next he (m - 1) (by omega) ⟨(i+1),u,IntKind.i64.wrap (tm+x2.secs),?_,?_,?_,?_,?_,?_,?_,v1_7,g7,by omega,hf⟩<;>first|(simp only [SY,setArgs,off,agreeKind,partVals,vals,allocV,boxed,ldA,rdCells,oneB,aggD,aField,aFieldV,aExtract,eq_self,ne_eq,if_true,if_false,not_false_eq_true,Nat.reduceAdd,Nat.reduceSub,Nat.reduceMul,Nat.reduceLT,Nat.reduceEqDiff,Nat.reduceBEq,reduceIte,Int.reduceEq,Int.reduceLT,Int.reduceLE,reduceCtorEq,g2_1,g2_2,g2_5,g2_6,g2_7]<;>rfl)|omega|assumption|(simp; omega)|simp
    ·skip
     obtain ⟨id14,of14,cc14,ty14,wr14,ex14,i14,j14,l14,q14⟩:=(hv_rn_legs).at (P:=Tryz.prog) (t:=92) Tryz.underlying92 tz104 hx2
     have jr14:=j14
     have j14:=(ga2.2 id14 l14).trans jr14
     have j14_5:=(ga2.2 id5 l5).trans jr5
     have m14_0:cc14[of14]?=some (.int .i64 x2.secs):=q14 0 (show 0<2 by decide)
     have m14_1:cc14[of14+1]?=some (.int .i64 x2.rate):=q14 1 (show 1<2 by decide)
     have w15:IntKind.i64.wrap ((i:Int)+1)=((i+1:Nat):Int):=by rw [IntWalk.i64_in]<;>omega
     try simp (disch:=first|omega|assumption) only [E0_G,SY,setArgs,off,agreeKind,partVals,vals,allocV,boxed,ldA,rdCells,oneB,aggD,aField,aFieldV,aExtract,eq_self,ne_eq,if_true,if_false,not_false_eq_true,Nat.reduceAdd,Nat.reduceSub,Nat.reduceMul,Nat.reduceLT,Nat.reduceEqDiff,Nat.reduceBEq,reduceIte,Int.reduceEq,Int.reduceLT,Int.reduceLE,reduceCtorEq,TY_EvW3,g2_1,g2_2,g2_5,g2_6,g2_7,bb2_1,w3,h4a,i5,j5,m5_0,m5_1,h6a,j14_5,i14,j14,m14_0,m14_1,w15] at he
     rw [drop_cons' hx2] at hd2
     have hf:=(show _=(R125_0 rn a (rn.legs.drop (i+1)) (i+1) u (IntKind.i64.wrap (tm+x2.secs)):Int) from (if_neg h6).trans (rfl)).symm.trans hd2
     refine .next he (m - 1) (by omega) ⟨(i+1),u,IntKind.i64.wrap (tm+x2.secs),?_,?_,?_,?_,?_,?_,?_,bb2_1,ga2,by omega,hf⟩<;>first|(simp only [SY,setArgs,off,agreeKind,partVals,vals,allocV,boxed,ldA,rdCells,oneB,aggD,aField,aFieldV,aExtract,eq_self,ne_eq,if_true,if_false,not_false_eq_true,Nat.reduceAdd,Nat.reduceSub,Nat.reduceMul,Nat.reduceLT,Nat.reduceEqDiff,Nat.reduceBEq,reduceIte,Int.reduceEq,Int.reduceLT,Int.reduceLE,reduceCtorEq,g2_1,g2_2,g2_5,g2_6,g2_7]<;>rfl)|omega|assumption|(simp; omega)|simp
   ·skip
    try simp (disch:=first|omega|assumption) only [E0_G,SY,setArgs,off,agreeKind,partVals,vals,allocV,boxed,ldA,rdCells,oneB,aggD,aField,aFieldV,aExtract,eq_self,ne_eq,if_true,if_false,not_false_eq_true,Nat.reduceAdd,Nat.reduceSub,Nat.reduceMul,Nat.reduceLT,Nat.reduceEqDiff,Nat.reduceBEq,reduceIte,Int.reduceEq,Int.reduceLT,Int.reduceLE,reduceCtorEq,TY_EvW3,g2_1,g2_2,g2_5,g2_6,g2_7,bb2_1,w3,h4a] at he
    rw [List.drop_eq_nil_of_le (show rn.legs.length≤i by omega)] at hd2
    have hf:=(show _=(u:Int) from rfl).symm.trans hd2
    refine .exit he ⟨rfl,⟨i,u,tm,?_,bb2_1,ga2,by omega,?_,hf.symm⟩⟩<;>first|(simp only [SY,setArgs,off,agreeKind,partVals,vals,allocV,boxed,ldA,rdCells,oneB,aggD,aField,aFieldV,aExtract,eq_self,ne_eq,if_true,if_false,not_false_eq_true,Nat.reduceAdd,Nat.reduceSub,Nat.reduceMul,Nat.reduceLT,Nat.reduceEqDiff,Nat.reduceBEq,reduceIte,Int.reduceEq,Int.reduceLT,Int.reduceLE,reduceCtorEq,g2_1,g2_2,g2_5,g2_6,g2_7]<;>rfl)|omega|assumption|(simp; omega)|simp)
 obtain ⟨rfl,i,u,tm,ge2_5,be2_1,ge2,gm2,hj2_0,hR2⟩:=hQ2
 obtain rfl:u=R125_0 rn a rn.legs 0 0 rn.start:=hR2.symm
 try simp (disch:=first|omega|assumption) only [E0_G,SY,setArgs,off,agreeKind,partVals,vals,allocV,boxed,ldA,rdCells,oneB,aggD,aField,aFieldV,aExtract,eq_self,ne_eq,if_true,if_false,not_false_eq_true,Nat.reduceAdd,Nat.reduceSub,Nat.reduceMul,Nat.reduceLT,Nat.reduceEqDiff,Nat.reduceBEq,reduceIte,Int.reduceEq,Int.reduceLT,Int.reduceLE,reduceCtorEq,TY_EvW3,ge2_5,be2_1] at hz
 have hr:r125 rn a=R125_0 rn a rn.legs 0 0 rn.start:=rfl
 exact fin hz (by rw [hr]) ge2
def R70_0 (s:Se) (rn:Rn)  : List Lg→Nat→Int→Sum (Bool) (Int)
 | [],i,u=>.inr u
 | x14 :: l',i,u=>(if x14.rate=0 then R70_0 s rn l' (i+1) (IntKind.i64.wrap (u+x14.secs)) else (if (r124 s.rLo s.rHi x14.rate)=true then R70_0 s rn l' (i+1) u else .inl false))
def R70_1 (s:Se) (rn:Rn)  : List Stp→Nat→Int→Sum (Bool) (Int)
 | [],i,uw=>.inr uw
 | x27 :: l',i,uw=>(if (r124 x27.lo x27.hi (r125 rn x27.at_))=true then R70_1 s rn l' (i+1) (IntKind.i64.wrap (uw - (r125 rn x27.at_))) else .inl false)
def r70 (s:Se) (rn:Rn):Bool:=(if (r124 s.inLo s.inHi rn.start)=true then (if (r124 s.outLo s.outHi (r71 rn))=true then (if (r124 s.zLo s.zHi (IntKind.i64.wrap (Int.tdiv rn.micro 1000000)))=true then (if (r124 s.eLo s.eHi (IntKind.i64.wrap (Int.tdiv (r72 rn (r71 rn)) 1000000)))=true then (onSum (R70_0 s rn rn.legs 0 0) (fun (r4:Bool)=>r4) (fun (u:Int)=>(onSum (R70_1 s rn s.stops 0 u) (fun (r4:Bool)=>r4) (fun (uw:Int)=>decide (uw=0))))) else false) else false) else false) else false)
set_option maxHeartbeats 2000000 in
theorem c70 (s:Se) (rn:Rn) (hl:rn.legs.length≤60) (hp:s.stops.length≤12) (S:AS) (v_s_stops:Value) (hv_s_stops:Lst S v_s_stops s.stops) (v_rn_legs:Value) (hv_rn_legs:Lst S v_rn_legs rn.legs) :
  ∃ S',(evL Tryz.prog E0).call 70 #[.agg #[.int .i64 s.id,.int .i64 s.inLo,.int .i64 s.inHi,.int .i64 s.outLo,.int .i64 s.outHi,.int .i64 s.zLo,.int .i64 s.zHi,.int .i64 s.eLo,.int .i64 s.eHi,.int .i64 s.rLo,.int .i64 s.rHi,v_s_stops],.agg #[.int .i64 rn.start,.int .i64 rn.micro,v_rn_legs]] S=some (.bool (r70 s rn),S')∧Agree S S':=by
 generalize hz:(evL Tryz.prog E0).call 70 _ _=z
 rw [L_call,evCall_said rfl Tryz.func70 rfl (by decide) Tryz.ntmps70 Tryz.results70] at hz
 obtain ⟨S1,e1,n1,b1,a1⟩:=push_open S (.cells [.int .i64 s.id,.int .i64 s.inLo,.int .i64 s.inHi,.int .i64 s.outLo,.int .i64 s.outHi,.int .i64 s.zLo,.int .i64 s.zHi,.int .i64 s.eLo,.int .i64 s.eHi,.int .i64 s.rLo,.int .i64 s.rHi,v_s_stops] 26 0 true true)
 have g1:Agree S S1:=a1
 have s1:E0.same S S1=true:=symEnv_same a1
 obtain ⟨S2,e2,n2,b2,a2⟩:=push_open S1 (.cells [.int .i64 rn.start,.int .i64 rn.micro,v_rn_legs] 94 0 true true)
 have v1_2:=(a2.2 S.next (by omega)).trans b1
 have g2:Agree S S2:=g1.trans a2
 have s2:E0.same S1 S2=true:=symEnv_same a2
 obtain ⟨S3,k3,a3⟩:=c71 rn (by first|omega|assumption) S2 (v_rn_legs) (hv_rn_legs.agree g2)
 have l3:=a3.1
 have s3:E0.same S2 S3=true:=symEnv_same a3
 have v1_3:=(a3.2 S.next (by omega)).trans v1_2
 have v2_3:=(a3.2 S1.next (by omega)).trans b2
 have g3:Agree S S3:=g2.trans a3
 try simp (disch:=first|omega|assumption) only [E0_G,SY,setArgs,off,agreeKind,partVals,vals,allocV,boxed,ldA,rdCells,oneB,aggD,aField,aFieldV,aExtract,eq_self,ne_eq,if_true,if_false,not_false_eq_true,Nat.reduceAdd,Nat.reduceSub,Nat.reduceMul,Nat.reduceLT,Nat.reduceEqDiff,Nat.reduceBEq,reduceIte,Int.reduceEq,Int.reduceLT,Int.reduceLE,reduceCtorEq,TY_EvW3,s1,e1,b1,v1_2,s2,e2,b2,k3,s3,v1_3,v2_3] at hz
 rw [code_draws _ _ _ (by kernel_rfl)] at hz
 generalize hnd4:needy _=nd4 at hz
 obtain ⟨S5,k5,a5⟩:=c124 s.inLo s.inHi rn.start  S3
 have l5:=a5.1
 have s5:E0.same S3 S5=true:=symEnv_same a5
 have v1_5:=(a5.2 S.next (by omega)).trans v1_3
 have v2_5:=(a5.2 S1.next (by omega)).trans v2_3
 have g5:Agree S S5:=g3.trans a5
 try simp (disch:=first|omega|assumption) only [E0_G,SY,setArgs,off,agreeKind,partVals,vals,allocV,boxed,ldA,rdCells,oneB,aggD,aField,aFieldV,aExtract,eq_self,ne_eq,if_true,if_false,not_false_eq_true,Nat.reduceAdd,Nat.reduceSub,Nat.reduceMul,Nat.reduceLT,Nat.reduceEqDiff,Nat.reduceBEq,reduceIte,Int.reduceEq,Int.reduceLT,Int.reduceLE,reduceCtorEq,TY_EvW3,s1,e1,b1,v1_2,s2,e2,b2,k3,s3,v1_3,v2_3,store_agree,store_refl E0_same,k5,s5,v1_5,v2_5] at hz
 rcases dB ((r124 s.inLo s.inHi rn.start)) with ⟨h6a,h6⟩|⟨h6a,h6⟩
 ·skip
  obtain ⟨S7,k7,a7⟩:=c124 s.outLo s.outHi (r71 rn)  S5
  have l7:=a7.1
  have s7:E0.same S5 S7=true:=symEnv_same a7
  have v1_7:=(a7.2 S.next (by omega)).trans v1_5
  have v2_7:=(a7.2 S1.next (by omega)).trans v2_5
  have g7:Agree S S7:=g5.trans a7
  try simp (disch:=first|omega|assumption) only [E0_G,SY,setArgs,off,agreeKind,partVals,vals,allocV,boxed,ldA,rdCells,oneB,aggD,aField,aFieldV,aExtract,eq_self,ne_eq,if_true,if_false,not_false_eq_true,Nat.reduceAdd,Nat.reduceSub,Nat.reduceMul,Nat.reduceLT,Nat.reduceEqDiff,Nat.reduceBEq,reduceIte,Int.reduceEq,Int.reduceLT,Int.reduceLE,reduceCtorEq,TY_EvW3,s1,e1,b1,v1_2,s2,e2,b2,k3,s3,v1_3,v2_3,store_agree,store_refl E0_same,k5,s5,v1_5,v2_5,h6a,k7,s7,v1_7,v2_7] at hz
  rcases dB ((r124 s.outLo s.outHi (r71 rn))) with ⟨h8a,h8⟩|⟨h8a,h8⟩
  ·skip
   obtain ⟨S9,k9,a9⟩:=c124 s.zLo s.zHi (IntKind.i64.wrap (Int.tdiv rn.micro 1000000))  S7
   have l9:=a9.1
   have s9:E0.same S7 S9=true:=symEnv_same a9
   have v1_9:=(a9.2 S.next (by omega)).trans v1_7
   have v2_9:=(a9.2 S1.next (by omega)).trans v2_7
   have g9:Agree S S9:=g7.trans a9
   try simp (disch:=first|omega|assumption) only [E0_G,SY,setArgs,off,agreeKind,partVals,vals,allocV,boxed,ldA,rdCells,oneB,aggD,aField,aFieldV,aExtract,eq_self,ne_eq,if_true,if_false,not_false_eq_true,Nat.reduceAdd,Nat.reduceSub,Nat.reduceMul,Nat.reduceLT,Nat.reduceEqDiff,Nat.reduceBEq,reduceIte,Int.reduceEq,Int.reduceLT,Int.reduceLE,reduceCtorEq,TY_EvW3,s1,e1,b1,v1_2,s2,e2,b2,k3,s3,v1_3,v2_3,store_agree,store_refl E0_same,k5,s5,v1_5,v2_5,h6a,k7,s7,v1_7,v2_7,h8a,k9,s9,v1_9,v2_9] at hz
   rcases dB ((r124 s.zLo s.zHi (IntKind.i64.wrap (Int.tdiv rn.micro 1000000)))) with ⟨h10a,h10⟩|⟨h10a,h10⟩
   ·skip
    obtain ⟨S11,k11,a11⟩:=c72 rn (r71 rn) (by first|omega|assumption) S9 (v_rn_legs) (hv_rn_legs.agree g9)
    have l11:=a11.1
    have s11:E0.same S9 S11=true:=symEnv_same a11
    have v1_11:=(a11.2 S.next (by omega)).trans v1_9
    have v2_11:=(a11.2 S1.next (by omega)).trans v2_9
    have g11:Agree S S11:=g9.trans a11
    obtain ⟨S12,k12,a12⟩:=c124 s.eLo s.eHi (IntKind.i64.wrap (Int.tdiv (r72 rn (r71 rn)) 1000000))  S11
    have l12:=a12.1
    have s12:E0.same S11 S12=true:=symEnv_same a12
    have v1_12:=(a12.2 S.next (by omega)).trans v1_11
    have v2_12:=(a12.2 S1.next (by omega)).trans v2_11
    have g12:Agree S S12:=g11.trans a12
    try simp (disch:=first|omega|assumption) only [E0_G,SY,setArgs,off,agreeKind,partVals,vals,allocV,boxed,ldA,rdCells,oneB,aggD,aField,aFieldV,aExtract,eq_self,ne_eq,if_true,if_false,not_false_eq_true,Nat.reduceAdd,Nat.reduceSub,Nat.reduceMul,Nat.reduceLT,Nat.reduceEqDiff,Nat.reduceBEq,reduceIte,Int.reduceEq,Int.reduceLT,Int.reduceLE,reduceCtorEq,TY_EvW3,s1,e1,b1,v1_2,s2,e2,b2,k3,s3,v1_3,v2_3,store_agree,store_refl E0_same,k5,s5,v1_5,v2_5,h6a,k7,s7,v1_7,v2_7,h8a,k9,s9,v1_9,v2_9,h10a,k11,s11,v1_11,v2_11,k12,s12,v1_12,v2_12] at hz
    rcases dB ((r124 s.eLo s.eHi (IntKind.i64.wrap (Int.tdiv (r72 rn (r71 rn)) 1000000)))) with ⟨h13a,h13⟩|⟨h13a,h13⟩
    ·skip
     try simp (disch:=first|omega|assumption) only [E0_G,SY,setArgs,off,agreeKind,partVals,vals,allocV,boxed,ldA,rdCells,oneB,aggD,aField,aFieldV,aExtract,eq_self,ne_eq,if_true,if_false,not_false_eq_true,Nat.reduceAdd,Nat.reduceSub,Nat.reduceMul,Nat.reduceLT,Nat.reduceEqDiff,Nat.reduceBEq,reduceIte,Int.reduceEq,Int.reduceLT,Int.reduceLE,reduceCtorEq,TY_EvW3,s1,e1,b1,v1_2,s2,e2,b2,k3,s3,v1_3,v2_3,store_agree,store_refl E0_same,k5,s5,v1_5,v2_5,h6a,k7,s7,v1_7,v2_7,h8a,k9,s9,v1_9,v2_9,h10a,k11,s11,v1_11,v2_11,k12,s12,v1_12,v2_12,h13a] at hz
     generalize hL14:Rec.loop _ _ _ _=L14 at hz
     obtain ⟨x14,t14,S14e,rfl,hQ14⟩:=loop_met hL14 (fun m t S'=>∃ (i:Nat) (u:Int),m+i=rn.legs.length∧i≤rn.legs.length∧t.get 2=some (.pointer (some ⟨S.next,0,none⟩))∧t.get 3=some (.pointer (some ⟨S1.next,0,none⟩))∧t.get 6=some (.int .i64 u)∧t.get 7=some (.int .i64 (i:Int))∧S'.heap.get S.next=some (.cells [.int .i64 s.id,.int .i64 s.inLo,.int .i64 s.inHi,.int .i64 s.outLo,.int .i64 s.outHi,.int .i64 s.zLo,.int .i64 s.zHi,.int .i64 s.eLo,.int .i64 s.eHi,.int .i64 s.rLo,.int .i64 s.rHi,v_s_stops] 26 0 true true)∧S'.heap.get S1.next=some (.cells [.int .i64 rn.start,.int .i64 rn.micro,v_rn_legs] 94 0 true true)∧Agree S S'∧S12.next≤S'.next∧R70_0 s rn (rn.legs.drop i) i u=R70_0 s rn rn.legs 0 0)
      (fun x t S'=>(x=.exit 0∧∃ (i:Nat) (u:Int),t.get 2=some (.pointer (some ⟨S.next,0,none⟩))∧t.get 3=some (.pointer (some ⟨S1.next,0,none⟩))∧t.get 6=some (.int .i64 u)∧S'.heap.get S.next=some (.cells [.int .i64 s.id,.int .i64 s.inLo,.int .i64 s.inHi,.int .i64 s.outLo,.int .i64 s.outHi,.int .i64 s.zLo,.int .i64 s.zHi,.int .i64 s.eLo,.int .i64 s.eHi,.int .i64 s.rLo,.int .i64 s.rHi,v_s_stops] 26 0 true true)∧S'.heap.get S1.next=some (.cells [.int .i64 rn.start,.int .i64 rn.micro,v_rn_legs] 94 0 true true)∧Agree S S'∧S12.next≤S'.next∧i≤rn.legs.length∧R70_0 s rn rn.legs 0 0=.inr u)∨(x=.ret∧∃ (r4:Bool),t.get 4=some (.bool r4)∧Agree S S'∧R70_0 s rn rn.legs 0 0=.inl (r4))) (rn.legs.length - 0) (by refine ⟨0,0,?_,?_,?_,?_,?_,?_,v1_12,v2_12,g12,Nat.le_refl _,rfl⟩<;>first|(simp only [SY,setArgs,off,agreeKind,partVals,vals,allocV,boxed,ldA,rdCells,oneB,aggD,aField,aFieldV,aExtract,eq_self,ne_eq,if_true,if_false,not_false_eq_true,Nat.reduceAdd,Nat.reduceSub,Nat.reduceMul,Nat.reduceLT,Nat.reduceEqDiff,Nat.reduceBEq,reduceIte,Int.reduceEq,Int.reduceLT,Int.reduceLE,reduceCtorEq]<;>rfl)|omega|assumption|(simp; omega)|simp) (by
       rintro m t S14 ⟨i,u,hi14_0,hi14_1,g14_2,g14_3,g14_6,g14_7,bb14_1,bb14_2,ga14,gn14,hd14⟩
       refine .run fun z he=>?_
       have w15:=(hv_rn_legs.agree ga14).len (P:=Tryz.prog) (t:=92) Tryz.underlying92
       try simp (disch:=first|omega|assumption) only [E0_G,SY,setArgs,off,agreeKind,partVals,vals,allocV,boxed,ldA,rdCells,oneB,aggD,aField,aFieldV,aExtract,eq_self,ne_eq,if_true,if_false,not_false_eq_true,Nat.reduceAdd,Nat.reduceSub,Nat.reduceMul,Nat.reduceLT,Nat.reduceEqDiff,Nat.reduceBEq,reduceIte,Int.reduceEq,Int.reduceLT,Int.reduceLE,reduceCtorEq,TY_EvW3,g14_2,g14_3,g14_6,g14_7,bb14_1,bb14_2,h6a,h8a,h10a,h13a,w15] at he
       rcases dP ((i:Int)<(rn.legs.length:Int)) with ⟨h16a,h16⟩|⟨h16a,h16⟩
       ·skip
        have hx14:rn.legs[i]?=some (rn.legs[i]'(by first|omega|simp; omega)):=List.getElem?_eq_getElem _
        generalize rn.legs[i]'_=x14 at hx14
        obtain ⟨id17,of17,cc17,ty17,wr17,ex17,i17,j17,l17,q17⟩:=(hv_rn_legs).at (P:=Tryz.prog) (t:=92) Tryz.underlying92 tz104 hx14
        have jr17:=j17
        have j17:=(ga14.2 id17 l17).trans jr17
        have m17_0:cc17[of17]?=some (.int .i64 x14.secs):=q17 0 (show 0<2 by decide)
        have m17_1:cc17[of17+1]?=some (.int .i64 x14.rate):=q17 1 (show 1<2 by decide)
        try simp (disch:=first|omega|assumption) only [E0_G,SY,setArgs,off,agreeKind,partVals,vals,allocV,boxed,ldA,rdCells,oneB,aggD,aField,aFieldV,aExtract,eq_self,ne_eq,if_true,if_false,not_false_eq_true,Nat.reduceAdd,Nat.reduceSub,Nat.reduceMul,Nat.reduceLT,Nat.reduceEqDiff,Nat.reduceBEq,reduceIte,Int.reduceEq,Int.reduceLT,Int.reduceLE,reduceCtorEq,TY_EvW3,g14_2,g14_3,g14_6,g14_7,bb14_1,bb14_2,h6a,h8a,h10a,h13a,w15,h16a,i17,j17,m17_0,m17_1] at he
        rcases dP (x14.rate=0) with ⟨h18a,h18⟩|⟨h18a,h18⟩
        ·skip
         obtain ⟨id19,of19,cc19,ty19,wr19,ex19,i19,j19,l19,q19⟩:=(hv_rn_legs).at (P:=Tryz.prog) (t:=92) Tryz.underlying92 tz104 hx14
         have jr19:=j19
         have j19:=(ga14.2 id19 l19).trans jr19
         have j19_17:=(ga14.2 id17 l17).trans jr17
         have m19_0:cc19[of19]?=some (.int .i64 x14.secs):=q19 0 (show 0<2 by decide)
         have m19_1:cc19[of19+1]?=some (.int .i64 x14.rate):=q19 1 (show 1<2 by decide)
         have w20:IntKind.i64.wrap ((i:Int)+1)=((i+1:Nat):Int):=by rw [IntWalk.i64_in]<;>omega
         try simp (disch:=first|omega|assumption) only [E0_G,SY,setArgs,off,agreeKind,partVals,vals,allocV,boxed,ldA,rdCells,oneB,aggD,aField,aFieldV,aExtract,eq_self,ne_eq,if_true,if_false,not_false_eq_true,Nat.reduceAdd,Nat.reduceSub,Nat.reduceMul,Nat.reduceLT,Nat.reduceEqDiff,Nat.reduceBEq,reduceIte,Int.reduceEq,Int.reduceLT,Int.reduceLE,reduceCtorEq,TY_EvW3,g14_2,g14_3,g14_6,g14_7,bb14_1,bb14_2,h6a,h8a,h10a,h13a,w15,h16a,i17,j17,m17_0,m17_1,h18a,j19_17,i19,j19,m19_0,m19_1,w20] at he
         rw [drop_cons' hx14] at hd14
         have hf:=(show _=(R70_0 s rn (rn.legs.drop (i+1)) (i+1) (IntKind.i64.wrap (u+x14.secs)):Sum (Bool) (Int)) from (if_pos h18).trans (rfl)).symm.trans hd14
         refine .next he (m - 1) (by omega) ⟨(i+1),IntKind.i64.wrap (u+x14.secs),?_,?_,?_,?_,?_,?_,bb14_1,bb14_2,ga14,by omega,hf⟩<;>first|(simp only [SY,setArgs,off,agreeKind,partVals,vals,allocV,boxed,ldA,rdCells,oneB,aggD,aField,aFieldV,aExtract,eq_self,ne_eq,if_true,if_false,not_false_eq_true,Nat.reduceAdd,Nat.reduceSub,Nat.reduceMul,Nat.reduceLT,Nat.reduceEqDiff,Nat.reduceBEq,reduceIte,Int.reduceEq,Int.reduceLT,Int.reduceLE,reduceCtorEq,g14_2,g14_3,g14_6,g14_7]<;>rfl)|omega|assumption|(simp; omega)|simp
        ·skip
         try simp (disch:=first|omega|assumption) only [E0_G,SY,setArgs,off,agreeKind,partVals,vals,allocV,boxed,ldA,rdCells,oneB,aggD,aField,aFieldV,aExtract,eq_self,ne_eq,if_true,if_false,not_false_eq_true,Nat.reduceAdd,Nat.reduceSub,Nat.reduceMul,Nat.reduceLT,Nat.reduceEqDiff,Nat.reduceBEq,reduceIte,Int.reduceEq,Int.reduceLT,Int.reduceLE,reduceCtorEq,TY_EvW3,g14_2,g14_3,g14_6,g14_7,bb14_1,bb14_2,h6a,h8a,h10a,h13a,w15,h16a,i17,j17,m17_0,m17_1,h18a] at he
         rw [code_draws _ _ _ (by kernel_rfl)] at he
         generalize hnd21:needy _=nd21 at he
         obtain ⟨id22,of22,cc22,ty22,wr22,ex22,i22,j22,l22,q22⟩:=(hv_rn_legs).at (P:=Tryz.prog) (t:=92) Tryz.underlying92 tz104 hx14
         have jr22:=j22
         have j22:=(ga14.2 id22 l22).trans jr22
         have j22_17:=(ga14.2 id17 l17).trans jr17
         have m22_0:cc22[of22]?=some (.int .i64 x14.secs):=q22 0 (show 0<2 by decide)
         have m22_1:cc22[of22+1]?=some (.int .i64 x14.rate):=q22 1 (show 1<2 by decide)
         obtain ⟨S23,k23,a23⟩:=c124 s.rLo s.rHi x14.rate  S14
         have l23:=a23.1
         have s23:E0.same S14 S23=true:=symEnv_same a23
         have v1_23:=(a23.2 S.next (by omega)).trans bb14_1
         have v2_23:=(a23.2 S1.next (by omega)).trans bb14_2
         have v17_23:=(a23.2 id17 (by omega)).trans j17
         have v22_23:=(a23.2 id22 (by omega)).trans j22
         have g23:Agree S S23:=ga14.trans a23
         try simp (disch:=first|omega|assumption) only [E0_G,SY,setArgs,off,agreeKind,partVals,vals,allocV,boxed,ldA,rdCells,oneB,aggD,aField,aFieldV,aExtract,eq_self,ne_eq,if_true,if_false,not_false_eq_true,Nat.reduceAdd,Nat.reduceSub,Nat.reduceMul,Nat.reduceLT,Nat.reduceEqDiff,Nat.reduceBEq,reduceIte,Int.reduceEq,Int.reduceLT,Int.reduceLE,reduceCtorEq,TY_EvW3,g14_2,g14_3,g14_6,g14_7,bb14_1,bb14_2,h6a,h8a,h10a,h13a,w15,h16a,i17,j17,m17_0,m17_1,h18a,store_agree,store_refl E0_same,j22_17,i22,j22,m22_0,m22_1,k23,s23,v1_23,v2_23,v17_23,v22_23] at he
         rcases dB ((r124 s.rLo s.rHi x14.rate)) with ⟨h24a,h24⟩|⟨h24a,h24⟩
         ·skip
          have w25:IntKind.i64.wrap ((i:Int)+1)=((i+1:Nat):Int):=by rw [IntWalk.i64_in]<;>omega
          try simp (disch:=first|omega|assumption) only [E0_G,SY,setArgs,off,agreeKind,partVals,vals,allocV,boxed,ldA,rdCells,oneB,aggD,aField,aFieldV,aExtract,eq_self,ne_eq,if_true,if_false,not_false_eq_true,Nat.reduceAdd,Nat.reduceSub,Nat.reduceMul,Nat.reduceLT,Nat.reduceEqDiff,Nat.reduceBEq,reduceIte,Int.reduceEq,Int.reduceLT,Int.reduceLE,reduceCtorEq,TY_EvW3,g14_2,g14_3,g14_6,g14_7,bb14_1,bb14_2,h6a,h8a,h10a,h13a,w15,h16a,i17,j17,m17_0,m17_1,h18a,store_agree,store_refl E0_same,j22_17,i22,j22,m22_0,m22_1,k23,s23,v1_23,v2_23,v17_23,v22_23,h24a,w25] at he
          rw [drop_cons' hx14] at hd14
          have hf:=(show _=(R70_0 s rn (rn.legs.drop (i+1)) (i+1) u:Sum (Bool) (Int)) from (if_neg h18).trans ((if_pos h24).trans (rfl))).symm.trans hd14
          refine .next he (m - 1) (by omega) ⟨(i+1),u,?_,?_,?_,?_,?_,?_,v1_23,v2_23,g23,by omega,hf⟩<;>first|(simp only [SY,setArgs,off,agreeKind,partVals,vals,allocV,boxed,ldA,rdCells,oneB,aggD,aField,aFieldV,aExtract,eq_self,ne_eq,if_true,if_false,not_false_eq_true,Nat.reduceAdd,Nat.reduceSub,Nat.reduceMul,Nat.reduceLT,Nat.reduceEqDiff,Nat.reduceBEq,reduceIte,Int.reduceEq,Int.reduceLT,Int.reduceLE,reduceCtorEq,g14_2,g14_3,g14_6,g14_7]<;>rfl)|omega|assumption|(simp; omega)|simp
         ·skip
          try simp (disch:=first|omega|assumption) only [E0_G,SY,setArgs,off,agreeKind,partVals,vals,allocV,boxed,ldA,rdCells,oneB,aggD,aField,aFieldV,aExtract,eq_self,ne_eq,if_true,if_false,not_false_eq_true,Nat.reduceAdd,Nat.reduceSub,Nat.reduceMul,Nat.reduceLT,Nat.reduceEqDiff,Nat.reduceBEq,reduceIte,Int.reduceEq,Int.reduceLT,Int.reduceLE,reduceCtorEq,TY_EvW3,g14_2,g14_3,g14_6,g14_7,bb14_1,bb14_2,h6a,h8a,h10a,h13a,w15,h16a,i17,j17,m17_0,m17_1,h18a,store_agree,store_refl E0_same,j22_17,i22,j22,m22_0,m22_1,k23,s23,v1_23,v2_23,v17_23,v22_23,h24a] at he
          rw [drop_cons' hx14] at hd14
          have hf:=(show _=(.inl false:Sum (Bool) (Int)) from (if_neg h18).trans ((if_neg h24).trans (rfl))).symm.trans hd14
          refine .ret he (.inr ⟨rfl,⟨false,?_,g23,hf.symm⟩⟩)<;>first|(simp only [SY,setArgs,off,agreeKind,partVals,vals,allocV,boxed,ldA,rdCells,oneB,aggD,aField,aFieldV,aExtract,eq_self,ne_eq,if_true,if_false,not_false_eq_true,Nat.reduceAdd,Nat.reduceSub,Nat.reduceMul,Nat.reduceLT,Nat.reduceEqDiff,Nat.reduceBEq,reduceIte,Int.reduceEq,Int.reduceLT,Int.reduceLE,reduceCtorEq,g14_2,g14_3,g14_6,g14_7]<;>rfl)|omega|assumption|(simp; omega)|simp
       ·skip
        try simp (disch:=first|omega|assumption) only [E0_G,SY,setArgs,off,agreeKind,partVals,vals,allocV,boxed,ldA,rdCells,oneB,aggD,aField,aFieldV,aExtract,eq_self,ne_eq,if_true,if_false,not_false_eq_true,Nat.reduceAdd,Nat.reduceSub,Nat.reduceMul,Nat.reduceLT,Nat.reduceEqDiff,Nat.reduceBEq,reduceIte,Int.reduceEq,Int.reduceLT,Int.reduceLE,reduceCtorEq,TY_EvW3,g14_2,g14_3,g14_6,g14_7,bb14_1,bb14_2,h6a,h8a,h10a,h13a,w15,h16a] at he
        rw [List.drop_eq_nil_of_le (show rn.legs.length≤i by omega)] at hd14
        have hf:=(show _=(.inr u:Sum (Bool) (Int)) from rfl).symm.trans hd14
        refine .exit he (.inl ⟨rfl,⟨i,u,?_,?_,?_,bb14_1,bb14_2,ga14,by omega,?_,hf.symm⟩⟩)<;>first|(simp only [SY,setArgs,off,agreeKind,partVals,vals,allocV,boxed,ldA,rdCells,oneB,aggD,aField,aFieldV,aExtract,eq_self,ne_eq,if_true,if_false,not_false_eq_true,Nat.reduceAdd,Nat.reduceSub,Nat.reduceMul,Nat.reduceLT,Nat.reduceEqDiff,Nat.reduceBEq,reduceIte,Int.reduceEq,Int.reduceLT,Int.reduceLE,reduceCtorEq,g14_2,g14_3,g14_6,g14_7]<;>rfl)|omega|assumption|(simp; omega)|simp)
     rcases hQ14 with ⟨rfl,hQ14⟩|⟨rfl,hQ14⟩
     ·skip
      obtain ⟨i,u,ge14_2,ge14_3,ge14_6,be14_1,be14_2,ge14,gm14,hj14_0,hR14⟩:=hQ14
      try simp (disch:=first|omega|assumption) only [E0_G,SY,setArgs,off,agreeKind,partVals,vals,allocV,boxed,ldA,rdCells,oneB,aggD,aField,aFieldV,aExtract,eq_self,ne_eq,if_true,if_false,not_false_eq_true,Nat.reduceAdd,Nat.reduceSub,Nat.reduceMul,Nat.reduceLT,Nat.reduceEqDiff,Nat.reduceBEq,reduceIte,Int.reduceEq,Int.reduceLT,Int.reduceLE,reduceCtorEq,TY_EvW3,h6a,h8a,h10a,h13a,ge14_2,ge14_3,ge14_6,be14_1,be14_2] at hz
      generalize hL27:Rec.loop _ _ _ _=L27 at hz
      obtain ⟨x27,t27,S27e,rfl,hQ27⟩:=loop_met hL27 (fun m t S'=>∃ (i:Nat) (uw:Int),m+i=s.stops.length∧i≤s.stops.length∧t.get 2=some (.pointer (some ⟨S.next,0,none⟩))∧t.get 3=some (.pointer (some ⟨S1.next,0,none⟩))∧t.get 6=some (.int .i64 uw)∧t.get 8=some (.int .i64 (i:Int))∧S'.heap.get S.next=some (.cells [.int .i64 s.id,.int .i64 s.inLo,.int .i64 s.inHi,.int .i64 s.outLo,.int .i64 s.outHi,.int .i64 s.zLo,.int .i64 s.zHi,.int .i64 s.eLo,.int .i64 s.eHi,.int .i64 s.rLo,.int .i64 s.rHi,v_s_stops] 26 0 true true)∧S'.heap.get S1.next=some (.cells [.int .i64 rn.start,.int .i64 rn.micro,v_rn_legs] 94 0 true true)∧Agree S S'∧S14e.next≤S'.next∧R70_1 s rn (s.stops.drop i) i uw=R70_1 s rn s.stops 0 u)
       (fun x t S'=>(x=.exit 2∧∃ (i:Nat) (uw:Int),t.get 6=some (.int .i64 uw)∧S'.heap.get S.next=some (.cells [.int .i64 s.id,.int .i64 s.inLo,.int .i64 s.inHi,.int .i64 s.outLo,.int .i64 s.outHi,.int .i64 s.zLo,.int .i64 s.zHi,.int .i64 s.eLo,.int .i64 s.eHi,.int .i64 s.rLo,.int .i64 s.rHi,v_s_stops] 26 0 true true)∧S'.heap.get S1.next=some (.cells [.int .i64 rn.start,.int .i64 rn.micro,v_rn_legs] 94 0 true true)∧Agree S S'∧S14e.next≤S'.next∧i≤s.stops.length∧R70_1 s rn s.stops 0 u=.inr uw)∨(x=.ret∧∃ (r4:Bool),t.get 4=some (.bool r4)∧Agree S S'∧R70_1 s rn s.stops 0 u=.inl (r4))) (s.stops.length - 0) (by refine ⟨0,u,?_,?_,?_,?_,?_,?_,be14_1,be14_2,ge14,Nat.le_refl _,rfl⟩<;>first|(simp only [SY,setArgs,off,agreeKind,partVals,vals,allocV,boxed,ldA,rdCells,oneB,aggD,aField,aFieldV,aExtract,eq_self,ne_eq,if_true,if_false,not_false_eq_true,Nat.reduceAdd,Nat.reduceSub,Nat.reduceMul,Nat.reduceLT,Nat.reduceEqDiff,Nat.reduceBEq,reduceIte,Int.reduceEq,Int.reduceLT,Int.reduceLE,reduceCtorEq,ge14_2,ge14_3,ge14_6]<;>rfl)|omega|assumption|(simp; omega)|simp) (by
        rintro m t S27 ⟨i,uw,hi27_0,hi27_1,g27_2,g27_3,g27_6,g27_8,bb27_1,bb27_2,ga27,gn27,hd27⟩
        refine .run fun z he=>?_
        have w28:=(hv_s_stops.agree ga27).len (P:=Tryz.prog) (t:=24) Tryz.underlying24
        try simp (disch:=first|omega|assumption) only [E0_G,SY,setArgs,off,agreeKind,partVals,vals,allocV,boxed,ldA,rdCells,oneB,aggD,aField,aFieldV,aExtract,eq_self,ne_eq,if_true,if_false,not_false_eq_true,Nat.reduceAdd,Nat.reduceSub,Nat.reduceMul,Nat.reduceLT,Nat.reduceEqDiff,Nat.reduceBEq,reduceIte,Int.reduceEq,Int.reduceLT,Int.reduceLE,reduceCtorEq,TY_EvW3,g27_2,g27_3,g27_6,g27_8,bb27_1,bb27_2,h6a,h8a,h10a,h13a,w28] at he
        rcases dP ((i:Int)<(s.stops.length:Int)) with ⟨h29a,h29⟩|⟨h29a,h29⟩
        ·skip
         try simp (disch:=first|omega|assumption) only [E0_G,SY,setArgs,off,agreeKind,partVals,vals,allocV,boxed,ldA,rdCells,oneB,aggD,aField,aFieldV,aExtract,eq_self,ne_eq,if_true,if_false,not_false_eq_true,Nat.reduceAdd,Nat.reduceSub,Nat.reduceMul,Nat.reduceLT,Nat.reduceEqDiff,Nat.reduceBEq,reduceIte,Int.reduceEq,Int.reduceLT,Int.reduceLE,reduceCtorEq,TY_EvW3,g27_2,g27_3,g27_6,g27_8,bb27_1,bb27_2,h6a,h8a,h10a,h13a,w28,h29a] at he
         rw [code_draws _ _ _ (by kernel_rfl)] at he
         generalize hnd30:needy _=nd30 at he
         have hx27:s.stops[i]?=some (s.stops[i]'(by first|omega|simp; omega)):=List.getElem?_eq_getElem _
         generalize s.stops[i]'_=x27 at hx27
         obtain ⟨id31,of31,cc31,ty31,wr31,ex31,i31,j31,l31,q31⟩:=(hv_s_stops).at (P:=Tryz.prog) (t:=24) Tryz.underlying24 tz117 hx27
         have jr31:=j31
         have j31:=(ga27.2 id31 l31).trans jr31
         have m31_0:cc31[of31]?=some (.int .i64 x27.at_):=q31 0 (show 0<3 by decide)
         have m31_1:cc31[of31+1]?=some (.int .i64 x27.lo):=q31 1 (show 1<3 by decide)
         have m31_2:cc31[of31+2]?=some (.int .i64 x27.hi):=q31 2 (show 2<3 by decide)
         obtain ⟨S32,k32,a32⟩:=c125 rn x27.at_ (by first|omega|assumption) S27 (v_rn_legs) (hv_rn_legs.agree ga27)
         have l32:=a32.1
         have s32:E0.same S27 S32=true:=symEnv_same a32
         have v1_32:=(a32.2 S.next (by omega)).trans bb27_1
         have v2_32:=(a32.2 S1.next (by omega)).trans bb27_2
         have v31_32:=(a32.2 id31 (by omega)).trans j31
         have g32:Agree S S32:=ga27.trans a32
         obtain ⟨id33,of33,cc33,ty33,wr33,ex33,i33,j33,l33,q33⟩:=(hv_s_stops).at (P:=Tryz.prog) (t:=24) Tryz.underlying24 tz117 hx27
         have jr33:=j33
         have j33:=(g32.2 id33 l33).trans jr33
         have j33_31:=(g32.2 id31 l31).trans jr31
         have m33_0:cc33[of33]?=some (.int .i64 x27.at_):=q33 0 (show 0<3 by decide)
         have m33_1:cc33[of33+1]?=some (.int .i64 x27.lo):=q33 1 (show 1<3 by decide)
         have m33_2:cc33[of33+2]?=some (.int .i64 x27.hi):=q33 2 (show 2<3 by decide)
         obtain ⟨S34,k34,a34⟩:=c124 x27.lo x27.hi (r125 rn x27.at_)  S32
         have l34:=a34.1
         have s34:E0.same S32 S34=true:=symEnv_same a34
         have v1_34:=(a34.2 S.next (by omega)).trans v1_32
         have v2_34:=(a34.2 S1.next (by omega)).trans v2_32
         have v31_34:=(a34.2 id31 (by omega)).trans v31_32
         have v33_34:=(a34.2 id33 (by omega)).trans j33
         have g34:Agree S S34:=g32.trans a34
         try simp (disch:=first|omega|assumption) only [E0_G,SY,setArgs,off,agreeKind,partVals,vals,allocV,boxed,ldA,rdCells,oneB,aggD,aField,aFieldV,aExtract,eq_self,ne_eq,if_true,if_false,not_false_eq_true,Nat.reduceAdd,Nat.reduceSub,Nat.reduceMul,Nat.reduceLT,Nat.reduceEqDiff,Nat.reduceBEq,reduceIte,Int.reduceEq,Int.reduceLT,Int.reduceLE,reduceCtorEq,TY_EvW3,g27_2,g27_3,g27_6,g27_8,bb27_1,bb27_2,h6a,h8a,h10a,h13a,w28,h29a,store_agree,store_refl E0_same,i31,j31,m31_0,m31_1,m31_2,k32,s32,v1_32,v2_32,v31_32,j33_31,i33,j33,m33_0,m33_1,m33_2,k34,s34,v1_34,v2_34,v31_34,v33_34] at he
         rcases dB ((r124 x27.lo x27.hi (r125 rn x27.at_))) with ⟨h35a,h35⟩|⟨h35a,h35⟩
         ·skip
          have w36:IntKind.i64.wrap ((i:Int)+1)=((i+1:Nat):Int):=by rw [IntWalk.i64_in]<;>omega
          try simp (disch:=first|omega|assumption) only [E0_G,SY,setArgs,off,agreeKind,partVals,vals,allocV,boxed,ldA,rdCells,oneB,aggD,aField,aFieldV,aExtract,eq_self,ne_eq,if_true,if_false,not_false_eq_true,Nat.reduceAdd,Nat.reduceSub,Nat.reduceMul,Nat.reduceLT,Nat.reduceEqDiff,Nat.reduceBEq,reduceIte,Int.reduceEq,Int.reduceLT,Int.reduceLE,reduceCtorEq,TY_EvW3,g27_2,g27_3,g27_6,g27_8,bb27_1,bb27_2,h6a,h8a,h10a,h13a,w28,h29a,store_agree,store_refl E0_same,i31,j31,m31_0,m31_1,m31_2,k32,s32,v1_32,v2_32,v31_32,j33_31,i33,j33,m33_0,m33_1,m33_2,k34,s34,v1_34,v2_34,v31_34,v33_34,h35a,w36] at he
          rw [drop_cons' hx27] at hd27
          have hf:=(show _=(R70_1 s rn (s.stops.drop (i+1)) (i+1) (IntKind.i64.wrap (uw - (r125 rn x27.at_))):Sum (Bool) (Int)) from (if_pos h35).trans (rfl)).symm.trans hd27
          refine .next he (m - 1) (by omega) ⟨(i+1),IntKind.i64.wrap (uw - (r125 rn x27.at_)),?_,?_,?_,?_,?_,?_,v1_34,v2_34,g34,by omega,hf⟩<;>first|(simp only [SY,setArgs,off,agreeKind,partVals,vals,allocV,boxed,ldA,rdCells,oneB,aggD,aField,aFieldV,aExtract,eq_self,ne_eq,if_true,if_false,not_false_eq_true,Nat.reduceAdd,Nat.reduceSub,Nat.reduceMul,Nat.reduceLT,Nat.reduceEqDiff,Nat.reduceBEq,reduceIte,Int.reduceEq,Int.reduceLT,Int.reduceLE,reduceCtorEq,g27_2,g27_3,g27_6,g27_8]<;>rfl)|omega|assumption|(simp; omega)|simp
         ·skip
          try simp (disch:=first|omega|assumption) only [E0_G,SY,setArgs,off,agreeKind,partVals,vals,allocV,boxed,ldA,rdCells,oneB,aggD,aField,aFieldV,aExtract,eq_self,ne_eq,if_true,if_false,not_false_eq_true,Nat.reduceAdd,Nat.reduceSub,Nat.reduceMul,Nat.reduceLT,Nat.reduceEqDiff,Nat.reduceBEq,reduceIte,Int.reduceEq,Int.reduceLT,Int.reduceLE,reduceCtorEq,TY_EvW3,g27_2,g27_3,g27_6,g27_8,bb27_1,bb27_2,h6a,h8a,h10a,h13a,w28,h29a,store_agree,store_refl E0_same,i31,j31,m31_0,m31_1,m31_2,k32,s32,v1_32,v2_32,v31_32,j33_31,i33,j33,m33_0,m33_1,m33_2,k34,s34,v1_34,v2_34,v31_34,v33_34,h35a] at he
          rw [drop_cons' hx27] at hd27
          have hf:=(show _=(.inl false:Sum (Bool) (Int)) from (if_neg h35).trans (rfl)).symm.trans hd27
          refine .ret he (.inr ⟨rfl,⟨false,?_,g34,hf.symm⟩⟩)<;>first|(simp only [SY,setArgs,off,agreeKind,partVals,vals,allocV,boxed,ldA,rdCells,oneB,aggD,aField,aFieldV,aExtract,eq_self,ne_eq,if_true,if_false,not_false_eq_true,Nat.reduceAdd,Nat.reduceSub,Nat.reduceMul,Nat.reduceLT,Nat.reduceEqDiff,Nat.reduceBEq,reduceIte,Int.reduceEq,Int.reduceLT,Int.reduceLE,reduceCtorEq,g27_2,g27_3,g27_6,g27_8]<;>rfl)|omega|assumption|(simp; omega)|simp
        ·skip
         try simp (disch:=first|omega|assumption) only [E0_G,SY,setArgs,off,agreeKind,partVals,vals,allocV,boxed,ldA,rdCells,oneB,aggD,aField,aFieldV,aExtract,eq_self,ne_eq,if_true,if_false,not_false_eq_true,Nat.reduceAdd,Nat.reduceSub,Nat.reduceMul,Nat.reduceLT,Nat.reduceEqDiff,Nat.reduceBEq,reduceIte,Int.reduceEq,Int.reduceLT,Int.reduceLE,reduceCtorEq,TY_EvW3,g27_2,g27_3,g27_6,g27_8,bb27_1,bb27_2,h6a,h8a,h10a,h13a,w28,h29a] at he
         rw [List.drop_eq_nil_of_le (show s.stops.length≤i by omega)] at hd27
         have hf:=(show _=(.inr uw:Sum (Bool) (Int)) from rfl).symm.trans hd27
         refine .exit he (.inl ⟨rfl,⟨i,uw,?_,bb27_1,bb27_2,ga27,by omega,?_,hf.symm⟩⟩)<;>first|(simp only [SY,setArgs,off,agreeKind,partVals,vals,allocV,boxed,ldA,rdCells,oneB,aggD,aField,aFieldV,aExtract,eq_self,ne_eq,if_true,if_false,not_false_eq_true,Nat.reduceAdd,Nat.reduceSub,Nat.reduceMul,Nat.reduceLT,Nat.reduceEqDiff,Nat.reduceBEq,reduceIte,Int.reduceEq,Int.reduceLT,Int.reduceLE,reduceCtorEq,g27_2,g27_3,g27_6,g27_8]<;>rfl)|omega|assumption|(simp; omega)|simp)
      rcases hQ27 with ⟨rfl,hQ27⟩|⟨rfl,hQ27⟩
      ·skip
       obtain ⟨i,uw,ge27_6,be27_1,be27_2,ge27,gm27,hj27_0,hR27⟩:=hQ27
       try simp (disch:=first|omega|assumption) only [E0_G,SY,setArgs,off,agreeKind,partVals,vals,allocV,boxed,ldA,rdCells,oneB,aggD,aField,aFieldV,aExtract,eq_self,ne_eq,if_true,if_false,not_false_eq_true,Nat.reduceAdd,Nat.reduceSub,Nat.reduceMul,Nat.reduceLT,Nat.reduceEqDiff,Nat.reduceBEq,reduceIte,Int.reduceEq,Int.reduceLT,Int.reduceLE,reduceCtorEq,TY_EvW3,h6a,h8a,h10a,h13a,ge27_6,be27_1,be27_2] at hz
       have hr:r70 s rn=decide (uw=0):=(if_pos h6).trans ((if_pos h8).trans ((if_pos h10).trans ((if_pos h13).trans ((onSum_inr hR14).trans ((onSum_inr hR27).trans (rfl))))))
       exact fin hz (by rw [hr]) ge27
      ·skip
       obtain ⟨r4,ge27_4,ge27,hR27⟩:=hQ27
       try simp (disch:=first|omega|assumption) only [E0_G,SY,setArgs,off,agreeKind,partVals,vals,allocV,boxed,ldA,rdCells,oneB,aggD,aField,aFieldV,aExtract,eq_self,ne_eq,if_true,if_false,not_false_eq_true,Nat.reduceAdd,Nat.reduceSub,Nat.reduceMul,Nat.reduceLT,Nat.reduceEqDiff,Nat.reduceBEq,reduceIte,Int.reduceEq,Int.reduceLT,Int.reduceLE,reduceCtorEq,TY_EvW3,h6a,h8a,h10a,h13a,ge27_4] at hz
       have hr:r70 s rn=r4:=(if_pos h6).trans ((if_pos h8).trans ((if_pos h10).trans ((if_pos h13).trans ((onSum_inr hR14).trans ((onSum_inl hR27).trans (rfl))))))
       exact fin hz (by rw [hr]) ge27
     ·skip
      obtain ⟨r4,ge14_4,ge14,hR14⟩:=hQ14
      try simp (disch:=first|omega|assumption) only [E0_G,SY,setArgs,off,agreeKind,partVals,vals,allocV,boxed,ldA,rdCells,oneB,aggD,aField,aFieldV,aExtract,eq_self,ne_eq,if_true,if_false,not_false_eq_true,Nat.reduceAdd,Nat.reduceSub,Nat.reduceMul,Nat.reduceLT,Nat.reduceEqDiff,Nat.reduceBEq,reduceIte,Int.reduceEq,Int.reduceLT,Int.reduceLE,reduceCtorEq,TY_EvW3,h6a,h8a,h10a,h13a,ge14_4] at hz
      have hr:r70 s rn=r4:=(if_pos h6).trans ((if_pos h8).trans ((if_pos h10).trans ((if_pos h13).trans ((onSum_inl hR14).trans (rfl)))))
      exact fin hz (by rw [hr]) ge14
    ·skip
     try simp (disch:=first|omega|assumption) only [E0_G,SY,setArgs,off,agreeKind,partVals,vals,allocV,boxed,ldA,rdCells,oneB,aggD,aField,aFieldV,aExtract,eq_self,ne_eq,if_true,if_false,not_false_eq_true,Nat.reduceAdd,Nat.reduceSub,Nat.reduceMul,Nat.reduceLT,Nat.reduceEqDiff,Nat.reduceBEq,reduceIte,Int.reduceEq,Int.reduceLT,Int.reduceLE,reduceCtorEq,TY_EvW3,s1,e1,b1,v1_2,s2,e2,b2,k3,s3,v1_3,v2_3,store_agree,store_refl E0_same,k5,s5,v1_5,v2_5,h6a,k7,s7,v1_7,v2_7,h8a,k9,s9,v1_9,v2_9,h10a,k11,s11,v1_11,v2_11,k12,s12,v1_12,v2_12,h13a] at hz
     have hr:r70 s rn=false:=(if_pos h6).trans ((if_pos h8).trans ((if_pos h10).trans ((if_neg h13).trans (rfl))))
     exact fin hz (by rw [hr]) g12
   ·skip
    try simp (disch:=first|omega|assumption) only [E0_G,SY,setArgs,off,agreeKind,partVals,vals,allocV,boxed,ldA,rdCells,oneB,aggD,aField,aFieldV,aExtract,eq_self,ne_eq,if_true,if_false,not_false_eq_true,Nat.reduceAdd,Nat.reduceSub,Nat.reduceMul,Nat.reduceLT,Nat.reduceEqDiff,Nat.reduceBEq,reduceIte,Int.reduceEq,Int.reduceLT,Int.reduceLE,reduceCtorEq,TY_EvW3,s1,e1,b1,v1_2,s2,e2,b2,k3,s3,v1_3,v2_3,store_agree,store_refl E0_same,k5,s5,v1_5,v2_5,h6a,k7,s7,v1_7,v2_7,h8a,k9,s9,v1_9,v2_9,h10a] at hz
    have hr:r70 s rn=false:=(if_pos h6).trans ((if_pos h8).trans ((if_neg h10).trans (rfl)))
    exact fin hz (by rw [hr]) g9
  ·skip
   try simp (disch:=first|omega|assumption) only [E0_G,SY,setArgs,off,agreeKind,partVals,vals,allocV,boxed,ldA,rdCells,oneB,aggD,aField,aFieldV,aExtract,eq_self,ne_eq,if_true,if_false,not_false_eq_true,Nat.reduceAdd,Nat.reduceSub,Nat.reduceMul,Nat.reduceLT,Nat.reduceEqDiff,Nat.reduceBEq,reduceIte,Int.reduceEq,Int.reduceLT,Int.reduceLE,reduceCtorEq,TY_EvW3,s1,e1,b1,v1_2,s2,e2,b2,k3,s3,v1_3,v2_3,store_agree,store_refl E0_same,k5,s5,v1_5,v2_5,h6a,k7,s7,v1_7,v2_7,h8a] at hz
   have hr:r70 s rn=false:=(if_pos h6).trans ((if_neg h8).trans (rfl))
   exact fin hz (by rw [hr]) g7
 ·skip
  try simp (disch:=first|omega|assumption) only [E0_G,SY,setArgs,off,agreeKind,partVals,vals,allocV,boxed,ldA,rdCells,oneB,aggD,aField,aFieldV,aExtract,eq_self,ne_eq,if_true,if_false,not_false_eq_true,Nat.reduceAdd,Nat.reduceSub,Nat.reduceMul,Nat.reduceLT,Nat.reduceEqDiff,Nat.reduceBEq,reduceIte,Int.reduceEq,Int.reduceLT,Int.reduceLE,reduceCtorEq,TY_EvW3,s1,e1,b1,v1_2,s2,e2,b2,k3,s3,v1_3,v2_3,store_agree,store_refl E0_same,k5,s5,v1_5,v2_5,h6a] at hz
  have hr:r70 s rn=false:=(if_neg h6).trans (rfl)
  exact fin hz (by rw [hr]) g5
end Clock
end Go.Proofs
end
