import Derived.Test.YtohfdkdjfoonjaaGreatDoorEvH2
set_option linter.unusedSimpArgs false
set_option linter.unusedVariables false
namespace Go.Proofs
namespace House
open Go Go.RowKit Go.Aev
set_option maxRecDepth 100000
theorem TY_EvH3:type_of% (And.intro (And.intro (And.intro (And.intro (And.intro (And.intro Tryz.underlying3 tz3) (And.intro tt3 t0_3)) (And.intro (And.intro Tryz.underlying4 tz4) (And.intro tt4 (And.intro t0_4 Tryz.underlying9)))) (And.intro (And.intro (And.intro tz9 tt9) (And.intro t0_9 (And.intro Tryz.underlying22 tz22))) (And.intro (And.intro tt22 t0_22) (And.intro Tryz.underlying23 (And.intro tz23 tt23))))) (And.intro (And.intro (And.intro (And.intro t0_23 Tryz.underlying24) (And.intro tz24 tt24)) (And.intro (And.intro t0_24 Tryz.underlying25) (And.intro tz25 (And.intro tt25 t0_25)))) (And.intro (And.intro (And.intro Tryz.underlying26 tz26) (And.intro tt26 (And.intro t0_26 Tryz.underlying35))) (And.intro (And.intro tz35 tt35) (And.intro t0_35 (And.intro Tryz.underlying36 tz36)))))) (And.intro (And.intro (And.intro (And.intro (And.intro tt36 t0_36) (And.intro Tryz.underlying40 tz40)) (And.intro (And.intro tt40 t0_40) (And.intro Tryz.underlying91 (And.intro tz91 tt91)))) (And.intro (And.intro (And.intro t0_91 Tryz.underlying92) (And.intro tz92 (And.intro tt92 t0_92))) (And.intro (And.intro Tryz.underlying97 tz97) (And.intro tt97 (And.intro t0_97 Tryz.underlying98))))) (And.intro (And.intro (And.intro (And.intro tz98 tt98) (And.intro t0_98 Tryz.underlying109)) (And.intro (And.intro tz109 tt109) (And.intro t0_109 (And.intro Tryz.underlying110 tz110)))) (And.intro (And.intro (And.intro tt110 t0_110) (And.intro Tryz.underlying113 (And.intro tz113 tt113))) (And.intro (And.intro t0_113 Tryz.underlying168) (And.intro tz168 (And.intro tt168 t0_168))))))):=(And.intro (And.intro (And.intro (And.intro (And.intro (And.intro Tryz.underlying3 tz3) (And.intro tt3 t0_3)) (And.intro (And.intro Tryz.underlying4 tz4) (And.intro tt4 (And.intro t0_4 Tryz.underlying9)))) (And.intro (And.intro (And.intro tz9 tt9) (And.intro t0_9 (And.intro Tryz.underlying22 tz22))) (And.intro (And.intro tt22 t0_22) (And.intro Tryz.underlying23 (And.intro tz23 tt23))))) (And.intro (And.intro (And.intro (And.intro t0_23 Tryz.underlying24) (And.intro tz24 tt24)) (And.intro (And.intro t0_24 Tryz.underlying25) (And.intro tz25 (And.intro tt25 t0_25)))) (And.intro (And.intro (And.intro Tryz.underlying26 tz26) (And.intro tt26 (And.intro t0_26 Tryz.underlying35))) (And.intro (And.intro tz35 tt35) (And.intro t0_35 (And.intro Tryz.underlying36 tz36)))))) (And.intro (And.intro (And.intro (And.intro (And.intro tt36 t0_36) (And.intro Tryz.underlying40 tz40)) (And.intro (And.intro tt40 t0_40) (And.intro Tryz.underlying91 (And.intro tz91 tt91)))) (And.intro (And.intro (And.intro t0_91 Tryz.underlying92) (And.intro tz92 (And.intro tt92 t0_92))) (And.intro (And.intro Tryz.underlying97 tz97) (And.intro tt97 (And.intro t0_97 Tryz.underlying98))))) (And.intro (And.intro (And.intro (And.intro tz98 tt98) (And.intro t0_98 Tryz.underlying109)) (And.intro (And.intro tz109 tt109) (And.intro t0_109 (And.intro Tryz.underlying110 tz110)))) (And.intro (And.intro (And.intro tt110 t0_110) (And.intro Tryz.underlying113 (And.intro tz113 tt113))) (And.intro (And.intro t0_113 Tryz.underlying168) (And.intro tz168 (And.intro tt168 t0_168)))))))
theorem few20 (h:Hs):∀ (l:List Dr),(R20_0 h l=.inr ())→∀ x ∈ l,x.hours.length≤12∧x.shut.length≤12:=by
 intro l
 induction l with
 | nil=>intro _ x hx; simp at hx
 | cons y l ih =>
  intro e x hx
  unfold R20_0 at e
  split at e
  ·simp at e
  split at e
  ·simp at e
  rcases List.mem_cons.1 hx with rfl|hx
  ·omega
  ·exact ih e x hx
theorem few20b (h:Hs):∀ (l:List Dr),R20_0 h l≠.inl true:=by
 intro l
 induction l with
 | nil=>intro e; unfold R20_0 at e; cases e
 | cons y l ih =>
  intro e
  unfold R20_0 at e
  split at e
  ·cases e
  split at e
  ·cases e
  exact ih e
theorem few_of {h:Hs} (e:r20 h=true):Few h:=by
 unfold r20 at e
 split at e
 ·simp at e
 split at e
 ·simp at e
 split at e
 ·simp at e
 refine ⟨by omega,by omega,by omega,few20 h h.doors ?_⟩
 cases hq:R20_0 h h.doors with
 | inl b =>
  rw [hq] at e
  unfold onSum at e
  simp only at e
  subst e
  exact absurd hq (few20b h h.doors)
 | inr u=>rfl
def r3 (h:Hs) (s:ByteArray):Bool:=(if (r20 h)=true then (if ((r22 h).1)=((r23 h).1) then (if ((r22 h).2)=((r23 h).2) then (if ((r24 h s).1)=((r25 h s).1) then decide (((r24 h s).2)=((r25 h s).2)) else false) else false) else false) else true)
set_option maxHeartbeats 4000000 in
theorem c3 (h:Hs) (s:ByteArray) (hs:∀ x ∈ h.rooms,x.name.size≤9223372036854775807) (S:AS) (v_h_rooms:Value) (hv_h_rooms:LstR S v_h_rooms h.rooms) (v_h_doors:Value) (hv_h_doors:LstR S v_h_doors h.doors) (v_h_ways:Value) (hv_h_ways:Lst S v_h_ways h.ways) :
  ∃ S',(evL Tryz.prog E0).call 3 #[.agg #[v_h_rooms,v_h_doors,v_h_ways],.string s] S=some (.bool (r3 h s),S')∧Agree S S':=by
 generalize hz:(evL Tryz.prog E0).call 3 _ _=z
 rw [L_call,evCall_said rfl Tryz.func3 rfl (by decide) Tryz.ntmps3 Tryz.results3] at hz
 obtain ⟨S1,e1,n1,b1,a1⟩:=push_open S (.cells [v_h_rooms,v_h_doors,v_h_ways] 26 0 true true)
 have g1:Agree S S1:=a1
 have s1:E0.same S S1=true:=symEnv_same a1
 obtain ⟨S2,k2,a2⟩:=c20 h  S1 (v_h_rooms) (hv_h_rooms.agree g1) (v_h_doors) (hv_h_doors.agree g1) (v_h_ways) (hv_h_ways.agree g1)
 have l2:=a2.1
 have s2:E0.same S1 S2=true:=symEnv_same a2
 have v1_2:=(a2.2 S.next (by omega)).trans b1
 have g2:Agree S S2:=g1.trans a2
 try simp (disch:=first|omega|assumption) only [E0_G,SY,setArgs,off,agreeKind,partVals,vals,allocV,boxed,ldA,rdCells,oneB,aggD,aField,aFieldV,aExtract,eq_self,ne_eq,if_true,if_false,not_false_eq_true,Nat.reduceAdd,Nat.reduceSub,Nat.reduceMul,Nat.reduceLT,Nat.reduceEqDiff,Nat.reduceBEq,reduceIte,Int.reduceEq,Int.reduceLT,Int.reduceLE,reduceCtorEq,TY_EvH3,s1,e1,b1,k2,s2,v1_2] at hz
 rcases dB ((r20 h)) with ⟨h3a,h3⟩|⟨h3a,h3⟩
 ·obtain ⟨S4,k4,a4⟩:=c22 h (few_of (show r20 h=true by assumption)) hs S2 (v_h_rooms) (hv_h_rooms.agree g2) (v_h_doors) (hv_h_doors.agree g2) (v_h_ways) (hv_h_ways.agree g2)
  have l4:=a4.1
  have s4:E0.same S2 S4=true:=symEnv_same a4
  have v1_4:=(a4.2 S.next (by omega)).trans v1_2
  have g4:Agree S S4:=g2.trans a4
  obtain ⟨S5,k5,a5⟩:=c23 h (few_of (show r20 h=true by assumption)) S4 (v_h_rooms) (hv_h_rooms.agree g4) (v_h_doors) (hv_h_doors.agree g4) (v_h_ways) (hv_h_ways.agree g4)
  have l5:=a5.1
  have s5:E0.same S4 S5=true:=symEnv_same a5
  have v1_5:=(a5.2 S.next (by omega)).trans v1_4
  have g5:Agree S S5:=g4.trans a5
  obtain ⟨S6,k6,a6⟩:=c24 h s (few_of (show r20 h=true by assumption)) hs S5 (v_h_rooms) (hv_h_rooms.agree g5) (v_h_doors) (hv_h_doors.agree g5) (v_h_ways) (hv_h_ways.agree g5)
  have l6:=a6.1
  have s6:E0.same S5 S6=true:=symEnv_same a6
  have v1_6:=(a6.2 S.next (by omega)).trans v1_5
  have g6:Agree S S6:=g5.trans a6
  obtain ⟨S7,k7,a7⟩:=c25 h s (few_of (show r20 h=true by assumption)) S6 (v_h_rooms) (hv_h_rooms.agree g6) (v_h_doors) (hv_h_doors.agree g6) (v_h_ways) (hv_h_ways.agree g6)
  have l7:=a7.1
  have s7:E0.same S6 S7=true:=symEnv_same a7
  have v1_7:=(a7.2 S.next (by omega)).trans v1_6
  have g7:Agree S S7:=g6.trans a7
  try simp (disch:=first|omega|assumption) only [E0_G,SY,setArgs,off,agreeKind,partVals,vals,allocV,boxed,ldA,rdCells,oneB,aggD,aField,aFieldV,aExtract,eq_self,ne_eq,if_true,if_false,not_false_eq_true,Nat.reduceAdd,Nat.reduceSub,Nat.reduceMul,Nat.reduceLT,Nat.reduceEqDiff,Nat.reduceBEq,reduceIte,Int.reduceEq,Int.reduceLT,Int.reduceLE,reduceCtorEq,TY_EvH3,s1,e1,b1,k2,s2,v1_2,h3a,k4,s4,v1_4,k5,s5,v1_5,k6,s6,v1_6,k7,s7,v1_7,c21s] at hz
  rcases dP (((r22 h).1)=((r23 h).1)) with ⟨h8a,h8⟩|⟨h8a,h8⟩
  ·try simp (disch:=first|omega|assumption) only [E0_G,SY,setArgs,off,agreeKind,partVals,vals,allocV,boxed,ldA,rdCells,oneB,aggD,aField,aFieldV,aExtract,eq_self,ne_eq,if_true,if_false,not_false_eq_true,Nat.reduceAdd,Nat.reduceSub,Nat.reduceMul,Nat.reduceLT,Nat.reduceEqDiff,Nat.reduceBEq,reduceIte,Int.reduceEq,Int.reduceLT,Int.reduceLE,reduceCtorEq,TY_EvH3,s1,e1,b1,k2,s2,v1_2,h3a,k4,s4,v1_4,k5,s5,v1_5,k6,s6,v1_6,k7,s7,v1_7,c21s,h8a] at hz
   rcases dP (((r22 h).2)=((r23 h).2)) with ⟨h9a,h9⟩|⟨h9a,h9⟩
   ·try simp (disch:=first|omega|assumption) only [E0_G,SY,setArgs,off,agreeKind,partVals,vals,allocV,boxed,ldA,rdCells,oneB,aggD,aField,aFieldV,aExtract,eq_self,ne_eq,if_true,if_false,not_false_eq_true,Nat.reduceAdd,Nat.reduceSub,Nat.reduceMul,Nat.reduceLT,Nat.reduceEqDiff,Nat.reduceBEq,reduceIte,Int.reduceEq,Int.reduceLT,Int.reduceLE,reduceCtorEq,TY_EvH3,s1,e1,b1,k2,s2,v1_2,h3a,k4,s4,v1_4,k5,s5,v1_5,k6,s6,v1_6,k7,s7,v1_7,c21s,h8a,h9a] at hz
    rcases dP (((r24 h s).1)=((r25 h s).1)) with ⟨h10a,h10⟩|⟨h10a,h10⟩
    ·try simp (disch:=first|omega|assumption) only [E0_G,SY,setArgs,off,agreeKind,partVals,vals,allocV,boxed,ldA,rdCells,oneB,aggD,aField,aFieldV,aExtract,eq_self,ne_eq,if_true,if_false,not_false_eq_true,Nat.reduceAdd,Nat.reduceSub,Nat.reduceMul,Nat.reduceLT,Nat.reduceEqDiff,Nat.reduceBEq,reduceIte,Int.reduceEq,Int.reduceLT,Int.reduceLE,reduceCtorEq,TY_EvH3,s1,e1,b1,k2,s2,v1_2,h3a,k4,s4,v1_4,k5,s5,v1_5,k6,s6,v1_6,k7,s7,v1_7,c21s,h8a,h9a,h10a] at hz
     have hr:r3 h s=decide (((r24 h s).2)=((r25 h s).2)):=(if_pos h3).trans ((if_pos h8).trans ((if_pos h9).trans ((if_pos h10).trans (rfl))))
     exact fin hz (by rw [hr]) g7
    try simp (disch:=first|omega|assumption) only [E0_G,SY,setArgs,off,agreeKind,partVals,vals,allocV,boxed,ldA,rdCells,oneB,aggD,aField,aFieldV,aExtract,eq_self,ne_eq,if_true,if_false,not_false_eq_true,Nat.reduceAdd,Nat.reduceSub,Nat.reduceMul,Nat.reduceLT,Nat.reduceEqDiff,Nat.reduceBEq,reduceIte,Int.reduceEq,Int.reduceLT,Int.reduceLE,reduceCtorEq,TY_EvH3,s1,e1,b1,k2,s2,v1_2,h3a,k4,s4,v1_4,k5,s5,v1_5,k6,s6,v1_6,k7,s7,v1_7,c21s,h8a,h9a,h10a] at hz
    have hr:r3 h s=false:=(if_pos h3).trans ((if_pos h8).trans ((if_pos h9).trans ((if_neg h10).trans (rfl))))
    exact fin hz (by rw [hr]) g7
   try simp (disch:=first|omega|assumption) only [E0_G,SY,setArgs,off,agreeKind,partVals,vals,allocV,boxed,ldA,rdCells,oneB,aggD,aField,aFieldV,aExtract,eq_self,ne_eq,if_true,if_false,not_false_eq_true,Nat.reduceAdd,Nat.reduceSub,Nat.reduceMul,Nat.reduceLT,Nat.reduceEqDiff,Nat.reduceBEq,reduceIte,Int.reduceEq,Int.reduceLT,Int.reduceLE,reduceCtorEq,TY_EvH3,s1,e1,b1,k2,s2,v1_2,h3a,k4,s4,v1_4,k5,s5,v1_5,k6,s6,v1_6,k7,s7,v1_7,c21s,h8a,h9a] at hz
   have hr:r3 h s=false:=(if_pos h3).trans ((if_pos h8).trans ((if_neg h9).trans (rfl)))
   exact fin hz (by rw [hr]) g7
  try simp (disch:=first|omega|assumption) only [E0_G,SY,setArgs,off,agreeKind,partVals,vals,allocV,boxed,ldA,rdCells,oneB,aggD,aField,aFieldV,aExtract,eq_self,ne_eq,if_true,if_false,not_false_eq_true,Nat.reduceAdd,Nat.reduceSub,Nat.reduceMul,Nat.reduceLT,Nat.reduceEqDiff,Nat.reduceBEq,reduceIte,Int.reduceEq,Int.reduceLT,Int.reduceLE,reduceCtorEq,TY_EvH3,s1,e1,b1,k2,s2,v1_2,h3a,k4,s4,v1_4,k5,s5,v1_5,k6,s6,v1_6,k7,s7,v1_7,c21s,h8a] at hz
  have hr:r3 h s=false:=(if_pos h3).trans ((if_neg h8).trans (rfl))
  exact fin hz (by rw [hr]) g7
 try simp (disch:=first|omega|assumption) only [E0_G,SY,setArgs,off,agreeKind,partVals,vals,allocV,boxed,ldA,rdCells,oneB,aggD,aField,aFieldV,aExtract,eq_self,ne_eq,if_true,if_false,not_false_eq_true,Nat.reduceAdd,Nat.reduceSub,Nat.reduceMul,Nat.reduceLT,Nat.reduceEqDiff,Nat.reduceBEq,reduceIte,Int.reduceEq,Int.reduceLT,Int.reduceLE,reduceCtorEq,TY_EvH3,s1,e1,b1,k2,s2,v1_2,h3a,c21s] at hz
 have hr:r3 h s=true:=(if_neg h3).trans (rfl)
 exact fin hz (by rw [hr]) g2
end House
end Go.Proofs
