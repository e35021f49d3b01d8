import Derived.Test.YtohfdkdjfoonjaaGreatDoorBAD
set_option linter.unusedSimpArgs false
set_option linter.unusedVariables false
namespace Go.Proofs
namespace House
open Go Go.RowKit Go.Aev
set_option maxRecDepth 100000
theorem TY_EvH40:type_of% (And.intro (And.intro (And.intro (And.intro (And.intro (And.intro (And.intro Tryz.underlying3 tz3) (And.intro tt3 (And.intro t0_3 Tryz.underlying4))) (And.intro (And.intro tz4 tt4) (And.intro t0_4 (And.intro Tryz.underlying9 tz9)))) (And.intro (And.intro (And.intro tt9 t0_9) (And.intro Tryz.underlying22 (And.intro tz22 tt22))) (And.intro (And.intro t0_22 (And.intro Tryz.underlying23 tz23)) (And.intro tt23 (And.intro t0_23 Tryz.underlying24))))) (And.intro (And.intro (And.intro (And.intro tz24 tt24) (And.intro t0_24 (And.intro Tryz.underlying25 tz25))) (And.intro (And.intro tt25 (And.intro t0_25 Tryz.underlying26)) (And.intro tz26 (And.intro tt26 t0_26)))) (And.intro (And.intro (And.intro Tryz.underlying29 tz29) (And.intro tt29 (And.intro t0_29 Tryz.underlying35))) (And.intro (And.intro tz35 (And.intro tt35 t0_35)) (And.intro Tryz.underlying36 (And.intro tz36 tt36)))))) (And.intro (And.intro (And.intro (And.intro (And.intro t0_36 Tryz.underlying40) (And.intro tz40 (And.intro tt40 t0_40))) (And.intro (And.intro Tryz.underlying47 tz47) (And.intro tt47 (And.intro t0_47 Tryz.underlying50)))) (And.intro (And.intro (And.intro tz50 tt50) (And.intro t0_50 (And.intro Tryz.underlying51 tz51))) (And.intro (And.intro tt51 (And.intro t0_51 Tryz.underlying54)) (And.intro tz54 (And.intro tt54 t0_54))))) (And.intro (And.intro (And.intro (And.intro Tryz.underlying57 tz57) (And.intro tt57 (And.intro t0_57 Tryz.underlying58))) (And.intro (And.intro tz58 (And.intro tt58 t0_58)) (And.intro Tryz.underlying72 (And.intro tz72 tt72)))) (And.intro (And.intro (And.intro t0_72 Tryz.underlying91) (And.intro tz91 (And.intro tt91 t0_91))) (And.intro (And.intro Tryz.underlying92 (And.intro tz92 tt92)) (And.intro t0_92 (And.intro Tryz.underlying93 tz93))))))) (And.intro (And.intro (And.intro (And.intro (And.intro (And.intro tt93 t0_93) (And.intro Tryz.underlying94 (And.intro tz94 tt94))) (And.intro (And.intro t0_94 Tryz.underlying97) (And.intro tz97 (And.intro tt97 t0_97)))) (And.intro (And.intro (And.intro Tryz.underlying98 tz98) (And.intro tt98 (And.intro t0_98 Tryz.underlying109))) (And.intro (And.intro tz109 (And.intro tt109 t0_109)) (And.intro Tryz.underlying110 (And.intro tz110 tt110))))) (And.intro (And.intro (And.intro (And.intro t0_110 Tryz.underlying113) (And.intro tz113 (And.intro tt113 t0_113))) (And.intro (And.intro Tryz.underlying124 (And.intro tz124 tt124)) (And.intro t0_124 (And.intro Tryz.underlying125 tz125)))) (And.intro (And.intro (And.intro tt125 t0_125) (And.intro Tryz.underlying127 (And.intro tz127 tt127))) (And.intro (And.intro t0_127 (And.intro Tryz.underlying128 tz128)) (And.intro tt128 (And.intro t0_128 Tryz.underlying134)))))) (And.intro (And.intro (And.intro (And.intro (And.intro tz134 tt134) (And.intro t0_134 (And.intro Tryz.underlying136 tz136))) (And.intro (And.intro tt136 t0_136) (And.intro Tryz.underlying137 (And.intro tz137 tt137)))) (And.intro (And.intro (And.intro t0_137 Tryz.underlying141) (And.intro tz141 (And.intro tt141 t0_141))) (And.intro (And.intro Tryz.underlying142 (And.intro tz142 tt142)) (And.intro t0_142 (And.intro Tryz.underlying148 tz148))))) (And.intro (And.intro (And.intro (And.intro tt148 t0_148) (And.intro Tryz.underlying149 (And.intro tz149 tt149))) (And.intro (And.intro t0_149 (And.intro Tryz.underlying154 tz154)) (And.intro tt154 (And.intro t0_154 Tryz.underlying168)))) (And.intro (And.intro (And.intro tz168 tt168) (And.intro t0_168 (And.intro Tryz.underlying204 tz204))) (And.intro (And.intro tt204 (And.intro t0_204 Tryz.underlying207)) (And.intro tz207 (And.intro tt207 t0_207)))))))):=(And.intro (And.intro (And.intro (And.intro (And.intro (And.intro (And.intro Tryz.underlying3 tz3) (And.intro tt3 (And.intro t0_3 Tryz.underlying4))) (And.intro (And.intro tz4 tt4) (And.intro t0_4 (And.intro Tryz.underlying9 tz9)))) (And.intro (And.intro (And.intro tt9 t0_9) (And.intro Tryz.underlying22 (And.intro tz22 tt22))) (And.intro (And.intro t0_22 (And.intro Tryz.underlying23 tz23)) (And.intro tt23 (And.intro t0_23 Tryz.underlying24))))) (And.intro (And.intro (And.intro (And.intro tz24 tt24) (And.intro t0_24 (And.intro Tryz.underlying25 tz25))) (And.intro (And.intro tt25 (And.intro t0_25 Tryz.underlying26)) (And.intro tz26 (And.intro tt26 t0_26)))) (And.intro (And.intro (And.intro Tryz.underlying29 tz29) (And.intro tt29 (And.intro t0_29 Tryz.underlying35))) (And.intro (And.intro tz35 (And.intro tt35 t0_35)) (And.intro Tryz.underlying36 (And.intro tz36 tt36)))))) (And.intro (And.intro (And.intro (And.intro (And.intro t0_36 Tryz.underlying40) (And.intro tz40 (And.intro tt40 t0_40))) (And.intro (And.intro Tryz.underlying47 tz47) (And.intro tt47 (And.intro t0_47 Tryz.underlying50)))) (And.intro (And.intro (And.intro tz50 tt50) (And.intro t0_50 (And.intro Tryz.underlying51 tz51))) (And.intro (And.intro tt51 (And.intro t0_51 Tryz.underlying54)) (And.intro tz54 (And.intro tt54 t0_54))))) (And.intro (And.intro (And.intro (And.intro Tryz.underlying57 tz57) (And.intro tt57 (And.intro t0_57 Tryz.underlying58))) (And.intro (And.intro tz58 (And.intro tt58 t0_58)) (And.intro Tryz.underlying72 (And.intro tz72 tt72)))) (And.intro (And.intro (And.intro t0_72 Tryz.underlying91) (And.intro tz91 (And.intro tt91 t0_91))) (And.intro (And.intro Tryz.underlying92 (And.intro tz92 tt92)) (And.intro t0_92 (And.intro Tryz.underlying93 tz93))))))) (And.intro (And.intro (And.intro (And.intro (And.intro (And.intro tt93 t0_93) (And.intro Tryz.underlying94 (And.intro tz94 tt94))) (And.intro (And.intro t0_94 Tryz.underlying97) (And.intro tz97 (And.intro tt97 t0_97)))) (And.intro (And.intro (And.intro Tryz.underlying98 tz98) (And.intro tt98 (And.intro t0_98 Tryz.underlying109))) (And.intro (And.intro tz109 (And.intro tt109 t0_109)) (And.intro Tryz.underlying110 (And.intro tz110 tt110))))) (And.intro (And.intro (And.intro (And.intro t0_110 Tryz.underlying113) (And.intro tz113 (And.intro tt113 t0_113))) (And.intro (And.intro Tryz.underlying124 (And.intro tz124 tt124)) (And.intro t0_124 (And.intro Tryz.underlying125 tz125)))) (And.intro (And.intro (And.intro tt125 t0_125) (And.intro Tryz.underlying127 (And.intro tz127 tt127))) (And.intro (And.intro t0_127 (And.intro Tryz.underlying128 tz128)) (And.intro tt128 (And.intro t0_128 Tryz.underlying134)))))) (And.intro (And.intro (And.intro (And.intro (And.intro tz134 tt134) (And.intro t0_134 (And.intro Tryz.underlying136 tz136))) (And.intro (And.intro tt136 t0_136) (And.intro Tryz.underlying137 (And.intro tz137 tt137)))) (And.intro (And.intro (And.intro t0_137 Tryz.underlying141) (And.intro tz141 (And.intro tt141 t0_141))) (And.intro (And.intro Tryz.underlying142 (And.intro tz142 tt142)) (And.intro t0_142 (And.intro Tryz.underlying148 tz148))))) (And.intro (And.intro (And.intro (And.intro tt148 t0_148) (And.intro Tryz.underlying149 (And.intro tz149 tt149))) (And.intro (And.intro t0_149 (And.intro Tryz.underlying154 tz154)) (And.intro tt154 (And.intro t0_154 Tryz.underlying168)))) (And.intro (And.intro (And.intro tz168 tt168) (And.intro t0_168 (And.intro Tryz.underlying204 tz204))) (And.intro (And.intro tt204 (And.intro t0_204 Tryz.underlying207)) (And.intro tz207 (And.intro tt207 t0_207))))))))
theorem r56_rng (h:Hs) (a b:Int):0≤(r56 h a b).1∧(r56 h a b).1≤1073741824:=by
 unfold r56
 split
 ·split
  ·rename_i h1 h2
   have q:=r84_ok h2
   have ra:=r102_iff.1 h1; have rb:=r102_iff.1 q.2
   have e:=r119_get q.1 a (i:=Int.toNat b) (by omega)
   have T:=r106_tm (h:=pl h) (fr:=a) (pl_ok q.1) (ti:=0) (by decide)
   have bT:=T.at (lget_some (l:=r106 (pl h) a 0) (i:=Int.toNat b) (by rw [T.len]; show Int.toNat b<h.rooms.length; omega))
   split
   ·simp
   ·rename_i g
    simp only
    rw [e] at g ⊢
    split
    ·rename_i w; rw [if_pos w] at g; omega
    ·omega
  ·simp
 ·simp
def R19_0 (h:Hs) (a:Int) (b:Int) (cc:Int) (ti:Int)  : List Wy→List Wy→(List Wy)
 | [],ws=>ws
 | x47 :: l',ws=>R19_0 h a b cc ti l' (ws++([(⟨x47.a,x47.b,x47.secs,x47.back,-1⟩:Wy)]))
def r19 (h:Hs) (a:Int) (b:Int) (cc:Int) (ti:Int):Bool:=(if (¬ ((r68 h)=true))∨(¬ ((r69 ti)=true)) then true else (if (((r56 h (r70 a (h.rooms.length:Int)) (r70 b (h.rooms.length:Int))).2)=0)∧((((r56 h (r70 b (h.rooms.length:Int)) (r70 cc (h.rooms.length:Int))).2)=0)∧((¬ (((r56 h (r70 a (h.rooms.length:Int)) (r70 cc (h.rooms.length:Int))).2)=0))∨((((r56 h (r70 a (h.rooms.length:Int)) (r70 b (h.rooms.length:Int))).1)+((r56 h (r70 b (h.rooms.length:Int)) (r70 cc (h.rooms.length:Int))).1))<((r56 h (r70 a (h.rooms.length:Int)) (r70 cc (h.rooms.length:Int))).1)))) then false else (if (¬ (((r41 h (r70 a (h.rooms.length:Int)) ti).2)=0))∨((¬ (((r41 (⟨h.rooms,[],R19_0 h a b cc ti h.ways ([])⟩:Hs) (r70 a (h.rooms.length:Int)) ti).2)=0))∨((¬ ((((r41 h (r70 a (h.rooms.length:Int)) ti).1).length:Int)=(h.rooms.length:Int)))∨(¬ ((((r41 (⟨h.rooms,[],R19_0 h a b cc ti h.ways ([])⟩:Hs) (r70 a (h.rooms.length:Int)) ti).1).length:Int)=(h.rooms.length:Int))))) then false else decide (((lget ((r41 (⟨h.rooms,[],R19_0 h a b cc ti h.ways ([])⟩:Hs) (r70 a (h.rooms.length:Int)) ti).1) (Int.toNat (r70 cc (h.rooms.length:Int))))=(if (((r56 h (r70 a (h.rooms.length:Int)) (r70 cc (h.rooms.length:Int))).2)=0)∧((ti+((r56 h (r70 a (h.rooms.length:Int)) (r70 cc (h.rooms.length:Int))).1))≤1073741823) then ti+((r56 h (r70 a (h.rooms.length:Int)) (r70 cc (h.rooms.length:Int))).1) else 1073741824))∧((if (((r56 h (r70 a (h.rooms.length:Int)) (r70 cc (h.rooms.length:Int))).2)=0)∧((ti+((r56 h (r70 a (h.rooms.length:Int)) (r70 cc (h.rooms.length:Int))).1))≤1073741823) then ti+((r56 h (r70 a (h.rooms.length:Int)) (r70 cc (h.rooms.length:Int))).1) else 1073741824)≤(lget ((r41 h (r70 a (h.rooms.length:Int)) ti).1) (Int.toNat (r70 cc (h.rooms.length:Int)))))))))
set_option maxHeartbeats 16000000 in
theorem c19 (h:Hs) (a:Int) (b:Int) (cc:Int) (ti:Int) (hs:∀ x ∈ h.rooms,x.name.size≤9223372036854775807) (S:AS) (v_h_rooms:Value) (hv_h_rooms:LstR S v_h_rooms h.rooms) (v_h_doors:Value) (hv_h_doors:LstR S v_h_doors h.doors) (v_h_ways:Value) (hv_h_ways:Lst S v_h_ways h.ways) :
  ∃ S',(evL Tryz.prog E0).call 19 #[.agg #[v_h_rooms,v_h_doors,v_h_ways],.int .i64 a,.int .i64 b,.int .i64 cc,.int .i64 ti] S=some (.bool (r19 h a b cc ti),S')∧Agree S S':=by
 have q0:∀ (m ws:List Wy),R19_0 h a b cc ti m ws=ws++m.map unw:=by
  intro m
  induction m with
  | nil=>intro ws; simp [R19_0]
  | cons w m ih=>intro ws; rw [R19_0,ih,List.map_cons,List.append_assoc]; rfl
 have qP:(⟨h.rooms,[],R19_0 h a b cc ti h.ways ([])⟩:Hs)=pl h:=by rw [q0]; rfl
 generalize hz:(evL Tryz.prog E0).call 19 _ _=z
 rw [L_call,evCall_said rfl Tryz.func19 rfl (by decide) Tryz.ntmps19 Tryz.results19] at hz
 obtain ⟨S1,e1,n1,b1,a1⟩:=push_open S (.cells [v_h_rooms,v_h_doors,v_h_ways] 26 0 true true)
 have g1:Agree S S1:=a1
 have s1:E0.same S S1=true:=symEnv_same a1
 obtain ⟨S2,k2,a2⟩:=c68 h  S1 (v_h_rooms) (hv_h_rooms.agree g1) (v_h_doors) (hv_h_doors.agree g1) (v_h_ways) (hv_h_ways.agree g1)
 have l2:=a2.1
 have s2:E0.same S1 S2=true:=symEnv_same a2
 have v1_2:=(a2.2 S.next (by omega)).trans b1
 have g2:Agree S S2:=g1.trans a2
 try simp (disch:=first|omega|assumption) only [E0_G,SY,setArgs,off,agreeKind,vals,boxed,ldA,rdCells,aggD,Nat.reduceAdd,Nat.reduceSub,Nat.reduceLT,Nat.reduceBEq,TY_EvH40,e1,b1,k2] at hz
 generalize hL3:behind _ _=L3 at hz
 refine join_reg hL3 (fun t S'=>∃ (j3_0:Bool),j3_0=decide ((¬ ((r68 h)=true))∨(¬ ((r69 ti)=true)))∧t.get 1=some (.int .i64 a)∧t.get 2=some (.int .i64 b)∧t.get 3=some (.int .i64 cc)∧t.get 4=some (.int .i64 ti)∧t.get 5=some (.pointer (some ⟨S.next,0,none⟩))∧t.get 35=some (.bool j3_0)∧S'.heap.get S.next=some (.cells [v_h_rooms,v_h_doors,v_h_ways] 26 0 true true)∧Agree S S'∧S2.next≤S'.next) (fun tl3=>?_) (fun t3 S3 hn3 hq3=>?_)
 ·try simp (disch:=first|omega|assumption) only [E0_G,SY,setArgs,off,agreeKind,partVals,vals,allocV,boxed,ldA,rdCells,oneB,aggD,aField,aFieldV,aExtract,eq_self,ne_eq,if_true,if_false,not_false_eq_true,Nat.reduceAdd,Nat.reduceSub,Nat.reduceMul,Nat.reduceLT,Nat.reduceEqDiff,Nat.reduceBEq,reduceIte,Int.reduceEq,Int.reduceLT,Int.reduceLE,reduceCtorEq,TY_EvH40,s1,e1,b1,k2,s2,v1_2] at hL3
  rcases dB ((r68 h)) with ⟨h8a,h8⟩|⟨h8a,h8⟩
  ·have hV:=(r68_ok h8).2
   have lq9:=r68_len h8
   have lq10:=(r68_ok h8).1.r
   obtain ⟨S11,k11,a11⟩:=c69 ti  S2
   have l11:=a11.1
   have v1_11:=(a11.2 S.next (by omega)).trans v1_2
   have g11:Agree S S11:=g2.trans a11
   try simp (disch:=first|omega|assumption) only [E0_G,SY,off,agreeKind,vals,Nat.reduceAdd,Nat.reduceLT,Nat.reduceBEq,h8a,k11] at hL3
   refine tl3 _ _ hL3.symm ⟨!(r69 ti),by simp only [eq_true h8,false_or,not_true_eq_false,decide_not,Bool.decide_eq_true],?_,?_,?_,?_,?_,?_,v1_11,g11,by omega⟩<;>first|(simp only [SY,eq_self,Nat.reduceBEq]<;>rfl)|omega|assumption|(simp; omega)|simp
  try simp (disch:=first|omega|assumption) only [E0_G,SY,off,agreeKind,Nat.reduceAdd,Nat.reduceLT,Nat.reduceBEq,h8a] at hL3
  refine tl3 _ _ hL3.symm ⟨true,by simp only [eq_false h8,true_or,not_false_eq_true,decide_true],?_,?_,?_,?_,?_,?_,v1_2,g2,by omega⟩<;>first|(simp only [SY,eq_self,Nat.reduceBEq]<;>rfl)|omega|assumption|(simp; omega)|simp
 subst hn3
 obtain ⟨j3_0,rfl,g3_1,g3_2,g3_3,g3_4,g3_5,g3_35,bj3_1,gj3,gl3⟩:=hq3
 try simp (disch:=first|omega|assumption) only [E0_G,SY,g3_35] at hz
 rcases dP ((¬ ((r68 h)=true))∨(¬ ((r69 ti)=true))) with ⟨h12a,h12⟩|⟨h12a,h12⟩
 ·simp only [h12a] at hz
  try simp (disch:=first|omega|assumption) only [E0_G,SY,off,agreeKind,vals,Nat.reduceAdd,Nat.reduceLT,Nat.reduceBEq,c21s] at hz
  have hr:r19 h a b cc ti=true:=(if_pos h12).trans (rfl)
  exact fin hz (by rw [hr]) gj3
 simp only [h12a] at hz
 have h13:(r68 h)=true:=(Decidable.not_not.1 (fun q_=>h12 (.inl q_)))
 have h13a:=id h13
 have hV:=(r68_ok h13).2
 have lq14:=r68_len h13
 have lq15:=(r68_ok h13).1.r
 have h16:(r69 ti)=true:=(Decidable.not_not.1 (fun q_=>h12 (.inr q_)))
 have h16a:=id h16
 have lq17:=r69_iff.1 h16
 have lq18:=r69_iff.1 h16
 have w19:=(hv_h_rooms.agree gj3).len (P:=Tryz.prog) (t:=22) Tryz.underlying22
 obtain ⟨S20,k20,a20⟩:=c70w a (h.rooms.length:Int) (by have:=rooms_pos hV; omega) S3
 have l20:=a20.1
 have s20:E0.same S3 S20=true:=symEnv_same a20
 have v1_20:=(a20.2 S.next (by omega)).trans bj3_1
 have g20:Agree S S20:=gj3.trans a20
 have p20:=r70_ok (n:=a) (k:=(h.rooms.length:Int)) ⟨by have:=rooms_pos hV; omega,by omega⟩
 have w21:=(hv_h_rooms.agree g20).len (P:=Tryz.prog) (t:=22) Tryz.underlying22
 obtain ⟨S22,k22,a22⟩:=c70w b (h.rooms.length:Int) (by have:=rooms_pos hV; omega) S20
 have l22:=a22.1
 have s22:E0.same S20 S22=true:=symEnv_same a22
 have v1_22:=(a22.2 S.next (by omega)).trans v1_20
 have g22:Agree S S22:=g20.trans a22
 have p22:=r70_ok (n:=b) (k:=(h.rooms.length:Int)) ⟨by have:=rooms_pos hV; omega,by omega⟩
 have w23:=(hv_h_rooms.agree g22).len (P:=Tryz.prog) (t:=22) Tryz.underlying22
 obtain ⟨S24,k24,a24⟩:=c70w cc (h.rooms.length:Int) (by have:=rooms_pos hV; omega) S22
 have l24:=a24.1
 have s24:E0.same S22 S24=true:=symEnv_same a24
 have v1_24:=(a24.2 S.next (by omega)).trans v1_22
 have g24:Agree S S24:=g22.trans a24
 have p24:=r70_ok (n:=cc) (k:=(h.rooms.length:Int)) ⟨by have:=rooms_pos hV; omega,by omega⟩
 obtain ⟨S25,k25,a25⟩:=c56 h (r70 a (h.rooms.length:Int)) (r70 b (h.rooms.length:Int)) (r68_ok (h:=h) (by assumption)).1 hs S24 (v_h_rooms) (hv_h_rooms.agree g24) (v_h_doors) (hv_h_doors.agree g24) (v_h_ways) (hv_h_ways.agree g24)
 have l25:=a25.1
 have s25:E0.same S24 S25=true:=symEnv_same a25
 have v1_25:=(a25.2 S.next (by omega)).trans v1_24
 have g25:Agree S S25:=g24.trans a25
 have p25:=r56_rng h (r70 a (h.rooms.length:Int)) (r70 b (h.rooms.length:Int))
 obtain ⟨S26,k26,a26⟩:=c56 h (r70 b (h.rooms.length:Int)) (r70 cc (h.rooms.length:Int)) (r68_ok (h:=h) (by assumption)).1 hs S25 (v_h_rooms) (hv_h_rooms.agree g25) (v_h_doors) (hv_h_doors.agree g25) (v_h_ways) (hv_h_ways.agree g25)
 have l26:=a26.1
 have s26:E0.same S25 S26=true:=symEnv_same a26
 have v1_26:=(a26.2 S.next (by omega)).trans v1_25
 have g26:Agree S S26:=g25.trans a26
 have p26:=r56_rng h (r70 b (h.rooms.length:Int)) (r70 cc (h.rooms.length:Int))
 obtain ⟨S27,k27,a27⟩:=c56 h (r70 a (h.rooms.length:Int)) (r70 cc (h.rooms.length:Int)) (r68_ok (h:=h) (by assumption)).1 hs S26 (v_h_rooms) (hv_h_rooms.agree g26) (v_h_doors) (hv_h_doors.agree g26) (v_h_ways) (hv_h_ways.agree g26)
 have l27:=a27.1
 have s27:E0.same S26 S27=true:=symEnv_same a27
 have v1_27:=(a27.2 S.next (by omega)).trans v1_26
 have g27:Agree S S27:=g26.trans a27
 have p27:=r56_rng h (r70 a (h.rooms.length:Int)) (r70 cc (h.rooms.length:Int))
 try simp (disch:=first|omega|assumption) only [E0_G,SY,off,agreeKind,vals,ldA,rdCells,aggD,aField,aExtract,Nat.reduceAdd,Nat.reduceLT,Nat.reduceBEq,TY_EvH40,g3_1,g3_2,g3_3,g3_5,bj3_1,w19,k20,v1_20,k22,v1_22,k24,v1_24,k25,v1_25,k26,v1_26,k27] at hz
 generalize hL28:behind _ _=L28 at hz
 refine join_reg hL28 (fun t S'=>∃ (j28_0:Bool),j28_0=decide ((((r56 h (r70 a (h.rooms.length:Int)) (r70 b (h.rooms.length:Int))).2)=0)∧((((r56 h (r70 b (h.rooms.length:Int)) (r70 cc (h.rooms.length:Int))).2)=0)∧((¬ (((r56 h (r70 a (h.rooms.length:Int)) (r70 cc (h.rooms.length:Int))).2)=0))∨((((r56 h (r70 a (h.rooms.length:Int)) (r70 b (h.rooms.length:Int))).1)+((r56 h (r70 b (h.rooms.length:Int)) (r70 cc (h.rooms.length:Int))).1))<((r56 h (r70 a (h.rooms.length:Int)) (r70 cc (h.rooms.length:Int))).1)))))∧t.get 4=some (.int .i64 ti)∧t.get 5=some (.pointer (some ⟨S.next,0,none⟩))∧t.get 11=some (.int .i64 (r70 a (h.rooms.length:Int)))∧t.get 13=some (.int .i64 (r70 cc (h.rooms.length:Int)))∧t.get 18=some (.int .i64 ((r56 h (r70 a (h.rooms.length:Int)) (r70 cc (h.rooms.length:Int))).1))∧t.get 19=some (.int .i64 ((r56 h (r70 a (h.rooms.length:Int)) (r70 cc (h.rooms.length:Int))).2))∧t.get 89=some (.bool j28_0)∧S27=S') (fun tl28=>?_) (fun t28 S28 hn28 hq28=>?_)
 ·try simp (disch:=first|omega|assumption) only [E0_G,SY,setArgs,off,agreeKind,partVals,vals,allocV,boxed,ldA,rdCells,oneB,aggD,aField,aFieldV,aExtract,eq_self,ne_eq,if_true,if_false,not_false_eq_true,Nat.reduceAdd,Nat.reduceSub,Nat.reduceMul,Nat.reduceLT,Nat.reduceEqDiff,Nat.reduceBEq,reduceIte,Int.reduceEq,Int.reduceLT,Int.reduceLE,reduceCtorEq,TY_EvH40,s1,e1,b1,k2,s2,v1_2,g3_1,g3_2,g3_3,g3_4,g3_5,g3_35,bj3_1,h12a,h13a,h16a,w19,k20,s20,v1_20,w21,k22,s22,v1_22,w23,k24,s24,v1_24,k25,s25,v1_25,k26,s26,v1_26,k27,s27,v1_27] at hL28
  rcases dP (((r56 h (r70 a (h.rooms.length:Int)) (r70 b (h.rooms.length:Int))).2)=0) with ⟨h33a,h33⟩|⟨h33a,h33⟩
  ·try simp (disch:=first|omega|assumption) only [E0_G,SY,off,agreeKind,Nat.reduceAdd,Nat.reduceLT,Nat.reduceBEq,h33a] at hL28
   rcases dP (((r56 h (r70 b (h.rooms.length:Int)) (r70 cc (h.rooms.length:Int))).2)=0) with ⟨h34a,h34⟩|⟨h34a,h34⟩
   ·try simp (disch:=first|omega|assumption) only [E0_G,SY,off,agreeKind,Nat.reduceAdd,Nat.reduceLT,Nat.reduceBEq,h34a] at hL28
    rcases dP (((r56 h (r70 a (h.rooms.length:Int)) (r70 cc (h.rooms.length:Int))).2)=0) with ⟨h35a,h35⟩|⟨h35a,h35⟩
    ·have w36:IntKind.i64.wrap (((r56 h (r70 a (h.rooms.length:Int)) (r70 b (h.rooms.length:Int))).1)+((r56 h (r70 b (h.rooms.length:Int)) (r70 cc (h.rooms.length:Int))).1))=((r56 h (r70 a (h.rooms.length:Int)) (r70 b (h.rooms.length:Int))).1)+((r56 h (r70 b (h.rooms.length:Int)) (r70 cc (h.rooms.length:Int))).1):=by rw [IntWalk.i64_in]; omega
     try simp (disch:=first|omega|assumption) only [E0_G,SY,off,agreeKind,Nat.reduceAdd,Nat.reduceLT,Nat.reduceBEq,h35a,w36] at hL28
     refine tl28 _ _ hL28.symm ⟨decide ((((r56 h (r70 a (h.rooms.length:Int)) (r70 b (h.rooms.length:Int))).1)+((r56 h (r70 b (h.rooms.length:Int)) (r70 cc (h.rooms.length:Int))).1))<((r56 h (r70 a (h.rooms.length:Int)) (r70 cc (h.rooms.length:Int))).1)),by simp only [eq_true h33,eq_true h34,eq_true h35,true_and,false_or,not_true_eq_false],?_,?_,?_,?_,?_,?_,?_,rfl⟩<;>first|(simp only [SY,eq_self,Nat.reduceBEq,g3_4,g3_5]<;>rfl)|omega|assumption|(simp; omega)|simp
    try simp (disch:=first|omega|assumption) only [E0_G,SY,off,agreeKind,Nat.reduceAdd,Nat.reduceLT,Nat.reduceBEq,h35a] at hL28
    refine tl28 _ _ hL28.symm ⟨true,by simp only [eq_true h33,eq_true h34,eq_false h35,and_true,true_or,not_false_eq_true,decide_true],?_,?_,?_,?_,?_,?_,?_,rfl⟩<;>first|(simp only [SY,eq_self,Nat.reduceBEq,g3_4,g3_5]<;>rfl)|omega|assumption|(simp; omega)|simp
   try simp (disch:=first|omega|assumption) only [E0_G,SY,off,agreeKind,Nat.reduceAdd,Nat.reduceLT,Nat.reduceBEq,h34a] at hL28
   refine tl28 _ _ hL28.symm ⟨false,by simp only [eq_true h33,eq_false h34,false_and,and_false,decide_false],?_,?_,?_,?_,?_,?_,?_,rfl⟩<;>first|(simp only [SY,eq_self,Nat.reduceBEq,g3_4,g3_5]<;>rfl)|omega|assumption|(simp; omega)|simp
  try simp (disch:=first|omega|assumption) only [E0_G,SY,off,agreeKind,Nat.reduceAdd,Nat.reduceLT,Nat.reduceBEq,h33a] at hL28
  refine tl28 _ _ hL28.symm ⟨false,by simp only [eq_false h33,false_and,decide_false],?_,?_,?_,?_,?_,?_,?_,rfl⟩<;>first|(simp only [SY,eq_self,Nat.reduceBEq,g3_4,g3_5]<;>rfl)|omega|assumption|(simp; omega)|simp
 subst hn28
 obtain ⟨j28_0,rfl,g28_4,g28_5,g28_11,g28_13,g28_18,g28_19,g28_89,rfl⟩:=hq28
 try simp (disch:=first|omega|assumption) only [E0_G,SY,g28_89] at hz
 rcases dP ((((r56 h (r70 a (h.rooms.length:Int)) (r70 b (h.rooms.length:Int))).2)=0)∧((((r56 h (r70 b (h.rooms.length:Int)) (r70 cc (h.rooms.length:Int))).2)=0)∧((¬ (((r56 h (r70 a (h.rooms.length:Int)) (r70 cc (h.rooms.length:Int))).2)=0))∨((((r56 h (r70 a (h.rooms.length:Int)) (r70 b (h.rooms.length:Int))).1)+((r56 h (r70 b (h.rooms.length:Int)) (r70 cc (h.rooms.length:Int))).1))<((r56 h (r70 a (h.rooms.length:Int)) (r70 cc (h.rooms.length:Int))).1))))) with ⟨h37a,h37⟩|⟨h37a,h37⟩
 ·simp only [h37a] at hz
  have h38:((r56 h (r70 a (h.rooms.length:Int)) (r70 b (h.rooms.length:Int))).2)=0:=h37.1
  have h38a:=decide_eq_true h38
  have h39:((r56 h (r70 b (h.rooms.length:Int)) (r70 cc (h.rooms.length:Int))).2)=0:=h37.2.1
  have h39a:=decide_eq_true h39
  try simp (disch:=first|omega|assumption) only [E0_G,SY,off,agreeKind,Nat.reduceLT,Nat.reduceBEq] at hz
  have hr:r19 h a b cc ti=false:=(if_neg h12).trans ((if_pos h37).trans (rfl))
  exact fin hz (by rw [hr]) g27
 simp only [h37a] at hz
 obtain ⟨u40,S40,k40,a40,oo40⟩:=c41 h (r70 a (h.rooms.length:Int)) ti (r68_ok (h:=h) (by assumption)).1 hs S27 (v_h_rooms) (hv_h_rooms.agree g27) (v_h_doors) (hv_h_doors.agree g27) (v_h_ways) (hv_h_ways.agree g27)
 have l40:=a40.1
 obtain ⟨pu40,nu40,cu40,rfl⟩:=own_slice oo40
 have v1_40:=(a40.2 S.next (by omega)).trans v1_27
 have g40:Agree S S40:=g27.trans a40
 have y41:aBuild Tryz.prog 26 [(0,v_h_rooms)]=some (.agg #[v_h_rooms,.slice none 0 0,.slice none 0 0]):=by obtain ⟨p0_,n0_,c0_,e0_⟩:=(hv_h_rooms).form; rw [e0_]; kernel_rfl
 obtain ⟨S42,e42,n42,b42,a42⟩:=push_open S40 (.cells [.slice none 0 0,.slice none 0 0,.slice none 0 0] 26 0 true true)
 have v1_42:=(a42.2 S.next (by omega)).trans v1_40
 have o40_43:=oo40.agree a42
 have g42:Agree S S42:=g40.trans a42
 have ne44:blkOf (.slice pu40 nu40 cu40)≠some S40.next:=oo40.new (Nat.le_refl _)
 obtain ⟨S45,k45,n45,b45,q45⟩:=st_at (o:=0) (c':=[v_h_rooms,.slice none 0 0,.slice none 0 0]) (v:=.agg #[v_h_rooms,.slice none 0 0,.slice none 0 0]) tz26 b42 (by obtain ⟨p0_,n0_,c0_,e0_⟩:=(hv_h_rooms).form; rw [e0_]; rfl) rfl (show 0+3≤3 by decide) rfl
 have v1_45:=(q45 S.next (by omega)).trans v1_42
 have o40_46:=o40_43.frame (by omega) (fun id hid hb=>q45 id (fun e=>(show blkOf (.slice pu40 nu40 cu40)≠some S40.next from by first|exact o40_43.ne (by omega)|exact o40_43.new (by omega)|assumption) (e ▸ hb)))
 have g45:Agree S S45:=⟨by have:=(g42).1; omega,fun id hid=>(q45 id (by have:=(g42).1; omega)).trans ((g42).2 id hid)⟩
 try simp (disch:=first|omega|assumption) only [E0_G,SY,off,agreeKind,partVals,vals,allocV,ldA,rdCells,aggD,aField,aExtract,Nat.reduceAdd,Nat.reduceLT,Nat.reduceBEq,TY_EvH40,v1_27,g28_4,g28_5,g28_11,k40,v1_40,y41,e42,k45] at hz
 have hw70:=(r68_ok (h:=h) (by assumption)).1.w
 generalize hL47:Rec.loop _ _ _ _=L47 at hz
 obtain ⟨x47,t47,S47e,rfl,hQ47⟩:=loop_met hL47 (fun m t S'=>∃ (v_ws:Value) (ws:List Wy) (k:Nat),m+k=h.ways.length∧ws.length=k∧k≤h.ways.length∧t.get 4=some (.int .i64 ti)∧t.get 5=some (.pointer (some ⟨S.next,0,none⟩))∧t.get 11=some (.int .i64 (r70 a (h.rooms.length:Int)))∧t.get 13=some (.int .i64 (r70 cc (h.rooms.length:Int)))∧t.get 18=some (.int .i64 ((r56 h (r70 a (h.rooms.length:Int)) (r70 cc (h.rooms.length:Int))).1))∧t.get 19=some (.int .i64 ((r56 h (r70 a (h.rooms.length:Int)) (r70 cc (h.rooms.length:Int))).2))∧t.get 20=some (.slice pu40 nu40 cu40)∧t.get 21=some (.int .i64 ((r41 h (r70 a (h.rooms.length:Int)) ti).2))∧t.get 22=some (.pointer (some ⟨S40.next,0,none⟩))∧t.get 23=some (.int .i64 (k:Int))∧S'.heap.get S.next=some (.cells [v_h_rooms,v_h_doors,v_h_ways] 26 0 true true)∧S'.heap.get S40.next=some (.cells [v_h_rooms,.slice none 0 0,v_ws] 26 0 true true)∧Agree S S'∧S45.next≤S'.next∧Own 92 S45.next S' v_ws ws∧Own 3 S27.next S' (.slice pu40 nu40 cu40) ((r41 h (r70 a (h.rooms.length:Int)) ti).1)∧(∀ b,blkOf v_ws=some b→blkOf (.slice pu40 nu40 cu40)≠some b)∧R19_0 h a b cc ti (h.ways.drop k) ws=R19_0 h a b cc ti h.ways ([]))
  (fun x t S'=>x=.exit 0∧∃ (v_ws:Value) (ws:List Wy) (k:Nat),t.get 4=some (.int .i64 ti)∧t.get 5=some (.pointer (some ⟨S.next,0,none⟩))∧t.get 11=some (.int .i64 (r70 a (h.rooms.length:Int)))∧t.get 13=some (.int .i64 (r70 cc (h.rooms.length:Int)))∧t.get 18=some (.int .i64 ((r56 h (r70 a (h.rooms.length:Int)) (r70 cc (h.rooms.length:Int))).1))∧t.get 19=some (.int .i64 ((r56 h (r70 a (h.rooms.length:Int)) (r70 cc (h.rooms.length:Int))).2))∧t.get 20=some (.slice pu40 nu40 cu40)∧t.get 21=some (.int .i64 ((r41 h (r70 a (h.rooms.length:Int)) ti).2))∧t.get 22=some (.pointer (some ⟨S40.next,0,none⟩))∧S'.heap.get S.next=some (.cells [v_h_rooms,v_h_doors,v_h_ways] 26 0 true true)∧S'.heap.get S40.next=some (.cells [v_h_rooms,.slice none 0 0,v_ws] 26 0 true true)∧Agree S S'∧S45.next≤S'.next∧Own 92 S45.next S' v_ws ws∧Own 3 S27.next S' (.slice pu40 nu40 cu40) ((r41 h (r70 a (h.rooms.length:Int)) ti).1)∧(∀ b,blkOf v_ws=some b→blkOf (.slice pu40 nu40 cu40)≠some b)∧ws.length=k∧k≤h.ways.length∧R19_0 h a b cc ti h.ways ([])=ws) (h.ways.length - 0) (by refine ⟨.slice none 0 0,[],0,?_,?_,?_,?_,?_,?_,?_,?_,?_,?_,?_,?_,?_,v1_45,b45,g45,Nat.le_refl _,by first|exact Own.nil _ _ _|exact OwnL.nil _ _ _ _ (by decide),o40_46,(fun b hb=>by simp [blkOf] at hb),rfl⟩<;>first|(simp only [SY,eq_self,Nat.reduceBEq,g28_4,g28_5,g28_11,g28_13,g28_18,g28_19]<;>rfl)|omega|assumption|(simp; omega)|simp) (by
   rintro m t S47 ⟨v_ws,ws,k,hi47_0,hi47_1,hi47_2,g47_4,g47_5,g47_11,g47_13,g47_18,g47_19,g47_20,g47_21,g47_22,g47_23,bb47_1,bb47_42,ga47,gn47,ow_ws,cw47_0,pr47_0,hd47⟩
   refine .run fun z he=>?_
   have w48:=(hv_h_ways.agree ga47).len (P:=Tryz.prog) (t:=24) Tryz.underlying24
   try simp (disch:=first|omega|assumption) only [E0_G,SY,off,agreeKind,ldA,aggD,aField,Nat.reduceAdd,Nat.reduceLT,Nat.reduceBEq,TY_EvH40,g47_5,g47_23,bb47_1,w48] at he
   rcases dP ((k:Int)<(h.ways.length:Int)) with ⟨h49a,h49⟩|⟨h49a,h49⟩
   ·have hx47:h.ways[k]?=some (h.ways[k]'(by first|omega|simp; omega)):=List.getElem?_eq_getElem _
    generalize h.ways[k]'_=x47 at hx47
    obtain ⟨id50,of50,cc50,ty50,wr50,ex50,i50,j50,l50,q50⟩:=(hv_h_ways).at (P:=Tryz.prog) (t:=24) Tryz.underlying24 tz92 hx47
    have j50:=(ga47.2 id50 l50).trans j50
    have m50_0:cc50[of50]?=some (.int .i64 x47.a):=q50 0 (show 0<5 by decide)
    have m50_1:cc50[of50+1]?=some (.int .i64 x47.b):=q50 1 (show 1<5 by decide)
    have m50_2:cc50[of50+2]?=some (.int .i64 x47.secs):=q50 2 (show 2<5 by decide)
    have m50_3:cc50[of50+3]?=some (.int .i64 x47.back):=q50 3 (show 3<5 by decide)
    have m50_4:cc50[of50+4]?=some (.int .i64 x47.door):=q50 4 (show 4<5 by decide)
    obtain ⟨S51,e51,n51,b51,a51⟩:=push_open S47 (.cells [.int .i64 0,.int .i64 0,.int .i64 0,.int .i64 0,.int .i64 0] 92 0 true true)
    have v1_51:=(a51.2 S.next (by omega)).trans bb47_1
    have v42_51:=(a51.2 S40.next (by omega)).trans bb47_42
    have ocw47_52:=cw47_0.agree a51
    have ow_53:=ow_ws.agree a51
    have g51:Agree S S51:=ga47.trans a51
    have ne54:blkOf (.slice pu40 nu40 cu40)≠some S47.next:=cw47_0.new (Nat.le_refl _)
    have ne55:blkOf (v_ws)≠some S47.next:=ow_ws.new (Nat.le_refl _)
    obtain ⟨S56,k56,n56,b56,q56⟩:=st_at (o:=0) (c':=[.int .i64 x47.a,.int .i64 x47.b,.int .i64 x47.secs,.int .i64 x47.back,.int .i64 x47.door]) (v:=.agg #[.int .i64 x47.a,.int .i64 x47.b,.int .i64 x47.secs,.int .i64 x47.back,.int .i64 x47.door]) tz92 b51 rfl rfl (show 0+5≤5 by decide) rfl
    have v1_56:=(q56 S.next (by omega)).trans v1_51
    have v42_56:=(q56 S40.next (by omega)).trans v42_51
    have ocw47_57:=ocw47_52.frame (by omega) (fun id hid hb=>q56 id (fun e=>(show blkOf (.slice pu40 nu40 cu40)≠some S47.next from by first|exact ocw47_52.ne (by omega)|exact ocw47_52.new (by omega)|assumption) (e ▸ hb)))
    have ow_58:=ow_53.frame (by omega) (fun id hid hb=>q56 id (fun e=>(show blkOf (v_ws)≠some S47.next from by first|exact ow_53.ne (by omega)|exact ow_53.new (by omega)|assumption) (e ▸ hb)))
    have g56:Agree S S56:=⟨by have:=(g51).1; omega,fun id hid=>(q56 id (by have:=(g51).1; omega)).trans ((g51).2 id hid)⟩
    obtain ⟨S59,k59,n59,b59,q59⟩:=st_at (o:=4) (c':=[.int .i64 x47.a,.int .i64 x47.b,.int .i64 x47.secs,.int .i64 x47.back,.int .i64 (-1)]) (v:=.int .i64 (-1)) tz3 b56 rfl rfl (show 4+1≤5 by decide) rfl
    have v1_59:=(q59 S.next (by omega)).trans v1_56
    have v42_59:=(q59 S40.next (by omega)).trans v42_56
    have ocw47_60:=ocw47_57.frame (by omega) (fun id hid hb=>q59 id (fun e=>(show blkOf (.slice pu40 nu40 cu40)≠some S47.next from by first|exact ocw47_57.ne (by omega)|exact ocw47_57.new (by omega)|assumption) (e ▸ hb)))
    have ow_61:=ow_58.frame (by omega) (fun id hid hb=>q59 id (fun e=>(show blkOf (v_ws)≠some S47.next from by first|exact ow_58.ne (by omega)|exact ow_58.new (by omega)|assumption) (e ▸ hb)))
    have g59:Agree S S59:=⟨by have:=(g56).1; omega,fun id hid=>(q59 id (by have:=(g56).1; omega)).trans ((g56).2 id hid)⟩
    have y62:aBuildSlice Tryz.prog 24 1 [(0,.agg #[.int .i64 x47.a,.int .i64 x47.b,.int .i64 x47.secs,.int .i64 x47.back,.int .i64 (-1)])] S59=some (.slice (some ⟨S59.next,0,none⟩) 1 1,S59.push (.cells [.int .i64 x47.a,.int .i64 x47.b,.int .i64 x47.secs,.int .i64 x47.back,.int .i64 (-1)] 92 5 true true)):=by kernel_rfl
    obtain ⟨S63,e63,n63,b63,a63⟩:=push_open S59 (.cells [.int .i64 x47.a,.int .i64 x47.b,.int .i64 x47.secs,.int .i64 x47.back,.int .i64 (-1)] 92 5 true true)
    have v1_63:=(a63.2 S.next (by omega)).trans v1_59
    have v42_63:=(a63.2 S40.next (by omega)).trans v42_59
    have ocw47_64:=ocw47_60.agree a63
    have ow_65:=ow_61.agree a63
    have g63:Agree S S63:=g59.trans a63
    have ne66:blkOf (.slice pu40 nu40 cu40)≠some S59.next:=ocw47_60.new (Nat.le_refl _)
    have ne67:blkOf (v_ws)≠some S59.next:=ow_61.new (Nat.le_refl _)
    have o68:Own 92 S59.next S63 (.slice (some ⟨S59.next,0,none⟩) 1 1) ([(⟨x47.a,x47.b,x47.secs,x47.back,-1⟩:Wy)]:List Wy):=.inr ⟨_,true,rfl,Nat.le_refl _,by omega,b63⟩
    have ap69:∀ b,blkOf (.slice pu40 nu40 cu40)=some b→blkOf (.slice (some ⟨S59.next,0,none⟩) 1 1)≠some b:=fun b hb=>o68.ne (Nat.lt_of_lt_of_le (ocw47_60.lt hb) (by omega))
    have ap70:∀ b,blkOf (v_ws)=some b→blkOf (.slice (some ⟨S59.next,0,none⟩) 1 1)≠some b:=fun b hb=>o68.ne (Nat.lt_of_lt_of_le (ow_61.lt hb) (by omega))
    obtain ⟨u71,S71,k71,o71,n71,f71,d71⟩:=own_append (P:=Tryz.prog) (t:=24) (tx:=24) (n:=4) (v:=v_ws) ow_65 (o68.rows) (by omega) (by first|omega|(simp; omega)|simp) (by first|omega|(simp; omega)|simp) Tryz.underlying24 Tryz.underlying24 ti92 tv92 rfl tz92
    obtain ⟨pu71,nu71,cu71,rfl⟩:=own_slice o71
    have v1_71:=(f71 S.next (by omega) (by first|(simp [blkOf]; done)|exact ow_65.ne (by omega)|exact ow_65.new (by omega)|assumption)).trans v1_63
    have v42_71:=(f71 S40.next (by omega) (by first|(simp [blkOf]; done)|exact ow_65.ne (by omega)|exact ow_65.new (by omega)|assumption)).trans v42_63
    have apocw47_72:∀ b,blkOf (.slice pu40 nu40 cu40)=some b→blkOf (.slice pu71 nu71 cu71)≠some b:=fun b hb=>d71 b (ocw47_64.lt hb) ((fun b h1 h2=>pr47_0 b h2 h1) b hb)
    have ocw47_72:=ocw47_64.frame n71 (fun id hid hb=>f71 id hid ((fun b h1 h2=>pr47_0 b h2 h1) id hb))
    have apo68_73:∀ b,blkOf (.slice (some ⟨S59.next,0,none⟩) 1 1)=some b→blkOf (.slice pu71 nu71 cu71)≠some b:=fun b hb=>d71 b (o68.lt hb) ((fun b h1 h2=>ap70 b h2 h1) b hb)
    have o68_73:=o68.frame n71 (fun id hid hb=>f71 id hid ((fun b h1 h2=>ap70 b h2 h1) id hb))
    have g71:Agree S S71:=⟨Nat.le_trans (g63).1 n71,fun id hid=>(f71 id (by have:=(g63).1; omega) (by first|(simp [blkOf]; done)|exact ow_65.ne (by omega)|assumption)).trans ((g63).2 id hid)⟩
    have ne74:blkOf (.slice pu71 nu71 cu71)≠some S.next:=by first|exact o71.ne (by omega)|exact o71.new (by omega)|exact d71 _ (by omega) (by first|(simp [blkOf]; done)|exact ow_65.ne (by omega)|exact ow_65.new (by omega)|assumption)
    have ne75:blkOf (.slice pu71 nu71 cu71)≠some S40.next:=by first|exact o71.ne (by omega)|exact o71.new (by omega)|exact d71 _ (by omega) (by first|(simp [blkOf]; done)|exact ow_65.ne (by omega)|exact ow_65.new (by omega)|assumption)
    have ne76:blkOf (.slice pu71 nu71 cu71)≠some S47.next:=by first|exact o71.ne (by omega)|exact o71.new (by omega)|exact d71 _ (by omega) (by first|(simp [blkOf]; done)|exact ow_65.ne (by omega)|exact ow_65.new (by omega)|assumption)
    obtain ⟨S77,k77,n77,b77,q77⟩:=st_at (o:=2) (c':=[v_h_rooms,.slice none 0 0,.slice pu71 nu71 cu71]) (v:=.slice pu71 nu71 cu71) tz24 v42_71 rfl rfl (show 2+1≤3 by decide) rfl
    have v1_77:=(q77 S.next (by omega)).trans v1_71
    have ocw47_78:=ocw47_72.frame (by omega) (fun id hid hb=>q77 id (fun e=>(show blkOf (.slice pu40 nu40 cu40)≠some S40.next from by first|exact ocw47_72.ne (by omega)|exact ocw47_72.new (by omega)|assumption) (e ▸ hb)))
    have o68_79:=o68_73.frame (by omega) (fun id hid hb=>q77 id (fun e=>(show blkOf (.slice (some ⟨S59.next,0,none⟩) 1 1)≠some S40.next from by first|exact o68_73.ne (by omega)|exact o68_73.new (by omega)|assumption) (e ▸ hb)))
    have o71_80:=o71.frame (by omega) (fun id hid hb=>q77 id (fun e=>(show blkOf (.slice pu71 nu71 cu71)≠some S40.next from by first|exact o71.ne (by omega)|exact o71.new (by omega)|assumption) (e ▸ hb)))
    have g77:Agree S S77:=⟨by have:=(g71).1; omega,fun id hid=>(q77 id (by have:=(g71).1; omega)).trans ((g71).2 id hid)⟩
    have w81:IntKind.i64.wrap ((k:Int)+1)=((k+1:Nat):Int):=by rw [IntWalk.i64_in]<;>omega
    try simp (disch:=first|omega|assumption) only [E0_G,SY,off,agreeKind,partVals,allocV,ldA,rdCells,aggD,aField,Nat.reduceAdd,Nat.reduceLT,Nat.reduceBEq,TY_EvH40,g47_5,g47_22,g47_23,bb47_1,h49a,i50,j50,m50_0,m50_1,m50_2,m50_3,m50_4,e51,k56,v42_59,k59,b59,y62,e63,k71,k77,w81] at he
    rw [drop_cons' hx47] at hd47
    have hf:=(show _=(R19_0 h a b cc ti (h.ways.drop (k+1)) (ws++([(⟨x47.a,x47.b,x47.secs,x47.back,-1⟩:Wy)])):(List Wy)) from rfl).symm.trans hd47
    refine .next he (m - 1) (by omega) ⟨.slice pu71 nu71 cu71,ws++([(⟨x47.a,x47.b,x47.secs,x47.back,-1⟩:Wy)]),(k+1),?_,?_,?_,?_,?_,?_,?_,?_,?_,?_,?_,?_,?_,v1_77,b77,g77,by omega,(o71_80.low (by omega)),ocw47_78,(fun b h1 h2=>apocw47_72 b h2 h1),hf⟩<;>first|(simp only [SY,eq_self,Nat.reduceBEq,g47_4,g47_5,g47_11,g47_13,g47_18,g47_19,g47_20,g47_21,g47_22,g47_23]<;>rfl)|omega|assumption|(simp; omega)|simp
   try simp (disch:=first|omega|assumption) only [SY,h49a] at he
   rw [List.drop_eq_nil_of_le (show h.ways.length≤k by omega)] at hd47
   have hf:=(show _=(ws:(List Wy)) from rfl).symm.trans hd47
   refine .exit he ⟨rfl,⟨v_ws,ws,k,?_,?_,?_,?_,?_,?_,?_,?_,?_,bb47_1,bb47_42,ga47,by omega,(ow_ws.low (by omega)),cw47_0,pr47_0,?_,?_,hf.symm⟩⟩<;>first|(simp only [SY,eq_self,Nat.reduceBEq,g47_4,g47_5,g47_11,g47_13,g47_18,g47_19,g47_20,g47_21,g47_22]<;>rfl)|omega|assumption|(simp; omega)|simp)
 obtain ⟨rfl,v_ws,ws,k,ge47_4,ge47_5,ge47_11,ge47_13,ge47_18,ge47_19,ge47_20,ge47_21,ge47_22,be47_1,be47_42,ge47,gm47,oe_ws47,ce47_0,pe47_0,hj47_0,hj47_1,hR47⟩:=hQ47
 obtain rfl:ws=R19_0 h a b cc ti h.ways ([]):=hR47.symm
 obtain ⟨u83,S83,k83,a83,oo83⟩:=c41 (⟨h.rooms,[],R19_0 h a b cc ti h.ways ([])⟩:Hs) (r70 a (h.rooms.length:Int)) ti (by rw [qP]; exact few_pl (r68_ok (h:=h) (by assumption)).1) hs S47e (v_h_rooms) (hv_h_rooms.agree ge47) (.slice none 0 0) (.inl ⟨rfl,.inl rfl⟩) (v_ws) (oe_ws47.rows)
 have l83:=a83.1
 obtain ⟨pu83,nu83,cu83,rfl⟩:=own_slice oo83
 have ap84:∀ b,blkOf (.slice pu40 nu40 cu40)=some b→blkOf (.slice pu83 nu83 cu83)≠some b:=fun b hb=>oo83.ne (Nat.lt_of_lt_of_le (ce47_0.lt hb) (by omega))
 have ap85:∀ b,blkOf (v_ws)=some b→blkOf (.slice pu83 nu83 cu83)≠some b:=fun b hb=>oo83.ne (Nat.lt_of_lt_of_le (oe_ws47.lt hb) (by omega))
 have s83:E0.same S47e S83=true:=symEnv_same a83
 have v1_83:=(a83.2 S.next (by omega)).trans be47_1
 have v42_83:=(a83.2 S40.next (by omega)).trans be47_42
 have oce47_86:=ce47_0.agree a83
 have oe_87:=oe_ws47.agree a83
 have g83:Agree S S83:=ge47.trans a83
 try simp (disch:=first|omega|assumption) only [E0_G,SY,off,agreeKind,vals,ldA,rdCells,aggD,aExtract,eq_self,if_true,Nat.reduceAdd,Nat.reduceLT,Nat.reduceBEq,TY_EvH40,ge47_4,ge47_11,ge47_21,ge47_22,be47_42,k83] at hz
 generalize hL88:behind _ _=L88 at hz
 refine join_reg hL88 (fun t S'=>∃ (j88_0:Bool),j88_0=decide ((¬ (((r41 h (r70 a (h.rooms.length:Int)) ti).2)=0))∨((¬ (((r41 (⟨h.rooms,[],R19_0 h a b cc ti h.ways ([])⟩:Hs) (r70 a (h.rooms.length:Int)) ti).2)=0))∨((¬ ((((r41 h (r70 a (h.rooms.length:Int)) ti).1).length:Int)=(h.rooms.length:Int)))∨(¬ ((((r41 (⟨h.rooms,[],R19_0 h a b cc ti h.ways ([])⟩:Hs) (r70 a (h.rooms.length:Int)) ti).1).length:Int)=(h.rooms.length:Int))))))∧t.get 4=some (.int .i64 ti)∧t.get 13=some (.int .i64 (r70 cc (h.rooms.length:Int)))∧t.get 18=some (.int .i64 ((r56 h (r70 a (h.rooms.length:Int)) (r70 cc (h.rooms.length:Int))).1))∧t.get 19=some (.int .i64 ((r56 h (r70 a (h.rooms.length:Int)) (r70 cc (h.rooms.length:Int))).2))∧t.get 20=some (.slice pu40 nu40 cu40)∧t.get 25=some (.slice pu83 nu83 cu83)∧t.get 147=some (.bool j88_0)∧S83=S') (fun tl88=>?_) (fun t88 S88 hn88 hq88=>?_)
 ·try simp (disch:=first|omega|assumption) only [E0_G,SY,setArgs,off,agreeKind,partVals,vals,allocV,boxed,ldA,rdCells,oneB,aggD,aField,aFieldV,aExtract,eq_self,ne_eq,if_true,if_false,not_false_eq_true,Nat.reduceAdd,Nat.reduceSub,Nat.reduceMul,Nat.reduceLT,Nat.reduceEqDiff,Nat.reduceBEq,reduceIte,Int.reduceEq,Int.reduceLT,Int.reduceLE,reduceCtorEq,TY_EvH40,h12a,h13a,h16a,w19,w21,w23,h37a,ge47_4,ge47_5,ge47_11,ge47_13,ge47_18,ge47_19,ge47_20,ge47_21,ge47_22,be47_1,be47_42,k83,s83,v1_83,v42_83] at hL88
  rcases dP (((r41 h (r70 a (h.rooms.length:Int)) ti).2)=0) with ⟨h96a,h96⟩|⟨h96a,h96⟩
  ·try simp (disch:=first|omega|assumption) only [E0_G,SY,off,agreeKind,Nat.reduceAdd,Nat.reduceLT,Nat.reduceBEq,h96a] at hL88
   rcases dP (((r41 (⟨h.rooms,[],R19_0 h a b cc ti h.ways ([])⟩:Hs) (r70 a (h.rooms.length:Int)) ti).2)=0) with ⟨h97a,h97⟩|⟨h97a,h97⟩
   ·have w98:=(oce47_86.rows).len (P:=Tryz.prog) (t:=54) Tryz.underlying54
    have w99:=(hv_h_rooms.agree g83).len (P:=Tryz.prog) (t:=22) Tryz.underlying22
    try simp (disch:=first|omega|assumption) only [E0_G,SY,off,agreeKind,ldA,aggD,aField,Nat.reduceAdd,Nat.reduceLT,Nat.reduceBEq,TY_EvH40,w19,ge47_5,ge47_20,v1_83,h97a,w98] at hL88
    rcases dP ((((r41 h (r70 a (h.rooms.length:Int)) ti).1).length:Int)=(h.rooms.length:Int)) with ⟨h100a,h100⟩|⟨h100a,h100⟩
    ·have w101:=(oo83.rows).len (P:=Tryz.prog) (t:=54) Tryz.underlying54
     have w102:=(hv_h_rooms.agree g83).len (P:=Tryz.prog) (t:=22) Tryz.underlying22
     try simp (disch:=first|omega|assumption) only [E0_G,SY,off,agreeKind,ldA,aggD,aField,Nat.reduceAdd,Nat.reduceLT,Nat.reduceBEq,TY_EvH40,w19,ge47_5,v1_83,h100a,w101] at hL88
     refine tl88 _ _ hL88.symm ⟨!(decide ((((r41 (⟨h.rooms,[],R19_0 h a b cc ti h.ways ([])⟩:Hs) (r70 a (h.rooms.length:Int)) ti).1).length:Int)=(h.rooms.length:Int))),by simp only [eq_true h96,eq_true h97,eq_true h100,false_or,not_true_eq_false,decide_not],?_,?_,?_,?_,?_,?_,?_,rfl⟩<;>first|(simp only [SY,eq_self,Nat.reduceBEq,ge47_4,ge47_13,ge47_18,ge47_19,ge47_20]<;>rfl)|omega|assumption|(simp; omega)|simp
    try simp (disch:=first|omega|assumption) only [E0_G,SY,off,agreeKind,Nat.reduceAdd,Nat.reduceLT,Nat.reduceBEq,h100a] at hL88
    refine tl88 _ _ hL88.symm ⟨true,by simp only [eq_true h96,eq_true h97,eq_false h100,true_or,or_true,not_true_eq_false,not_false_eq_true,decide_true],?_,?_,?_,?_,?_,?_,?_,rfl⟩<;>first|(simp only [SY,eq_self,Nat.reduceBEq,ge47_4,ge47_13,ge47_18,ge47_19,ge47_20]<;>rfl)|omega|assumption|(simp; omega)|simp
   try simp (disch:=first|omega|assumption) only [E0_G,SY,off,agreeKind,Nat.reduceAdd,Nat.reduceLT,Nat.reduceBEq,h97a] at hL88
   refine tl88 _ _ hL88.symm ⟨true,by simp only [eq_true h96,eq_false h97,true_or,or_true,not_true_eq_false,not_false_eq_true,decide_true],?_,?_,?_,?_,?_,?_,?_,rfl⟩<;>first|(simp only [SY,eq_self,Nat.reduceBEq,ge47_4,ge47_13,ge47_18,ge47_19,ge47_20]<;>rfl)|omega|assumption|(simp; omega)|simp
  try simp (disch:=first|omega|assumption) only [E0_G,SY,off,agreeKind,Nat.reduceAdd,Nat.reduceLT,Nat.reduceBEq,h96a] at hL88
  refine tl88 _ _ hL88.symm ⟨true,by simp only [eq_false h96,true_or,not_false_eq_true,decide_true],?_,?_,?_,?_,?_,?_,?_,rfl⟩<;>first|(simp only [SY,eq_self,Nat.reduceBEq,ge47_4,ge47_13,ge47_18,ge47_19,ge47_20]<;>rfl)|omega|assumption|(simp; omega)|simp
 subst hn88
 obtain ⟨j88_0,rfl,g88_4,g88_13,g88_18,g88_19,g88_20,g88_25,g88_147,rfl⟩:=hq88
 try simp (disch:=first|omega|assumption) only [E0_G,SY,g88_147] at hz
 rcases dP ((¬ (((r41 h (r70 a (h.rooms.length:Int)) ti).2)=0))∨((¬ (((r41 (⟨h.rooms,[],R19_0 h a b cc ti h.ways ([])⟩:Hs) (r70 a (h.rooms.length:Int)) ti).2)=0))∨((¬ ((((r41 h (r70 a (h.rooms.length:Int)) ti).1).length:Int)=(h.rooms.length:Int)))∨(¬ ((((r41 (⟨h.rooms,[],R19_0 h a b cc ti h.ways ([])⟩:Hs) (r70 a (h.rooms.length:Int)) ti).1).length:Int)=(h.rooms.length:Int)))))) with ⟨h103a,h103⟩|⟨h103a,h103⟩
 ·simp only [h103a] at hz
  try simp (disch:=first|omega|assumption) only [E0_G,SY,off,agreeKind,Nat.reduceLT,Nat.reduceBEq] at hz
  have hr:r19 h a b cc ti=false:=(if_neg h12).trans ((if_neg h37).trans ((if_pos h103).trans (rfl)))
  exact fin hz (by rw [hr]) g83
 simp only [h103a] at hz
 have h104:((r41 h (r70 a (h.rooms.length:Int)) ti).2)=0:=(Decidable.not_not.1 (fun q_=>h103 (.inl q_)))
 have h104a:=decide_eq_true h104
 have h105:((r41 (⟨h.rooms,[],R19_0 h a b cc ti h.ways ([])⟩:Hs) (r70 a (h.rooms.length:Int)) ti).2)=0:=(Decidable.not_not.1 (fun q_=>(fun q_=>h103 (.inr q_)) (.inl q_)))
 have h105a:=decide_eq_true h105
 have h106:(((r41 h (r70 a (h.rooms.length:Int)) ti).1).length:Int)=(h.rooms.length:Int):=(Decidable.not_not.1 (fun q_=>(fun q_=>(fun q_=>h103 (.inr q_)) (.inr q_)) (.inl q_)))
 have h106a:=decide_eq_true h106
 have h107:(((r41 (⟨h.rooms,[],R19_0 h a b cc ti h.ways ([])⟩:Hs) (r70 a (h.rooms.length:Int)) ti).1).length:Int)=(h.rooms.length:Int):=(Decidable.not_not.1 (fun q_=>(fun q_=>(fun q_=>h103 (.inr q_)) (.inr q_)) (.inr q_)))
 have h107a:=decide_eq_true h107
 try simp (disch:=first|omega|assumption) only [E0_G,SY,off,agreeKind,Nat.reduceAdd,Nat.reduceLT,Nat.reduceBEq,g88_19] at hz
 generalize hL108:behind _ _=L108 at hz
 refine join_reg hL108 (fun t S'=>∃ (j108_0:Bool),j108_0=decide ((((r56 h (r70 a (h.rooms.length:Int)) (r70 cc (h.rooms.length:Int))).2)=0)∧((ti+((r56 h (r70 a (h.rooms.length:Int)) (r70 cc (h.rooms.length:Int))).1))≤1073741823))∧t.get 4=some (.int .i64 ti)∧t.get 13=some (.int .i64 (r70 cc (h.rooms.length:Int)))∧t.get 18=some (.int .i64 ((r56 h (r70 a (h.rooms.length:Int)) (r70 cc (h.rooms.length:Int))).1))∧t.get 20=some (.slice pu40 nu40 cu40)∧t.get 25=some (.slice pu83 nu83 cu83)∧t.get 27=some (.int .i64 1073741824)∧t.get 155=some (.bool j108_0)∧S83=S') (fun tl108=>?_) (fun t108 S108 hn108 hq108=>?_)
 ·try simp (disch:=first|omega|assumption) only [E0_G,SY,setArgs,off,agreeKind,partVals,vals,allocV,boxed,ldA,rdCells,oneB,aggD,aField,aFieldV,aExtract,eq_self,ne_eq,if_true,if_false,not_false_eq_true,Nat.reduceAdd,Nat.reduceSub,Nat.reduceMul,Nat.reduceLT,Nat.reduceEqDiff,Nat.reduceBEq,reduceIte,Int.reduceEq,Int.reduceLT,Int.reduceLE,reduceCtorEq,TY_EvH40,h12a,h13a,h16a,w19,w21,w23,h37a,ge47_4,ge47_5,ge47_11,ge47_13,ge47_18,ge47_19,ge47_20,ge47_21,ge47_22,be47_1,be47_42,k83,s83,v1_83,v42_83,g88_4,g88_13,g88_18,g88_19,g88_20,g88_25,g88_147,h103a,h104a,h105a,h106a,h107a] at hL108
  rcases dP (((r56 h (r70 a (h.rooms.length:Int)) (r70 cc (h.rooms.length:Int))).2)=0) with ⟨h111a,h111⟩|⟨h111a,h111⟩
  ·have w112:IntKind.i64.wrap (ti+((r56 h (r70 a (h.rooms.length:Int)) (r70 cc (h.rooms.length:Int))).1))=ti+((r56 h (r70 a (h.rooms.length:Int)) (r70 cc (h.rooms.length:Int))).1):=by rw [IntWalk.i64_in]; omega
   try simp (disch:=first|omega|assumption) only [E0_G,SY,off,agreeKind,Nat.reduceAdd,Nat.reduceLT,Nat.reduceBEq,g88_4,g88_18,h111a,w112] at hL108
   refine tl108 _ _ hL108.symm ⟨decide ((ti+((r56 h (r70 a (h.rooms.length:Int)) (r70 cc (h.rooms.length:Int))).1))≤1073741823),by simp only [eq_true h111,true_and],?_,?_,?_,?_,?_,?_,?_,rfl⟩<;>first|(simp only [SY,eq_self,Nat.reduceBEq,g88_4,g88_13,g88_18,g88_20,g88_25]<;>rfl)|omega|assumption|(simp; omega)|simp
  try simp (disch:=first|omega|assumption) only [E0_G,SY,off,agreeKind,Nat.reduceAdd,Nat.reduceLT,Nat.reduceBEq,h111a] at hL108
  refine tl108 _ _ hL108.symm ⟨false,by simp only [eq_false h111,false_and,decide_false],?_,?_,?_,?_,?_,?_,?_,rfl⟩<;>first|(simp only [SY,eq_self,Nat.reduceBEq,g88_4,g88_13,g88_18,g88_20,g88_25]<;>rfl)|omega|assumption|(simp; omega)|simp
 subst hn108
 obtain ⟨j108_0,rfl,g108_4,g108_13,g108_18,g108_20,g108_25,g108_27,g108_155,rfl⟩:=hq108
 try simp (disch:=first|omega|assumption) only [E0_G,SY,g108_155] at hz
 generalize hL113:condRun _ _ _ _ _ _ _ _=L113 at hz
 refine join_met hL113 (fun t S'=>∃ (j113_0:Int),j113_0=(if (((r56 h (r70 a (h.rooms.length:Int)) (r70 cc (h.rooms.length:Int))).2)=0)∧((ti+((r56 h (r70 a (h.rooms.length:Int)) (r70 cc (h.rooms.length:Int))).1))≤1073741823) then ti+((r56 h (r70 a (h.rooms.length:Int)) (r70 cc (h.rooms.length:Int))).1) else 1073741824)∧t.get 13=some (.int .i64 (r70 cc (h.rooms.length:Int)))∧t.get 20=some (.slice pu40 nu40 cu40)∧t.get 25=some (.slice pu83 nu83 cu83)∧t.get 27=some (.int .i64 j113_0)∧S83=S') (fun tl113=>?_) (fun t113 S113 hn113 hq113=>?_)
 ·try simp (disch:=first|omega|assumption) only [E0_G,SY,setArgs,off,agreeKind,partVals,vals,allocV,boxed,ldA,rdCells,oneB,aggD,aField,aFieldV,aExtract,eq_self,ne_eq,if_true,if_false,not_false_eq_true,Nat.reduceAdd,Nat.reduceSub,Nat.reduceMul,Nat.reduceLT,Nat.reduceEqDiff,Nat.reduceBEq,reduceIte,Int.reduceEq,Int.reduceLT,Int.reduceLE,reduceCtorEq,TY_EvH40,h12a,h13a,h16a,w19,w21,w23,h37a,ge47_4,ge47_5,ge47_11,ge47_13,ge47_18,ge47_19,ge47_20,ge47_21,ge47_22,be47_1,be47_42,k83,s83,v1_83,v42_83,h103a,h104a,h105a,h106a,h107a,g108_4,g108_13,g108_18,g108_20,g108_25,g108_27,g108_155] at hL113
  rcases dP ((((r56 h (r70 a (h.rooms.length:Int)) (r70 cc (h.rooms.length:Int))).2)=0)∧((ti+((r56 h (r70 a (h.rooms.length:Int)) (r70 cc (h.rooms.length:Int))).1))≤1073741823)) with ⟨h118a,h118⟩|⟨h118a,h118⟩
  ·simp only [h118a] at hL113
   have h119:((r56 h (r70 a (h.rooms.length:Int)) (r70 cc (h.rooms.length:Int))).2)=0:=h118.1
   have h119a:=decide_eq_true h119
   have h120:(ti+((r56 h (r70 a (h.rooms.length:Int)) (r70 cc (h.rooms.length:Int))).1))≤1073741823:=h118.2
   have h120a:=decide_eq_true h120
   have w121:IntKind.i64.wrap (ti+((r56 h (r70 a (h.rooms.length:Int)) (r70 cc (h.rooms.length:Int))).1))=ti+((r56 h (r70 a (h.rooms.length:Int)) (r70 cc (h.rooms.length:Int))).1):=by rw [IntWalk.i64_in]; omega
   try simp (disch:=first|omega|assumption) only [E0_G,SY,off,agreeKind,Nat.reduceAdd,Nat.reduceLT,Nat.reduceBEq,g108_4,g108_18,w121] at hL113
   refine tl113 _ _ hL113.symm ⟨ti+((r56 h (r70 a (h.rooms.length:Int)) (r70 cc (h.rooms.length:Int))).1),show _=_ from ((if_pos h118).trans (rfl)).symm,?_,?_,?_,?_,rfl⟩<;>first|(simp only [SY,eq_self,Nat.reduceBEq,g108_13,g108_20,g108_25,g108_27]<;>rfl)|omega|assumption|(simp; omega)|simp
  simp only [h118a] at hL113
  try simp (disch:=first|omega|assumption) only [SY] at hL113
  refine tl113 _ _ hL113.symm ⟨1073741824,show _=_ from ((if_neg h118).trans (rfl)).symm,?_,?_,?_,?_,rfl⟩<;>first|(simp only [eq_self,g108_13,g108_20,g108_25,g108_27]<;>rfl)|omega|assumption|(simp; omega)|simp
 subst hn113
 obtain ⟨j113_0,rfl,g113_13,g113_20,g113_25,g113_27,rfl⟩:=hq113
 have qz122:((Int.toNat (r70 cc (h.rooms.length:Int)):Nat):Int)=(r70 cc (h.rooms.length:Int)):=Int.toNat_of_nonneg (by first|omega|simp; omega)
 have hx123:((r41 (⟨h.rooms,[],R19_0 h a b cc ti h.ways ([])⟩:Hs) (r70 a (h.rooms.length:Int)) ti).1)[(Int.toNat (r70 cc (h.rooms.length:Int)))]?=some (lget ((r41 (⟨h.rooms,[],R19_0 h a b cc ti h.ways ([])⟩:Hs) (r70 a (h.rooms.length:Int)) ti).1) (Int.toNat (r70 cc (h.rooms.length:Int)))):=lget_some (by first|omega|simp; omega)
 obtain ⟨id123,of123,cc123,ty123,wr123,ex123,i123,j123,l123,q123,lb123,bk123,oq123⟩:=oo83.at4 (P:=Tryz.prog) (t:=54) Tryz.underlying54 tz3 hx123
 have m123_0:cc123[of123]?=some (.int .i64 (lget ((r41 (⟨h.rooms,[],R19_0 h a b cc ti h.ways ([])⟩:Hs) (r70 a (h.rooms.length:Int)) ti).1) (Int.toNat (r70 cc (h.rooms.length:Int))))):=q123 0 (show 0<1 by decide)
 rw [qz122] at i123
 try simp (disch:=first|omega|assumption) only [E0_G,SY,off,agreeKind,vals,ldA,aggD,Nat.reduceAdd,Nat.reduceLT,Nat.reduceBEq,TY_EvH40,g113_13,g113_25,g113_27,c21s,i123,j123,m123_0] at hz
 generalize hL124:behind _ _=L124 at hz
 refine join_reg hL124 (fun t S'=>∃ (j124_0:Bool),j124_0=decide (((lget ((r41 (⟨h.rooms,[],R19_0 h a b cc ti h.ways ([])⟩:Hs) (r70 a (h.rooms.length:Int)) ti).1) (Int.toNat (r70 cc (h.rooms.length:Int))))=(if (((r56 h (r70 a (h.rooms.length:Int)) (r70 cc (h.rooms.length:Int))).2)=0)∧((ti+((r56 h (r70 a (h.rooms.length:Int)) (r70 cc (h.rooms.length:Int))).1))≤1073741823) then ti+((r56 h (r70 a (h.rooms.length:Int)) (r70 cc (h.rooms.length:Int))).1) else 1073741824))∧((if (((r56 h (r70 a (h.rooms.length:Int)) (r70 cc (h.rooms.length:Int))).2)=0)∧((ti+((r56 h (r70 a (h.rooms.length:Int)) (r70 cc (h.rooms.length:Int))).1))≤1073741823) then ti+((r56 h (r70 a (h.rooms.length:Int)) (r70 cc (h.rooms.length:Int))).1) else 1073741824)≤(lget ((r41 h (r70 a (h.rooms.length:Int)) ti).1) (Int.toNat (r70 cc (h.rooms.length:Int))))))∧t.get 10=some (.bool j124_0)∧S83=S') (fun tl124=>?_) (fun t124 S124 hn124 hq124=>?_)
 ·try simp (disch:=first|omega|assumption) only [E0_G,SY,setArgs,off,agreeKind,partVals,vals,allocV,boxed,ldA,rdCells,oneB,aggD,aField,aFieldV,aExtract,eq_self,ne_eq,if_true,if_false,not_false_eq_true,Nat.reduceAdd,Nat.reduceSub,Nat.reduceMul,Nat.reduceLT,Nat.reduceEqDiff,Nat.reduceBEq,reduceIte,Int.reduceEq,Int.reduceLT,Int.reduceLE,reduceCtorEq,TY_EvH40,h12a,h13a,h16a,w19,w21,w23,h37a,ge47_4,ge47_5,ge47_11,ge47_13,ge47_18,ge47_19,ge47_20,ge47_21,ge47_22,be47_1,be47_42,k83,s83,v1_83,v42_83,h103a,h104a,h105a,h106a,h107a,g113_13,g113_20,g113_25,g113_27,c21s,i123,j123,m123_0] at hL124
  rcases dP ((lget ((r41 (⟨h.rooms,[],R19_0 h a b cc ti h.ways ([])⟩:Hs) (r70 a (h.rooms.length:Int)) ti).1) (Int.toNat (r70 cc (h.rooms.length:Int))))=(if (((r56 h (r70 a (h.rooms.length:Int)) (r70 cc (h.rooms.length:Int))).2)=0)∧((ti+((r56 h (r70 a (h.rooms.length:Int)) (r70 cc (h.rooms.length:Int))).1))≤1073741823) then ti+((r56 h (r70 a (h.rooms.length:Int)) (r70 cc (h.rooms.length:Int))).1) else 1073741824)) with ⟨h128a,h128⟩|⟨h128a,h128⟩
  ·have qz129:((Int.toNat (r70 cc (h.rooms.length:Int)):Nat):Int)=(r70 cc (h.rooms.length:Int)):=Int.toNat_of_nonneg (by first|omega|simp; omega)
   have hx130:((r41 h (r70 a (h.rooms.length:Int)) ti).1)[(Int.toNat (r70 cc (h.rooms.length:Int)))]?=some (lget ((r41 h (r70 a (h.rooms.length:Int)) ti).1) (Int.toNat (r70 cc (h.rooms.length:Int)))):=lget_some (by first|omega|simp; omega)
   obtain ⟨id130,of130,cc130,ty130,wr130,ex130,i130,j130,l130,q130,lb130,bk130,oq130⟩:=oce47_86.at4 (P:=Tryz.prog) (t:=54) Tryz.underlying54 tz3 hx130
   have m130_0:cc130[of130]?=some (.int .i64 (lget ((r41 h (r70 a (h.rooms.length:Int)) ti).1) (Int.toNat (r70 cc (h.rooms.length:Int))))):=q130 0 (show 0<1 by decide)
   rw [qz129] at i130
   try simp (disch:=first|omega|assumption) only [E0_G,SY,off,agreeKind,ldA,aggD,Nat.reduceAdd,Nat.reduceLT,Nat.reduceBEq,TY_EvH40,g113_13,g113_20,g113_27,h128a,i130,j130,m130_0] at hL124
   refine tl124 _ _ hL124.symm ⟨decide ((if (((r56 h (r70 a (h.rooms.length:Int)) (r70 cc (h.rooms.length:Int))).2)=0)∧((ti+((r56 h (r70 a (h.rooms.length:Int)) (r70 cc (h.rooms.length:Int))).1))≤1073741823) then ti+((r56 h (r70 a (h.rooms.length:Int)) (r70 cc (h.rooms.length:Int))).1) else 1073741824)≤(lget ((r41 h (r70 a (h.rooms.length:Int)) ti).1) (Int.toNat (r70 cc (h.rooms.length:Int))))),by simp only [eq_true h128,true_and],?_,rfl⟩<;>first|(simp only [SY,eq_self,Nat.reduceBEq]<;>rfl)|omega|assumption|(simp; omega)|simp
  try simp (disch:=first|omega|assumption) only [E0_G,SY,off,agreeKind,Nat.reduceAdd,Nat.reduceLT,Nat.reduceBEq,h128a] at hL124
  refine tl124 _ _ hL124.symm ⟨false,by simp only [eq_false h128,false_and,decide_false],?_,rfl⟩<;>first|(simp only [SY,eq_self,Nat.reduceBEq]<;>rfl)|omega|assumption|(simp; omega)|simp
 subst hn124
 obtain ⟨j124_0,rfl,g124_10,rfl⟩:=hq124
 try simp (disch:=first|omega|assumption) only [SY,g124_10] at hz
 have hr:r19 h a b cc ti=decide (((lget ((r41 (⟨h.rooms,[],R19_0 h a b cc ti h.ways ([])⟩:Hs) (r70 a (h.rooms.length:Int)) ti).1) (Int.toNat (r70 cc (h.rooms.length:Int))))=(if (((r56 h (r70 a (h.rooms.length:Int)) (r70 cc (h.rooms.length:Int))).2)=0)∧((ti+((r56 h (r70 a (h.rooms.length:Int)) (r70 cc (h.rooms.length:Int))).1))≤1073741823) then ti+((r56 h (r70 a (h.rooms.length:Int)) (r70 cc (h.rooms.length:Int))).1) else 1073741824))∧((if (((r56 h (r70 a (h.rooms.length:Int)) (r70 cc (h.rooms.length:Int))).2)=0)∧((ti+((r56 h (r70 a (h.rooms.length:Int)) (r70 cc (h.rooms.length:Int))).1))≤1073741823) then ti+((r56 h (r70 a (h.rooms.length:Int)) (r70 cc (h.rooms.length:Int))).1) else 1073741824)≤(lget ((r41 h (r70 a (h.rooms.length:Int)) ti).1) (Int.toNat (r70 cc (h.rooms.length:Int)))))):=(if_neg h12).trans ((if_neg h37).trans ((if_neg h103).trans (rfl)))
 exact fin hz (by rw [hr]) g83
end House
end Go.Proofs
