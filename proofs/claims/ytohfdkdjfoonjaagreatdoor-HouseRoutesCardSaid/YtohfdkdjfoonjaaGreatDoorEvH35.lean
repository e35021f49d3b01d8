import Derived.Test.YtohfdkdjfoonjaaGreatDoorEvH34
set_option linter.unusedSimpArgs false
set_option linter.unusedVariables false
namespace Go.Proofs
namespace House
open Go Go.RowKit Go.Aev
set_option maxRecDepth 100000
theorem TY_EvH35:type_of% (And.intro (And.intro (And.intro (And.intro (And.intro (And.intro (And.intro Tryz.underlying3 tz3) (And.intro tt3 (And.intro t0_3 Tryz.underlying4))) (And.intro (And.intro tz4 tt4) (And.intro t0_4 (And.intro Tryz.underlying9 tz9)))) (And.intro (And.intro (And.intro tt9 t0_9) (And.intro Tryz.underlying22 (And.intro tz22 tt22))) (And.intro (And.intro t0_22 (And.intro Tryz.underlying23 tz23)) (And.intro tt23 (And.intro t0_23 Tryz.underlying24))))) (And.intro (And.intro (And.intro (And.intro tz24 tt24) (And.intro t0_24 (And.intro Tryz.underlying25 tz25))) (And.intro (And.intro tt25 t0_25) (And.intro Tryz.underlying26 (And.intro tz26 tt26)))) (And.intro (And.intro (And.intro t0_26 Tryz.underlying29) (And.intro tz29 (And.intro tt29 t0_29))) (And.intro (And.intro Tryz.underlying35 (And.intro tz35 tt35)) (And.intro t0_35 (And.intro Tryz.underlying36 tz36)))))) (And.intro (And.intro (And.intro (And.intro (And.intro tt36 t0_36) (And.intro Tryz.underlying40 (And.intro tz40 tt40))) (And.intro (And.intro t0_40 Tryz.underlying47) (And.intro tz47 (And.intro tt47 t0_47)))) (And.intro (And.intro (And.intro Tryz.underlying50 tz50) (And.intro tt50 (And.intro t0_50 Tryz.underlying51))) (And.intro (And.intro tz51 (And.intro tt51 t0_51)) (And.intro Tryz.underlying54 (And.intro tz54 tt54))))) (And.intro (And.intro (And.intro (And.intro t0_54 Tryz.underlying57) (And.intro tz57 (And.intro tt57 t0_57))) (And.intro (And.intro Tryz.underlying58 tz58) (And.intro tt58 (And.intro t0_58 Tryz.underlying91)))) (And.intro (And.intro (And.intro tz91 tt91) (And.intro t0_91 (And.intro Tryz.underlying92 tz92))) (And.intro (And.intro tt92 (And.intro t0_92 Tryz.underlying93)) (And.intro tz93 (And.intro tt93 t0_93))))))) (And.intro (And.intro (And.intro (And.intro (And.intro (And.intro Tryz.underlying94 tz94) (And.intro tt94 (And.intro t0_94 Tryz.underlying97))) (And.intro (And.intro tz97 tt97) (And.intro t0_97 (And.intro Tryz.underlying98 tz98)))) (And.intro (And.intro (And.intro tt98 t0_98) (And.intro Tryz.underlying109 (And.intro tz109 tt109))) (And.intro (And.intro t0_109 (And.intro Tryz.underlying110 tz110)) (And.intro tt110 (And.intro t0_110 Tryz.underlying113))))) (And.intro (And.intro (And.intro (And.intro tz113 tt113) (And.intro t0_113 (And.intro Tryz.underlying124 tz124))) (And.intro (And.intro tt124 t0_124) (And.intro Tryz.underlying125 (And.intro tz125 tt125)))) (And.intro (And.intro (And.intro t0_125 Tryz.underlying127) (And.intro tz127 (And.intro tt127 t0_127))) (And.intro (And.intro Tryz.underlying128 (And.intro tz128 tt128)) (And.intro t0_128 (And.intro Tryz.underlying134 tz134)))))) (And.intro (And.intro (And.intro (And.intro (And.intro tt134 t0_134) (And.intro Tryz.underlying136 (And.intro tz136 tt136))) (And.intro (And.intro t0_136 Tryz.underlying137) (And.intro tz137 (And.intro tt137 t0_137)))) (And.intro (And.intro (And.intro Tryz.underlying141 tz141) (And.intro tt141 (And.intro t0_141 Tryz.underlying142))) (And.intro (And.intro tz142 (And.intro tt142 t0_142)) (And.intro Tryz.underlying148 (And.intro tz148 tt148))))) (And.intro (And.intro (And.intro (And.intro t0_148 Tryz.underlying149) (And.intro tz149 (And.intro tt149 t0_149))) (And.intro (And.intro Tryz.underlying154 tz154) (And.intro tt154 (And.intro t0_154 Tryz.underlying168)))) (And.intro (And.intro (And.intro tz168 tt168) (And.intro t0_168 (And.intro Tryz.underlying204 tz204))) (And.intro (And.intro tt204 (And.intro t0_204 Tryz.underlying207)) (And.intro tz207 (And.intro tt207 t0_207)))))))):=(And.intro (And.intro (And.intro (And.intro (And.intro (And.intro (And.intro Tryz.underlying3 tz3) (And.intro tt3 (And.intro t0_3 Tryz.underlying4))) (And.intro (And.intro tz4 tt4) (And.intro t0_4 (And.intro Tryz.underlying9 tz9)))) (And.intro (And.intro (And.intro tt9 t0_9) (And.intro Tryz.underlying22 (And.intro tz22 tt22))) (And.intro (And.intro t0_22 (And.intro Tryz.underlying23 tz23)) (And.intro tt23 (And.intro t0_23 Tryz.underlying24))))) (And.intro (And.intro (And.intro (And.intro tz24 tt24) (And.intro t0_24 (And.intro Tryz.underlying25 tz25))) (And.intro (And.intro tt25 t0_25) (And.intro Tryz.underlying26 (And.intro tz26 tt26)))) (And.intro (And.intro (And.intro t0_26 Tryz.underlying29) (And.intro tz29 (And.intro tt29 t0_29))) (And.intro (And.intro Tryz.underlying35 (And.intro tz35 tt35)) (And.intro t0_35 (And.intro Tryz.underlying36 tz36)))))) (And.intro (And.intro (And.intro (And.intro (And.intro tt36 t0_36) (And.intro Tryz.underlying40 (And.intro tz40 tt40))) (And.intro (And.intro t0_40 Tryz.underlying47) (And.intro tz47 (And.intro tt47 t0_47)))) (And.intro (And.intro (And.intro Tryz.underlying50 tz50) (And.intro tt50 (And.intro t0_50 Tryz.underlying51))) (And.intro (And.intro tz51 (And.intro tt51 t0_51)) (And.intro Tryz.underlying54 (And.intro tz54 tt54))))) (And.intro (And.intro (And.intro (And.intro t0_54 Tryz.underlying57) (And.intro tz57 (And.intro tt57 t0_57))) (And.intro (And.intro Tryz.underlying58 tz58) (And.intro tt58 (And.intro t0_58 Tryz.underlying91)))) (And.intro (And.intro (And.intro tz91 tt91) (And.intro t0_91 (And.intro Tryz.underlying92 tz92))) (And.intro (And.intro tt92 (And.intro t0_92 Tryz.underlying93)) (And.intro tz93 (And.intro tt93 t0_93))))))) (And.intro (And.intro (And.intro (And.intro (And.intro (And.intro Tryz.underlying94 tz94) (And.intro tt94 (And.intro t0_94 Tryz.underlying97))) (And.intro (And.intro tz97 tt97) (And.intro t0_97 (And.intro Tryz.underlying98 tz98)))) (And.intro (And.intro (And.intro tt98 t0_98) (And.intro Tryz.underlying109 (And.intro tz109 tt109))) (And.intro (And.intro t0_109 (And.intro Tryz.underlying110 tz110)) (And.intro tt110 (And.intro t0_110 Tryz.underlying113))))) (And.intro (And.intro (And.intro (And.intro tz113 tt113) (And.intro t0_113 (And.intro Tryz.underlying124 tz124))) (And.intro (And.intro tt124 t0_124) (And.intro Tryz.underlying125 (And.intro tz125 tt125)))) (And.intro (And.intro (And.intro t0_125 Tryz.underlying127) (And.intro tz127 (And.intro tt127 t0_127))) (And.intro (And.intro Tryz.underlying128 (And.intro tz128 tt128)) (And.intro t0_128 (And.intro Tryz.underlying134 tz134)))))) (And.intro (And.intro (And.intro (And.intro (And.intro tt134 t0_134) (And.intro Tryz.underlying136 (And.intro tz136 tt136))) (And.intro (And.intro t0_136 Tryz.underlying137) (And.intro tz137 (And.intro tt137 t0_137)))) (And.intro (And.intro (And.intro Tryz.underlying141 tz141) (And.intro tt141 (And.intro t0_141 Tryz.underlying142))) (And.intro (And.intro tz142 (And.intro tt142 t0_142)) (And.intro Tryz.underlying148 (And.intro tz148 tt148))))) (And.intro (And.intro (And.intro (And.intro t0_148 Tryz.underlying149) (And.intro tz149 (And.intro tt149 t0_149))) (And.intro (And.intro Tryz.underlying154 tz154) (And.intro tt154 (And.intro t0_154 Tryz.underlying168)))) (And.intro (And.intro (And.intro tz168 tt168) (And.intro t0_168 (And.intro Tryz.underlying204 tz204))) (And.intro (And.intro tt204 (And.intro t0_204 Tryz.underlying207)) (And.intro tz207 (And.intro tt207 t0_207))))))))
theorem rep94 {S:AS} {v:Value} {l:List Stp} (h:Lst S v l):LstR S v l:=by
 rcases h with ⟨rfl,h⟩|⟨id,off,c,ty,cap,wr,ex,h1,h2,h3,h4,h5⟩
 ·exact .inl ⟨rfl,h⟩
 ·exact .inr ⟨id,off,c,ty,cap,wr,ex,h1,h2,h3,h4,fun i x hx=>⟨[.int .i64 x.way,.bool x.back,.int .i64 x.at_],rfl,fun j hj=>h5 i x hx j hj⟩⟩
theorem R48_len (h:Hs) (fr ti to_:Int):∀ (m:Nat) (steps:List Stp) (now:Int),(R48_0 h fr ti to_ m steps now).length≤steps.length+m:=by
 intro m
 induction m with
 | zero=>intro steps now; rw [R48_0]; omega
 | succ m ih =>
  intro steps now
  rw [R48_0]
  split
  ·omega
  ·refine Nat.le_trans (ih _ _) ?_
   rw [List.length_append,List.length_singleton]; omega
theorem r48_len (h:Hs) (fr ti to_:Int):(r48 h fr ti to_).1.length≤h.rooms.length+1:=by
 unfold r48
 split
 ·split
  ·split
   ·split
    ·simp
    ·have:=R48_len h fr ti to_ (h.rooms.length+1) [] to_
     simpa using this
   ·simp
  ·simp
 ·simp
def r8 (h:Hs) (fr:Int) (ti:Int) (to_:Int):Bool:=(if (r20 h)=true then (if (r49 h fr ti to_ 0)=0 then (if (lget (r50 h fr ti) (Int.toNat to_))=1073741824 then (if ((r48 h fr ti to_).2)=5 then decide ((((r48 h fr ti to_).1).length:Int)=0) else false) else (if ((r48 h fr ti to_).2)=0 then (if (((r40 h fr ti ((r48 h fr ti to_).1:List Stp))).2.2)=0 then (if (((r40 h fr ti ((r48 h fr ti to_).1:List Stp))).1)=to_ then decide ((((r40 h fr ti ((r48 h fr ti to_).1:List Stp))).2.1)=(lget (r50 h fr ti) (Int.toNat to_))) else false) else false) else false)) else (if ((r48 h fr ti to_).2)=(r49 h fr ti to_ 0) then decide ((((r48 h fr ti to_).1).length:Int)=0) else false)) else true)
set_option maxHeartbeats 16000000 in
theorem c8 (h:Hs) (fr:Int) (ti:Int) (to_:Int) (hs:∀ x ∈ h.rooms,x.name.size≤9223372036854775807) (S:AS) (v_h_rooms:Value) (hv_h_rooms:LstR S v_h_rooms h.rooms) (v_h_doors:Value) (hv_h_doors:LstR S v_h_doors h.doors) (v_h_ways:Value) (hv_h_ways:Lst S v_h_ways h.ways) :
  ∃ S',(evL Tryz.prog E0).call 8 #[.agg #[v_h_rooms,v_h_doors,v_h_ways],.int .i64 fr,.int .i64 ti,.int .i64 to_] S=some (.bool (r8 h fr ti to_),S')∧Agree S S':=by
 generalize hz:(evL Tryz.prog E0).call 8 _ _=z
 rw [L_call,evCall_said rfl Tryz.func8 rfl (by decide) Tryz.ntmps8 Tryz.results8] at hz
 obtain ⟨S1,e1,n1,b1,a1⟩:=push_open S (.cells [v_h_rooms,v_h_doors,v_h_ways] 26 0 true true)
 have g1:Agree S S1:=a1
 have s1:E0.same S S1=true:=symEnv_same a1
 obtain ⟨S2,k2,a2⟩:=c20 h  S1 (v_h_rooms) (hv_h_rooms.agree g1) (v_h_doors) (hv_h_doors.agree g1) (v_h_ways) (hv_h_ways.agree g1)
 have l2:=a2.1
 have s2:E0.same S1 S2=true:=symEnv_same a2
 have v1_2:=(a2.2 S.next (by omega)).trans b1
 have g2:Agree S S2:=g1.trans a2
 try simp (disch:=first|omega|assumption) only [E0_G,SY,setArgs,off,agreeKind,partVals,vals,allocV,boxed,ldA,rdCells,oneB,aggD,aField,aFieldV,aExtract,eq_self,ne_eq,if_true,if_false,not_false_eq_true,Nat.reduceAdd,Nat.reduceSub,Nat.reduceMul,Nat.reduceLT,Nat.reduceEqDiff,Nat.reduceBEq,reduceIte,Int.reduceEq,Int.reduceLT,Int.reduceLE,reduceCtorEq,TY_EvH35,s1,e1,b1,k2,s2,v1_2] at hz
 rcases dB ((r20 h)) with ⟨h3a,h3⟩|⟨h3a,h3⟩
 ·skip
  obtain ⟨u4,S4,k4,a4,oo4⟩:=c48 h fr ti to_ (few_of (show r20 h=true by assumption)) hs _ (trees _ _ _).choose_spec S2 (v_h_rooms) (hv_h_rooms.agree g2) (v_h_doors) (hv_h_doors.agree g2) (v_h_ways) (hv_h_ways.agree g2)
  have l4:=a4.1
  obtain ⟨pu4,nu4,cu4,rfl⟩:=own_slice oo4
  have s4:E0.same S2 S4=true:=symEnv_same a4
  have v1_4:=(a4.2 S.next (by omega)).trans v1_2
  have g4:Agree S S4:=g2.trans a4
  have p4:=r48_len h fr ti to_
  obtain ⟨S5,k5,a5⟩:=c49 h fr ti to_ 0 (few_of (show r20 h=true by assumption)) S4 (v_h_rooms) (hv_h_rooms.agree g4) (v_h_doors) (hv_h_doors.agree g4) (v_h_ways) (hv_h_ways.agree g4)
  have l5:=a5.1
  have s5:E0.same S4 S5=true:=symEnv_same a5
  have v1_5:=(a5.2 S.next (by omega)).trans v1_4
  have o4_6:=oo4.agree a5
  have g5:Agree S S5:=g4.trans a5
  try simp (disch:=first|omega|assumption) only [E0_G,SY,setArgs,off,agreeKind,partVals,vals,allocV,boxed,ldA,rdCells,oneB,aggD,aField,aFieldV,aExtract,eq_self,ne_eq,if_true,if_false,not_false_eq_true,Nat.reduceAdd,Nat.reduceSub,Nat.reduceMul,Nat.reduceLT,Nat.reduceEqDiff,Nat.reduceBEq,reduceIte,Int.reduceEq,Int.reduceLT,Int.reduceLE,reduceCtorEq,TY_EvH35,s1,e1,b1,k2,s2,v1_2,h3a,k4,s4,v1_4,k5,s5,v1_5] at hz
  rcases dP ((r49 h fr ti to_ 0)=0) with ⟨h7a,h7⟩|⟨h7a,h7⟩
  ·skip
   have hV:=(r49_ok h7).1
   have lq8:=(r49_ok h7).2
   have hV:=(r49_ok h7).1
   have lq9:=(r49_ok h7).2
   obtain ⟨u10,S10,k10,a10,oo10⟩:=c50 h fr ti (few_of (show r20 h=true by assumption)) hV (by omega) (by omega) S5 (v_h_rooms) (hv_h_rooms.agree g5) (v_h_doors) (hv_h_doors.agree g5) (v_h_ways) (hv_h_ways.agree g5)
   have l10:=a10.1
   obtain ⟨pu10,nu10,cu10,rfl⟩:=own_slice oo10
   have ap11:∀ b,blkOf (.slice pu4 nu4 cu4)=some b→blkOf (.slice pu10 nu10 cu10)≠some b:=fun b hb=>oo10.ne (Nat.lt_of_lt_of_le (o4_6.lt hb) (by omega))
   have s10:E0.same S5 S10=true:=symEnv_same a10
   have v1_10:=(a10.2 S.next (by omega)).trans v1_5
   have o4_12:=o4_6.agree a10
   have g10:Agree S S10:=g5.trans a10
   have p10:=r50_len h fr ti
   have qz13:((Int.toNat to_:Nat):Int)=to_:=Int.toNat_of_nonneg (by first|omega|simp; omega)
   have hx14:(r50 h fr ti)[(Int.toNat to_)]?=some (lget (r50 h fr ti) (Int.toNat to_)):=lget_some (by first|omega|simp; omega)
   obtain ⟨id14,of14,cc14,ty14,wr14,ex14,i14,j14,l14,q14,lb14,bk14,oq14⟩:=oo10.at4 (P:=Tryz.prog) (t:=54) Tryz.underlying54 tz3 hx14
   have m14_0:cc14[of14]?=some (.int .i64 (lget (r50 h fr ti) (Int.toNat to_))):=q14 0 (show 0<1 by decide)
   rw [qz13] at i14
   try simp (disch:=first|omega|assumption) only [E0_G,SY,setArgs,off,agreeKind,partVals,vals,allocV,boxed,ldA,rdCells,oneB,aggD,aField,aFieldV,aExtract,eq_self,ne_eq,if_true,if_false,not_false_eq_true,Nat.reduceAdd,Nat.reduceSub,Nat.reduceMul,Nat.reduceLT,Nat.reduceEqDiff,Nat.reduceBEq,reduceIte,Int.reduceEq,Int.reduceLT,Int.reduceLE,reduceCtorEq,TY_EvH35,s1,e1,b1,k2,s2,v1_2,h3a,k4,s4,v1_4,k5,s5,v1_5,h7a,k10,s10,v1_10,i14,j14,m14_0] at hz
   rcases dP ((lget (r50 h fr ti) (Int.toNat to_))=1073741824) with ⟨h15a,h15⟩|⟨h15a,h15⟩
   ·skip
    try simp (disch:=first|omega|assumption) only [E0_G,SY,setArgs,off,agreeKind,partVals,vals,allocV,boxed,ldA,rdCells,oneB,aggD,aField,aFieldV,aExtract,eq_self,ne_eq,if_true,if_false,not_false_eq_true,Nat.reduceAdd,Nat.reduceSub,Nat.reduceMul,Nat.reduceLT,Nat.reduceEqDiff,Nat.reduceBEq,reduceIte,Int.reduceEq,Int.reduceLT,Int.reduceLE,reduceCtorEq,TY_EvH35,s1,e1,b1,k2,s2,v1_2,h3a,k4,s4,v1_4,k5,s5,v1_5,h7a,k10,s10,v1_10,i14,j14,m14_0,h15a,c21s] at hz
    rcases dP (((r48 h fr ti to_).2)=5) with ⟨h16a,h16⟩|⟨h16a,h16⟩
    ·skip
     have w17:=((rep94 o4_12.rows)).len (P:=Tryz.prog) (t:=47) Tryz.underlying47
     try simp (disch:=first|omega|assumption) only [E0_G,SY,setArgs,off,agreeKind,partVals,vals,allocV,boxed,ldA,rdCells,oneB,aggD,aField,aFieldV,aExtract,eq_self,ne_eq,if_true,if_false,not_false_eq_true,Nat.reduceAdd,Nat.reduceSub,Nat.reduceMul,Nat.reduceLT,Nat.reduceEqDiff,Nat.reduceBEq,reduceIte,Int.reduceEq,Int.reduceLT,Int.reduceLE,reduceCtorEq,TY_EvH35,s1,e1,b1,k2,s2,v1_2,h3a,k4,s4,v1_4,k5,s5,v1_5,h7a,k10,s10,v1_10,i14,j14,m14_0,h15a,c21s,h16a,w17] at hz
     have hr:r8 h fr ti to_=decide ((((r48 h fr ti to_).1).length:Int)=0):=(if_pos h3).trans ((if_pos h7).trans ((if_pos h15).trans ((if_pos h16).trans (rfl))))
     exact fin hz (by rw [hr]) g10
    ·skip
     try simp (disch:=first|omega|assumption) only [E0_G,SY,setArgs,off,agreeKind,partVals,vals,allocV,boxed,ldA,rdCells,oneB,aggD,aField,aFieldV,aExtract,eq_self,ne_eq,if_true,if_false,not_false_eq_true,Nat.reduceAdd,Nat.reduceSub,Nat.reduceMul,Nat.reduceLT,Nat.reduceEqDiff,Nat.reduceBEq,reduceIte,Int.reduceEq,Int.reduceLT,Int.reduceLE,reduceCtorEq,TY_EvH35,s1,e1,b1,k2,s2,v1_2,h3a,k4,s4,v1_4,k5,s5,v1_5,h7a,k10,s10,v1_10,i14,j14,m14_0,h15a,c21s,h16a] at hz
     have hr:r8 h fr ti to_=false:=(if_pos h3).trans ((if_pos h7).trans ((if_pos h15).trans ((if_neg h16).trans (rfl))))
     exact fin hz (by rw [hr]) g10
   ·skip
    obtain ⟨S18,k18,a18⟩:=c40 h fr ti ((r48 h fr ti to_).1:List Stp) (few_of (show r20 h=true by assumption)) (by have:=(few_of (show r20 h=true by assumption)).r; omega) S10 (v_h_rooms) (hv_h_rooms.agree g10) (v_h_doors) (hv_h_doors.agree g10) (v_h_ways) (hv_h_ways.agree g10) (.slice pu4 nu4 cu4) ((rep94 o4_12.rows))
    have l18:=a18.1
    have s18:E0.same S10 S18=true:=symEnv_same a18
    have v1_18:=(a18.2 S.next (by omega)).trans v1_10
    have v14_18:=(a18.2 id14 (by omega)).trans j14
    have o4_19:=o4_12.agree a18
    have o10_20:=oo10.agree a18
    have g18:Agree S S18:=g10.trans a18
    obtain ⟨S21,e21,n21,b21,a21⟩:=push_open S18 (.cells [.int .i64 0,.int .i64 0,.int .i64 0] 51 0 true true)
    have v1_21:=(a21.2 S.next (by omega)).trans v1_18
    have v14_21:=(a21.2 id14 (by omega)).trans v14_18
    have o4_22:=o4_19.agree a21
    have o10_23:=o10_20.agree a21
    have g21:Agree S S21:=g18.trans a21
    have s21:E0.same S18 S21=true:=symEnv_same a21
    have ne24:blkOf (.slice pu4 nu4 cu4)≠some S18.next:=o4_19.new (Nat.le_refl _)
    have ne25:blkOf (.slice pu10 nu10 cu10)≠some S18.next:=o10_20.new (Nat.le_refl _)
    obtain ⟨S26,k26,n26,b26,q26⟩:=st_at (o:=0) (c':=[.int .i64 (((r40 h fr ti ((r48 h fr ti to_).1:List Stp))).1),.int .i64 (((r40 h fr ti ((r48 h fr ti to_).1:List Stp))).2.1),.int .i64 (((r40 h fr ti ((r48 h fr ti to_).1:List Stp))).2.2)]) (v:=.agg #[.int .i64 (((r40 h fr ti ((r48 h fr ti to_).1:List Stp))).1),.int .i64 (((r40 h fr ti ((r48 h fr ti to_).1:List Stp))).2.1),.int .i64 (((r40 h fr ti ((r48 h fr ti to_).1:List Stp))).2.2)]) tz51 b21 rfl rfl (show 0+3≤3 by decide) rfl
    have v1_26:=(q26 S.next (by omega)).trans v1_21
    have o4_27:=o4_22.frame (by omega) (fun id hid hb=>q26 id (fun e=>(show blkOf (.slice pu4 nu4 cu4)≠some S18.next from by first|exact o4_22.ne (by omega)|exact o4_22.new (by omega)|assumption) (e ▸ hb)))
    have o10_28:=o10_23.frame (by omega) (fun id hid hb=>q26 id (fun e=>(show blkOf (.slice pu10 nu10 cu10)≠some S18.next from by first|exact o10_23.ne (by omega)|exact o10_23.new (by omega)|assumption) (e ▸ hb)))
    have g26:Agree S S26:=⟨by have:=(g21).1; omega,fun id hid=>(q26 id (by have:=(g21).1; omega)).trans ((g21).2 id hid)⟩
    try simp (disch:=first|omega|assumption) only [E0_G,SY,setArgs,off,agreeKind,partVals,vals,allocV,boxed,ldA,rdCells,oneB,aggD,aField,aFieldV,aExtract,eq_self,ne_eq,if_true,if_false,not_false_eq_true,Nat.reduceAdd,Nat.reduceSub,Nat.reduceMul,Nat.reduceLT,Nat.reduceEqDiff,Nat.reduceBEq,reduceIte,Int.reduceEq,Int.reduceLT,Int.reduceLE,reduceCtorEq,TY_EvH35,s1,e1,b1,k2,s2,v1_2,h3a,k4,s4,v1_4,k5,s5,v1_5,h7a,k10,s10,v1_10,i14,j14,m14_0,h15a,k18,s18,v1_18,v14_18,v1_21,v14_21,s21,e21,b21,v1_26,k26,b26,c21s] at hz
    rcases dP (((r48 h fr ti to_).2)=0) with ⟨h29a,h29⟩|⟨h29a,h29⟩
    ·skip
     try simp (disch:=first|omega|assumption) only [E0_G,SY,setArgs,off,agreeKind,partVals,vals,allocV,boxed,ldA,rdCells,oneB,aggD,aField,aFieldV,aExtract,eq_self,ne_eq,if_true,if_false,not_false_eq_true,Nat.reduceAdd,Nat.reduceSub,Nat.reduceMul,Nat.reduceLT,Nat.reduceEqDiff,Nat.reduceBEq,reduceIte,Int.reduceEq,Int.reduceLT,Int.reduceLE,reduceCtorEq,TY_EvH35,s1,e1,b1,k2,s2,v1_2,h3a,k4,s4,v1_4,k5,s5,v1_5,h7a,k10,s10,v1_10,i14,j14,m14_0,h15a,k18,s18,v1_18,v14_18,v1_21,v14_21,s21,e21,b21,v1_26,k26,b26,c21s,h29a] at hz
     rcases dP ((((r40 h fr ti ((r48 h fr ti to_).1:List Stp))).2.2)=0) with ⟨h30a,h30⟩|⟨h30a,h30⟩
     ·skip
      try simp (disch:=first|omega|assumption) only [E0_G,SY,setArgs,off,agreeKind,partVals,vals,allocV,boxed,ldA,rdCells,oneB,aggD,aField,aFieldV,aExtract,eq_self,ne_eq,if_true,if_false,not_false_eq_true,Nat.reduceAdd,Nat.reduceSub,Nat.reduceMul,Nat.reduceLT,Nat.reduceEqDiff,Nat.reduceBEq,reduceIte,Int.reduceEq,Int.reduceLT,Int.reduceLE,reduceCtorEq,TY_EvH35,s1,e1,b1,k2,s2,v1_2,h3a,k4,s4,v1_4,k5,s5,v1_5,h7a,k10,s10,v1_10,i14,j14,m14_0,h15a,k18,s18,v1_18,v14_18,v1_21,v14_21,s21,e21,b21,v1_26,k26,b26,c21s,h29a,h30a] at hz
      rcases dP ((((r40 h fr ti ((r48 h fr ti to_).1:List Stp))).1)=to_) with ⟨h31a,h31⟩|⟨h31a,h31⟩
      ·skip
       try simp (disch:=first|omega|assumption) only [E0_G,SY,setArgs,off,agreeKind,partVals,vals,allocV,boxed,ldA,rdCells,oneB,aggD,aField,aFieldV,aExtract,eq_self,ne_eq,if_true,if_false,not_false_eq_true,Nat.reduceAdd,Nat.reduceSub,Nat.reduceMul,Nat.reduceLT,Nat.reduceEqDiff,Nat.reduceBEq,reduceIte,Int.reduceEq,Int.reduceLT,Int.reduceLE,reduceCtorEq,TY_EvH35,s1,e1,b1,k2,s2,v1_2,h3a,k4,s4,v1_4,k5,s5,v1_5,h7a,k10,s10,v1_10,i14,j14,m14_0,h15a,k18,s18,v1_18,v14_18,v1_21,v14_21,s21,e21,b21,v1_26,k26,b26,c21s,h29a,h30a,h31a] at hz
       have hr:r8 h fr ti to_=decide ((((r40 h fr ti ((r48 h fr ti to_).1:List Stp))).2.1)=(lget (r50 h fr ti) (Int.toNat to_))):=(if_pos h3).trans ((if_pos h7).trans ((if_neg h15).trans ((if_pos h29).trans ((if_pos h30).trans ((if_pos h31).trans (rfl))))))
       exact fin hz (by rw [hr]) g26
      ·skip
       try simp (disch:=first|omega|assumption) only [E0_G,SY,setArgs,off,agreeKind,partVals,vals,allocV,boxed,ldA,rdCells,oneB,aggD,aField,aFieldV,aExtract,eq_self,ne_eq,if_true,if_false,not_false_eq_true,Nat.reduceAdd,Nat.reduceSub,Nat.reduceMul,Nat.reduceLT,Nat.reduceEqDiff,Nat.reduceBEq,reduceIte,Int.reduceEq,Int.reduceLT,Int.reduceLE,reduceCtorEq,TY_EvH35,s1,e1,b1,k2,s2,v1_2,h3a,k4,s4,v1_4,k5,s5,v1_5,h7a,k10,s10,v1_10,i14,j14,m14_0,h15a,k18,s18,v1_18,v14_18,v1_21,v14_21,s21,e21,b21,v1_26,k26,b26,c21s,h29a,h30a,h31a] at hz
       have hr:r8 h fr ti to_=false:=(if_pos h3).trans ((if_pos h7).trans ((if_neg h15).trans ((if_pos h29).trans ((if_pos h30).trans ((if_neg h31).trans (rfl))))))
       exact fin hz (by rw [hr]) g26
     ·skip
      try simp (disch:=first|omega|assumption) only [E0_G,SY,setArgs,off,agreeKind,partVals,vals,allocV,boxed,ldA,rdCells,oneB,aggD,aField,aFieldV,aExtract,eq_self,ne_eq,if_true,if_false,not_false_eq_true,Nat.reduceAdd,Nat.reduceSub,Nat.reduceMul,Nat.reduceLT,Nat.reduceEqDiff,Nat.reduceBEq,reduceIte,Int.reduceEq,Int.reduceLT,Int.reduceLE,reduceCtorEq,TY_EvH35,s1,e1,b1,k2,s2,v1_2,h3a,k4,s4,v1_4,k5,s5,v1_5,h7a,k10,s10,v1_10,i14,j14,m14_0,h15a,k18,s18,v1_18,v14_18,v1_21,v14_21,s21,e21,b21,v1_26,k26,b26,c21s,h29a,h30a] at hz
      have hr:r8 h fr ti to_=false:=(if_pos h3).trans ((if_pos h7).trans ((if_neg h15).trans ((if_pos h29).trans ((if_neg h30).trans (rfl)))))
      exact fin hz (by rw [hr]) g26
    ·skip
     try simp (disch:=first|omega|assumption) only [E0_G,SY,setArgs,off,agreeKind,partVals,vals,allocV,boxed,ldA,rdCells,oneB,aggD,aField,aFieldV,aExtract,eq_self,ne_eq,if_true,if_false,not_false_eq_true,Nat.reduceAdd,Nat.reduceSub,Nat.reduceMul,Nat.reduceLT,Nat.reduceEqDiff,Nat.reduceBEq,reduceIte,Int.reduceEq,Int.reduceLT,Int.reduceLE,reduceCtorEq,TY_EvH35,s1,e1,b1,k2,s2,v1_2,h3a,k4,s4,v1_4,k5,s5,v1_5,h7a,k10,s10,v1_10,i14,j14,m14_0,h15a,k18,s18,v1_18,v14_18,v1_21,v14_21,s21,e21,b21,v1_26,k26,b26,c21s,h29a] at hz
     have hr:r8 h fr ti to_=false:=(if_pos h3).trans ((if_pos h7).trans ((if_neg h15).trans ((if_neg h29).trans (rfl))))
     exact fin hz (by rw [hr]) g26
  ·skip
   try simp (disch:=first|omega|assumption) only [E0_G,SY,setArgs,off,agreeKind,partVals,vals,allocV,boxed,ldA,rdCells,oneB,aggD,aField,aFieldV,aExtract,eq_self,ne_eq,if_true,if_false,not_false_eq_true,Nat.reduceAdd,Nat.reduceSub,Nat.reduceMul,Nat.reduceLT,Nat.reduceEqDiff,Nat.reduceBEq,reduceIte,Int.reduceEq,Int.reduceLT,Int.reduceLE,reduceCtorEq,TY_EvH35,s1,e1,b1,k2,s2,v1_2,h3a,k4,s4,v1_4,k5,s5,v1_5,h7a,c21s] at hz
   rcases dP (((r48 h fr ti to_).2)=(r49 h fr ti to_ 0)) with ⟨h32a,h32⟩|⟨h32a,h32⟩
   ·skip
    have w33:=((rep94 o4_6.rows)).len (P:=Tryz.prog) (t:=47) Tryz.underlying47
    try simp (disch:=first|omega|assumption) only [E0_G,SY,setArgs,off,agreeKind,partVals,vals,allocV,boxed,ldA,rdCells,oneB,aggD,aField,aFieldV,aExtract,eq_self,ne_eq,if_true,if_false,not_false_eq_true,Nat.reduceAdd,Nat.reduceSub,Nat.reduceMul,Nat.reduceLT,Nat.reduceEqDiff,Nat.reduceBEq,reduceIte,Int.reduceEq,Int.reduceLT,Int.reduceLE,reduceCtorEq,TY_EvH35,s1,e1,b1,k2,s2,v1_2,h3a,k4,s4,v1_4,k5,s5,v1_5,h7a,c21s,h32a,w33] at hz
    have hr:r8 h fr ti to_=decide ((((r48 h fr ti to_).1).length:Int)=0):=(if_pos h3).trans ((if_neg h7).trans ((if_pos h32).trans (rfl)))
    exact fin hz (by rw [hr]) g5
   ·skip
    try simp (disch:=first|omega|assumption) only [E0_G,SY,setArgs,off,agreeKind,partVals,vals,allocV,boxed,ldA,rdCells,oneB,aggD,aField,aFieldV,aExtract,eq_self,ne_eq,if_true,if_false,not_false_eq_true,Nat.reduceAdd,Nat.reduceSub,Nat.reduceMul,Nat.reduceLT,Nat.reduceEqDiff,Nat.reduceBEq,reduceIte,Int.reduceEq,Int.reduceLT,Int.reduceLE,reduceCtorEq,TY_EvH35,s1,e1,b1,k2,s2,v1_2,h3a,k4,s4,v1_4,k5,s5,v1_5,h7a,c21s,h32a] at hz
    have hr:r8 h fr ti to_=false:=(if_pos h3).trans ((if_neg h7).trans ((if_neg h32).trans (rfl)))
    exact fin hz (by rw [hr]) g5
 ·skip
  try simp (disch:=first|omega|assumption) only [E0_G,SY,setArgs,off,agreeKind,partVals,vals,allocV,boxed,ldA,rdCells,oneB,aggD,aField,aFieldV,aExtract,eq_self,ne_eq,if_true,if_false,not_false_eq_true,Nat.reduceAdd,Nat.reduceSub,Nat.reduceMul,Nat.reduceLT,Nat.reduceEqDiff,Nat.reduceBEq,reduceIte,Int.reduceEq,Int.reduceLT,Int.reduceLE,reduceCtorEq,TY_EvH35,s1,e1,b1,k2,s2,v1_2,h3a,c21s] at hz
  have hr:r8 h fr ti to_=true:=(if_neg h3).trans (rfl)
  exact fin hz (by rw [hr]) g2
end House
end Go.Proofs
