import Derived.Test.YtohfdkdjfoonjaaGreatDoorEvM21
import Derived.Test.YtohfdkdjfoonjaaGreatDoorBAC
import Derived.Test.YtohfdkdjfoonjaaGreatDoorAE7
set_option linter.unusedSimpArgs false
set_option linter.unusedVariables false
namespace Go.Proofs
namespace House
open Go Go.RowKit Go.Aev
set_option maxRecDepth 100000
theorem TY_EvH38:type_of% (And.intro (And.intro (And.intro (And.intro (And.intro (And.intro (And.intro Tryz.underlying3 tz3) (And.intro tt3 (And.intro t0_3 Tryz.underlying4))) (And.intro (And.intro tz4 tt4) (And.intro t0_4 (And.intro Tryz.underlying9 tz9)))) (And.intro (And.intro (And.intro tt9 t0_9) (And.intro Tryz.underlying22 (And.intro tz22 tt22))) (And.intro (And.intro t0_22 (And.intro Tryz.underlying23 tz23)) (And.intro tt23 (And.intro t0_23 Tryz.underlying24))))) (And.intro (And.intro (And.intro (And.intro tz24 tt24) (And.intro t0_24 (And.intro Tryz.underlying25 tz25))) (And.intro (And.intro tt25 t0_25) (And.intro Tryz.underlying26 (And.intro tz26 tt26)))) (And.intro (And.intro (And.intro t0_26 Tryz.underlying29) (And.intro tz29 (And.intro tt29 t0_29))) (And.intro (And.intro Tryz.underlying35 (And.intro tz35 tt35)) (And.intro t0_35 (And.intro Tryz.underlying36 tz36)))))) (And.intro (And.intro (And.intro (And.intro (And.intro tt36 t0_36) (And.intro Tryz.underlying40 (And.intro tz40 tt40))) (And.intro (And.intro t0_40 Tryz.underlying47) (And.intro tz47 (And.intro tt47 t0_47)))) (And.intro (And.intro (And.intro Tryz.underlying50 tz50) (And.intro tt50 (And.intro t0_50 Tryz.underlying51))) (And.intro (And.intro tz51 (And.intro tt51 t0_51)) (And.intro Tryz.underlying54 (And.intro tz54 tt54))))) (And.intro (And.intro (And.intro (And.intro t0_54 Tryz.underlying57) (And.intro tz57 (And.intro tt57 t0_57))) (And.intro (And.intro Tryz.underlying58 tz58) (And.intro tt58 (And.intro t0_58 Tryz.underlying91)))) (And.intro (And.intro (And.intro tz91 tt91) (And.intro t0_91 (And.intro Tryz.underlying92 tz92))) (And.intro (And.intro tt92 (And.intro t0_92 Tryz.underlying93)) (And.intro tz93 (And.intro tt93 t0_93))))))) (And.intro (And.intro (And.intro (And.intro (And.intro (And.intro Tryz.underlying94 tz94) (And.intro tt94 (And.intro t0_94 Tryz.underlying97))) (And.intro (And.intro tz97 tt97) (And.intro t0_97 (And.intro Tryz.underlying98 tz98)))) (And.intro (And.intro (And.intro tt98 t0_98) (And.intro Tryz.underlying109 (And.intro tz109 tt109))) (And.intro (And.intro t0_109 (And.intro Tryz.underlying110 tz110)) (And.intro tt110 (And.intro t0_110 Tryz.underlying113))))) (And.intro (And.intro (And.intro (And.intro tz113 tt113) (And.intro t0_113 (And.intro Tryz.underlying124 tz124))) (And.intro (And.intro tt124 t0_124) (And.intro Tryz.underlying125 (And.intro tz125 tt125)))) (And.intro (And.intro (And.intro t0_125 Tryz.underlying127) (And.intro tz127 (And.intro tt127 t0_127))) (And.intro (And.intro Tryz.underlying128 (And.intro tz128 tt128)) (And.intro t0_128 (And.intro Tryz.underlying134 tz134)))))) (And.intro (And.intro (And.intro (And.intro (And.intro tt134 t0_134) (And.intro Tryz.underlying136 (And.intro tz136 tt136))) (And.intro (And.intro t0_136 Tryz.underlying137) (And.intro tz137 (And.intro tt137 t0_137)))) (And.intro (And.intro (And.intro Tryz.underlying141 tz141) (And.intro tt141 (And.intro t0_141 Tryz.underlying142))) (And.intro (And.intro tz142 (And.intro tt142 t0_142)) (And.intro Tryz.underlying148 (And.intro tz148 tt148))))) (And.intro (And.intro (And.intro (And.intro t0_148 Tryz.underlying149) (And.intro tz149 (And.intro tt149 t0_149))) (And.intro (And.intro Tryz.underlying154 tz154) (And.intro tt154 (And.intro t0_154 Tryz.underlying168)))) (And.intro (And.intro (And.intro tz168 tt168) (And.intro t0_168 (And.intro Tryz.underlying204 tz204))) (And.intro (And.intro tt204 (And.intro t0_204 Tryz.underlying207)) (And.intro tz207 (And.intro tt207 t0_207)))))))):=(And.intro (And.intro (And.intro (And.intro (And.intro (And.intro (And.intro Tryz.underlying3 tz3) (And.intro tt3 (And.intro t0_3 Tryz.underlying4))) (And.intro (And.intro tz4 tt4) (And.intro t0_4 (And.intro Tryz.underlying9 tz9)))) (And.intro (And.intro (And.intro tt9 t0_9) (And.intro Tryz.underlying22 (And.intro tz22 tt22))) (And.intro (And.intro t0_22 (And.intro Tryz.underlying23 tz23)) (And.intro tt23 (And.intro t0_23 Tryz.underlying24))))) (And.intro (And.intro (And.intro (And.intro tz24 tt24) (And.intro t0_24 (And.intro Tryz.underlying25 tz25))) (And.intro (And.intro tt25 t0_25) (And.intro Tryz.underlying26 (And.intro tz26 tt26)))) (And.intro (And.intro (And.intro t0_26 Tryz.underlying29) (And.intro tz29 (And.intro tt29 t0_29))) (And.intro (And.intro Tryz.underlying35 (And.intro tz35 tt35)) (And.intro t0_35 (And.intro Tryz.underlying36 tz36)))))) (And.intro (And.intro (And.intro (And.intro (And.intro tt36 t0_36) (And.intro Tryz.underlying40 (And.intro tz40 tt40))) (And.intro (And.intro t0_40 Tryz.underlying47) (And.intro tz47 (And.intro tt47 t0_47)))) (And.intro (And.intro (And.intro Tryz.underlying50 tz50) (And.intro tt50 (And.intro t0_50 Tryz.underlying51))) (And.intro (And.intro tz51 (And.intro tt51 t0_51)) (And.intro Tryz.underlying54 (And.intro tz54 tt54))))) (And.intro (And.intro (And.intro (And.intro t0_54 Tryz.underlying57) (And.intro tz57 (And.intro tt57 t0_57))) (And.intro (And.intro Tryz.underlying58 tz58) (And.intro tt58 (And.intro t0_58 Tryz.underlying91)))) (And.intro (And.intro (And.intro tz91 tt91) (And.intro t0_91 (And.intro Tryz.underlying92 tz92))) (And.intro (And.intro tt92 (And.intro t0_92 Tryz.underlying93)) (And.intro tz93 (And.intro tt93 t0_93))))))) (And.intro (And.intro (And.intro (And.intro (And.intro (And.intro Tryz.underlying94 tz94) (And.intro tt94 (And.intro t0_94 Tryz.underlying97))) (And.intro (And.intro tz97 tt97) (And.intro t0_97 (And.intro Tryz.underlying98 tz98)))) (And.intro (And.intro (And.intro tt98 t0_98) (And.intro Tryz.underlying109 (And.intro tz109 tt109))) (And.intro (And.intro t0_109 (And.intro Tryz.underlying110 tz110)) (And.intro tt110 (And.intro t0_110 Tryz.underlying113))))) (And.intro (And.intro (And.intro (And.intro tz113 tt113) (And.intro t0_113 (And.intro Tryz.underlying124 tz124))) (And.intro (And.intro tt124 t0_124) (And.intro Tryz.underlying125 (And.intro tz125 tt125)))) (And.intro (And.intro (And.intro t0_125 Tryz.underlying127) (And.intro tz127 (And.intro tt127 t0_127))) (And.intro (And.intro Tryz.underlying128 (And.intro tz128 tt128)) (And.intro t0_128 (And.intro Tryz.underlying134 tz134)))))) (And.intro (And.intro (And.intro (And.intro (And.intro tt134 t0_134) (And.intro Tryz.underlying136 (And.intro tz136 tt136))) (And.intro (And.intro t0_136 Tryz.underlying137) (And.intro tz137 (And.intro tt137 t0_137)))) (And.intro (And.intro (And.intro Tryz.underlying141 tz141) (And.intro tt141 (And.intro t0_141 Tryz.underlying142))) (And.intro (And.intro tz142 (And.intro tt142 t0_142)) (And.intro Tryz.underlying148 (And.intro tz148 tt148))))) (And.intro (And.intro (And.intro (And.intro t0_148 Tryz.underlying149) (And.intro tz149 (And.intro tt149 t0_149))) (And.intro (And.intro Tryz.underlying154 tz154) (And.intro tt154 (And.intro t0_154 Tryz.underlying168)))) (And.intro (And.intro (And.intro tz168 tt168) (And.intro t0_168 (And.intro Tryz.underlying204 tz204))) (And.intro (And.intro tt204 (And.intro t0_204 Tryz.underlying207)) (And.intro tz207 (And.intro tt207 t0_207))))))))
set_option maxHeartbeats 2000000 in
theorem c154 (l:List Wy) (hl:l.length≤65536) (S:AS) (v_l:Value) (hv_l:Lst S v_l l) :
  ∃ v' S',(evL Tryz.prog E0).call 154 #[v_l] S=some (v',S')∧Agree S S'∧Own 92 S.next S' v' (l):=by
 generalize hz:(evL Tryz.prog E0).call 154 _ _=z
 rw [L_call,evCall_said rfl Tryz.func154 rfl (by decide) Tryz.ntmps154 Tryz.results154] at hz
 have yb1:=fun dst ty pos after g f S=>bin_eqlSl (P:=Tryz.prog) (E:=E0) (r:=evL Tryz.prog E0) dst ty pos after g f S (hv_l).form
 have yc1:=fun S=>slEq_lst (hv_l) 92 S
 try simp (disch:=first|omega|assumption) only [E0_G,SY,setArgs,off,agreeKind,partVals,vals,allocV,boxed,ldA,rdCells,oneB,aggD,aField,aFieldV,aExtract,eq_self,ne_eq,if_true,if_false,not_false_eq_true,Nat.reduceAdd,Nat.reduceSub,Nat.reduceMul,Nat.reduceLT,Nat.reduceEqDiff,Nat.reduceBEq,reduceIte,Int.reduceEq,Int.reduceLT,Int.reduceLE,reduceCtorEq,TY_EvH38,yb1,yc1,opB_eql,opC_eql,strEq_sl,firstOf_none,firstOf_some] at hz
 rcases dB (nilB v_l) with ⟨h2a,h2⟩|⟨h2a,h2⟩
 ·try simp (disch:=first|omega|assumption) only [E0_G,SY,setArgs,off,agreeKind,partVals,vals,allocV,boxed,ldA,rdCells,oneB,aggD,aField,aFieldV,aExtract,eq_self,ne_eq,if_true,if_false,not_false_eq_true,Nat.reduceAdd,Nat.reduceSub,Nat.reduceMul,Nat.reduceLT,Nat.reduceEqDiff,Nat.reduceBEq,reduceIte,Int.reduceEq,Int.reduceLT,Int.reduceLE,reduceCtorEq,TY_EvH38,yb1,yc1,opB_eql,opC_eql,strEq_sl,firstOf_none,firstOf_some,h2a] at hz
  have hr:l=[]:=nilB_nil hv_l h2
  exact ⟨.slice none 0 0,S,by first|(rw [hr]; exact hz.symm)|exact hz.symm,(Agree.refl S),by rw [hr]; exact by first|exact Own.nil _ _ _|exact OwnL.nil _ _ _ _ (by decide)⟩
 have y3:aBuildSlice Tryz.prog 24 0 [] S=some (.slice (some ⟨S.next,0,none⟩) 0 0,S.push (.cells [] 92 5 true true)):=by kernel_rfl
 obtain ⟨S4,e4,n4,b4,a4⟩:=push_open S (.cells [] 92 5 true true)
 have g4:Agree S S4:=a4
 have s4:E0.same S S4=true:=symEnv_same a4
 have o5:Own 92 S.next S4 (.slice (some ⟨S.next,0,none⟩) 0 0) ([]:List Wy):=.inr ⟨_,true,rfl,Nat.le_refl _,by omega,b4⟩
 obtain ⟨u6,S6,k6,o6,n6,f6,d6⟩:=own_append (P:=Tryz.prog) (t:=24) (tx:=24) (n:=4) (v:=.slice (some ⟨S.next,0,none⟩) 0 0) o5 (hv_l.agree g4) (by omega) (by first|omega|(simp; omega)|simp) (by first|omega|(simp; omega)|simp) Tryz.underlying24 Tryz.underlying24 ti92 tv92 rfl tz92
 obtain ⟨pu6,nu6,cu6,rfl⟩:=own_slice o6
 have g6:Agree S S6:=⟨Nat.le_trans (g4).1 n6,fun id hid=>(f6 id (by have:=(g4).1; omega) (by first|(simp [blkOf]; done)|exact o5.ne (by omega)|assumption)).trans ((g4).2 id hid)⟩
 try simp (disch:=first|omega|assumption) only [E0_G,SY,setArgs,off,agreeKind,partVals,vals,allocV,boxed,ldA,rdCells,oneB,aggD,aField,aFieldV,aExtract,eq_self,ne_eq,if_true,if_false,not_false_eq_true,Nat.reduceAdd,Nat.reduceSub,Nat.reduceMul,Nat.reduceLT,Nat.reduceEqDiff,Nat.reduceBEq,reduceIte,Int.reduceEq,Int.reduceLT,Int.reduceLE,reduceCtorEq,TY_EvH38,yb1,yc1,opB_eql,opC_eql,strEq_sl,firstOf_none,firstOf_some,h2a,y3,s4,e4,b4,k6] at hz
 have hr:l=([])++l:=by simp
 exact ⟨.slice pu6 nu6 cu6,S6,by first|(rw [hr]; exact hz.symm)|exact hz.symm,g6,by rw [hr]; exact o6.low (by omega)⟩
def R150_0 (h:Hs)  : Nat→List Wy→Nat→(List Wy)
 | 0,ws,k=>ws
 | m'+1,ws,k=>(if (k:Int)<(((h.ways:List Wy)).length:Int) then R150_0 h m' (ws.set k (⟨(lget ws k).a,(lget ws k).b,(lget ws k).secs,(lget ws k).back,-1⟩:Wy)) (k+1) else ws)
def r150 (h:Hs):Hs:=(⟨h.rooms,[],R150_0 h (h.ways.length+1) ((h.ways:List Wy)) 0⟩:Hs)
set_option maxHeartbeats 8000000 in
theorem c150 (h:Hs) (hF:Few h) (S:AS) (v_h_rooms:Value) (hv_h_rooms:LstR S v_h_rooms h.rooms) (v_h_doors:Value) (hv_h_doors:LstR S v_h_doors h.doors) (v_h_ways:Value) (hv_h_ways:Lst S v_h_ways h.ways) :
  ∃ v'0 S',(evL Tryz.prog E0).call 150 #[.agg #[v_h_rooms,v_h_doors,v_h_ways]] S=some (.agg #[v_h_rooms,.slice none 0 0,v'0],S')∧Agree S S'∧Own 92 S.next S' v'0 ((r150 h).ways):=by
 have qr:=hF.r; have qd:=hF.d; have qw:=hF.w
 generalize hz:(evL Tryz.prog E0).call 150 _ _=z
 rw [L_call,evCall_said rfl Tryz.func150 rfl (by decide) Tryz.ntmps150 Tryz.results150] at hz
 obtain ⟨S1,e1,n1,b1,a1⟩:=push_open S (.cells [v_h_rooms,v_h_doors,v_h_ways] 26 0 true true)
 have g1:Agree S S1:=a1
 have s1:E0.same S S1=true:=symEnv_same a1
 obtain ⟨S2,e2,n2,b2,a2⟩:=push_open S1 (.cells [.slice none 0 0,.slice none 0 0,.slice none 0 0] 26 0 true true)
 have v1_2:=(a2.2 S.next (by omega)).trans b1
 have g2:Agree S S2:=g1.trans a2
 have s2:E0.same S1 S2=true:=symEnv_same a2
 obtain ⟨u3,S3,k3,a3,oo3⟩:=c154 (h.ways:List Wy) (by omega) S2 (v_h_ways) (hv_h_ways.agree g2)
 have l3:=a3.1
 obtain ⟨pu3,nu3,cu3,rfl⟩:=own_slice oo3
 have s3:E0.same S2 S3=true:=symEnv_same a3
 have v1_3:=(a3.2 S.next (by omega)).trans v1_2
 have v2_3:=(a3.2 S1.next (by omega)).trans b2
 have g3:Agree S S3:=g2.trans a3
 have w4:=(oo3.rows).len (P:=Tryz.prog) (t:=24) Tryz.underlying24
 try simp (disch:=first|omega|assumption) only [E0_G,SY,setArgs,off,agreeKind,partVals,vals,allocV,boxed,ldA,rdCells,oneB,aggD,aField,aFieldV,aExtract,eq_self,ne_eq,if_true,if_false,not_false_eq_true,Nat.reduceAdd,Nat.reduceSub,Nat.reduceMul,Nat.reduceLT,Nat.reduceEqDiff,Nat.reduceBEq,reduceIte,Int.reduceEq,Int.reduceLT,Int.reduceLE,reduceCtorEq,TY_EvH38,s1,e1,b1,v1_2,s2,e2,b2,k3,s3,v1_3,v2_3,w4] at hz
 generalize hL5:Rec.loop _ _ _ _=L5 at hz
 obtain ⟨x5,t5,S5e,rfl,hQ5⟩:=loop_met hL5 (fun m t S'=>∃ (ws:List Wy) (k:Nat),m+k=h.ways.length+1∧ws.length=h.ways.length∧k≤h.ways.length∧t.get 1=some (.pointer (some ⟨S.next,0,none⟩))∧t.get 2=some (.pointer (some ⟨S1.next,0,none⟩))∧t.get 3=some (.slice pu3 nu3 cu3)∧t.get 9=some (.int .i64 (((h.ways:List Wy)).length:Int))∧t.get 10=some (.int .i64 (k:Int))∧S'.heap.get S.next=some (.cells [v_h_rooms,v_h_doors,v_h_ways] 26 0 true true)∧S'.heap.get S1.next=some (.cells [.slice none 0 0,.slice none 0 0,.slice none 0 0] 26 0 true true)∧Agree S S'∧S3.next≤S'.next∧Own 92 S2.next S' (.slice pu3 nu3 cu3) ws∧R150_0 h m ws k=R150_0 h (h.ways.length+1) ((h.ways:List Wy)) 0)
  (fun x t S'=>x=.exit 0∧∃ (ws:List Wy) (k:Nat),t.get 1=some (.pointer (some ⟨S.next,0,none⟩))∧t.get 2=some (.pointer (some ⟨S1.next,0,none⟩))∧t.get 3=some (.slice pu3 nu3 cu3)∧S'.heap.get S.next=some (.cells [v_h_rooms,v_h_doors,v_h_ways] 26 0 true true)∧S'.heap.get S1.next=some (.cells [.slice none 0 0,.slice none 0 0,.slice none 0 0] 26 0 true true)∧Agree S S'∧S3.next≤S'.next∧Own 92 S2.next S' (.slice pu3 nu3 cu3) ws∧ws.length=h.ways.length∧k≤h.ways.length∧R150_0 h (h.ways.length+1) ((h.ways:List Wy)) 0=ws) (h.ways.length+1) (by refine ⟨((h.ways:List Wy)),0,?_,?_,?_,?_,?_,?_,?_,?_,v1_3,v2_3,g3,Nat.le_refl _,oo3,rfl⟩<;>first|(simp only [SY,setArgs,off,agreeKind,partVals,vals,allocV,boxed,ldA,rdCells,oneB,aggD,aField,aFieldV,aExtract,eq_self,ne_eq,if_true,if_false,not_false_eq_true,Nat.reduceAdd,Nat.reduceSub,Nat.reduceMul,Nat.reduceLT,Nat.reduceEqDiff,Nat.reduceBEq,reduceIte,Int.reduceEq,Int.reduceLT,Int.reduceLE,reduceCtorEq]<;>rfl)|omega|assumption|(simp; omega)|simp) (by
   rintro m t S5 ⟨ws,k,hi5_0,hi5_1,hi5_2,g5_1,g5_2,g5_3,g5_9,g5_10,bb5_1,bb5_2,ga5,gn5,ow_ws,hd5⟩
   refine .run fun z he=>?_
   try simp (disch:=first|omega|assumption) only [E0_G,SY,setArgs,off,agreeKind,partVals,vals,allocV,boxed,ldA,rdCells,oneB,aggD,aField,aFieldV,aExtract,eq_self,ne_eq,if_true,if_false,not_false_eq_true,Nat.reduceAdd,Nat.reduceSub,Nat.reduceMul,Nat.reduceLT,Nat.reduceEqDiff,Nat.reduceBEq,reduceIte,Int.reduceEq,Int.reduceLT,Int.reduceLE,reduceCtorEq,TY_EvH38,g5_1,g5_2,g5_3,g5_9,g5_10,bb5_1,bb5_2,w4] at he
   rcases dP ((k:Int)<(((h.ways:List Wy)).length:Int)) with ⟨h6a,h6⟩|⟨h6a,h6⟩
   ·have hx7:ws[k]?=some (lget ws k):=lget_some (by first|omega|simp; omega)
    obtain ⟨id7,of7,cc7,ty7,wr7,ex7,i7,j7,l7,q7,lb7,bk7,oq7⟩:=ow_ws.at4 (P:=Tryz.prog) (t:=24) Tryz.underlying24 tz92 hx7
    have m7_0:cc7[of7]?=some (.int .i64 ((lget ws k).a)):=q7 0 (show 0<5 by decide)
    have m7_1:cc7[of7+1]?=some (.int .i64 ((lget ws k).b)):=q7 1 (show 1<5 by decide)
    have m7_2:cc7[of7+2]?=some (.int .i64 ((lget ws k).secs)):=q7 2 (show 2<5 by decide)
    have m7_3:cc7[of7+3]?=some (.int .i64 ((lget ws k).back)):=q7 3 (show 3<5 by decide)
    have m7_4:cc7[of7+4]?=some (.int .i64 ((lget ws k).door)):=q7 4 (show 4<5 by decide)
    obtain ⟨S8,k8,n8,o8,q8⟩:=ow_ws.put1 (P:=Tryz.prog) hx7 bk7 oq7 3 (.int .i64 (-1)) 4 (⟨(lget ws k).a,(lget ws k).b,(lget ws k).secs,(lget ws k).back,-1⟩:Wy) tz3 rfl rfl (by decide) rfl
    have v1_8:=(q8 S.next (fun e=>(show blkOf (.slice pu3 nu3 cu3)≠some S.next from by first|exact ow_ws.ne (by omega)|exact ow_ws.new (by omega)|assumption) (e ▸ bk7))).trans bb5_1
    have v2_8:=(q8 S1.next (fun e=>(show blkOf (.slice pu3 nu3 cu3)≠some S1.next from by first|exact ow_ws.ne (by omega)|exact ow_ws.new (by omega)|assumption) (e ▸ bk7))).trans bb5_2
    have g8:Agree S S8:=⟨by have:=(ga5).1; omega,fun id hid=>(q8 id (fun e=>(show blkOf (.slice pu3 nu3 cu3)≠some id from ow_ws.ne (by omega)) (e ▸ bk7))).trans ((ga5).2 id hid)⟩
    have w9:IntKind.i64.wrap ((k:Int)+1)=((k+1:Nat):Int):=by rw [IntWalk.i64_in]<;>omega
    try simp (disch:=first|omega|assumption) only [E0_G,SY,setArgs,off,agreeKind,partVals,vals,allocV,boxed,ldA,rdCells,oneB,aggD,aField,aFieldV,aExtract,eq_self,ne_eq,if_true,if_false,not_false_eq_true,Nat.reduceAdd,Nat.reduceSub,Nat.reduceMul,Nat.reduceLT,Nat.reduceEqDiff,Nat.reduceBEq,reduceIte,Int.reduceEq,Int.reduceLT,Int.reduceLE,reduceCtorEq,TY_EvH38,g5_1,g5_2,g5_3,g5_9,g5_10,bb5_1,bb5_2,w4,h6a,i7,j7,m7_0,m7_1,m7_2,m7_3,m7_4,v1_8,v2_8,k8,w9] at he
    obtain ⟨m',rfl⟩:∃ m',m=m'+1:=⟨m - 1,by omega⟩
    have hf:=(show _=(R150_0 h m' (ws.set k (⟨(lget ws k).a,(lget ws k).b,(lget ws k).secs,(lget ws k).back,-1⟩:Wy)) (k+1):(List Wy)) from (if_pos h6).trans (rfl)).symm.trans hd5
    refine .next he m' (by omega) ⟨ws.set k (⟨(lget ws k).a,(lget ws k).b,(lget ws k).secs,(lget ws k).back,-1⟩:Wy),(k+1),?_,?_,?_,?_,?_,?_,?_,?_,v1_8,v2_8,g8,by omega,o8,hf⟩<;>first|(simp only [SY,setArgs,off,agreeKind,partVals,vals,allocV,boxed,ldA,rdCells,oneB,aggD,aField,aFieldV,aExtract,eq_self,ne_eq,if_true,if_false,not_false_eq_true,Nat.reduceAdd,Nat.reduceSub,Nat.reduceMul,Nat.reduceLT,Nat.reduceEqDiff,Nat.reduceBEq,reduceIte,Int.reduceEq,Int.reduceLT,Int.reduceLE,reduceCtorEq,g5_1,g5_2,g5_3,g5_9,g5_10]<;>rfl)|omega|assumption|(simp; omega)|simp
   try simp (disch:=first|omega|assumption) only [E0_G,SY,setArgs,off,agreeKind,partVals,vals,allocV,boxed,ldA,rdCells,oneB,aggD,aField,aFieldV,aExtract,eq_self,ne_eq,if_true,if_false,not_false_eq_true,Nat.reduceAdd,Nat.reduceSub,Nat.reduceMul,Nat.reduceLT,Nat.reduceEqDiff,Nat.reduceBEq,reduceIte,Int.reduceEq,Int.reduceLT,Int.reduceLE,reduceCtorEq,TY_EvH38,g5_1,g5_2,g5_3,g5_9,g5_10,bb5_1,bb5_2,w4,h6a] at he
   obtain ⟨m',rfl⟩:∃ m',m=m'+1:=⟨m - 1,by omega⟩
   have hf:=(show _=(ws:(List Wy)) from (if_neg h6).trans (rfl)).symm.trans hd5
   refine .exit he ⟨rfl,⟨ws,k,?_,?_,?_,bb5_1,bb5_2,ga5,by omega,ow_ws,?_,?_,hf.symm⟩⟩<;>first|(simp only [SY,setArgs,off,agreeKind,partVals,vals,allocV,boxed,ldA,rdCells,oneB,aggD,aField,aFieldV,aExtract,eq_self,ne_eq,if_true,if_false,not_false_eq_true,Nat.reduceAdd,Nat.reduceSub,Nat.reduceMul,Nat.reduceLT,Nat.reduceEqDiff,Nat.reduceBEq,reduceIte,Int.reduceEq,Int.reduceLT,Int.reduceLE,reduceCtorEq,g5_1,g5_2,g5_3,g5_9,g5_10]<;>rfl)|omega|assumption|(simp; omega)|simp)
 obtain ⟨rfl,ws,k,ge5_1,ge5_2,ge5_3,be5_1,be5_2,ge5,gm5,oe_ws5,hj5_0,hj5_1,hR5⟩:=hQ5
 obtain rfl:ws=R150_0 h (h.ways.length+1) ((h.ways:List Wy)) 0:=hR5.symm
 have y11:aBuild Tryz.prog 26 [(0,v_h_rooms),(2,.slice pu3 nu3 cu3)]=some (.agg #[v_h_rooms,.slice none 0 0,.slice pu3 nu3 cu3]):=by obtain ⟨p0_,n0_,c0_,e0_⟩:=(hv_h_rooms).form; rw [e0_]; kernel_rfl
 obtain ⟨S12,k12,n12,b12,q12⟩:=st_at (o:=0) (c':=[v_h_rooms,.slice none 0 0,.slice pu3 nu3 cu3]) (v:=.agg #[v_h_rooms,.slice none 0 0,.slice pu3 nu3 cu3]) tz26 be5_2 (by obtain ⟨p0_,n0_,c0_,e0_⟩:=(hv_h_rooms).form; rw [e0_]; rfl) rfl (show 0+3≤3 by decide) rfl
 have v1_12:=(q12 S.next (by omega)).trans be5_1
 have oe_13:=oe_ws5.frame (by omega) (fun id hid hb=>q12 id (fun e=>(show blkOf (.slice pu3 nu3 cu3)≠some S1.next from by first|exact oe_ws5.ne (by omega)|exact oe_ws5.new (by omega)|assumption) (e ▸ hb)))
 have g12:Agree S S12:=⟨by have:=(ge5).1; omega,fun id hid=>(q12 id (by have:=(ge5).1; omega)).trans ((ge5).2 id hid)⟩
 try simp (disch:=first|omega|assumption) only [E0_G,SY,setArgs,off,agreeKind,partVals,vals,allocV,boxed,ldA,rdCells,oneB,aggD,aField,aFieldV,aExtract,eq_self,ne_eq,if_true,if_false,not_false_eq_true,Nat.reduceAdd,Nat.reduceSub,Nat.reduceMul,Nat.reduceLT,Nat.reduceEqDiff,Nat.reduceBEq,reduceIte,Int.reduceEq,Int.reduceLT,Int.reduceLE,reduceCtorEq,TY_EvH38,w4,ge5_1,ge5_2,ge5_3,be5_1,be5_2,y11,v1_12,k12,b12] at hz
 have hr:r150 h=(⟨h.rooms,[],R150_0 h (h.ways.length+1) ((h.ways:List Wy)) 0⟩:Hs):=rfl
 exact ⟨.slice pu3 nu3 cu3,S12,by first|(rw [hr]; exact hz.symm)|exact hz.symm,g12,by rw [hr]; exact oe_13.low (by omega)⟩
def R120_0 (h:Hs)  : List Wy→List Wy→(List Wy)
 | [],ws=>ws
 | x6 :: l',ws=>R120_0 h l' (ws++([(⟨x6.a,x6.b,x6.secs,x6.back,-1⟩:Wy)]))
def r120 (h:Hs):Hs:=(⟨h.rooms,[],R120_0 h h.ways ([])⟩:Hs)
set_option maxHeartbeats 8000000 in
theorem c120 (h:Hs) (hF:Few h) (S:AS) (v_h_rooms:Value) (hv_h_rooms:LstR S v_h_rooms h.rooms) (v_h_doors:Value) (hv_h_doors:LstR S v_h_doors h.doors) (v_h_ways:Value) (hv_h_ways:Lst S v_h_ways h.ways) :
  ∃ v'0 S',(evL Tryz.prog E0).call 120 #[.agg #[v_h_rooms,v_h_doors,v_h_ways]] S=some (.agg #[v_h_rooms,.slice none 0 0,v'0],S')∧Agree S S'∧Own 92 S.next S' v'0 ((r120 h).ways):=by
 have qr:=hF.r; have qd:=hF.d; have qw:=hF.w
 generalize hz:(evL Tryz.prog E0).call 120 _ _=z
 rw [L_call,evCall_said rfl Tryz.func120 rfl (by decide) Tryz.ntmps120 Tryz.results120] at hz
 obtain ⟨S1,e1,n1,b1,a1⟩:=push_open S (.cells [v_h_rooms,v_h_doors,v_h_ways] 26 0 true true)
 have g1:Agree S S1:=a1
 have s1:E0.same S S1=true:=symEnv_same a1
 obtain ⟨S2,e2,n2,b2,a2⟩:=push_open S1 (.cells [.slice none 0 0,.slice none 0 0,.slice none 0 0] 26 0 true true)
 have v1_2:=(a2.2 S.next (by omega)).trans b1
 have g2:Agree S S2:=g1.trans a2
 have s2:E0.same S1 S2=true:=symEnv_same a2
 have y3:aBuild Tryz.prog 26 [(0,v_h_rooms)]=some (.agg #[v_h_rooms,.slice none 0 0,.slice none 0 0]):=by obtain ⟨p0_,n0_,c0_,e0_⟩:=(hv_h_rooms).form; rw [e0_]; kernel_rfl
 obtain ⟨S4,e4,n4,b4,a4⟩:=push_open S2 (.cells [.slice none 0 0,.slice none 0 0,.slice none 0 0] 26 0 true true)
 have v1_4:=(a4.2 S.next (by omega)).trans v1_2
 have v2_4:=(a4.2 S1.next (by omega)).trans b2
 have g4:Agree S S4:=g2.trans a4
 have s4:E0.same S2 S4=true:=symEnv_same a4
 obtain ⟨S5,k5,n5,b5,q5⟩:=st_at (o:=0) (c':=[v_h_rooms,.slice none 0 0,.slice none 0 0]) (v:=.agg #[v_h_rooms,.slice none 0 0,.slice none 0 0]) tz26 b4 (by obtain ⟨p0_,n0_,c0_,e0_⟩:=(hv_h_rooms).form; rw [e0_]; rfl) rfl (show 0+3≤3 by decide) rfl
 have v1_5:=(q5 S.next (by omega)).trans v1_4
 have v2_5:=(q5 S1.next (by omega)).trans v2_4
 have g5:Agree S S5:=⟨by have:=(g4).1; omega,fun id hid=>(q5 id (by have:=(g4).1; omega)).trans ((g4).2 id hid)⟩
 try simp (disch:=first|omega|assumption) only [E0_G,SY,setArgs,off,agreeKind,partVals,vals,allocV,boxed,ldA,rdCells,oneB,aggD,aField,aFieldV,aExtract,eq_self,ne_eq,if_true,if_false,not_false_eq_true,Nat.reduceAdd,Nat.reduceSub,Nat.reduceMul,Nat.reduceLT,Nat.reduceEqDiff,Nat.reduceBEq,reduceIte,Int.reduceEq,Int.reduceLT,Int.reduceLE,reduceCtorEq,TY_EvH38,s1,e1,b1,v1_2,s2,e2,b2,y3,v1_4,v2_4,s4,e4,b4,v1_5,v2_5,k5,b5] at hz
 generalize hL6:Rec.loop _ _ _ _=L6 at hz
 obtain ⟨x6,t6,S6e,rfl,hQ6⟩:=loop_met hL6 (fun m t S'=>∃ (v_ws:Value) (ws:List Wy) (k:Nat),m+k=h.ways.length∧ws.length=k∧k≤h.ways.length∧t.get 1=some (.pointer (some ⟨S.next,0,none⟩))∧t.get 2=some (.pointer (some ⟨S1.next,0,none⟩))∧t.get 3=some (.pointer (some ⟨S2.next,0,none⟩))∧t.get 4=some (.int .i64 (k:Int))∧S'.heap.get S.next=some (.cells [v_h_rooms,v_h_doors,v_h_ways] 26 0 true true)∧S'.heap.get S1.next=some (.cells [.slice none 0 0,.slice none 0 0,.slice none 0 0] 26 0 true true)∧S'.heap.get S2.next=some (.cells [v_h_rooms,.slice none 0 0,v_ws] 26 0 true true)∧Agree S S'∧S5.next≤S'.next∧Own 92 S5.next S' v_ws ws∧R120_0 h (h.ways.drop k) ws=R120_0 h h.ways ([]))
  (fun x t S'=>x=.exit 0∧∃ (v_ws:Value) (ws:List Wy) (k:Nat),t.get 2=some (.pointer (some ⟨S1.next,0,none⟩))∧t.get 3=some (.pointer (some ⟨S2.next,0,none⟩))∧S'.heap.get S.next=some (.cells [v_h_rooms,v_h_doors,v_h_ways] 26 0 true true)∧S'.heap.get S1.next=some (.cells [.slice none 0 0,.slice none 0 0,.slice none 0 0] 26 0 true true)∧S'.heap.get S2.next=some (.cells [v_h_rooms,.slice none 0 0,v_ws] 26 0 true true)∧Agree S S'∧S5.next≤S'.next∧Own 92 S5.next S' v_ws ws∧ws.length=k∧k≤h.ways.length∧R120_0 h h.ways ([])=ws) (h.ways.length - 0) (by refine ⟨.slice none 0 0,[],0,?_,?_,?_,?_,?_,?_,?_,v1_5,v2_5,b5,g5,Nat.le_refl _,by first|exact Own.nil _ _ _|exact OwnL.nil _ _ _ _ (by decide),rfl⟩<;>first|(simp only [SY,setArgs,off,agreeKind,partVals,vals,allocV,boxed,ldA,rdCells,oneB,aggD,aField,aFieldV,aExtract,eq_self,ne_eq,if_true,if_false,not_false_eq_true,Nat.reduceAdd,Nat.reduceSub,Nat.reduceMul,Nat.reduceLT,Nat.reduceEqDiff,Nat.reduceBEq,reduceIte,Int.reduceEq,Int.reduceLT,Int.reduceLE,reduceCtorEq]<;>rfl)|omega|assumption|(simp; omega)|simp) (by
   rintro m t S6 ⟨v_ws,ws,k,hi6_0,hi6_1,hi6_2,g6_1,g6_2,g6_3,g6_4,bb6_1,bb6_2,bb6_4,ga6,gn6,ow_ws,hd6⟩
   refine .run fun z he=>?_
   have w7:=(hv_h_ways.agree ga6).len (P:=Tryz.prog) (t:=24) Tryz.underlying24
   try simp (disch:=first|omega|assumption) only [E0_G,SY,setArgs,off,agreeKind,partVals,vals,allocV,boxed,ldA,rdCells,oneB,aggD,aField,aFieldV,aExtract,eq_self,ne_eq,if_true,if_false,not_false_eq_true,Nat.reduceAdd,Nat.reduceSub,Nat.reduceMul,Nat.reduceLT,Nat.reduceEqDiff,Nat.reduceBEq,reduceIte,Int.reduceEq,Int.reduceLT,Int.reduceLE,reduceCtorEq,TY_EvH38,g6_1,g6_2,g6_3,g6_4,bb6_1,bb6_2,bb6_4,w7] at he
   rcases dP ((k:Int)<(h.ways.length:Int)) with ⟨h8a,h8⟩|⟨h8a,h8⟩
   ·have hx6:h.ways[k]?=some (h.ways[k]'(by first|omega|simp; omega)):=List.getElem?_eq_getElem _
    generalize h.ways[k]'_=x6 at hx6
    obtain ⟨id9,of9,cc9,ty9,wr9,ex9,i9,j9,l9,q9⟩:=(hv_h_ways).at (P:=Tryz.prog) (t:=24) Tryz.underlying24 tz92 hx6
    have j9:=(ga6.2 id9 l9).trans j9
    have m9_0:cc9[of9]?=some (.int .i64 x6.a):=q9 0 (show 0<5 by decide)
    have m9_1:cc9[of9+1]?=some (.int .i64 x6.b):=q9 1 (show 1<5 by decide)
    have m9_2:cc9[of9+2]?=some (.int .i64 x6.secs):=q9 2 (show 2<5 by decide)
    have m9_3:cc9[of9+3]?=some (.int .i64 x6.back):=q9 3 (show 3<5 by decide)
    have m9_4:cc9[of9+4]?=some (.int .i64 x6.door):=q9 4 (show 4<5 by decide)
    obtain ⟨S10,e10,n10,b10,a10⟩:=push_open S6 (.cells [.int .i64 0,.int .i64 0,.int .i64 0,.int .i64 0,.int .i64 0] 92 0 true true)
    have v1_10:=(a10.2 S.next (by omega)).trans bb6_1
    have v2_10:=(a10.2 S1.next (by omega)).trans bb6_2
    have v4_10:=(a10.2 S2.next (by omega)).trans bb6_4
    have v9_10:=(a10.2 id9 (by omega)).trans j9
    have ow_11:=ow_ws.agree a10
    have g10:Agree S S10:=ga6.trans a10
    have s10:E0.same S6 S10=true:=symEnv_same a10
    have ne12:blkOf (v_ws)≠some S6.next:=ow_ws.new (Nat.le_refl _)
    obtain ⟨S13,k13,n13,b13,q13⟩:=st_at (o:=0) (c':=[.int .i64 x6.a,.int .i64 x6.b,.int .i64 x6.secs,.int .i64 x6.back,.int .i64 x6.door]) (v:=.agg #[.int .i64 x6.a,.int .i64 x6.b,.int .i64 x6.secs,.int .i64 x6.back,.int .i64 x6.door]) tz92 b10 rfl rfl (show 0+5≤5 by decide) rfl
    have v1_13:=(q13 S.next (by omega)).trans v1_10
    have v2_13:=(q13 S1.next (by omega)).trans v2_10
    have v4_13:=(q13 S2.next (by omega)).trans v4_10
    have v9_13:=(q13 id9 (by omega)).trans v9_10
    have ow_14:=ow_11.frame (by omega) (fun id hid hb=>q13 id (fun e=>(show blkOf (v_ws)≠some S6.next from by first|exact ow_11.ne (by omega)|exact ow_11.new (by omega)|assumption) (e ▸ hb)))
    have g13:Agree S S13:=⟨by have:=(g10).1; omega,fun id hid=>(q13 id (by have:=(g10).1; omega)).trans ((g10).2 id hid)⟩
    obtain ⟨S15,k15,n15,b15,q15⟩:=st_at (o:=4) (c':=[.int .i64 x6.a,.int .i64 x6.b,.int .i64 x6.secs,.int .i64 x6.back,.int .i64 (-1)]) (v:=.int .i64 (-1)) tz3 b13 rfl rfl (show 4+1≤5 by decide) rfl
    have v1_15:=(q15 S.next (by omega)).trans v1_13
    have v2_15:=(q15 S1.next (by omega)).trans v2_13
    have v4_15:=(q15 S2.next (by omega)).trans v4_13
    have v9_15:=(q15 id9 (by omega)).trans v9_13
    have ow_16:=ow_14.frame (by omega) (fun id hid hb=>q15 id (fun e=>(show blkOf (v_ws)≠some S6.next from by first|exact ow_14.ne (by omega)|exact ow_14.new (by omega)|assumption) (e ▸ hb)))
    have g15:Agree S S15:=⟨by have:=(g13).1; omega,fun id hid=>(q15 id (by have:=(g13).1; omega)).trans ((g13).2 id hid)⟩
    have y17:aBuildSlice Tryz.prog 24 1 [(0,.agg #[.int .i64 x6.a,.int .i64 x6.b,.int .i64 x6.secs,.int .i64 x6.back,.int .i64 (-1)])] S15=some (.slice (some ⟨S15.next,0,none⟩) 1 1,S15.push (.cells [.int .i64 x6.a,.int .i64 x6.b,.int .i64 x6.secs,.int .i64 x6.back,.int .i64 (-1)] 92 5 true true)):=by kernel_rfl
    obtain ⟨S18,e18,n18,b18,a18⟩:=push_open S15 (.cells [.int .i64 x6.a,.int .i64 x6.b,.int .i64 x6.secs,.int .i64 x6.back,.int .i64 (-1)] 92 5 true true)
    have v1_18:=(a18.2 S.next (by omega)).trans v1_15
    have v2_18:=(a18.2 S1.next (by omega)).trans v2_15
    have v4_18:=(a18.2 S2.next (by omega)).trans v4_15
    have v9_18:=(a18.2 id9 (by omega)).trans v9_15
    have v10_18:=(a18.2 S6.next (by omega)).trans b15
    have ow_19:=ow_16.agree a18
    have g18:Agree S S18:=g15.trans a18
    have s18:E0.same S15 S18=true:=symEnv_same a18
    have ne20:blkOf (v_ws)≠some S15.next:=ow_16.new (Nat.le_refl _)
    have o21:Own 92 S15.next S18 (.slice (some ⟨S15.next,0,none⟩) 1 1) ([(⟨x6.a,x6.b,x6.secs,x6.back,-1⟩:Wy)]:List Wy):=.inr ⟨_,true,rfl,Nat.le_refl _,by omega,b18⟩
    have ap22:∀ b,blkOf (v_ws)=some b→blkOf (.slice (some ⟨S15.next,0,none⟩) 1 1)≠some b:=fun b hb=>o21.ne (Nat.lt_of_lt_of_le (ow_16.lt hb) (by omega))
    obtain ⟨u23,S23,k23,o23,n23,f23,d23⟩:=own_append (P:=Tryz.prog) (t:=24) (tx:=24) (n:=4) (v:=v_ws) ow_19 (o21.rows) (by omega) (by first|omega|(simp; omega)|simp) (by first|omega|(simp; omega)|simp) Tryz.underlying24 Tryz.underlying24 ti92 tv92 rfl tz92
    obtain ⟨pu23,nu23,cu23,rfl⟩:=own_slice o23
    have v1_23:=(f23 S.next (by omega) (by first|(simp [blkOf]; done)|exact ow_19.ne (by omega)|exact ow_19.new (by omega)|assumption)).trans v1_18
    have v2_23:=(f23 S1.next (by omega) (by first|(simp [blkOf]; done)|exact ow_19.ne (by omega)|exact ow_19.new (by omega)|assumption)).trans v2_18
    have v4_23:=(f23 S2.next (by omega) (by first|(simp [blkOf]; done)|exact ow_19.ne (by omega)|exact ow_19.new (by omega)|assumption)).trans v4_18
    have v10_23:=(f23 S6.next (by omega) (by first|(simp [blkOf]; done)|exact ow_19.ne (by omega)|exact ow_19.new (by omega)|assumption)).trans v10_18
    have apo21_24:∀ b,blkOf (.slice (some ⟨S15.next,0,none⟩) 1 1)=some b→blkOf (.slice pu23 nu23 cu23)≠some b:=fun b hb=>d23 b (o21.lt hb) ((fun b h1 h2=>ap22 b h2 h1) b hb)
    have o21_24:=o21.frame n23 (fun id hid hb=>f23 id hid ((fun b h1 h2=>ap22 b h2 h1) id hb))
    have g23:Agree S S23:=⟨Nat.le_trans (g18).1 n23,fun id hid=>(f23 id (by have:=(g18).1; omega) (by first|(simp [blkOf]; done)|exact ow_19.ne (by omega)|assumption)).trans ((g18).2 id hid)⟩
    have ne25:blkOf (.slice pu23 nu23 cu23)≠some S.next:=by first|exact o23.ne (by omega)|exact o23.new (by omega)|exact d23 _ (by omega) (by first|(simp [blkOf]; done)|exact ow_19.ne (by omega)|exact ow_19.new (by omega)|assumption)
    have ne26:blkOf (.slice pu23 nu23 cu23)≠some S1.next:=by first|exact o23.ne (by omega)|exact o23.new (by omega)|exact d23 _ (by omega) (by first|(simp [blkOf]; done)|exact ow_19.ne (by omega)|exact ow_19.new (by omega)|assumption)
    have ne27:blkOf (.slice pu23 nu23 cu23)≠some S2.next:=by first|exact o23.ne (by omega)|exact o23.new (by omega)|exact d23 _ (by omega) (by first|(simp [blkOf]; done)|exact ow_19.ne (by omega)|exact ow_19.new (by omega)|assumption)
    have ne28:blkOf (.slice pu23 nu23 cu23)≠some S6.next:=by first|exact o23.ne (by omega)|exact o23.new (by omega)|exact d23 _ (by omega) (by first|(simp [blkOf]; done)|exact ow_19.ne (by omega)|exact ow_19.new (by omega)|assumption)
    obtain ⟨S29,k29,n29,b29,q29⟩:=st_at (o:=2) (c':=[v_h_rooms,.slice none 0 0,.slice pu23 nu23 cu23]) (v:=.slice pu23 nu23 cu23) tz24 v4_23 rfl rfl (show 2+1≤3 by decide) rfl
    have v1_29:=(q29 S.next (by omega)).trans v1_23
    have v2_29:=(q29 S1.next (by omega)).trans v2_23
    have v10_29:=(q29 S6.next (by omega)).trans v10_23
    have o21_30:=o21_24.frame (by omega) (fun id hid hb=>q29 id (fun e=>(show blkOf (.slice (some ⟨S15.next,0,none⟩) 1 1)≠some S2.next from by first|exact o21_24.ne (by omega)|exact o21_24.new (by omega)|assumption) (e ▸ hb)))
    have o23_31:=o23.frame (by omega) (fun id hid hb=>q29 id (fun e=>(show blkOf (.slice pu23 nu23 cu23)≠some S2.next from by first|exact o23.ne (by omega)|exact o23.new (by omega)|assumption) (e ▸ hb)))
    have g29:Agree S S29:=⟨by have:=(g23).1; omega,fun id hid=>(q29 id (by have:=(g23).1; omega)).trans ((g23).2 id hid)⟩
    have w32:IntKind.i64.wrap ((k:Int)+1)=((k+1:Nat):Int):=by rw [IntWalk.i64_in]<;>omega
    try simp (disch:=first|omega|assumption) only [E0_G,SY,setArgs,off,agreeKind,partVals,vals,allocV,boxed,ldA,rdCells,oneB,aggD,aField,aFieldV,aExtract,eq_self,ne_eq,if_true,if_false,not_false_eq_true,Nat.reduceAdd,Nat.reduceSub,Nat.reduceMul,Nat.reduceLT,Nat.reduceEqDiff,Nat.reduceBEq,reduceIte,Int.reduceEq,Int.reduceLT,Int.reduceLE,reduceCtorEq,TY_EvH38,g6_1,g6_2,g6_3,g6_4,bb6_1,bb6_2,bb6_4,w7,h8a,i9,j9,m9_0,m9_1,m9_2,m9_3,m9_4,v1_10,v2_10,v4_10,v9_10,s10,e10,b10,v1_13,v2_13,v4_13,v9_13,k13,b13,v1_15,v2_15,v4_15,v9_15,k15,b15,y17,v1_18,v2_18,v4_18,v9_18,v10_18,s18,e18,b18,v1_23,v2_23,v4_23,v10_23,k23,v1_29,v2_29,v10_29,k29,b29,w32] at he
    rw [drop_cons' hx6] at hd6
    have hf:=(show _=(R120_0 h (h.ways.drop (k+1)) (ws++([(⟨x6.a,x6.b,x6.secs,x6.back,-1⟩:Wy)])):(List Wy)) from rfl).symm.trans hd6
    refine .next he (m - 1) (by omega) ⟨.slice pu23 nu23 cu23,ws++([(⟨x6.a,x6.b,x6.secs,x6.back,-1⟩:Wy)]),(k+1),?_,?_,?_,?_,?_,?_,?_,v1_29,v2_29,b29,g29,by omega,(o23_31.low (by omega)),hf⟩<;>first|(simp only [SY,setArgs,off,agreeKind,partVals,vals,allocV,boxed,ldA,rdCells,oneB,aggD,aField,aFieldV,aExtract,eq_self,ne_eq,if_true,if_false,not_false_eq_true,Nat.reduceAdd,Nat.reduceSub,Nat.reduceMul,Nat.reduceLT,Nat.reduceEqDiff,Nat.reduceBEq,reduceIte,Int.reduceEq,Int.reduceLT,Int.reduceLE,reduceCtorEq,g6_1,g6_2,g6_3,g6_4]<;>rfl)|omega|assumption|(simp; omega)|simp
   try simp (disch:=first|omega|assumption) only [E0_G,SY,setArgs,off,agreeKind,partVals,vals,allocV,boxed,ldA,rdCells,oneB,aggD,aField,aFieldV,aExtract,eq_self,ne_eq,if_true,if_false,not_false_eq_true,Nat.reduceAdd,Nat.reduceSub,Nat.reduceMul,Nat.reduceLT,Nat.reduceEqDiff,Nat.reduceBEq,reduceIte,Int.reduceEq,Int.reduceLT,Int.reduceLE,reduceCtorEq,TY_EvH38,g6_1,g6_2,g6_3,g6_4,bb6_1,bb6_2,bb6_4,w7,h8a] at he
   rw [List.drop_eq_nil_of_le (show h.ways.length≤k by omega)] at hd6
   have hf:=(show _=(ws:(List Wy)) from rfl).symm.trans hd6
   refine .exit he ⟨rfl,⟨v_ws,ws,k,?_,?_,bb6_1,bb6_2,bb6_4,ga6,by omega,(ow_ws.low (by omega)),?_,?_,hf.symm⟩⟩<;>first|(simp only [SY,setArgs,off,agreeKind,partVals,vals,allocV,boxed,ldA,rdCells,oneB,aggD,aField,aFieldV,aExtract,eq_self,ne_eq,if_true,if_false,not_false_eq_true,Nat.reduceAdd,Nat.reduceSub,Nat.reduceMul,Nat.reduceLT,Nat.reduceEqDiff,Nat.reduceBEq,reduceIte,Int.reduceEq,Int.reduceLT,Int.reduceLE,reduceCtorEq,g6_1,g6_2,g6_3,g6_4]<;>rfl)|omega|assumption|(simp; omega)|simp)
 obtain ⟨rfl,v_ws,ws,k,ge6_2,ge6_3,be6_1,be6_2,be6_4,ge6,gm6,oe_ws6,hj6_0,hj6_1,hR6⟩:=hQ6
 obtain rfl:ws=R120_0 h h.ways ([]):=hR6.symm
 obtain ⟨S34,k34,n34,b34,q34⟩:=st_at (o:=0) (c':=[v_h_rooms,.slice none 0 0,v_ws]) (v:=.agg #[v_h_rooms,.slice none 0 0,v_ws]) tz26 be6_2 (by obtain ⟨p0_,n0_,c0_,e0_⟩:=(hv_h_rooms).form; rw [e0_]; obtain ⟨p1_,n1_,c1_,e1_⟩:=(oe_ws6.rows).form; rw [e1_]; rfl) rfl (show 0+3≤3 by decide) rfl
 have v1_34:=(q34 S.next (by omega)).trans be6_1
 have v4_34:=(q34 S2.next (by omega)).trans be6_4
 have oe_35:=oe_ws6.frame (by omega) (fun id hid hb=>q34 id (fun e=>(show blkOf (v_ws)≠some S1.next from by first|exact oe_ws6.ne (by omega)|exact oe_ws6.new (by omega)|assumption) (e ▸ hb)))
 have g34:Agree S S34:=⟨by have:=(ge6).1; omega,fun id hid=>(q34 id (by have:=(ge6).1; omega)).trans ((ge6).2 id hid)⟩
 try simp (disch:=first|omega|assumption) only [E0_G,SY,setArgs,off,agreeKind,partVals,vals,allocV,boxed,ldA,rdCells,oneB,aggD,aField,aFieldV,aExtract,eq_self,ne_eq,if_true,if_false,not_false_eq_true,Nat.reduceAdd,Nat.reduceSub,Nat.reduceMul,Nat.reduceLT,Nat.reduceEqDiff,Nat.reduceBEq,reduceIte,Int.reduceEq,Int.reduceLT,Int.reduceLE,reduceCtorEq,TY_EvH38,ge6_2,ge6_3,be6_1,be6_2,be6_4,v1_34,v4_34,k34,b34] at hz
 have hr:r120 h=(⟨h.rooms,[],R120_0 h h.ways ([])⟩:Hs):=rfl
 exact ⟨v_ws,S34,by first|(rw [hr]; exact hz.symm)|exact hz.symm,g34,by rw [hr]; exact oe_35.low (by omega)⟩
end House
end Go.Proofs
