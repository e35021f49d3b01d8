import Derived.Test.YtohfdkdjfoonjaaGreatDoorEvM21
import Derived.Test.YtohfdkdjfoonjaaGreatDoorBAC
import Derived.Test.YtohfdkdjfoonjaaGreatDoorAE7
set_option linter.unusedSimpArgs false
set_option linter.unusedVariables false
namespace Go.Proofs
namespace House
open Go Go.RowKit Go.Aev
set_option maxRecDepth 100000
theorem TY_EvH38:type_of% TY_EvH28:=TY_EvH28
set_option maxHeartbeats 2000000 in
theorem c154 (l:List Wy) (hl:l.length≤65536) (S:AS) (v_l:Value) (hv_l:Lst S v_l l) :
  ∃ v' S',(evL Tryz.prog E0).call 154 #[v_l] S=some (v',S')∧Agree S S'∧Own 92 S.next S' v' (l):=by
 generalize hz:(evL Tryz.prog E0).call 154 _ _=z
 rw [L_call,evCall_said rfl Tryz.func154 rfl (by decide) Tryz.ntmps154 Tryz.results154] at hz
 have yb1:=fun dst ty pos after g f S=>bin_eqlSl (P:=Tryz.prog) (E:=E0) (r:=evL Tryz.prog E0) dst ty pos after g f S (hv_l).form
 have yc1:=fun S=>slEq_lst (hv_l) 92 S
 try simp (disch:=first|omega|assumption) only [E0_G,SY,setArgs,off,agreeKind,partVals,vals,allocV,boxed,ldA,rdCells,oneB,aggD,aField,aFieldV,aExtract,eq_self,ne_eq,if_true,if_false,not_false_eq_true,Nat.reduceAdd,Nat.reduceSub,Nat.reduceMul,Nat.reduceLT,Nat.reduceEqDiff,Nat.reduceBEq,reduceIte,Int.reduceEq,Int.reduceLT,Int.reduceLE,reduceCtorEq,TY_EvH38,yb1,yc1,opB_eql,opC_eql,strEq_sl,firstOf_none,firstOf_some] at hz
 rcases dB (nilB v_l) with ⟨h2a,h2⟩|⟨h2a,h2⟩
 ·try simp (disch:=first|omega|assumption) only [E0_G,SY,setArgs,off,agreeKind,partVals,vals,allocV,boxed,ldA,rdCells,oneB,aggD,aField,aFieldV,aExtract,eq_self,ne_eq,if_true,if_false,not_false_eq_true,Nat.reduceAdd,Nat.reduceSub,Nat.reduceMul,Nat.reduceLT,Nat.reduceEqDiff,Nat.reduceBEq,reduceIte,Int.reduceEq,Int.reduceLT,Int.reduceLE,reduceCtorEq,TY_EvH38,yb1,yc1,opB_eql,opC_eql,strEq_sl,firstOf_none,firstOf_some,h2a] at hz
  have hr:l=[]:=nilB_nil hv_l h2
  exact ⟨.slice none 0 0,S,by first|(rw [hr]; exact hz.symm)|exact hz.symm,(Agree.refl S),by rw [hr]; exact by first|exact Own.nil _ _ _|exact OwnL.nil _ _ _ _ (by decide)⟩
 have y3:aBuildSlice Tryz.prog 24 0 [] S=some (.slice (some ⟨S.next,0,none⟩) 0 0,S.push (.cells [] 92 5 true true)):=by kernel_rfl
 obtain ⟨S4,e4,n4,b4,a4⟩:=push_open S (.cells [] 92 5 true true)
 have g4:Agree S S4:=a4
 have s4:E0.same S S4=true:=symEnv_same a4
 have o5:Own 92 S.next S4 (.slice (some ⟨S.next,0,none⟩) 0 0) ([]:List Wy):=.inr ⟨_,true,rfl,Nat.le_refl _,by omega,b4⟩
 obtain ⟨u6,S6,k6,o6,n6,f6,d6⟩:=own_append (P:=Tryz.prog) (t:=24) (tx:=24) (n:=4) (v:=.slice (some ⟨S.next,0,none⟩) 0 0) o5 (hv_l.agree g4) (by omega) (by first|omega|(simp; omega)|simp) (by first|omega|(simp; omega)|simp) Tryz.underlying24 Tryz.underlying24 ti92 tv92 rfl tz92
 obtain ⟨pu6,nu6,cu6,rfl⟩:=own_slice o6
 have g6:Agree S S6:=⟨Nat.le_trans (g4).1 n6,fun id hid=>(f6 id (by have:=(g4).1; omega) (by first|(simp [blkOf]; done)|exact o5.ne (by omega)|assumption)).trans ((g4).2 id hid)⟩
 try simp (disch:=first|omega|assumption) only [E0_G,SY,setArgs,off,agreeKind,partVals,vals,allocV,boxed,ldA,rdCells,oneB,aggD,aField,aFieldV,aExtract,eq_self,ne_eq,if_true,if_false,not_false_eq_true,Nat.reduceAdd,Nat.reduceSub,Nat.reduceMul,Nat.reduceLT,Nat.reduceEqDiff,Nat.reduceBEq,reduceIte,Int.reduceEq,Int.reduceLT,Int.reduceLE,reduceCtorEq,TY_EvH38,yb1,yc1,opB_eql,opC_eql,strEq_sl,firstOf_none,firstOf_some,h2a,y3,s4,e4,b4,k6] at hz
 have hr:l=([])++l:=by simp
 exact ⟨.slice pu6 nu6 cu6,S6,by first|(rw [hr]; exact hz.symm)|exact hz.symm,g6,by rw [hr]; exact o6.low (by omega)⟩
end House
end Go.Proofs
