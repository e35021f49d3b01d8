import Derived.Test.YtohfdkdjfoonjaaGreatDoorEvH0
set_option linter.unusedSimpArgs false
set_option linter.unusedVariables false
namespace Go.Proofs
namespace House
open Go Go.RowKit Go.Aev
set_option maxRecDepth 100000
theorem tz3:szOf Tryz.prog 3=some 1:=by kernel_rfl
theorem tt3:inTab Tryz.prog 3=true:=by kernel_rfl
theorem t0_3:zeroOf Tryz.prog 3=some (.int .i64 0):=by kernel_rfl
theorem tz9:szOf Tryz.prog 9=some 1:=by kernel_rfl
theorem tt9:inTab Tryz.prog 9=true:=by kernel_rfl
theorem t0_9:zeroOf Tryz.prog 9=some (.string (⟨#[]⟩)):=by kernel_rfl
theorem tz22:szOf Tryz.prog 22=some 1:=by kernel_rfl
theorem tt22:inTab Tryz.prog 22=true:=by kernel_rfl
theorem t0_22:zeroOf Tryz.prog 22=some (.slice none 0 0):=by kernel_rfl
theorem tz23:szOf Tryz.prog 23=some 1:=by kernel_rfl
theorem tt23:inTab Tryz.prog 23=true:=by kernel_rfl
theorem t0_23:zeroOf Tryz.prog 23=some (.slice none 0 0):=by kernel_rfl
theorem tz24:szOf Tryz.prog 24=some 1:=by kernel_rfl
theorem tt24:inTab Tryz.prog 24=true:=by kernel_rfl
theorem t0_24:zeroOf Tryz.prog 24=some (.slice none 0 0):=by kernel_rfl
theorem tz25:szOf Tryz.prog 25=some 3:=by kernel_rfl
theorem tt25:inTab Tryz.prog 25=true:=by kernel_rfl
theorem t0_25:zeroOf Tryz.prog 25=some (.agg #[.slice none 0 0,.slice none 0 0,.slice none 0 0]):=by kernel_rfl
theorem tz26:szOf Tryz.prog 26=some 3:=by kernel_rfl
theorem tt26:inTab Tryz.prog 26=true:=by kernel_rfl
theorem t0_26:zeroOf Tryz.prog 26=some (.agg #[.slice none 0 0,.slice none 0 0,.slice none 0 0]):=by kernel_rfl
theorem tz35:szOf Tryz.prog 35=some 2:=by kernel_rfl
theorem tt35:inTab Tryz.prog 35=true:=by kernel_rfl
theorem t0_35:zeroOf Tryz.prog 35=some (.agg #[.int .i64 0,.int .i64 0]):=by kernel_rfl
theorem tz36:szOf Tryz.prog 36=some 2:=by kernel_rfl
theorem tt36:inTab Tryz.prog 36=true:=by kernel_rfl
theorem t0_36:zeroOf Tryz.prog 36=some (.agg #[.int .i64 0,.int .i64 0]):=by kernel_rfl
theorem ti36:(Tryz.prog.info? 36).map (fun i=>Nat.ble i.bytes 65536)=some true:=by kernel_rfl
theorem tv36:(zeroOf Tryz.prog 36).isSome=true:=by kernel_rfl
theorem tz40:szOf Tryz.prog 40=some 1:=by kernel_rfl
theorem tt40:inTab Tryz.prog 40=true:=by kernel_rfl
theorem t0_40:zeroOf Tryz.prog 40=some (.slice none 0 0):=by kernel_rfl
theorem tz97:szOf Tryz.prog 97=some 2:=by kernel_rfl
theorem tt97:inTab Tryz.prog 97=true:=by kernel_rfl
theorem t0_97:zeroOf Tryz.prog 97=some (.agg #[.slice none 0 0,.slice none 0 0]):=by kernel_rfl
theorem tz98:szOf Tryz.prog 98=some 2:=by kernel_rfl
theorem tt98:inTab Tryz.prog 98=true:=by kernel_rfl
theorem t0_98:zeroOf Tryz.prog 98=some (.agg #[.slice none 0 0,.slice none 0 0]):=by kernel_rfl
theorem ti98:(Tryz.prog.info? 98).map (fun i=>Nat.ble i.bytes 65536)=some true:=by kernel_rfl
theorem tv98:(zeroOf Tryz.prog 98).isSome=true:=by kernel_rfl
theorem TY_EvH1:type_of% (And.intro (And.intro (And.intro (And.intro (And.intro Tryz.underlying3 (And.intro tz3 tt3)) (And.intro t0_3 (And.intro Tryz.underlying9 tz9))) (And.intro (And.intro tt9 (And.intro t0_9 Tryz.underlying22)) (And.intro tz22 (And.intro tt22 t0_22)))) (And.intro (And.intro (And.intro Tryz.underlying23 (And.intro tz23 tt23)) (And.intro t0_23 (And.intro Tryz.underlying24 tz24))) (And.intro (And.intro tt24 (And.intro t0_24 Tryz.underlying25)) (And.intro tz25 (And.intro tt25 t0_25))))) (And.intro (And.intro (And.intro (And.intro Tryz.underlying26 (And.intro tz26 tt26)) (And.intro t0_26 (And.intro Tryz.underlying35 tz35))) (And.intro (And.intro tt35 (And.intro t0_35 Tryz.underlying36)) (And.intro tz36 (And.intro tt36 t0_36)))) (And.intro (And.intro (And.intro Tryz.underlying40 (And.intro tz40 tt40)) (And.intro t0_40 (And.intro Tryz.underlying97 tz97))) (And.intro (And.intro tt97 (And.intro t0_97 Tryz.underlying98)) (And.intro tz98 (And.intro tt98 t0_98)))))):=(And.intro (And.intro (And.intro (And.intro (And.intro Tryz.underlying3 (And.intro tz3 tt3)) (And.intro t0_3 (And.intro Tryz.underlying9 tz9))) (And.intro (And.intro tt9 (And.intro t0_9 Tryz.underlying22)) (And.intro tz22 (And.intro tt22 t0_22)))) (And.intro (And.intro (And.intro Tryz.underlying23 (And.intro tz23 tt23)) (And.intro t0_23 (And.intro Tryz.underlying24 tz24))) (And.intro (And.intro tt24 (And.intro t0_24 Tryz.underlying25)) (And.intro tz25 (And.intro tt25 t0_25))))) (And.intro (And.intro (And.intro (And.intro Tryz.underlying26 (And.intro tz26 tt26)) (And.intro t0_26 (And.intro Tryz.underlying35 tz35))) (And.intro (And.intro tt35 (And.intro t0_35 Tryz.underlying36)) (And.intro tz36 (And.intro tt36 t0_36)))) (And.intro (And.intro (And.intro Tryz.underlying40 (And.intro tz40 tt40)) (And.intro t0_40 (And.intro Tryz.underlying97 tz97))) (And.intro (And.intro tt97 (And.intro t0_97 Tryz.underlying98)) (And.intro tz98 (And.intro tt98 t0_98))))))
def r71 (n:Int) (lo:Int) (hi:Int):Bool:=(if lo≤n then decide (n≤hi) else false)
set_option maxHeartbeats 2000000 in
theorem c71 (n:Int) (lo:Int) (hi:Int)  (S:AS)  :
  ∃ S',(evL Tryz.prog E0).call 71 #[.int .i64 n,.int .i64 lo,.int .i64 hi] S=some (.bool (r71 n lo hi),S')∧Agree S S':=by
 generalize hz:(evL Tryz.prog E0).call 71 _ _=z
 rw [L_call,evCall_said rfl Tryz.func71 rfl (by decide) Tryz.ntmps71 Tryz.results71] at hz
 try simp only [E0_G,SY,setArgs,off,agreeKind,Nat.reduceAdd,Nat.reduceSub,Nat.reduceLT,Nat.reduceBEq,] at hz
 rcases dP (lo≤n) with ⟨h1a,h1⟩|⟨h1a,h1⟩
 ·try simp only [E0_G,SY,off,agreeKind,Nat.reduceAdd,Nat.reduceLT,Nat.reduceBEq,h1a] at hz
  have hr:r71 n lo hi=decide (n≤hi):=(if_pos h1).trans (rfl)
  exact fin hz (by rw [hr]) (Agree.refl S)
 try simp only [E0_G,SY,off,agreeKind,Nat.reduceAdd,Nat.reduceLT,Nat.reduceBEq,h1a] at hz
 have hr:r71 n lo hi=false:=(if_neg h1).trans (rfl)
 exact fin hz (by rw [hr]) (Agree.refl S)
def r135 (n:Int) (m:Int):Bool:=(if 0≤n then decide (n<m) else false)
set_option maxHeartbeats 2000000 in
theorem c135 (n:Int) (m:Int)  (S:AS)  :
  ∃ S',(evL Tryz.prog E0).call 135 #[.int .i64 n,.int .i64 m] S=some (.bool (r135 n m),S')∧Agree S S':=by
 generalize hz:(evL Tryz.prog E0).call 135 _ _=z
 rw [L_call,evCall_said rfl Tryz.func135 rfl (by decide) Tryz.ntmps135 Tryz.results135] at hz
 try simp only [E0_G,SY,setArgs,off,agreeKind,Nat.reduceAdd,Nat.reduceSub,Nat.reduceLT,Nat.reduceBEq,] at hz
 rcases dP (0≤n) with ⟨h1a,h1⟩|⟨h1a,h1⟩
 ·try simp only [E0_G,SY,off,agreeKind,Nat.reduceAdd,Nat.reduceLT,Nat.reduceBEq,h1a] at hz
  have hr:r135 n m=decide (n<m):=(if_pos h1).trans (rfl)
  exact fin hz (by rw [hr]) (Agree.refl S)
 try simp only [E0_G,SY,off,agreeKind,Nat.reduceAdd,Nat.reduceLT,Nat.reduceBEq,h1a] at hz
 have hr:r135 n m=false:=(if_neg h1).trans (rfl)
 exact fin hz (by rw [hr]) (Agree.refl S)
def r88 (t:Int):Bool:=(if 0≤t then decide (t≤1073741823) else false)
def r133 (lo hi:Int) (n:Int):Bool:=(if lo≤n then decide (n≤hi) else false)
set_option maxHeartbeats 2000000 in
theorem c133 (lo hi:Int) (n:Int)  (S:AS)  :
  ∃ S',(evL Tryz.prog E0).call 133 #[.agg #[.int .i64 lo,.int .i64 hi],.int .i64 n] S=some (.bool (r133 lo hi n),S')∧Agree S S':=by
 generalize hz:(evL Tryz.prog E0).call 133 _ _=z
 rw [L_call,evCall_said rfl Tryz.func133 rfl (by decide) Tryz.ntmps133 Tryz.results133] at hz
 obtain ⟨S1,e1,n1,b1,a1⟩:=push_open S (.cells [.int .i64 lo,.int .i64 hi] 36 0 true true)
 have g1:Agree S S1:=a1
 try simp (disch:=first|omega|assumption) only [E0_G,SY,setArgs,off,agreeKind,boxed,ldA,aggD,aField,Nat.reduceAdd,Nat.reduceSub,Nat.reduceLT,Nat.reduceBEq,TY_EvH1,e1,b1] at hz
 rcases dP (lo≤n) with ⟨h2a,h2⟩|⟨h2a,h2⟩
 ·try simp (disch:=first|omega|assumption) only [E0_G,SY,off,agreeKind,ldA,aggD,aField,Nat.reduceAdd,Nat.reduceLT,Nat.reduceBEq,TY_EvH1,b1,h2a] at hz
  have hr:r133 lo hi n=decide (n≤hi):=(if_pos h2).trans (rfl)
  exact fin hz (by rw [hr]) g1
 try simp only [E0_G,SY,off,agreeKind,Nat.reduceAdd,Nat.reduceLT,Nat.reduceBEq,h2a] at hz
 have hr:r133 lo hi n=false:=(if_neg h2).trans (rfl)
 exact fin hz (by rw [hr]) g1
def r141 (a b:Int) (c d:Int):(Int × Int):=(max a c,min b d)
set_option maxHeartbeats 2000000 in
theorem c141 (a b:Int) (c d:Int)  (S:AS)  :
  ∃ S',(evL Tryz.prog E0).call 141 #[.agg #[.int .i64 a,.int .i64 b],.agg #[.int .i64 c,.int .i64 d]] S=some (.agg #[.int .i64 ((r141 a b c d).1),.int .i64 ((r141 a b c d).2)],S')∧Agree S S':=by
 generalize hz:(evL Tryz.prog E0).call 141 _ _=z
 rw [L_call,evCall_said rfl Tryz.func141 rfl (by decide) Tryz.ntmps141 Tryz.results141] at hz
 obtain ⟨S1,e1,n1,b1,a1⟩:=push_open S (.cells [.int .i64 a,.int .i64 b] 36 0 true true)
 have g1:Agree S S1:=a1
 obtain ⟨S2,e2,n2,b2,a2⟩:=push_open S1 (.cells [.int .i64 c,.int .i64 d] 36 0 true true)
 have v1_2:=(a2.2 S.next (by omega)).trans b1
 have g2:Agree S S2:=g1.trans a2
 obtain ⟨S3,e3,n3,b3,a3⟩:=push_open S2 (.cells [.int .i64 0,.int .i64 0] 36 0 true true)
 have v1_3:=(a3.2 S.next (by omega)).trans v1_2
 have v2_3:=(a3.2 S1.next (by omega)).trans b2
 have g3:Agree S S3:=g2.trans a3
 have y4:aBuild Tryz.prog 36 [(0,.int .i64 (max a c)),(1,.int .i64 (min b d))]=some (.agg #[.int .i64 (max a c),.int .i64 (min b d)]):=by kernel_rfl
 obtain ⟨S5,k5,n5,b5,q5⟩:=st_at (o:=0) (c':=[.int .i64 (max a c),.int .i64 (min b d)]) (v:=.agg #[.int .i64 (max a c),.int .i64 (min b d)]) tz36 b3 rfl rfl (show 0+2≤2 by decide) rfl
 have g5:Agree S S5:=⟨by have:=(g3).1; omega,fun id hid=>(q5 id (by have:=(g3).1; omega)).trans ((g3).2 id hid)⟩
 try simp (disch:=first|omega|assumption) only [E0_G,SY,setArgs,off,agreeKind,partVals,allocV,boxed,ldA,rdCells,aggD,aField,Nat.reduceAdd,Nat.reduceSub,Nat.reduceLT,Nat.reduceBEq,TY_EvH1,e1,e2,v1_3,v2_3,e3,y4,k5,b5] at hz
 have hr:r141 a b c d=(max a c,min b d):=rfl
 exact fin hz (by rw [hr]) g5
def r139 (a b:Int) (c d:Int):Bool:=(if a≤b then decide (((r141 a b c d)).1=a∧((r141 a b c d)).2=b) else false)
set_option maxHeartbeats 2000000 in
theorem c139 (a b:Int) (c d:Int)  (S:AS)  :
  ∃ S',(evL Tryz.prog E0).call 139 #[.agg #[.int .i64 a,.int .i64 b],.agg #[.int .i64 c,.int .i64 d]] S=some (.bool (r139 a b c d),S')∧Agree S S':=by
 generalize hz:(evL Tryz.prog E0).call 139 _ _=z
 rw [L_call,evCall_said rfl Tryz.func139 rfl (by decide) Tryz.ntmps139 Tryz.results139] at hz
 obtain ⟨S1,e1,n1,b1,a1⟩:=push_open S (.cells [.int .i64 a,.int .i64 b] 36 0 true true)
 have g1:Agree S S1:=a1
 have s1:E0.same S S1=true:=symEnv_same a1
 obtain ⟨S2,e2,n2,b2,a2⟩:=push_open S1 (.cells [.int .i64 c,.int .i64 d] 36 0 true true)
 have v1_2:=(a2.2 S.next (by omega)).trans b1
 have g2:Agree S S2:=g1.trans a2
 have s2:E0.same S1 S2=true:=symEnv_same a2
 try simp only [E0_G,SY,setArgs,off,agreeKind,boxed,Nat.reduceAdd,Nat.reduceSub,Nat.reduceLT,Nat.reduceBEq,e1,e2] at hz
 rw [code_draws _ _ _ (by kernel_rfl)] at hz
 generalize hnd3:needy _=nd3 at hz
 try simp (disch:=first|omega|assumption) only [E0_G,SY,agreeKind,ldA,aggD,aField,Nat.reduceAdd,Nat.reduceLT,Nat.reduceBEq,TY_EvH1,v1_2,store_refl E0_same] at hz
 rcases dP (a≤b) with ⟨h4a,h4⟩|⟨h4a,h4⟩
 ·obtain ⟨S5,k5,a5⟩:=c141 a b c d  S2
  have l5:=a5.1
  have s5:E0.same S2 S5=true:=symEnv_same a5
  have v1_5:=(a5.2 S.next (by omega)).trans v1_2
  have g5:Agree S S5:=g2.trans a5
  have y6:aEqAgg Tryz.prog 36 (.agg #[.int .i64 (((r141 a b c d)).1),.int .i64 (((r141 a b c d)).2)]) (.agg #[.int .i64 a,.int .i64 b])=some (decide (((r141 a b c d)).1=a∧((r141 a b c d)).2=b)):=(show _=some (decide (((r141 a b c d)).1=a) && (decide (((r141 a b c d)).2=b) && true)) by kernel_rfl).trans (congrArg some (by simp only [Bool.and_true,← Bool.decide_and]))
  try simp (disch:=first|omega|assumption) only [E0_G,SY,agreeKind,vals,ldA,rdCells,aggD,Nat.reduceAdd,Nat.reduceLT,Nat.reduceBEq,TY_EvH1,v1_2,b2,store_agree,store_refl E0_same,h4a,k5,v1_5,y6] at hz
  have hr:r139 a b c d=decide (((r141 a b c d)).1=a∧((r141 a b c d)).2=b):=(if_pos h4).trans (rfl)
  exact fin hz (by rw [hr]) g5
 try simp only [E0_G,SY,agreeKind,Nat.reduceAdd,Nat.reduceLT,Nat.reduceBEq,store_refl E0_same,h4a] at hz
 have hr:r139 a b c d=false:=(if_neg h4).trans (rfl)
 exact fin hz (by rw [hr]) g2
def R131_0 (s:ByteArray)  : Nat→Nat→Sum (Bool) (Unit)
 | 0,k=>.inr ()
 | m'+1,k=>(if (k:Int)<(s.size:Int) then (if (bAt s k)<97 then (if (bAt s k)<48 then .inl false else (if 57<(bAt s k) then .inl false else R131_0 s m' (k+1))) else (if 122<(bAt s k) then (if (bAt s k)<48 then .inl false else (if 57<(bAt s k) then .inl false else R131_0 s m' (k+1))) else R131_0 s m' (k+1))) else .inr ())
def r131 (s:ByteArray):Bool:=(onSum (R131_0 s (s.size+1) 0) (fun (r2:Bool)=>r2) (fun (_:Unit)=>(if 1≤(s.size:Int) then decide ((s.size:Int)≤16) else false)))
set_option maxHeartbeats 2000000 in
theorem c131 (s:ByteArray) (hs:s.size≤9223372036854775807) (S:AS)  :
  ∃ S',(evL Tryz.prog E0).call 131 #[.string s] S=some (.bool (r131 s),S')∧Agree S S':=by
 generalize hz:(evL Tryz.prog E0).call 131 _ _=z
 rw [L_call,evCall_said rfl Tryz.func131 rfl (by decide) Tryz.ntmps131 Tryz.results131] at hz
 try simp only [E0_G,SY,setArgs,off,agreeKind,Nat.reduceAdd,Nat.reduceSub,Nat.reduceLT,Nat.reduceBEq,TY_EvH1,lenV_str,firstOf_none,opB_len,strLen_some] at hz
 generalize hL1:Rec.loop _ _ _ _=L1 at hz
 obtain ⟨x1,t1,S1e,rfl,hQ1⟩:=loop_met hL1 (fun m t S'=>∃ (k:Nat),m+k=s.size+1∧k≤s.size∧t.get 0=some (.string s)∧t.get 6=some (.int .i64 (s.size:Int))∧t.get 7=some (.int .i64 (k:Int))∧Agree S S'∧S.next≤S'.next∧R131_0 s m k=R131_0 s (s.size+1) 0)
  (fun x t S'=>(x=.exit 0∧∃ (k:Nat),t.get 0=some (.string s)∧Agree S S'∧S.next≤S'.next∧k≤s.size∧R131_0 s (s.size+1) 0=.inr ())∨(x=.ret∧∃ (r2:Bool),t.get 2=some (.bool r2)∧Agree S S'∧R131_0 s (s.size+1) 0=.inl (r2))) (s.size+1) ⟨0,by first|rfl|omega|(simp; omega)|simp,by first|rfl|omega|(simp; omega)|simp,by simp only [SY,eq_self,Nat.reduceBEq]<;>rfl,by simp only [SY,eq_self,Nat.reduceBEq]<;>rfl,by simp only [SY,Nat.reduceBEq]<;>rfl,(Agree.refl S),Nat.le_refl _,rfl⟩ (by
   rintro m t S1 ⟨k,hi1_0,hi1_1,g1_0,g1_6,g1_7,ga1,gn1,hd1⟩
   refine .run fun z he=>?_
   try simp only [E0_G,SY,off,agreeKind,Nat.reduceLT,Nat.reduceBEq,g1_6,g1_7] at he
   rcases dP ((k:Int)<(s.size:Int)) with ⟨h2a,h2⟩|⟨h2a,h2⟩
   ·have y3:=strAt' (P:=Tryz.prog) (t:=9) Tryz.underlying9 (s:=s) (n:=k) (by first|omega|simp; omega)
    try simp only [E0_G,SY,off,agreeKind,Nat.reduceAdd,Nat.reduceLT,Nat.reduceBEq,g1_0,g1_7,h2a,y3] at he
    rcases dP ((bAt s k)<97) with ⟨h4a,h4⟩|⟨h4a,h4⟩
    ·try simp only [E0_G,SY,off,agreeKind,Nat.reduceAdd,Nat.reduceLT,Nat.reduceBEq,h4a] at he
     rcases dP ((bAt s k)<48) with ⟨h5a,h5⟩|⟨h5a,h5⟩
     ·try simp only [E0_G,SY,off,agreeKind,Nat.reduceAdd,Nat.reduceLT,Nat.reduceBEq,h5a] at he
      obtain ⟨m',rfl⟩:∃ m',m=m'+1:=⟨m - 1,by omega⟩
      have hf:=(show _=(.inl false:Sum (Bool) (Unit)) from (if_pos h2).trans ((if_pos h4).trans ((if_pos h5).trans (rfl)))).symm.trans hd1
      exact .ret he (.inr ⟨rfl,⟨false,(by simp only [SY,eq_self,Nat.reduceBEq]<;>rfl),ga1,hf.symm⟩⟩)
     try simp only [E0_G,SY,off,agreeKind,Nat.reduceAdd,Nat.reduceLT,Nat.reduceBEq,h5a] at he
     rcases dP (57<(bAt s k)) with ⟨h6a,h6⟩|⟨h6a,h6⟩
     ·try simp only [E0_G,SY,off,agreeKind,Nat.reduceLT,h6a] at he
      obtain ⟨m',rfl⟩:∃ m',m=m'+1:=⟨m - 1,by omega⟩
      have hf:=(show _=(.inl false:Sum (Bool) (Unit)) from (if_pos h2).trans ((if_pos h4).trans ((if_neg h5).trans ((if_pos h6).trans (rfl))))).symm.trans hd1
      exact .ret he (.inr ⟨rfl,⟨false,(by simp only [SY,eq_self,Nat.reduceBEq]<;>rfl),ga1,hf.symm⟩⟩)
     have w7:IntKind.i64.wrap ((k:Int)+1)=((k+1:Nat):Int):=by rw [IntWalk.i64_in]<;>omega
     try simp only [E0_G,SY,off,agreeKind,Nat.reduceAdd,Nat.reduceLT,Nat.reduceBEq,g1_7,h6a,w7] at he
     obtain ⟨m',rfl⟩:∃ m',m=m'+1:=⟨m - 1,by omega⟩
     have hf:=(show _=(R131_0 s m' (k+1):Sum (Bool) (Unit)) from (if_pos h2).trans ((if_pos h4).trans ((if_neg h5).trans ((if_neg h6).trans (rfl))))).symm.trans hd1
     exact .next he m' (by omega) ⟨(k+1),by first|omega|(simp; omega)|simp,by first|omega|(simp; omega)|simp,(by simp only [SY,eq_self,Nat.reduceBEq,g1_0]<;>rfl),(by simp only [SY,eq_self,Nat.reduceBEq,g1_6]<;>rfl),(by simp only [SY,eq_self,Nat.reduceBEq,g1_7]<;>rfl),ga1,by omega,hf⟩
    try simp only [E0_G,SY,off,agreeKind,Nat.reduceAdd,Nat.reduceLT,Nat.reduceBEq,h4a] at he
    rcases dP (122<(bAt s k)) with ⟨h8a,h8⟩|⟨h8a,h8⟩
    ·try simp only [E0_G,SY,off,agreeKind,Nat.reduceAdd,Nat.reduceLT,Nat.reduceBEq,h8a] at he
     rcases dP ((bAt s k)<48) with ⟨h9a,h9⟩|⟨h9a,h9⟩
     ·try simp only [E0_G,SY,off,agreeKind,Nat.reduceAdd,Nat.reduceLT,Nat.reduceBEq,h9a] at he
      obtain ⟨m',rfl⟩:∃ m',m=m'+1:=⟨m - 1,by omega⟩
      have hf:=(show _=(.inl false:Sum (Bool) (Unit)) from (if_pos h2).trans ((if_neg h4).trans ((if_pos h8).trans ((if_pos h9).trans (rfl))))).symm.trans hd1
      exact .ret he (.inr ⟨rfl,⟨false,(by simp only [SY,eq_self,Nat.reduceBEq]<;>rfl),ga1,hf.symm⟩⟩)
     try simp only [E0_G,SY,off,agreeKind,Nat.reduceAdd,Nat.reduceLT,Nat.reduceBEq,h9a] at he
     rcases dP (57<(bAt s k)) with ⟨h10a,h10⟩|⟨h10a,h10⟩
     ·try simp only [E0_G,SY,off,agreeKind,Nat.reduceLT,h10a] at he
      obtain ⟨m',rfl⟩:∃ m',m=m'+1:=⟨m - 1,by omega⟩
      have hf:=(show _=(.inl false:Sum (Bool) (Unit)) from (if_pos h2).trans ((if_neg h4).trans ((if_pos h8).trans ((if_neg h9).trans ((if_pos h10).trans (rfl)))))).symm.trans hd1
      exact .ret he (.inr ⟨rfl,⟨false,(by simp only [SY,eq_self,Nat.reduceBEq]<;>rfl),ga1,hf.symm⟩⟩)
     have w11:IntKind.i64.wrap ((k:Int)+1)=((k+1:Nat):Int):=by rw [IntWalk.i64_in]<;>omega
     try simp only [E0_G,SY,off,agreeKind,Nat.reduceAdd,Nat.reduceLT,Nat.reduceBEq,g1_7,h10a,w11] at he
     obtain ⟨m',rfl⟩:∃ m',m=m'+1:=⟨m - 1,by omega⟩
     have hf:=(show _=(R131_0 s m' (k+1):Sum (Bool) (Unit)) from (if_pos h2).trans ((if_neg h4).trans ((if_pos h8).trans ((if_neg h9).trans ((if_neg h10).trans (rfl)))))).symm.trans hd1
     exact .next he m' (by omega) ⟨(k+1),by first|omega|(simp; omega)|simp,by first|omega|(simp; omega)|simp,(by simp only [SY,eq_self,Nat.reduceBEq,g1_0]<;>rfl),(by simp only [SY,eq_self,Nat.reduceBEq,g1_6]<;>rfl),(by simp only [SY,eq_self,Nat.reduceBEq,g1_7]<;>rfl),ga1,by omega,hf⟩
    have w12:IntKind.i64.wrap ((k:Int)+1)=((k+1:Nat):Int):=by rw [IntWalk.i64_in]<;>omega
    try simp only [E0_G,SY,off,agreeKind,Nat.reduceAdd,Nat.reduceLT,Nat.reduceBEq,g1_7,h8a,w12] at he
    obtain ⟨m',rfl⟩:∃ m',m=m'+1:=⟨m - 1,by omega⟩
    have hf:=(show _=(R131_0 s m' (k+1):Sum (Bool) (Unit)) from (if_pos h2).trans ((if_neg h4).trans ((if_neg h8).trans (rfl)))).symm.trans hd1
    exact .next he m' (by omega) ⟨(k+1),by first|omega|(simp; omega)|simp,by first|omega|(simp; omega)|simp,(by simp only [SY,eq_self,Nat.reduceBEq,g1_0]<;>rfl),(by simp only [SY,eq_self,Nat.reduceBEq,g1_6]<;>rfl),(by simp only [SY,eq_self,Nat.reduceBEq,g1_7]<;>rfl),ga1,by omega,hf⟩
   try simp only [SY,h2a] at he
   obtain ⟨m',rfl⟩:∃ m',m=m'+1:=⟨m - 1,by omega⟩
   have hf:=(show _=(.inr ():Sum (Bool) (Unit)) from (if_neg h2).trans (rfl)).symm.trans hd1
   exact .exit he (.inl ⟨rfl,⟨k,(by simp only [SY,eq_self,Nat.reduceBEq,g1_0]<;>rfl),ga1,by omega,by first|omega|assumption|simp,hf.symm⟩⟩))
 rcases hQ1 with ⟨rfl,hQ1⟩|⟨rfl,hQ1⟩
 ·obtain ⟨k,ge1_0,ge1,gm1,hj1_0,hR1⟩:=hQ1
  try simp only [E0_G,SY,off,agreeKind,eq_self,if_true,Nat.reduceAdd,Nat.reduceLT,Nat.reduceBEq,TY_EvH1,ge1_0,lenV_str,firstOf_none,opB_len,strLen_some] at hz
  rcases dP (1≤(s.size:Int)) with ⟨h14a,h14⟩|⟨h14a,h14⟩
  ·try simp only [E0_G,SY,off,agreeKind,Nat.reduceAdd,Nat.reduceLT,Nat.reduceBEq,TY_EvH1,ge1_0,lenV_str,firstOf_none,opB_len,strLen_some,h14a] at hz
   have hr:r131 s=decide ((s.size:Int)≤16):=(onSum_inr hR1).trans ((if_pos h14).trans (rfl))
   exact fin hz (by rw [hr]) ge1
  try simp only [E0_G,SY,off,agreeKind,Nat.reduceAdd,Nat.reduceLT,Nat.reduceBEq,h14a] at hz
  have hr:r131 s=false:=(onSum_inr hR1).trans ((if_neg h14).trans (rfl))
  exact fin hz (by rw [hr]) ge1
 obtain ⟨r2,ge1_2,ge1,hR1⟩:=hQ1
 try simp only [SY,ge1_2] at hz
 have hr:r131 s=r2:=(onSum_inl hR1).trans (rfl)
 exact fin hz (by rw [hr]) ge1
def R132_0 (l:List Sp) (n:Int)  : List Sp→Nat→Sum (Bool) (Unit)
 | [],k=>.inr ()
 | x4 :: l',k=>(if (r139 x4.lo x4.hi 0 n)=true then (if 0<(k:Int) then (if x4.lo≤(IntKind.i64.wrap (((lget l (k - 1)).hi)+1)) then .inl false else R132_0 l n l' (k+1)) else R132_0 l n l' (k+1)) else .inl false)
def r132 (l:List Sp) (n:Int):Bool:=(if 8<(l.length:Int) then false else (onSum (R132_0 l n l 0) (fun (r4:Bool)=>r4) (fun (_:Unit)=>true)))
set_option maxHeartbeats 2000000 in
theorem c132 (l:List Sp) (n:Int) (hl:l.length≤12) (S:AS) (v_l:Value) (hv_l:Lst S v_l l) :
  ∃ S',(evL Tryz.prog E0).call 132 #[v_l,.int .i64 n] S=some (.bool (r132 l n),S')∧Agree S S':=by
 generalize hz:(evL Tryz.prog E0).call 132 _ _=z
 rw [L_call,evCall_said rfl Tryz.func132 rfl (by decide) Tryz.ntmps132 Tryz.results132] at hz
 have w1:=(hv_l).len (P:=Tryz.prog) (t:=40) Tryz.underlying40
 try simp only [E0_G,SY,setArgs,off,agreeKind,Nat.reduceAdd,Nat.reduceSub,Nat.reduceLT,Nat.reduceBEq,w1] at hz
 rcases dP (8<(l.length:Int)) with ⟨h2a,h2⟩|⟨h2a,h2⟩
 ·try simp only [E0_G,SY,off,agreeKind,Nat.reduceLT,Nat.reduceBEq,h2a] at hz
  have hr:r132 l n=false:=(if_pos h2).trans (rfl)
  exact fin hz (by rw [hr]) (Agree.refl S)
 have w3:=(hv_l).len (P:=Tryz.prog) (t:=40) Tryz.underlying40
 try simp only [E0_G,SY,off,agreeKind,Nat.reduceAdd,Nat.reduceLT,Nat.reduceBEq,w1,h2a] at hz
 generalize hL4:Rec.loop _ _ _ _=L4 at hz
 obtain ⟨x4,t4,S4e,rfl,hQ4⟩:=loop_met hL4 (fun m t S'=>∃ (k:Nat),m+k=l.length∧k≤l.length∧t.get 0=some (v_l)∧t.get 1=some (.int .i64 n)∧t.get 10=some (v_l)∧t.get 11=some (.int .i64 (l.length:Int))∧t.get 12=some (.int .i64 (k:Int))∧Agree S S'∧S.next≤S'.next∧R132_0 l n (l.drop k) k=R132_0 l n l 0)
  (fun x t S'=>(x=.exit 0∧∃ (k:Nat),Agree S S'∧S.next≤S'.next∧k≤l.length∧R132_0 l n l 0=.inr ())∨(x=.ret∧∃ (r4:Bool),t.get 4=some (.bool r4)∧Agree S S'∧R132_0 l n l 0=.inl (r4))) (l.length - 0) ⟨0,by first|rfl|omega|(simp; omega)|simp,by first|rfl|omega|(simp; omega)|simp,by simp only [SY,eq_self,Nat.reduceBEq]<;>rfl,by simp only [SY,eq_self,Nat.reduceBEq]<;>rfl,by simp only [SY,eq_self,Nat.reduceBEq]<;>rfl,by simp only [SY,eq_self,Nat.reduceBEq]<;>rfl,by simp only [SY,Nat.reduceBEq]<;>rfl,(Agree.refl S),Nat.le_refl _,rfl⟩ (by
   rintro m t S4 ⟨k,hi4_0,hi4_1,g4_0,g4_1,g4_10,g4_11,g4_12,ga4,gn4,hd4⟩
   refine .run fun z he=>?_
   try simp only [E0_G,SY,off,agreeKind,Nat.reduceLT,Nat.reduceBEq,g4_11,g4_12] at he
   rcases dP ((k:Int)<(l.length:Int)) with ⟨h5a,h5⟩|⟨h5a,h5⟩
   ·have hx4:l[k]?=some (l[k]'(by first|omega|simp; omega)):=List.getElem?_eq_getElem _
    generalize l[k]'_=x4 at hx4
    obtain ⟨id6,of6,cc6,ty6,wr6,ex6,i6,j6,l6,q6⟩:=(hv_l).at (P:=Tryz.prog) (t:=40) Tryz.underlying40 tz36 hx4
    have j6:=(ga4.2 id6 l6).trans j6
    have m6_0:cc6[of6]?=some (.int .i64 x4.lo):=q6 0 (show 0<2 by decide)
    have m6_1:cc6[of6+1]?=some (.int .i64 x4.hi):=q6 1 (show 1<2 by decide)
    obtain ⟨S7,e7,n7,b7,a7⟩:=push_open S4 (.cells [.int .i64 0,.int .i64 0] 36 0 true true)
    have g7:Agree S S7:=ga4.trans a7
    have s7:E0.same S4 S7=true:=symEnv_same a7
    obtain ⟨S8,k8,n8,b8,q8⟩:=st_at (o:=0) (c':=[.int .i64 x4.lo,.int .i64 x4.hi]) (v:=.agg #[.int .i64 x4.lo,.int .i64 x4.hi]) tz36 b7 rfl rfl (show 0+2≤2 by decide) rfl
    have g8:Agree S S8:=⟨by have:=(g7).1; omega,fun id hid=>(q8 id (by have:=(g7).1; omega)).trans ((g7).2 id hid)⟩
    try simp only [E0_G,SY,off,agreeKind,allocV,ldA,rdCells,aggD,Nat.reduceAdd,Nat.reduceLT,Nat.reduceBEq,TY_EvH1,g4_10,g4_12,h5a,i6,j6,m6_0,m6_1,e7,k8] at he
    rw [code_draws _ _ _ (by kernel_rfl)] at he
    generalize hnd9:needy _=nd9 at he
    have y10:aBuild Tryz.prog 36 [(1,.int .i64 n)]=some (.agg #[.int .i64 0,.int .i64 n]):=by kernel_rfl
    obtain ⟨S11,k11,a11⟩:=c139 x4.lo x4.hi 0 n  S8
    have l11:=a11.1
    have s11:E0.same S8 S11=true:=symEnv_same a11
    have v7_11:=(a11.2 S4.next (by omega)).trans b8
    have g11:Agree S S11:=g8.trans a11
    try simp (disch:=first|omega|assumption) only [E0_G,SY,agreeKind,partVals,vals,ldA,rdCells,aggD,Nat.reduceAdd,Nat.reduceLT,Nat.reduceBEq,TY_EvH1,g4_1,b8,store_agree,store_refl E0_same,y10,k11] at he
    rcases dB ((r139 x4.lo x4.hi 0 n)) with ⟨h12a,h12⟩|⟨h12a,h12⟩
    ·try simp only [E0_G,SY,agreeKind,Nat.reduceAdd,Nat.reduceLT,Nat.reduceBEq,store_refl E0_same,h12a] at he
     rcases dP (0<(k:Int)) with ⟨h13a,h13⟩|⟨h13a,h13⟩
     ·have w14:IntKind.i64.wrap ((k:Int) - 1)=((k - 1:Nat):Int):=by rw [IntWalk.i64_in]<;>omega
      have hx15:l[(k - 1)]?=some (lget l (k - 1)):=lget_some (by first|omega|simp; omega)
      obtain ⟨id15,of15,cc15,ty15,wr15,ex15,i15,j15,l15,q15⟩:=(hv_l).at (P:=Tryz.prog) (t:=40) Tryz.underlying40 tz36 hx15
      have j15:=(g11.2 id15 l15).trans j15
      have m15_0:cc15[of15]?=some (.int .i64 ((lget l (k - 1)).lo)):=q15 0 (show 0<2 by decide)
      have m15_1:cc15[of15+1]?=some (.int .i64 ((lget l (k - 1)).hi)):=q15 1 (show 1<2 by decide)
      try simp (disch:=first|omega|assumption) only [E0_G,SY,agreeKind,ldA,aggD,aField,Nat.reduceAdd,Nat.reduceLT,Nat.reduceBEq,TY_EvH1,g4_0,store_refl E0_same,v7_11,h13a,w14,i15,j15,m15_1] at he
      rcases dP (x4.lo≤(IntKind.i64.wrap (((lget l (k - 1)).hi)+1))) with ⟨h16a,h16⟩|⟨h16a,h16⟩
      ·try simp only [E0_G,SY,off,agreeKind,Nat.reduceLT,store_refl E0_same,h16a] at he
       rw [drop_cons' hx4] at hd4
       have hf:=(show _=(.inl false:Sum (Bool) (Unit)) from (if_pos h12).trans ((if_pos h13).trans ((if_pos h16).trans (rfl)))).symm.trans hd4
       exact .ret he (.inr ⟨rfl,⟨false,(by simp only [SY,eq_self,Nat.reduceBEq]<;>rfl),g11,hf.symm⟩⟩)
      have w17:IntKind.i64.wrap ((k:Int)+1)=((k+1:Nat):Int):=by rw [IntWalk.i64_in]<;>omega
      try simp only [E0_G,SY,off,agreeKind,Nat.reduceAdd,Nat.reduceLT,Nat.reduceBEq,g4_12,store_refl E0_same,h16a,w17] at he
      rw [drop_cons' hx4] at hd4
      have hf:=(show _=(R132_0 l n (l.drop (k+1)) (k+1):Sum (Bool) (Unit)) from (if_pos h12).trans ((if_pos h13).trans ((if_neg h16).trans (rfl)))).symm.trans hd4
      exact .next he (m - 1) (by omega) ⟨(k+1),by first|omega|(simp; omega)|simp,by first|omega|(simp; omega)|simp,(by simp only [SY,eq_self,Nat.reduceBEq,g4_0]<;>rfl),(by simp only [SY,eq_self,Nat.reduceBEq,g4_1]<;>rfl),(by simp only [SY,eq_self,Nat.reduceBEq,g4_10]<;>rfl),(by simp only [SY,eq_self,Nat.reduceBEq,g4_11]<;>rfl),(by simp only [SY,eq_self,Nat.reduceBEq,g4_12]<;>rfl),g11,by omega,hf⟩
     have w18:IntKind.i64.wrap ((k:Int)+1)=((k+1:Nat):Int):=by rw [IntWalk.i64_in]<;>omega
     try simp only [E0_G,SY,off,agreeKind,Nat.reduceAdd,Nat.reduceLT,Nat.reduceBEq,g4_12,store_refl E0_same,h13a,w18] at he
     rw [drop_cons' hx4] at hd4
     have hf:=(show _=(R132_0 l n (l.drop (k+1)) (k+1):Sum (Bool) (Unit)) from (if_pos h12).trans ((if_neg h13).trans (rfl))).symm.trans hd4
     exact .next he (m - 1) (by omega) ⟨(k+1),by first|omega|(simp; omega)|simp,by first|omega|(simp; omega)|simp,(by simp only [SY,eq_self,Nat.reduceBEq,g4_0]<;>rfl),(by simp only [SY,eq_self,Nat.reduceBEq,g4_1]<;>rfl),(by simp only [SY,eq_self,Nat.reduceBEq,g4_10]<;>rfl),(by simp only [SY,eq_self,Nat.reduceBEq,g4_11]<;>rfl),(by simp only [SY,eq_self,Nat.reduceBEq,g4_12]<;>rfl),g11,by omega,hf⟩
    try simp only [E0_G,SY,off,agreeKind,Nat.reduceAdd,Nat.reduceLT,Nat.reduceBEq,store_refl E0_same,h12a] at he
    rw [drop_cons' hx4] at hd4
    have hf:=(show _=(.inl false:Sum (Bool) (Unit)) from (if_neg h12).trans (rfl)).symm.trans hd4
    exact .ret he (.inr ⟨rfl,⟨false,(by simp only [SY,eq_self,Nat.reduceBEq]<;>rfl),g11,hf.symm⟩⟩)
   try simp only [SY,h5a] at he
   rw [List.drop_eq_nil_of_le (show l.length≤k by omega)] at hd4
   have hf:=(show _=(.inr ():Sum (Bool) (Unit)) from rfl).symm.trans hd4
   exact .exit he (.inl ⟨rfl,⟨k,ga4,by omega,by first|omega|assumption|simp,hf.symm⟩⟩))
 rcases hQ4 with ⟨rfl,hQ4⟩|⟨rfl,hQ4⟩
 ·obtain ⟨k,ge4,gm4,hj4_0,hR4⟩:=hQ4
  try simp only [E0_G,SY,off,agreeKind,eq_self,if_true,Nat.reduceLT,Nat.reduceBEq] at hz
  have hr:r132 l n=true:=(if_neg h2).trans ((onSum_inr hR4).trans (rfl))
  exact fin hz (by rw [hr]) ge4
 obtain ⟨r4,ge4_4,ge4,hR4⟩:=hQ4
 try simp only [SY,ge4_4] at hz
 have hr:r132 l n=r4:=(if_neg h2).trans ((onSum_inl hR4).trans (rfl))
 exact fin hz (by rw [hr]) ge4
def R81_0 (s:ByteArray)  : Nat→Nat→Sum (Bool) (Unit)
 | 0,k=>.inr ()
 | m'+1,k=>(if (k:Int)<(s.size:Int) then (if 97≤(bAt s k) then (if 48≤(bAt s k) then (if (bAt s k)≤122 then R81_0 s m' (k+1) else (if (bAt s k)≤57 then R81_0 s m' (k+1) else .inl false)) else (if (bAt s k)≤122 then R81_0 s m' (k+1) else .inl false)) else (if 48≤(bAt s k) then (if (bAt s k)≤57 then R81_0 s m' (k+1) else .inl false) else .inl false)) else .inr ())
def r81 (s:ByteArray):Bool:=(if (s.size:Int)<1 then false else (if 16<(s.size:Int) then false else (onSum (R81_0 s (s.size+1) 0) (fun (r2:Bool)=>r2) (fun (_:Unit)=>true))))
set_option maxHeartbeats 2000000 in
theorem c81 (s:ByteArray)  (S:AS)  :
  ∃ S',(evL Tryz.prog E0).call 81 #[.string s] S=some (.bool (r81 s),S')∧Agree S S':=by
 generalize hz:(evL Tryz.prog E0).call 81 _ _=z
 rw [L_call,evCall_said rfl Tryz.func81 rfl (by decide) Tryz.ntmps81 Tryz.results81] at hz
 try simp only [E0_G,SY,setArgs,off,agreeKind,Nat.reduceAdd,Nat.reduceSub,Nat.reduceLT,Nat.reduceBEq,TY_EvH1,lenV_str,firstOf_none,opB_len,strLen_some] at hz
 rcases dP ((s.size:Int)<1) with ⟨h1a,h1⟩|⟨h1a,h1⟩
 ·try simp only [E0_G,SY,off,agreeKind,Nat.reduceAdd,Nat.reduceLT,Nat.reduceBEq,h1a] at hz
  have hr:r81 s=false:=(if_pos h1).trans (rfl)
  exact fin hz (by rw [hr]) (Agree.refl S)
 try simp only [E0_G,SY,off,agreeKind,Nat.reduceAdd,Nat.reduceLT,Nat.reduceBEq,TY_EvH1,lenV_str,firstOf_none,opB_len,strLen_some,h1a] at hz
 rcases dP (16<(s.size:Int)) with ⟨h2a,h2⟩|⟨h2a,h2⟩
 ·try simp only [E0_G,SY,off,agreeKind,Nat.reduceLT,Nat.reduceBEq,h2a] at hz
  have hr:r81 s=false:=(if_neg h1).trans ((if_pos h2).trans (rfl))
  exact fin hz (by rw [hr]) (Agree.refl S)
 try simp only [E0_G,SY,off,agreeKind,Nat.reduceLT,h2a] at hz
 generalize hL3:Rec.loop _ _ _ _=L3 at hz
 obtain ⟨x3,t3,S3e,rfl,hQ3⟩:=loop_met hL3 (fun m t S'=>∃ (k:Nat),m+k=s.size+1∧k≤s.size∧t.get 0=some (.string s)∧t.get 3=some (.int .i64 (k:Int))∧Agree S S'∧S.next≤S'.next∧R81_0 s m k=R81_0 s (s.size+1) 0)
  (fun x t S'=>(x=.exit 0∧∃ (k:Nat),Agree S S'∧S.next≤S'.next∧k≤s.size∧R81_0 s (s.size+1) 0=.inr ())∨(x=.ret∧∃ (r2:Bool),t.get 2=some (.bool r2)∧Agree S S'∧R81_0 s (s.size+1) 0=.inl (r2))) (s.size+1) ⟨0,by first|rfl|omega|(simp; omega)|simp,by first|rfl|omega|(simp; omega)|simp,by simp only [SY,eq_self,Nat.reduceBEq]<;>rfl,by simp only [SY,Nat.reduceBEq]<;>rfl,(Agree.refl S),Nat.le_refl _,rfl⟩ (by
   rintro m t S3 ⟨k,hi3_0,hi3_1,g3_0,g3_3,ga3,gn3,hd3⟩
   refine .run fun z he=>?_
   try simp only [E0_G,SY,off,agreeKind,Nat.reduceAdd,Nat.reduceLT,Nat.reduceBEq,TY_EvH1,g3_0,g3_3,lenV_str,firstOf_none,opB_len,strLen_some] at he
   rcases dP ((k:Int)<(s.size:Int)) with ⟨h4a,h4⟩|⟨h4a,h4⟩
   ·have y5:=strAt' (P:=Tryz.prog) (t:=9) Tryz.underlying9 (s:=s) (n:=k) (by first|omega|simp; omega)
    try simp only [E0_G,SY,off,agreeKind,Nat.reduceAdd,Nat.reduceLT,Nat.reduceBEq,g3_0,g3_3,h4a,y5] at he
    rcases dP (97≤(bAt s k)) with ⟨h6a,h6⟩|⟨h6a,h6⟩
    ·have y7:=strAt' (P:=Tryz.prog) (t:=9) Tryz.underlying9 (s:=s) (n:=k) (by first|omega|simp; omega)
     have y8:=strAt' (P:=Tryz.prog) (t:=9) Tryz.underlying9 (s:=s) (n:=k) (by first|omega|simp; omega)
     try simp only [E0_G,SY,off,agreeKind,Nat.reduceAdd,Nat.reduceLT,Nat.reduceBEq,g3_0,g3_3,y5,h6a] at he
     rcases dP (48≤(bAt s k)) with ⟨h9a,h9⟩|⟨h9a,h9⟩
     ·have y10:=strAt' (P:=Tryz.prog) (t:=9) Tryz.underlying9 (s:=s) (n:=k) (by first|omega|simp; omega)
      try simp only [E0_G,SY,off,agreeKind,Nat.reduceAdd,Nat.reduceLT,Nat.reduceBEq,g3_0,g3_3,y5,h9a] at he
      rcases dP ((bAt s k)≤122) with ⟨h11a,h11⟩|⟨h11a,h11⟩
      ·have w12:IntKind.i64.wrap ((k:Int)+1)=((k+1:Nat):Int):=by rw [IntWalk.i64_in]<;>omega
       try simp only [E0_G,SY,off,agreeKind,Nat.reduceAdd,Nat.reduceLT,Nat.reduceBEq,g3_3,h11a,w12] at he
       obtain ⟨m',rfl⟩:∃ m',m=m'+1:=⟨m - 1,by omega⟩
       have hf:=(show _=(R81_0 s m' (k+1):Sum (Bool) (Unit)) from (if_pos h4).trans ((if_pos h6).trans ((if_pos h9).trans ((if_pos h11).trans (rfl))))).symm.trans hd3
       exact .next he m' (by omega) ⟨(k+1),by first|omega|(simp; omega)|simp,by first|omega|(simp; omega)|simp,(by simp only [SY,eq_self,Nat.reduceBEq,g3_0]<;>rfl),(by simp only [SY,eq_self,Nat.reduceBEq,g3_3]<;>rfl),ga3,by omega,hf⟩
      try simp only [E0_G,SY,off,agreeKind,Nat.reduceAdd,Nat.reduceLT,Nat.reduceBEq,h11a] at he
      rcases dP ((bAt s k)≤57) with ⟨h13a,h13⟩|⟨h13a,h13⟩
      ·have w14:IntKind.i64.wrap ((k:Int)+1)=((k+1:Nat):Int):=by rw [IntWalk.i64_in]<;>omega
       try simp only [E0_G,SY,off,agreeKind,Nat.reduceAdd,Nat.reduceLT,Nat.reduceBEq,g3_3,h13a,w14] at he
       obtain ⟨m',rfl⟩:∃ m',m=m'+1:=⟨m - 1,by omega⟩
       have hf:=(show _=(R81_0 s m' (k+1):Sum (Bool) (Unit)) from (if_pos h4).trans ((if_pos h6).trans ((if_pos h9).trans ((if_neg h11).trans ((if_pos h13).trans (rfl)))))).symm.trans hd3
       exact .next he m' (by omega) ⟨(k+1),by first|omega|(simp; omega)|simp,by first|omega|(simp; omega)|simp,(by simp only [SY,eq_self,Nat.reduceBEq,g3_0]<;>rfl),(by simp only [SY,eq_self,Nat.reduceBEq,g3_3]<;>rfl),ga3,by omega,hf⟩
      try simp only [E0_G,SY,off,agreeKind,Nat.reduceLT,h13a] at he
      obtain ⟨m',rfl⟩:∃ m',m=m'+1:=⟨m - 1,by omega⟩
      have hf:=(show _=(.inl false:Sum (Bool) (Unit)) from (if_pos h4).trans ((if_pos h6).trans ((if_pos h9).trans ((if_neg h11).trans ((if_neg h13).trans (rfl)))))).symm.trans hd3
      exact .ret he (.inr ⟨rfl,⟨false,(by simp only [SY,eq_self,Nat.reduceBEq]<;>rfl),ga3,hf.symm⟩⟩)
     try simp only [E0_G,SY,off,agreeKind,Nat.reduceAdd,Nat.reduceLT,Nat.reduceBEq,h9a] at he
     rcases dP ((bAt s k)≤122) with ⟨h15a,h15⟩|⟨h15a,h15⟩
     ·have w16:IntKind.i64.wrap ((k:Int)+1)=((k+1:Nat):Int):=by rw [IntWalk.i64_in]<;>omega
      try simp only [E0_G,SY,off,agreeKind,Nat.reduceAdd,Nat.reduceLT,Nat.reduceBEq,g3_3,h15a,w16] at he
      obtain ⟨m',rfl⟩:∃ m',m=m'+1:=⟨m - 1,by omega⟩
      have hf:=(show _=(R81_0 s m' (k+1):Sum (Bool) (Unit)) from (if_pos h4).trans ((if_pos h6).trans ((if_neg h9).trans ((if_pos h15).trans (rfl))))).symm.trans hd3
      exact .next he m' (by omega) ⟨(k+1),by first|omega|(simp; omega)|simp,by first|omega|(simp; omega)|simp,(by simp only [SY,eq_self,Nat.reduceBEq,g3_0]<;>rfl),(by simp only [SY,eq_self,Nat.reduceBEq,g3_3]<;>rfl),ga3,by omega,hf⟩
     try simp only [E0_G,SY,off,agreeKind,Nat.reduceAdd,Nat.reduceLT,Nat.reduceBEq,h15a] at he
     obtain ⟨m',rfl⟩:∃ m',m=m'+1:=⟨m - 1,by omega⟩
     have hf:=(show _=(.inl false:Sum (Bool) (Unit)) from (if_pos h4).trans ((if_pos h6).trans ((if_neg h9).trans ((if_neg h15).trans (rfl))))).symm.trans hd3
     exact .ret he (.inr ⟨rfl,⟨false,(by simp only [SY,eq_self,Nat.reduceBEq]<;>rfl),ga3,hf.symm⟩⟩)
    have y17:=strAt' (P:=Tryz.prog) (t:=9) Tryz.underlying9 (s:=s) (n:=k) (by first|omega|simp; omega)
    try simp only [E0_G,SY,off,agreeKind,Nat.reduceAdd,Nat.reduceLT,Nat.reduceBEq,g3_0,g3_3,y5,h6a] at he
    rcases dP (48≤(bAt s k)) with ⟨h18a,h18⟩|⟨h18a,h18⟩
    ·have y19:=strAt' (P:=Tryz.prog) (t:=9) Tryz.underlying9 (s:=s) (n:=k) (by first|omega|simp; omega)
     try simp only [E0_G,SY,off,agreeKind,Nat.reduceAdd,Nat.reduceLT,Nat.reduceBEq,g3_0,g3_3,y5,h18a] at he
     rcases dP ((bAt s k)≤57) with ⟨h20a,h20⟩|⟨h20a,h20⟩
     ·have w21:IntKind.i64.wrap ((k:Int)+1)=((k+1:Nat):Int):=by rw [IntWalk.i64_in]<;>omega
      try simp only [E0_G,SY,off,agreeKind,Nat.reduceAdd,Nat.reduceLT,Nat.reduceBEq,g3_3,h20a,w21] at he
      obtain ⟨m',rfl⟩:∃ m',m=m'+1:=⟨m - 1,by omega⟩
      have hf:=(show _=(R81_0 s m' (k+1):Sum (Bool) (Unit)) from (if_pos h4).trans ((if_neg h6).trans ((if_pos h18).trans ((if_pos h20).trans (rfl))))).symm.trans hd3
      exact .next he m' (by omega) ⟨(k+1),by first|omega|(simp; omega)|simp,by first|omega|(simp; omega)|simp,(by simp only [SY,eq_self,Nat.reduceBEq,g3_0]<;>rfl),(by simp only [SY,eq_self,Nat.reduceBEq,g3_3]<;>rfl),ga3,by omega,hf⟩
     try simp only [E0_G,SY,off,agreeKind,Nat.reduceLT,h20a] at he
     obtain ⟨m',rfl⟩:∃ m',m=m'+1:=⟨m - 1,by omega⟩
     have hf:=(show _=(.inl false:Sum (Bool) (Unit)) from (if_pos h4).trans ((if_neg h6).trans ((if_pos h18).trans ((if_neg h20).trans (rfl))))).symm.trans hd3
     exact .ret he (.inr ⟨rfl,⟨false,(by simp only [SY,eq_self,Nat.reduceBEq]<;>rfl),ga3,hf.symm⟩⟩)
    try simp only [E0_G,SY,off,agreeKind,Nat.reduceAdd,Nat.reduceLT,Nat.reduceBEq,h18a] at he
    obtain ⟨m',rfl⟩:∃ m',m=m'+1:=⟨m - 1,by omega⟩
    have hf:=(show _=(.inl false:Sum (Bool) (Unit)) from (if_pos h4).trans ((if_neg h6).trans ((if_neg h18).trans (rfl)))).symm.trans hd3
    exact .ret he (.inr ⟨rfl,⟨false,(by simp only [SY,eq_self,Nat.reduceBEq]<;>rfl),ga3,hf.symm⟩⟩)
   try simp only [SY,h4a] at he
   obtain ⟨m',rfl⟩:∃ m',m=m'+1:=⟨m - 1,by omega⟩
   have hf:=(show _=(.inr ():Sum (Bool) (Unit)) from (if_neg h4).trans (rfl)).symm.trans hd3
   exact .exit he (.inl ⟨rfl,⟨k,ga3,by omega,by first|omega|assumption|simp,hf.symm⟩⟩))
 rcases hQ3 with ⟨rfl,hQ3⟩|⟨rfl,hQ3⟩
 ·obtain ⟨k,ge3,gm3,hj3_0,hR3⟩:=hQ3
  try simp only [E0_G,SY,off,agreeKind,eq_self,if_true,Nat.reduceLT,Nat.reduceBEq] at hz
  have hr:r81 s=true:=(if_neg h1).trans ((if_neg h2).trans ((onSum_inr hR3).trans (rfl)))
  exact fin hz (by rw [hr]) ge3
 obtain ⟨r2,ge3_2,ge3,hR3⟩:=hQ3
 try simp only [SY,ge3_2] at hz
 have hr:r81 s=r2:=(if_neg h1).trans ((if_neg h2).trans ((onSum_inl hR3).trans (rfl)))
 exact fin hz (by rw [hr]) ge3
def R82_0 (l:List Sp) (n:Int)  : List Sp→Nat→Sum (Bool) (Unit)
 | [],k=>.inr ()
 | x3 :: l',k=>(if x3.hi<x3.lo then .inl false else (if (r71 x3.lo 0 n)=true then (if (r71 x3.hi 0 n)=true then (if 0<(k:Int) then (if x3.lo≤(IntKind.i64.wrap (((lget l (k - 1)).hi)+1)) then .inl false else R82_0 l n l' (k+1)) else R82_0 l n l' (k+1)) else .inl false) else .inl false))
def r82 (l:List Sp) (n:Int):Bool:=(if 8<(l.length:Int) then false else (onSum (R82_0 l n l 0) (fun (r4:Bool)=>r4) (fun (_:Unit)=>true)))
set_option maxHeartbeats 2000000 in
theorem c82 (l:List Sp) (n:Int) (hl:l.length≤12) (S:AS) (v_l:Value) (hv_l:Lst S v_l l) :
  ∃ S',(evL Tryz.prog E0).call 82 #[v_l,.int .i64 n] S=some (.bool (r82 l n),S')∧Agree S S':=by
 generalize hz:(evL Tryz.prog E0).call 82 _ _=z
 rw [L_call,evCall_said rfl Tryz.func82 rfl (by decide) Tryz.ntmps82 Tryz.results82] at hz
 have w1:=(hv_l).len (P:=Tryz.prog) (t:=40) Tryz.underlying40
 try simp only [E0_G,SY,setArgs,off,agreeKind,Nat.reduceAdd,Nat.reduceSub,Nat.reduceLT,Nat.reduceBEq,w1] at hz
 rcases dP (8<(l.length:Int)) with ⟨h2a,h2⟩|⟨h2a,h2⟩
 ·try simp only [E0_G,SY,off,agreeKind,Nat.reduceLT,Nat.reduceBEq,h2a] at hz
  have hr:r82 l n=false:=(if_pos h2).trans (rfl)
  exact fin hz (by rw [hr]) (Agree.refl S)
 try simp only [E0_G,SY,off,agreeKind,Nat.reduceLT,h2a] at hz
 generalize hL3:Rec.loop _ _ _ _=L3 at hz
 obtain ⟨x3,t3,S3e,rfl,hQ3⟩:=loop_met hL3 (fun m t S'=>∃ (k:Nat),m+k=l.length∧k≤l.length∧t.get 0=some (v_l)∧t.get 1=some (.int .i64 n)∧t.get 5=some (.int .i64 (k:Int))∧Agree S S'∧S.next≤S'.next∧R82_0 l n (l.drop k) k=R82_0 l n l 0)
  (fun x t S'=>(x=.exit 0∧∃ (k:Nat),Agree S S'∧S.next≤S'.next∧k≤l.length∧R82_0 l n l 0=.inr ())∨(x=.ret∧∃ (r4:Bool),t.get 4=some (.bool r4)∧Agree S S'∧R82_0 l n l 0=.inl (r4))) (l.length - 0) ⟨0,by first|rfl|omega|(simp; omega)|simp,by first|rfl|omega|(simp; omega)|simp,by simp only [SY,eq_self,Nat.reduceBEq]<;>rfl,by simp only [SY,eq_self,Nat.reduceBEq]<;>rfl,by simp only [SY,Nat.reduceBEq]<;>rfl,(Agree.refl S),Nat.le_refl _,rfl⟩ (by
   rintro m t S3 ⟨k,hi3_0,hi3_1,g3_0,g3_1,g3_5,ga3,gn3,hd3⟩
   refine .run fun z he=>?_
   have w4:=(hv_l.agree ga3).len (P:=Tryz.prog) (t:=40) Tryz.underlying40
   try simp only [E0_G,SY,off,agreeKind,Nat.reduceAdd,Nat.reduceLT,Nat.reduceBEq,g3_0,g3_5,w1] at he
   rcases dP ((k:Int)<(l.length:Int)) with ⟨h5a,h5⟩|⟨h5a,h5⟩
   ·try simp only [SY,h5a] at he
    rw [code_draws _ _ _ (by kernel_rfl)] at he
    generalize hnd6:needy _=nd6 at he
    have hx3:l[k]?=some (l[k]'(by first|omega|simp; omega)):=List.getElem?_eq_getElem _
    generalize l[k]'_=x3 at hx3
    obtain ⟨id7,of7,cc7,ty7,wr7,ex7,i7,j7,l7,q7⟩:=(hv_l).at (P:=Tryz.prog) (t:=40) Tryz.underlying40 tz36 hx3
    have jr7:=j7
    have j7:=(ga3.2 id7 l7).trans jr7
    have m7_0:cc7[of7]?=some (.int .i64 x3.lo):=q7 0 (show 0<2 by decide)
    have m7_1:cc7[of7+1]?=some (.int .i64 x3.hi):=q7 1 (show 1<2 by decide)
    obtain ⟨id8,of8,cc8,ty8,wr8,ex8,i8,j8,l8,q8⟩:=(hv_l).at (P:=Tryz.prog) (t:=40) Tryz.underlying40 tz36 hx3
    have jr8:=j8
    have j8:=(ga3.2 id8 l8).trans jr8
    have j8_7:=(ga3.2 id7 l7).trans jr7
    have m8_0:cc8[of8]?=some (.int .i64 x3.lo):=q8 0 (show 0<2 by decide)
    have m8_1:cc8[of8+1]?=some (.int .i64 x3.hi):=q8 1 (show 1<2 by decide)
    try simp (disch:=first|omega|assumption) only [E0_G,SY,agreeKind,ldA,aggD,aField,Nat.reduceAdd,Nat.reduceLT,Nat.reduceBEq,TY_EvH1,g3_0,g3_5,store_refl E0_same,i7,j7,m7_0,m7_1] at he
    rcases dP (x3.hi<x3.lo) with ⟨h9a,h9⟩|⟨h9a,h9⟩
    ·try simp only [E0_G,SY,off,agreeKind,Nat.reduceAdd,Nat.reduceLT,Nat.reduceBEq,store_refl E0_same,h9a] at he
     rw [drop_cons' hx3] at hd3
     have hf:=(show _=(.inl false:Sum (Bool) (Unit)) from (if_pos h9).trans (rfl)).symm.trans hd3
     exact .ret he (.inr ⟨rfl,⟨false,(by simp only [SY,eq_self,Nat.reduceBEq]<;>rfl),ga3,hf.symm⟩⟩)
    obtain ⟨id10,of10,cc10,ty10,wr10,ex10,i10,j10,l10,q10⟩:=(hv_l).at (P:=Tryz.prog) (t:=40) Tryz.underlying40 tz36 hx3
    have jr10:=j10
    have j10:=(ga3.2 id10 l10).trans jr10
    have j10_7:=(ga3.2 id7 l7).trans jr7
    have j10_8:=(ga3.2 id8 l8).trans jr8
    have m10_0:cc10[of10]?=some (.int .i64 x3.lo):=q10 0 (show 0<2 by decide)
    have m10_1:cc10[of10+1]?=some (.int .i64 x3.hi):=q10 1 (show 1<2 by decide)
    obtain ⟨S11,k11,a11⟩:=c71 x3.lo 0 n  S3
    have l11:=a11.1
    have s11:E0.same S3 S11=true:=symEnv_same a11
    have v7_11:=(a11.2 id7 (by omega)).trans j7
    have g11:Agree S S11:=ga3.trans a11
    try simp (disch:=first|omega|assumption) only [E0_G,SY,agreeKind,vals,ldA,aggD,aField,Nat.reduceAdd,Nat.reduceLT,Nat.reduceBEq,TY_EvH1,g3_0,g3_1,g3_5,store_agree,store_refl E0_same,i7,j7,m7_0,h9a,k11] at he
    rcases dB ((r71 x3.lo 0 n)) with ⟨h12a,h12⟩|⟨h12a,h12⟩
    ·obtain ⟨id13,of13,cc13,ty13,wr13,ex13,i13,j13,l13,q13⟩:=(hv_l).at (P:=Tryz.prog) (t:=40) Tryz.underlying40 tz36 hx3
     have jr13:=j13
     have j13:=(g11.2 id13 l13).trans jr13
     have j13_7:=(g11.2 id7 l7).trans jr7
     have j13_8:=(g11.2 id8 l8).trans jr8
     have j13_10:=(g11.2 id10 l10).trans jr10
     have m13_0:cc13[of13]?=some (.int .i64 x3.lo):=q13 0 (show 0<2 by decide)
     have m13_1:cc13[of13+1]?=some (.int .i64 x3.hi):=q13 1 (show 1<2 by decide)
     obtain ⟨S14,k14,a14⟩:=c71 x3.hi 0 n  S11
     have l14:=a14.1
     have s14:E0.same S11 S14=true:=symEnv_same a14
     have v7_14:=(a14.2 id7 (by omega)).trans v7_11
     have g14:Agree S S14:=g11.trans a14
     try simp (disch:=first|omega|assumption) only [E0_G,SY,agreeKind,vals,ldA,aggD,aField,Nat.reduceAdd,Nat.reduceLT,Nat.reduceBEq,TY_EvH1,g3_0,g3_1,g3_5,store_agree,store_refl E0_same,i7,m7_1,v7_11,h12a,k14] at he
     rcases dB ((r71 x3.hi 0 n)) with ⟨h15a,h15⟩|⟨h15a,h15⟩
     ·try simp only [SY,store_refl E0_same,h15a] at he
      rw [code_draws _ _ _ (by kernel_rfl)] at he
      generalize hnd16:needy _=nd16 at he
      try simp only [E0_G,SY,agreeKind,Nat.reduceAdd,Nat.reduceLT,Nat.reduceBEq,g3_5,store_refl E0_same] at he
      rcases dP (0<(k:Int)) with ⟨h17a,h17⟩|⟨h17a,h17⟩
      ·obtain ⟨id18,of18,cc18,ty18,wr18,ex18,i18,j18,l18,q18⟩:=(hv_l).at (P:=Tryz.prog) (t:=40) Tryz.underlying40 tz36 hx3
       have j18:=(g14.2 id18 l18).trans j18
       have j18_7:=(g14.2 id7 l7).trans jr7
       have j18_8:=(g14.2 id8 l8).trans jr8
       have j18_10:=(g14.2 id10 l10).trans jr10
       have j18_13:=(g14.2 id13 l13).trans jr13
       have m18_0:cc18[of18]?=some (.int .i64 x3.lo):=q18 0 (show 0<2 by decide)
       have m18_1:cc18[of18+1]?=some (.int .i64 x3.hi):=q18 1 (show 1<2 by decide)
       have w19:IntKind.i64.wrap ((k:Int) - 1)=((k - 1:Nat):Int):=by rw [IntWalk.i64_in]<;>omega
       have hx20:l[(k - 1)]?=some (lget l (k - 1)):=lget_some (by first|omega|simp; omega)
       obtain ⟨id20,of20,cc20,ty20,wr20,ex20,i20,j20,l20,q20⟩:=(hv_l).at (P:=Tryz.prog) (t:=40) Tryz.underlying40 tz36 hx20
       have j20:=(g14.2 id20 l20).trans j20
       have m20_0:cc20[of20]?=some (.int .i64 ((lget l (k - 1)).lo)):=q20 0 (show 0<2 by decide)
       have m20_1:cc20[of20+1]?=some (.int .i64 ((lget l (k - 1)).hi)):=q20 1 (show 1<2 by decide)
       try simp (disch:=first|omega|assumption) only [E0_G,SY,agreeKind,ldA,aggD,aField,Nat.reduceAdd,Nat.reduceLT,Nat.reduceBEq,TY_EvH1,g3_0,g3_5,store_refl E0_same,i7,m7_0,v7_14,h17a,w19,i20,j20,m20_1] at he
       rcases dP (x3.lo≤(IntKind.i64.wrap (((lget l (k - 1)).hi)+1))) with ⟨h21a,h21⟩|⟨h21a,h21⟩
       ·try simp only [E0_G,SY,off,agreeKind,Nat.reduceLT,store_refl E0_same,h21a] at he
        rw [drop_cons' hx3] at hd3
        have hf:=(show _=(.inl false:Sum (Bool) (Unit)) from (if_neg h9).trans ((if_pos h12).trans ((if_pos h15).trans ((if_pos h17).trans ((if_pos h21).trans (rfl)))))).symm.trans hd3
        exact .ret he (.inr ⟨rfl,⟨false,(by simp only [SY,eq_self,Nat.reduceBEq]<;>rfl),g14,hf.symm⟩⟩)
       have w22:IntKind.i64.wrap ((k:Int)+1)=((k+1:Nat):Int):=by rw [IntWalk.i64_in]<;>omega
       try simp only [E0_G,SY,off,agreeKind,Nat.reduceAdd,Nat.reduceLT,Nat.reduceBEq,g3_5,store_refl E0_same,h21a,w22] at he
       rw [drop_cons' hx3] at hd3
       have hf:=(show _=(R82_0 l n (l.drop (k+1)) (k+1):Sum (Bool) (Unit)) from (if_neg h9).trans ((if_pos h12).trans ((if_pos h15).trans ((if_pos h17).trans ((if_neg h21).trans (rfl)))))).symm.trans hd3
       exact .next he (m - 1) (by omega) ⟨(k+1),by first|omega|(simp; omega)|simp,by first|omega|(simp; omega)|simp,(by simp only [SY,eq_self,Nat.reduceBEq,g3_0]<;>rfl),(by simp only [SY,eq_self,Nat.reduceBEq,g3_1]<;>rfl),(by simp only [SY,eq_self,Nat.reduceBEq,g3_5]<;>rfl),g14,by omega,hf⟩
      have w23:IntKind.i64.wrap ((k:Int)+1)=((k+1:Nat):Int):=by rw [IntWalk.i64_in]<;>omega
      try simp only [E0_G,SY,off,agreeKind,Nat.reduceAdd,Nat.reduceLT,Nat.reduceBEq,g3_5,store_refl E0_same,h17a,w23] at he
      rw [drop_cons' hx3] at hd3
      have hf:=(show _=(R82_0 l n (l.drop (k+1)) (k+1):Sum (Bool) (Unit)) from (if_neg h9).trans ((if_pos h12).trans ((if_pos h15).trans ((if_neg h17).trans (rfl))))).symm.trans hd3
      exact .next he (m - 1) (by omega) ⟨(k+1),by first|omega|(simp; omega)|simp,by first|omega|(simp; omega)|simp,(by simp only [SY,eq_self,Nat.reduceBEq,g3_0]<;>rfl),(by simp only [SY,eq_self,Nat.reduceBEq,g3_1]<;>rfl),(by simp only [SY,eq_self,Nat.reduceBEq,g3_5]<;>rfl),g14,by omega,hf⟩
     try simp only [E0_G,SY,off,agreeKind,Nat.reduceLT,store_refl E0_same,h15a] at he
     rw [drop_cons' hx3] at hd3
     have hf:=(show _=(.inl false:Sum (Bool) (Unit)) from (if_neg h9).trans ((if_pos h12).trans ((if_neg h15).trans (rfl)))).symm.trans hd3
     exact .ret he (.inr ⟨rfl,⟨false,(by simp only [SY,eq_self,Nat.reduceBEq]<;>rfl),g14,hf.symm⟩⟩)
    try simp only [E0_G,SY,off,agreeKind,Nat.reduceAdd,Nat.reduceLT,Nat.reduceBEq,store_refl E0_same,h12a] at he
    rw [drop_cons' hx3] at hd3
    have hf:=(show _=(.inl false:Sum (Bool) (Unit)) from (if_neg h9).trans ((if_neg h12).trans (rfl))).symm.trans hd3
    exact .ret he (.inr ⟨rfl,⟨false,(by simp only [SY,eq_self,Nat.reduceBEq]<;>rfl),g11,hf.symm⟩⟩)
   try simp only [SY,h5a] at he
   rw [List.drop_eq_nil_of_le (show l.length≤k by omega)] at hd3
   have hf:=(show _=(.inr ():Sum (Bool) (Unit)) from rfl).symm.trans hd3
   exact .exit he (.inl ⟨rfl,⟨k,ga3,by omega,by first|omega|assumption|simp,hf.symm⟩⟩))
 rcases hQ3 with ⟨rfl,hQ3⟩|⟨rfl,hQ3⟩
 ·obtain ⟨k,ge3,gm3,hj3_0,hR3⟩:=hQ3
  try simp only [E0_G,SY,off,agreeKind,eq_self,if_true,Nat.reduceLT,Nat.reduceBEq] at hz
  have hr:r82 l n=true:=(if_neg h2).trans ((onSum_inr hR3).trans (rfl))
  exact fin hz (by rw [hr]) ge3
 obtain ⟨r4,ge3_4,ge3,hR3⟩:=hQ3
 try simp only [SY,ge3_4] at hz
 have hr:r82 l n=r4:=(if_neg h2).trans ((onSum_inl hR3).trans (rfl))
 exact fin hz (by rw [hr]) ge3
def R20_0 (h:Hs)  : List Dr→Sum (Bool) (Unit)
 | []=>.inr ()
 | x8 :: l'=>(if 12<(x8.hours.length:Int) then .inl false else (if 12<(x8.shut.length:Int) then .inl false else R20_0 h l'))
def r20 (h:Hs):Bool:=(if 30<(h.rooms.length:Int) then false else (if 20<(h.doors.length:Int) then false else (if 70<(h.ways.length:Int) then false else (onSum (R20_0 h h.doors) (fun (r2:Bool)=>r2) (fun (_:Unit)=>true)))))
set_option maxHeartbeats 2000000 in
theorem c20 (h:Hs)  (S:AS) (v_h_rooms:Value) (hv_h_rooms:LstR S v_h_rooms h.rooms) (v_h_doors:Value) (hv_h_doors:LstR S v_h_doors h.doors) (v_h_ways:Value) (hv_h_ways:Lst S v_h_ways h.ways) :
  ∃ S',(evL Tryz.prog E0).call 20 #[.agg #[v_h_rooms,v_h_doors,v_h_ways]] S=some (.bool (r20 h),S')∧Agree S S':=by
 generalize hz:(evL Tryz.prog E0).call 20 _ _=z
 rw [L_call,evCall_said rfl Tryz.func20 rfl (by decide) Tryz.ntmps20 Tryz.results20] at hz
 obtain ⟨S1,e1,n1,b1,a1⟩:=push_open S (.cells [v_h_rooms,v_h_doors,v_h_ways] 26 0 true true)
 have g1:Agree S S1:=a1
 have w2:=(hv_h_rooms.agree g1).len (P:=Tryz.prog) (t:=22) Tryz.underlying22
 try simp (disch:=first|omega|assumption) only [E0_G,SY,setArgs,off,agreeKind,boxed,ldA,aggD,aField,Nat.reduceAdd,Nat.reduceSub,Nat.reduceLT,Nat.reduceBEq,TY_EvH1,e1,b1,w2] at hz
 rcases dP (30<(h.rooms.length:Int)) with ⟨h3a,h3⟩|⟨h3a,h3⟩
 ·try simp only [E0_G,SY,off,agreeKind,Nat.reduceAdd,Nat.reduceLT,Nat.reduceBEq,h3a] at hz
  have hr:r20 h=false:=(if_pos h3).trans (rfl)
  exact fin hz (by rw [hr]) g1
 have w4:=(hv_h_doors.agree g1).len (P:=Tryz.prog) (t:=23) Tryz.underlying23
 try simp (disch:=first|omega|assumption) only [E0_G,SY,off,agreeKind,ldA,aggD,aField,Nat.reduceAdd,Nat.reduceLT,Nat.reduceBEq,TY_EvH1,b1,h3a,w4] at hz
 rcases dP (20<(h.doors.length:Int)) with ⟨h5a,h5⟩|⟨h5a,h5⟩
 ·try simp only [E0_G,SY,off,agreeKind,Nat.reduceAdd,Nat.reduceLT,Nat.reduceBEq,h5a] at hz
  have hr:r20 h=false:=(if_neg h3).trans ((if_pos h5).trans (rfl))
  exact fin hz (by rw [hr]) g1
 have w6:=(hv_h_ways.agree g1).len (P:=Tryz.prog) (t:=24) Tryz.underlying24
 try simp (disch:=first|omega|assumption) only [E0_G,SY,off,agreeKind,ldA,aggD,aField,Nat.reduceAdd,Nat.reduceLT,Nat.reduceBEq,TY_EvH1,b1,h5a,w6] at hz
 rcases dP (70<(h.ways.length:Int)) with ⟨h7a,h7⟩|⟨h7a,h7⟩
 ·try simp only [E0_G,SY,off,agreeKind,Nat.reduceLT,Nat.reduceBEq,h7a] at hz
  have hr:r20 h=false:=(if_neg h3).trans ((if_neg h5).trans ((if_pos h7).trans (rfl)))
  exact fin hz (by rw [hr]) g1
 try simp only [E0_G,SY,off,agreeKind,Nat.reduceLT,h7a] at hz
 generalize hL8:Rec.loop _ _ _ _=L8 at hz
 obtain ⟨x8,t8,S8e,rfl,hQ8⟩:=loop_met hL8 (fun m t S'=>∃ (k:Nat),m+k=h.doors.length∧k≤h.doors.length∧t.get 1=some (.pointer (some ⟨S.next,0,none⟩))∧t.get 3=some (.int .i64 (k:Int))∧S'.heap.get S.next=some (.cells [v_h_rooms,v_h_doors,v_h_ways] 26 0 true true)∧Agree S S'∧S1.next≤S'.next∧R20_0 h (h.doors.drop k)=R20_0 h h.doors)
  (fun x t S'=>(x=.exit 0∧∃ (k:Nat),S'.heap.get S.next=some (.cells [v_h_rooms,v_h_doors,v_h_ways] 26 0 true true)∧Agree S S'∧S1.next≤S'.next∧k≤h.doors.length∧R20_0 h h.doors=.inr ())∨(x=.ret∧∃ (r2:Bool),t.get 2=some (.bool r2)∧Agree S S'∧R20_0 h h.doors=.inl (r2))) (h.doors.length - 0) ⟨0,by first|rfl|omega|(simp; omega)|simp,by first|rfl|omega|(simp; omega)|simp,by simp only [SY,eq_self,Nat.reduceBEq]<;>rfl,by simp only [SY,Nat.reduceBEq]<;>rfl,b1,g1,Nat.le_refl _,rfl⟩ (by
   rintro m t S8 ⟨k,hi8_0,hi8_1,g8_1,g8_3,bb8_1,ga8,gn8,hd8⟩
   refine .run fun z he=>?_
   have w9:=(hv_h_doors.agree ga8).len (P:=Tryz.prog) (t:=23) Tryz.underlying23
   try simp (disch:=first|omega|assumption) only [E0_G,SY,off,agreeKind,ldA,aggD,aField,Nat.reduceAdd,Nat.reduceLT,Nat.reduceBEq,TY_EvH1,g8_1,g8_3,bb8_1,w4] at he
   rcases dP ((k:Int)<(h.doors.length:Int)) with ⟨h10a,h10⟩|⟨h10a,h10⟩
   ·have hx8:h.doors[k]?=some (h.doors[k]'(by first|omega|simp; omega)):=List.getElem?_eq_getElem _
    generalize h.doors[k]'_=x8 at hx8
    obtain ⟨id11,of11,cc11,ty11,wr11,ex11,cs11,i11,j11,l11,rp11,q11⟩:=LstR.at (hv_h_doors) (P:=Tryz.prog) (t:=23) Tryz.underlying23 tz98 hx8
    obtain ⟨w11_0,w11_1,rp11,rr11_0,rr11_1⟩:=rp11
    have rq11:cs11=[w11_0,w11_1]:=rp11
    subst rq11
    have jr11:=j11
    have j11:=(ga8.2 id11 l11).trans jr11
    have m11_0:cc11[of11]?=some (w11_0):=q11 0 (show 0<2 by decide)
    have m11_1:cc11[of11+1]?=some (w11_1):=q11 1 (show 1<2 by decide)
    have w12:=(rr11_0.agree ga8).len (P:=Tryz.prog) (t:=40) Tryz.underlying40
    try simp (disch:=first|omega|assumption) only [E0_G,SY,off,agreeKind,ldA,aggD,aField,Nat.reduceAdd,Nat.reduceLT,Nat.reduceBEq,TY_EvH1,g8_1,g8_3,bb8_1,h10a,i11,j11,m11_0,w12] at he
    rcases dP (12<(x8.hours.length:Int)) with ⟨h13a,h13⟩|⟨h13a,h13⟩
    ·try simp only [E0_G,SY,off,agreeKind,Nat.reduceAdd,Nat.reduceLT,Nat.reduceBEq,h13a] at he
     rw [drop_cons' hx8] at hd8
     have hf:=(show _=(.inl false:Sum (Bool) (Unit)) from (if_pos h13).trans (rfl)).symm.trans hd8
     exact .ret he (.inr ⟨rfl,⟨false,(by simp only [SY,eq_self,Nat.reduceBEq]<;>rfl),ga8,hf.symm⟩⟩)
    have j14_11:=(ga8.2 id11 l11).trans jr11
    have w15:=(rr11_1.agree ga8).len (P:=Tryz.prog) (t:=40) Tryz.underlying40
    try simp (disch:=first|omega|assumption) only [E0_G,SY,off,agreeKind,ldA,aggD,aField,Nat.reduceAdd,Nat.reduceLT,Nat.reduceBEq,TY_EvH1,g8_1,g8_3,bb8_1,i11,j11,m11_1,h13a,w15] at he
    rcases dP (12<(x8.shut.length:Int)) with ⟨h16a,h16⟩|⟨h16a,h16⟩
    ·try simp only [E0_G,SY,off,agreeKind,Nat.reduceLT,h16a] at he
     rw [drop_cons' hx8] at hd8
     have hf:=(show _=(.inl false:Sum (Bool) (Unit)) from (if_neg h13).trans ((if_pos h16).trans (rfl))).symm.trans hd8
     exact .ret he (.inr ⟨rfl,⟨false,(by simp only [SY,eq_self,Nat.reduceBEq]<;>rfl),ga8,hf.symm⟩⟩)
    have w17:IntKind.i64.wrap ((k:Int)+1)=((k+1:Nat):Int):=by rw [IntWalk.i64_in]<;>omega
    try simp only [E0_G,SY,off,agreeKind,Nat.reduceAdd,Nat.reduceLT,Nat.reduceBEq,g8_3,h16a,w17] at he
    rw [drop_cons' hx8] at hd8
    have hf:=(show _=(R20_0 h (h.doors.drop (k+1)):Sum (Bool) (Unit)) from (if_neg h13).trans ((if_neg h16).trans (rfl))).symm.trans hd8
    exact .next he (m - 1) (by omega) ⟨(k+1),by first|omega|(simp; omega)|simp,by first|omega|(simp; omega)|simp,(by simp only [SY,eq_self,Nat.reduceBEq,g8_1]<;>rfl),(by simp only [SY,eq_self,Nat.reduceBEq,g8_3]<;>rfl),bb8_1,ga8,by omega,hf⟩
   try simp only [SY,h10a] at he
   rw [List.drop_eq_nil_of_le (show h.doors.length≤k by omega)] at hd8
   have hf:=(show _=(.inr ():Sum (Bool) (Unit)) from rfl).symm.trans hd8
   exact .exit he (.inl ⟨rfl,⟨k,bb8_1,ga8,by omega,by first|omega|assumption|simp,hf.symm⟩⟩))
 rcases hQ8 with ⟨rfl,hQ8⟩|⟨rfl,hQ8⟩
 ·obtain ⟨k,be8_1,ge8,gm8,hj8_0,hR8⟩:=hQ8
  try simp only [E0_G,SY,off,agreeKind,eq_self,if_true,Nat.reduceLT,Nat.reduceBEq] at hz
  have hr:r20 h=true:=(if_neg h3).trans ((if_neg h5).trans ((if_neg h7).trans ((onSum_inr hR8).trans (rfl))))
  exact fin hz (by rw [hr]) ge8
 obtain ⟨r2,ge8_2,ge8,hR8⟩:=hQ8
 try simp only [SY,ge8_2] at hz
 have hr:r20 h=r2:=(if_neg h3).trans ((if_neg h5).trans ((if_neg h7).trans ((onSum_inl hR8).trans (rfl))))
 exact fin hz (by rw [hr]) ge8
end House
end Go.Proofs
