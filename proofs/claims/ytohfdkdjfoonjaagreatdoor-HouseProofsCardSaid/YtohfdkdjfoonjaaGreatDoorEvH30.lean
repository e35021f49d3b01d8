import Derived.Test.YtohfdkdjfoonjaaGreatDoorEvH29
set_option linter.unusedSimpArgs false
set_option linter.unusedVariables false
namespace Go.Proofs
namespace House
open Go Go.RowKit Go.Aev
set_option maxRecDepth 100000
theorem TY_EvH30:type_of% TY_EvH28:=TY_EvH28
def R117_0 (l:List Int) (q:List Int)  : List Int→Nat→Sum (Bool) (Unit)
 | [],k=>.inr ()
 | x5 :: l',k=>(if x5=(lget q k) then R117_0 l q l' (k+1) else .inl false)
def r117 (l:List Int) (q:List Int):Bool:=(if (l.length:Int)=(q.length:Int) then (onSum (R117_0 l q l 0) (fun (r4:Bool)=>r4) (fun (_:Unit)=>true)) else false)
set_option maxHeartbeats 2000000 in
theorem c117 (l:List Int) (q:List Int) (hl:l.length≤1000) (S:AS) (v_l:Value) (hv_l:Lst S v_l l) (v_q:Value) (hv_q:Lst S v_q q) :
  ∃ S',(evL Tryz.prog E0).call 117 #[v_l,v_q] S=some (.bool (r117 l q),S')∧Agree S S':=by
 generalize hz:(evL Tryz.prog E0).call 117 _ _=z
 rw [L_call,evCall_said rfl Tryz.func117 rfl (by decide) Tryz.ntmps117 Tryz.results117] at hz
 have w1:=(hv_l).len (P:=Tryz.prog) (t:=54) Tryz.underlying54
 have w2:=(hv_q).len (P:=Tryz.prog) (t:=54) Tryz.underlying54
 try simp (disch:=first|omega|assumption) only [E0_G,SY,setArgs,off,agreeKind,Nat.reduceAdd,Nat.reduceSub,Nat.reduceLT,Nat.reduceBEq,w1,w2] at hz
 rcases dP ((l.length:Int)=(q.length:Int)) with ⟨h3a,h3⟩|⟨h3a,h3⟩
 ·skip
  have w4:=(hv_l).len (P:=Tryz.prog) (t:=54) Tryz.underlying54
  try simp (disch:=first|omega|assumption) only [E0_G,SY,off,agreeKind,Nat.reduceAdd,Nat.reduceLT,Nat.reduceBEq,w1,h3a] at hz
  generalize hL5:Rec.loop _ _ _ _=L5 at hz
  obtain ⟨x5,t5,S5e,rfl,hQ5⟩:=loop_met hL5 (fun m t S'=>∃ (k:Nat),m+k=l.length∧k≤l.length∧t.get 0=some (v_l)∧t.get 1=some (v_q)∧t.get 12=some (.int .i64 (l.length:Int))∧t.get 13=some (.int .i64 (k:Int))∧Agree S S'∧S.next≤S'.next∧R117_0 l q (l.drop k) k=R117_0 l q l 0)
   (fun x t S'=>(x=.exit 0∧∃ (k:Nat),Agree S S'∧S.next≤S'.next∧k≤l.length∧R117_0 l q l 0=.inr ())∨(x=.ret∧∃ (r4:Bool),t.get 4=some (.bool r4)∧Agree S S'∧R117_0 l q l 0=.inl (r4))) (l.length - 0) (by refine ⟨0,?_,?_,?_,?_,?_,?_,(Agree.refl S),Nat.le_refl _,rfl⟩<;>first|(simp only [SY,eq_self,Nat.reduceBEq]<;>rfl)|omega|assumption|(simp; omega)|simp) (by
    rintro m t S5 ⟨k,hi5_0,hi5_1,g5_0,g5_1,g5_12,g5_13,ga5,gn5,hd5⟩
    refine .run fun z he=>?_
    try simp (disch:=first|omega|assumption) only [E0_G,SY,off,agreeKind,Nat.reduceLT,Nat.reduceBEq,g5_12,g5_13] at he
    rcases dP ((k:Int)<(l.length:Int)) with ⟨h6a,h6⟩|⟨h6a,h6⟩
    ·skip
     try simp (disch:=first|omega|assumption) only [E0_G,SY,off,agreeKind,Nat.reduceAdd,Nat.reduceLT,Nat.reduceBEq,g5_13,h6a] at he
     rw [code_draws _ _ _ (by kernel_rfl)] at he
     generalize hnd7:needy _=nd7 at he
     have hx5:l[k]?=some (l[k]'(by first|omega|simp; omega)):=List.getElem?_eq_getElem _
     generalize l[k]'_=x5 at hx5
     obtain ⟨id8,of8,cc8,ty8,wr8,ex8,i8,j8,l8,q8⟩:=(hv_l).at (P:=Tryz.prog) (t:=54) Tryz.underlying54 tz3 hx5
     have jr8:=j8
     have j8:=(ga5.2 id8 l8).trans jr8
     have m8_0:cc8[of8]?=some (.int .i64 x5):=q8 0 (show 0<1 by decide)
     have hx9:q[k]?=some (lget q k):=lget_some (by first|omega|simp; omega)
     obtain ⟨id9,of9,cc9,ty9,wr9,ex9,i9,j9,l9,q9⟩:=(hv_q).at (P:=Tryz.prog) (t:=54) Tryz.underlying54 tz3 hx9
     have jr9:=j9
     have j9:=(ga5.2 id9 l9).trans jr9
     have m9_0:cc9[of9]?=some (.int .i64 (lget q k)):=q9 0 (show 0<1 by decide)
     try simp (disch:=first|omega|assumption) only [E0_G,SY,agreeKind,ldA,aggD,Nat.reduceAdd,Nat.reduceLT,Nat.reduceBEq,TY_EvH30,g5_0,g5_1,store_refl E0_same,i8,j8,m8_0,i9,j9,m9_0] at he
     rcases dP (x5=(lget q k)) with ⟨h10a,h10⟩|⟨h10a,h10⟩
     ·skip
      have w11:IntKind.i64.wrap ((k:Int)+1)=((k+1:Nat):Int):=by rw [IntWalk.i64_in]<;>omega
      try simp (disch:=first|omega|assumption) only [E0_G,SY,off,agreeKind,Nat.reduceAdd,Nat.reduceLT,Nat.reduceBEq,g5_13,store_refl E0_same,h10a,w11] at he
      rw [drop_cons' hx5] at hd5
      have hf:=(show _=(R117_0 l q (l.drop (k+1)) (k+1):Sum (Bool) (Unit)) from (if_pos h10).trans (rfl)).symm.trans hd5
      refine .next he (m - 1) (by omega) ⟨(k+1),?_,?_,?_,?_,?_,?_,ga5,by omega,hf⟩<;>first|(simp only [SY,eq_self,Nat.reduceBEq,g5_0,g5_1,g5_12,g5_13]<;>rfl)|omega|assumption|(simp; omega)|simp
     ·skip
      try simp (disch:=first|omega|assumption) only [E0_G,SY,off,agreeKind,Nat.reduceLT,store_refl E0_same,h10a] at he
      rw [drop_cons' hx5] at hd5
      have hf:=(show _=(.inl false:Sum (Bool) (Unit)) from (if_neg h10).trans (rfl)).symm.trans hd5
      refine .ret he (.inr ⟨rfl,⟨false,?_,ga5,hf.symm⟩⟩)<;>first|(simp only [SY,eq_self,Nat.reduceBEq]<;>rfl)|omega|assumption|(simp; omega)|simp
    ·skip
     try simp (disch:=first|omega|assumption) only [SY,h6a] at he
     rw [List.drop_eq_nil_of_le (show l.length≤k by omega)] at hd5
     have hf:=(show _=(.inr ():Sum (Bool) (Unit)) from rfl).symm.trans hd5
     refine .exit he (.inl ⟨rfl,⟨k,ga5,by omega,?_,hf.symm⟩⟩)<;>first|(simp only [SY,setArgs,off,agreeKind,partVals,vals,allocV,boxed,ldA,rdCells,oneB,aggD,aField,aFieldV,aExtract,eq_self,ne_eq,if_true,if_false,not_false_eq_true,Nat.reduceAdd,Nat.reduceSub,Nat.reduceMul,Nat.reduceLT,Nat.reduceEqDiff,Nat.reduceBEq,reduceIte,Int.reduceEq,Int.reduceLT,Int.reduceLE,reduceCtorEq,g5_0,g5_1,g5_12,g5_13]<;>rfl)|omega|assumption|(simp; omega)|simp)
  rcases hQ5 with ⟨rfl,hQ5⟩|⟨rfl,hQ5⟩
  ·skip
   obtain ⟨k,ge5,gm5,hj5_0,hR5⟩:=hQ5
   try simp (disch:=first|omega|assumption) only [E0_G,SY,off,agreeKind,eq_self,if_true,Nat.reduceLT,Nat.reduceBEq] at hz
   have hr:r117 l q=true:=(if_pos h3).trans ((onSum_inr hR5).trans (rfl))
   exact fin hz (by rw [hr]) ge5
  ·skip
   obtain ⟨r4,ge5_4,ge5,hR5⟩:=hQ5
   try simp (disch:=first|omega|assumption) only [SY,ge5_4] at hz
   have hr:r117 l q=r4:=(if_pos h3).trans ((onSum_inl hR5).trans (rfl))
   exact fin hz (by rw [hr]) ge5
 ·skip
  try simp (disch:=first|omega|assumption) only [E0_G,SY,off,agreeKind,Nat.reduceLT,Nat.reduceBEq,h3a] at hz
  have hr:r117 l q=false:=(if_neg h3).trans (rfl)
  exact fin hz (by rw [hr]) (Agree.refl S)
def r51 (h:Hs) (fr:Int) (ti:Int) (l:List Int):Int:=(if ((r41 h fr ti).2)=0 then (if (r117 (l:List Int) ((r41 h fr ti).1:List Int))=true then 0 else 8) else (r41 h fr ti).2)
set_option maxHeartbeats 8000000 in
theorem c51 (h:Hs) (fr:Int) (ti:Int) (l:List Int) (hF:Few h) (hs:∀ x ∈ h.rooms,x.name.size≤9223372036854775807) (hl:l.length≤40) (S:AS) (v_h_rooms:Value) (hv_h_rooms:LstR S v_h_rooms h.rooms) (v_h_doors:Value) (hv_h_doors:LstR S v_h_doors h.doors) (v_h_ways:Value) (hv_h_ways:Lst S v_h_ways h.ways) (v_l:Value) (hv_l:Lst S v_l l) :
  ∃ S',(evL Tryz.prog E0).call 51 #[.agg #[v_h_rooms,v_h_doors,v_h_ways],.int .i64 fr,.int .i64 ti,v_l] S=some (.int .i64 (r51 h fr ti l),S')∧Agree S S':=by
 have qr:=hF.r; have qd:=hF.d; have qw:=hF.w
 generalize hz:(evL Tryz.prog E0).call 51 _ _=z
 rw [L_call,evCall_said rfl Tryz.func51 rfl (by decide) Tryz.ntmps51 Tryz.results51] at hz
 obtain ⟨S1,e1,n1,b1,a1⟩:=push_open S (.cells [v_h_rooms,v_h_doors,v_h_ways] 26 0 true true)
 have g1:Agree S S1:=a1
 obtain ⟨u2,S2,k2,a2,oo2⟩:=c41 h fr ti hF hs S1 (v_h_rooms) (hv_h_rooms.agree g1) (v_h_doors) (hv_h_doors.agree g1) (v_h_ways) (hv_h_ways.agree g1)
 have l2:=a2.1
 obtain ⟨pu2,nu2,cu2,rfl⟩:=own_slice oo2
 have g2:Agree S S2:=g1.trans a2
 try simp (disch:=first|omega|assumption) only [E0_G,SY,setArgs,off,agreeKind,vals,boxed,ldA,rdCells,aggD,aExtract,Nat.reduceAdd,Nat.reduceSub,Nat.reduceLT,Nat.reduceBEq,TY_EvH30,e1,b1,k2] at hz
 rcases dP (((r41 h fr ti).2)=0) with ⟨h3a,h3⟩|⟨h3a,h3⟩
 ·skip
  obtain ⟨S4,k4,a4⟩:=c117 (l:List Int) ((r41 h fr ti).1:List Int) (by omega) S2 (v_l) (hv_l.agree g2) (.slice pu2 nu2 cu2) (oo2.rows)
  have l4:=a4.1
  have o2_5:=oo2.agree a4
  have g4:Agree S S4:=g2.trans a4
  try simp (disch:=first|omega|assumption) only [E0_G,SY,off,agreeKind,vals,Nat.reduceAdd,Nat.reduceLT,Nat.reduceBEq,h3a,k4] at hz
  rcases dB ((r117 (l:List Int) ((r41 h fr ti).1:List Int))) with ⟨h6a,h6⟩|⟨h6a,h6⟩
  ·skip
   try simp (disch:=first|omega|assumption) only [E0_G,SY,off,agreeKind,Nat.reduceLT,Nat.reduceBEq,h6a] at hz
   have hr:r51 h fr ti l=0:=(if_pos h3).trans ((if_pos h6).trans (rfl))
   exact fin hz (by rw [hr]) g4
  ·skip
   try simp (disch:=first|omega|assumption) only [E0_G,SY,off,agreeKind,Nat.reduceLT,Nat.reduceBEq,h6a] at hz
   have hr:r51 h fr ti l=8:=(if_pos h3).trans ((if_neg h6).trans (rfl))
   exact fin hz (by rw [hr]) g4
 ·skip
  try simp (disch:=first|omega|assumption) only [E0_G,SY,off,agreeKind,Nat.reduceAdd,Nat.reduceLT,Nat.reduceBEq,h3a] at hz
  have hr:r51 h fr ti l=(r41 h fr ti).2:=(if_neg h3).trans (rfl)
  exact fin hz (by rw [hr]) g2
def R52_0 (h:Hs) (a:Int) (ta:Int) (b:Int) (tb:Int) (l:List Int)  : List Int→Sum (Int) (Unit)
 | []=>.inr ()
 | x9 :: l'=>(if x9<0 then .inl 8 else (if 1073741824<x9 then .inl 8 else R52_0 h a ta b tb l l'))
def r52 (h:Hs) (a:Int) (ta:Int) (b:Int) (tb:Int) (l:List Int):Int:=(if (r113 h a ta b tb)=0 then (if (l.length:Int)=(h.rooms.length:Int) then (onSum (R52_0 h a ta b tb l l) (fun (r12:Int)=>r12) (fun (_:Unit)=>(if ta<(lget l (Int.toNat a)) then 8 else (if (lget l (Int.toNat b))≤tb then 8 else (if r118 h l=true then 0 else 8))))) else 8) else (r113 h a ta b tb))
set_option maxHeartbeats 8000000 in
theorem c52 (h:Hs) (a:Int) (ta:Int) (b:Int) (tb:Int) (l:List Int) (hF:Few h) (hs:∀ x ∈ h.rooms,x.name.size≤9223372036854775807) (hl:l.length≤40) (S:AS) (v_h_rooms:Value) (hv_h_rooms:LstR S v_h_rooms h.rooms) (v_h_doors:Value) (hv_h_doors:LstR S v_h_doors h.doors) (v_h_ways:Value) (hv_h_ways:Lst S v_h_ways h.ways) (v_l:Value) (hv_l:Lst S v_l l) :
  ∃ S',(evL Tryz.prog E0).call 52 #[.agg #[v_h_rooms,v_h_doors,v_h_ways],.int .i64 a,.int .i64 ta,.int .i64 b,.int .i64 tb,v_l] S=some (.int .i64 (r52 h a ta b tb l),S')∧Agree S S':=by
 have qr:=hF.r; have qd:=hF.d; have qw:=hF.w
 generalize hz:(evL Tryz.prog E0).call 52 _ _=z
 rw [L_call,evCall_said rfl Tryz.func52 rfl (by decide) Tryz.ntmps52 Tryz.results52] at hz
 obtain ⟨S1,e1,n1,b1,a1⟩:=push_open S (.cells [v_h_rooms,v_h_doors,v_h_ways] 26 0 true true)
 have g1:Agree S S1:=a1
 obtain ⟨S2,k2,a2⟩:=c113 h a ta b tb hF hs S1 (v_h_rooms) (hv_h_rooms.agree g1) (v_h_doors) (hv_h_doors.agree g1) (v_h_ways) (hv_h_ways.agree g1)
 have l2:=a2.1
 have v1_2:=(a2.2 S.next (by omega)).trans b1
 have g2:Agree S S2:=g1.trans a2
 try simp (disch:=first|omega|assumption) only [E0_G,SY,setArgs,off,agreeKind,vals,boxed,ldA,rdCells,aggD,Nat.reduceAdd,Nat.reduceSub,Nat.reduceLT,Nat.reduceBEq,TY_EvH30,e1,b1,k2] at hz
 rcases dP ((r113 h a ta b tb)=0) with ⟨h3a,h3⟩|⟨h3a,h3⟩
 ·skip
  have hV:=(r113_ok h3).1
  have lq4:=(r113_ok h3).2
  have w5:=(hv_l.agree g2).len (P:=Tryz.prog) (t:=54) Tryz.underlying54
  have w6:=(hv_h_rooms.agree g2).len (P:=Tryz.prog) (t:=22) Tryz.underlying22
  try simp (disch:=first|omega|assumption) only [E0_G,SY,off,agreeKind,ldA,aggD,aField,Nat.reduceAdd,Nat.reduceLT,Nat.reduceBEq,TY_EvH30,v1_2,h3a,w5,w6] at hz
  rcases dP ((l.length:Int)=(h.rooms.length:Int)) with ⟨h7a,h7⟩|⟨h7a,h7⟩
  ·skip
   have w8:=(hv_l.agree g2).len (P:=Tryz.prog) (t:=54) Tryz.underlying54
   try simp (disch:=first|omega|assumption) only [E0_G,SY,off,agreeKind,Nat.reduceAdd,Nat.reduceLT,Nat.reduceBEq,w5,h7a] at hz
   generalize hL9:Rec.loop _ _ _ _=L9 at hz
   obtain ⟨x9,t9,S9e,rfl,hQ9⟩:=loop_met hL9 (fun m t S'=>∃ (k:Nat),m+k=l.length∧k≤l.length∧t.get 1=some (.int .i64 a)∧t.get 2=some (.int .i64 ta)∧t.get 3=some (.int .i64 b)∧t.get 4=some (.int .i64 tb)∧t.get 5=some (v_l)∧t.get 6=some (.pointer (some ⟨S.next,0,none⟩))∧t.get 31=some (v_l)∧t.get 32=some (.int .i64 (l.length:Int))∧t.get 33=some (.int .i64 (k:Int))∧S'.heap.get S.next=some (.cells [v_h_rooms,v_h_doors,v_h_ways] 26 0 true true)∧Agree S S'∧S2.next≤S'.next∧R52_0 h a ta b tb l (l.drop k)=R52_0 h a ta b tb l l)
    (fun x t S'=>(x=.exit 0∧∃ (k:Nat),t.get 1=some (.int .i64 a)∧t.get 2=some (.int .i64 ta)∧t.get 3=some (.int .i64 b)∧t.get 4=some (.int .i64 tb)∧t.get 5=some (v_l)∧t.get 6=some (.pointer (some ⟨S.next,0,none⟩))∧S'.heap.get S.next=some (.cells [v_h_rooms,v_h_doors,v_h_ways] 26 0 true true)∧Agree S S'∧S2.next≤S'.next∧k≤l.length∧R52_0 h a ta b tb l l=.inr ())∨(x=.ret∧∃ (r12:Int),t.get 12=some (.int .i64 r12)∧Agree S S'∧R52_0 h a ta b tb l l=.inl (r12))) (l.length - 0) (by refine ⟨0,?_,?_,?_,?_,?_,?_,?_,?_,?_,?_,?_,v1_2,g2,Nat.le_refl _,rfl⟩<;>first|(simp only [SY,eq_self,Nat.reduceBEq]<;>rfl)|omega|assumption|(simp; omega)|simp) (by
     rintro m t S9 ⟨k,hi9_0,hi9_1,g9_1,g9_2,g9_3,g9_4,g9_5,g9_6,g9_31,g9_32,g9_33,bb9_1,ga9,gn9,hd9⟩
     refine .run fun z he=>?_
     try simp (disch:=first|omega|assumption) only [E0_G,SY,off,agreeKind,Nat.reduceLT,Nat.reduceBEq,g9_32,g9_33] at he
     rcases dP ((k:Int)<(l.length:Int)) with ⟨h10a,h10⟩|⟨h10a,h10⟩
     ·skip
      have hx9:l[k]?=some (l[k]'(by first|omega|simp; omega)):=List.getElem?_eq_getElem _
      generalize l[k]'_=x9 at hx9
      obtain ⟨id11,of11,cc11,ty11,wr11,ex11,i11,j11,l11,q11⟩:=(hv_l).at (P:=Tryz.prog) (t:=54) Tryz.underlying54 tz3 hx9
      have jr11:=j11
      have j11:=(ga9.2 id11 l11).trans jr11
      have m11_0:cc11[of11]?=some (.int .i64 x9):=q11 0 (show 0<1 by decide)
      try simp (disch:=first|omega|assumption) only [E0_G,SY,off,agreeKind,ldA,aggD,Nat.reduceAdd,Nat.reduceLT,Nat.reduceBEq,TY_EvH30,g9_31,g9_33,h10a,i11,j11,m11_0] at he
      rcases dP (x9<0) with ⟨h12a,h12⟩|⟨h12a,h12⟩
      ·skip
       try simp (disch:=first|omega|assumption) only [E0_G,SY,off,agreeKind,Nat.reduceAdd,Nat.reduceLT,Nat.reduceBEq,h12a] at he
       rw [drop_cons' hx9] at hd9
       have hf:=(show _=(.inl 8:Sum (Int) (Unit)) from (if_pos h12).trans (rfl)).symm.trans hd9
       refine .ret he (.inr ⟨rfl,⟨8,?_,ga9,hf.symm⟩⟩)<;>first|(simp only [SY,eq_self,Nat.reduceBEq]<;>rfl)|omega|assumption|(simp; omega)|simp
      ·skip
       try simp (disch:=first|omega|assumption) only [E0_G,SY,off,agreeKind,Nat.reduceAdd,Nat.reduceLT,Nat.reduceBEq,h12a] at he
       rcases dP (1073741824<x9) with ⟨h13a,h13⟩|⟨h13a,h13⟩
       ·skip
        try simp (disch:=first|omega|assumption) only [E0_G,SY,off,agreeKind,Nat.reduceLT,h13a] at he
        rw [drop_cons' hx9] at hd9
        have hf:=(show _=(.inl 8:Sum (Int) (Unit)) from (if_neg h12).trans ((if_pos h13).trans (rfl))).symm.trans hd9
        refine .ret he (.inr ⟨rfl,⟨8,?_,ga9,hf.symm⟩⟩)<;>first|(simp only [SY,eq_self,Nat.reduceBEq]<;>rfl)|omega|assumption|(simp; omega)|simp
       ·skip
        have w14:IntKind.i64.wrap ((k:Int)+1)=((k+1:Nat):Int):=by rw [IntWalk.i64_in]<;>omega
        try simp (disch:=first|omega|assumption) only [E0_G,SY,off,agreeKind,Nat.reduceAdd,Nat.reduceLT,Nat.reduceBEq,g9_33,h13a,w14] at he
        rw [drop_cons' hx9] at hd9
        have hf:=(show _=(R52_0 h a ta b tb l (l.drop (k+1)):Sum (Int) (Unit)) from (if_neg h12).trans ((if_neg h13).trans (rfl))).symm.trans hd9
        refine .next he (m - 1) (by omega) ⟨(k+1),?_,?_,?_,?_,?_,?_,?_,?_,?_,?_,?_,bb9_1,ga9,by omega,hf⟩<;>first|(simp only [SY,eq_self,Nat.reduceBEq,g9_1,g9_2,g9_3,g9_4,g9_5,g9_6,g9_31,g9_32,g9_33]<;>rfl)|omega|assumption|(simp; omega)|simp
     ·skip
      try simp (disch:=first|omega|assumption) only [SY,h10a] at he
      rw [List.drop_eq_nil_of_le (show l.length≤k by omega)] at hd9
      have hf:=(show _=(.inr ():Sum (Int) (Unit)) from rfl).symm.trans hd9
      refine .exit he (.inl ⟨rfl,⟨k,?_,?_,?_,?_,?_,?_,bb9_1,ga9,by omega,?_,hf.symm⟩⟩)<;>first|(simp only [SY,eq_self,Nat.reduceBEq,g9_1,g9_2,g9_3,g9_4,g9_5,g9_6]<;>rfl)|omega|assumption|(simp; omega)|simp)
   rcases hQ9 with ⟨rfl,hQ9⟩|⟨rfl,hQ9⟩
   ·skip
    obtain ⟨k,ge9_1,ge9_2,ge9_3,ge9_4,ge9_5,ge9_6,be9_1,ge9,gm9,hj9_0,hR9⟩:=hQ9
    have qz16:((Int.toNat a:Nat):Int)=a:=Int.toNat_of_nonneg (by first|omega|simp; omega)
    have hx17:l[(Int.toNat a)]?=some (lget l (Int.toNat a)):=lget_some (by first|omega|simp; omega)
    obtain ⟨id17,of17,cc17,ty17,wr17,ex17,i17,j17,l17,q17⟩:=(hv_l).at (P:=Tryz.prog) (t:=54) Tryz.underlying54 tz3 hx17
    have jr17:=j17
    have j17:=(ge9.2 id17 l17).trans jr17
    have m17_0:cc17[of17]?=some (.int .i64 (lget l (Int.toNat a))):=q17 0 (show 0<1 by decide)
    rw [qz16] at i17
    try simp (disch:=first|omega|assumption) only [E0_G,SY,off,agreeKind,ldA,aggD,eq_self,if_true,Nat.reduceAdd,Nat.reduceLT,Nat.reduceBEq,TY_EvH30,ge9_1,ge9_2,ge9_5,i17,j17,m17_0] at hz
    rcases dP (ta<(lget l (Int.toNat a))) with ⟨h18a,h18⟩|⟨h18a,h18⟩
    ·skip
     try simp (disch:=first|omega|assumption) only [E0_G,SY,off,agreeKind,Nat.reduceAdd,Nat.reduceLT,Nat.reduceBEq,h18a] at hz
     have hr:r52 h a ta b tb l=8:=(if_pos h3).trans ((if_pos h7).trans ((onSum_inr hR9).trans ((if_pos h18).trans (rfl))))
     exact fin hz (by rw [hr]) ge9
    ·skip
     have qz19:((Int.toNat b:Nat):Int)=b:=Int.toNat_of_nonneg (by first|omega|simp; omega)
     have hx20:l[(Int.toNat b)]?=some (lget l (Int.toNat b)):=lget_some (by first|omega|simp; omega)
     obtain ⟨id20,of20,cc20,ty20,wr20,ex20,i20,j20,l20,q20⟩:=(hv_l).at (P:=Tryz.prog) (t:=54) Tryz.underlying54 tz3 hx20
     have jr20:=j20
     have j20:=(ge9.2 id20 l20).trans jr20
     have m20_0:cc20[of20]?=some (.int .i64 (lget l (Int.toNat b))):=q20 0 (show 0<1 by decide)
     rw [qz19] at i20
     try simp (disch:=first|omega|assumption) only [E0_G,SY,off,agreeKind,ldA,aggD,Nat.reduceAdd,Nat.reduceLT,Nat.reduceBEq,TY_EvH30,ge9_3,ge9_4,ge9_5,h18a,i20,j20,m20_0] at hz
     rcases dP ((lget l (Int.toNat b))≤tb) with ⟨h21a,h21⟩|⟨h21a,h21⟩
     ·skip
      try simp (disch:=first|omega|assumption) only [E0_G,SY,off,agreeKind,Nat.reduceAdd,Nat.reduceLT,Nat.reduceBEq,h21a] at hz
      have hr:r52 h a ta b tb l=8:=(if_pos h3).trans ((if_pos h7).trans ((onSum_inr hR9).trans ((if_neg h18).trans ((if_pos h21).trans (rfl)))))
      exact fin hz (by rw [hr]) ge9
     ·skip
      obtain ⟨S22,k22,a22⟩:=c118 h l (by omega) hV (by omega) S9e (v_h_rooms) (hv_h_rooms.agree ge9) (v_h_doors) (hv_h_doors.agree ge9) (v_h_ways) (hv_h_ways.agree ge9) (v_l) (hv_l.agree ge9)
      have l22:=a22.1
      have g22:Agree S S22:=ge9.trans a22
      try simp (disch:=first|omega|assumption) only [E0_G,SY,off,agreeKind,vals,ldA,rdCells,aggD,Nat.reduceAdd,Nat.reduceLT,Nat.reduceBEq,TY_EvH30,ge9_5,ge9_6,be9_1,h21a,k22] at hz
      rcases dB (r118 h l) with ⟨h23a,h23⟩|⟨h23a,h23⟩
      ·skip
       try simp (disch:=first|omega|assumption) only [E0_G,SY,off,agreeKind,Nat.reduceLT,Nat.reduceBEq,h23a] at hz
       have hr:r52 h a ta b tb l=0:=(if_pos h3).trans ((if_pos h7).trans ((onSum_inr hR9).trans ((if_neg h18).trans ((if_neg h21).trans ((if_pos h23).trans (rfl))))))
       exact fin hz (by rw [hr]) g22
      ·skip
       try simp (disch:=first|omega|assumption) only [E0_G,SY,off,agreeKind,Nat.reduceLT,Nat.reduceBEq,h23a] at hz
       have hr:r52 h a ta b tb l=8:=(if_pos h3).trans ((if_pos h7).trans ((onSum_inr hR9).trans ((if_neg h18).trans ((if_neg h21).trans ((if_neg h23).trans (rfl))))))
       exact fin hz (by rw [hr]) g22
   ·skip
    obtain ⟨r12,ge9_12,ge9,hR9⟩:=hQ9
    try simp (disch:=first|omega|assumption) only [SY,ge9_12] at hz
    have hr:r52 h a ta b tb l=r12:=(if_pos h3).trans ((if_pos h7).trans ((onSum_inl hR9).trans (rfl)))
    exact fin hz (by rw [hr]) ge9
  ·skip
   try simp (disch:=first|omega|assumption) only [E0_G,SY,off,agreeKind,Nat.reduceLT,Nat.reduceBEq,h7a] at hz
   have hr:r52 h a ta b tb l=8:=(if_pos h3).trans ((if_neg h7).trans (rfl))
   exact fin hz (by rw [hr]) g2
 ·skip
  try simp (disch:=first|omega|assumption) only [E0_G,SY,off,agreeKind,Nat.reduceAdd,Nat.reduceLT,Nat.reduceBEq,h3a] at hz
  have hr:r52 h a ta b tb l=(r113 h a ta b tb):=(if_neg h3).trans (rfl)
  exact fin hz (by rw [hr]) g2
def R55_0 (h:Hs) (a:Int) (ta:Int) (b:Int) (tb:Int) (l:List Int)  : List Int→Sum (Bool) (Unit)
 | []=>.inr ()
 | x5 :: l'=>(if (r71 x5 0 1073741824)=true then R55_0 h a ta b tb l l' else .inl false)
def R55_1 (h:Hs) (a:Int) (ta:Int) (b:Int) (tb:Int) (l:List Int)  : List Gt→Sum (Bool) (Unit)
 | []=>.inr ()
 | x21 :: l'=>(if (lget l (Int.toNat x21.fr))<1073741824 then (if (r99 h x21 (lget l (Int.toNat x21.fr)))<(lget l (Int.toNat x21.to)) then .inl false else R55_1 h a ta b tb l l') else R55_1 h a ta b tb l l')
def r55 (h:Hs) (a:Int) (ta:Int) (b:Int) (tb:Int) (l:List Int):Bool:=(if (l.length:Int)=(h.rooms.length:Int) then (onSum (R55_0 h a ta b tb l l) (fun (r12:Bool)=>r12) (fun (_:Unit)=>(if ta<(lget l (Int.toNat a)) then false else (if (lget l (Int.toNat b))≤tb then false else (onSum (R55_1 h a ta b tb l (r116 h)) (fun (r12:Bool)=>r12) (fun (_:Unit)=>true)))))) else false)
set_option maxHeartbeats 16000000 in
theorem c55 (h:Hs) (a:Int) (ta:Int) (b:Int) (tb:Int) (l:List Int) (hF:Few h) (hV:r59 h=0) (hl:l.length≤40) (ha:0≤a∧a<(h.rooms.length:Int)) (hb:0≤b∧b<(h.rooms.length:Int)) (S:AS) (v_h_rooms:Value) (hv_h_rooms:LstR S v_h_rooms h.rooms) (v_h_doors:Value) (hv_h_doors:LstR S v_h_doors h.doors) (v_h_ways:Value) (hv_h_ways:Lst S v_h_ways h.ways) (v_l:Value) (hv_l:Lst S v_l l) :
  ∃ S',(evL Tryz.prog E0).call 55 #[.agg #[v_h_rooms,v_h_doors,v_h_ways],.int .i64 a,.int .i64 ta,.int .i64 b,.int .i64 tb,v_l] S=some (.bool (r55 h a ta b tb l),S')∧Agree S S':=by
 have qr:=hF.r; have qd:=hF.d; have qw:=hF.w; have hgl:=r116_len h
 have q0:∀ (m:List Int),R55_0 h a ta b tb l m=.inr ()→∀ x ∈ m,0≤x∧x≤1073741824:=by
  intro m
  induction m with
  | nil=>intro _ x hx; simp at hx
  | cons y m ih =>
   intro e x hx
   rw [R55_0] at e
   split at e
   ·rcases List.mem_cons.1 hx with rfl|hx
    ·exact r71_iff.1 (by assumption)
    ·exact ih e x hx
   ·cases e
 generalize hz:(evL Tryz.prog E0).call 55 _ _=z
 rw [L_call,evCall_said rfl Tryz.func55 rfl (by decide) Tryz.ntmps55 Tryz.results55] at hz
 obtain ⟨S1,e1,n1,b1,a1⟩:=push_open S (.cells [v_h_rooms,v_h_doors,v_h_ways] 26 0 true true)
 have g1:Agree S S1:=a1
 have s1:E0.same S S1=true:=symEnv_same a1
 have w2:=(hv_l.agree g1).len (P:=Tryz.prog) (t:=54) Tryz.underlying54
 have w3:=(hv_h_rooms.agree g1).len (P:=Tryz.prog) (t:=22) Tryz.underlying22
 try simp (disch:=first|omega|assumption) only [E0_G,SY,setArgs,off,agreeKind,boxed,ldA,aggD,aField,Nat.reduceAdd,Nat.reduceSub,Nat.reduceLT,Nat.reduceBEq,TY_EvH30,e1,b1,w2,w3] at hz
 rcases dP ((l.length:Int)=(h.rooms.length:Int)) with ⟨h4a,h4⟩|⟨h4a,h4⟩
 ·skip
  try simp (disch:=first|omega|assumption) only [E0_G,SY,off,agreeKind,Nat.reduceLT,h4a] at hz
  generalize hL5:Rec.loop _ _ _ _=L5 at hz
  obtain ⟨x5,t5,S5e,rfl,hQ5⟩:=loop_met hL5 (fun m t S'=>∃ (k:Nat),m+k=l.length∧k≤l.length∧t.get 1=some (.int .i64 a)∧t.get 2=some (.int .i64 ta)∧t.get 3=some (.int .i64 b)∧t.get 4=some (.int .i64 tb)∧t.get 5=some (v_l)∧t.get 6=some (.pointer (some ⟨S.next,0,none⟩))∧t.get 13=some (.int .i64 (k:Int))∧S'.heap.get S.next=some (.cells [v_h_rooms,v_h_doors,v_h_ways] 26 0 true true)∧Agree S S'∧S1.next≤S'.next∧R55_0 h a ta b tb l (l.drop k)=R55_0 h a ta b tb l l)
   (fun x t S'=>(x=.exit 0∧∃ (k:Nat),t.get 1=some (.int .i64 a)∧t.get 2=some (.int .i64 ta)∧t.get 3=some (.int .i64 b)∧t.get 4=some (.int .i64 tb)∧t.get 5=some (v_l)∧t.get 6=some (.pointer (some ⟨S.next,0,none⟩))∧S'.heap.get S.next=some (.cells [v_h_rooms,v_h_doors,v_h_ways] 26 0 true true)∧Agree S S'∧S1.next≤S'.next∧k≤l.length∧R55_0 h a ta b tb l l=.inr ())∨(x=.ret∧∃ (r12:Bool),t.get 12=some (.bool r12)∧Agree S S'∧R55_0 h a ta b tb l l=.inl (r12))) (l.length - 0) (by refine ⟨0,?_,?_,?_,?_,?_,?_,?_,?_,?_,b1,g1,Nat.le_refl _,rfl⟩<;>first|(simp only [SY,eq_self,Nat.reduceBEq]<;>rfl)|omega|assumption|(simp; omega)|simp) (by
    rintro m t S5 ⟨k,hi5_0,hi5_1,g5_1,g5_2,g5_3,g5_4,g5_5,g5_6,g5_13,bb5_1,ga5,gn5,hd5⟩
    refine .run fun z he=>?_
    have w6:=(hv_l.agree ga5).len (P:=Tryz.prog) (t:=54) Tryz.underlying54
    try simp (disch:=first|omega|assumption) only [E0_G,SY,off,agreeKind,Nat.reduceAdd,Nat.reduceLT,Nat.reduceBEq,g5_5,g5_13,w2] at he
    rcases dP ((k:Int)<(l.length:Int)) with ⟨h7a,h7⟩|⟨h7a,h7⟩
    ·skip
     have hx5:l[k]?=some (l[k]'(by first|omega|simp; omega)):=List.getElem?_eq_getElem _
     generalize l[k]'_=x5 at hx5
     obtain ⟨id8,of8,cc8,ty8,wr8,ex8,i8,j8,l8,q8⟩:=(hv_l).at (P:=Tryz.prog) (t:=54) Tryz.underlying54 tz3 hx5
     have jr8:=j8
     have j8:=(ga5.2 id8 l8).trans jr8
     have m8_0:cc8[of8]?=some (.int .i64 x5):=q8 0 (show 0<1 by decide)
     obtain ⟨S9,k9,a9⟩:=c71 x5 0 1073741824  S5
     have l9:=a9.1
     have s9:E0.same S5 S9=true:=symEnv_same a9
     have v1_9:=(a9.2 S.next (by omega)).trans bb5_1
     have g9:Agree S S9:=ga5.trans a9
     try simp (disch:=first|omega|assumption) only [E0_G,SY,off,agreeKind,vals,ldA,aggD,Nat.reduceAdd,Nat.reduceLT,Nat.reduceBEq,TY_EvH30,g5_5,g5_13,h7a,i8,j8,m8_0,k9] at he
     rcases dB ((r71 x5 0 1073741824)) with ⟨h10a,h10⟩|⟨h10a,h10⟩
     ·skip
      have lq11:=r71_iff.1 h10
      have w12:IntKind.i64.wrap ((k:Int)+1)=((k+1:Nat):Int):=by rw [IntWalk.i64_in]<;>omega
      try simp (disch:=first|omega|assumption) only [E0_G,SY,off,agreeKind,Nat.reduceAdd,Nat.reduceLT,Nat.reduceBEq,g5_13,h10a,w12] at he
      rw [drop_cons' hx5] at hd5
      have hf:=(show _=(R55_0 h a ta b tb l (l.drop (k+1)):Sum (Bool) (Unit)) from (if_pos h10).trans (rfl)).symm.trans hd5
      refine .next he (m - 1) (by omega) ⟨(k+1),?_,?_,?_,?_,?_,?_,?_,?_,?_,v1_9,g9,by omega,hf⟩<;>first|(simp only [SY,eq_self,Nat.reduceBEq,g5_1,g5_2,g5_3,g5_4,g5_5,g5_6,g5_13]<;>rfl)|omega|assumption|(simp; omega)|simp
     ·skip
      try simp (disch:=first|omega|assumption) only [E0_G,SY,off,agreeKind,Nat.reduceLT,h10a] at he
      rw [drop_cons' hx5] at hd5
      have hf:=(show _=(.inl false:Sum (Bool) (Unit)) from (if_neg h10).trans (rfl)).symm.trans hd5
      refine .ret he (.inr ⟨rfl,⟨false,?_,g9,hf.symm⟩⟩)<;>first|(simp only [SY,eq_self,Nat.reduceBEq]<;>rfl)|omega|assumption|(simp; omega)|simp
    ·skip
     try simp (disch:=first|omega|assumption) only [SY,h7a] at he
     rw [List.drop_eq_nil_of_le (show l.length≤k by omega)] at hd5
     have hf:=(show _=(.inr ():Sum (Bool) (Unit)) from rfl).symm.trans hd5
     refine .exit he (.inl ⟨rfl,⟨k,?_,?_,?_,?_,?_,?_,bb5_1,ga5,by omega,?_,hf.symm⟩⟩)<;>first|(simp only [SY,eq_self,Nat.reduceBEq,g5_1,g5_2,g5_3,g5_4,g5_5,g5_6]<;>rfl)|omega|assumption|(simp; omega)|simp)
  rcases hQ5 with ⟨rfl,hQ5⟩|⟨rfl,hQ5⟩
  ·skip
   obtain ⟨k,ge5_1,ge5_2,ge5_3,ge5_4,ge5_5,ge5_6,be5_1,ge5,gm5,hj5_0,hR5⟩:=hQ5
   have qz14:((Int.toNat a:Nat):Int)=a:=Int.toNat_of_nonneg (by first|omega|simp; omega)
   have hx15:l[(Int.toNat a)]?=some (lget l (Int.toNat a)):=lget_some (by first|omega|simp; omega)
   obtain ⟨id15,of15,cc15,ty15,wr15,ex15,i15,j15,l15,q15⟩:=(hv_l).at (P:=Tryz.prog) (t:=54) Tryz.underlying54 tz3 hx15
   have jr15:=j15
   have j15:=(ge5.2 id15 l15).trans jr15
   have m15_0:cc15[of15]?=some (.int .i64 (lget l (Int.toNat a))):=q15 0 (show 0<1 by decide)
   rw [qz14] at i15
   try simp (disch:=first|omega|assumption) only [E0_G,SY,off,agreeKind,ldA,aggD,eq_self,if_true,Nat.reduceAdd,Nat.reduceLT,Nat.reduceBEq,TY_EvH30,ge5_1,ge5_2,ge5_5,i15,j15,m15_0] at hz
   rcases dP (ta<(lget l (Int.toNat a))) with ⟨h16a,h16⟩|⟨h16a,h16⟩
   ·skip
    try simp (disch:=first|omega|assumption) only [E0_G,SY,off,agreeKind,Nat.reduceAdd,Nat.reduceLT,Nat.reduceBEq,h16a] at hz
    have hr:r55 h a ta b tb l=false:=(if_pos h4).trans ((onSum_inr hR5).trans ((if_pos h16).trans (rfl)))
    exact fin hz (by rw [hr]) ge5
   ·skip
    have qz17:((Int.toNat b:Nat):Int)=b:=Int.toNat_of_nonneg (by first|omega|simp; omega)
    have hx18:l[(Int.toNat b)]?=some (lget l (Int.toNat b)):=lget_some (by first|omega|simp; omega)
    obtain ⟨id18,of18,cc18,ty18,wr18,ex18,i18,j18,l18,q18⟩:=(hv_l).at (P:=Tryz.prog) (t:=54) Tryz.underlying54 tz3 hx18
    have jr18:=j18
    have j18:=(ge5.2 id18 l18).trans jr18
    have m18_0:cc18[of18]?=some (.int .i64 (lget l (Int.toNat b))):=q18 0 (show 0<1 by decide)
    rw [qz17] at i18
    try simp (disch:=first|omega|assumption) only [E0_G,SY,off,agreeKind,ldA,aggD,Nat.reduceAdd,Nat.reduceLT,Nat.reduceBEq,TY_EvH30,ge5_3,ge5_4,ge5_5,h16a,i18,j18,m18_0] at hz
    rcases dP ((lget l (Int.toNat b))≤tb) with ⟨h19a,h19⟩|⟨h19a,h19⟩
    ·skip
     try simp (disch:=first|omega|assumption) only [E0_G,SY,off,agreeKind,Nat.reduceLT,Nat.reduceBEq,h19a] at hz
     have hr:r55 h a ta b tb l=false:=(if_pos h4).trans ((onSum_inr hR5).trans ((if_neg h16).trans ((if_pos h19).trans (rfl))))
     exact fin hz (by rw [hr]) ge5
    ·skip
     obtain ⟨u20,S20,k20,a20,oo20⟩:=c116 h hF S5e (v_h_rooms) (hv_h_rooms.agree ge5) (v_h_doors) (hv_h_doors.agree ge5) (v_h_ways) (hv_h_ways.agree ge5)
     have l20:=a20.1
     obtain ⟨pu20,nu20,cu20,rfl⟩:=own_slice oo20
     have s20:E0.same S5e S20=true:=symEnv_same a20
     have v1_20:=(a20.2 S.next (by omega)).trans be5_1
     have g20:Agree S S20:=ge5.trans a20
     try simp (disch:=first|omega|assumption) only [E0_G,SY,off,agreeKind,vals,ldA,rdCells,aggD,Nat.reduceAdd,Nat.reduceLT,Nat.reduceBEq,TY_EvH30,ge5_6,be5_1,h19a,k20] at hz
     have hl0:=q0 _ (by assumption)
     generalize hL21:Rec.loop _ _ _ _=L21 at hz
     obtain ⟨x21,t21,S21e,rfl,hQ21⟩:=loop_met hL21 (fun m t S'=>∃ (gv:Nat),m+gv=(r116 h).length∧gv≤(r116 h).length∧t.get 5=some (v_l)∧t.get 6=some (.pointer (some ⟨S.next,0,none⟩))∧t.get 14=some (.slice pu20 nu20 cu20)∧t.get 15=some (.int .i64 (gv:Int))∧S'.heap.get S.next=some (.cells [v_h_rooms,v_h_doors,v_h_ways] 26 0 true true)∧Agree S S'∧S20.next≤S'.next∧Own 128 S5e.next S' (.slice pu20 nu20 cu20) (r116 h)∧R55_1 h a ta b tb l ((r116 h).drop gv)=R55_1 h a ta b tb l (r116 h))
      (fun x t S'=>(x=.exit 2∧∃ (gv:Nat),S'.heap.get S.next=some (.cells [v_h_rooms,v_h_doors,v_h_ways] 26 0 true true)∧Agree S S'∧S20.next≤S'.next∧Own 128 S5e.next S' (.slice pu20 nu20 cu20) (r116 h)∧gv≤(r116 h).length∧R55_1 h a ta b tb l (r116 h)=.inr ())∨(x=.ret∧∃ (r12:Bool),t.get 12=some (.bool r12)∧Agree S S'∧R55_1 h a ta b tb l (r116 h)=.inl (r12))) ((r116 h).length - 0) (by refine ⟨0,?_,?_,?_,?_,?_,?_,v1_20,g20,Nat.le_refl _,oo20,rfl⟩<;>first|(simp only [SY,eq_self,Nat.reduceBEq,ge5_5,ge5_6]<;>rfl)|omega|assumption|(simp; omega)|simp) (by
       rintro m t S21 ⟨gv,hi21_0,hi21_1,g21_5,g21_6,g21_14,g21_15,bb21_1,ga21,gn21,cw21_0,hd21⟩
       refine .run fun z he=>?_
       have w22:=(cw21_0.rows).len (P:=Tryz.prog) (t:=149) Tryz.underlying149
       try simp (disch:=first|omega|assumption) only [E0_G,SY,off,agreeKind,Nat.reduceAdd,Nat.reduceLT,Nat.reduceBEq,g21_14,g21_15,w22] at he
       rcases dP ((gv:Int)<((r116 h).length:Int)) with ⟨h23a,h23⟩|⟨h23a,h23⟩
       ·skip
        have hx21:(r116 h)[gv]?=some ((r116 h)[gv]'(by first|omega|simp; omega)):=List.getElem?_eq_getElem _
        generalize (r116 h)[gv]'_=x21 at hx21
        have eb25:=r116_ok hV (List.mem_of_getElem? hx21)
        have ef25:=eb25.f
        have et25:=eb25.t
        obtain ⟨id24,of24,cc24,ty24,wr24,ex24,i24,j24,l24,q24,lb24,bk24,oq24⟩:=cw21_0.at4 (P:=Tryz.prog) (t:=149) Tryz.underlying149 tz128 hx21
        have m24_0:cc24[of24]?=some (.int .i64 x21.way):=q24 0 (show 0<5 by decide)
        have m24_1:cc24[of24+1]?=some (.int .i64 x21.fr):=q24 1 (show 1<5 by decide)
        have m24_2:cc24[of24+2]?=some (.int .i64 x21.to):=q24 2 (show 2<5 by decide)
        have m24_3:cc24[of24+3]?=some (.int .i64 x21.secs):=q24 3 (show 3<5 by decide)
        have m24_4:cc24[of24+4]?=some (.int .i64 x21.door):=q24 4 (show 4<5 by decide)
        have qz26:((Int.toNat x21.fr:Nat):Int)=x21.fr:=Int.toNat_of_nonneg (by first|omega|simp; omega)
        have hx27:l[(Int.toNat x21.fr)]?=some (lget l (Int.toNat x21.fr)):=lget_some (by first|omega|simp; omega)
        have eb28:=hl0 _ (List.mem_of_getElem? hx27)
        obtain ⟨id27,of27,cc27,ty27,wr27,ex27,i27,j27,l27,q27⟩:=(hv_l).at (P:=Tryz.prog) (t:=54) Tryz.underlying54 tz3 hx27
        have jr27:=j27
        have j27:=(ga21.2 id27 l27).trans jr27
        have m27_0:cc27[of27]?=some (.int .i64 (lget l (Int.toNat x21.fr))):=q27 0 (show 0<1 by decide)
        rw [qz26] at i27
        try simp (disch:=first|omega|assumption) only [E0_G,SY,off,agreeKind,ldA,aggD,aField,Nat.reduceAdd,Nat.reduceLT,Nat.reduceBEq,TY_EvH30,g21_5,g21_14,g21_15,h23a,i24,j24,m24_1,i27,j27,m27_0] at he
        rcases dP ((lget l (Int.toNat x21.fr))<1073741824) with ⟨h29a,h29⟩|⟨h29a,h29⟩
        ·skip
         try simp (disch:=first|omega|assumption) only [SY,h29a] at he
         rw [code_draws _ _ _ (by kernel_rfl)] at he
         generalize hnd30:needy _=nd30 at he
         have eb32:=r116_ok hV (List.mem_of_getElem? hx21)
         have ef32:=eb32.f
         have et32:=eb32.t
         obtain ⟨id31,of31,cc31,ty31,wr31,ex31,i31,j31,l31,q31,lb31,bk31,oq31⟩:=cw21_0.at4 (P:=Tryz.prog) (t:=149) Tryz.underlying149 tz128 hx21
         obtain rfl:id24=id31:=Option.some.inj (bk24.symm.trans bk31)
         obtain rfl:of24=of31:=oq24.trans oq31.symm
         have m31_0:cc31[of24]?=some (.int .i64 x21.way):=q31 0 (show 0<5 by decide)
         have m31_1:cc31[of24+1]?=some (.int .i64 x21.fr):=q31 1 (show 1<5 by decide)
         have m31_2:cc31[of24+2]?=some (.int .i64 x21.to):=q31 2 (show 2<5 by decide)
         have m31_3:cc31[of24+3]?=some (.int .i64 x21.secs):=q31 3 (show 3<5 by decide)
         have m31_4:cc31[of24+4]?=some (.int .i64 x21.door):=q31 4 (show 4<5 by decide)
         have eb34:=r116_ok hV (List.mem_of_getElem? hx21)
         have ef34:=eb34.f
         have et34:=eb34.t
         obtain ⟨id33,of33,cc33,ty33,wr33,ex33,i33,j33,l33,q33,lb33,bk33,oq33⟩:=cw21_0.at4 (P:=Tryz.prog) (t:=149) Tryz.underlying149 tz128 hx21
         obtain rfl:id24=id33:=Option.some.inj (bk24.symm.trans bk33)
         obtain rfl:of24=of33:=oq24.trans oq33.symm
         have m33_0:cc33[of24]?=some (.int .i64 x21.way):=q33 0 (show 0<5 by decide)
         have m33_1:cc33[of24+1]?=some (.int .i64 x21.fr):=q33 1 (show 1<5 by decide)
         have m33_2:cc33[of24+2]?=some (.int .i64 x21.to):=q33 2 (show 2<5 by decide)
         have m33_3:cc33[of24+3]?=some (.int .i64 x21.secs):=q33 3 (show 3<5 by decide)
         have m33_4:cc33[of24+4]?=some (.int .i64 x21.door):=q33 4 (show 4<5 by decide)
         have qz35:((Int.toNat x21.fr:Nat):Int)=x21.fr:=Int.toNat_of_nonneg (by first|omega|simp; omega)
         have eb37:=hl0 _ (List.mem_of_getElem? hx27)
         obtain ⟨id36,of36,cc36,ty36,wr36,ex36,i36,j36,l36,q36⟩:=(hv_l).at (P:=Tryz.prog) (t:=54) Tryz.underlying54 tz3 hx27
         have jr36:=j36
         have j36:=(ga21.2 id36 l36).trans jr36
         have j36_27:=(ga21.2 id27 l27).trans jr27
         have m36_0:cc36[of36]?=some (.int .i64 (lget l (Int.toNat x21.fr))):=q36 0 (show 0<1 by decide)
         rw [qz35] at i36
         obtain ⟨S38,k38,a38⟩:=c99 h x21 (lget l (Int.toNat x21.fr)) (r116_ok hV (List.mem_of_getElem? (by assumption:(r116 h)[_]?=some (x21)))).ok (by omega) S21 (v_h_rooms) (hv_h_rooms.agree ga21) (v_h_doors) (hv_h_doors.agree ga21) (v_h_ways) (hv_h_ways.agree ga21)
         have l38:=a38.1
         have s38:E0.same S21 S38=true:=symEnv_same a38
         have v1_38:=(a38.2 S.next (by omega)).trans bb21_1
         have v24_38:=(a38.2 id24 (by omega)).trans j24
         have ocw21_39:=cw21_0.agree a38
         have g38:Agree S S38:=ga21.trans a38
         have eb41:=r116_ok hV (List.mem_of_getElem? hx21)
         have ef41:=eb41.f
         have et41:=eb41.t
         obtain ⟨id40,of40,cc40,ty40,wr40,ex40,i40,j40,l40,q40,lb40,bk40,oq40⟩:=ocw21_39.at4 (P:=Tryz.prog) (t:=149) Tryz.underlying149 tz128 hx21
         obtain rfl:id24=id40:=Option.some.inj (bk24.symm.trans bk40)
         obtain rfl:of24=of40:=oq24.trans oq40.symm
         have m40_0:cc40[of24]?=some (.int .i64 x21.way):=q40 0 (show 0<5 by decide)
         have m40_1:cc40[of24+1]?=some (.int .i64 x21.fr):=q40 1 (show 1<5 by decide)
         have m40_2:cc40[of24+2]?=some (.int .i64 x21.to):=q40 2 (show 2<5 by decide)
         have m40_3:cc40[of24+3]?=some (.int .i64 x21.secs):=q40 3 (show 3<5 by decide)
         have m40_4:cc40[of24+4]?=some (.int .i64 x21.door):=q40 4 (show 4<5 by decide)
         have qz42:((Int.toNat x21.to:Nat):Int)=x21.to:=Int.toNat_of_nonneg (by first|omega|simp; omega)
         have hx43:l[(Int.toNat x21.to)]?=some (lget l (Int.toNat x21.to)):=lget_some (by first|omega|simp; omega)
         have eb44:=hl0 _ (List.mem_of_getElem? hx43)
         obtain ⟨id43,of43,cc43,ty43,wr43,ex43,i43,j43,l43,q43⟩:=(hv_l).at (P:=Tryz.prog) (t:=54) Tryz.underlying54 tz3 hx43
         have jr43:=j43
         have j43:=(g38.2 id43 l43).trans jr43
         have m43_0:cc43[of43]?=some (.int .i64 (lget l (Int.toNat x21.to))):=q43 0 (show 0<1 by decide)
         rw [qz42] at i43
         try simp (disch:=first|omega|assumption) only [E0_G,SY,off,agreeKind,vals,ldA,rdCells,aggD,aField,Nat.reduceAdd,Nat.reduceLT,Nat.reduceBEq,TY_EvH30,g21_5,g21_6,g21_14,g21_15,bb21_1,i24,j24,m24_0,m24_1,m24_2,m24_3,m24_4,i27,j27,m27_0,store_agree,store_refl E0_same,k38,v24_38,i43,j43,m43_0] at he
         rcases dP ((r99 h x21 (lget l (Int.toNat x21.fr)))<(lget l (Int.toNat x21.to))) with ⟨h45a,h45⟩|⟨h45a,h45⟩
         ·skip
          try simp (disch:=first|omega|assumption) only [E0_G,SY,off,agreeKind,Nat.reduceLT,store_refl E0_same,h45a] at he
          rw [drop_cons' hx21] at hd21
          have hf:=(show _=(.inl false:Sum (Bool) (Unit)) from (if_pos h29).trans ((if_pos h45).trans (rfl))).symm.trans hd21
          refine .ret he (.inr ⟨rfl,⟨false,?_,g38,hf.symm⟩⟩)<;>first|(simp only [SY,eq_self,Nat.reduceBEq]<;>rfl)|omega|assumption|(simp; omega)|simp
         ·skip
          have w46:IntKind.i64.wrap ((gv:Int)+1)=((gv+1:Nat):Int):=by rw [IntWalk.i64_in]<;>omega
          try simp (disch:=first|omega|assumption) only [E0_G,SY,off,agreeKind,Nat.reduceAdd,Nat.reduceLT,Nat.reduceBEq,g21_15,store_refl E0_same,h45a,w46] at he
          rw [drop_cons' hx21] at hd21
          have hf:=(show _=(R55_1 h a ta b tb l ((r116 h).drop (gv+1)):Sum (Bool) (Unit)) from (if_pos h29).trans ((if_neg h45).trans (rfl))).symm.trans hd21
          refine .next he (m - 1) (by omega) ⟨(gv+1),?_,?_,?_,?_,?_,?_,v1_38,g38,by omega,ocw21_39,hf⟩<;>first|(simp only [SY,eq_self,Nat.reduceBEq,g21_5,g21_6,g21_14,g21_15]<;>rfl)|omega|assumption|(simp; omega)|simp
        ·skip
         have w47:IntKind.i64.wrap ((gv:Int)+1)=((gv+1:Nat):Int):=by rw [IntWalk.i64_in]<;>omega
         try simp (disch:=first|omega|assumption) only [E0_G,SY,off,agreeKind,Nat.reduceAdd,Nat.reduceLT,Nat.reduceBEq,g21_15,h29a,w47] at he
         rw [drop_cons' hx21] at hd21
         have hf:=(show _=(R55_1 h a ta b tb l ((r116 h).drop (gv+1)):Sum (Bool) (Unit)) from (if_neg h29).trans (rfl)).symm.trans hd21
         refine .next he (m - 1) (by omega) ⟨(gv+1),?_,?_,?_,?_,?_,?_,bb21_1,ga21,by omega,cw21_0,hf⟩<;>first|(simp only [SY,eq_self,Nat.reduceBEq,g21_5,g21_6,g21_14,g21_15]<;>rfl)|omega|assumption|(simp; omega)|simp
       ·skip
        try simp (disch:=first|omega|assumption) only [SY,h23a] at he
        rw [List.drop_eq_nil_of_le (show (r116 h).length≤gv by omega)] at hd21
        have hf:=(show _=(.inr ():Sum (Bool) (Unit)) from rfl).symm.trans hd21
        refine .exit he (.inl ⟨rfl,⟨gv,bb21_1,ga21,by omega,cw21_0,?_,hf.symm⟩⟩)<;>first|(simp only [SY,setArgs,off,agreeKind,partVals,vals,allocV,boxed,ldA,rdCells,oneB,aggD,aField,aFieldV,aExtract,eq_self,ne_eq,if_true,if_false,not_false_eq_true,Nat.reduceAdd,Nat.reduceSub,Nat.reduceMul,Nat.reduceLT,Nat.reduceEqDiff,Nat.reduceBEq,reduceIte,Int.reduceEq,Int.reduceLT,Int.reduceLE,reduceCtorEq,g21_5,g21_6,g21_14,g21_15]<;>rfl)|omega|assumption|(simp; omega)|simp)
     rcases hQ21 with ⟨rfl,hQ21⟩|⟨rfl,hQ21⟩
     ·skip
      obtain ⟨gv,be21_1,ge21,gm21,ce21_0,hj21_0,hR21⟩:=hQ21
      try simp (disch:=first|omega|assumption) only [E0_G,SY,off,agreeKind,eq_self,if_true,Nat.reduceLT,Nat.reduceBEq] at hz
      have hr:r55 h a ta b tb l=true:=(if_pos h4).trans ((onSum_inr hR5).trans ((if_neg h16).trans ((if_neg h19).trans ((onSum_inr hR21).trans (rfl)))))
      exact fin hz (by rw [hr]) ge21
     ·skip
      obtain ⟨r12,ge21_12,ge21,hR21⟩:=hQ21
      try simp (disch:=first|omega|assumption) only [SY,ge21_12] at hz
      have hr:r55 h a ta b tb l=r12:=(if_pos h4).trans ((onSum_inr hR5).trans ((if_neg h16).trans ((if_neg h19).trans ((onSum_inl hR21).trans (rfl)))))
      exact fin hz (by rw [hr]) ge21
  ·skip
   obtain ⟨r12,ge5_12,ge5,hR5⟩:=hQ5
   try simp (disch:=first|omega|assumption) only [SY,ge5_12] at hz
   have hr:r55 h a ta b tb l=r12:=(if_pos h4).trans ((onSum_inl hR5).trans (rfl))
   exact fin hz (by rw [hr]) ge5
 ·skip
  try simp (disch:=first|omega|assumption) only [E0_G,SY,off,agreeKind,Nat.reduceLT,Nat.reduceBEq,h4a] at hz
  have hr:r55 h a ta b tb l=false:=(if_neg h4).trans (rfl)
  exact fin hz (by rw [hr]) g1
def r53 (h:Hs) (a:Int) (ta:Int) (b:Int) (tb:Int) (l:List Int):Int:=(if (r49 h a ta b tb)=0 then (if (r55 h a ta b tb (l:List Int))=true then 0 else 8) else (r49 h a ta b tb))
set_option maxHeartbeats 8000000 in
theorem c53 (h:Hs) (a:Int) (ta:Int) (b:Int) (tb:Int) (l:List Int) (hF:Few h) (hl:l.length≤40) (S:AS) (v_h_rooms:Value) (hv_h_rooms:LstR S v_h_rooms h.rooms) (v_h_doors:Value) (hv_h_doors:LstR S v_h_doors h.doors) (v_h_ways:Value) (hv_h_ways:Lst S v_h_ways h.ways) (v_l:Value) (hv_l:Lst S v_l l) :
  ∃ S',(evL Tryz.prog E0).call 53 #[.agg #[v_h_rooms,v_h_doors,v_h_ways],.int .i64 a,.int .i64 ta,.int .i64 b,.int .i64 tb,v_l] S=some (.int .i64 (r53 h a ta b tb l),S')∧Agree S S':=by
 have qr:=hF.r; have qd:=hF.d; have qw:=hF.w
 generalize hz:(evL Tryz.prog E0).call 53 _ _=z
 rw [L_call,evCall_said rfl Tryz.func53 rfl (by decide) Tryz.ntmps53 Tryz.results53] at hz
 obtain ⟨S1,e1,n1,b1,a1⟩:=push_open S (.cells [v_h_rooms,v_h_doors,v_h_ways] 26 0 true true)
 have g1:Agree S S1:=a1
 obtain ⟨S2,k2,a2⟩:=c49 h a ta b tb hF S1 (v_h_rooms) (hv_h_rooms.agree g1) (v_h_doors) (hv_h_doors.agree g1) (v_h_ways) (hv_h_ways.agree g1)
 have l2:=a2.1
 have v1_2:=(a2.2 S.next (by omega)).trans b1
 have g2:Agree S S2:=g1.trans a2
 try simp (disch:=first|omega|assumption) only [E0_G,SY,setArgs,off,agreeKind,vals,boxed,ldA,rdCells,aggD,Nat.reduceAdd,Nat.reduceSub,Nat.reduceLT,Nat.reduceBEq,TY_EvH30,e1,b1,k2] at hz
 rcases dP ((r49 h a ta b tb)=0) with ⟨h3a,h3⟩|⟨h3a,h3⟩
 ·skip
  have hV:=(r49_ok h3).1
  have lq4:=(r49_ok h3).2
  obtain ⟨S5,k5,a5⟩:=c55 h a ta b tb (l:List Int) hF hV (by omega) (by omega) (by omega) S2 (v_h_rooms) (hv_h_rooms.agree g2) (v_h_doors) (hv_h_doors.agree g2) (v_h_ways) (hv_h_ways.agree g2) (v_l) (hv_l.agree g2)
  have l5:=a5.1
  have g5:Agree S S5:=g2.trans a5
  try simp (disch:=first|omega|assumption) only [E0_G,SY,off,agreeKind,vals,ldA,rdCells,aggD,Nat.reduceAdd,Nat.reduceLT,Nat.reduceBEq,TY_EvH30,v1_2,h3a,k5] at hz
  rcases dB ((r55 h a ta b tb (l:List Int))) with ⟨h6a,h6⟩|⟨h6a,h6⟩
  ·skip
   try simp (disch:=first|omega|assumption) only [E0_G,SY,off,agreeKind,Nat.reduceLT,Nat.reduceBEq,h6a] at hz
   have hr:r53 h a ta b tb l=0:=(if_pos h3).trans ((if_pos h6).trans (rfl))
   exact fin hz (by rw [hr]) g5
  ·skip
   try simp (disch:=first|omega|assumption) only [E0_G,SY,off,agreeKind,Nat.reduceLT,Nat.reduceBEq,h6a] at hz
   have hr:r53 h a ta b tb l=8:=(if_pos h3).trans ((if_neg h6).trans (rfl))
   exact fin hz (by rw [hr]) g5
 ·skip
  try simp (disch:=first|omega|assumption) only [E0_G,SY,off,agreeKind,Nat.reduceAdd,Nat.reduceLT,Nat.reduceBEq,h3a] at hz
  have hr:r53 h a ta b tb l=(r49 h a ta b tb):=(if_neg h3).trans (rfl)
  exact fin hz (by rw [hr]) g2
theorem r54_len0 {h:Hs} (hV:r59 h=0) {fr ti:Int} (ht:0≤ti∧ti≤1073741823):(r106 h fr ti).length≤40:=by
 rw [r106_len hV ht]; have:=rooms_len hV; omega
def r54 (h:Hs) (a:Int) (ta:Int) (b:Int) (tb:Int):List Int × Int:=(if (r113 h a ta b tb)=0 then (if (lget (r106 h a ta) (Int.toNat b))≤tb then ([],5) else ((r106 h a ta),0)) else ([],(r113 h a ta b tb)))
theorem r54_len (h:Hs) (a ta b tb:Int):(r54 h a ta b tb).1.length≤40:=by
 unfold r54
 split
 ·rename_i h1
  have q:=r113_ok h1
  split
  ·simp
  ·exact r54_len0 q.1 q.2.2.1
 ·simp
def r9 (h:Hs) (a:Int) (ta:Int) (b:Int) (tb:Int) (l:List Int):Bool:=(if (r20 h)=true then (if 40<(l.length:Int) then true else (if (((r42 h a ta)).2)=0 then (if (r47 (((r42 h a ta).1):List Int) (l:List Int))=true then (if (r51 h a ta (l:List Int))=(((r42 h a ta)).2) then decide ((r52 h a ta b tb (l:List Int))=(r53 h a ta b tb (l:List Int))) else false) else (if (r51 h a ta (l:List Int))=8 then decide ((r52 h a ta b tb (l:List Int))=(r53 h a ta b tb (l:List Int))) else false)) else (if (r51 h a ta (l:List Int))=(((r42 h a ta)).2) then decide ((r52 h a ta b tb (l:List Int))=(r53 h a ta b tb (l:List Int))) else false))) else true)
set_option maxHeartbeats 16000000 in
theorem c9 (h:Hs) (a:Int) (ta:Int) (b:Int) (tb:Int) (l:List Int) (hs:∀ x ∈ h.rooms,x.name.size≤9223372036854775807) (S:AS) (v_h_rooms:Value) (hv_h_rooms:LstR S v_h_rooms h.rooms) (v_h_doors:Value) (hv_h_doors:LstR S v_h_doors h.doors) (v_h_ways:Value) (hv_h_ways:Lst S v_h_ways h.ways) (v_l:Value) (hv_l:Lst S v_l l) :
  ∃ S',(evL Tryz.prog E0).call 9 #[.agg #[v_h_rooms,v_h_doors,v_h_ways],.int .i64 a,.int .i64 ta,.int .i64 b,.int .i64 tb,v_l] S=some (.bool (r9 h a ta b tb l),S')∧Agree S S':=by
 generalize hz:(evL Tryz.prog E0).call 9 _ _=z
 rw [L_call,evCall_said rfl Tryz.func9 rfl (by decide) Tryz.ntmps9 Tryz.results9] at hz
 obtain ⟨S1,e1,n1,b1,a1⟩:=push_open S (.cells [v_h_rooms,v_h_doors,v_h_ways] 26 0 true true)
 have g1:Agree S S1:=a1
 have s1:E0.same S S1=true:=symEnv_same a1
 obtain ⟨S2,k2,a2⟩:=c20 h  S1 (v_h_rooms) (hv_h_rooms.agree g1) (v_h_doors) (hv_h_doors.agree g1) (v_h_ways) (hv_h_ways.agree g1)
 have l2:=a2.1
 have s2:E0.same S1 S2=true:=symEnv_same a2
 have v1_2:=(a2.2 S.next (by omega)).trans b1
 have g2:Agree S S2:=g1.trans a2
 try simp (disch:=first|omega|assumption) only [E0_G,SY,setArgs,off,agreeKind,vals,boxed,ldA,rdCells,aggD,Nat.reduceAdd,Nat.reduceSub,Nat.reduceLT,Nat.reduceBEq,TY_EvH30,e1,b1,k2] at hz
 rcases dB ((r20 h)) with ⟨h3a,h3⟩|⟨h3a,h3⟩
 ·skip
  have w4:=(hv_l.agree g2).len (P:=Tryz.prog) (t:=54) Tryz.underlying54
  try simp (disch:=first|omega|assumption) only [E0_G,SY,off,agreeKind,Nat.reduceAdd,Nat.reduceLT,Nat.reduceBEq,h3a,w4] at hz
  rcases dP (40<(l.length:Int)) with ⟨h5a,h5⟩|⟨h5a,h5⟩
  ·skip
   try simp (disch:=first|omega|assumption) only [E0_G,SY,off,agreeKind,vals,Nat.reduceAdd,Nat.reduceLT,Nat.reduceBEq,h5a,c21s] at hz
   have hr:r9 h a ta b tb l=true:=(if_pos h3).trans ((if_pos h5).trans (rfl))
   exact fin hz (by rw [hr]) g2
  ·skip
   obtain ⟨S6,k6,a6⟩:=c51 h a ta (l:List Int) (few_of (show r20 h=true by assumption)) hs (by omega) S2 (v_h_rooms) (hv_h_rooms.agree g2) (v_h_doors) (hv_h_doors.agree g2) (v_h_ways) (hv_h_ways.agree g2) (v_l) (hv_l.agree g2)
   have l6:=a6.1
   have s6:E0.same S2 S6=true:=symEnv_same a6
   have v1_6:=(a6.2 S.next (by omega)).trans v1_2
   have g6:Agree S S6:=g2.trans a6
   obtain ⟨u7_0,S7,k7,a7,oo7_0⟩:=c42 h a ta (few_of (show r20 h=true by assumption)) S6 (v_h_rooms) (hv_h_rooms.agree g6) (v_h_doors) (hv_h_doors.agree g6) (v_h_ways) (hv_h_ways.agree g6)
   obtain ⟨pu7_0,nu7_0,cu7_0,rfl⟩:=own_slice oo7_0
   have l7:=a7.1
   have s7:E0.same S6 S7=true:=symEnv_same a7
   have v1_7:=(a7.2 S.next (by omega)).trans v1_6
   have g7:Agree S S7:=g6.trans a7
   obtain ⟨S8,e8,n8,b8,a8⟩:=push_open S7 (.cells [.slice none 0 0,.int .i64 0] 58 0 true true)
   have v1_8:=(a8.2 S.next (by omega)).trans v1_7
   have o7_9:=oo7_0.agree a8
   have g8:Agree S S8:=g7.trans a8
   have s8:E0.same S7 S8=true:=symEnv_same a8
   have ne10:blkOf (.slice pu7_0 nu7_0 cu7_0)≠some S7.next:=oo7_0.new (Nat.le_refl _)
   obtain ⟨S11,k11,n11,b11,q11⟩:=st_at (o:=0) (c':=[.slice pu7_0 nu7_0 cu7_0,.int .i64 (((r42 h a ta)).2)]) (v:=.agg #[.slice pu7_0 nu7_0 cu7_0,.int .i64 (((r42 h a ta)).2)]) tz58 b8 rfl rfl (show 0+2≤2 by decide) rfl
   have v1_11:=(q11 S.next (by omega)).trans v1_8
   have o7_12:=o7_9.frame (by omega) (fun id hid hb=>q11 id (fun e=>(show blkOf (.slice pu7_0 nu7_0 cu7_0)≠some S7.next from by first|exact o7_9.ne (by omega)|exact o7_9.new (by omega)|assumption) (e ▸ hb)))
   have g11:Agree S S11:=⟨by have:=(g8).1; omega,fun id hid=>(q11 id (by have:=(g8).1; omega)).trans ((g8).2 id hid)⟩
   try simp (disch:=first|omega|assumption) only [E0_G,SY,off,agreeKind,vals,allocV,ldA,rdCells,aggD,aField,Nat.reduceAdd,Nat.reduceLT,Nat.reduceBEq,TY_EvH30,v1_2,h5a,k6,v1_6,k7,e8,k11,b11] at hz
   rcases dP ((((r42 h a ta)).2)=0) with ⟨h13a,h13⟩|⟨h13a,h13⟩
   ·skip
    obtain ⟨S14,k14,a14⟩:=c47 (((r42 h a ta).1):List Int) (l:List Int) (by first|exact r41_len _ _ _|exact r43_len _ _ _|(rw [← early_eq]; exact r41_len _ _ _)) S11 (.slice pu7_0 nu7_0 cu7_0) (o7_12.rows) (v_l) (hv_l.agree g11)
    have l14:=a14.1
    have s14:E0.same S11 S14=true:=symEnv_same a14
    have v1_14:=(a14.2 S.next (by omega)).trans v1_11
    have o7_15:=o7_12.agree a14
    have g14:Agree S S14:=g11.trans a14
    try simp (disch:=first|omega|assumption) only [E0_G,SY,off,agreeKind,vals,ldA,aggD,aField,Nat.reduceAdd,Nat.reduceLT,Nat.reduceBEq,TY_EvH30,b11,h13a,k14] at hz
    rcases dB ((r47 (((r42 h a ta).1):List Int) (l:List Int))) with ⟨h16a,h16⟩|⟨h16a,h16⟩
    ·skip
     try simp (disch:=first|omega|assumption) only [SY,h16a] at hz
     rw [code_draws _ _ _ (by kernel_rfl)] at hz
     generalize hnd17:needy _=nd17 at hz
     try simp (disch:=first|omega|assumption) only [E0_G,SY,agreeKind,vals,Nat.reduceAdd,Nat.reduceLT,Nat.reduceBEq,store_refl E0_same,c21s] at hz
     rcases dP ((r51 h a ta (l:List Int))=(((r42 h a ta)).2)) with ⟨h18a,h18⟩|⟨h18a,h18⟩
     ·skip
      obtain ⟨S19,k19,a19⟩:=c52 h a ta b tb (l:List Int) (few_of (show r20 h=true by assumption)) hs (by first|omega|exact r54_len _ _ _ _ _) S14 (v_h_rooms) (hv_h_rooms.agree g14) (v_h_doors) (hv_h_doors.agree g14) (v_h_ways) (hv_h_ways.agree g14) (v_l) (hv_l.agree g14)
      have l19:=a19.1
      have s19:E0.same S14 S19=true:=symEnv_same a19
      have v1_19:=(a19.2 S.next (by omega)).trans v1_14
      have o7_20:=o7_15.agree a19
      have g19:Agree S S19:=g14.trans a19
      obtain ⟨S21,k21,a21⟩:=c53 h a ta b tb (l:List Int) (few_of (show r20 h=true by assumption)) (by omega) S19 (v_h_rooms) (hv_h_rooms.agree g19) (v_h_doors) (hv_h_doors.agree g19) (v_h_ways) (hv_h_ways.agree g19) (v_l) (hv_l.agree g19)
      have l21:=a21.1
      have s21:E0.same S19 S21=true:=symEnv_same a21
      have o7_22:=o7_20.agree a21
      have g21:Agree S S21:=g19.trans a21
      try simp (disch:=first|omega|assumption) only [E0_G,SY,agreeKind,vals,ldA,rdCells,aggD,Nat.reduceAdd,Nat.reduceLT,Nat.reduceBEq,TY_EvH30,v1_14,store_agree,store_refl E0_same,h18a,k19,v1_19,k21] at hz
      have hr:r9 h a ta b tb l=decide ((r52 h a ta b tb (l:List Int))=(r53 h a ta b tb (l:List Int))):=(if_pos h3).trans ((if_neg h5).trans ((if_pos h13).trans ((if_pos h16).trans ((if_pos h18).trans (rfl)))))
      exact fin hz (by rw [hr]) g21
     ·skip
      try simp (disch:=first|omega|assumption) only [E0_G,SY,agreeKind,Nat.reduceAdd,Nat.reduceLT,Nat.reduceBEq,store_refl E0_same,h18a] at hz
      have hr:r9 h a ta b tb l=false:=(if_pos h3).trans ((if_neg h5).trans ((if_pos h13).trans ((if_pos h16).trans ((if_neg h18).trans (rfl)))))
      exact fin hz (by rw [hr]) g14
    ·skip
     try simp (disch:=first|omega|assumption) only [E0_G,SY,off,agreeKind,Nat.reduceLT,h16a] at hz
     rw [code_draws _ _ _ (by kernel_rfl)] at hz
     generalize hnd23:needy _=nd23 at hz
     try simp (disch:=first|omega|assumption) only [E0_G,SY,agreeKind,vals,Nat.reduceAdd,Nat.reduceLT,Nat.reduceBEq,store_refl E0_same,c21s] at hz
     rcases dP ((r51 h a ta (l:List Int))=8) with ⟨h24a,h24⟩|⟨h24a,h24⟩
     ·skip
      obtain ⟨S25,k25,a25⟩:=c52 h a ta b tb (l:List Int) (few_of (show r20 h=true by assumption)) hs (by first|omega|exact r54_len _ _ _ _ _) S14 (v_h_rooms) (hv_h_rooms.agree g14) (v_h_doors) (hv_h_doors.agree g14) (v_h_ways) (hv_h_ways.agree g14) (v_l) (hv_l.agree g14)
      have l25:=a25.1
      have s25:E0.same S14 S25=true:=symEnv_same a25
      have v1_25:=(a25.2 S.next (by omega)).trans v1_14
      have o7_26:=o7_15.agree a25
      have g25:Agree S S25:=g14.trans a25
      obtain ⟨S27,k27,a27⟩:=c53 h a ta b tb (l:List Int) (few_of (show r20 h=true by assumption)) (by omega) S25 (v_h_rooms) (hv_h_rooms.agree g25) (v_h_doors) (hv_h_doors.agree g25) (v_h_ways) (hv_h_ways.agree g25) (v_l) (hv_l.agree g25)
      have l27:=a27.1
      have s27:E0.same S25 S27=true:=symEnv_same a27
      have o7_28:=o7_26.agree a27
      have g27:Agree S S27:=g25.trans a27
      try simp (disch:=first|omega|assumption) only [E0_G,SY,agreeKind,vals,ldA,rdCells,aggD,Nat.reduceAdd,Nat.reduceLT,Nat.reduceBEq,TY_EvH30,v1_14,store_agree,store_refl E0_same,h24a,k25,v1_25,k27] at hz
      have hr:r9 h a ta b tb l=decide ((r52 h a ta b tb (l:List Int))=(r53 h a ta b tb (l:List Int))):=(if_pos h3).trans ((if_neg h5).trans ((if_pos h13).trans ((if_neg h16).trans ((if_pos h24).trans (rfl)))))
      exact fin hz (by rw [hr]) g27
     ·skip
      try simp (disch:=first|omega|assumption) only [E0_G,SY,agreeKind,Nat.reduceAdd,Nat.reduceLT,Nat.reduceBEq,store_refl E0_same,h24a] at hz
      have hr:r9 h a ta b tb l=false:=(if_pos h3).trans ((if_neg h5).trans ((if_pos h13).trans ((if_neg h16).trans ((if_neg h24).trans (rfl)))))
      exact fin hz (by rw [hr]) g14
   ·skip
    try simp (disch:=first|omega|assumption) only [E0_G,SY,off,agreeKind,Nat.reduceAdd,Nat.reduceLT,Nat.reduceBEq,h13a] at hz
    rw [code_draws _ _ _ (by kernel_rfl)] at hz
    generalize hnd29:needy _=nd29 at hz
    try simp (disch:=first|omega|assumption) only [E0_G,SY,agreeKind,vals,Nat.reduceAdd,Nat.reduceLT,Nat.reduceBEq,store_refl E0_same,c21s] at hz
    rcases dP ((r51 h a ta (l:List Int))=(((r42 h a ta)).2)) with ⟨h30a,h30⟩|⟨h30a,h30⟩
    ·skip
     obtain ⟨S31,k31,a31⟩:=c52 h a ta b tb (l:List Int) (few_of (show r20 h=true by assumption)) hs (by first|omega|exact r54_len _ _ _ _ _) S11 (v_h_rooms) (hv_h_rooms.agree g11) (v_h_doors) (hv_h_doors.agree g11) (v_h_ways) (hv_h_ways.agree g11) (v_l) (hv_l.agree g11)
     have l31:=a31.1
     have s31:E0.same S11 S31=true:=symEnv_same a31
     have v1_31:=(a31.2 S.next (by omega)).trans v1_11
     have o7_32:=o7_12.agree a31
     have g31:Agree S S31:=g11.trans a31
     obtain ⟨S33,k33,a33⟩:=c53 h a ta b tb (l:List Int) (few_of (show r20 h=true by assumption)) (by omega) S31 (v_h_rooms) (hv_h_rooms.agree g31) (v_h_doors) (hv_h_doors.agree g31) (v_h_ways) (hv_h_ways.agree g31) (v_l) (hv_l.agree g31)
     have l33:=a33.1
     have s33:E0.same S31 S33=true:=symEnv_same a33
     have o7_34:=o7_32.agree a33
     have g33:Agree S S33:=g31.trans a33
     try simp (disch:=first|omega|assumption) only [E0_G,SY,agreeKind,vals,ldA,rdCells,aggD,Nat.reduceAdd,Nat.reduceLT,Nat.reduceBEq,TY_EvH30,v1_11,store_agree,store_refl E0_same,h30a,k31,v1_31,k33] at hz
     have hr:r9 h a ta b tb l=decide ((r52 h a ta b tb (l:List Int))=(r53 h a ta b tb (l:List Int))):=(if_pos h3).trans ((if_neg h5).trans ((if_neg h13).trans ((if_pos h30).trans (rfl))))
     exact fin hz (by rw [hr]) g33
    ·skip
     try simp (disch:=first|omega|assumption) only [E0_G,SY,agreeKind,Nat.reduceAdd,Nat.reduceLT,Nat.reduceBEq,store_refl E0_same,h30a] at hz
     have hr:r9 h a ta b tb l=false:=(if_pos h3).trans ((if_neg h5).trans ((if_neg h13).trans ((if_neg h30).trans (rfl))))
     exact fin hz (by rw [hr]) g11
 ·skip
  try simp (disch:=first|omega|assumption) only [E0_G,SY,off,agreeKind,vals,Nat.reduceAdd,Nat.reduceLT,Nat.reduceBEq,h3a,c21s] at hz
  have hr:r9 h a ta b tb l=true:=(if_neg h3).trans (rfl)
  exact fin hz (by rw [hr]) g2
end House
end Go.Proofs
