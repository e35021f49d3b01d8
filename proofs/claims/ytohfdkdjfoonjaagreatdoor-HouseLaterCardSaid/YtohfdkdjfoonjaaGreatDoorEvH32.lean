import Derived.Test.YtohfdkdjfoonjaaGreatDoorEvM13
set_option linter.unusedSimpArgs false
set_option linter.unusedVariables false
namespace Go.Proofs
namespace House
open Go Go.RowKit Go.Aev
set_option maxRecDepth 100000
theorem TY_EvH32:type_of% TY_EvH31:=TY_EvH31
theorem r70_ok {n k:Int} (hk:1≤k∧k≤1000):0≤r70 n k∧r70 n k<k:=by
 have e:r70 n k=IntKind.i64.wrap (Int.tmod (n % (2 ^ 64:Int)) k):=by
  unfold r70
  rw [show max k 1=k by omega,u64w (x:=k) (by omega)]
  rw [show IntKind.u64.wrap n=n % (2 ^ 64:Int) by simp [IntKind.wrap,IntKind.signed,IntKind.bits]]
 have h1:0≤n % (2 ^ 64:Int):=Int.emod_nonneg _ (by decide)
 have h2:Int.tmod (n % (2 ^ 64:Int)) k=(n % (2 ^ 64:Int)) % k:=Int.tmod_eq_emod_of_nonneg h1
 have h3:=Int.emod_nonneg (n % (2 ^ 64:Int)) (show k≠0 by omega)
 have h4:=Int.emod_lt_of_pos (n % (2 ^ 64:Int)) (show 0<k by omega)
 rw [e,h2,wr64 (by omega)]
 exact ⟨h3,h4⟩
def R15_0 (h:Hs) (a:Int) (b:Int) (way:Int) (back:Bool) (t0:Int) (u0:Int) (l:List Int)  : List Int→Nat→Sum (Bool) (Unit)
 | [],k=>.inr ()
 | x49 :: l',k=>(if (lget ((r41 h (r70 a (h.rooms.length:Int)) (max t0 u0)).1) k)<x49 then .inl false else (if (lget ((r43 h (r70 b (h.rooms.length:Int)) (max t0 u0)).1) k)<(lget ((r43 h (r70 b (h.rooms.length:Int)) (min t0 u0)).1) k) then .inl false else (if x49<(min t0 u0) then .inl false else (if (min t0 u0)<(lget ((r43 h (r70 b (h.rooms.length:Int)) (min t0 u0)).1) k) then .inl false else R15_0 h a b way back t0 u0 l l' (k+1)))))
def r15 (h:Hs) (a:Int) (b:Int) (way:Int) (back:Bool) (t0:Int) (u0:Int) (l:List Int):Bool:=(if (r68 h)=true then (if (r69 t0)=true then (if (r69 u0)=true then (if 10<(l.length:Int) then true else (if ((r41 h (r70 a (h.rooms.length:Int)) (min t0 u0)).2)=0 then (if ((r41 h (r70 a (h.rooms.length:Int)) (max t0 u0)).2)=0 then (if ((r43 h (r70 b (h.rooms.length:Int)) (min t0 u0)).2)=0 then (if ((r43 h (r70 b (h.rooms.length:Int)) (max t0 u0)).2)=0 then (if (((r41 h (r70 a (h.rooms.length:Int)) (min t0 u0)).1).length:Int)=(h.rooms.length:Int) then (if (((r41 h (r70 a (h.rooms.length:Int)) (max t0 u0)).1).length:Int)=(((r41 h (r70 a (h.rooms.length:Int)) (min t0 u0)).1).length:Int) then (if (((r43 h (r70 b (h.rooms.length:Int)) (min t0 u0)).1).length:Int)=(((r41 h (r70 a (h.rooms.length:Int)) (min t0 u0)).1).length:Int) then (if (((r43 h (r70 b (h.rooms.length:Int)) (max t0 u0)).1).length:Int)=(((r41 h (r70 a (h.rooms.length:Int)) (min t0 u0)).1).length:Int) then (onSum (R15_0 h a b way back t0 u0 l ((r41 h (r70 a (h.rooms.length:Int)) (min t0 u0)).1) 0) (fun (r16:Bool)=>r16) (fun (_:Unit)=>(if 0<(h.ways.length:Int) then (if ((r35 h (r70 way (h.ways.length:Int)) back (min t0 u0)).2)=((r35 h (r70 way (h.ways.length:Int)) back (max t0 u0)).2) then (if ((r37 h (r70 way (h.ways.length:Int)) back (min t0 u0)).2)=((r37 h (r70 way (h.ways.length:Int)) back (max t0 u0)).2) then (if ((r35 h (r70 way (h.ways.length:Int)) back (min t0 u0)).2)=((r37 h (r70 way (h.ways.length:Int)) back (min t0 u0)).2) then (if ((r35 h (r70 way (h.ways.length:Int)) back (max t0 u0)).1)<((r35 h (r70 way (h.ways.length:Int)) back (min t0 u0)).1) then false else (if ((r37 h (r70 way (h.ways.length:Int)) back (max t0 u0)).1)<((r37 h (r70 way (h.ways.length:Int)) back (min t0 u0)).1) then false else (if ((r61 h (l:List Int) (min t0 u0)).2)=((r61 h (l:List Int) (max t0 u0)).2) then decide (((r61 h (l:List Int) (min t0 u0)).1)≤((r61 h (l:List Int) (max t0 u0)).1)) else false))) else false) else false) else false) else (if ((r61 h (l:List Int) (min t0 u0)).2)=((r61 h (l:List Int) (max t0 u0)).2) then decide (((r61 h (l:List Int) (min t0 u0)).1)≤((r61 h (l:List Int) (max t0 u0)).1)) else false)))) else false) else false) else false) else false) else false) else false) else false) else false)) else true) else true) else true)
set_option maxHeartbeats 16000000 in
theorem c15 (h:Hs) (a:Int) (b:Int) (way:Int) (back:Bool) (t0:Int) (u0:Int) (l:List Int) (hs:∀ x ∈ h.rooms,x.name.size≤9223372036854775807) (S:AS) (v_h_rooms:Value) (hv_h_rooms:LstR S v_h_rooms h.rooms) (v_h_doors:Value) (hv_h_doors:LstR S v_h_doors h.doors) (v_h_ways:Value) (hv_h_ways:Lst S v_h_ways h.ways) (v_l:Value) (hv_l:Lst S v_l l) :
  ∃ S',(evL Tryz.prog E0).call 15 #[.agg #[v_h_rooms,v_h_doors,v_h_ways],.int .i64 a,.int .i64 b,.int .i64 way,.bool back,.int .i64 t0,.int .i64 u0,v_l] S=some (.bool (r15 h a b way back t0 u0 l),S')∧Agree S S':=by
 generalize hz:(evL Tryz.prog E0).call 15 _ _=z
 rw [L_call,evCall_said rfl Tryz.func15 rfl (by decide) Tryz.ntmps15 Tryz.results15] at hz
 obtain ⟨S1,e1,n1,b1,a1⟩:=push_open S (.cells [v_h_rooms,v_h_doors,v_h_ways] 26 0 true true)
 have g1:Agree S S1:=a1
 have s1:E0.same S S1=true:=symEnv_same a1
 obtain ⟨S2,k2,a2⟩:=c68 h  S1 (v_h_rooms) (hv_h_rooms.agree g1) (v_h_doors) (hv_h_doors.agree g1) (v_h_ways) (hv_h_ways.agree g1)
 have l2:=a2.1
 have s2:E0.same S1 S2=true:=symEnv_same a2
 have v1_2:=(a2.2 S.next (by omega)).trans b1
 have g2:Agree S S2:=g1.trans a2
 try simp (disch:=first|omega|assumption) only [E0_G,SY,setArgs,off,agreeKind,partVals,vals,allocV,boxed,ldA,rdCells,oneB,aggD,aField,aFieldV,aExtract,eq_self,ne_eq,if_true,if_false,not_false_eq_true,Nat.reduceAdd,Nat.reduceSub,Nat.reduceMul,Nat.reduceLT,Nat.reduceEqDiff,Nat.reduceBEq,reduceIte,Int.reduceEq,Int.reduceLT,Int.reduceLE,reduceCtorEq,TY_EvH32,s1,e1,b1,k2,s2,v1_2] at hz
 rcases dB ((r68 h)) with ⟨h3a,h3⟩|⟨h3a,h3⟩
 ·skip
  have hV:=(r68_ok h3).2
  have lq4:=r68_len h3
  obtain ⟨S5,k5,a5⟩:=c69 t0  S2
  have l5:=a5.1
  have s5:E0.same S2 S5=true:=symEnv_same a5
  have v1_5:=(a5.2 S.next (by omega)).trans v1_2
  have g5:Agree S S5:=g2.trans a5
  try simp (disch:=first|omega|assumption) only [E0_G,SY,setArgs,off,agreeKind,partVals,vals,allocV,boxed,ldA,rdCells,oneB,aggD,aField,aFieldV,aExtract,eq_self,ne_eq,if_true,if_false,not_false_eq_true,Nat.reduceAdd,Nat.reduceSub,Nat.reduceMul,Nat.reduceLT,Nat.reduceEqDiff,Nat.reduceBEq,reduceIte,Int.reduceEq,Int.reduceLT,Int.reduceLE,reduceCtorEq,TY_EvH32,s1,e1,b1,k2,s2,v1_2,h3a,k5,s5,v1_5] at hz
  rcases dB ((r69 t0)) with ⟨h6a,h6⟩|⟨h6a,h6⟩
  ·skip
   have lq7:=r69_iff.1 h6
   obtain ⟨S8,k8,a8⟩:=c69 u0  S5
   have l8:=a8.1
   have s8:E0.same S5 S8=true:=symEnv_same a8
   have v1_8:=(a8.2 S.next (by omega)).trans v1_5
   have g8:Agree S S8:=g5.trans a8
   try simp (disch:=first|omega|assumption) only [E0_G,SY,setArgs,off,agreeKind,partVals,vals,allocV,boxed,ldA,rdCells,oneB,aggD,aField,aFieldV,aExtract,eq_self,ne_eq,if_true,if_false,not_false_eq_true,Nat.reduceAdd,Nat.reduceSub,Nat.reduceMul,Nat.reduceLT,Nat.reduceEqDiff,Nat.reduceBEq,reduceIte,Int.reduceEq,Int.reduceLT,Int.reduceLE,reduceCtorEq,TY_EvH32,s1,e1,b1,k2,s2,v1_2,h3a,k5,s5,v1_5,h6a,k8,s8,v1_8] at hz
   rcases dB ((r69 u0)) with ⟨h9a,h9⟩|⟨h9a,h9⟩
   ·skip
    have lq10:=r69_iff.1 h9
    have w11:=(hv_l.agree g8).len (P:=Tryz.prog) (t:=54) Tryz.underlying54
    try simp (disch:=first|omega|assumption) only [E0_G,SY,setArgs,off,agreeKind,partVals,vals,allocV,boxed,ldA,rdCells,oneB,aggD,aField,aFieldV,aExtract,eq_self,ne_eq,if_true,if_false,not_false_eq_true,Nat.reduceAdd,Nat.reduceSub,Nat.reduceMul,Nat.reduceLT,Nat.reduceEqDiff,Nat.reduceBEq,reduceIte,Int.reduceEq,Int.reduceLT,Int.reduceLE,reduceCtorEq,TY_EvH32,s1,e1,b1,k2,s2,v1_2,h3a,k5,s5,v1_5,h6a,k8,s8,v1_8,h9a,w11] at hz
    rcases dP (10<(l.length:Int)) with ⟨h12a,h12⟩|⟨h12a,h12⟩
    ·skip
     try simp (disch:=first|omega|assumption) only [E0_G,SY,setArgs,off,agreeKind,partVals,vals,allocV,boxed,ldA,rdCells,oneB,aggD,aField,aFieldV,aExtract,eq_self,ne_eq,if_true,if_false,not_false_eq_true,Nat.reduceAdd,Nat.reduceSub,Nat.reduceMul,Nat.reduceLT,Nat.reduceEqDiff,Nat.reduceBEq,reduceIte,Int.reduceEq,Int.reduceLT,Int.reduceLE,reduceCtorEq,TY_EvH32,s1,e1,b1,k2,s2,v1_2,h3a,k5,s5,v1_5,h6a,k8,s8,v1_8,h9a,w11,h12a,c21s] at hz
     have hr:r15 h a b way back t0 u0 l=true:=(if_pos h3).trans ((if_pos h6).trans ((if_pos h9).trans ((if_pos h12).trans (rfl))))
     exact fin hz (by rw [hr]) g8
    ·skip
     have w13:=(hv_h_rooms.agree g8).len (P:=Tryz.prog) (t:=22) Tryz.underlying22
     obtain ⟨S14,k14,a14⟩:=c70 a (h.rooms.length:Int) (by have:=(r68_ok (h:=h) (by assumption)).1.w; omega) S8
     have l14:=a14.1
     have s14:E0.same S8 S14=true:=symEnv_same a14
     have v1_14:=(a14.2 S.next (by omega)).trans v1_8
     have g14:Agree S S14:=g8.trans a14
     have p14:=r70_ok (n:=a) (k:=(h.rooms.length:Int)) ⟨by have:=rooms_pos hV; omega,by have:=(r68_ok (h:=h) (by assumption)).1.w; omega⟩
     have w15:=(hv_h_rooms.agree g14).len (P:=Tryz.prog) (t:=22) Tryz.underlying22
     obtain ⟨S16,k16,a16⟩:=c70 b (h.rooms.length:Int) (by have:=(r68_ok (h:=h) (by assumption)).1.w; omega) S14
     have l16:=a16.1
     have s16:E0.same S14 S16=true:=symEnv_same a16
     have v1_16:=(a16.2 S.next (by omega)).trans v1_14
     have g16:Agree S S16:=g14.trans a16
     have p16:=r70_ok (n:=b) (k:=(h.rooms.length:Int)) ⟨by have:=rooms_pos hV; omega,by have:=(r68_ok (h:=h) (by assumption)).1.w; omega⟩
     obtain ⟨u17,S17,k17,a17,oo17⟩:=c41 h (r70 a (h.rooms.length:Int)) (min t0 u0) (r68_ok (by assumption)).1 hs S16 (v_h_rooms) (hv_h_rooms.agree g16) (v_h_doors) (hv_h_doors.agree g16) (v_h_ways) (hv_h_ways.agree g16)
     have l17:=a17.1
     obtain ⟨pu17,nu17,cu17,rfl⟩:=own_slice oo17
     have s17:E0.same S16 S17=true:=symEnv_same a17
     have v1_17:=(a17.2 S.next (by omega)).trans v1_16
     have g17:Agree S S17:=g16.trans a17
     obtain ⟨u18,S18,k18,a18,oo18⟩:=c41 h (r70 a (h.rooms.length:Int)) (max t0 u0) (r68_ok (by assumption)).1 hs S17 (v_h_rooms) (hv_h_rooms.agree g17) (v_h_doors) (hv_h_doors.agree g17) (v_h_ways) (hv_h_ways.agree g17)
     have l18:=a18.1
     obtain ⟨pu18,nu18,cu18,rfl⟩:=own_slice oo18
     have ap19:∀ b,blkOf (.slice pu17 nu17 cu17)=some b→blkOf (.slice pu18 nu18 cu18)≠some b:=fun b hb=>oo18.ne (Nat.lt_of_lt_of_le (oo17.lt hb) (by omega))
     have s18:E0.same S17 S18=true:=symEnv_same a18
     have v1_18:=(a18.2 S.next (by omega)).trans v1_17
     have o17_20:=oo17.agree a18
     have g18:Agree S S18:=g17.trans a18
     obtain ⟨u21,S21,k21,a21,oo21⟩:=c43 h (r70 b (h.rooms.length:Int)) (min t0 u0) (r68_ok (by assumption)).1 hs S18 (v_h_rooms) (hv_h_rooms.agree g18) (v_h_doors) (hv_h_doors.agree g18) (v_h_ways) (hv_h_ways.agree g18)
     have l21:=a21.1
     obtain ⟨pu21,nu21,cu21,rfl⟩:=own_slice oo21
     have ap22:∀ b,blkOf (.slice pu17 nu17 cu17)=some b→blkOf (.slice pu21 nu21 cu21)≠some b:=fun b hb=>oo21.ne (Nat.lt_of_lt_of_le (o17_20.lt hb) (by omega))
     have ap23:∀ b,blkOf (.slice pu18 nu18 cu18)=some b→blkOf (.slice pu21 nu21 cu21)≠some b:=fun b hb=>oo21.ne (Nat.lt_of_lt_of_le (oo18.lt hb) (by omega))
     have s21:E0.same S18 S21=true:=symEnv_same a21
     have v1_21:=(a21.2 S.next (by omega)).trans v1_18
     have o17_24:=o17_20.agree a21
     have o18_25:=oo18.agree a21
     have g21:Agree S S21:=g18.trans a21
     obtain ⟨u26,S26,k26,a26,oo26⟩:=c43 h (r70 b (h.rooms.length:Int)) (max t0 u0) (r68_ok (by assumption)).1 hs S21 (v_h_rooms) (hv_h_rooms.agree g21) (v_h_doors) (hv_h_doors.agree g21) (v_h_ways) (hv_h_ways.agree g21)
     have l26:=a26.1
     obtain ⟨pu26,nu26,cu26,rfl⟩:=own_slice oo26
     have ap27:∀ b,blkOf (.slice pu17 nu17 cu17)=some b→blkOf (.slice pu26 nu26 cu26)≠some b:=fun b hb=>oo26.ne (Nat.lt_of_lt_of_le (o17_24.lt hb) (by omega))
     have ap28:∀ b,blkOf (.slice pu18 nu18 cu18)=some b→blkOf (.slice pu26 nu26 cu26)≠some b:=fun b hb=>oo26.ne (Nat.lt_of_lt_of_le (o18_25.lt hb) (by omega))
     have ap29:∀ b,blkOf (.slice pu21 nu21 cu21)=some b→blkOf (.slice pu26 nu26 cu26)≠some b:=fun b hb=>oo26.ne (Nat.lt_of_lt_of_le (oo21.lt hb) (by omega))
     have s26:E0.same S21 S26=true:=symEnv_same a26
     have v1_26:=(a26.2 S.next (by omega)).trans v1_21
     have o17_30:=o17_24.agree a26
     have o18_31:=o18_25.agree a26
     have o21_32:=oo21.agree a26
     have g26:Agree S S26:=g21.trans a26
     try simp (disch:=first|omega|assumption) only [E0_G,SY,setArgs,off,agreeKind,partVals,vals,allocV,boxed,ldA,rdCells,oneB,aggD,aField,aFieldV,aExtract,eq_self,ne_eq,if_true,if_false,not_false_eq_true,Nat.reduceAdd,Nat.reduceSub,Nat.reduceMul,Nat.reduceLT,Nat.reduceEqDiff,Nat.reduceBEq,reduceIte,Int.reduceEq,Int.reduceLT,Int.reduceLE,reduceCtorEq,TY_EvH32,s1,e1,b1,k2,s2,v1_2,h3a,k5,s5,v1_5,h6a,k8,s8,v1_8,h9a,w11,h12a,w13,k14,s14,v1_14,w15,k16,s16,v1_16,k17,s17,v1_17,k18,s18,v1_18,k21,s21,v1_21,k26,s26,v1_26] at hz
     rcases dP (((r41 h (r70 a (h.rooms.length:Int)) (min t0 u0)).2)=0) with ⟨h33a,h33⟩|⟨h33a,h33⟩
     ·skip
      try simp (disch:=first|omega|assumption) only [E0_G,SY,setArgs,off,agreeKind,partVals,vals,allocV,boxed,ldA,rdCells,oneB,aggD,aField,aFieldV,aExtract,eq_self,ne_eq,if_true,if_false,not_false_eq_true,Nat.reduceAdd,Nat.reduceSub,Nat.reduceMul,Nat.reduceLT,Nat.reduceEqDiff,Nat.reduceBEq,reduceIte,Int.reduceEq,Int.reduceLT,Int.reduceLE,reduceCtorEq,TY_EvH32,s1,e1,b1,k2,s2,v1_2,h3a,k5,s5,v1_5,h6a,k8,s8,v1_8,h9a,w11,h12a,w13,k14,s14,v1_14,w15,k16,s16,v1_16,k17,s17,v1_17,k18,s18,v1_18,k21,s21,v1_21,k26,s26,v1_26,h33a] at hz
      rcases dP (((r41 h (r70 a (h.rooms.length:Int)) (max t0 u0)).2)=0) with ⟨h34a,h34⟩|⟨h34a,h34⟩
      ·skip
       try simp (disch:=first|omega|assumption) only [E0_G,SY,setArgs,off,agreeKind,partVals,vals,allocV,boxed,ldA,rdCells,oneB,aggD,aField,aFieldV,aExtract,eq_self,ne_eq,if_true,if_false,not_false_eq_true,Nat.reduceAdd,Nat.reduceSub,Nat.reduceMul,Nat.reduceLT,Nat.reduceEqDiff,Nat.reduceBEq,reduceIte,Int.reduceEq,Int.reduceLT,Int.reduceLE,reduceCtorEq,TY_EvH32,s1,e1,b1,k2,s2,v1_2,h3a,k5,s5,v1_5,h6a,k8,s8,v1_8,h9a,w11,h12a,w13,k14,s14,v1_14,w15,k16,s16,v1_16,k17,s17,v1_17,k18,s18,v1_18,k21,s21,v1_21,k26,s26,v1_26,h33a,h34a] at hz
       rcases dP (((r43 h (r70 b (h.rooms.length:Int)) (min t0 u0)).2)=0) with ⟨h35a,h35⟩|⟨h35a,h35⟩
       ·skip
        try simp (disch:=first|omega|assumption) only [E0_G,SY,setArgs,off,agreeKind,partVals,vals,allocV,boxed,ldA,rdCells,oneB,aggD,aField,aFieldV,aExtract,eq_self,ne_eq,if_true,if_false,not_false_eq_true,Nat.reduceAdd,Nat.reduceSub,Nat.reduceMul,Nat.reduceLT,Nat.reduceEqDiff,Nat.reduceBEq,reduceIte,Int.reduceEq,Int.reduceLT,Int.reduceLE,reduceCtorEq,TY_EvH32,s1,e1,b1,k2,s2,v1_2,h3a,k5,s5,v1_5,h6a,k8,s8,v1_8,h9a,w11,h12a,w13,k14,s14,v1_14,w15,k16,s16,v1_16,k17,s17,v1_17,k18,s18,v1_18,k21,s21,v1_21,k26,s26,v1_26,h33a,h34a,h35a] at hz
        rcases dP (((r43 h (r70 b (h.rooms.length:Int)) (max t0 u0)).2)=0) with ⟨h36a,h36⟩|⟨h36a,h36⟩
        ·skip
         have w37:=(o17_30.rows).len (P:=Tryz.prog) (t:=54) Tryz.underlying54
         have w38:=(hv_h_rooms.agree g26).len (P:=Tryz.prog) (t:=22) Tryz.underlying22
         try simp (disch:=first|omega|assumption) only [E0_G,SY,setArgs,off,agreeKind,partVals,vals,allocV,boxed,ldA,rdCells,oneB,aggD,aField,aFieldV,aExtract,eq_self,ne_eq,if_true,if_false,not_false_eq_true,Nat.reduceAdd,Nat.reduceSub,Nat.reduceMul,Nat.reduceLT,Nat.reduceEqDiff,Nat.reduceBEq,reduceIte,Int.reduceEq,Int.reduceLT,Int.reduceLE,reduceCtorEq,TY_EvH32,s1,e1,b1,k2,s2,v1_2,h3a,k5,s5,v1_5,h6a,k8,s8,v1_8,h9a,w11,h12a,w13,k14,s14,v1_14,w15,k16,s16,v1_16,k17,s17,v1_17,k18,s18,v1_18,k21,s21,v1_21,k26,s26,v1_26,h33a,h34a,h35a,h36a,w37,w38] at hz
         rcases dP ((((r41 h (r70 a (h.rooms.length:Int)) (min t0 u0)).1).length:Int)=(h.rooms.length:Int)) with ⟨h39a,h39⟩|⟨h39a,h39⟩
         ·skip
          have w40:=(o18_31.rows).len (P:=Tryz.prog) (t:=54) Tryz.underlying54
          have w41:=(o17_30.rows).len (P:=Tryz.prog) (t:=54) Tryz.underlying54
          try simp (disch:=first|omega|assumption) only [E0_G,SY,setArgs,off,agreeKind,partVals,vals,allocV,boxed,ldA,rdCells,oneB,aggD,aField,aFieldV,aExtract,eq_self,ne_eq,if_true,if_false,not_false_eq_true,Nat.reduceAdd,Nat.reduceSub,Nat.reduceMul,Nat.reduceLT,Nat.reduceEqDiff,Nat.reduceBEq,reduceIte,Int.reduceEq,Int.reduceLT,Int.reduceLE,reduceCtorEq,TY_EvH32,s1,e1,b1,k2,s2,v1_2,h3a,k5,s5,v1_5,h6a,k8,s8,v1_8,h9a,w11,h12a,w13,k14,s14,v1_14,w15,k16,s16,v1_16,k17,s17,v1_17,k18,s18,v1_18,k21,s21,v1_21,k26,s26,v1_26,h33a,h34a,h35a,h36a,w37,w38,h39a,w40,w41] at hz
          rcases dP ((((r41 h (r70 a (h.rooms.length:Int)) (max t0 u0)).1).length:Int)=(((r41 h (r70 a (h.rooms.length:Int)) (min t0 u0)).1).length:Int)) with ⟨h42a,h42⟩|⟨h42a,h42⟩
          ·skip
           have w43:=(o21_32.rows).len (P:=Tryz.prog) (t:=54) Tryz.underlying54
           have w44:=(o17_30.rows).len (P:=Tryz.prog) (t:=54) Tryz.underlying54
           try simp (disch:=first|omega|assumption) only [E0_G,SY,setArgs,off,agreeKind,partVals,vals,allocV,boxed,ldA,rdCells,oneB,aggD,aField,aFieldV,aExtract,eq_self,ne_eq,if_true,if_false,not_false_eq_true,Nat.reduceAdd,Nat.reduceSub,Nat.reduceMul,Nat.reduceLT,Nat.reduceEqDiff,Nat.reduceBEq,reduceIte,Int.reduceEq,Int.reduceLT,Int.reduceLE,reduceCtorEq,TY_EvH32,s1,e1,b1,k2,s2,v1_2,h3a,k5,s5,v1_5,h6a,k8,s8,v1_8,h9a,w11,h12a,w13,k14,s14,v1_14,w15,k16,s16,v1_16,k17,s17,v1_17,k18,s18,v1_18,k21,s21,v1_21,k26,s26,v1_26,h33a,h34a,h35a,h36a,w37,w38,h39a,w40,w41,h42a,w43,w44] at hz
           rcases dP ((((r43 h (r70 b (h.rooms.length:Int)) (min t0 u0)).1).length:Int)=(((r41 h (r70 a (h.rooms.length:Int)) (min t0 u0)).1).length:Int)) with ⟨h45a,h45⟩|⟨h45a,h45⟩
           ·skip
            have w46:=(oo26.rows).len (P:=Tryz.prog) (t:=54) Tryz.underlying54
            have w47:=(o17_30.rows).len (P:=Tryz.prog) (t:=54) Tryz.underlying54
            try simp (disch:=first|omega|assumption) only [E0_G,SY,setArgs,off,agreeKind,partVals,vals,allocV,boxed,ldA,rdCells,oneB,aggD,aField,aFieldV,aExtract,eq_self,ne_eq,if_true,if_false,not_false_eq_true,Nat.reduceAdd,Nat.reduceSub,Nat.reduceMul,Nat.reduceLT,Nat.reduceEqDiff,Nat.reduceBEq,reduceIte,Int.reduceEq,Int.reduceLT,Int.reduceLE,reduceCtorEq,TY_EvH32,s1,e1,b1,k2,s2,v1_2,h3a,k5,s5,v1_5,h6a,k8,s8,v1_8,h9a,w11,h12a,w13,k14,s14,v1_14,w15,k16,s16,v1_16,k17,s17,v1_17,k18,s18,v1_18,k21,s21,v1_21,k26,s26,v1_26,h33a,h34a,h35a,h36a,w37,w38,h39a,w40,w41,h42a,w43,w44,h45a,w46,w47] at hz
            rcases dP ((((r43 h (r70 b (h.rooms.length:Int)) (max t0 u0)).1).length:Int)=(((r41 h (r70 a (h.rooms.length:Int)) (min t0 u0)).1).length:Int)) with ⟨h48a,h48⟩|⟨h48a,h48⟩
            ·skip
             try simp (disch:=first|omega|assumption) only [E0_G,SY,setArgs,off,agreeKind,partVals,vals,allocV,boxed,ldA,rdCells,oneB,aggD,aField,aFieldV,aExtract,eq_self,ne_eq,if_true,if_false,not_false_eq_true,Nat.reduceAdd,Nat.reduceSub,Nat.reduceMul,Nat.reduceLT,Nat.reduceEqDiff,Nat.reduceBEq,reduceIte,Int.reduceEq,Int.reduceLT,Int.reduceLE,reduceCtorEq,TY_EvH32,s1,e1,b1,k2,s2,v1_2,h3a,k5,s5,v1_5,h6a,k8,s8,v1_8,h9a,w11,h12a,w13,k14,s14,v1_14,w15,k16,s16,v1_16,k17,s17,v1_17,k18,s18,v1_18,k21,s21,v1_21,k26,s26,v1_26,h33a,h34a,h35a,h36a,w37,w38,h39a,w40,w41,h42a,w43,w44,h45a,w46,w47,h48a] at hz
             have hL1:=r41_len h (r70 a (h.rooms.length:Int)) (min t0 u0)
             generalize hL49:Rec.loop _ _ _ _=L49 at hz
             obtain ⟨x49,t49,S49e,rfl,hQ49⟩:=loop_met hL49 (fun m t S'=>∃ (k:Nat),m+k=((r41 h (r70 a (h.rooms.length:Int)) (min t0 u0)).1).length∧k≤((r41 h (r70 a (h.rooms.length:Int)) (min t0 u0)).1).length∧t.get 3=some (.int .i64 way)∧t.get 4=some (.bool back)∧t.get 5=some (.int .i64 (min t0 u0))∧t.get 6=some (.int .i64 (max t0 u0))∧t.get 7=some (v_l)∧t.get 8=some (.pointer (some ⟨S.next,0,none⟩))∧t.get 19=some (.slice pu17 nu17 cu17)∧t.get 21=some (.slice pu18 nu18 cu18)∧t.get 23=some (.slice pu21 nu21 cu21)∧t.get 25=some (.slice pu26 nu26 cu26)∧t.get 27=some (.int .i64 (k:Int))∧S'.heap.get S.next=some (.cells [v_h_rooms,v_h_doors,v_h_ways] 26 0 true true)∧Agree S S'∧S26.next≤S'.next∧Own 3 S16.next S' (.slice pu17 nu17 cu17) ((r41 h (r70 a (h.rooms.length:Int)) (min t0 u0)).1)∧Own 3 S17.next S' (.slice pu18 nu18 cu18) ((r41 h (r70 a (h.rooms.length:Int)) (max t0 u0)).1)∧Own 3 S18.next S' (.slice pu21 nu21 cu21) ((r43 h (r70 b (h.rooms.length:Int)) (min t0 u0)).1)∧Own 3 S21.next S' (.slice pu26 nu26 cu26) ((r43 h (r70 b (h.rooms.length:Int)) (max t0 u0)).1)∧R15_0 h a b way back t0 u0 l (((r41 h (r70 a (h.rooms.length:Int)) (min t0 u0)).1).drop k) k=R15_0 h a b way back t0 u0 l ((r41 h (r70 a (h.rooms.length:Int)) (min t0 u0)).1) 0)
              (fun x t S'=>(x=.exit 0∧∃ (k:Nat),t.get 3=some (.int .i64 way)∧t.get 4=some (.bool back)∧t.get 5=some (.int .i64 (min t0 u0))∧t.get 6=some (.int .i64 (max t0 u0))∧t.get 7=some (v_l)∧t.get 8=some (.pointer (some ⟨S.next,0,none⟩))∧S'.heap.get S.next=some (.cells [v_h_rooms,v_h_doors,v_h_ways] 26 0 true true)∧Agree S S'∧S26.next≤S'.next∧Own 3 S16.next S' (.slice pu17 nu17 cu17) ((r41 h (r70 a (h.rooms.length:Int)) (min t0 u0)).1)∧Own 3 S17.next S' (.slice pu18 nu18 cu18) ((r41 h (r70 a (h.rooms.length:Int)) (max t0 u0)).1)∧Own 3 S18.next S' (.slice pu21 nu21 cu21) ((r43 h (r70 b (h.rooms.length:Int)) (min t0 u0)).1)∧Own 3 S21.next S' (.slice pu26 nu26 cu26) ((r43 h (r70 b (h.rooms.length:Int)) (max t0 u0)).1)∧k≤((r41 h (r70 a (h.rooms.length:Int)) (min t0 u0)).1).length∧R15_0 h a b way back t0 u0 l ((r41 h (r70 a (h.rooms.length:Int)) (min t0 u0)).1) 0=.inr ())∨(x=.ret∧∃ (r16:Bool),t.get 16=some (.bool r16)∧Agree S S'∧R15_0 h a b way back t0 u0 l ((r41 h (r70 a (h.rooms.length:Int)) (min t0 u0)).1) 0=.inl (r16))) (((r41 h (r70 a (h.rooms.length:Int)) (min t0 u0)).1).length - 0) (by refine ⟨0,?_,?_,?_,?_,?_,?_,?_,?_,?_,?_,?_,?_,?_,v1_26,g26,Nat.le_refl _,o17_30,o18_31,o21_32,oo26,rfl⟩<;>first|(simp only [SY,setArgs,off,agreeKind,partVals,vals,allocV,boxed,ldA,rdCells,oneB,aggD,aField,aFieldV,aExtract,eq_self,ne_eq,if_true,if_false,not_false_eq_true,Nat.reduceAdd,Nat.reduceSub,Nat.reduceMul,Nat.reduceLT,Nat.reduceEqDiff,Nat.reduceBEq,reduceIte,Int.reduceEq,Int.reduceLT,Int.reduceLE,reduceCtorEq]<;>rfl)|omega|assumption|(simp; omega)|simp) (by
               rintro m t S49 ⟨k,hi49_0,hi49_1,g49_3,g49_4,g49_5,g49_6,g49_7,g49_8,g49_19,g49_21,g49_23,g49_25,g49_27,bb49_1,ga49,gn49,cw49_0,cw49_1,cw49_2,cw49_3,hd49⟩
               refine .run fun z he=>?_
               have w50:=(cw49_0.rows).len (P:=Tryz.prog) (t:=54) Tryz.underlying54
               try simp (disch:=first|omega|assumption) only [E0_G,SY,setArgs,off,agreeKind,partVals,vals,allocV,boxed,ldA,rdCells,oneB,aggD,aField,aFieldV,aExtract,eq_self,ne_eq,if_true,if_false,not_false_eq_true,Nat.reduceAdd,Nat.reduceSub,Nat.reduceMul,Nat.reduceLT,Nat.reduceEqDiff,Nat.reduceBEq,reduceIte,Int.reduceEq,Int.reduceLT,Int.reduceLE,reduceCtorEq,TY_EvH32,g49_3,g49_4,g49_5,g49_6,g49_7,g49_8,g49_19,g49_21,g49_23,g49_25,g49_27,bb49_1,h3a,h6a,h9a,w11,h12a,w13,w15,h33a,h34a,h35a,h36a,w37,w38,h39a,w40,w41,h42a,w43,w44,h45a,w46,w47,h48a,w50] at he
               rcases dP ((k:Int)<(((r41 h (r70 a (h.rooms.length:Int)) (min t0 u0)).1).length:Int)) with ⟨h51a,h51⟩|⟨h51a,h51⟩
               ·skip
                try simp (disch:=first|omega|assumption) only [E0_G,SY,setArgs,off,agreeKind,partVals,vals,allocV,boxed,ldA,rdCells,oneB,aggD,aField,aFieldV,aExtract,eq_self,ne_eq,if_true,if_false,not_false_eq_true,Nat.reduceAdd,Nat.reduceSub,Nat.reduceMul,Nat.reduceLT,Nat.reduceEqDiff,Nat.reduceBEq,reduceIte,Int.reduceEq,Int.reduceLT,Int.reduceLE,reduceCtorEq,TY_EvH32,g49_3,g49_4,g49_5,g49_6,g49_7,g49_8,g49_19,g49_21,g49_23,g49_25,g49_27,bb49_1,h3a,h6a,h9a,w11,h12a,w13,w15,h33a,h34a,h35a,h36a,w37,w38,h39a,w40,w41,h42a,w43,w44,h45a,w46,w47,h48a,w50,h51a] at he
                rw [code_draws _ _ _ (by kernel_rfl)] at he
                generalize hnd52:needy _=nd52 at he
                have hx49:((r41 h (r70 a (h.rooms.length:Int)) (min t0 u0)).1)[k]?=some (((r41 h (r70 a (h.rooms.length:Int)) (min t0 u0)).1)[k]'(by first|omega|simp; omega)):=List.getElem?_eq_getElem _
                generalize ((r41 h (r70 a (h.rooms.length:Int)) (min t0 u0)).1)[k]'_=x49 at hx49
                obtain ⟨id53,of53,cc53,ty53,wr53,ex53,i53,j53,l53,q53,lb53,bk53,oq53⟩:=cw49_0.at4 (P:=Tryz.prog) (t:=54) Tryz.underlying54 tz3 hx49
                have m53_0:cc53[of53]?=some (.int .i64 x49):=q53 0 (show 0<1 by decide)
                have hx54:((r41 h (r70 a (h.rooms.length:Int)) (max t0 u0)).1)[k]?=some (lget ((r41 h (r70 a (h.rooms.length:Int)) (max t0 u0)).1) k):=lget_some (by first|omega|simp; omega)
                obtain ⟨id54,of54,cc54,ty54,wr54,ex54,i54,j54,l54,q54,lb54,bk54,oq54⟩:=cw49_1.at4 (P:=Tryz.prog) (t:=54) Tryz.underlying54 tz3 hx54
                have m54_0:cc54[of54]?=some (.int .i64 (lget ((r41 h (r70 a (h.rooms.length:Int)) (max t0 u0)).1) k)):=q54 0 (show 0<1 by decide)
                try simp (disch:=first|omega|assumption) only [E0_G,SY,setArgs,off,agreeKind,partVals,vals,allocV,boxed,ldA,rdCells,oneB,aggD,aField,aFieldV,aExtract,eq_self,ne_eq,if_true,if_false,not_false_eq_true,Nat.reduceAdd,Nat.reduceSub,Nat.reduceMul,Nat.reduceLT,Nat.reduceEqDiff,Nat.reduceBEq,reduceIte,Int.reduceEq,Int.reduceLT,Int.reduceLE,reduceCtorEq,TY_EvH32,g49_3,g49_4,g49_5,g49_6,g49_7,g49_8,g49_19,g49_21,g49_23,g49_25,g49_27,bb49_1,h3a,h6a,h9a,w11,h12a,w13,w15,h33a,h34a,h35a,h36a,w37,w38,h39a,w40,w41,h42a,w43,w44,h45a,w46,w47,h48a,w50,h51a,store_agree,store_refl E0_same,i53,j53,m53_0,i54,j54,m54_0] at he
                rcases dP ((lget ((r41 h (r70 a (h.rooms.length:Int)) (max t0 u0)).1) k)<x49) with ⟨h55a,h55⟩|⟨h55a,h55⟩
                ·skip
                 try simp (disch:=first|omega|assumption) only [E0_G,SY,setArgs,off,agreeKind,partVals,vals,allocV,boxed,ldA,rdCells,oneB,aggD,aField,aFieldV,aExtract,eq_self,ne_eq,if_true,if_false,not_false_eq_true,Nat.reduceAdd,Nat.reduceSub,Nat.reduceMul,Nat.reduceLT,Nat.reduceEqDiff,Nat.reduceBEq,reduceIte,Int.reduceEq,Int.reduceLT,Int.reduceLE,reduceCtorEq,TY_EvH32,g49_3,g49_4,g49_5,g49_6,g49_7,g49_8,g49_19,g49_21,g49_23,g49_25,g49_27,bb49_1,h3a,h6a,h9a,w11,h12a,w13,w15,h33a,h34a,h35a,h36a,w37,w38,h39a,w40,w41,h42a,w43,w44,h45a,w46,w47,h48a,w50,h51a,store_agree,store_refl E0_same,i53,j53,m53_0,i54,j54,m54_0,h55a] at he
                 rw [drop_cons' hx49] at hd49
                 have hf:=(show _=(.inl false:Sum (Bool) (Unit)) from (if_pos h55).trans (rfl)).symm.trans hd49
                 refine .ret he (.inr ⟨rfl,⟨false,?_,ga49,hf.symm⟩⟩)<;>first|(simp only [SY,setArgs,off,agreeKind,partVals,vals,allocV,boxed,ldA,rdCells,oneB,aggD,aField,aFieldV,aExtract,eq_self,ne_eq,if_true,if_false,not_false_eq_true,Nat.reduceAdd,Nat.reduceSub,Nat.reduceMul,Nat.reduceLT,Nat.reduceEqDiff,Nat.reduceBEq,reduceIte,Int.reduceEq,Int.reduceLT,Int.reduceLE,reduceCtorEq,g49_3,g49_4,g49_5,g49_6,g49_7,g49_8,g49_19,g49_21,g49_23,g49_25,g49_27]<;>rfl)|omega|assumption|(simp; omega)|simp
                ·skip
                 have hx56:((r43 h (r70 b (h.rooms.length:Int)) (min t0 u0)).1)[k]?=some (lget ((r43 h (r70 b (h.rooms.length:Int)) (min t0 u0)).1) k):=lget_some (by first|omega|simp; omega)
                 obtain ⟨id56,of56,cc56,ty56,wr56,ex56,i56,j56,l56,q56,lb56,bk56,oq56⟩:=cw49_2.at4 (P:=Tryz.prog) (t:=54) Tryz.underlying54 tz3 hx56
                 have m56_0:cc56[of56]?=some (.int .i64 (lget ((r43 h (r70 b (h.rooms.length:Int)) (min t0 u0)).1) k)):=q56 0 (show 0<1 by decide)
                 have hx57:((r43 h (r70 b (h.rooms.length:Int)) (max t0 u0)).1)[k]?=some (lget ((r43 h (r70 b (h.rooms.length:Int)) (max t0 u0)).1) k):=lget_some (by first|omega|simp; omega)
                 obtain ⟨id57,of57,cc57,ty57,wr57,ex57,i57,j57,l57,q57,lb57,bk57,oq57⟩:=cw49_3.at4 (P:=Tryz.prog) (t:=54) Tryz.underlying54 tz3 hx57
                 have m57_0:cc57[of57]?=some (.int .i64 (lget ((r43 h (r70 b (h.rooms.length:Int)) (max t0 u0)).1) k)):=q57 0 (show 0<1 by decide)
                 try simp (disch:=first|omega|assumption) only [E0_G,SY,setArgs,off,agreeKind,partVals,vals,allocV,boxed,ldA,rdCells,oneB,aggD,aField,aFieldV,aExtract,eq_self,ne_eq,if_true,if_false,not_false_eq_true,Nat.reduceAdd,Nat.reduceSub,Nat.reduceMul,Nat.reduceLT,Nat.reduceEqDiff,Nat.reduceBEq,reduceIte,Int.reduceEq,Int.reduceLT,Int.reduceLE,reduceCtorEq,TY_EvH32,g49_3,g49_4,g49_5,g49_6,g49_7,g49_8,g49_19,g49_21,g49_23,g49_25,g49_27,bb49_1,h3a,h6a,h9a,w11,h12a,w13,w15,h33a,h34a,h35a,h36a,w37,w38,h39a,w40,w41,h42a,w43,w44,h45a,w46,w47,h48a,w50,h51a,store_agree,store_refl E0_same,i53,j53,m53_0,i54,j54,m54_0,h55a,i56,j56,m56_0,i57,j57,m57_0] at he
                 rcases dP ((lget ((r43 h (r70 b (h.rooms.length:Int)) (max t0 u0)).1) k)<(lget ((r43 h (r70 b (h.rooms.length:Int)) (min t0 u0)).1) k)) with ⟨h58a,h58⟩|⟨h58a,h58⟩
                 ·skip
                  try simp (disch:=first|omega|assumption) only [E0_G,SY,setArgs,off,agreeKind,partVals,vals,allocV,boxed,ldA,rdCells,oneB,aggD,aField,aFieldV,aExtract,eq_self,ne_eq,if_true,if_false,not_false_eq_true,Nat.reduceAdd,Nat.reduceSub,Nat.reduceMul,Nat.reduceLT,Nat.reduceEqDiff,Nat.reduceBEq,reduceIte,Int.reduceEq,Int.reduceLT,Int.reduceLE,reduceCtorEq,TY_EvH32,g49_3,g49_4,g49_5,g49_6,g49_7,g49_8,g49_19,g49_21,g49_23,g49_25,g49_27,bb49_1,h3a,h6a,h9a,w11,h12a,w13,w15,h33a,h34a,h35a,h36a,w37,w38,h39a,w40,w41,h42a,w43,w44,h45a,w46,w47,h48a,w50,h51a,store_agree,store_refl E0_same,i53,j53,m53_0,i54,j54,m54_0,h55a,i56,j56,m56_0,i57,j57,m57_0,h58a] at he
                  rw [drop_cons' hx49] at hd49
                  have hf:=(show _=(.inl false:Sum (Bool) (Unit)) from (if_neg h55).trans ((if_pos h58).trans (rfl))).symm.trans hd49
                  refine .ret he (.inr ⟨rfl,⟨false,?_,ga49,hf.symm⟩⟩)<;>first|(simp only [SY,setArgs,off,agreeKind,partVals,vals,allocV,boxed,ldA,rdCells,oneB,aggD,aField,aFieldV,aExtract,eq_self,ne_eq,if_true,if_false,not_false_eq_true,Nat.reduceAdd,Nat.reduceSub,Nat.reduceMul,Nat.reduceLT,Nat.reduceEqDiff,Nat.reduceBEq,reduceIte,Int.reduceEq,Int.reduceLT,Int.reduceLE,reduceCtorEq,g49_3,g49_4,g49_5,g49_6,g49_7,g49_8,g49_19,g49_21,g49_23,g49_25,g49_27]<;>rfl)|omega|assumption|(simp; omega)|simp
                 ·skip
                  obtain ⟨id59,of59,cc59,ty59,wr59,ex59,i59,j59,l59,q59,lb59,bk59,oq59⟩:=cw49_0.at4 (P:=Tryz.prog) (t:=54) Tryz.underlying54 tz3 hx49
                  obtain rfl:id53=id59:=Option.some.inj (bk53.symm.trans bk59)
                  obtain rfl:of53=of59:=oq53.trans oq59.symm
                  have m59_0:cc59[of53]?=some (.int .i64 x49):=q59 0 (show 0<1 by decide)
                  try simp (disch:=first|omega|assumption) only [E0_G,SY,setArgs,off,agreeKind,partVals,vals,allocV,boxed,ldA,rdCells,oneB,aggD,aField,aFieldV,aExtract,eq_self,ne_eq,if_true,if_false,not_false_eq_true,Nat.reduceAdd,Nat.reduceSub,Nat.reduceMul,Nat.reduceLT,Nat.reduceEqDiff,Nat.reduceBEq,reduceIte,Int.reduceEq,Int.reduceLT,Int.reduceLE,reduceCtorEq,TY_EvH32,g49_3,g49_4,g49_5,g49_6,g49_7,g49_8,g49_19,g49_21,g49_23,g49_25,g49_27,bb49_1,h3a,h6a,h9a,w11,h12a,w13,w15,h33a,h34a,h35a,h36a,w37,w38,h39a,w40,w41,h42a,w43,w44,h45a,w46,w47,h48a,w50,h51a,store_agree,store_refl E0_same,i53,j53,m53_0,i54,j54,m54_0,h55a,i56,j56,m56_0,i57,j57,m57_0,h58a,i59,j59,m59_0] at he
                  rcases dP (x49<(min t0 u0)) with ⟨h60a,h60⟩|⟨h60a,h60⟩
                  ·skip
                   try simp (disch:=first|omega|assumption) only [E0_G,SY,setArgs,off,agreeKind,partVals,vals,allocV,boxed,ldA,rdCells,oneB,aggD,aField,aFieldV,aExtract,eq_self,ne_eq,if_true,if_false,not_false_eq_true,Nat.reduceAdd,Nat.reduceSub,Nat.reduceMul,Nat.reduceLT,Nat.reduceEqDiff,Nat.reduceBEq,reduceIte,Int.reduceEq,Int.reduceLT,Int.reduceLE,reduceCtorEq,TY_EvH32,g49_3,g49_4,g49_5,g49_6,g49_7,g49_8,g49_19,g49_21,g49_23,g49_25,g49_27,bb49_1,h3a,h6a,h9a,w11,h12a,w13,w15,h33a,h34a,h35a,h36a,w37,w38,h39a,w40,w41,h42a,w43,w44,h45a,w46,w47,h48a,w50,h51a,store_agree,store_refl E0_same,i53,j53,m53_0,i54,j54,m54_0,h55a,i56,j56,m56_0,i57,j57,m57_0,h58a,i59,j59,m59_0,h60a] at he
                   rw [drop_cons' hx49] at hd49
                   have hf:=(show _=(.inl false:Sum (Bool) (Unit)) from (if_neg h55).trans ((if_neg h58).trans ((if_pos h60).trans (rfl)))).symm.trans hd49
                   refine .ret he (.inr ⟨rfl,⟨false,?_,ga49,hf.symm⟩⟩)<;>first|(simp only [SY,setArgs,off,agreeKind,partVals,vals,allocV,boxed,ldA,rdCells,oneB,aggD,aField,aFieldV,aExtract,eq_self,ne_eq,if_true,if_false,not_false_eq_true,Nat.reduceAdd,Nat.reduceSub,Nat.reduceMul,Nat.reduceLT,Nat.reduceEqDiff,Nat.reduceBEq,reduceIte,Int.reduceEq,Int.reduceLT,Int.reduceLE,reduceCtorEq,g49_3,g49_4,g49_5,g49_6,g49_7,g49_8,g49_19,g49_21,g49_23,g49_25,g49_27]<;>rfl)|omega|assumption|(simp; omega)|simp
                  ·skip
                   obtain ⟨id61,of61,cc61,ty61,wr61,ex61,i61,j61,l61,q61,lb61,bk61,oq61⟩:=cw49_2.at4 (P:=Tryz.prog) (t:=54) Tryz.underlying54 tz3 hx56
                   obtain rfl:id56=id61:=Option.some.inj (bk56.symm.trans bk61)
                   obtain rfl:of56=of61:=oq56.trans oq61.symm
                   have m61_0:cc61[of56]?=some (.int .i64 (lget ((r43 h (r70 b (h.rooms.length:Int)) (min t0 u0)).1) k)):=q61 0 (show 0<1 by decide)
                   try simp (disch:=first|omega|assumption) only [E0_G,SY,setArgs,off,agreeKind,partVals,vals,allocV,boxed,ldA,rdCells,oneB,aggD,aField,aFieldV,aExtract,eq_self,ne_eq,if_true,if_false,not_false_eq_true,Nat.reduceAdd,Nat.reduceSub,Nat.reduceMul,Nat.reduceLT,Nat.reduceEqDiff,Nat.reduceBEq,reduceIte,Int.reduceEq,Int.reduceLT,Int.reduceLE,reduceCtorEq,TY_EvH32,g49_3,g49_4,g49_5,g49_6,g49_7,g49_8,g49_19,g49_21,g49_23,g49_25,g49_27,bb49_1,h3a,h6a,h9a,w11,h12a,w13,w15,h33a,h34a,h35a,h36a,w37,w38,h39a,w40,w41,h42a,w43,w44,h45a,w46,w47,h48a,w50,h51a,store_agree,store_refl E0_same,i53,j53,m53_0,i54,j54,m54_0,h55a,i56,j56,m56_0,i57,j57,m57_0,h58a,i59,j59,m59_0,h60a,i61,j61,m61_0] at he
                   rcases dP ((min t0 u0)<(lget ((r43 h (r70 b (h.rooms.length:Int)) (min t0 u0)).1) k)) with ⟨h62a,h62⟩|⟨h62a,h62⟩
                   ·skip
                    try simp (disch:=first|omega|assumption) only [E0_G,SY,setArgs,off,agreeKind,partVals,vals,allocV,boxed,ldA,rdCells,oneB,aggD,aField,aFieldV,aExtract,eq_self,ne_eq,if_true,if_false,not_false_eq_true,Nat.reduceAdd,Nat.reduceSub,Nat.reduceMul,Nat.reduceLT,Nat.reduceEqDiff,Nat.reduceBEq,reduceIte,Int.reduceEq,Int.reduceLT,Int.reduceLE,reduceCtorEq,TY_EvH32,g49_3,g49_4,g49_5,g49_6,g49_7,g49_8,g49_19,g49_21,g49_23,g49_25,g49_27,bb49_1,h3a,h6a,h9a,w11,h12a,w13,w15,h33a,h34a,h35a,h36a,w37,w38,h39a,w40,w41,h42a,w43,w44,h45a,w46,w47,h48a,w50,h51a,store_agree,store_refl E0_same,i53,j53,m53_0,i54,j54,m54_0,h55a,i56,j56,m56_0,i57,j57,m57_0,h58a,i59,j59,m59_0,h60a,i61,j61,m61_0,h62a] at he
                    rw [drop_cons' hx49] at hd49
                    have hf:=(show _=(.inl false:Sum (Bool) (Unit)) from (if_neg h55).trans ((if_neg h58).trans ((if_neg h60).trans ((if_pos h62).trans (rfl))))).symm.trans hd49
                    refine .ret he (.inr ⟨rfl,⟨false,?_,ga49,hf.symm⟩⟩)<;>first|(simp only [SY,setArgs,off,agreeKind,partVals,vals,allocV,boxed,ldA,rdCells,oneB,aggD,aField,aFieldV,aExtract,eq_self,ne_eq,if_true,if_false,not_false_eq_true,Nat.reduceAdd,Nat.reduceSub,Nat.reduceMul,Nat.reduceLT,Nat.reduceEqDiff,Nat.reduceBEq,reduceIte,Int.reduceEq,Int.reduceLT,Int.reduceLE,reduceCtorEq,g49_3,g49_4,g49_5,g49_6,g49_7,g49_8,g49_19,g49_21,g49_23,g49_25,g49_27]<;>rfl)|omega|assumption|(simp; omega)|simp
                   ·skip
                    have w63:IntKind.i64.wrap ((k:Int)+1)=((k+1:Nat):Int):=by rw [IntWalk.i64_in]<;>omega
                    try simp (disch:=first|omega|assumption) only [E0_G,SY,setArgs,off,agreeKind,partVals,vals,allocV,boxed,ldA,rdCells,oneB,aggD,aField,aFieldV,aExtract,eq_self,ne_eq,if_true,if_false,not_false_eq_true,Nat.reduceAdd,Nat.reduceSub,Nat.reduceMul,Nat.reduceLT,Nat.reduceEqDiff,Nat.reduceBEq,reduceIte,Int.reduceEq,Int.reduceLT,Int.reduceLE,reduceCtorEq,TY_EvH32,g49_3,g49_4,g49_5,g49_6,g49_7,g49_8,g49_19,g49_21,g49_23,g49_25,g49_27,bb49_1,h3a,h6a,h9a,w11,h12a,w13,w15,h33a,h34a,h35a,h36a,w37,w38,h39a,w40,w41,h42a,w43,w44,h45a,w46,w47,h48a,w50,h51a,store_agree,store_refl E0_same,i53,j53,m53_0,i54,j54,m54_0,h55a,i56,j56,m56_0,i57,j57,m57_0,h58a,i59,j59,m59_0,h60a,i61,j61,m61_0,h62a,w63] at he
                    rw [drop_cons' hx49] at hd49
                    have hf:=(show _=(R15_0 h a b way back t0 u0 l (((r41 h (r70 a (h.rooms.length:Int)) (min t0 u0)).1).drop (k+1)) (k+1):Sum (Bool) (Unit)) from (if_neg h55).trans ((if_neg h58).trans ((if_neg h60).trans ((if_neg h62).trans (rfl))))).symm.trans hd49
                    refine .next he (m - 1) (by omega) ⟨(k+1),?_,?_,?_,?_,?_,?_,?_,?_,?_,?_,?_,?_,?_,bb49_1,ga49,by omega,cw49_0,cw49_1,cw49_2,cw49_3,hf⟩<;>first|(simp only [SY,setArgs,off,agreeKind,partVals,vals,allocV,boxed,ldA,rdCells,oneB,aggD,aField,aFieldV,aExtract,eq_self,ne_eq,if_true,if_false,not_false_eq_true,Nat.reduceAdd,Nat.reduceSub,Nat.reduceMul,Nat.reduceLT,Nat.reduceEqDiff,Nat.reduceBEq,reduceIte,Int.reduceEq,Int.reduceLT,Int.reduceLE,reduceCtorEq,g49_3,g49_4,g49_5,g49_6,g49_7,g49_8,g49_19,g49_21,g49_23,g49_25,g49_27]<;>rfl)|omega|assumption|(simp; omega)|simp
               ·skip
                try simp (disch:=first|omega|assumption) only [E0_G,SY,setArgs,off,agreeKind,partVals,vals,allocV,boxed,ldA,rdCells,oneB,aggD,aField,aFieldV,aExtract,eq_self,ne_eq,if_true,if_false,not_false_eq_true,Nat.reduceAdd,Nat.reduceSub,Nat.reduceMul,Nat.reduceLT,Nat.reduceEqDiff,Nat.reduceBEq,reduceIte,Int.reduceEq,Int.reduceLT,Int.reduceLE,reduceCtorEq,TY_EvH32,g49_3,g49_4,g49_5,g49_6,g49_7,g49_8,g49_19,g49_21,g49_23,g49_25,g49_27,bb49_1,h3a,h6a,h9a,w11,h12a,w13,w15,h33a,h34a,h35a,h36a,w37,w38,h39a,w40,w41,h42a,w43,w44,h45a,w46,w47,h48a,w50,h51a] at he
                rw [List.drop_eq_nil_of_le (show ((r41 h (r70 a (h.rooms.length:Int)) (min t0 u0)).1).length≤k by omega)] at hd49
                have hf:=(show _=(.inr ():Sum (Bool) (Unit)) from rfl).symm.trans hd49
                refine .exit he (.inl ⟨rfl,⟨k,?_,?_,?_,?_,?_,?_,bb49_1,ga49,by omega,cw49_0,cw49_1,cw49_2,cw49_3,?_,hf.symm⟩⟩)<;>first|(simp only [SY,setArgs,off,agreeKind,partVals,vals,allocV,boxed,ldA,rdCells,oneB,aggD,aField,aFieldV,aExtract,eq_self,ne_eq,if_true,if_false,not_false_eq_true,Nat.reduceAdd,Nat.reduceSub,Nat.reduceMul,Nat.reduceLT,Nat.reduceEqDiff,Nat.reduceBEq,reduceIte,Int.reduceEq,Int.reduceLT,Int.reduceLE,reduceCtorEq,g49_3,g49_4,g49_5,g49_6,g49_7,g49_8,g49_19,g49_21,g49_23,g49_25,g49_27]<;>rfl)|omega|assumption|(simp; omega)|simp)
             rcases hQ49 with ⟨rfl,hQ49⟩|⟨rfl,hQ49⟩
             ·skip
              obtain ⟨k,ge49_3,ge49_4,ge49_5,ge49_6,ge49_7,ge49_8,be49_1,ge49,gm49,ce49_0,ce49_1,ce49_2,ce49_3,hj49_0,hR49⟩:=hQ49
              have w65:=(hv_h_ways.agree ge49).len (P:=Tryz.prog) (t:=24) Tryz.underlying24
              try simp (disch:=first|omega|assumption) only [E0_G,SY,setArgs,off,agreeKind,partVals,vals,allocV,boxed,ldA,rdCells,oneB,aggD,aField,aFieldV,aExtract,eq_self,ne_eq,if_true,if_false,not_false_eq_true,Nat.reduceAdd,Nat.reduceSub,Nat.reduceMul,Nat.reduceLT,Nat.reduceEqDiff,Nat.reduceBEq,reduceIte,Int.reduceEq,Int.reduceLT,Int.reduceLE,reduceCtorEq,TY_EvH32,h3a,h6a,h9a,w11,h12a,w13,w15,h33a,h34a,h35a,h36a,w37,w38,h39a,w40,w41,h42a,w43,w44,h45a,w46,w47,h48a,ge49_3,ge49_4,ge49_5,ge49_6,ge49_7,ge49_8,be49_1,w65] at hz
              rcases dP (0<(h.ways.length:Int)) with ⟨h66a,h66⟩|⟨h66a,h66⟩
              ·skip
               have w67:=(hv_h_ways.agree ge49).len (P:=Tryz.prog) (t:=24) Tryz.underlying24
               obtain ⟨S68,k68,a68⟩:=c70 way (h.ways.length:Int) (by have:=(r68_ok (h:=h) (by assumption)).1.w; omega) S49e
               have l68:=a68.1
               have s68:E0.same S49e S68=true:=symEnv_same a68
               have v1_68:=(a68.2 S.next (by omega)).trans be49_1
               have oce49_69:=ce49_0.agree a68
               have oce49_70:=ce49_1.agree a68
               have oce49_71:=ce49_2.agree a68
               have oce49_72:=ce49_3.agree a68
               have g68:Agree S S68:=ge49.trans a68
               have p68:=r70_ok (n:=way) (k:=(h.ways.length:Int)) ⟨by have:=rooms_pos hV; omega,by have:=(r68_ok (h:=h) (by assumption)).1.w; omega⟩
               obtain ⟨S73,k73,a73⟩:=c35 h (r70 way (h.ways.length:Int)) back (min t0 u0) (r68_ok (by assumption)).1 hs S68 (v_h_rooms) (hv_h_rooms.agree g68) (v_h_doors) (hv_h_doors.agree g68) (v_h_ways) (hv_h_ways.agree g68)
               have l73:=a73.1
               have s73:E0.same S68 S73=true:=symEnv_same a73
               have v1_73:=(a73.2 S.next (by omega)).trans v1_68
               have oce49_74:=oce49_69.agree a73
               have oce49_75:=oce49_70.agree a73
               have oce49_76:=oce49_71.agree a73
               have oce49_77:=oce49_72.agree a73
               have g73:Agree S S73:=g68.trans a73
               obtain ⟨S78,k78,a78⟩:=c35 h (r70 way (h.ways.length:Int)) back (max t0 u0) (r68_ok (by assumption)).1 hs S73 (v_h_rooms) (hv_h_rooms.agree g73) (v_h_doors) (hv_h_doors.agree g73) (v_h_ways) (hv_h_ways.agree g73)
               have l78:=a78.1
               have s78:E0.same S73 S78=true:=symEnv_same a78
               have v1_78:=(a78.2 S.next (by omega)).trans v1_73
               have oce49_79:=oce49_74.agree a78
               have oce49_80:=oce49_75.agree a78
               have oce49_81:=oce49_76.agree a78
               have oce49_82:=oce49_77.agree a78
               have g78:Agree S S78:=g73.trans a78
               obtain ⟨S83,k83,a83⟩:=c37 h (r70 way (h.ways.length:Int)) back (min t0 u0) (r68_ok (by assumption)).1 hs S78 (v_h_rooms) (hv_h_rooms.agree g78) (v_h_doors) (hv_h_doors.agree g78) (v_h_ways) (hv_h_ways.agree g78)
               have l83:=a83.1
               have s83:E0.same S78 S83=true:=symEnv_same a83
               have v1_83:=(a83.2 S.next (by omega)).trans v1_78
               have oce49_84:=oce49_79.agree a83
               have oce49_85:=oce49_80.agree a83
               have oce49_86:=oce49_81.agree a83
               have oce49_87:=oce49_82.agree a83
               have g83:Agree S S83:=g78.trans a83
               obtain ⟨S88,k88,a88⟩:=c37 h (r70 way (h.ways.length:Int)) back (max t0 u0) (r68_ok (by assumption)).1 hs S83 (v_h_rooms) (hv_h_rooms.agree g83) (v_h_doors) (hv_h_doors.agree g83) (v_h_ways) (hv_h_ways.agree g83)
               have l88:=a88.1
               have s88:E0.same S83 S88=true:=symEnv_same a88
               have v1_88:=(a88.2 S.next (by omega)).trans v1_83
               have oce49_89:=oce49_84.agree a88
               have oce49_90:=oce49_85.agree a88
               have oce49_91:=oce49_86.agree a88
               have oce49_92:=oce49_87.agree a88
               have g88:Agree S S88:=g83.trans a88
               try simp (disch:=first|omega|assumption) only [E0_G,SY,setArgs,off,agreeKind,partVals,vals,allocV,boxed,ldA,rdCells,oneB,aggD,aField,aFieldV,aExtract,eq_self,ne_eq,if_true,if_false,not_false_eq_true,Nat.reduceAdd,Nat.reduceSub,Nat.reduceMul,Nat.reduceLT,Nat.reduceEqDiff,Nat.reduceBEq,reduceIte,Int.reduceEq,Int.reduceLT,Int.reduceLE,reduceCtorEq,TY_EvH32,h3a,h6a,h9a,w11,h12a,w13,w15,h33a,h34a,h35a,h36a,w37,w38,h39a,w40,w41,h42a,w43,w44,h45a,w46,w47,h48a,ge49_3,ge49_4,ge49_5,ge49_6,ge49_7,ge49_8,be49_1,w65,h66a,w67,k68,s68,v1_68,k73,s73,v1_73,k78,s78,v1_78,k83,s83,v1_83,k88,s88,v1_88] at hz
               rcases dP (((r35 h (r70 way (h.ways.length:Int)) back (min t0 u0)).2)=((r35 h (r70 way (h.ways.length:Int)) back (max t0 u0)).2)) with ⟨h93a,h93⟩|⟨h93a,h93⟩
               ·skip
                try simp (disch:=first|omega|assumption) only [E0_G,SY,setArgs,off,agreeKind,partVals,vals,allocV,boxed,ldA,rdCells,oneB,aggD,aField,aFieldV,aExtract,eq_self,ne_eq,if_true,if_false,not_false_eq_true,Nat.reduceAdd,Nat.reduceSub,Nat.reduceMul,Nat.reduceLT,Nat.reduceEqDiff,Nat.reduceBEq,reduceIte,Int.reduceEq,Int.reduceLT,Int.reduceLE,reduceCtorEq,TY_EvH32,h3a,h6a,h9a,w11,h12a,w13,w15,h33a,h34a,h35a,h36a,w37,w38,h39a,w40,w41,h42a,w43,w44,h45a,w46,w47,h48a,ge49_3,ge49_4,ge49_5,ge49_6,ge49_7,ge49_8,be49_1,w65,h66a,w67,k68,s68,v1_68,k73,s73,v1_73,k78,s78,v1_78,k83,s83,v1_83,k88,s88,v1_88,h93a] at hz
                rcases dP (((r37 h (r70 way (h.ways.length:Int)) back (min t0 u0)).2)=((r37 h (r70 way (h.ways.length:Int)) back (max t0 u0)).2)) with ⟨h94a,h94⟩|⟨h94a,h94⟩
                ·skip
                 try simp (disch:=first|omega|assumption) only [E0_G,SY,setArgs,off,agreeKind,partVals,vals,allocV,boxed,ldA,rdCells,oneB,aggD,aField,aFieldV,aExtract,eq_self,ne_eq,if_true,if_false,not_false_eq_true,Nat.reduceAdd,Nat.reduceSub,Nat.reduceMul,Nat.reduceLT,Nat.reduceEqDiff,Nat.reduceBEq,reduceIte,Int.reduceEq,Int.reduceLT,Int.reduceLE,reduceCtorEq,TY_EvH32,h3a,h6a,h9a,w11,h12a,w13,w15,h33a,h34a,h35a,h36a,w37,w38,h39a,w40,w41,h42a,w43,w44,h45a,w46,w47,h48a,ge49_3,ge49_4,ge49_5,ge49_6,ge49_7,ge49_8,be49_1,w65,h66a,w67,k68,s68,v1_68,k73,s73,v1_73,k78,s78,v1_78,k83,s83,v1_83,k88,s88,v1_88,h93a,h94a] at hz
                 rcases dP (((r35 h (r70 way (h.ways.length:Int)) back (min t0 u0)).2)=((r37 h (r70 way (h.ways.length:Int)) back (min t0 u0)).2)) with ⟨h95a,h95⟩|⟨h95a,h95⟩
                 ·skip
                  try simp (disch:=first|omega|assumption) only [E0_G,SY,setArgs,off,agreeKind,partVals,vals,allocV,boxed,ldA,rdCells,oneB,aggD,aField,aFieldV,aExtract,eq_self,ne_eq,if_true,if_false,not_false_eq_true,Nat.reduceAdd,Nat.reduceSub,Nat.reduceMul,Nat.reduceLT,Nat.reduceEqDiff,Nat.reduceBEq,reduceIte,Int.reduceEq,Int.reduceLT,Int.reduceLE,reduceCtorEq,TY_EvH32,h3a,h6a,h9a,w11,h12a,w13,w15,h33a,h34a,h35a,h36a,w37,w38,h39a,w40,w41,h42a,w43,w44,h45a,w46,w47,h48a,ge49_3,ge49_4,ge49_5,ge49_6,ge49_7,ge49_8,be49_1,w65,h66a,w67,k68,s68,v1_68,k73,s73,v1_73,k78,s78,v1_78,k83,s83,v1_83,k88,s88,v1_88,h93a,h94a,h95a] at hz
                  rcases dP (((r35 h (r70 way (h.ways.length:Int)) back (max t0 u0)).1)<((r35 h (r70 way (h.ways.length:Int)) back (min t0 u0)).1)) with ⟨h96a,h96⟩|⟨h96a,h96⟩
                  ·skip
                   try simp (disch:=first|omega|assumption) only [E0_G,SY,setArgs,off,agreeKind,partVals,vals,allocV,boxed,ldA,rdCells,oneB,aggD,aField,aFieldV,aExtract,eq_self,ne_eq,if_true,if_false,not_false_eq_true,Nat.reduceAdd,Nat.reduceSub,Nat.reduceMul,Nat.reduceLT,Nat.reduceEqDiff,Nat.reduceBEq,reduceIte,Int.reduceEq,Int.reduceLT,Int.reduceLE,reduceCtorEq,TY_EvH32,h3a,h6a,h9a,w11,h12a,w13,w15,h33a,h34a,h35a,h36a,w37,w38,h39a,w40,w41,h42a,w43,w44,h45a,w46,w47,h48a,ge49_3,ge49_4,ge49_5,ge49_6,ge49_7,ge49_8,be49_1,w65,h66a,w67,k68,s68,v1_68,k73,s73,v1_73,k78,s78,v1_78,k83,s83,v1_83,k88,s88,v1_88,h93a,h94a,h95a,h96a] at hz
                   have hr:r15 h a b way back t0 u0 l=false:=(if_pos h3).trans ((if_pos h6).trans ((if_pos h9).trans ((if_neg h12).trans ((if_pos h33).trans ((if_pos h34).trans ((if_pos h35).trans ((if_pos h36).trans ((if_pos h39).trans ((if_pos h42).trans ((if_pos h45).trans ((if_pos h48).trans ((onSum_inr hR49).trans ((if_pos h66).trans ((if_pos h93).trans ((if_pos h94).trans ((if_pos h95).trans ((if_pos h96).trans (rfl))))))))))))))))))
                   exact fin hz (by rw [hr]) g88
                  ·skip
                   try simp (disch:=first|omega|assumption) only [E0_G,SY,setArgs,off,agreeKind,partVals,vals,allocV,boxed,ldA,rdCells,oneB,aggD,aField,aFieldV,aExtract,eq_self,ne_eq,if_true,if_false,not_false_eq_true,Nat.reduceAdd,Nat.reduceSub,Nat.reduceMul,Nat.reduceLT,Nat.reduceEqDiff,Nat.reduceBEq,reduceIte,Int.reduceEq,Int.reduceLT,Int.reduceLE,reduceCtorEq,TY_EvH32,h3a,h6a,h9a,w11,h12a,w13,w15,h33a,h34a,h35a,h36a,w37,w38,h39a,w40,w41,h42a,w43,w44,h45a,w46,w47,h48a,ge49_3,ge49_4,ge49_5,ge49_6,ge49_7,ge49_8,be49_1,w65,h66a,w67,k68,s68,v1_68,k73,s73,v1_73,k78,s78,v1_78,k83,s83,v1_83,k88,s88,v1_88,h93a,h94a,h95a,h96a] at hz
                   rcases dP (((r37 h (r70 way (h.ways.length:Int)) back (max t0 u0)).1)<((r37 h (r70 way (h.ways.length:Int)) back (min t0 u0)).1)) with ⟨h97a,h97⟩|⟨h97a,h97⟩
                   ·skip
                    try simp (disch:=first|omega|assumption) only [E0_G,SY,setArgs,off,agreeKind,partVals,vals,allocV,boxed,ldA,rdCells,oneB,aggD,aField,aFieldV,aExtract,eq_self,ne_eq,if_true,if_false,not_false_eq_true,Nat.reduceAdd,Nat.reduceSub,Nat.reduceMul,Nat.reduceLT,Nat.reduceEqDiff,Nat.reduceBEq,reduceIte,Int.reduceEq,Int.reduceLT,Int.reduceLE,reduceCtorEq,TY_EvH32,h3a,h6a,h9a,w11,h12a,w13,w15,h33a,h34a,h35a,h36a,w37,w38,h39a,w40,w41,h42a,w43,w44,h45a,w46,w47,h48a,ge49_3,ge49_4,ge49_5,ge49_6,ge49_7,ge49_8,be49_1,w65,h66a,w67,k68,s68,v1_68,k73,s73,v1_73,k78,s78,v1_78,k83,s83,v1_83,k88,s88,v1_88,h93a,h94a,h95a,h96a,h97a] at hz
                    have hr:r15 h a b way back t0 u0 l=false:=(if_pos h3).trans ((if_pos h6).trans ((if_pos h9).trans ((if_neg h12).trans ((if_pos h33).trans ((if_pos h34).trans ((if_pos h35).trans ((if_pos h36).trans ((if_pos h39).trans ((if_pos h42).trans ((if_pos h45).trans ((if_pos h48).trans ((onSum_inr hR49).trans ((if_pos h66).trans ((if_pos h93).trans ((if_pos h94).trans ((if_pos h95).trans ((if_neg h96).trans ((if_pos h97).trans (rfl)))))))))))))))))))
                    exact fin hz (by rw [hr]) g88
                   ·skip
                    obtain ⟨S98,k98,a98⟩:=c61 h (l:List Int) (min t0 u0) (r68_ok (by assumption)).1 hs (by omega) S88 (v_h_rooms) (hv_h_rooms.agree g88) (v_h_doors) (hv_h_doors.agree g88) (v_h_ways) (hv_h_ways.agree g88) (v_l) (hv_l.agree g88)
                    have l98:=a98.1
                    have s98:E0.same S88 S98=true:=symEnv_same a98
                    have v1_98:=(a98.2 S.next (by omega)).trans v1_88
                    have oce49_99:=oce49_89.agree a98
                    have oce49_100:=oce49_90.agree a98
                    have oce49_101:=oce49_91.agree a98
                    have oce49_102:=oce49_92.agree a98
                    have g98:Agree S S98:=g88.trans a98
                    obtain ⟨S103,k103,a103⟩:=c61 h (l:List Int) (max t0 u0) (r68_ok (by assumption)).1 hs (by omega) S98 (v_h_rooms) (hv_h_rooms.agree g98) (v_h_doors) (hv_h_doors.agree g98) (v_h_ways) (hv_h_ways.agree g98) (v_l) (hv_l.agree g98)
                    have l103:=a103.1
                    have s103:E0.same S98 S103=true:=symEnv_same a103
                    have v1_103:=(a103.2 S.next (by omega)).trans v1_98
                    have oce49_104:=oce49_99.agree a103
                    have oce49_105:=oce49_100.agree a103
                    have oce49_106:=oce49_101.agree a103
                    have oce49_107:=oce49_102.agree a103
                    have g103:Agree S S103:=g98.trans a103
                    try simp (disch:=first|omega|assumption) only [E0_G,SY,setArgs,off,agreeKind,partVals,vals,allocV,boxed,ldA,rdCells,oneB,aggD,aField,aFieldV,aExtract,eq_self,ne_eq,if_true,if_false,not_false_eq_true,Nat.reduceAdd,Nat.reduceSub,Nat.reduceMul,Nat.reduceLT,Nat.reduceEqDiff,Nat.reduceBEq,reduceIte,Int.reduceEq,Int.reduceLT,Int.reduceLE,reduceCtorEq,TY_EvH32,h3a,h6a,h9a,w11,h12a,w13,w15,h33a,h34a,h35a,h36a,w37,w38,h39a,w40,w41,h42a,w43,w44,h45a,w46,w47,h48a,ge49_3,ge49_4,ge49_5,ge49_6,ge49_7,ge49_8,be49_1,w65,h66a,w67,k68,s68,v1_68,k73,s73,v1_73,k78,s78,v1_78,k83,s83,v1_83,k88,s88,v1_88,h93a,h94a,h95a,h96a,h97a,k98,s98,v1_98,k103,s103,v1_103,c21s] at hz
                    rcases dP (((r61 h (l:List Int) (min t0 u0)).2)=((r61 h (l:List Int) (max t0 u0)).2)) with ⟨h108a,h108⟩|⟨h108a,h108⟩
                    ·skip
                     try simp (disch:=first|omega|assumption) only [E0_G,SY,setArgs,off,agreeKind,partVals,vals,allocV,boxed,ldA,rdCells,oneB,aggD,aField,aFieldV,aExtract,eq_self,ne_eq,if_true,if_false,not_false_eq_true,Nat.reduceAdd,Nat.reduceSub,Nat.reduceMul,Nat.reduceLT,Nat.reduceEqDiff,Nat.reduceBEq,reduceIte,Int.reduceEq,Int.reduceLT,Int.reduceLE,reduceCtorEq,TY_EvH32,h3a,h6a,h9a,w11,h12a,w13,w15,h33a,h34a,h35a,h36a,w37,w38,h39a,w40,w41,h42a,w43,w44,h45a,w46,w47,h48a,ge49_3,ge49_4,ge49_5,ge49_6,ge49_7,ge49_8,be49_1,w65,h66a,w67,k68,s68,v1_68,k73,s73,v1_73,k78,s78,v1_78,k83,s83,v1_83,k88,s88,v1_88,h93a,h94a,h95a,h96a,h97a,k98,s98,v1_98,k103,s103,v1_103,c21s,h108a] at hz
                     have hr:r15 h a b way back t0 u0 l=decide (((r61 h (l:List Int) (min t0 u0)).1)≤((r61 h (l:List Int) (max t0 u0)).1)):=(if_pos h3).trans ((if_pos h6).trans ((if_pos h9).trans ((if_neg h12).trans ((if_pos h33).trans ((if_pos h34).trans ((if_pos h35).trans ((if_pos h36).trans ((if_pos h39).trans ((if_pos h42).trans ((if_pos h45).trans ((if_pos h48).trans ((onSum_inr hR49).trans ((if_pos h66).trans ((if_pos h93).trans ((if_pos h94).trans ((if_pos h95).trans ((if_neg h96).trans ((if_neg h97).trans ((if_pos h108).trans (rfl))))))))))))))))))))
                     exact fin hz (by rw [hr]) g103
                    ·skip
                     try simp (disch:=first|omega|assumption) only [E0_G,SY,setArgs,off,agreeKind,partVals,vals,allocV,boxed,ldA,rdCells,oneB,aggD,aField,aFieldV,aExtract,eq_self,ne_eq,if_true,if_false,not_false_eq_true,Nat.reduceAdd,Nat.reduceSub,Nat.reduceMul,Nat.reduceLT,Nat.reduceEqDiff,Nat.reduceBEq,reduceIte,Int.reduceEq,Int.reduceLT,Int.reduceLE,reduceCtorEq,TY_EvH32,h3a,h6a,h9a,w11,h12a,w13,w15,h33a,h34a,h35a,h36a,w37,w38,h39a,w40,w41,h42a,w43,w44,h45a,w46,w47,h48a,ge49_3,ge49_4,ge49_5,ge49_6,ge49_7,ge49_8,be49_1,w65,h66a,w67,k68,s68,v1_68,k73,s73,v1_73,k78,s78,v1_78,k83,s83,v1_83,k88,s88,v1_88,h93a,h94a,h95a,h96a,h97a,k98,s98,v1_98,k103,s103,v1_103,c21s,h108a] at hz
                     have hr:r15 h a b way back t0 u0 l=false:=(if_pos h3).trans ((if_pos h6).trans ((if_pos h9).trans ((if_neg h12).trans ((if_pos h33).trans ((if_pos h34).trans ((if_pos h35).trans ((if_pos h36).trans ((if_pos h39).trans ((if_pos h42).trans ((if_pos h45).trans ((if_pos h48).trans ((onSum_inr hR49).trans ((if_pos h66).trans ((if_pos h93).trans ((if_pos h94).trans ((if_pos h95).trans ((if_neg h96).trans ((if_neg h97).trans ((if_neg h108).trans (rfl))))))))))))))))))))
                     exact fin hz (by rw [hr]) g103
                 ·skip
                  try simp (disch:=first|omega|assumption) only [E0_G,SY,setArgs,off,agreeKind,partVals,vals,allocV,boxed,ldA,rdCells,oneB,aggD,aField,aFieldV,aExtract,eq_self,ne_eq,if_true,if_false,not_false_eq_true,Nat.reduceAdd,Nat.reduceSub,Nat.reduceMul,Nat.reduceLT,Nat.reduceEqDiff,Nat.reduceBEq,reduceIte,Int.reduceEq,Int.reduceLT,Int.reduceLE,reduceCtorEq,TY_EvH32,h3a,h6a,h9a,w11,h12a,w13,w15,h33a,h34a,h35a,h36a,w37,w38,h39a,w40,w41,h42a,w43,w44,h45a,w46,w47,h48a,ge49_3,ge49_4,ge49_5,ge49_6,ge49_7,ge49_8,be49_1,w65,h66a,w67,k68,s68,v1_68,k73,s73,v1_73,k78,s78,v1_78,k83,s83,v1_83,k88,s88,v1_88,h93a,h94a,h95a] at hz
                  have hr:r15 h a b way back t0 u0 l=false:=(if_pos h3).trans ((if_pos h6).trans ((if_pos h9).trans ((if_neg h12).trans ((if_pos h33).trans ((if_pos h34).trans ((if_pos h35).trans ((if_pos h36).trans ((if_pos h39).trans ((if_pos h42).trans ((if_pos h45).trans ((if_pos h48).trans ((onSum_inr hR49).trans ((if_pos h66).trans ((if_pos h93).trans ((if_pos h94).trans ((if_neg h95).trans (rfl)))))))))))))))))
                  exact fin hz (by rw [hr]) g88
                ·skip
                 try simp (disch:=first|omega|assumption) only [E0_G,SY,setArgs,off,agreeKind,partVals,vals,allocV,boxed,ldA,rdCells,oneB,aggD,aField,aFieldV,aExtract,eq_self,ne_eq,if_true,if_false,not_false_eq_true,Nat.reduceAdd,Nat.reduceSub,Nat.reduceMul,Nat.reduceLT,Nat.reduceEqDiff,Nat.reduceBEq,reduceIte,Int.reduceEq,Int.reduceLT,Int.reduceLE,reduceCtorEq,TY_EvH32,h3a,h6a,h9a,w11,h12a,w13,w15,h33a,h34a,h35a,h36a,w37,w38,h39a,w40,w41,h42a,w43,w44,h45a,w46,w47,h48a,ge49_3,ge49_4,ge49_5,ge49_6,ge49_7,ge49_8,be49_1,w65,h66a,w67,k68,s68,v1_68,k73,s73,v1_73,k78,s78,v1_78,k83,s83,v1_83,k88,s88,v1_88,h93a,h94a] at hz
                 have hr:r15 h a b way back t0 u0 l=false:=(if_pos h3).trans ((if_pos h6).trans ((if_pos h9).trans ((if_neg h12).trans ((if_pos h33).trans ((if_pos h34).trans ((if_pos h35).trans ((if_pos h36).trans ((if_pos h39).trans ((if_pos h42).trans ((if_pos h45).trans ((if_pos h48).trans ((onSum_inr hR49).trans ((if_pos h66).trans ((if_pos h93).trans ((if_neg h94).trans (rfl))))))))))))))))
                 exact fin hz (by rw [hr]) g88
               ·skip
                try simp (disch:=first|omega|assumption) only [E0_G,SY,setArgs,off,agreeKind,partVals,vals,allocV,boxed,ldA,rdCells,oneB,aggD,aField,aFieldV,aExtract,eq_self,ne_eq,if_true,if_false,not_false_eq_true,Nat.reduceAdd,Nat.reduceSub,Nat.reduceMul,Nat.reduceLT,Nat.reduceEqDiff,Nat.reduceBEq,reduceIte,Int.reduceEq,Int.reduceLT,Int.reduceLE,reduceCtorEq,TY_EvH32,h3a,h6a,h9a,w11,h12a,w13,w15,h33a,h34a,h35a,h36a,w37,w38,h39a,w40,w41,h42a,w43,w44,h45a,w46,w47,h48a,ge49_3,ge49_4,ge49_5,ge49_6,ge49_7,ge49_8,be49_1,w65,h66a,w67,k68,s68,v1_68,k73,s73,v1_73,k78,s78,v1_78,k83,s83,v1_83,k88,s88,v1_88,h93a] at hz
                have hr:r15 h a b way back t0 u0 l=false:=(if_pos h3).trans ((if_pos h6).trans ((if_pos h9).trans ((if_neg h12).trans ((if_pos h33).trans ((if_pos h34).trans ((if_pos h35).trans ((if_pos h36).trans ((if_pos h39).trans ((if_pos h42).trans ((if_pos h45).trans ((if_pos h48).trans ((onSum_inr hR49).trans ((if_pos h66).trans ((if_neg h93).trans (rfl)))))))))))))))
                exact fin hz (by rw [hr]) g88
              ·skip
               obtain ⟨S109,k109,a109⟩:=c61 h (l:List Int) (min t0 u0) (r68_ok (by assumption)).1 hs (by omega) S49e (v_h_rooms) (hv_h_rooms.agree ge49) (v_h_doors) (hv_h_doors.agree ge49) (v_h_ways) (hv_h_ways.agree ge49) (v_l) (hv_l.agree ge49)
               have l109:=a109.1
               have s109:E0.same S49e S109=true:=symEnv_same a109
               have v1_109:=(a109.2 S.next (by omega)).trans be49_1
               have oce49_110:=ce49_0.agree a109
               have oce49_111:=ce49_1.agree a109
               have oce49_112:=ce49_2.agree a109
               have oce49_113:=ce49_3.agree a109
               have g109:Agree S S109:=ge49.trans a109
               obtain ⟨S114,k114,a114⟩:=c61 h (l:List Int) (max t0 u0) (r68_ok (by assumption)).1 hs (by omega) S109 (v_h_rooms) (hv_h_rooms.agree g109) (v_h_doors) (hv_h_doors.agree g109) (v_h_ways) (hv_h_ways.agree g109) (v_l) (hv_l.agree g109)
               have l114:=a114.1
               have s114:E0.same S109 S114=true:=symEnv_same a114
               have v1_114:=(a114.2 S.next (by omega)).trans v1_109
               have oce49_115:=oce49_110.agree a114
               have oce49_116:=oce49_111.agree a114
               have oce49_117:=oce49_112.agree a114
               have oce49_118:=oce49_113.agree a114
               have g114:Agree S S114:=g109.trans a114
               try simp (disch:=first|omega|assumption) only [E0_G,SY,setArgs,off,agreeKind,partVals,vals,allocV,boxed,ldA,rdCells,oneB,aggD,aField,aFieldV,aExtract,eq_self,ne_eq,if_true,if_false,not_false_eq_true,Nat.reduceAdd,Nat.reduceSub,Nat.reduceMul,Nat.reduceLT,Nat.reduceEqDiff,Nat.reduceBEq,reduceIte,Int.reduceEq,Int.reduceLT,Int.reduceLE,reduceCtorEq,TY_EvH32,h3a,h6a,h9a,w11,h12a,w13,w15,h33a,h34a,h35a,h36a,w37,w38,h39a,w40,w41,h42a,w43,w44,h45a,w46,w47,h48a,ge49_3,ge49_4,ge49_5,ge49_6,ge49_7,ge49_8,be49_1,w65,h66a,k109,s109,v1_109,k114,s114,v1_114,c21s] at hz
               rcases dP (((r61 h (l:List Int) (min t0 u0)).2)=((r61 h (l:List Int) (max t0 u0)).2)) with ⟨h119a,h119⟩|⟨h119a,h119⟩
               ·skip
                try simp (disch:=first|omega|assumption) only [E0_G,SY,setArgs,off,agreeKind,partVals,vals,allocV,boxed,ldA,rdCells,oneB,aggD,aField,aFieldV,aExtract,eq_self,ne_eq,if_true,if_false,not_false_eq_true,Nat.reduceAdd,Nat.reduceSub,Nat.reduceMul,Nat.reduceLT,Nat.reduceEqDiff,Nat.reduceBEq,reduceIte,Int.reduceEq,Int.reduceLT,Int.reduceLE,reduceCtorEq,TY_EvH32,h3a,h6a,h9a,w11,h12a,w13,w15,h33a,h34a,h35a,h36a,w37,w38,h39a,w40,w41,h42a,w43,w44,h45a,w46,w47,h48a,ge49_3,ge49_4,ge49_5,ge49_6,ge49_7,ge49_8,be49_1,w65,h66a,k109,s109,v1_109,k114,s114,v1_114,c21s,h119a] at hz
                have hr:r15 h a b way back t0 u0 l=decide (((r61 h (l:List Int) (min t0 u0)).1)≤((r61 h (l:List Int) (max t0 u0)).1)):=(if_pos h3).trans ((if_pos h6).trans ((if_pos h9).trans ((if_neg h12).trans ((if_pos h33).trans ((if_pos h34).trans ((if_pos h35).trans ((if_pos h36).trans ((if_pos h39).trans ((if_pos h42).trans ((if_pos h45).trans ((if_pos h48).trans ((onSum_inr hR49).trans ((if_neg h66).trans ((if_pos h119).trans (rfl)))))))))))))))
                exact fin hz (by rw [hr]) g114
               ·skip
                try simp (disch:=first|omega|assumption) only [E0_G,SY,setArgs,off,agreeKind,partVals,vals,allocV,boxed,ldA,rdCells,oneB,aggD,aField,aFieldV,aExtract,eq_self,ne_eq,if_true,if_false,not_false_eq_true,Nat.reduceAdd,Nat.reduceSub,Nat.reduceMul,Nat.reduceLT,Nat.reduceEqDiff,Nat.reduceBEq,reduceIte,Int.reduceEq,Int.reduceLT,Int.reduceLE,reduceCtorEq,TY_EvH32,h3a,h6a,h9a,w11,h12a,w13,w15,h33a,h34a,h35a,h36a,w37,w38,h39a,w40,w41,h42a,w43,w44,h45a,w46,w47,h48a,ge49_3,ge49_4,ge49_5,ge49_6,ge49_7,ge49_8,be49_1,w65,h66a,k109,s109,v1_109,k114,s114,v1_114,c21s,h119a] at hz
                have hr:r15 h a b way back t0 u0 l=false:=(if_pos h3).trans ((if_pos h6).trans ((if_pos h9).trans ((if_neg h12).trans ((if_pos h33).trans ((if_pos h34).trans ((if_pos h35).trans ((if_pos h36).trans ((if_pos h39).trans ((if_pos h42).trans ((if_pos h45).trans ((if_pos h48).trans ((onSum_inr hR49).trans ((if_neg h66).trans ((if_neg h119).trans (rfl)))))))))))))))
                exact fin hz (by rw [hr]) g114
             ·skip
              obtain ⟨r16,ge49_16,ge49,hR49⟩:=hQ49
              try simp (disch:=first|omega|assumption) only [E0_G,SY,setArgs,off,agreeKind,partVals,vals,allocV,boxed,ldA,rdCells,oneB,aggD,aField,aFieldV,aExtract,eq_self,ne_eq,if_true,if_false,not_false_eq_true,Nat.reduceAdd,Nat.reduceSub,Nat.reduceMul,Nat.reduceLT,Nat.reduceEqDiff,Nat.reduceBEq,reduceIte,Int.reduceEq,Int.reduceLT,Int.reduceLE,reduceCtorEq,TY_EvH32,h3a,h6a,h9a,w11,h12a,w13,w15,h33a,h34a,h35a,h36a,w37,w38,h39a,w40,w41,h42a,w43,w44,h45a,w46,w47,h48a,ge49_16] at hz
              have hr:r15 h a b way back t0 u0 l=r16:=(if_pos h3).trans ((if_pos h6).trans ((if_pos h9).trans ((if_neg h12).trans ((if_pos h33).trans ((if_pos h34).trans ((if_pos h35).trans ((if_pos h36).trans ((if_pos h39).trans ((if_pos h42).trans ((if_pos h45).trans ((if_pos h48).trans ((onSum_inl hR49).trans (rfl)))))))))))))
              exact fin hz (by rw [hr]) ge49
            ·skip
             try simp (disch:=first|omega|assumption) only [E0_G,SY,setArgs,off,agreeKind,partVals,vals,allocV,boxed,ldA,rdCells,oneB,aggD,aField,aFieldV,aExtract,eq_self,ne_eq,if_true,if_false,not_false_eq_true,Nat.reduceAdd,Nat.reduceSub,Nat.reduceMul,Nat.reduceLT,Nat.reduceEqDiff,Nat.reduceBEq,reduceIte,Int.reduceEq,Int.reduceLT,Int.reduceLE,reduceCtorEq,TY_EvH32,s1,e1,b1,k2,s2,v1_2,h3a,k5,s5,v1_5,h6a,k8,s8,v1_8,h9a,w11,h12a,w13,k14,s14,v1_14,w15,k16,s16,v1_16,k17,s17,v1_17,k18,s18,v1_18,k21,s21,v1_21,k26,s26,v1_26,h33a,h34a,h35a,h36a,w37,w38,h39a,w40,w41,h42a,w43,w44,h45a,w46,w47,h48a] at hz
             have hr:r15 h a b way back t0 u0 l=false:=(if_pos h3).trans ((if_pos h6).trans ((if_pos h9).trans ((if_neg h12).trans ((if_pos h33).trans ((if_pos h34).trans ((if_pos h35).trans ((if_pos h36).trans ((if_pos h39).trans ((if_pos h42).trans ((if_pos h45).trans ((if_neg h48).trans (rfl))))))))))))
             exact fin hz (by rw [hr]) g26
           ·skip
            try simp (disch:=first|omega|assumption) only [E0_G,SY,setArgs,off,agreeKind,partVals,vals,allocV,boxed,ldA,rdCells,oneB,aggD,aField,aFieldV,aExtract,eq_self,ne_eq,if_true,if_false,not_false_eq_true,Nat.reduceAdd,Nat.reduceSub,Nat.reduceMul,Nat.reduceLT,Nat.reduceEqDiff,Nat.reduceBEq,reduceIte,Int.reduceEq,Int.reduceLT,Int.reduceLE,reduceCtorEq,TY_EvH32,s1,e1,b1,k2,s2,v1_2,h3a,k5,s5,v1_5,h6a,k8,s8,v1_8,h9a,w11,h12a,w13,k14,s14,v1_14,w15,k16,s16,v1_16,k17,s17,v1_17,k18,s18,v1_18,k21,s21,v1_21,k26,s26,v1_26,h33a,h34a,h35a,h36a,w37,w38,h39a,w40,w41,h42a,w43,w44,h45a] at hz
            have hr:r15 h a b way back t0 u0 l=false:=(if_pos h3).trans ((if_pos h6).trans ((if_pos h9).trans ((if_neg h12).trans ((if_pos h33).trans ((if_pos h34).trans ((if_pos h35).trans ((if_pos h36).trans ((if_pos h39).trans ((if_pos h42).trans ((if_neg h45).trans (rfl)))))))))))
            exact fin hz (by rw [hr]) g26
          ·skip
           try simp (disch:=first|omega|assumption) only [E0_G,SY,setArgs,off,agreeKind,partVals,vals,allocV,boxed,ldA,rdCells,oneB,aggD,aField,aFieldV,aExtract,eq_self,ne_eq,if_true,if_false,not_false_eq_true,Nat.reduceAdd,Nat.reduceSub,Nat.reduceMul,Nat.reduceLT,Nat.reduceEqDiff,Nat.reduceBEq,reduceIte,Int.reduceEq,Int.reduceLT,Int.reduceLE,reduceCtorEq,TY_EvH32,s1,e1,b1,k2,s2,v1_2,h3a,k5,s5,v1_5,h6a,k8,s8,v1_8,h9a,w11,h12a,w13,k14,s14,v1_14,w15,k16,s16,v1_16,k17,s17,v1_17,k18,s18,v1_18,k21,s21,v1_21,k26,s26,v1_26,h33a,h34a,h35a,h36a,w37,w38,h39a,w40,w41,h42a] at hz
           have hr:r15 h a b way back t0 u0 l=false:=(if_pos h3).trans ((if_pos h6).trans ((if_pos h9).trans ((if_neg h12).trans ((if_pos h33).trans ((if_pos h34).trans ((if_pos h35).trans ((if_pos h36).trans ((if_pos h39).trans ((if_neg h42).trans (rfl))))))))))
           exact fin hz (by rw [hr]) g26
         ·skip
          try simp (disch:=first|omega|assumption) only [E0_G,SY,setArgs,off,agreeKind,partVals,vals,allocV,boxed,ldA,rdCells,oneB,aggD,aField,aFieldV,aExtract,eq_self,ne_eq,if_true,if_false,not_false_eq_true,Nat.reduceAdd,Nat.reduceSub,Nat.reduceMul,Nat.reduceLT,Nat.reduceEqDiff,Nat.reduceBEq,reduceIte,Int.reduceEq,Int.reduceLT,Int.reduceLE,reduceCtorEq,TY_EvH32,s1,e1,b1,k2,s2,v1_2,h3a,k5,s5,v1_5,h6a,k8,s8,v1_8,h9a,w11,h12a,w13,k14,s14,v1_14,w15,k16,s16,v1_16,k17,s17,v1_17,k18,s18,v1_18,k21,s21,v1_21,k26,s26,v1_26,h33a,h34a,h35a,h36a,w37,w38,h39a] at hz
          have hr:r15 h a b way back t0 u0 l=false:=(if_pos h3).trans ((if_pos h6).trans ((if_pos h9).trans ((if_neg h12).trans ((if_pos h33).trans ((if_pos h34).trans ((if_pos h35).trans ((if_pos h36).trans ((if_neg h39).trans (rfl)))))))))
          exact fin hz (by rw [hr]) g26
        ·skip
         try simp (disch:=first|omega|assumption) only [E0_G,SY,setArgs,off,agreeKind,partVals,vals,allocV,boxed,ldA,rdCells,oneB,aggD,aField,aFieldV,aExtract,eq_self,ne_eq,if_true,if_false,not_false_eq_true,Nat.reduceAdd,Nat.reduceSub,Nat.reduceMul,Nat.reduceLT,Nat.reduceEqDiff,Nat.reduceBEq,reduceIte,Int.reduceEq,Int.reduceLT,Int.reduceLE,reduceCtorEq,TY_EvH32,s1,e1,b1,k2,s2,v1_2,h3a,k5,s5,v1_5,h6a,k8,s8,v1_8,h9a,w11,h12a,w13,k14,s14,v1_14,w15,k16,s16,v1_16,k17,s17,v1_17,k18,s18,v1_18,k21,s21,v1_21,k26,s26,v1_26,h33a,h34a,h35a,h36a] at hz
         have hr:r15 h a b way back t0 u0 l=false:=(if_pos h3).trans ((if_pos h6).trans ((if_pos h9).trans ((if_neg h12).trans ((if_pos h33).trans ((if_pos h34).trans ((if_pos h35).trans ((if_neg h36).trans (rfl))))))))
         exact fin hz (by rw [hr]) g26
       ·skip
        try simp (disch:=first|omega|assumption) only [E0_G,SY,setArgs,off,agreeKind,partVals,vals,allocV,boxed,ldA,rdCells,oneB,aggD,aField,aFieldV,aExtract,eq_self,ne_eq,if_true,if_false,not_false_eq_true,Nat.reduceAdd,Nat.reduceSub,Nat.reduceMul,Nat.reduceLT,Nat.reduceEqDiff,Nat.reduceBEq,reduceIte,Int.reduceEq,Int.reduceLT,Int.reduceLE,reduceCtorEq,TY_EvH32,s1,e1,b1,k2,s2,v1_2,h3a,k5,s5,v1_5,h6a,k8,s8,v1_8,h9a,w11,h12a,w13,k14,s14,v1_14,w15,k16,s16,v1_16,k17,s17,v1_17,k18,s18,v1_18,k21,s21,v1_21,k26,s26,v1_26,h33a,h34a,h35a] at hz
        have hr:r15 h a b way back t0 u0 l=false:=(if_pos h3).trans ((if_pos h6).trans ((if_pos h9).trans ((if_neg h12).trans ((if_pos h33).trans ((if_pos h34).trans ((if_neg h35).trans (rfl)))))))
        exact fin hz (by rw [hr]) g26
      ·skip
       try simp (disch:=first|omega|assumption) only [E0_G,SY,setArgs,off,agreeKind,partVals,vals,allocV,boxed,ldA,rdCells,oneB,aggD,aField,aFieldV,aExtract,eq_self,ne_eq,if_true,if_false,not_false_eq_true,Nat.reduceAdd,Nat.reduceSub,Nat.reduceMul,Nat.reduceLT,Nat.reduceEqDiff,Nat.reduceBEq,reduceIte,Int.reduceEq,Int.reduceLT,Int.reduceLE,reduceCtorEq,TY_EvH32,s1,e1,b1,k2,s2,v1_2,h3a,k5,s5,v1_5,h6a,k8,s8,v1_8,h9a,w11,h12a,w13,k14,s14,v1_14,w15,k16,s16,v1_16,k17,s17,v1_17,k18,s18,v1_18,k21,s21,v1_21,k26,s26,v1_26,h33a,h34a] at hz
       have hr:r15 h a b way back t0 u0 l=false:=(if_pos h3).trans ((if_pos h6).trans ((if_pos h9).trans ((if_neg h12).trans ((if_pos h33).trans ((if_neg h34).trans (rfl))))))
       exact fin hz (by rw [hr]) g26
     ·skip
      try simp (disch:=first|omega|assumption) only [E0_G,SY,setArgs,off,agreeKind,partVals,vals,allocV,boxed,ldA,rdCells,oneB,aggD,aField,aFieldV,aExtract,eq_self,ne_eq,if_true,if_false,not_false_eq_true,Nat.reduceAdd,Nat.reduceSub,Nat.reduceMul,Nat.reduceLT,Nat.reduceEqDiff,Nat.reduceBEq,reduceIte,Int.reduceEq,Int.reduceLT,Int.reduceLE,reduceCtorEq,TY_EvH32,s1,e1,b1,k2,s2,v1_2,h3a,k5,s5,v1_5,h6a,k8,s8,v1_8,h9a,w11,h12a,w13,k14,s14,v1_14,w15,k16,s16,v1_16,k17,s17,v1_17,k18,s18,v1_18,k21,s21,v1_21,k26,s26,v1_26,h33a] at hz
      have hr:r15 h a b way back t0 u0 l=false:=(if_pos h3).trans ((if_pos h6).trans ((if_pos h9).trans ((if_neg h12).trans ((if_neg h33).trans (rfl)))))
      exact fin hz (by rw [hr]) g26
   ·skip
    try simp (disch:=first|omega|assumption) only [E0_G,SY,setArgs,off,agreeKind,partVals,vals,allocV,boxed,ldA,rdCells,oneB,aggD,aField,aFieldV,aExtract,eq_self,ne_eq,if_true,if_false,not_false_eq_true,Nat.reduceAdd,Nat.reduceSub,Nat.reduceMul,Nat.reduceLT,Nat.reduceEqDiff,Nat.reduceBEq,reduceIte,Int.reduceEq,Int.reduceLT,Int.reduceLE,reduceCtorEq,TY_EvH32,s1,e1,b1,k2,s2,v1_2,h3a,k5,s5,v1_5,h6a,k8,s8,v1_8,h9a,c21s] at hz
    have hr:r15 h a b way back t0 u0 l=true:=(if_pos h3).trans ((if_pos h6).trans ((if_neg h9).trans (rfl)))
    exact fin hz (by rw [hr]) g8
  ·skip
   try simp (disch:=first|omega|assumption) only [E0_G,SY,setArgs,off,agreeKind,partVals,vals,allocV,boxed,ldA,rdCells,oneB,aggD,aField,aFieldV,aExtract,eq_self,ne_eq,if_true,if_false,not_false_eq_true,Nat.reduceAdd,Nat.reduceSub,Nat.reduceMul,Nat.reduceLT,Nat.reduceEqDiff,Nat.reduceBEq,reduceIte,Int.reduceEq,Int.reduceLT,Int.reduceLE,reduceCtorEq,TY_EvH32,s1,e1,b1,k2,s2,v1_2,h3a,k5,s5,v1_5,h6a,c21s] at hz
   have hr:r15 h a b way back t0 u0 l=true:=(if_pos h3).trans ((if_neg h6).trans (rfl))
   exact fin hz (by rw [hr]) g5
 ·skip
  try simp (disch:=first|omega|assumption) only [E0_G,SY,setArgs,off,agreeKind,partVals,vals,allocV,boxed,ldA,rdCells,oneB,aggD,aField,aFieldV,aExtract,eq_self,ne_eq,if_true,if_false,not_false_eq_true,Nat.reduceAdd,Nat.reduceSub,Nat.reduceMul,Nat.reduceLT,Nat.reduceEqDiff,Nat.reduceBEq,reduceIte,Int.reduceEq,Int.reduceLT,Int.reduceLE,reduceCtorEq,TY_EvH32,s1,e1,b1,k2,s2,v1_2,h3a,c21s] at hz
  have hr:r15 h a b way back t0 u0 l=true:=(if_neg h3).trans (rfl)
  exact fin hz (by rw [hr]) g2
end House
end Go.Proofs
