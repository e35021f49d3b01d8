import Derived.Test.YtohfdkdjfoonjaaGreatDoorEvM13
set_option linter.unusedSimpArgs false
set_option linter.unusedVariables false
namespace Go.Proofs
namespace House
open Go Go.RowKit Go.Aev
set_option maxRecDepth 100000
theorem TY_EvH32:type_of% TY_EvH31:=TY_EvH31
theorem r70_ok {n k:Int} (hk:1≤k∧k≤1000):0≤r70 n k∧r70 n k<k:=by
 have e:r70 n k=IntKind.i64.wrap (Int.tmod (n % (2 ^ 64:Int)) k):=by
  unfold r70
  rw [show max k 1=k by omega,u64w (x:=k) (by omega)]
  rw [show IntKind.u64.wrap n=n % (2 ^ 64:Int) by simp [IntKind.wrap,IntKind.signed,IntKind.bits]]
 have h1:0≤n % (2 ^ 64:Int):=Int.emod_nonneg _ (by decide)
 have h2:Int.tmod (n % (2 ^ 64:Int)) k=(n % (2 ^ 64:Int)) % k:=Int.tmod_eq_emod_of_nonneg h1
 have h3:=Int.emod_nonneg (n % (2 ^ 64:Int)) (show k≠0 by omega)
 have h4:=Int.emod_lt_of_pos (n % (2 ^ 64:Int)) (show 0<k by omega)
 rw [e,h2,wr64 (by omega)]
 exact ⟨h3,h4⟩
def r17 (h:Hs) (a:Int) (ta:Int) (b:Int) (tb:Int) (l:List Int):Bool:=(if (r68 h)=true then (if (r69 ta)=true then (if (r69 tb)=true then (if 40<(l.length:Int) then true else (if ((r45 h (r70 a (h.rooms.length:Int)) ta (r70 b (h.rooms.length:Int)) tb).2)=0 then (if ((r41 h (r70 a (h.rooms.length:Int)) ta).2)=0 then (if ((r43 h (r70 b (h.rooms.length:Int)) tb).2)=0 then (if (((r41 h (r70 a (h.rooms.length:Int)) ta).1).length:Int)=(h.rooms.length:Int) then (if (((r43 h (r70 b (h.rooms.length:Int)) tb).1).length:Int)=(((r41 h (r70 a (h.rooms.length:Int)) ta).1).length:Int) then (if ((r45 h (r70 a (h.rooms.length:Int)) ta (r70 b (h.rooms.length:Int)) tb).1)=(decide ((lget ((r41 h (r70 a (h.rooms.length:Int)) ta).1) (Int.toNat (r70 b (h.rooms.length:Int))))≤tb)) then (if ((r45 h (r70 a (h.rooms.length:Int)) ta (r70 b (h.rooms.length:Int)) tb).1)=(decide (ta≤(lget ((r43 h (r70 b (h.rooms.length:Int)) tb).1) (Int.toNat (r70 a (h.rooms.length:Int)))))) then (if (r45 h (r70 a (h.rooms.length:Int)) ta (r70 b (h.rooms.length:Int)) tb).1=true then (if ((r54 h (r70 a (h.rooms.length:Int)) ta (r70 b (h.rooms.length:Int)) tb).2)=5 then (if (((r54 h (r70 a (h.rooms.length:Int)) ta (r70 b (h.rooms.length:Int)) tb).1).length:Int)=0 then decide ((r52 h (r70 a (h.rooms.length:Int)) ta (r70 b (h.rooms.length:Int)) tb (l:List Int))=8) else false) else false) else (if ((r54 h (r70 a (h.rooms.length:Int)) ta (r70 b (h.rooms.length:Int)) tb).2)=0 then decide ((r52 h (r70 a (h.rooms.length:Int)) ta (r70 b (h.rooms.length:Int)) tb ((r54 h (r70 a (h.rooms.length:Int)) ta (r70 b (h.rooms.length:Int)) tb).1:List Int))=0) else false)) else false) else false) else false) else false) else false) else false) else false)) else true) else true) else true)
set_option maxHeartbeats 16000000 in
theorem c17 (h:Hs) (a:Int) (ta:Int) (b:Int) (tb:Int) (l:List Int) (hs:∀ x ∈ h.rooms,x.name.size≤9223372036854775807) (S:AS) (v_h_rooms:Value) (hv_h_rooms:LstR S v_h_rooms h.rooms) (v_h_doors:Value) (hv_h_doors:LstR S v_h_doors h.doors) (v_h_ways:Value) (hv_h_ways:Lst S v_h_ways h.ways) (v_l:Value) (hv_l:Lst S v_l l) :
  ∃ S',(evL Tryz.prog E0).call 17 #[.agg #[v_h_rooms,v_h_doors,v_h_ways],.int .i64 a,.int .i64 ta,.int .i64 b,.int .i64 tb,v_l] S=some (.bool (r17 h a ta b tb l),S')∧Agree S S':=by
 generalize hz:(evL Tryz.prog E0).call 17 _ _=z
 rw [L_call,evCall_said rfl Tryz.func17 rfl (by decide) Tryz.ntmps17 Tryz.results17] at hz
 obtain ⟨S1,e1,n1,b1,a1⟩:=push_open S (.cells [v_h_rooms,v_h_doors,v_h_ways] 26 0 true true)
 have g1:Agree S S1:=a1
 have s1:E0.same S S1=true:=symEnv_same a1
 obtain ⟨S2,k2,a2⟩:=c68 h  S1 (v_h_rooms) (hv_h_rooms.agree g1) (v_h_doors) (hv_h_doors.agree g1) (v_h_ways) (hv_h_ways.agree g1)
 have l2:=a2.1
 have s2:E0.same S1 S2=true:=symEnv_same a2
 have v1_2:=(a2.2 S.next (by omega)).trans b1
 have g2:Agree S S2:=g1.trans a2
 try simp (disch:=first|omega|assumption) only [E0_G,SY,setArgs,off,agreeKind,partVals,vals,allocV,boxed,ldA,rdCells,oneB,aggD,aField,aFieldV,aExtract,eq_self,ne_eq,if_true,if_false,not_false_eq_true,Nat.reduceAdd,Nat.reduceSub,Nat.reduceMul,Nat.reduceLT,Nat.reduceEqDiff,Nat.reduceBEq,reduceIte,Int.reduceEq,Int.reduceLT,Int.reduceLE,reduceCtorEq,TY_EvH32,s1,e1,b1,k2,s2,v1_2] at hz
 rcases dB ((r68 h)) with ⟨h3a,h3⟩|⟨h3a,h3⟩
 ·skip
  have hV:=(r68_ok h3).2
  have lq4:=r68_len h3
  obtain ⟨S5,k5,a5⟩:=c69 ta  S2
  have l5:=a5.1
  have s5:E0.same S2 S5=true:=symEnv_same a5
  have v1_5:=(a5.2 S.next (by omega)).trans v1_2
  have g5:Agree S S5:=g2.trans a5
  try simp (disch:=first|omega|assumption) only [E0_G,SY,setArgs,off,agreeKind,partVals,vals,allocV,boxed,ldA,rdCells,oneB,aggD,aField,aFieldV,aExtract,eq_self,ne_eq,if_true,if_false,not_false_eq_true,Nat.reduceAdd,Nat.reduceSub,Nat.reduceMul,Nat.reduceLT,Nat.reduceEqDiff,Nat.reduceBEq,reduceIte,Int.reduceEq,Int.reduceLT,Int.reduceLE,reduceCtorEq,TY_EvH32,s1,e1,b1,k2,s2,v1_2,h3a,k5,s5,v1_5] at hz
  rcases dB ((r69 ta)) with ⟨h6a,h6⟩|⟨h6a,h6⟩
  ·skip
   have lq7:=r69_iff.1 h6
   obtain ⟨S8,k8,a8⟩:=c69 tb  S5
   have l8:=a8.1
   have s8:E0.same S5 S8=true:=symEnv_same a8
   have v1_8:=(a8.2 S.next (by omega)).trans v1_5
   have g8:Agree S S8:=g5.trans a8
   try simp (disch:=first|omega|assumption) only [E0_G,SY,setArgs,off,agreeKind,partVals,vals,allocV,boxed,ldA,rdCells,oneB,aggD,aField,aFieldV,aExtract,eq_self,ne_eq,if_true,if_false,not_false_eq_true,Nat.reduceAdd,Nat.reduceSub,Nat.reduceMul,Nat.reduceLT,Nat.reduceEqDiff,Nat.reduceBEq,reduceIte,Int.reduceEq,Int.reduceLT,Int.reduceLE,reduceCtorEq,TY_EvH32,s1,e1,b1,k2,s2,v1_2,h3a,k5,s5,v1_5,h6a,k8,s8,v1_8] at hz
   rcases dB ((r69 tb)) with ⟨h9a,h9⟩|⟨h9a,h9⟩
   ·skip
    have lq10:=r69_iff.1 h9
    have w11:=(hv_l.agree g8).len (P:=Tryz.prog) (t:=54) Tryz.underlying54
    try simp (disch:=first|omega|assumption) only [E0_G,SY,setArgs,off,agreeKind,partVals,vals,allocV,boxed,ldA,rdCells,oneB,aggD,aField,aFieldV,aExtract,eq_self,ne_eq,if_true,if_false,not_false_eq_true,Nat.reduceAdd,Nat.reduceSub,Nat.reduceMul,Nat.reduceLT,Nat.reduceEqDiff,Nat.reduceBEq,reduceIte,Int.reduceEq,Int.reduceLT,Int.reduceLE,reduceCtorEq,TY_EvH32,s1,e1,b1,k2,s2,v1_2,h3a,k5,s5,v1_5,h6a,k8,s8,v1_8,h9a,w11] at hz
    rcases dP (40<(l.length:Int)) with ⟨h12a,h12⟩|⟨h12a,h12⟩
    ·skip
     try simp (disch:=first|omega|assumption) only [E0_G,SY,setArgs,off,agreeKind,partVals,vals,allocV,boxed,ldA,rdCells,oneB,aggD,aField,aFieldV,aExtract,eq_self,ne_eq,if_true,if_false,not_false_eq_true,Nat.reduceAdd,Nat.reduceSub,Nat.reduceMul,Nat.reduceLT,Nat.reduceEqDiff,Nat.reduceBEq,reduceIte,Int.reduceEq,Int.reduceLT,Int.reduceLE,reduceCtorEq,TY_EvH32,s1,e1,b1,k2,s2,v1_2,h3a,k5,s5,v1_5,h6a,k8,s8,v1_8,h9a,w11,h12a,c21s] at hz
     have hr:r17 h a ta b tb l=true:=(if_pos h3).trans ((if_pos h6).trans ((if_pos h9).trans ((if_pos h12).trans (rfl))))
     exact fin hz (by rw [hr]) g8
    ·skip
     have w13:=(hv_h_rooms.agree g8).len (P:=Tryz.prog) (t:=22) Tryz.underlying22
     obtain ⟨S14,k14,a14⟩:=c70 a (h.rooms.length:Int) (by have:=(r68_ok (h:=h) (by assumption)).1.w; omega) S8
     have l14:=a14.1
     have s14:E0.same S8 S14=true:=symEnv_same a14
     have v1_14:=(a14.2 S.next (by omega)).trans v1_8
     have g14:Agree S S14:=g8.trans a14
     have p14:=r70_ok (n:=a) (k:=(h.rooms.length:Int)) ⟨by have:=rooms_pos hV; omega,by have:=(r68_ok (h:=h) (by assumption)).1.w; omega⟩
     have w15:=(hv_h_rooms.agree g14).len (P:=Tryz.prog) (t:=22) Tryz.underlying22
     obtain ⟨S16,k16,a16⟩:=c70 b (h.rooms.length:Int) (by have:=(r68_ok (h:=h) (by assumption)).1.w; omega) S14
     have l16:=a16.1
     have s16:E0.same S14 S16=true:=symEnv_same a16
     have v1_16:=(a16.2 S.next (by omega)).trans v1_14
     have g16:Agree S S16:=g14.trans a16
     have p16:=r70_ok (n:=b) (k:=(h.rooms.length:Int)) ⟨by have:=rooms_pos hV; omega,by have:=(r68_ok (h:=h) (by assumption)).1.w; omega⟩
     obtain ⟨S17,k17,a17⟩:=c45 h (r70 a (h.rooms.length:Int)) ta (r70 b (h.rooms.length:Int)) tb (r68_ok (by assumption)).1 hs S16 (v_h_rooms) (hv_h_rooms.agree g16) (v_h_doors) (hv_h_doors.agree g16) (v_h_ways) (hv_h_ways.agree g16)
     have l17:=a17.1
     have s17:E0.same S16 S17=true:=symEnv_same a17
     have v1_17:=(a17.2 S.next (by omega)).trans v1_16
     have g17:Agree S S17:=g16.trans a17
     obtain ⟨u18,S18,k18,a18,oo18⟩:=c41 h (r70 a (h.rooms.length:Int)) ta (r68_ok (by assumption)).1 hs S17 (v_h_rooms) (hv_h_rooms.agree g17) (v_h_doors) (hv_h_doors.agree g17) (v_h_ways) (hv_h_ways.agree g17)
     have l18:=a18.1
     obtain ⟨pu18,nu18,cu18,rfl⟩:=own_slice oo18
     have s18:E0.same S17 S18=true:=symEnv_same a18
     have v1_18:=(a18.2 S.next (by omega)).trans v1_17
     have g18:Agree S S18:=g17.trans a18
     obtain ⟨u19,S19,k19,a19,oo19⟩:=c43 h (r70 b (h.rooms.length:Int)) tb (r68_ok (by assumption)).1 hs S18 (v_h_rooms) (hv_h_rooms.agree g18) (v_h_doors) (hv_h_doors.agree g18) (v_h_ways) (hv_h_ways.agree g18)
     have l19:=a19.1
     obtain ⟨pu19,nu19,cu19,rfl⟩:=own_slice oo19
     have ap20:∀ b,blkOf (.slice pu18 nu18 cu18)=some b→blkOf (.slice pu19 nu19 cu19)≠some b:=fun b hb=>oo19.ne (Nat.lt_of_lt_of_le (oo18.lt hb) (by omega))
     have s19:E0.same S18 S19=true:=symEnv_same a19
     have v1_19:=(a19.2 S.next (by omega)).trans v1_18
     have o18_21:=oo18.agree a19
     have g19:Agree S S19:=g18.trans a19
     try simp (disch:=first|omega|assumption) only [E0_G,SY,setArgs,off,agreeKind,partVals,vals,allocV,boxed,ldA,rdCells,oneB,aggD,aField,aFieldV,aExtract,eq_self,ne_eq,if_true,if_false,not_false_eq_true,Nat.reduceAdd,Nat.reduceSub,Nat.reduceMul,Nat.reduceLT,Nat.reduceEqDiff,Nat.reduceBEq,reduceIte,Int.reduceEq,Int.reduceLT,Int.reduceLE,reduceCtorEq,TY_EvH32,s1,e1,b1,k2,s2,v1_2,h3a,k5,s5,v1_5,h6a,k8,s8,v1_8,h9a,w11,h12a,w13,k14,s14,v1_14,w15,k16,s16,v1_16,k17,s17,v1_17,k18,s18,v1_18,k19,s19,v1_19] at hz
     rcases dP (((r45 h (r70 a (h.rooms.length:Int)) ta (r70 b (h.rooms.length:Int)) tb).2)=0) with ⟨h22a,h22⟩|⟨h22a,h22⟩
     ·skip
      try simp (disch:=first|omega|assumption) only [E0_G,SY,setArgs,off,agreeKind,partVals,vals,allocV,boxed,ldA,rdCells,oneB,aggD,aField,aFieldV,aExtract,eq_self,ne_eq,if_true,if_false,not_false_eq_true,Nat.reduceAdd,Nat.reduceSub,Nat.reduceMul,Nat.reduceLT,Nat.reduceEqDiff,Nat.reduceBEq,reduceIte,Int.reduceEq,Int.reduceLT,Int.reduceLE,reduceCtorEq,TY_EvH32,s1,e1,b1,k2,s2,v1_2,h3a,k5,s5,v1_5,h6a,k8,s8,v1_8,h9a,w11,h12a,w13,k14,s14,v1_14,w15,k16,s16,v1_16,k17,s17,v1_17,k18,s18,v1_18,k19,s19,v1_19,h22a] at hz
      rcases dP (((r41 h (r70 a (h.rooms.length:Int)) ta).2)=0) with ⟨h23a,h23⟩|⟨h23a,h23⟩
      ·skip
       try simp (disch:=first|omega|assumption) only [E0_G,SY,setArgs,off,agreeKind,partVals,vals,allocV,boxed,ldA,rdCells,oneB,aggD,aField,aFieldV,aExtract,eq_self,ne_eq,if_true,if_false,not_false_eq_true,Nat.reduceAdd,Nat.reduceSub,Nat.reduceMul,Nat.reduceLT,Nat.reduceEqDiff,Nat.reduceBEq,reduceIte,Int.reduceEq,Int.reduceLT,Int.reduceLE,reduceCtorEq,TY_EvH32,s1,e1,b1,k2,s2,v1_2,h3a,k5,s5,v1_5,h6a,k8,s8,v1_8,h9a,w11,h12a,w13,k14,s14,v1_14,w15,k16,s16,v1_16,k17,s17,v1_17,k18,s18,v1_18,k19,s19,v1_19,h22a,h23a] at hz
       rcases dP (((r43 h (r70 b (h.rooms.length:Int)) tb).2)=0) with ⟨h24a,h24⟩|⟨h24a,h24⟩
       ·skip
        have w25:=(o18_21.rows).len (P:=Tryz.prog) (t:=54) Tryz.underlying54
        have w26:=(hv_h_rooms.agree g19).len (P:=Tryz.prog) (t:=22) Tryz.underlying22
        try simp (disch:=first|omega|assumption) only [E0_G,SY,setArgs,off,agreeKind,partVals,vals,allocV,boxed,ldA,rdCells,oneB,aggD,aField,aFieldV,aExtract,eq_self,ne_eq,if_true,if_false,not_false_eq_true,Nat.reduceAdd,Nat.reduceSub,Nat.reduceMul,Nat.reduceLT,Nat.reduceEqDiff,Nat.reduceBEq,reduceIte,Int.reduceEq,Int.reduceLT,Int.reduceLE,reduceCtorEq,TY_EvH32,s1,e1,b1,k2,s2,v1_2,h3a,k5,s5,v1_5,h6a,k8,s8,v1_8,h9a,w11,h12a,w13,k14,s14,v1_14,w15,k16,s16,v1_16,k17,s17,v1_17,k18,s18,v1_18,k19,s19,v1_19,h22a,h23a,h24a,w25,w26] at hz
        rcases dP ((((r41 h (r70 a (h.rooms.length:Int)) ta).1).length:Int)=(h.rooms.length:Int)) with ⟨h27a,h27⟩|⟨h27a,h27⟩
        ·skip
         have w28:=(oo19.rows).len (P:=Tryz.prog) (t:=54) Tryz.underlying54
         have w29:=(o18_21.rows).len (P:=Tryz.prog) (t:=54) Tryz.underlying54
         try simp (disch:=first|omega|assumption) only [E0_G,SY,setArgs,off,agreeKind,partVals,vals,allocV,boxed,ldA,rdCells,oneB,aggD,aField,aFieldV,aExtract,eq_self,ne_eq,if_true,if_false,not_false_eq_true,Nat.reduceAdd,Nat.reduceSub,Nat.reduceMul,Nat.reduceLT,Nat.reduceEqDiff,Nat.reduceBEq,reduceIte,Int.reduceEq,Int.reduceLT,Int.reduceLE,reduceCtorEq,TY_EvH32,s1,e1,b1,k2,s2,v1_2,h3a,k5,s5,v1_5,h6a,k8,s8,v1_8,h9a,w11,h12a,w13,k14,s14,v1_14,w15,k16,s16,v1_16,k17,s17,v1_17,k18,s18,v1_18,k19,s19,v1_19,h22a,h23a,h24a,w25,w26,h27a,w28,w29] at hz
         rcases dP ((((r43 h (r70 b (h.rooms.length:Int)) tb).1).length:Int)=(((r41 h (r70 a (h.rooms.length:Int)) ta).1).length:Int)) with ⟨h30a,h30⟩|⟨h30a,h30⟩
         ·skip
          have qz31:((Int.toNat (r70 b (h.rooms.length:Int)):Nat):Int)=(r70 b (h.rooms.length:Int)):=Int.toNat_of_nonneg (by first|omega|simp; omega)
          have hx32:((r41 h (r70 a (h.rooms.length:Int)) ta).1)[(Int.toNat (r70 b (h.rooms.length:Int)))]?=some (lget ((r41 h (r70 a (h.rooms.length:Int)) ta).1) (Int.toNat (r70 b (h.rooms.length:Int)))):=lget_some (by first|omega|simp; omega)
          obtain ⟨id32,of32,cc32,ty32,wr32,ex32,i32,j32,l32,q32,lb32,bk32,oq32⟩:=o18_21.at4 (P:=Tryz.prog) (t:=54) Tryz.underlying54 tz3 hx32
          have m32_0:cc32[of32]?=some (.int .i64 (lget ((r41 h (r70 a (h.rooms.length:Int)) ta).1) (Int.toNat (r70 b (h.rooms.length:Int))))):=q32 0 (show 0<1 by decide)
          rw [qz31] at i32
          try simp (disch:=first|omega|assumption) only [E0_G,SY,setArgs,off,agreeKind,partVals,vals,allocV,boxed,ldA,rdCells,oneB,aggD,aField,aFieldV,aExtract,eq_self,ne_eq,if_true,if_false,not_false_eq_true,Nat.reduceAdd,Nat.reduceSub,Nat.reduceMul,Nat.reduceLT,Nat.reduceEqDiff,Nat.reduceBEq,reduceIte,Int.reduceEq,Int.reduceLT,Int.reduceLE,reduceCtorEq,TY_EvH32,s1,e1,b1,k2,s2,v1_2,h3a,k5,s5,v1_5,h6a,k8,s8,v1_8,h9a,w11,h12a,w13,k14,s14,v1_14,w15,k16,s16,v1_16,k17,s17,v1_17,k18,s18,v1_18,k19,s19,v1_19,h22a,h23a,h24a,w25,w26,h27a,w28,w29,h30a,i32,j32,m32_0] at hz
          rcases dP (((r45 h (r70 a (h.rooms.length:Int)) ta (r70 b (h.rooms.length:Int)) tb).1)=(decide ((lget ((r41 h (r70 a (h.rooms.length:Int)) ta).1) (Int.toNat (r70 b (h.rooms.length:Int))))≤tb))) with ⟨h33a,h33⟩|⟨h33a,h33⟩
          ·skip
           have qz34:((Int.toNat (r70 a (h.rooms.length:Int)):Nat):Int)=(r70 a (h.rooms.length:Int)):=Int.toNat_of_nonneg (by first|omega|simp; omega)
           have hx35:((r43 h (r70 b (h.rooms.length:Int)) tb).1)[(Int.toNat (r70 a (h.rooms.length:Int)))]?=some (lget ((r43 h (r70 b (h.rooms.length:Int)) tb).1) (Int.toNat (r70 a (h.rooms.length:Int)))):=lget_some (by first|omega|simp; omega)
           obtain ⟨id35,of35,cc35,ty35,wr35,ex35,i35,j35,l35,q35,lb35,bk35,oq35⟩:=oo19.at4 (P:=Tryz.prog) (t:=54) Tryz.underlying54 tz3 hx35
           have m35_0:cc35[of35]?=some (.int .i64 (lget ((r43 h (r70 b (h.rooms.length:Int)) tb).1) (Int.toNat (r70 a (h.rooms.length:Int))))):=q35 0 (show 0<1 by decide)
           rw [qz34] at i35
           try simp (disch:=first|omega|assumption) only [E0_G,SY,setArgs,off,agreeKind,partVals,vals,allocV,boxed,ldA,rdCells,oneB,aggD,aField,aFieldV,aExtract,eq_self,ne_eq,if_true,if_false,not_false_eq_true,Nat.reduceAdd,Nat.reduceSub,Nat.reduceMul,Nat.reduceLT,Nat.reduceEqDiff,Nat.reduceBEq,reduceIte,Int.reduceEq,Int.reduceLT,Int.reduceLE,reduceCtorEq,TY_EvH32,s1,e1,b1,k2,s2,v1_2,h3a,k5,s5,v1_5,h6a,k8,s8,v1_8,h9a,w11,h12a,w13,k14,s14,v1_14,w15,k16,s16,v1_16,k17,s17,v1_17,k18,s18,v1_18,k19,s19,v1_19,h22a,h23a,h24a,w25,w26,h27a,w28,w29,h30a,i32,j32,m32_0,h33a,i35,j35,m35_0] at hz
           rcases dP (((r45 h (r70 a (h.rooms.length:Int)) ta (r70 b (h.rooms.length:Int)) tb).1)=(decide (ta≤(lget ((r43 h (r70 b (h.rooms.length:Int)) tb).1) (Int.toNat (r70 a (h.rooms.length:Int))))))) with ⟨h36a,h36⟩|⟨h36a,h36⟩
           ·skip
            obtain ⟨u37,S37,k37,a37,oo37⟩:=c54 h (r70 a (h.rooms.length:Int)) ta (r70 b (h.rooms.length:Int)) tb (r68_ok (by assumption)).1 hs S19 (v_h_rooms) (hv_h_rooms.agree g19) (v_h_doors) (hv_h_doors.agree g19) (v_h_ways) (hv_h_ways.agree g19)
            have l37:=a37.1
            obtain ⟨pu37,nu37,cu37,rfl⟩:=own_slice oo37
            have ap38:∀ b,blkOf (.slice pu18 nu18 cu18)=some b→blkOf (.slice pu37 nu37 cu37)≠some b:=fun b hb=>oo37.ne (Nat.lt_of_lt_of_le (o18_21.lt hb) (by omega))
            have ap39:∀ b,blkOf (.slice pu19 nu19 cu19)=some b→blkOf (.slice pu37 nu37 cu37)≠some b:=fun b hb=>oo37.ne (Nat.lt_of_lt_of_le (oo19.lt hb) (by omega))
            have s37:E0.same S19 S37=true:=symEnv_same a37
            have v1_37:=(a37.2 S.next (by omega)).trans v1_19
            have v32_37:=(a37.2 id32 (by omega)).trans j32
            have v35_37:=(a37.2 id35 (by omega)).trans j35
            have o18_40:=o18_21.agree a37
            have o19_41:=oo19.agree a37
            have g37:Agree S S37:=g19.trans a37
            try simp (disch:=first|omega|assumption) only [E0_G,SY,setArgs,off,agreeKind,partVals,vals,allocV,boxed,ldA,rdCells,oneB,aggD,aField,aFieldV,aExtract,eq_self,ne_eq,if_true,if_false,not_false_eq_true,Nat.reduceAdd,Nat.reduceSub,Nat.reduceMul,Nat.reduceLT,Nat.reduceEqDiff,Nat.reduceBEq,reduceIte,Int.reduceEq,Int.reduceLT,Int.reduceLE,reduceCtorEq,TY_EvH32,s1,e1,b1,k2,s2,v1_2,h3a,k5,s5,v1_5,h6a,k8,s8,v1_8,h9a,w11,h12a,w13,k14,s14,v1_14,w15,k16,s16,v1_16,k17,s17,v1_17,k18,s18,v1_18,k19,s19,v1_19,h22a,h23a,h24a,w25,w26,h27a,w28,w29,h30a,i32,j32,m32_0,h33a,i35,j35,m35_0,h36a,k37,s37,v1_37,v32_37,v35_37] at hz
            rcases dB ((r45 h (r70 a (h.rooms.length:Int)) ta (r70 b (h.rooms.length:Int)) tb).1) with ⟨h42a,h42⟩|⟨h42a,h42⟩
            ·skip
             try simp (disch:=first|omega|assumption) only [E0_G,SY,setArgs,off,agreeKind,partVals,vals,allocV,boxed,ldA,rdCells,oneB,aggD,aField,aFieldV,aExtract,eq_self,ne_eq,if_true,if_false,not_false_eq_true,Nat.reduceAdd,Nat.reduceSub,Nat.reduceMul,Nat.reduceLT,Nat.reduceEqDiff,Nat.reduceBEq,reduceIte,Int.reduceEq,Int.reduceLT,Int.reduceLE,reduceCtorEq,TY_EvH32,s1,e1,b1,k2,s2,v1_2,h3a,k5,s5,v1_5,h6a,k8,s8,v1_8,h9a,w11,h12a,w13,k14,s14,v1_14,w15,k16,s16,v1_16,k17,s17,v1_17,k18,s18,v1_18,k19,s19,v1_19,h22a,h23a,h24a,w25,w26,h27a,w28,w29,h30a,i32,j32,m32_0,h33a,i35,j35,m35_0,h36a,k37,s37,v1_37,v32_37,v35_37,h42a,c21s] at hz
             rcases dP (((r54 h (r70 a (h.rooms.length:Int)) ta (r70 b (h.rooms.length:Int)) tb).2)=5) with ⟨h43a,h43⟩|⟨h43a,h43⟩
             ·skip
              have w44:=(oo37.rows).len (P:=Tryz.prog) (t:=54) Tryz.underlying54
              try simp (disch:=first|omega|assumption) only [E0_G,SY,setArgs,off,agreeKind,partVals,vals,allocV,boxed,ldA,rdCells,oneB,aggD,aField,aFieldV,aExtract,eq_self,ne_eq,if_true,if_false,not_false_eq_true,Nat.reduceAdd,Nat.reduceSub,Nat.reduceMul,Nat.reduceLT,Nat.reduceEqDiff,Nat.reduceBEq,reduceIte,Int.reduceEq,Int.reduceLT,Int.reduceLE,reduceCtorEq,TY_EvH32,s1,e1,b1,k2,s2,v1_2,h3a,k5,s5,v1_5,h6a,k8,s8,v1_8,h9a,w11,h12a,w13,k14,s14,v1_14,w15,k16,s16,v1_16,k17,s17,v1_17,k18,s18,v1_18,k19,s19,v1_19,h22a,h23a,h24a,w25,w26,h27a,w28,w29,h30a,i32,j32,m32_0,h33a,i35,j35,m35_0,h36a,k37,s37,v1_37,v32_37,v35_37,h42a,c21s,h43a,w44] at hz
              rcases dP ((((r54 h (r70 a (h.rooms.length:Int)) ta (r70 b (h.rooms.length:Int)) tb).1).length:Int)=0) with ⟨h45a,h45⟩|⟨h45a,h45⟩
              ·skip
               obtain ⟨S46,k46,a46⟩:=c52 h (r70 a (h.rooms.length:Int)) ta (r70 b (h.rooms.length:Int)) tb (l:List Int) (r68_ok (by assumption)).1 hs (by first|omega|exact r54_len _ _ _ _ _) S37 (v_h_rooms) (hv_h_rooms.agree g37) (v_h_doors) (hv_h_doors.agree g37) (v_h_ways) (hv_h_ways.agree g37) (v_l) (hv_l.agree g37)
               have l46:=a46.1
               have s46:E0.same S37 S46=true:=symEnv_same a46
               have v1_46:=(a46.2 S.next (by omega)).trans v1_37
               have v32_46:=(a46.2 id32 (by omega)).trans v32_37
               have v35_46:=(a46.2 id35 (by omega)).trans v35_37
               have o18_47:=o18_40.agree a46
               have o19_48:=o19_41.agree a46
               have o37_49:=oo37.agree a46
               have g46:Agree S S46:=g37.trans a46
               try simp (disch:=first|omega|assumption) only [E0_G,SY,setArgs,off,agreeKind,partVals,vals,allocV,boxed,ldA,rdCells,oneB,aggD,aField,aFieldV,aExtract,eq_self,ne_eq,if_true,if_false,not_false_eq_true,Nat.reduceAdd,Nat.reduceSub,Nat.reduceMul,Nat.reduceLT,Nat.reduceEqDiff,Nat.reduceBEq,reduceIte,Int.reduceEq,Int.reduceLT,Int.reduceLE,reduceCtorEq,TY_EvH32,s1,e1,b1,k2,s2,v1_2,h3a,k5,s5,v1_5,h6a,k8,s8,v1_8,h9a,w11,h12a,w13,k14,s14,v1_14,w15,k16,s16,v1_16,k17,s17,v1_17,k18,s18,v1_18,k19,s19,v1_19,h22a,h23a,h24a,w25,w26,h27a,w28,w29,h30a,i32,j32,m32_0,h33a,i35,j35,m35_0,h36a,k37,s37,v1_37,v32_37,v35_37,h42a,c21s,h43a,w44,h45a,k46,s46,v1_46,v32_46,v35_46] at hz
               have hr:r17 h a ta b tb l=decide ((r52 h (r70 a (h.rooms.length:Int)) ta (r70 b (h.rooms.length:Int)) tb (l:List Int))=8):=(if_pos h3).trans ((if_pos h6).trans ((if_pos h9).trans ((if_neg h12).trans ((if_pos h22).trans ((if_pos h23).trans ((if_pos h24).trans ((if_pos h27).trans ((if_pos h30).trans ((if_pos h33).trans ((if_pos h36).trans ((if_pos h42).trans ((if_pos h43).trans ((if_pos h45).trans (rfl))))))))))))))
               exact fin hz (by rw [hr]) g46
              ·skip
               try simp (disch:=first|omega|assumption) only [E0_G,SY,setArgs,off,agreeKind,partVals,vals,allocV,boxed,ldA,rdCells,oneB,aggD,aField,aFieldV,aExtract,eq_self,ne_eq,if_true,if_false,not_false_eq_true,Nat.reduceAdd,Nat.reduceSub,Nat.reduceMul,Nat.reduceLT,Nat.reduceEqDiff,Nat.reduceBEq,reduceIte,Int.reduceEq,Int.reduceLT,Int.reduceLE,reduceCtorEq,TY_EvH32,s1,e1,b1,k2,s2,v1_2,h3a,k5,s5,v1_5,h6a,k8,s8,v1_8,h9a,w11,h12a,w13,k14,s14,v1_14,w15,k16,s16,v1_16,k17,s17,v1_17,k18,s18,v1_18,k19,s19,v1_19,h22a,h23a,h24a,w25,w26,h27a,w28,w29,h30a,i32,j32,m32_0,h33a,i35,j35,m35_0,h36a,k37,s37,v1_37,v32_37,v35_37,h42a,c21s,h43a,w44,h45a] at hz
               have hr:r17 h a ta b tb l=false:=(if_pos h3).trans ((if_pos h6).trans ((if_pos h9).trans ((if_neg h12).trans ((if_pos h22).trans ((if_pos h23).trans ((if_pos h24).trans ((if_pos h27).trans ((if_pos h30).trans ((if_pos h33).trans ((if_pos h36).trans ((if_pos h42).trans ((if_pos h43).trans ((if_neg h45).trans (rfl))))))))))))))
               exact fin hz (by rw [hr]) g37
             ·skip
              try simp (disch:=first|omega|assumption) only [E0_G,SY,setArgs,off,agreeKind,partVals,vals,allocV,boxed,ldA,rdCells,oneB,aggD,aField,aFieldV,aExtract,eq_self,ne_eq,if_true,if_false,not_false_eq_true,Nat.reduceAdd,Nat.reduceSub,Nat.reduceMul,Nat.reduceLT,Nat.reduceEqDiff,Nat.reduceBEq,reduceIte,Int.reduceEq,Int.reduceLT,Int.reduceLE,reduceCtorEq,TY_EvH32,s1,e1,b1,k2,s2,v1_2,h3a,k5,s5,v1_5,h6a,k8,s8,v1_8,h9a,w11,h12a,w13,k14,s14,v1_14,w15,k16,s16,v1_16,k17,s17,v1_17,k18,s18,v1_18,k19,s19,v1_19,h22a,h23a,h24a,w25,w26,h27a,w28,w29,h30a,i32,j32,m32_0,h33a,i35,j35,m35_0,h36a,k37,s37,v1_37,v32_37,v35_37,h42a,c21s,h43a] at hz
              have hr:r17 h a ta b tb l=false:=(if_pos h3).trans ((if_pos h6).trans ((if_pos h9).trans ((if_neg h12).trans ((if_pos h22).trans ((if_pos h23).trans ((if_pos h24).trans ((if_pos h27).trans ((if_pos h30).trans ((if_pos h33).trans ((if_pos h36).trans ((if_pos h42).trans ((if_neg h43).trans (rfl)))))))))))))
              exact fin hz (by rw [hr]) g37
            ·skip
             try simp (disch:=first|omega|assumption) only [E0_G,SY,setArgs,off,agreeKind,partVals,vals,allocV,boxed,ldA,rdCells,oneB,aggD,aField,aFieldV,aExtract,eq_self,ne_eq,if_true,if_false,not_false_eq_true,Nat.reduceAdd,Nat.reduceSub,Nat.reduceMul,Nat.reduceLT,Nat.reduceEqDiff,Nat.reduceBEq,reduceIte,Int.reduceEq,Int.reduceLT,Int.reduceLE,reduceCtorEq,TY_EvH32,s1,e1,b1,k2,s2,v1_2,h3a,k5,s5,v1_5,h6a,k8,s8,v1_8,h9a,w11,h12a,w13,k14,s14,v1_14,w15,k16,s16,v1_16,k17,s17,v1_17,k18,s18,v1_18,k19,s19,v1_19,h22a,h23a,h24a,w25,w26,h27a,w28,w29,h30a,i32,j32,m32_0,h33a,i35,j35,m35_0,h36a,k37,s37,v1_37,v32_37,v35_37,h42a,c21s] at hz
             rcases dP (((r54 h (r70 a (h.rooms.length:Int)) ta (r70 b (h.rooms.length:Int)) tb).2)=0) with ⟨h50a,h50⟩|⟨h50a,h50⟩
             ·skip
              obtain ⟨S51,k51,a51⟩:=c52 h (r70 a (h.rooms.length:Int)) ta (r70 b (h.rooms.length:Int)) tb ((r54 h (r70 a (h.rooms.length:Int)) ta (r70 b (h.rooms.length:Int)) tb).1:List Int) (r68_ok (by assumption)).1 hs (by first|omega|exact r54_len _ _ _ _ _) S37 (v_h_rooms) (hv_h_rooms.agree g37) (v_h_doors) (hv_h_doors.agree g37) (v_h_ways) (hv_h_ways.agree g37) (.slice pu37 nu37 cu37) (oo37.rows)
              have l51:=a51.1
              have s51:E0.same S37 S51=true:=symEnv_same a51
              have v1_51:=(a51.2 S.next (by omega)).trans v1_37
              have v32_51:=(a51.2 id32 (by omega)).trans v32_37
              have v35_51:=(a51.2 id35 (by omega)).trans v35_37
              have o18_52:=o18_40.agree a51
              have o19_53:=o19_41.agree a51
              have o37_54:=oo37.agree a51
              have g51:Agree S S51:=g37.trans a51
              try simp (disch:=first|omega|assumption) only [E0_G,SY,setArgs,off,agreeKind,partVals,vals,allocV,boxed,ldA,rdCells,oneB,aggD,aField,aFieldV,aExtract,eq_self,ne_eq,if_true,if_false,not_false_eq_true,Nat.reduceAdd,Nat.reduceSub,Nat.reduceMul,Nat.reduceLT,Nat.reduceEqDiff,Nat.reduceBEq,reduceIte,Int.reduceEq,Int.reduceLT,Int.reduceLE,reduceCtorEq,TY_EvH32,s1,e1,b1,k2,s2,v1_2,h3a,k5,s5,v1_5,h6a,k8,s8,v1_8,h9a,w11,h12a,w13,k14,s14,v1_14,w15,k16,s16,v1_16,k17,s17,v1_17,k18,s18,v1_18,k19,s19,v1_19,h22a,h23a,h24a,w25,w26,h27a,w28,w29,h30a,i32,j32,m32_0,h33a,i35,j35,m35_0,h36a,k37,s37,v1_37,v32_37,v35_37,h42a,c21s,h50a,k51,s51,v1_51,v32_51,v35_51] at hz
              have hr:r17 h a ta b tb l=decide ((r52 h (r70 a (h.rooms.length:Int)) ta (r70 b (h.rooms.length:Int)) tb ((r54 h (r70 a (h.rooms.length:Int)) ta (r70 b (h.rooms.length:Int)) tb).1:List Int))=0):=(if_pos h3).trans ((if_pos h6).trans ((if_pos h9).trans ((if_neg h12).trans ((if_pos h22).trans ((if_pos h23).trans ((if_pos h24).trans ((if_pos h27).trans ((if_pos h30).trans ((if_pos h33).trans ((if_pos h36).trans ((if_neg h42).trans ((if_pos h50).trans (rfl)))))))))))))
              exact fin hz (by rw [hr]) g51
             ·skip
              try simp (disch:=first|omega|assumption) only [E0_G,SY,setArgs,off,agreeKind,partVals,vals,allocV,boxed,ldA,rdCells,oneB,aggD,aField,aFieldV,aExtract,eq_self,ne_eq,if_true,if_false,not_false_eq_true,Nat.reduceAdd,Nat.reduceSub,Nat.reduceMul,Nat.reduceLT,Nat.reduceEqDiff,Nat.reduceBEq,reduceIte,Int.reduceEq,Int.reduceLT,Int.reduceLE,reduceCtorEq,TY_EvH32,s1,e1,b1,k2,s2,v1_2,h3a,k5,s5,v1_5,h6a,k8,s8,v1_8,h9a,w11,h12a,w13,k14,s14,v1_14,w15,k16,s16,v1_16,k17,s17,v1_17,k18,s18,v1_18,k19,s19,v1_19,h22a,h23a,h24a,w25,w26,h27a,w28,w29,h30a,i32,j32,m32_0,h33a,i35,j35,m35_0,h36a,k37,s37,v1_37,v32_37,v35_37,h42a,c21s,h50a] at hz
              have hr:r17 h a ta b tb l=false:=(if_pos h3).trans ((if_pos h6).trans ((if_pos h9).trans ((if_neg h12).trans ((if_pos h22).trans ((if_pos h23).trans ((if_pos h24).trans ((if_pos h27).trans ((if_pos h30).trans ((if_pos h33).trans ((if_pos h36).trans ((if_neg h42).trans ((if_neg h50).trans (rfl)))))))))))))
              exact fin hz (by rw [hr]) g37
           ·skip
            try simp (disch:=first|omega|assumption) only [E0_G,SY,setArgs,off,agreeKind,partVals,vals,allocV,boxed,ldA,rdCells,oneB,aggD,aField,aFieldV,aExtract,eq_self,ne_eq,if_true,if_false,not_false_eq_true,Nat.reduceAdd,Nat.reduceSub,Nat.reduceMul,Nat.reduceLT,Nat.reduceEqDiff,Nat.reduceBEq,reduceIte,Int.reduceEq,Int.reduceLT,Int.reduceLE,reduceCtorEq,TY_EvH32,s1,e1,b1,k2,s2,v1_2,h3a,k5,s5,v1_5,h6a,k8,s8,v1_8,h9a,w11,h12a,w13,k14,s14,v1_14,w15,k16,s16,v1_16,k17,s17,v1_17,k18,s18,v1_18,k19,s19,v1_19,h22a,h23a,h24a,w25,w26,h27a,w28,w29,h30a,i32,j32,m32_0,h33a,i35,j35,m35_0,h36a] at hz
            have hr:r17 h a ta b tb l=false:=(if_pos h3).trans ((if_pos h6).trans ((if_pos h9).trans ((if_neg h12).trans ((if_pos h22).trans ((if_pos h23).trans ((if_pos h24).trans ((if_pos h27).trans ((if_pos h30).trans ((if_pos h33).trans ((if_neg h36).trans (rfl)))))))))))
            exact fin hz (by rw [hr]) g19
          ·skip
           try simp (disch:=first|omega|assumption) only [E0_G,SY,setArgs,off,agreeKind,partVals,vals,allocV,boxed,ldA,rdCells,oneB,aggD,aField,aFieldV,aExtract,eq_self,ne_eq,if_true,if_false,not_false_eq_true,Nat.reduceAdd,Nat.reduceSub,Nat.reduceMul,Nat.reduceLT,Nat.reduceEqDiff,Nat.reduceBEq,reduceIte,Int.reduceEq,Int.reduceLT,Int.reduceLE,reduceCtorEq,TY_EvH32,s1,e1,b1,k2,s2,v1_2,h3a,k5,s5,v1_5,h6a,k8,s8,v1_8,h9a,w11,h12a,w13,k14,s14,v1_14,w15,k16,s16,v1_16,k17,s17,v1_17,k18,s18,v1_18,k19,s19,v1_19,h22a,h23a,h24a,w25,w26,h27a,w28,w29,h30a,i32,j32,m32_0,h33a] at hz
           have hr:r17 h a ta b tb l=false:=(if_pos h3).trans ((if_pos h6).trans ((if_pos h9).trans ((if_neg h12).trans ((if_pos h22).trans ((if_pos h23).trans ((if_pos h24).trans ((if_pos h27).trans ((if_pos h30).trans ((if_neg h33).trans (rfl))))))))))
           exact fin hz (by rw [hr]) g19
         ·skip
          try simp (disch:=first|omega|assumption) only [E0_G,SY,setArgs,off,agreeKind,partVals,vals,allocV,boxed,ldA,rdCells,oneB,aggD,aField,aFieldV,aExtract,eq_self,ne_eq,if_true,if_false,not_false_eq_true,Nat.reduceAdd,Nat.reduceSub,Nat.reduceMul,Nat.reduceLT,Nat.reduceEqDiff,Nat.reduceBEq,reduceIte,Int.reduceEq,Int.reduceLT,Int.reduceLE,reduceCtorEq,TY_EvH32,s1,e1,b1,k2,s2,v1_2,h3a,k5,s5,v1_5,h6a,k8,s8,v1_8,h9a,w11,h12a,w13,k14,s14,v1_14,w15,k16,s16,v1_16,k17,s17,v1_17,k18,s18,v1_18,k19,s19,v1_19,h22a,h23a,h24a,w25,w26,h27a,w28,w29,h30a] at hz
          have hr:r17 h a ta b tb l=false:=(if_pos h3).trans ((if_pos h6).trans ((if_pos h9).trans ((if_neg h12).trans ((if_pos h22).trans ((if_pos h23).trans ((if_pos h24).trans ((if_pos h27).trans ((if_neg h30).trans (rfl)))))))))
          exact fin hz (by rw [hr]) g19
        ·skip
         try simp (disch:=first|omega|assumption) only [E0_G,SY,setArgs,off,agreeKind,partVals,vals,allocV,boxed,ldA,rdCells,oneB,aggD,aField,aFieldV,aExtract,eq_self,ne_eq,if_true,if_false,not_false_eq_true,Nat.reduceAdd,Nat.reduceSub,Nat.reduceMul,Nat.reduceLT,Nat.reduceEqDiff,Nat.reduceBEq,reduceIte,Int.reduceEq,Int.reduceLT,Int.reduceLE,reduceCtorEq,TY_EvH32,s1,e1,b1,k2,s2,v1_2,h3a,k5,s5,v1_5,h6a,k8,s8,v1_8,h9a,w11,h12a,w13,k14,s14,v1_14,w15,k16,s16,v1_16,k17,s17,v1_17,k18,s18,v1_18,k19,s19,v1_19,h22a,h23a,h24a,w25,w26,h27a] at hz
         have hr:r17 h a ta b tb l=false:=(if_pos h3).trans ((if_pos h6).trans ((if_pos h9).trans ((if_neg h12).trans ((if_pos h22).trans ((if_pos h23).trans ((if_pos h24).trans ((if_neg h27).trans (rfl))))))))
         exact fin hz (by rw [hr]) g19
       ·skip
        try simp (disch:=first|omega|assumption) only [E0_G,SY,setArgs,off,agreeKind,partVals,vals,allocV,boxed,ldA,rdCells,oneB,aggD,aField,aFieldV,aExtract,eq_self,ne_eq,if_true,if_false,not_false_eq_true,Nat.reduceAdd,Nat.reduceSub,Nat.reduceMul,Nat.reduceLT,Nat.reduceEqDiff,Nat.reduceBEq,reduceIte,Int.reduceEq,Int.reduceLT,Int.reduceLE,reduceCtorEq,TY_EvH32,s1,e1,b1,k2,s2,v1_2,h3a,k5,s5,v1_5,h6a,k8,s8,v1_8,h9a,w11,h12a,w13,k14,s14,v1_14,w15,k16,s16,v1_16,k17,s17,v1_17,k18,s18,v1_18,k19,s19,v1_19,h22a,h23a,h24a] at hz
        have hr:r17 h a ta b tb l=false:=(if_pos h3).trans ((if_pos h6).trans ((if_pos h9).trans ((if_neg h12).trans ((if_pos h22).trans ((if_pos h23).trans ((if_neg h24).trans (rfl)))))))
        exact fin hz (by rw [hr]) g19
      ·skip
       try simp (disch:=first|omega|assumption) only [E0_G,SY,setArgs,off,agreeKind,partVals,vals,allocV,boxed,ldA,rdCells,oneB,aggD,aField,aFieldV,aExtract,eq_self,ne_eq,if_true,if_false,not_false_eq_true,Nat.reduceAdd,Nat.reduceSub,Nat.reduceMul,Nat.reduceLT,Nat.reduceEqDiff,Nat.reduceBEq,reduceIte,Int.reduceEq,Int.reduceLT,Int.reduceLE,reduceCtorEq,TY_EvH32,s1,e1,b1,k2,s2,v1_2,h3a,k5,s5,v1_5,h6a,k8,s8,v1_8,h9a,w11,h12a,w13,k14,s14,v1_14,w15,k16,s16,v1_16,k17,s17,v1_17,k18,s18,v1_18,k19,s19,v1_19,h22a,h23a] at hz
       have hr:r17 h a ta b tb l=false:=(if_pos h3).trans ((if_pos h6).trans ((if_pos h9).trans ((if_neg h12).trans ((if_pos h22).trans ((if_neg h23).trans (rfl))))))
       exact fin hz (by rw [hr]) g19
     ·skip
      try simp (disch:=first|omega|assumption) only [E0_G,SY,setArgs,off,agreeKind,partVals,vals,allocV,boxed,ldA,rdCells,oneB,aggD,aField,aFieldV,aExtract,eq_self,ne_eq,if_true,if_false,not_false_eq_true,Nat.reduceAdd,Nat.reduceSub,Nat.reduceMul,Nat.reduceLT,Nat.reduceEqDiff,Nat.reduceBEq,reduceIte,Int.reduceEq,Int.reduceLT,Int.reduceLE,reduceCtorEq,TY_EvH32,s1,e1,b1,k2,s2,v1_2,h3a,k5,s5,v1_5,h6a,k8,s8,v1_8,h9a,w11,h12a,w13,k14,s14,v1_14,w15,k16,s16,v1_16,k17,s17,v1_17,k18,s18,v1_18,k19,s19,v1_19,h22a] at hz
      have hr:r17 h a ta b tb l=false:=(if_pos h3).trans ((if_pos h6).trans ((if_pos h9).trans ((if_neg h12).trans ((if_neg h22).trans (rfl)))))
      exact fin hz (by rw [hr]) g19
   ·skip
    try simp (disch:=first|omega|assumption) only [E0_G,SY,setArgs,off,agreeKind,partVals,vals,allocV,boxed,ldA,rdCells,oneB,aggD,aField,aFieldV,aExtract,eq_self,ne_eq,if_true,if_false,not_false_eq_true,Nat.reduceAdd,Nat.reduceSub,Nat.reduceMul,Nat.reduceLT,Nat.reduceEqDiff,Nat.reduceBEq,reduceIte,Int.reduceEq,Int.reduceLT,Int.reduceLE,reduceCtorEq,TY_EvH32,s1,e1,b1,k2,s2,v1_2,h3a,k5,s5,v1_5,h6a,k8,s8,v1_8,h9a,c21s] at hz
    have hr:r17 h a ta b tb l=true:=(if_pos h3).trans ((if_pos h6).trans ((if_neg h9).trans (rfl)))
    exact fin hz (by rw [hr]) g8
  ·skip
   try simp (disch:=first|omega|assumption) only [E0_G,SY,setArgs,off,agreeKind,partVals,vals,allocV,boxed,ldA,rdCells,oneB,aggD,aField,aFieldV,aExtract,eq_self,ne_eq,if_true,if_false,not_false_eq_true,Nat.reduceAdd,Nat.reduceSub,Nat.reduceMul,Nat.reduceLT,Nat.reduceEqDiff,Nat.reduceBEq,reduceIte,Int.reduceEq,Int.reduceLT,Int.reduceLE,reduceCtorEq,TY_EvH32,s1,e1,b1,k2,s2,v1_2,h3a,k5,s5,v1_5,h6a,c21s] at hz
   have hr:r17 h a ta b tb l=true:=(if_pos h3).trans ((if_neg h6).trans (rfl))
   exact fin hz (by rw [hr]) g5
 ·skip
  try simp (disch:=first|omega|assumption) only [E0_G,SY,setArgs,off,agreeKind,partVals,vals,allocV,boxed,ldA,rdCells,oneB,aggD,aField,aFieldV,aExtract,eq_self,ne_eq,if_true,if_false,not_false_eq_true,Nat.reduceAdd,Nat.reduceSub,Nat.reduceMul,Nat.reduceLT,Nat.reduceEqDiff,Nat.reduceBEq,reduceIte,Int.reduceEq,Int.reduceLT,Int.reduceLE,reduceCtorEq,TY_EvH32,s1,e1,b1,k2,s2,v1_2,h3a,c21s] at hz
  have hr:r17 h a ta b tb l=true:=(if_neg h3).trans (rfl)
  exact fin hz (by rw [hr]) g2
end House
end Go.Proofs
