import Derived.Test.YtohfdkdjfoonjaaGreatDoorEvH47
import Derived.Test.YtohfdkdjfoonjaaGreatDoorBAG
section
set_option linter.unusedSimpArgs false
set_option linter.unusedVariables false
namespace Go.Proofs
namespace House
open Go Go.RowKit Go.Aev
set_option maxRecDepth 100000
theorem TY_EvH48:type_of% TY_EvH47:=TY_EvH47
def R67_0 (a:Hs) (b:Hs)  : List Rm→Nat→Sum (Bool) (Unit)
 | [],k0=>.inr ()
 | x12 :: l',k0=>(if x12.name=(lget b.rooms k0).name∧x12.floor=(lget b.rooms k0).floor then R67_0 a b l' (k0+1) else .inl false)
def R67_1 (a:Hs) (b:Hs)  : List Dr→Nat→Sum (Bool) (Unit)
 | [],k1=>.inr ()
 | x22 :: l',k1=>(if (r34 (x22.hours:List Sp) ((lget b.doors k1).hours:List Sp))=true then (if (r34 (x22.shut:List Sp) ((lget b.doors k1).shut:List Sp))=true then R67_1 a b l' (k1+1) else .inl false) else .inl false)
def R67_2 (a:Hs) (b:Hs)  : List Wy→Nat→Sum (Bool) (Unit)
 | [],k2=>.inr ()
 | x39 :: l',k2=>(if x39.a=(lget b.ways k2).a∧x39.b=(lget b.ways k2).b∧x39.secs=(lget b.ways k2).secs∧x39.back=(lget b.ways k2).back∧x39.door=(lget b.ways k2).door then R67_2 a b l' (k2+1) else .inl false)
def r67 (a:Hs) (b:Hs):Bool:=(if (a.rooms.length:Int)=(b.rooms.length:Int) then (if (a.doors.length:Int)=(b.doors.length:Int) then (if (a.ways.length:Int)=(b.ways.length:Int) then (onSum (R67_0 a b a.rooms 0) (fun (r4:Bool)=>r4) (fun (_:Unit)=>(onSum (R67_1 a b a.doors 0) (fun (r4:Bool)=>r4) (fun (_:Unit)=>(onSum (R67_2 a b a.ways 0) (fun (r4:Bool)=>r4) (fun (_:Unit)=>true)))))) else false) else false) else false)
set_option maxHeartbeats 8000000 in
theorem c67 (a:Hs) (b:Hs) (hA:Few a) (S:AS) (v_a_rooms:Value) (hv_a_rooms:LstR S v_a_rooms a.rooms) (v_a_doors:Value) (hv_a_doors:LstR S v_a_doors a.doors) (v_a_ways:Value) (hv_a_ways:Lst S v_a_ways a.ways) (v_b_rooms:Value) (hv_b_rooms:LstR S v_b_rooms b.rooms) (v_b_doors:Value) (hv_b_doors:LstR S v_b_doors b.doors) (v_b_ways:Value) (hv_b_ways:Lst S v_b_ways b.ways) :
  ∃ S',(evL Tryz.prog E0).call 67 #[.agg #[v_a_rooms,v_a_doors,v_a_ways],.agg #[v_b_rooms,v_b_doors,v_b_ways]] S=some (.bool (r67 a b),S')∧Agree S S':=by
 have qr:=hA.r; have qd:=hA.d; have qw:=hA.w
 generalize hz:(evL Tryz.prog E0).call 67 _ _=z
 rw [L_call,evCall_said rfl Tryz.func67 rfl (by decide) Tryz.ntmps67 Tryz.results67] at hz
 obtain ⟨S1,e1,n1,b1,a1⟩:=push_open S (.cells [v_a_rooms,v_a_doors,v_a_ways] 26 0 true true)
 have g1:Agree S S1:=a1
 have s1:E0.same S S1=true:=symEnv_same a1
 obtain ⟨S2,e2,n2,b2,a2⟩:=push_open S1 (.cells [v_b_rooms,v_b_doors,v_b_ways] 26 0 true true)
 have v1_2:=(a2.2 S.next (by omega)).trans b1
 have g2:Agree S S2:=g1.trans a2
 have s2:E0.same S1 S2=true:=symEnv_same a2
 have w3:=(hv_a_rooms.agree g2).len (P:=Tryz.prog) (t:=22) Tryz.underlying22
 have w4:=(hv_b_rooms.agree g2).len (P:=Tryz.prog) (t:=22) Tryz.underlying22
 try simp (disch:=first|omega|assumption) only [E0_G,SY,setArgs,off,agreeKind,boxed,ldA,aggD,aField,Nat.reduceAdd,Nat.reduceSub,Nat.reduceLT,Nat.reduceBEq,TY_EvH48,e1,v1_2,e2,b2,w3,w4] at hz
 rcases dP ((a.rooms.length:Int)=(b.rooms.length:Int)) with ⟨h5a,h5⟩|⟨h5a,h5⟩
 ·have w6:=(hv_a_doors.agree g2).len (P:=Tryz.prog) (t:=23) Tryz.underlying23
  have w7:=(hv_b_doors.agree g2).len (P:=Tryz.prog) (t:=23) Tryz.underlying23
  try simp (disch:=first|omega|assumption) only [E0_G,SY,off,agreeKind,ldA,aggD,aField,Nat.reduceAdd,Nat.reduceLT,Nat.reduceBEq,TY_EvH48,v1_2,b2,h5a,w6,w7] at hz
  rcases dP ((a.doors.length:Int)=(b.doors.length:Int)) with ⟨h8a,h8⟩|⟨h8a,h8⟩
  ·have w9:=(hv_a_ways.agree g2).len (P:=Tryz.prog) (t:=24) Tryz.underlying24
   have w10:=(hv_b_ways.agree g2).len (P:=Tryz.prog) (t:=24) Tryz.underlying24
   try simp (disch:=first|omega|assumption) only [E0_G,SY,off,agreeKind,ldA,aggD,aField,Nat.reduceAdd,Nat.reduceLT,Nat.reduceBEq,TY_EvH48,v1_2,b2,h8a,w9,w10] at hz
   rcases dP ((a.ways.length:Int)=(b.ways.length:Int)) with ⟨h11a,h11⟩|⟨h11a,h11⟩
   ·try simp (disch:=first|omega|assumption) only [E0_G,SY,off,agreeKind,Nat.reduceLT,h11a] at hz
    generalize hL12:Rec.loop _ _ _ _=L12 at hz
    obtain ⟨x12,t12,S12e,rfl,hQ12⟩:=loop_met hL12 (fun m t S'=>∃ (k0:Nat),m+k0=a.rooms.length∧k0≤a.rooms.length∧t.get 2=some (.pointer (some ⟨S.next,0,none⟩))∧t.get 3=some (.pointer (some ⟨S1.next,0,none⟩))∧t.get 5=some (.int .i64 (k0:Int))∧S'.heap.get S.next=some (.cells [v_a_rooms,v_a_doors,v_a_ways] 26 0 true true)∧S'.heap.get S1.next=some (.cells [v_b_rooms,v_b_doors,v_b_ways] 26 0 true true)∧Agree S S'∧S2.next≤S'.next∧R67_0 a b (a.rooms.drop k0) k0=R67_0 a b a.rooms 0)
     (fun x t S'=>(x=.exit 0∧∃ (k0:Nat),t.get 2=some (.pointer (some ⟨S.next,0,none⟩))∧t.get 3=some (.pointer (some ⟨S1.next,0,none⟩))∧S'.heap.get S.next=some (.cells [v_a_rooms,v_a_doors,v_a_ways] 26 0 true true)∧S'.heap.get S1.next=some (.cells [v_b_rooms,v_b_doors,v_b_ways] 26 0 true true)∧Agree S S'∧S2.next≤S'.next∧k0≤a.rooms.length∧R67_0 a b a.rooms 0=.inr ())∨(x=.ret∧∃ (r4:Bool),t.get 4=some (.bool r4)∧Agree S S'∧R67_0 a b a.rooms 0=.inl (r4))) (a.rooms.length - 0) (by refine ⟨0,?_,?_,?_,?_,?_,v1_2,b2,g2,Nat.le_refl _,rfl⟩<;>first|(simp only [SY,eq_self,Nat.reduceBEq]<;>rfl)|omega|assumption|(simp; omega)|simp) (by
      rintro m t S12 ⟨k0,hi12_0,hi12_1,g12_2,g12_3,g12_5,bb12_1,bb12_2,ga12,gn12,hd12⟩
      refine .run fun z he=>?_
      have w13:=(hv_a_rooms.agree ga12).len (P:=Tryz.prog) (t:=22) Tryz.underlying22
      try simp (disch:=first|omega|assumption) only [E0_G,SY,off,agreeKind,ldA,aggD,aField,Nat.reduceAdd,Nat.reduceLT,Nat.reduceBEq,TY_EvH48,g12_2,g12_5,bb12_1,w3] at he
      rcases dP ((k0:Int)<(a.rooms.length:Int)) with ⟨h14a,h14⟩|⟨h14a,h14⟩
      ·try simp (disch:=first|omega|assumption) only [SY,h14a] at he
       rw [code_draws _ _ _ (by kernel_rfl)] at he
       generalize hnd15:needy _=nd15 at he
       have hx12:a.rooms[k0]?=some (a.rooms[k0]'(by first|omega|simp; omega)):=List.getElem?_eq_getElem _
       generalize a.rooms[k0]'_=x12 at hx12
       obtain ⟨id16,of16,cc16,ty16,wr16,ex16,cs16,i16,j16,l16,rp16,q16⟩:=LstR.at (hv_a_rooms) (P:=Tryz.prog) (t:=22) Tryz.underlying22 tz110 hx12
       have rq16:cs16=[.string x12.name,.int .i64 x12.floor]:=rp16.1
       subst rq16
       have j16:=(ga12.2 id16 l16).trans j16
       have m16_0:cc16[of16]?=some (.string x12.name):=q16 0 (show 0<2 by decide)
       have m16_1:cc16[of16+1]?=some (.int .i64 x12.floor):=q16 1 (show 1<2 by decide)
       have hx17:b.rooms[k0]?=some (lget b.rooms k0):=lget_some (by first|omega|simp; omega)
       obtain ⟨id17,of17,cc17,ty17,wr17,ex17,cs17,i17,j17,l17,rp17,q17⟩:=LstR.at (hv_b_rooms) (P:=Tryz.prog) (t:=22) Tryz.underlying22 tz110 hx17
       have rq17:cs17=[.string ((lget b.rooms k0).name),.int .i64 ((lget b.rooms k0).floor)]:=rp17.1
       subst rq17
       have j17:=(ga12.2 id17 l17).trans j17
       have m17_0:cc17[of17]?=some (.string ((lget b.rooms k0).name)):=q17 0 (show 0<2 by decide)
       have m17_1:cc17[of17+1]?=some (.int .i64 ((lget b.rooms k0).floor)):=q17 1 (show 1<2 by decide)
       have y18:aEqAgg Tryz.prog 110 (.agg #[.string x12.name,.int .i64 x12.floor]) (.agg #[.string ((lget b.rooms k0).name),.int .i64 ((lget b.rooms k0).floor)])=some (decide (x12.name=(lget b.rooms k0).name∧x12.floor=(lget b.rooms k0).floor)):=(show _=some (((x12.name:ByteArray) == (lget b.rooms k0).name) && (decide (x12.floor=(lget b.rooms k0).floor) && true)) by kernel_rfl).trans (congrArg some (by simp only [ba_beq,Bool.and_true,← Bool.decide_and]))
       try simp (disch:=first|omega|assumption) only [E0_G,SY,agreeKind,ldA,rdCells,aggD,aField,Nat.reduceAdd,Nat.reduceLT,Nat.reduceBEq,TY_EvH48,g12_2,g12_3,g12_5,bb12_1,bb12_2,store_refl E0_same,i16,j16,m16_0,m16_1,i17,j17,m17_0,m17_1,y18] at he
       rcases dP (x12.name=(lget b.rooms k0).name∧x12.floor=(lget b.rooms k0).floor) with ⟨h19a,h19⟩|⟨h19a,h19⟩
       ·have w20:IntKind.i64.wrap ((k0:Int)+1)=((k0+1:Nat):Int):=by rw [IntWalk.i64_in]<;>omega
        try simp (disch:=first|omega|assumption) only [E0_G,SY,off,agreeKind,Nat.reduceAdd,Nat.reduceLT,Nat.reduceBEq,g12_5,store_refl E0_same,h19a,w20] at he
        rw [drop_cons' hx12] at hd12
        have hf:=(show _=(R67_0 a b (a.rooms.drop (k0+1)) (k0+1):Sum (Bool) (Unit)) from (if_pos h19).trans (rfl)).symm.trans hd12
        refine .next he (m - 1) (by omega) ⟨(k0+1),?_,?_,?_,?_,?_,bb12_1,bb12_2,ga12,by omega,hf⟩<;>first|(simp only [SY,eq_self,Nat.reduceBEq,g12_2,g12_3,g12_5]<;>rfl)|omega|assumption|(simp; omega)|simp
       try simp (disch:=first|omega|assumption) only [E0_G,SY,off,agreeKind,Nat.reduceLT,store_refl E0_same,h19a] at he
       rw [drop_cons' hx12] at hd12
       have hf:=(show _=(.inl false:Sum (Bool) (Unit)) from (if_neg h19).trans (rfl)).symm.trans hd12
       refine .ret he (.inr ⟨rfl,⟨false,?_,ga12,hf.symm⟩⟩)<;>first|(simp only [SY,eq_self,Nat.reduceBEq]<;>rfl)|omega|assumption|(simp; omega)|simp
      try simp (disch:=first|omega|assumption) only [SY,h14a] at he
      rw [List.drop_eq_nil_of_le (show a.rooms.length≤k0 by omega)] at hd12
      have hf:=(show _=(.inr ():Sum (Bool) (Unit)) from rfl).symm.trans hd12
      refine .exit he (.inl ⟨rfl,⟨k0,?_,?_,bb12_1,bb12_2,ga12,by omega,?_,hf.symm⟩⟩)<;>first|(simp only [SY,eq_self,Nat.reduceBEq,g12_2,g12_3]<;>rfl)|omega|assumption|(simp; omega)|simp)
    rcases hQ12 with ⟨rfl,hQ12⟩|⟨rfl,hQ12⟩
    ·obtain ⟨k0,ge12_2,ge12_3,be12_1,be12_2,ge12,gm12,hj12_0,hR12⟩:=hQ12
     try simp (disch:=first|omega|assumption) only [E0_G,SY,off,agreeKind,eq_self,if_true,Nat.reduceLT] at hz
     generalize hL22:Rec.loop _ _ _ _=L22 at hz
     obtain ⟨x22,t22,S22e,rfl,hQ22⟩:=loop_met hL22 (fun m t S'=>∃ (k1:Nat),m+k1=a.doors.length∧k1≤a.doors.length∧t.get 2=some (.pointer (some ⟨S.next,0,none⟩))∧t.get 3=some (.pointer (some ⟨S1.next,0,none⟩))∧t.get 6=some (.int .i64 (k1:Int))∧S'.heap.get S.next=some (.cells [v_a_rooms,v_a_doors,v_a_ways] 26 0 true true)∧S'.heap.get S1.next=some (.cells [v_b_rooms,v_b_doors,v_b_ways] 26 0 true true)∧Agree S S'∧S12e.next≤S'.next∧R67_1 a b (a.doors.drop k1) k1=R67_1 a b a.doors 0)
      (fun x t S'=>(x=.exit 2∧∃ (k1:Nat),t.get 2=some (.pointer (some ⟨S.next,0,none⟩))∧t.get 3=some (.pointer (some ⟨S1.next,0,none⟩))∧S'.heap.get S.next=some (.cells [v_a_rooms,v_a_doors,v_a_ways] 26 0 true true)∧S'.heap.get S1.next=some (.cells [v_b_rooms,v_b_doors,v_b_ways] 26 0 true true)∧Agree S S'∧S12e.next≤S'.next∧k1≤a.doors.length∧R67_1 a b a.doors 0=.inr ())∨(x=.ret∧∃ (r4:Bool),t.get 4=some (.bool r4)∧Agree S S'∧R67_1 a b a.doors 0=.inl (r4))) (a.doors.length - 0) (by refine ⟨0,?_,?_,?_,?_,?_,be12_1,be12_2,ge12,Nat.le_refl _,rfl⟩<;>first|(simp only [SY,eq_self,Nat.reduceBEq,ge12_2,ge12_3]<;>rfl)|omega|assumption|(simp; omega)|simp) (by
       rintro m t S22 ⟨k1,hi22_0,hi22_1,g22_2,g22_3,g22_6,bb22_1,bb22_2,ga22,gn22,hd22⟩
       refine .run fun z he=>?_
       have w23:=(hv_a_doors.agree ga22).len (P:=Tryz.prog) (t:=23) Tryz.underlying23
       try simp (disch:=first|omega|assumption) only [E0_G,SY,off,agreeKind,ldA,aggD,aField,Nat.reduceAdd,Nat.reduceLT,Nat.reduceBEq,TY_EvH48,g22_2,g22_6,bb22_1,w6] at he
       rcases dP ((k1:Int)<(a.doors.length:Int)) with ⟨h24a,h24⟩|⟨h24a,h24⟩
       ·try simp (disch:=first|omega|assumption) only [SY,h24a] at he
        rw [code_draws _ _ _ (by kernel_rfl)] at he
        generalize hnd25:needy _=nd25 at he
        have hx22:a.doors[k1]?=some (a.doors[k1]'(by first|omega|simp; omega)):=List.getElem?_eq_getElem _
        generalize a.doors[k1]'_=x22 at hx22
        have ed27:=hA.s _ (List.mem_of_getElem? hx22)
        obtain ⟨id26,of26,cc26,ty26,wr26,ex26,cs26,i26,j26,l26,rp26,q26⟩:=LstR.at (hv_a_doors) (P:=Tryz.prog) (t:=23) Tryz.underlying23 tz98 hx22
        obtain ⟨w26_0,w26_1,rp26,rr26_0,rr26_1⟩:=rp26
        have rq26:cs26=[w26_0,w26_1]:=rp26
        subst rq26
        have jr26:=j26
        have j26:=(ga22.2 id26 l26).trans jr26
        have m26_0:cc26[of26]?=some (w26_0):=q26 0 (show 0<2 by decide)
        have m26_1:cc26[of26+1]?=some (w26_1):=q26 1 (show 1<2 by decide)
        have hx28:b.doors[k1]?=some (lget b.doors k1):=lget_some (by first|omega|simp; omega)
        obtain ⟨id28,of28,cc28,ty28,wr28,ex28,cs28,i28,j28,l28,rp28,q28⟩:=LstR.at (hv_b_doors) (P:=Tryz.prog) (t:=23) Tryz.underlying23 tz98 hx28
        obtain ⟨w28_0,w28_1,rp28,rr28_0,rr28_1⟩:=rp28
        have rq28:cs28=[w28_0,w28_1]:=rp28
        subst rq28
        have jr28:=j28
        have j28:=(ga22.2 id28 l28).trans jr28
        have m28_0:cc28[of28]?=some (w28_0):=q28 0 (show 0<2 by decide)
        have m28_1:cc28[of28+1]?=some (w28_1):=q28 1 (show 1<2 by decide)
        obtain ⟨S29,k29,a29⟩:=c34 (x22.hours:List Sp) ((lget b.doors k1).hours:List Sp) (by omega) S22 (w26_0) (rr26_0.agree ga22) (w28_0) (rr28_0.agree ga22)
        have l29:=a29.1
        have s29:E0.same S22 S29=true:=symEnv_same a29
        have v1_29:=(a29.2 S.next (by omega)).trans bb22_1
        have v2_29:=(a29.2 S1.next (by omega)).trans bb22_2
        have v26_29:=(a29.2 id26 (by omega)).trans j26
        have v28_29:=(a29.2 id28 (by omega)).trans j28
        have g29:Agree S S29:=ga22.trans a29
        try simp (disch:=first|omega|assumption) only [E0_G,SY,agreeKind,vals,ldA,aggD,aField,Nat.reduceAdd,Nat.reduceLT,Nat.reduceBEq,TY_EvH48,g22_2,g22_3,g22_6,bb22_1,bb22_2,store_agree,store_refl E0_same,i26,j26,m26_0,i28,j28,m28_0,k29] at he
        rw [code_draws _ _ _ (by kernel_rfl)] at he
        generalize hnd30:needy _=nd30 at he
        have ed32:=hA.s _ (List.mem_of_getElem? hx22)
        have j31_26:=(g29.2 id26 l26).trans jr26
        have j33_28:=(g29.2 id28 l28).trans jr28
        obtain ⟨S34,k34,a34⟩:=c34 (x22.shut:List Sp) ((lget b.doors k1).shut:List Sp) (by omega) S29 (w26_1) (rr26_1.agree g29) (w28_1) (rr28_1.agree g29)
        have l34:=a34.1
        have s34:E0.same S29 S34=true:=symEnv_same a34
        have v1_34:=(a34.2 S.next (by omega)).trans v1_29
        have v2_34:=(a34.2 S1.next (by omega)).trans v2_29
        have g34:Agree S S34:=g29.trans a34
        try simp (disch:=first|omega|assumption) only [E0_G,SY,off,agreeKind,vals,ldA,aggD,aField,Nat.reduceAdd,Nat.reduceLT,Nat.reduceBEq,TY_EvH48,g22_2,g22_3,g22_6,store_agree,store_refl E0_same,i26,m26_1,i28,m28_1,v1_29,v2_29,v26_29,v28_29,k34] at he
        rcases dB ((r34 (x22.hours:List Sp) ((lget b.doors k1).hours:List Sp))) with ⟨h35a,h35⟩|⟨h35a,h35⟩
        ·try simp (disch:=first|omega|assumption) only [E0_G,SY,off,agreeKind,Nat.reduceAdd,Nat.reduceLT,Nat.reduceBEq,store_refl E0_same,h35a] at he
         rcases dB ((r34 (x22.shut:List Sp) ((lget b.doors k1).shut:List Sp))) with ⟨h36a,h36⟩|⟨h36a,h36⟩
         ·have w37:IntKind.i64.wrap ((k1:Int)+1)=((k1+1:Nat):Int):=by rw [IntWalk.i64_in]<;>omega
          try simp (disch:=first|omega|assumption) only [E0_G,SY,off,agreeKind,Nat.reduceAdd,Nat.reduceLT,Nat.reduceBEq,g22_6,store_refl E0_same,h36a,w37] at he
          rw [drop_cons' hx22] at hd22
          have hf:=(show _=(R67_1 a b (a.doors.drop (k1+1)) (k1+1):Sum (Bool) (Unit)) from (if_pos h35).trans ((if_pos h36).trans (rfl))).symm.trans hd22
          refine .next he (m - 1) (by omega) ⟨(k1+1),?_,?_,?_,?_,?_,v1_34,v2_34,g34,by omega,hf⟩<;>first|(simp only [SY,eq_self,Nat.reduceBEq,g22_2,g22_3,g22_6]<;>rfl)|omega|assumption|(simp; omega)|simp
         try simp (disch:=first|omega|assumption) only [E0_G,SY,off,agreeKind,Nat.reduceLT,store_refl E0_same,h36a] at he
         rw [drop_cons' hx22] at hd22
         have hf:=(show _=(.inl false:Sum (Bool) (Unit)) from (if_pos h35).trans ((if_neg h36).trans (rfl))).symm.trans hd22
         refine .ret he (.inr ⟨rfl,⟨false,?_,g34,hf.symm⟩⟩)<;>first|(simp only [SY,eq_self,Nat.reduceBEq]<;>rfl)|omega|assumption|(simp; omega)|simp
        try simp (disch:=first|omega|assumption) only [E0_G,SY,off,agreeKind,Nat.reduceAdd,Nat.reduceLT,Nat.reduceBEq,store_refl E0_same,h35a] at he
        rw [drop_cons' hx22] at hd22
        have hf:=(show _=(.inl false:Sum (Bool) (Unit)) from (if_neg h35).trans (rfl)).symm.trans hd22
        refine .ret he (.inr ⟨rfl,⟨false,?_,g34,hf.symm⟩⟩)<;>first|(simp only [SY,eq_self,Nat.reduceBEq]<;>rfl)|omega|assumption|(simp; omega)|simp
       try simp (disch:=first|omega|assumption) only [SY,h24a] at he
       rw [List.drop_eq_nil_of_le (show a.doors.length≤k1 by omega)] at hd22
       have hf:=(show _=(.inr ():Sum (Bool) (Unit)) from rfl).symm.trans hd22
       refine .exit he (.inl ⟨rfl,⟨k1,?_,?_,bb22_1,bb22_2,ga22,by omega,?_,hf.symm⟩⟩)<;>first|(simp only [SY,eq_self,Nat.reduceBEq,g22_2,g22_3]<;>rfl)|omega|assumption|(simp; omega)|simp)
     rcases hQ22 with ⟨rfl,hQ22⟩|⟨rfl,hQ22⟩
     ·obtain ⟨k1,ge22_2,ge22_3,be22_1,be22_2,ge22,gm22,hj22_0,hR22⟩:=hQ22
      try simp (disch:=first|omega|assumption) only [E0_G,SY,off,agreeKind,eq_self,if_true,Nat.reduceLT] at hz
      generalize hL39:Rec.loop _ _ _ _=L39 at hz
      obtain ⟨x39,t39,S39e,rfl,hQ39⟩:=loop_met hL39 (fun m t S'=>∃ (k2:Nat),m+k2=a.ways.length∧k2≤a.ways.length∧t.get 2=some (.pointer (some ⟨S.next,0,none⟩))∧t.get 3=some (.pointer (some ⟨S1.next,0,none⟩))∧t.get 9=some (.int .i64 (k2:Int))∧S'.heap.get S.next=some (.cells [v_a_rooms,v_a_doors,v_a_ways] 26 0 true true)∧S'.heap.get S1.next=some (.cells [v_b_rooms,v_b_doors,v_b_ways] 26 0 true true)∧Agree S S'∧S22e.next≤S'.next∧R67_2 a b (a.ways.drop k2) k2=R67_2 a b a.ways 0)
       (fun x t S'=>(x=.exit 4∧∃ (k2:Nat),S'.heap.get S.next=some (.cells [v_a_rooms,v_a_doors,v_a_ways] 26 0 true true)∧S'.heap.get S1.next=some (.cells [v_b_rooms,v_b_doors,v_b_ways] 26 0 true true)∧Agree S S'∧S22e.next≤S'.next∧k2≤a.ways.length∧R67_2 a b a.ways 0=.inr ())∨(x=.ret∧∃ (r4:Bool),t.get 4=some (.bool r4)∧Agree S S'∧R67_2 a b a.ways 0=.inl (r4))) (a.ways.length - 0) (by refine ⟨0,?_,?_,?_,?_,?_,be22_1,be22_2,ge22,Nat.le_refl _,rfl⟩<;>first|(simp only [SY,eq_self,Nat.reduceBEq,ge22_2,ge22_3]<;>rfl)|omega|assumption|(simp; omega)|simp) (by
        rintro m t S39 ⟨k2,hi39_0,hi39_1,g39_2,g39_3,g39_9,bb39_1,bb39_2,ga39,gn39,hd39⟩
        refine .run fun z he=>?_
        have w40:=(hv_a_ways.agree ga39).len (P:=Tryz.prog) (t:=24) Tryz.underlying24
        try simp (disch:=first|omega|assumption) only [E0_G,SY,off,agreeKind,ldA,aggD,aField,Nat.reduceAdd,Nat.reduceLT,Nat.reduceBEq,TY_EvH48,g39_2,g39_9,bb39_1,w9] at he
        rcases dP ((k2:Int)<(a.ways.length:Int)) with ⟨h41a,h41⟩|⟨h41a,h41⟩
        ·try simp (disch:=first|omega|assumption) only [SY,h41a] at he
         rw [code_draws _ _ _ (by kernel_rfl)] at he
         generalize hnd42:needy _=nd42 at he
         have hx39:a.ways[k2]?=some (a.ways[k2]'(by first|omega|simp; omega)):=List.getElem?_eq_getElem _
         generalize a.ways[k2]'_=x39 at hx39
         obtain ⟨id43,of43,cc43,ty43,wr43,ex43,i43,j43,l43,q43⟩:=(hv_a_ways).at (P:=Tryz.prog) (t:=24) Tryz.underlying24 tz92 hx39
         have j43:=(ga39.2 id43 l43).trans j43
         have m43_0:cc43[of43]?=some (.int .i64 x39.a):=q43 0 (show 0<5 by decide)
         have m43_1:cc43[of43+1]?=some (.int .i64 x39.b):=q43 1 (show 1<5 by decide)
         have m43_2:cc43[of43+2]?=some (.int .i64 x39.secs):=q43 2 (show 2<5 by decide)
         have m43_3:cc43[of43+3]?=some (.int .i64 x39.back):=q43 3 (show 3<5 by decide)
         have m43_4:cc43[of43+4]?=some (.int .i64 x39.door):=q43 4 (show 4<5 by decide)
         have hx44:b.ways[k2]?=some (lget b.ways k2):=lget_some (by first|omega|simp; omega)
         obtain ⟨id44,of44,cc44,ty44,wr44,ex44,i44,j44,l44,q44⟩:=(hv_b_ways).at (P:=Tryz.prog) (t:=24) Tryz.underlying24 tz92 hx44
         have j44:=(ga39.2 id44 l44).trans j44
         have m44_0:cc44[of44]?=some (.int .i64 ((lget b.ways k2).a)):=q44 0 (show 0<5 by decide)
         have m44_1:cc44[of44+1]?=some (.int .i64 ((lget b.ways k2).b)):=q44 1 (show 1<5 by decide)
         have m44_2:cc44[of44+2]?=some (.int .i64 ((lget b.ways k2).secs)):=q44 2 (show 2<5 by decide)
         have m44_3:cc44[of44+3]?=some (.int .i64 ((lget b.ways k2).back)):=q44 3 (show 3<5 by decide)
         have m44_4:cc44[of44+4]?=some (.int .i64 ((lget b.ways k2).door)):=q44 4 (show 4<5 by decide)
         have y45:aEqAgg Tryz.prog 92 (.agg #[.int .i64 x39.a,.int .i64 x39.b,.int .i64 x39.secs,.int .i64 x39.back,.int .i64 x39.door]) (.agg #[.int .i64 ((lget b.ways k2).a),.int .i64 ((lget b.ways k2).b),.int .i64 ((lget b.ways k2).secs),.int .i64 ((lget b.ways k2).back),.int .i64 ((lget b.ways k2).door)])=some (decide (x39.a=(lget b.ways k2).a∧x39.b=(lget b.ways k2).b∧x39.secs=(lget b.ways k2).secs∧x39.back=(lget b.ways k2).back∧x39.door=(lget b.ways k2).door)):=(show _=some (decide (x39.a=(lget b.ways k2).a) && (decide (x39.b=(lget b.ways k2).b) && (decide (x39.secs=(lget b.ways k2).secs) && (decide (x39.back=(lget b.ways k2).back) && (decide (x39.door=(lget b.ways k2).door) && true))))) by kernel_rfl).trans (congrArg some (by simp only [Bool.and_true,← Bool.decide_and]))
         try simp (disch:=first|omega|assumption) only [E0_G,SY,agreeKind,ldA,rdCells,aggD,aField,Nat.reduceAdd,Nat.reduceLT,Nat.reduceBEq,TY_EvH48,g39_2,g39_3,g39_9,bb39_1,bb39_2,store_refl E0_same,i43,j43,m43_0,m43_1,m43_2,m43_3,m43_4,i44,j44,m44_0,m44_1,m44_2,m44_3,m44_4,y45] at he
         rcases dP (x39.a=(lget b.ways k2).a∧x39.b=(lget b.ways k2).b∧x39.secs=(lget b.ways k2).secs∧x39.back=(lget b.ways k2).back∧x39.door=(lget b.ways k2).door) with ⟨h46a,h46⟩|⟨h46a,h46⟩
         ·have w47:IntKind.i64.wrap ((k2:Int)+1)=((k2+1:Nat):Int):=by rw [IntWalk.i64_in]<;>omega
          try simp (disch:=first|omega|assumption) only [E0_G,SY,off,agreeKind,Nat.reduceAdd,Nat.reduceLT,Nat.reduceBEq,g39_9,store_refl E0_same,h46a,w47] at he
          rw [drop_cons' hx39] at hd39
          have hf:=(show _=(R67_2 a b (a.ways.drop (k2+1)) (k2+1):Sum (Bool) (Unit)) from (if_pos h46).trans (rfl)).symm.trans hd39
          refine .next he (m - 1) (by omega) ⟨(k2+1),?_,?_,?_,?_,?_,bb39_1,bb39_2,ga39,by omega,hf⟩<;>first|(simp only [SY,eq_self,Nat.reduceBEq,g39_2,g39_3,g39_9]<;>rfl)|omega|assumption|(simp; omega)|simp
         try simp (disch:=first|omega|assumption) only [E0_G,SY,off,agreeKind,Nat.reduceLT,store_refl E0_same,h46a] at he
         rw [drop_cons' hx39] at hd39
         have hf:=(show _=(.inl false:Sum (Bool) (Unit)) from (if_neg h46).trans (rfl)).symm.trans hd39
         refine .ret he (.inr ⟨rfl,⟨false,?_,ga39,hf.symm⟩⟩)<;>first|(simp only [SY,eq_self,Nat.reduceBEq]<;>rfl)|omega|assumption|(simp; omega)|simp
        try simp (disch:=first|omega|assumption) only [SY,h41a] at he
        rw [List.drop_eq_nil_of_le (show a.ways.length≤k2 by omega)] at hd39
        have hf:=(show _=(.inr ():Sum (Bool) (Unit)) from rfl).symm.trans hd39
        refine .exit he (.inl ⟨rfl,⟨k2,bb39_1,bb39_2,ga39,by omega,?_,hf.symm⟩⟩)<;>first|(simp only [SY,setArgs,off,agreeKind,partVals,vals,allocV,boxed,ldA,rdCells,oneB,aggD,aField,aFieldV,aExtract,eq_self,ne_eq,if_true,if_false,not_false_eq_true,Nat.reduceAdd,Nat.reduceSub,Nat.reduceMul,Nat.reduceLT,Nat.reduceEqDiff,Nat.reduceBEq,reduceIte,Int.reduceEq,Int.reduceLT,Int.reduceLE,reduceCtorEq,g39_2,g39_3,g39_9]<;>rfl)|omega|assumption|(simp; omega)|simp)
      rcases hQ39 with ⟨rfl,hQ39⟩|⟨rfl,hQ39⟩
      ·obtain ⟨k2,be39_1,be39_2,ge39,gm39,hj39_0,hR39⟩:=hQ39
       try simp (disch:=first|omega|assumption) only [E0_G,SY,off,agreeKind,eq_self,if_true,Nat.reduceLT,Nat.reduceBEq] at hz
       have hr:r67 a b=true:=(if_pos h5).trans ((if_pos h8).trans ((if_pos h11).trans ((onSum_inr hR12).trans ((onSum_inr hR22).trans ((onSum_inr hR39).trans (rfl))))))
       exact fin hz (by rw [hr]) ge39
      obtain ⟨r4,ge39_4,ge39,hR39⟩:=hQ39
      try simp (disch:=first|omega|assumption) only [SY,ge39_4] at hz
      have hr:r67 a b=r4:=(if_pos h5).trans ((if_pos h8).trans ((if_pos h11).trans ((onSum_inr hR12).trans ((onSum_inr hR22).trans ((onSum_inl hR39).trans (rfl))))))
      exact fin hz (by rw [hr]) ge39
     obtain ⟨r4,ge22_4,ge22,hR22⟩:=hQ22
     try simp (disch:=first|omega|assumption) only [SY,ge22_4] at hz
     have hr:r67 a b=r4:=(if_pos h5).trans ((if_pos h8).trans ((if_pos h11).trans ((onSum_inr hR12).trans ((onSum_inl hR22).trans (rfl)))))
     exact fin hz (by rw [hr]) ge22
    obtain ⟨r4,ge12_4,ge12,hR12⟩:=hQ12
    try simp (disch:=first|omega|assumption) only [SY,ge12_4] at hz
    have hr:r67 a b=r4:=(if_pos h5).trans ((if_pos h8).trans ((if_pos h11).trans ((onSum_inl hR12).trans (rfl))))
    exact fin hz (by rw [hr]) ge12
   try simp (disch:=first|omega|assumption) only [E0_G,SY,off,agreeKind,Nat.reduceLT,Nat.reduceBEq,h11a] at hz
   have hr:r67 a b=false:=(if_pos h5).trans ((if_pos h8).trans ((if_neg h11).trans (rfl)))
   exact fin hz (by rw [hr]) g2
  try simp (disch:=first|omega|assumption) only [E0_G,SY,off,agreeKind,Nat.reduceAdd,Nat.reduceLT,Nat.reduceBEq,h8a] at hz
  have hr:r67 a b=false:=(if_pos h5).trans ((if_neg h8).trans (rfl))
  exact fin hz (by rw [hr]) g2
 try simp (disch:=first|omega|assumption) only [E0_G,SY,off,agreeKind,Nat.reduceAdd,Nat.reduceLT,Nat.reduceBEq,h5a] at hz
 have hr:r67 a b=false:=(if_neg h5).trans (rfl)
 exact fin hz (by rw [hr]) g2
end House
end Go.Proofs
end
section
set_option linter.unusedSimpArgs false
set_option linter.unusedVariables false
namespace Go.Proofs
namespace House
open Go Go.RowKit Go.Aev
set_option maxRecDepth 100000
theorem TY_EvH49:type_of% TY_EvH48:=TY_EvH48
def r13 (h:Hs) (door:Int) (slo shi:Int):Bool:=(if (r20 h)=true then decide ((((r65 h door slo shi).2)=((r66 h door slo shi).2))∧((r67 ((r65 h door slo shi).1) ((r66 h door slo shi).1))=true)) else true)
set_option maxHeartbeats 16000000 in
theorem c13 (h:Hs) (door:Int) (slo shi:Int) (hs:∀ x ∈ h.rooms,x.name.size≤9223372036854775807) (S:AS) (v_h_rooms:Value) (hv_h_rooms:LstR S v_h_rooms h.rooms) (v_h_doors:Value) (hv_h_doors:LstR S v_h_doors h.doors) (v_h_ways:Value) (hv_h_ways:Lst S v_h_ways h.ways) :
  ∃ S',(evL Tryz.prog E0).call 13 #[.agg #[v_h_rooms,v_h_doors,v_h_ways],.int .i64 door,.agg #[.int .i64 slo,.int .i64 shi]] S=some (.bool (r13 h door slo shi),S')∧Agree S S':=by
 generalize hz:(evL Tryz.prog E0).call 13 _ _=z
 rw [L_call,evCall_said rfl Tryz.func13 rfl (by decide) Tryz.ntmps13 Tryz.results13] at hz
 obtain ⟨S1,e1,n1,b1,a1⟩:=push_open S (.cells [v_h_rooms,v_h_doors,v_h_ways] 26 0 true true)
 have g1:Agree S S1:=a1
 have s1:E0.same S S1=true:=symEnv_same a1
 obtain ⟨S2,e2,n2,b2,a2⟩:=push_open S1 (.cells [.int .i64 slo,.int .i64 shi] 36 0 true true)
 have v1_2:=(a2.2 S.next (by omega)).trans b1
 have g2:Agree S S2:=g1.trans a2
 have s2:E0.same S1 S2=true:=symEnv_same a2
 obtain ⟨S3,k3,a3⟩:=c20 h  S2 (v_h_rooms) (hv_h_rooms.agree g2) (v_h_doors) (hv_h_doors.agree g2) (v_h_ways) (hv_h_ways.agree g2)
 have l3:=a3.1
 have s3:E0.same S2 S3=true:=symEnv_same a3
 have v1_3:=(a3.2 S.next (by omega)).trans v1_2
 have v2_3:=(a3.2 S1.next (by omega)).trans b2
 have g3:Agree S S3:=g2.trans a3
 try simp (disch:=first|omega|assumption) only [E0_G,SY,setArgs,off,agreeKind,vals,boxed,ldA,rdCells,aggD,Nat.reduceAdd,Nat.reduceSub,Nat.reduceLT,Nat.reduceBEq,TY_EvH49,e1,v1_2,e2,k3] at hz
 rcases dB ((r20 h)) with ⟨h4a,h4⟩|⟨h4a,h4⟩
 ·have hF:=few_of h4
  obtain ⟨u5_0,u5_1,u5_2,S5,k5,a5,rd5_0,rd5_1,rd5_2⟩:=c65 h door slo shi (few_of (h:=h) (by assumption)) hs S3 (v_h_rooms) (hv_h_rooms.agree g3) (v_h_doors) (hv_h_doors.agree g3) (v_h_ways) (hv_h_ways.agree g3)
  have l5:=a5.1
  have s5:E0.same S3 S5=true:=symEnv_same a5
  have v1_5:=(a5.2 S.next (by omega)).trans v1_3
  have v2_5:=(a5.2 S1.next (by omega)).trans v2_3
  have g5:Agree S S5:=g3.trans a5
  obtain ⟨S6,e6,n6,b6,a6⟩:=push_open S5 (.cells [.slice none 0 0,.slice none 0 0,.slice none 0 0] 26 0 true true)
  have v1_6:=(a6.2 S.next (by omega)).trans v1_5
  have v2_6:=(a6.2 S1.next (by omega)).trans v2_5
  have rg7:=rd5_0.agree a6
  have rg8:=rd5_1.agree a6
  have rg9:=rd5_2.agree a6
  have g6:Agree S S6:=g5.trans a6
  have s6:E0.same S5 S6=true:=symEnv_same a6
  obtain ⟨S10,k10,n10,b10,q10⟩:=st_at (o:=0) (c':=[u5_0,u5_1,u5_2]) (v:=.agg #[u5_0,u5_1,u5_2]) tz26 b6 (by obtain ⟨p0_,n0_,c0_,e0_⟩:=(rg7).form; rw [e0_]; obtain ⟨p1_,n1_,c1_,e1_⟩:=(rg8).form; rw [e1_]; obtain ⟨p2_,n2_,c2_,e2_⟩:=(rg9).form; rw [e2_]; rfl) rfl (show 0+3≤3 by decide) rfl
  have v1_10:=(q10 S.next (by omega)).trans v1_6
  have v2_10:=(q10 S1.next (by omega)).trans v2_6
  have rd11:=LstR.box (α:=Rm) rg7 b6 (by decide) (by omega) q10
  have rd12:=LstR.box (α:=Dr) rg8 b6 (by decide) (by omega) q10
  have rd13:=Lst.box (β:=Wy) rg9 b6 (by decide) (by omega) q10
  have g10:Agree S S10:=⟨by have:=(g6).1; omega,fun id hid=>(q10 id (by have:=(g6).1; omega)).trans ((g6).2 id hid)⟩
  obtain ⟨u14_0,u14_1,u14_2,S14,k14,a14,rd14_0,rd14_1,rd14_2⟩:=c66 h door slo shi (few_of (h:=h) (by assumption)) hs S10 (v_h_rooms) (hv_h_rooms.agree g10) (v_h_doors) (hv_h_doors.agree g10) (v_h_ways) (hv_h_ways.agree g10)
  have l14:=a14.1
  have s14:E0.same S10 S14=true:=symEnv_same a14
  have v1_14:=(a14.2 S.next (by omega)).trans v1_10
  have v2_14:=(a14.2 S1.next (by omega)).trans v2_10
  have v6_14:=(a14.2 S5.next (by omega)).trans b10
  have rg15:=rd11.agree a14
  have rg16:=rd12.agree a14
  have rg17:=rd13.agree a14
  have g14:Agree S S14:=g10.trans a14
  obtain ⟨S18,e18,n18,b18,a18⟩:=push_open S14 (.cells [.slice none 0 0,.slice none 0 0,.slice none 0 0] 26 0 true true)
  have v1_18:=(a18.2 S.next (by omega)).trans v1_14
  have v2_18:=(a18.2 S1.next (by omega)).trans v2_14
  have v6_18:=(a18.2 S5.next (by omega)).trans v6_14
  have rg19:=rg15.agree a18
  have rg20:=rg16.agree a18
  have rg21:=rg17.agree a18
  have rg22:=rd14_0.agree a18
  have rg23:=rd14_1.agree a18
  have rg24:=rd14_2.agree a18
  have g18:Agree S S18:=g14.trans a18
  have s18:E0.same S14 S18=true:=symEnv_same a18
  obtain ⟨S25,k25,n25,b25,q25⟩:=st_at (o:=0) (c':=[u14_0,u14_1,u14_2]) (v:=.agg #[u14_0,u14_1,u14_2]) tz26 b18 (by obtain ⟨p0_,n0_,c0_,e0_⟩:=(rg22).form; rw [e0_]; obtain ⟨p1_,n1_,c1_,e1_⟩:=(rg23).form; rw [e1_]; obtain ⟨p2_,n2_,c2_,e2_⟩:=(rg24).form; rw [e2_]; rfl) rfl (show 0+3≤3 by decide) rfl
  have v1_25:=(q25 S.next (by omega)).trans v1_18
  have v2_25:=(q25 S1.next (by omega)).trans v2_18
  have v6_25:=(q25 S5.next (by omega)).trans v6_18
  have rd26:=LstR.box (α:=Rm) rg19 b18 (by decide) (by omega) q25
  have rd27:=LstR.box (α:=Dr) rg20 b18 (by decide) (by omega) q25
  have rd28:=Lst.box (β:=Wy) rg21 b18 (by decide) (by omega) q25
  have rd29:=LstR.box (α:=Rm) rg22 b18 (by decide) (by omega) q25
  have rd30:=LstR.box (α:=Dr) rg23 b18 (by decide) (by omega) q25
  have rd31:=Lst.box (β:=Wy) rg24 b18 (by decide) (by omega) q25
  have g25:Agree S S25:=⟨by have:=(g18).1; omega,fun id hid=>(q25 id (by have:=(g18).1; omega)).trans ((g18).2 id hid)⟩
  try simp (disch:=first|omega|assumption) only [E0_G,SY,off,agreeKind,vals,allocV,ldA,rdCells,aggD,aExtract,Nat.reduceAdd,Nat.reduceLT,Nat.reduceBEq,TY_EvH49,v1_3,v2_3,h4a,k5,e6,v1_10,v2_10,k10,k14,e18,k25,c21s] at hz
  generalize hL32:behind _ _=L32 at hz
  refine join_reg hL32 (fun t S'=>∃ (j32_0:Bool),j32_0=decide ((((r65 h door slo shi).2)=((r66 h door slo shi).2))∧((r67 ((r65 h door slo shi).1) ((r66 h door slo shi).1))=true))∧t.get 6=some (.bool j32_0)∧Agree S S'∧S25.next≤S'.next∧LstR S' u5_0 ((r65 h door slo shi).1.rooms)∧LstR S' u5_1 ((r65 h door slo shi).1.doors)∧Lst S' u5_2 ((r65 h door slo shi).1.ways)∧LstR S' u14_0 ((r66 h door slo shi).1.rooms)∧LstR S' u14_1 ((r66 h door slo shi).1.doors)∧Lst S' u14_2 ((r66 h door slo shi).1.ways)) (fun tl32=>?_) (fun t32 S32 hn32 hq32=>?_)
  ·try simp (disch:=first|omega|assumption) only [E0_G,SY,setArgs,off,agreeKind,partVals,vals,allocV,boxed,ldA,rdCells,oneB,aggD,aField,aFieldV,aExtract,eq_self,ne_eq,if_true,if_false,not_false_eq_true,Nat.reduceAdd,Nat.reduceSub,Nat.reduceMul,Nat.reduceLT,Nat.reduceEqDiff,Nat.reduceBEq,reduceIte,Int.reduceEq,Int.reduceLT,Int.reduceLE,reduceCtorEq,TY_EvH49,s1,e1,b1,v1_2,s2,e2,b2,k3,s3,v1_3,v2_3,h4a,k5,s5,v1_5,v2_5,v1_6,v2_6,s6,e6,b6,v1_10,v2_10,k10,b10,k14,s14,v1_14,v2_14,v6_14,v1_18,v2_18,v6_18,s18,e18,b18,v1_25,v2_25,v6_25,k25,b25,c21s] at hL32
   rcases dP (((r65 h door slo shi).2)=((r66 h door slo shi).2)) with ⟨h41a,h41⟩|⟨h41a,h41⟩
   ·obtain ⟨S42,k42,a42⟩:=c67 ((r65 h door slo shi).1) ((r66 h door slo shi).1) (few_r65 (few_of (h:=h) (by assumption))) S25 (u5_0) (rd26) (u5_1) (rd27) (u5_2) (rd28) (u14_0) (rd29) (u14_1) (rd30) (u14_2) (rd31)
    have l42:=a42.1
    have rg43:=rd26.agree a42
    have rg44:=rd27.agree a42
    have rg45:=rd28.agree a42
    have rg46:=rd29.agree a42
    have rg47:=rd30.agree a42
    have rg48:=rd31.agree a42
    have g42:Agree S S42:=g25.trans a42
    try simp (disch:=first|omega|assumption) only [E0_G,SY,off,agreeKind,vals,ldA,rdCells,aggD,Nat.reduceAdd,Nat.reduceLT,Nat.reduceBEq,TY_EvH49,v6_25,b25,h41a,k42] at hL32
    refine tl32 _ _ hL32.symm ⟨(r67 ((r65 h door slo shi).1) ((r66 h door slo shi).1)),by simp only [eq_true h41,true_and,Bool.decide_eq_true],?_,g42,by omega,rg43,rg44,rg45,rg46,rg47,rg48⟩<;>first|(simp only [SY,eq_self,Nat.reduceBEq]<;>rfl)|omega|assumption|(simp; omega)|simp
   try simp (disch:=first|omega|assumption) only [E0_G,SY,off,agreeKind,Nat.reduceAdd,Nat.reduceLT,Nat.reduceBEq,h41a] at hL32
   refine tl32 _ _ hL32.symm ⟨false,by simp only [eq_false h41,false_and,decide_false],?_,g25,by omega,rd26,rd27,rd28,rd29,rd30,rd31⟩<;>first|(simp only [SY,eq_self,Nat.reduceBEq]<;>rfl)|omega|assumption|(simp; omega)|simp
  subst hn32
  obtain ⟨j32_0,rfl,g32_6,gj32,gl32,rj32_0,rj32_1,rj32_2,rj32_3,rj32_4,rj32_5⟩:=hq32
  try simp (disch:=first|omega|assumption) only [SY,g32_6] at hz
  have hr:r13 h door slo shi=decide ((((r65 h door slo shi).2)=((r66 h door slo shi).2))∧((r67 ((r65 h door slo shi).1) ((r66 h door slo shi).1))=true)):=(if_pos h4).trans (rfl)
  exact fin hz (by rw [hr]) gj32
 try simp (disch:=first|omega|assumption) only [E0_G,SY,off,agreeKind,vals,Nat.reduceAdd,Nat.reduceLT,Nat.reduceBEq,h4a,c21s] at hz
 have hr:r13 h door slo shi=true:=(if_neg h4).trans (rfl)
 exact fin hz (by rw [hr]) g3
end House
end Go.Proofs
end
section
set_option linter.unusedSimpArgs false
set_option linter.unusedVariables false
namespace Go.Proofs
namespace House
open Go Go.RowKit Go.Aev
set_option maxRecDepth 100000
theorem R66_0_eq (h:Hs) (door slo shi:Int) (l:List Sp) (s0 s1:Int):∀ (m bf bh:List Sp) (ulo uhi:Int),Bd 1073741823 m→Ord m→Bd 1073741823 bh→ulo≤uhi→(∀ y ∈ bh,uhi+1<y.lo)→(∀ y ∈ bh,∀ z ∈ m,y.hi+1<z.lo) →
  R66_0 h door slo shi m (bf++bh) ulo uhi=((R123_0 l s0 s1 m bf bh ulo uhi).1++(R123_0 l s0 s1 m bf bh ulo uhi).2.1,(R123_0 l s0 s1 m bf bh ulo uhi).2.2):=by
 intro m
 induction m with
 | nil=>intro bf bh ulo uhi _ _ _ _ _ _; rfl
 | cons x m ih =>
  intro bf bh ulo uhi bm om b2 u1 f2 f4
  obtain ⟨om1,om2⟩:=List.pairwise_cons.1 om
  have bx:=bm x (by simp)
  have bm':Bd 1073741823 m:=fun y hy=>bm y (List.mem_cons.2 (.inr hy))
  rw [R66_0,R123_0]
  by_cases h1:(x.hi+1)<ulo
  ·rw [if_pos h1,if_pos h1]
   have e:bh=[]:=by
    cases bh with
    | nil=>rfl
    | cons y t =>
     have a1:=f2 y (by simp); have a2:=f4 y (by simp) x (by simp); have a3:=b2 y (by simp)
     omega
   subst e
   have:=ih (bf++[(⟨x.lo,x.hi⟩:Sp)]) [] ulo uhi bm' om2 b2 u1 f2 (fun y hy=>by simp at hy)
   rw [List.append_nil] at this
   rw [List.append_nil]
   exact this
  ·rw [if_neg h1,if_neg h1]
   by_cases h2:(uhi+1)<x.lo
   ·rw [if_pos h2,if_pos h2,List.append_assoc]
    exact ih bf (bh++[(⟨x.lo,x.hi⟩:Sp)]) ulo uhi bm' om2 (fun y hy=>by
      rcases List.mem_append.1 hy with h|h
      ·exact b2 y h
      ·rw [List.mem_singleton.1 h]; exact bx) u1 (fun y hy=>by
      rcases List.mem_append.1 hy with h|h
      ·exact f2 y h
      ·rw [List.mem_singleton.1 h]; exact h2) (fun y hy z hz=>by
      rcases List.mem_append.1 hy with h|h
      ·exact f4 y h z (List.mem_cons.2 (.inr hz))
      ·rw [List.mem_singleton.1 h]; exact om1 z hz)
   ·rw [if_neg h2,if_neg h2]
    have nb:∀ y ∈ bh,False:=fun y hy=>by
     have a1:=f2 y hy; have a2:=f4 y hy x (by simp); have a3:=b2 y hy
     omega
    exact ih bf bh _ _ bm' om2 b2 (by omega) (fun y hy=>(nb y hy).elim) (fun y hy=>(nb y hy).elim)
theorem R66_1_eq (h:Hs) (door slo shi:Int) (bf bh:List Sp) (lo:Int) (e1:(R66_0 h door slo shi ((lget h.doors (Int.toNat door)).shut) ([]) slo shi).1=bf++bh) (e2:(R66_0 h door slo shi ((lget h.doors (Int.toNat door)).shut) ([]) slo shi).2.1=lo)
  (f1:∀ x ∈ bf,x.lo<lo) (f2:∀ y ∈ bh,lo≤y.lo):∀ (m k:Nat),m+k=(bf++bh).length+1→k≤bf.length→R66_1 h door slo shi m k=bf.length:=by
 intro m
 induction m with
 | zero=>intro k hm hk; rw [List.length_append] at hm; omega
 | succ m ih =>
  intro k hm hk
  rw [R66_1,e1,e2]
  rw [List.length_append] at hm
  by_cases g:k<bf.length
  ·have hg:lget (bf++bh) k=bf[k]:=by
    unfold lget; rw [List.getD_eq_getElem?_getD,List.getElem?_append_left g,List.getElem?_eq_getElem g]; rfl
   rw [if_pos (by rw [List.length_append]; omega),hg,if_pos (f1 _ (List.getElem_mem g))]
   exact ih (k+1) (by rw [List.length_append]; omega) (by omega)
  ·have ek:k=bf.length:=by omega
   by_cases g2:(k:Int)<((bf++bh).length:Int)
   ·rw [if_pos g2]
    have hb:k - bf.length<bh.length:=by rw [List.length_append] at g2; omega
    have hg:lget (bf++bh) k=bh[k - bf.length]:=by
     unfold lget; rw [List.getD_eq_getElem?_getD,List.getElem?_append_right (by omega),List.getElem?_eq_getElem hb]; rfl
    rw [hg,if_neg (by have:=f2 _ (List.getElem_mem hb); omega)]
    exact ek
   ·rw [if_neg g2]; exact ek
theorem join66 {h:Hs} {d a b:Int} (hb:Bd 1073741823 (lget h.doors (Int.toNat d)).shut) (ho:Ord (lget h.doors (Int.toNat d)).shut) (hs:0≤a∧a≤b∧b≤1073741823) :
  ((((R66_0 h d a b ((lget h.doors (Int.toNat d)).shut) ([]) a b).1).take (R66_1 h d a b ((R66_0 h d a b (lget h.doors (Int.toNat d)).shut ([]) a b).1.length+1) 0))++([(⟨(R66_0 h d a b ((lget h.doors (Int.toNat d)).shut) ([]) a b).2.1,(R66_0 h d a b ((lget h.doors (Int.toNat d)).shut) ([]) a b).2.2⟩:Sp)]))++(((R66_0 h d a b ((lget h.doors (Int.toNat d)).shut) ([]) a b).1).drop (R66_1 h d a b ((R66_0 h d a b (lget h.doors (Int.toNat d)).shut ([]) a b).1.length+1) 0))=r123 (lget h.doors (Int.toNat d)).shut a b:=by
 have J:=r123_ok hb ho hs
 rw [r123_jn] at J ⊢
 have e:=R66_0_eq h d a b (lget h.doors (Int.toNat d)).shut a b (lget h.doors (Int.toNat d)).shut [] [] a b hb ho (fun x hx=>by simp at hx) hs.2.1 (fun x hx=>by simp at hx) (fun x hx=>by simp at hx)
 rw [List.append_nil] at e
 generalize hq:R123_0 (lget h.doors (Int.toNat d)).shut a b (lget h.doors (Int.toNat d)).shut [] [] a b=q at *
 obtain ⟨j1,j2,_⟩:=J
 unfold jn at j1 j2 ⊢
 obtain ⟨p1,p2,p3⟩:=List.pairwise_append.1 j2
 obtain ⟨p4,p5⟩:=List.pairwise_cons.1 p2
 have bu:=j1 (⟨q.2.2.1,q.2.2.2⟩:Sp) (by simp)
 simp only at bu
 have i:=R66_1_eq h d a b q.1 q.2.1 q.2.2.1 (by rw [e]) (by rw [e]) (fun x hx=>by
   have k:=p3 x hx _ (List.mem_cons_self ..); have k2:=j1 x (by simp [hx]); simp only at k; omega) (fun y hy=>by
   have k:=p4 y hy; simp only at k; omega) ((R66_0 h d a b (lget h.doors (Int.toNat d)).shut ([]) a b).1.length+1) 0 (by rw [e]) (Nat.zero_le _)
 rw [i,e]
 simp only
 rw [List.take_left,List.drop_left,List.append_assoc]
 rfl
theorem R66_2_eq {h:Hs} {d a b:Int} {K:List Sp} (hd:0≤d∧d<(h.doors.length:Int))
  (hK:((((R66_0 h d a b ((lget h.doors (Int.toNat d)).shut) ([]) a b).1).take (R66_1 h d a b ((R66_0 h d a b (lget h.doors (Int.toNat d)).shut ([]) a b).1.length+1) 0))++([(⟨(R66_0 h d a b ((lget h.doors (Int.toNat d)).shut) ([]) a b).2.1,(R66_0 h d a b ((lget h.doors (Int.toNat d)).shut) ([]) a b).2.2⟩:Sp)]))++(((R66_0 h d a b ((lget h.doors (Int.toNat d)).shut) ([]) a b).1).drop (R66_1 h d a b ((R66_0 h d a b (lget h.doors (Int.toNat d)).shut ([]) a b).1.length+1) 0))=K) :
  ∀ (m:List Dr) (i:Nat),h.doors.drop i=m→R66_2 h d a b m ((h.doors.set d.toNat (⟨(lget h.doors d.toNat).hours,K⟩:Dr)).take i) i=h.doors.set d.toNat (⟨(lget h.doors d.toNat).hours,K⟩:Dr):=by
 intro m
 induction m with
 | nil =>
  intro i e
  rw [R66_2,List.take_of_length_le]
  rw [List.length_set]
  exact List.drop_eq_nil_iff.1 e
 | cons x m ih =>
  intro i e
  obtain ⟨e1,e2⟩:=drop_unc e
  have hi:i<h.doors.length:=(List.getElem?_eq_some_iff.1 e1).1
  have hx:h.doors[i]=x:=(List.getElem?_eq_some_iff.1 e1).2
  have hi':i<(h.doors.set d.toNat (⟨(lget h.doors d.toNat).hours,K⟩:Dr)).length:=by rw [List.length_set]; exact hi
  have step:=ih (i+1) e2
  rw [List.take_succ_eq_append_getElem hi'] at step
  rw [R66_2,hK]
  by_cases g:(i:Int)=d
  ·rw [if_pos g]
   have ed:d.toNat=i:=by omega
   have ex:lget h.doors d.toNat=x:=by
    unfold lget; rw [List.getD_eq_getElem?_getD,ed,e1]; rfl
   have eg:(h.doors.set d.toNat (⟨(lget h.doors d.toNat).hours,K⟩:Dr))[i]=⟨x.hours,K⟩:=by
    rw [List.getElem_set,if_pos ed,ex]
   rw [eg] at step
   exact step
  ·rw [if_neg g]
   have eg:(h.doors.set d.toNat (⟨(lget h.doors d.toNat).hours,K⟩:Dr))[i]=x:=by
    rw [List.getElem_set,if_neg (by omega),hx]
   rw [eg] at step
   exact step
theorem shut_eq (h:Hs) (d a b:Int):r65 h d a b=r66 h d a b:=by
 unfold r65 r66
 rw [r85_eq,r84_eq,r84_eq]
 by_cases hV:r59 h=0
 case neg =>
  rw [if_neg hV,if_neg hV,if_neg hV,if_neg hV,if_neg hV]
  split<;>rfl
 rw [if_pos hV,if_pos hV,if_pos hV]
 by_cases hd:0≤d∧d<(h.doors.length:Int)
 case neg =>
  rw [if_neg (fun e=>hd (r87_iff.1 e)),if_neg (show ¬ ((0≤d∧d<(h.doors.length:Int))∧((0:Int)≤0∧(0:Int)≤1073741823)) from fun e=>hd e.1)]
  simp
 rw [if_pos (r87_iff.2 hd),if_pos (show (0≤d∧d<(h.doors.length:Int))∧((0:Int)≤0∧(0:Int)≤1073741823) from ⟨hd,by decide⟩)]
 by_cases hs:a≤b∧0≤a∧b≤1073741823
 case neg =>
  have n93:¬ r93 a b=true:=fun e=>hs (r93_iff.1 e)
  rw [if_neg n93,if_neg (show ¬ (1:Int)=0 by decide),if_pos (show (0:Int)=0 from rfl)]
  by_cases q1:b<a
  ·rw [if_pos q1]
  rw [if_neg q1]
  by_cases q2:r69 a=true
  ·rw [if_pos q2]
   by_cases q3:r69 b=true
   ·exfalso
    have k2:=r69_iff.1 q2; have k3:=r69_iff.1 q3
    exact hs (by omega)
   ·rw [if_neg q3]
  ·rw [if_neg q2]
 rw [if_pos (r93_iff.2 hs),if_pos rfl,if_pos rfl,if_neg (show ¬ b<a by omega),if_pos (r69_iff.2 (by omega)),if_pos (r69_iff.2 (by omega))]
 have O:=oko hV (List.mem_of_getElem? (lget_some (l:=h.doors) (i:=d.toNat) (by omega)))
 have K:=join66 (h:=h) (d:=d) (a:=a) (b:=b) O.o.s O.s (by omega)
 have D:=R66_2_eq hd K h.doors 0 rfl
 rw [List.take_zero] at D
 rw [K,D]
theorem r67_refl (a:Hs):r67 a a=true:=by
 have e0:∀ (m:List Rm) (k:Nat),a.rooms.drop k=m→R67_0 a a m k=.inr ():=by
  intro m
  induction m with
  | nil=>intro k _; rfl
  | cons x m ih =>
   intro k hd
   obtain ⟨d1,d2,d3⟩:=drop_lget hd
   rw [R67_0,d1,if_pos ⟨rfl,rfl⟩]
   exact ih (k+1) d2
 have e1:∀ (m:List Dr) (k:Nat),a.doors.drop k=m→R67_1 a a m k=.inr ():=by
  intro m
  induction m with
  | nil=>intro k _; rfl
  | cons x m ih =>
   intro k hd
   obtain ⟨d1,d2,d3⟩:=drop_lget hd
   rw [R67_1,d1,if_pos (r34_refl _),if_pos (r34_refl _)]
   exact ih (k+1) d2
 have e2:∀ (m:List Wy) (k:Nat),a.ways.drop k=m→R67_2 a a m k=.inr ():=by
  intro m
  induction m with
  | nil=>intro k _; rfl
  | cons x m ih =>
   intro k hd
   obtain ⟨d1,d2,d3⟩:=drop_lget hd
   rw [R67_2,d1,if_pos ⟨rfl,rfl,rfl,rfl,rfl⟩]
   exact ih (k+1) d2
 unfold r67
 rw [if_pos rfl,if_pos rfl,if_pos rfl,e0 a.rooms 0 rfl,e1 a.doors 0 rfl,e2 a.ways 0 rfl]
 rfl
theorem r13_true (h:Hs) (d a b:Int):r13 h d a b=true:=by
 unfold r13
 split
 ·exact decide_eq_true ⟨by rw [shut_eq],by rw [shut_eq]; exact r67_refl _⟩
 ·rfl
end House
end Go.Proofs
end
