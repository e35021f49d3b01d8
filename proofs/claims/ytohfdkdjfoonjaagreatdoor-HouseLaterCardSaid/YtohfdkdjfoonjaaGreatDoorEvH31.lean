import Derived.Test.YtohfdkdjfoonjaaGreatDoorEvM12
set_option linter.unusedSimpArgs false
set_option linter.unusedVariables false
namespace Go.Proofs
namespace House
open Go Go.RowKit Go.Aev
set_option maxRecDepth 100000
theorem TY_EvH31:type_of% TY_EvH30:=TY_EvH30
def R121_0 (h:Hs) (l:List Int)  : List Int→Sum (Bool) (Unit)
 | []=>.inr ()
 | x3 :: l'=>(if (r102 h x3)=true then R121_0 h l l' else .inl false)
def r121 (h:Hs) (l:List Int):Bool:=(onSum (R121_0 h l l) (fun (r4:Bool)=>r4) (fun (_:Unit)=>true))
set_option maxHeartbeats 2000000 in
theorem c121 (h:Hs) (l:List Int) (hl:l.length≤100) (S:AS) (v_h_rooms:Value) (hv_h_rooms:LstR S v_h_rooms h.rooms) (v_h_doors:Value) (hv_h_doors:LstR S v_h_doors h.doors) (v_h_ways:Value) (hv_h_ways:Lst S v_h_ways h.ways) (v_l:Value) (hv_l:Lst S v_l l) :
  ∃ S',(evL Tryz.prog E0).call 121 #[.agg #[v_h_rooms,v_h_doors,v_h_ways],v_l] S=some (.bool (r121 h l),S')∧Agree S S':=by
 generalize hz:(evL Tryz.prog E0).call 121 _ _=z
 rw [L_call,evCall_said rfl Tryz.func121 rfl (by decide) Tryz.ntmps121 Tryz.results121] at hz
 obtain ⟨S1,e1,n1,b1,a1⟩:=push_open S (.cells [v_h_rooms,v_h_doors,v_h_ways] 26 0 true true)
 have g1:Agree S S1:=a1
 have w2:=(hv_l.agree g1).len (P:=Tryz.prog) (t:=54) Tryz.underlying54
 try simp (disch:=first|omega|assumption) only [E0_G,SY,setArgs,off,agreeKind,boxed,Nat.reduceAdd,Nat.reduceSub,Nat.reduceLT,Nat.reduceBEq,e1,w2] at hz
 generalize hL3:Rec.loop _ _ _ _=L3 at hz
 obtain ⟨x3,t3,S3e,rfl,hQ3⟩:=loop_met hL3 (fun m t S'=>∃ (k:Nat),m+k=l.length∧k≤l.length∧t.get 2=some (.pointer (some ⟨S.next,0,none⟩))∧t.get 7=some (v_l)∧t.get 8=some (.int .i64 (l.length:Int))∧t.get 9=some (.int .i64 (k:Int))∧S'.heap.get S.next=some (.cells [v_h_rooms,v_h_doors,v_h_ways] 26 0 true true)∧Agree S S'∧S1.next≤S'.next∧R121_0 h l (l.drop k)=R121_0 h l l)
  (fun x t S'=>(x=.exit 0∧∃ (k:Nat),S'.heap.get S.next=some (.cells [v_h_rooms,v_h_doors,v_h_ways] 26 0 true true)∧Agree S S'∧S1.next≤S'.next∧k≤l.length∧R121_0 h l l=.inr ())∨(x=.ret∧∃ (r4:Bool),t.get 4=some (.bool r4)∧Agree S S'∧R121_0 h l l=.inl (r4))) (l.length - 0) (by refine ⟨0,?_,?_,?_,?_,?_,?_,b1,g1,Nat.le_refl _,rfl⟩<;>first|(simp only [SY,eq_self,Nat.reduceBEq]<;>rfl)|omega|assumption|(simp; omega)|simp) (by
   rintro m t S3 ⟨k,hi3_0,hi3_1,g3_2,g3_7,g3_8,g3_9,bb3_1,ga3,gn3,hd3⟩
   refine .run fun z he=>?_
   try simp (disch:=first|omega|assumption) only [E0_G,SY,off,agreeKind,Nat.reduceLT,Nat.reduceBEq,g3_8,g3_9] at he
   rcases dP ((k:Int)<(l.length:Int)) with ⟨h4a,h4⟩|⟨h4a,h4⟩
   ·skip
    have hx3:l[k]?=some (l[k]'(by first|omega|simp; omega)):=List.getElem?_eq_getElem _
    generalize l[k]'_=x3 at hx3
    obtain ⟨id5,of5,cc5,ty5,wr5,ex5,i5,j5,l5,q5⟩:=(hv_l).at (P:=Tryz.prog) (t:=54) Tryz.underlying54 tz3 hx3
    have jr5:=j5
    have j5:=(ga3.2 id5 l5).trans jr5
    have m5_0:cc5[of5]?=some (.int .i64 x3):=q5 0 (show 0<1 by decide)
    obtain ⟨S6,k6,a6⟩:=c102 h x3  S3 (v_h_rooms) (hv_h_rooms.agree ga3) (v_h_doors) (hv_h_doors.agree ga3) (v_h_ways) (hv_h_ways.agree ga3)
    have l6:=a6.1
    have v1_6:=(a6.2 S.next (by omega)).trans bb3_1
    have g6:Agree S S6:=ga3.trans a6
    try simp (disch:=first|omega|assumption) only [E0_G,SY,off,agreeKind,vals,ldA,rdCells,aggD,Nat.reduceAdd,Nat.reduceLT,Nat.reduceBEq,TY_EvH31,g3_2,g3_7,g3_9,bb3_1,h4a,i5,j5,m5_0,k6] at he
    rcases dB ((r102 h x3)) with ⟨h7a,h7⟩|⟨h7a,h7⟩
    ·skip
     have lq8:=r102_iff.1 h7
     have w9:IntKind.i64.wrap ((k:Int)+1)=((k+1:Nat):Int):=by rw [IntWalk.i64_in]<;>omega
     try simp (disch:=first|omega|assumption) only [E0_G,SY,off,agreeKind,Nat.reduceAdd,Nat.reduceLT,Nat.reduceBEq,g3_9,h7a,w9] at he
     rw [drop_cons' hx3] at hd3
     have hf:=(show _=(R121_0 h l (l.drop (k+1)):Sum (Bool) (Unit)) from (if_pos h7).trans (rfl)).symm.trans hd3
     refine .next he (m - 1) (by omega) ⟨(k+1),?_,?_,?_,?_,?_,?_,v1_6,g6,by omega,hf⟩<;>first|(simp only [SY,eq_self,Nat.reduceBEq,g3_2,g3_7,g3_8,g3_9]<;>rfl)|omega|assumption|(simp; omega)|simp
    ·skip
     try simp (disch:=first|omega|assumption) only [E0_G,SY,off,agreeKind,Nat.reduceLT,h7a] at he
     rw [drop_cons' hx3] at hd3
     have hf:=(show _=(.inl false:Sum (Bool) (Unit)) from (if_neg h7).trans (rfl)).symm.trans hd3
     refine .ret he (.inr ⟨rfl,⟨false,?_,g6,hf.symm⟩⟩)<;>first|(simp only [SY,eq_self,Nat.reduceBEq]<;>rfl)|omega|assumption|(simp; omega)|simp
   ·skip
    try simp (disch:=first|omega|assumption) only [SY,h4a] at he
    rw [List.drop_eq_nil_of_le (show l.length≤k by omega)] at hd3
    have hf:=(show _=(.inr ():Sum (Bool) (Unit)) from rfl).symm.trans hd3
    refine .exit he (.inl ⟨rfl,⟨k,bb3_1,ga3,by omega,?_,hf.symm⟩⟩)<;>first|(simp only [SY,setArgs,off,agreeKind,partVals,vals,allocV,boxed,ldA,rdCells,oneB,aggD,aField,aFieldV,aExtract,eq_self,ne_eq,if_true,if_false,not_false_eq_true,Nat.reduceAdd,Nat.reduceSub,Nat.reduceMul,Nat.reduceLT,Nat.reduceEqDiff,Nat.reduceBEq,reduceIte,Int.reduceEq,Int.reduceLT,Int.reduceLE,reduceCtorEq,g3_2,g3_7,g3_8,g3_9]<;>rfl)|omega|assumption|(simp; omega)|simp)
 rcases hQ3 with ⟨rfl,hQ3⟩|⟨rfl,hQ3⟩
 ·skip
  obtain ⟨k,be3_1,ge3,gm3,hj3_0,hR3⟩:=hQ3
  try simp (disch:=first|omega|assumption) only [E0_G,SY,off,agreeKind,eq_self,if_true,Nat.reduceLT,Nat.reduceBEq] at hz
  have hr:r121 h l=true:=(onSum_inr hR3).trans (rfl)
  exact fin hz (by rw [hr]) ge3
 ·skip
  obtain ⟨r4,ge3_4,ge3,hR3⟩:=hQ3
  try simp (disch:=first|omega|assumption) only [SY,ge3_4] at hz
  have hr:r121 h l=r4:=(onSum_inl hR3).trans (rfl)
  exact fin hz (by rw [hr]) ge3
theorem R121_ok (h:Hs) (l:List Int):∀ (m:List Int),onSum (R121_0 h l m) (fun r=>r) (fun _=>true)=true→∀ x ∈ m,0≤x∧x<(h.rooms.length:Int):=by
 intro m
 induction m with
 | nil=>intro _ x hx; simp at hx
 | cons y m ih =>
  intro e x hx
  rw [R121_0] at e
  split at e
  ·rcases List.mem_cons.1 hx with rfl|hx
   ·exact r102_iff.1 (by assumption)
   ·exact ih e x hx
  ·cases e
theorem r121_ok {h:Hs} {l:List Int} (e:r121 h l=true):∀ x ∈ l,0≤x∧x<(h.rooms.length:Int):=R121_ok h l l e
theorem r106_at {h:Hs} (hV:r59 h=0) {fr ti:Int} (ht:0≤ti∧ti≤1073741823) {i:Nat} {x:Int} (hx:(r106 h fr ti)[i]?=some x):0≤x∧x≤1073741824:=(r109_tm (rooms:=h.rooms.length) (fr:=fr) ht (psg_hg hV)).1.at hx
def R61_0 (h:Hs) (l:List Int) (ti:Int)  : List Int→Nat→Int→Int
 | [],k,tv=>tv
 | x15 :: l',k,tv=>(if (lget (r106 h (lget l k) tv) (Int.toNat x15))=1073741824 then (lget (r106 h (lget l k) tv) (Int.toNat x15)) else R61_0 h l ti l' (k+1) (lget (r106 h (lget l k) tv) (Int.toNat x15)))
def r61 (h:Hs) (l:List Int) (ti:Int):Int × Int:=(if (r84 h (decide (0<(l.length:Int))))=0 then (if 60<(l.length:Int) then (0,2) else (if (r121 h (l:List Int))=true then (if (r88 ti)=true then (R61_0 h l ti (l.drop 1) 0 ti,0) else (0,1)) else (0,1))) else (0,(r84 h (decide (0<(l.length:Int))))))
set_option maxHeartbeats 8000000 in
theorem c61 (h:Hs) (l:List Int) (ti:Int) (hF:Few h) (hs:∀ x ∈ h.rooms,x.name.size≤9223372036854775807) (hl:l.length≤80) (S:AS) (v_h_rooms:Value) (hv_h_rooms:LstR S v_h_rooms h.rooms) (v_h_doors:Value) (hv_h_doors:LstR S v_h_doors h.doors) (v_h_ways:Value) (hv_h_ways:Lst S v_h_ways h.ways) (v_l:Value) (hv_l:Lst S v_l l) :
  ∃ S',(evL Tryz.prog E0).call 61 #[.agg #[v_h_rooms,v_h_doors,v_h_ways],v_l,.int .i64 ti] S=some (.tuple #[.int .i64 (r61 h l ti).1,.int .i64 (r61 h l ti).2],S')∧Agree S S':=by
 have qr:=hF.r; have qd:=hF.d; have qw:=hF.w
 generalize hz:(evL Tryz.prog E0).call 61 _ _=z
 rw [L_call,evCall_said rfl Tryz.func61 rfl (by decide) Tryz.ntmps61 Tryz.results61] at hz
 obtain ⟨S1,e1,n1,b1,a1⟩:=push_open S (.cells [v_h_rooms,v_h_doors,v_h_ways] 26 0 true true)
 have g1:Agree S S1:=a1
 have s1:E0.same S S1=true:=symEnv_same a1
 have w2:=(hv_l.agree g1).len (P:=Tryz.prog) (t:=54) Tryz.underlying54
 obtain ⟨S3,k3,a3⟩:=c84 h (decide (0<(l.length:Int))) hF hs S1 (v_h_rooms) (hv_h_rooms.agree g1) (v_h_doors) (hv_h_doors.agree g1) (v_h_ways) (hv_h_ways.agree g1)
 have l3:=a3.1
 have s3:E0.same S1 S3=true:=symEnv_same a3
 have v1_3:=(a3.2 S.next (by omega)).trans b1
 have g3:Agree S S3:=g1.trans a3
 try simp (disch:=first|omega|assumption) only [E0_G,SY,setArgs,off,agreeKind,vals,boxed,ldA,rdCells,aggD,Nat.reduceAdd,Nat.reduceSub,Nat.reduceLT,Nat.reduceBEq,TY_EvH31,e1,b1,w2,k3] at hz
 rcases dP ((r84 h (decide (0<(l.length:Int))))=0) with ⟨h4a,h4⟩|⟨h4a,h4⟩
 ·skip
  have hV:=(r84_ok h4).1
  have lq5:=of_decide_eq_true (r84_ok h4).2
  have w6:=(hv_l.agree g3).len (P:=Tryz.prog) (t:=54) Tryz.underlying54
  try simp (disch:=first|omega|assumption) only [E0_G,SY,off,agreeKind,Nat.reduceAdd,Nat.reduceLT,Nat.reduceBEq,w2,h4a] at hz
  rcases dP (60<(l.length:Int)) with ⟨h7a,h7⟩|⟨h7a,h7⟩
  ·skip
   try simp (disch:=first|omega|assumption) only [E0_G,SY,off,agreeKind,Nat.reduceAdd,Nat.reduceLT,Nat.reduceBEq,h7a] at hz
   have hr:r61 h l ti=(0,2):=(if_pos h4).trans ((if_pos h7).trans (rfl))
   exact fin hz (by rw [hr]) g3
  ·skip
   obtain ⟨S8,k8,a8⟩:=c121 h (l:List Int) (by omega) S3 (v_h_rooms) (hv_h_rooms.agree g3) (v_h_doors) (hv_h_doors.agree g3) (v_h_ways) (hv_h_ways.agree g3) (v_l) (hv_l.agree g3)
   have l8:=a8.1
   have s8:E0.same S3 S8=true:=symEnv_same a8
   have v1_8:=(a8.2 S.next (by omega)).trans v1_3
   have g8:Agree S S8:=g3.trans a8
   try simp (disch:=first|omega|assumption) only [E0_G,SY,off,agreeKind,vals,ldA,rdCells,aggD,Nat.reduceAdd,Nat.reduceLT,Nat.reduceBEq,TY_EvH31,v1_3,h7a,k8] at hz
   rcases dB ((r121 h (l:List Int))) with ⟨h9a,h9⟩|⟨h9a,h9⟩
   ·skip
    have hAR:=r121_ok h9
    obtain ⟨S10,k10,a10⟩:=c88 ti  S8
    have l10:=a10.1
    have s10:E0.same S8 S10=true:=symEnv_same a10
    have v1_10:=(a10.2 S.next (by omega)).trans v1_8
    have g10:Agree S S10:=g8.trans a10
    try simp (disch:=first|omega|assumption) only [E0_G,SY,off,agreeKind,vals,Nat.reduceAdd,Nat.reduceLT,Nat.reduceBEq,h9a,k10] at hz
    rcases dB ((r88 ti)) with ⟨h11a,h11⟩|⟨h11a,h11⟩
    ·skip
     have lq12:=r88_iff.1 h11
     obtain ⟨p13,k13,r13⟩:=Lst.drop2 hv_l g10 (P:=Tryz.prog) (t:=54) Tryz.underlying54 tz3 (i:=1) (by first|omega|simp; omega) (Lst.good hv_l (by first|omega|simp; omega))
     replace k13:aSlice Tryz.prog 54 v_l (some (.int .i64 1)) none S10=some p13:=k13
     have w14:=(r13.agree g10).len (P:=Tryz.prog) (t:=54) Tryz.underlying54
     try simp (disch:=first|omega|assumption) only [E0_G,SY,off,agreeKind,Nat.reduceAdd,Nat.reduceLT,Nat.reduceBEq,h11a,k13,w14] at hz
     have hdl:(l.drop 1).length=l.length - 1:=List.length_drop
     generalize hL15:Rec.loop _ _ _ _=L15 at hz
     obtain ⟨x15,t15,S15e,rfl,hQ15⟩:=loop_met hL15 (fun m t S'=>∃ (k:Nat) (tv:Int),m+k=(l.drop 1).length∧tv≤1073741823∧0≤tv∧k≤(l.drop 1).length∧t.get 1=some (v_l)∧t.get 2=some (.int .i64 tv)∧t.get 3=some (.pointer (some ⟨S.next,0,none⟩))∧t.get 32=some (p13)∧t.get 33=some (.int .i64 ((l.drop 1).length:Int))∧t.get 34=some (.int .i64 (k:Int))∧S'.heap.get S.next=some (.cells [v_h_rooms,v_h_doors,v_h_ways] 26 0 true true)∧Agree S S'∧S10.next≤S'.next∧R61_0 h l ti ((l.drop 1).drop k) k tv=R61_0 h l ti (l.drop 1) 0 ti)
      (fun x t S'=>x=.exit 0∧∃ (k:Nat) (tv:Int),t.get 2=some (.int .i64 tv)∧S'.heap.get S.next=some (.cells [v_h_rooms,v_h_doors,v_h_ways] 26 0 true true)∧Agree S S'∧S10.next≤S'.next∧0≤tv∧k≤(l.drop 1).length∧R61_0 h l ti (l.drop 1) 0 ti=tv) ((l.drop 1).length - 0) (by refine ⟨0,ti,?_,?_,?_,?_,?_,?_,?_,?_,?_,?_,v1_10,g10,Nat.le_refl _,rfl⟩<;>first|(simp only [SY,eq_self,Nat.reduceBEq]<;>rfl)|omega|assumption|(simp; omega)|simp) (by
       rintro m t S15 ⟨k,tv,hi15_0,hi15_1,hi15_2,hi15_3,g15_1,g15_2,g15_3,g15_32,g15_33,g15_34,bb15_1,ga15,gn15,hd15⟩
       refine .run fun z he=>?_
       try simp (disch:=first|omega|assumption) only [E0_G,SY,off,agreeKind,Nat.reduceLT,Nat.reduceBEq,g15_33,g15_34] at he
       rcases dP ((k:Int)<((l.drop 1).length:Int)) with ⟨h16a,h16⟩|⟨h16a,h16⟩
       ·skip
        have hx15:(l.drop 1)[k]?=some ((l.drop 1)[k]'(by first|omega|simp; omega)):=List.getElem?_eq_getElem _
        generalize (l.drop 1)[k]'_=x15 at hx15
        have eb18:=hAR _ (List.mem_of_mem_drop (List.mem_of_getElem? hx15))
        obtain ⟨id17,of17,cc17,ty17,wr17,ex17,i17,j17,l17,q17⟩:=(r13).at (P:=Tryz.prog) (t:=54) Tryz.underlying54 tz3 hx15
        have jr17:=j17
        have j17:=(ga15.2 id17 l17).trans jr17
        have m17_0:cc17[of17]?=some (.int .i64 x15):=q17 0 (show 0<1 by decide)
        try simp (disch:=first|omega|assumption) only [E0_G,SY,off,agreeKind,ldA,aggD,Nat.reduceAdd,Nat.reduceLT,Nat.reduceBEq,TY_EvH31,g15_32,g15_34,h16a,i17,j17,m17_0] at he
        rw [code_draws _ _ _ (by kernel_rfl)] at he
        generalize hnd19:needy _=nd19 at he
        have hx20:l[k]?=some (lget l k):=lget_some (by first|omega|simp; omega)
        try have eb21:=hAR _ (List.mem_of_getElem? hx20)
        obtain ⟨id20,of20,cc20,ty20,wr20,ex20,i20,j20,l20,q20⟩:=(hv_l).at (P:=Tryz.prog) (t:=54) Tryz.underlying54 tz3 hx20
        have jr20:=j20
        have j20:=(ga15.2 id20 l20).trans jr20
        have m20_0:cc20[of20]?=some (.int .i64 (lget l k)):=q20 0 (show 0<1 by decide)
        obtain ⟨u22,S22,k22,a22,oo22⟩:=c106 h (lget l k) tv hF hV (by omega) (by omega) S15 (v_h_rooms) (hv_h_rooms.agree ga15) (v_h_doors) (hv_h_doors.agree ga15) (v_h_ways) (hv_h_ways.agree ga15)
        have l22:=a22.1
        obtain ⟨pu22,nu22,cu22,rfl⟩:=own_slice oo22
        have s22:E0.same S15 S22=true:=symEnv_same a22
        have v1_22:=(a22.2 S.next (by omega)).trans bb15_1
        have g22:Agree S S22:=ga15.trans a22
        have p22:=r106_len (fr:=(lget l k)) hV (show 0≤tv∧tv≤1073741823 by omega)
        have qz23:((Int.toNat x15:Nat):Int)=x15:=Int.toNat_of_nonneg (by first|omega|simp; omega)
        have hx24:(r106 h (lget l k) tv)[(Int.toNat x15)]?=some (lget (r106 h (lget l k) tv) (Int.toNat x15)):=lget_some (by first|omega|simp; omega)
        have eb25:=r106_at hV (by omega) hx24
        obtain ⟨id24,of24,cc24,ty24,wr24,ex24,i24,j24,l24,q24,lb24,bk24,oq24⟩:=oo22.at4 (P:=Tryz.prog) (t:=54) Tryz.underlying54 tz3 hx24
        have m24_0:cc24[of24]?=some (.int .i64 (lget (r106 h (lget l k) tv) (Int.toNat x15))):=q24 0 (show 0<1 by decide)
        rw [qz23] at i24
        try simp (disch:=first|omega|assumption) only [E0_G,SY,off,agreeKind,vals,ldA,rdCells,aggD,Nat.reduceAdd,Nat.reduceLT,Nat.reduceBEq,TY_EvH31,g15_1,g15_2,g15_3,bb15_1,store_agree,store_refl E0_same,i20,j20,m20_0,k22,i24,j24,m24_0] at he
        rcases dP ((lget (r106 h (lget l k) tv) (Int.toNat x15))=1073741824) with ⟨h26a,h26⟩|⟨h26a,h26⟩
        ·skip
         try simp (disch:=first|omega|assumption) only [SY,if_false,reduceCtorEq,store_refl E0_same,h26a] at he
         rw [drop_cons' hx15] at hd15
         have hf:=(show _=((lget (r106 h (lget l k) tv) (Int.toNat x15)):Int) from (if_pos h26).trans (rfl)).symm.trans hd15
         refine .exit he ⟨rfl,⟨k,(lget (r106 h (lget l k) tv) (Int.toNat x15)),?_,v1_22,g22,by omega,?_,?_,hf.symm⟩⟩<;>first|(simp only [SY,eq_self,Nat.reduceBEq,g15_2]<;>rfl)|omega|assumption|(simp; omega)|simp
        ·skip
         have w27:IntKind.i64.wrap ((k:Int)+1)=((k+1:Nat):Int):=by rw [IntWalk.i64_in]<;>omega
         try simp (disch:=first|omega|assumption) only [E0_G,SY,off,agreeKind,Nat.reduceAdd,Nat.reduceLT,Nat.reduceBEq,g15_34,store_refl E0_same,h26a,w27] at he
         rw [drop_cons' hx15] at hd15
         have hf:=(show _=(R61_0 h l ti ((l.drop 1).drop (k+1)) (k+1) (lget (r106 h (lget l k) tv) (Int.toNat x15)):Int) from (if_neg h26).trans (rfl)).symm.trans hd15
         refine .next he (m - 1) (by omega) ⟨(k+1),(lget (r106 h (lget l k) tv) (Int.toNat x15)),?_,?_,?_,?_,?_,?_,?_,?_,?_,?_,v1_22,g22,by omega,hf⟩<;>first|(simp only [SY,eq_self,Nat.reduceBEq,g15_1,g15_2,g15_3,g15_32,g15_33,g15_34]<;>rfl)|omega|assumption|(simp; omega)|simp
       ·skip
        try simp (disch:=first|omega|assumption) only [SY,h16a] at he
        rw [List.drop_eq_nil_of_le (show (l.drop 1).length≤k by omega)] at hd15
        have hf:=(show _=(tv:Int) from rfl).symm.trans hd15
        refine .exit he ⟨rfl,⟨k,tv,?_,bb15_1,ga15,by omega,?_,?_,hf.symm⟩⟩<;>first|(simp only [SY,eq_self,Nat.reduceBEq,g15_2]<;>rfl)|omega|assumption|(simp; omega)|simp)
     obtain ⟨rfl,k,tv,ge15_2,be15_1,ge15,gm15,hj15_0,hj15_1,hR15⟩:=hQ15
     obtain rfl:tv=R61_0 h l ti (l.drop 1) 0 ti:=hR15.symm
     try simp (disch:=first|omega|assumption) only [E0_G,SY,off,agreeKind,eq_self,if_true,Nat.reduceAdd,Nat.reduceLT,Nat.reduceBEq,ge15_2] at hz
     have hr:r61 h l ti=(R61_0 h l ti (l.drop 1) 0 ti,0):=(if_pos h4).trans ((if_neg h7).trans ((if_pos h9).trans ((if_pos h11).trans (rfl))))
     exact fin hz (by rw [hr]) ge15
    ·skip
     try simp (disch:=first|omega|assumption) only [E0_G,SY,off,agreeKind,Nat.reduceAdd,Nat.reduceLT,Nat.reduceBEq,h11a] at hz
     have hr:r61 h l ti=(0,1):=(if_pos h4).trans ((if_neg h7).trans ((if_pos h9).trans ((if_neg h11).trans (rfl))))
     exact fin hz (by rw [hr]) g10
   ·skip
    try simp (disch:=first|omega|assumption) only [E0_G,SY,off,agreeKind,Nat.reduceAdd,Nat.reduceLT,Nat.reduceBEq,h9a] at hz
    have hr:r61 h l ti=(0,1):=(if_pos h4).trans ((if_neg h7).trans ((if_neg h9).trans (rfl)))
    exact fin hz (by rw [hr]) g8
 ·skip
  try simp (disch:=first|omega|assumption) only [E0_G,SY,off,agreeKind,Nat.reduceAdd,Nat.reduceLT,Nat.reduceBEq,h4a] at hz
  have hr:r61 h l ti=(0,(r84 h (decide (0<(l.length:Int))))):=(if_neg h4).trans (rfl)
  exact fin hz (by rw [hr]) g3
end House
end Go.Proofs
