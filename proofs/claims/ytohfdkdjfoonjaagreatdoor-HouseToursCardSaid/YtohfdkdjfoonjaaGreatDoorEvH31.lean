import Derived.Test.YtohfdkdjfoonjaaGreatDoorEvM12
set_option linter.unusedSimpArgs false
set_option linter.unusedVariables false
namespace Go.Proofs
namespace House
open Go Go.RowKit Go.Aev
set_option maxRecDepth 100000
theorem TY_EvH31:type_of% TY_EvH30:=TY_EvH30
def R121_0 (h:Hs) (l:List Int)  : List Int→Sum (Bool) (Unit)
 | []=>.inr ()
 | x3 :: l'=>(if (r102 h x3)=true then R121_0 h l l' else .inl false)
def r121 (h:Hs) (l:List Int):Bool:=(onSum (R121_0 h l l) (fun (r4:Bool)=>r4) (fun (_:Unit)=>true))
set_option maxHeartbeats 2000000 in
theorem c121 (h:Hs) (l:List Int) (hl:l.length≤100) (S:AS) (v_h_rooms:Value) (hv_h_rooms:LstR S v_h_rooms h.rooms) (v_h_doors:Value) (hv_h_doors:LstR S v_h_doors h.doors) (v_h_ways:Value) (hv_h_ways:Lst S v_h_ways h.ways) (v_l:Value) (hv_l:Lst S v_l l) :
  ∃ S',(evL Tryz.prog E0).call 121 #[.agg #[v_h_rooms,v_h_doors,v_h_ways],v_l] S=some (.bool (r121 h l),S')∧Agree S S':=by
 generalize hz:(evL Tryz.prog E0).call 121 _ _=z
 rw [L_call,evCall_said rfl Tryz.func121 rfl (by decide) Tryz.ntmps121 Tryz.results121] at hz
 obtain ⟨S1,e1,n1,b1,a1⟩:=push_open S (.cells [v_h_rooms,v_h_doors,v_h_ways] 26 0 true true)
 have g1:Agree S S1:=a1
 have w2:=(hv_l.agree g1).len (P:=Tryz.prog) (t:=54) Tryz.underlying54
 try simp (disch:=first|omega|assumption) only [E0_G,SY,setArgs,off,agreeKind,boxed,Nat.reduceAdd,Nat.reduceSub,Nat.reduceLT,Nat.reduceBEq,e1,w2] at hz
 generalize hL3:Rec.loop _ _ _ _=L3 at hz
 obtain ⟨x3,t3,S3e,rfl,hQ3⟩:=loop_met hL3 (fun m t S'=>∃ (k:Nat),m+k=l.length∧k≤l.length∧t.get 2=some (.pointer (some ⟨S.next,0,none⟩))∧t.get 7=some (v_l)∧t.get 8=some (.int .i64 (l.length:Int))∧t.get 9=some (.int .i64 (k:Int))∧S'.heap.get S.next=some (.cells [v_h_rooms,v_h_doors,v_h_ways] 26 0 true true)∧Agree S S'∧S1.next≤S'.next∧R121_0 h l (l.drop k)=R121_0 h l l)
  (fun x t S'=>(x=.exit 0∧∃ (k:Nat),S'.heap.get S.next=some (.cells [v_h_rooms,v_h_doors,v_h_ways] 26 0 true true)∧Agree S S'∧S1.next≤S'.next∧k≤l.length∧R121_0 h l l=.inr ())∨(x=.ret∧∃ (r4:Bool),t.get 4=some (.bool r4)∧Agree S S'∧R121_0 h l l=.inl (r4))) (l.length - 0) (by refine ⟨0,?_,?_,?_,?_,?_,?_,b1,g1,Nat.le_refl _,rfl⟩<;>first|(simp only [SY,eq_self,Nat.reduceBEq]<;>rfl)|omega|assumption|(simp; omega)|simp) (by
   rintro m t S3 ⟨k,hi3_0,hi3_1,g3_2,g3_7,g3_8,g3_9,bb3_1,ga3,gn3,hd3⟩
   refine .run fun z he=>?_
   try simp (disch:=first|omega|assumption) only [E0_G,SY,off,agreeKind,Nat.reduceLT,Nat.reduceBEq,g3_8,g3_9] at he
   rcases dP ((k:Int)<(l.length:Int)) with ⟨h4a,h4⟩|⟨h4a,h4⟩
   ·skip
    have hx3:l[k]?=some (l[k]'(by first|omega|simp; omega)):=List.getElem?_eq_getElem _
    generalize l[k]'_=x3 at hx3
    obtain ⟨id5,of5,cc5,ty5,wr5,ex5,i5,j5,l5,q5⟩:=(hv_l).at (P:=Tryz.prog) (t:=54) Tryz.underlying54 tz3 hx3
    have jr5:=j5
    have j5:=(ga3.2 id5 l5).trans jr5
    have m5_0:cc5[of5]?=some (.int .i64 x3):=q5 0 (show 0<1 by decide)
    obtain ⟨S6,k6,a6⟩:=c102 h x3  S3 (v_h_rooms) (hv_h_rooms.agree ga3) (v_h_doors) (hv_h_doors.agree ga3) (v_h_ways) (hv_h_ways.agree ga3)
    have l6:=a6.1
    have v1_6:=(a6.2 S.next (by omega)).trans bb3_1
    have g6:Agree S S6:=ga3.trans a6
    try simp (disch:=first|omega|assumption) only [E0_G,SY,off,agreeKind,vals,ldA,rdCells,aggD,Nat.reduceAdd,Nat.reduceLT,Nat.reduceBEq,TY_EvH31,g3_2,g3_7,g3_9,bb3_1,h4a,i5,j5,m5_0,k6] at he
    rcases dB ((r102 h x3)) with ⟨h7a,h7⟩|⟨h7a,h7⟩
    ·skip
     have lq8:=r102_iff.1 h7
     have w9:IntKind.i64.wrap ((k:Int)+1)=((k+1:Nat):Int):=by rw [IntWalk.i64_in]<;>omega
     try simp (disch:=first|omega|assumption) only [E0_G,SY,off,agreeKind,Nat.reduceAdd,Nat.reduceLT,Nat.reduceBEq,g3_9,h7a,w9] at he
     rw [drop_cons' hx3] at hd3
     have hf:=(show _=(R121_0 h l (l.drop (k+1)):Sum (Bool) (Unit)) from (if_pos h7).trans (rfl)).symm.trans hd3
     refine .next he (m - 1) (by omega) ⟨(k+1),?_,?_,?_,?_,?_,?_,v1_6,g6,by omega,hf⟩<;>first|(simp only [SY,eq_self,Nat.reduceBEq,g3_2,g3_7,g3_8,g3_9]<;>rfl)|omega|assumption|(simp; omega)|simp
    ·skip
     try simp (disch:=first|omega|assumption) only [E0_G,SY,off,agreeKind,Nat.reduceLT,h7a] at he
     rw [drop_cons' hx3] at hd3
     have hf:=(show _=(.inl false:Sum (Bool) (Unit)) from (if_neg h7).trans (rfl)).symm.trans hd3
     refine .ret he (.inr ⟨rfl,⟨false,?_,g6,hf.symm⟩⟩)<;>first|(simp only [SY,eq_self,Nat.reduceBEq]<;>rfl)|omega|assumption|(simp; omega)|simp
   ·skip
    try simp (disch:=first|omega|assumption) only [SY,h4a] at he
    rw [List.drop_eq_nil_of_le (show l.length≤k by omega)] at hd3
    have hf:=(show _=(.inr ():Sum (Bool) (Unit)) from rfl).symm.trans hd3
    refine .exit he (.inl ⟨rfl,⟨k,bb3_1,ga3,by omega,?_,hf.symm⟩⟩)<;>first|(simp only [SY,setArgs,off,agreeKind,partVals,vals,allocV,boxed,ldA,rdCells,oneB,aggD,aField,aFieldV,aExtract,eq_self,ne_eq,if_true,if_false,not_false_eq_true,Nat.reduceAdd,Nat.reduceSub,Nat.reduceMul,Nat.reduceLT,Nat.reduceEqDiff,Nat.reduceBEq,reduceIte,Int.reduceEq,Int.reduceLT,Int.reduceLE,reduceCtorEq,g3_2,g3_7,g3_8,g3_9]<;>rfl)|omega|assumption|(simp; omega)|simp)
 rcases hQ3 with ⟨rfl,hQ3⟩|⟨rfl,hQ3⟩
 ·skip
  obtain ⟨k,be3_1,ge3,gm3,hj3_0,hR3⟩:=hQ3
  try simp (disch:=first|omega|assumption) only [E0_G,SY,off,agreeKind,eq_self,if_true,Nat.reduceLT,Nat.reduceBEq] at hz
  have hr:r121 h l=true:=(onSum_inr hR3).trans (rfl)
  exact fin hz (by rw [hr]) ge3
 ·skip
  obtain ⟨r4,ge3_4,ge3,hR3⟩:=hQ3
  try simp (disch:=first|omega|assumption) only [SY,ge3_4] at hz
  have hr:r121 h l=r4:=(onSum_inl hR3).trans (rfl)
  exact fin hz (by rw [hr]) ge3
theorem R121_ok (h:Hs) (l:List Int):∀ (m:List Int),onSum (R121_0 h l m) (fun r=>r) (fun _=>true)=true→∀ x ∈ m,0≤x∧x<(h.rooms.length:Int):=by
 intro m
 induction m with
 | nil=>intro _ x hx; simp at hx
 | cons y m ih =>
  intro e x hx
  rw [R121_0] at e
  split at e
  ·rcases List.mem_cons.1 hx with rfl|hx
   ·exact r102_iff.1 (by assumption)
   ·exact ih e x hx
  ·cases e
theorem r121_ok {h:Hs} {l:List Int} (e:r121 h l=true):∀ x ∈ l,0≤x∧x<(h.rooms.length:Int):=R121_ok h l l e
theorem r121_eq {h:Hs} {l:List Int} (e:∀ x ∈ l,0≤x∧x<(h.rooms.length:Int)):r121 h l=true:=by
 have:∀ (m:List Int),(∀ x ∈ m,0≤x∧x<(h.rooms.length:Int))→onSum (R121_0 h l m) (fun r=>r) (fun _=>true)=true:=by
  intro m
  induction m with
  | nil=>intro _; rfl
  | cons y m ih=>intro hm; rw [R121_0,if_pos (r102_iff.2 (hm y (by simp)))]; exact ih (fun x hx=>hm x (by simp [hx]))
 exact this l e
theorem r106_at {h:Hs} (hV:r59 h=0) {fr ti:Int} (ht:0≤ti∧ti≤1073741823) {i:Nat} {x:Int} (hx:(r106 h fr ti)[i]?=some x):0≤x∧x≤1073741824:=(r109_tm (rooms:=h.rooms.length) (fr:=fr) ht (psg_hg hV)).1.at hx
theorem r50_at {h:Hs} (hV:r59 h=0) {fr ti:Int} (ht:0≤ti∧ti≤1073741823) {i:Nat} {x:Int} (hx:(r50 h fr ti)[i]?=some x):0≤x∧x≤1073741824:=by rw [← arrivals_eq hV ht] at hx; exact r106_at hV ht hx
def R61_0 (h:Hs) (l:List Int) (ti:Int)  : List Int→Nat→Int→Int
 | [],k,tv=>tv
 | x15 :: l',k,tv=>(if (lget (r106 h (lget l k) tv) (Int.toNat x15))=1073741824 then (lget (r106 h (lget l k) tv) (Int.toNat x15)) else R61_0 h l ti l' (k+1) (lget (r106 h (lget l k) tv) (Int.toNat x15)))
def r61 (h:Hs) (l:List Int) (ti:Int):Int × Int:=(if (r84 h (decide (0<(l.length:Int))))=0 then (if 60<(l.length:Int) then (0,2) else (if (r121 h (l:List Int))=true then (if (r88 ti)=true then (R61_0 h l ti (l.drop 1) 0 ti,0) else (0,1)) else (0,1))) else (0,(r84 h (decide (0<(l.length:Int))))))
set_option maxHeartbeats 8000000 in
theorem c61 (h:Hs) (l:List Int) (ti:Int) (hF:Few h) (hs:∀ x ∈ h.rooms,x.name.size≤9223372036854775807) (hl:l.length≤80) (S:AS) (v_h_rooms:Value) (hv_h_rooms:LstR S v_h_rooms h.rooms) (v_h_doors:Value) (hv_h_doors:LstR S v_h_doors h.doors) (v_h_ways:Value) (hv_h_ways:Lst S v_h_ways h.ways) (v_l:Value) (hv_l:Lst S v_l l) :
  ∃ S',(evL Tryz.prog E0).call 61 #[.agg #[v_h_rooms,v_h_doors,v_h_ways],v_l,.int .i64 ti] S=some (.tuple #[.int .i64 (r61 h l ti).1,.int .i64 (r61 h l ti).2],S')∧Agree S S':=by
 have qr:=hF.r; have qd:=hF.d; have qw:=hF.w
 generalize hz:(evL Tryz.prog E0).call 61 _ _=z
 rw [L_call,evCall_said rfl Tryz.func61 rfl (by decide) Tryz.ntmps61 Tryz.results61] at hz
 obtain ⟨S1,e1,n1,b1,a1⟩:=push_open S (.cells [v_h_rooms,v_h_doors,v_h_ways] 26 0 true true)
 have g1:Agree S S1:=a1
 have s1:E0.same S S1=true:=symEnv_same a1
 have w2:=(hv_l.agree g1).len (P:=Tryz.prog) (t:=54) Tryz.underlying54
 obtain ⟨S3,k3,a3⟩:=c84 h (decide (0<(l.length:Int))) hF hs S1 (v_h_rooms) (hv_h_rooms.agree g1) (v_h_doors) (hv_h_doors.agree g1) (v_h_ways) (hv_h_ways.agree g1)
 have l3:=a3.1
 have s3:E0.same S1 S3=true:=symEnv_same a3
 have v1_3:=(a3.2 S.next (by omega)).trans b1
 have g3:Agree S S3:=g1.trans a3
 try simp (disch:=first|omega|assumption) only [E0_G,SY,setArgs,off,agreeKind,vals,boxed,ldA,rdCells,aggD,Nat.reduceAdd,Nat.reduceSub,Nat.reduceLT,Nat.reduceBEq,TY_EvH31,e1,b1,w2,k3] at hz
 rcases dP ((r84 h (decide (0<(l.length:Int))))=0) with ⟨h4a,h4⟩|⟨h4a,h4⟩
 ·skip
  have hV:=(r84_ok h4).1
  have lq5:=of_decide_eq_true (r84_ok h4).2
  have w6:=(hv_l.agree g3).len (P:=Tryz.prog) (t:=54) Tryz.underlying54
  try simp (disch:=first|omega|assumption) only [E0_G,SY,off,agreeKind,Nat.reduceAdd,Nat.reduceLT,Nat.reduceBEq,w2,h4a] at hz
  rcases dP (60<(l.length:Int)) with ⟨h7a,h7⟩|⟨h7a,h7⟩
  ·skip
   try simp (disch:=first|omega|assumption) only [E0_G,SY,off,agreeKind,Nat.reduceAdd,Nat.reduceLT,Nat.reduceBEq,h7a] at hz
   have hr:r61 h l ti=(0,2):=(if_pos h4).trans ((if_pos h7).trans (rfl))
   exact fin hz (by rw [hr]) g3
  ·skip
   obtain ⟨S8,k8,a8⟩:=c121 h (l:List Int) (by omega) S3 (v_h_rooms) (hv_h_rooms.agree g3) (v_h_doors) (hv_h_doors.agree g3) (v_h_ways) (hv_h_ways.agree g3) (v_l) (hv_l.agree g3)
   have l8:=a8.1
   have s8:E0.same S3 S8=true:=symEnv_same a8
   have v1_8:=(a8.2 S.next (by omega)).trans v1_3
   have g8:Agree S S8:=g3.trans a8
   try simp (disch:=first|omega|assumption) only [E0_G,SY,off,agreeKind,vals,ldA,rdCells,aggD,Nat.reduceAdd,Nat.reduceLT,Nat.reduceBEq,TY_EvH31,v1_3,h7a,k8] at hz
   rcases dB ((r121 h (l:List Int))) with ⟨h9a,h9⟩|⟨h9a,h9⟩
   ·skip
    have hAR:=r121_ok h9
    obtain ⟨S10,k10,a10⟩:=c88 ti  S8
    have l10:=a10.1
    have s10:E0.same S8 S10=true:=symEnv_same a10
    have v1_10:=(a10.2 S.next (by omega)).trans v1_8
    have g10:Agree S S10:=g8.trans a10
    try simp (disch:=first|omega|assumption) only [E0_G,SY,off,agreeKind,vals,Nat.reduceAdd,Nat.reduceLT,Nat.reduceBEq,h9a,k10] at hz
    rcases dB ((r88 ti)) with ⟨h11a,h11⟩|⟨h11a,h11⟩
    ·skip
     have lq12:=r88_iff.1 h11
     obtain ⟨p13,k13,r13⟩:=Lst.drop2 hv_l g10 (P:=Tryz.prog) (t:=54) Tryz.underlying54 tz3 (i:=1) (by first|omega|simp; omega) (Lst.good hv_l (by first|omega|simp; omega))
     replace k13:aSlice Tryz.prog 54 v_l (some (.int .i64 1)) none S10=some p13:=k13
     have w14:=(r13.agree g10).len (P:=Tryz.prog) (t:=54) Tryz.underlying54
     try simp (disch:=first|omega|assumption) only [E0_G,SY,off,agreeKind,Nat.reduceAdd,Nat.reduceLT,Nat.reduceBEq,h11a,k13,w14] at hz
     have hdl:(l.drop 1).length=l.length - 1:=List.length_drop
     generalize hL15:Rec.loop _ _ _ _=L15 at hz
     obtain ⟨x15,t15,S15e,rfl,hQ15⟩:=loop_met hL15 (fun m t S'=>∃ (k:Nat) (tv:Int),m+k=(l.drop 1).length∧tv≤1073741823∧0≤tv∧k≤(l.drop 1).length∧t.get 1=some (v_l)∧t.get 2=some (.int .i64 tv)∧t.get 3=some (.pointer (some ⟨S.next,0,none⟩))∧t.get 32=some (p13)∧t.get 33=some (.int .i64 ((l.drop 1).length:Int))∧t.get 34=some (.int .i64 (k:Int))∧S'.heap.get S.next=some (.cells [v_h_rooms,v_h_doors,v_h_ways] 26 0 true true)∧Agree S S'∧S10.next≤S'.next∧R61_0 h l ti ((l.drop 1).drop k) k tv=R61_0 h l ti (l.drop 1) 0 ti)
      (fun x t S'=>x=.exit 0∧∃ (k:Nat) (tv:Int),t.get 2=some (.int .i64 tv)∧S'.heap.get S.next=some (.cells [v_h_rooms,v_h_doors,v_h_ways] 26 0 true true)∧Agree S S'∧S10.next≤S'.next∧0≤tv∧k≤(l.drop 1).length∧R61_0 h l ti (l.drop 1) 0 ti=tv) ((l.drop 1).length - 0) (by refine ⟨0,ti,?_,?_,?_,?_,?_,?_,?_,?_,?_,?_,v1_10,g10,Nat.le_refl _,rfl⟩<;>first|(simp only [SY,eq_self,Nat.reduceBEq]<;>rfl)|omega|assumption|(simp; omega)|simp) (by
       rintro m t S15 ⟨k,tv,hi15_0,hi15_1,hi15_2,hi15_3,g15_1,g15_2,g15_3,g15_32,g15_33,g15_34,bb15_1,ga15,gn15,hd15⟩
       refine .run fun z he=>?_
       try simp (disch:=first|omega|assumption) only [E0_G,SY,off,agreeKind,Nat.reduceLT,Nat.reduceBEq,g15_33,g15_34] at he
       rcases dP ((k:Int)<((l.drop 1).length:Int)) with ⟨h16a,h16⟩|⟨h16a,h16⟩
       ·skip
        have hx15:(l.drop 1)[k]?=some ((l.drop 1)[k]'(by first|omega|simp; omega)):=List.getElem?_eq_getElem _
        generalize (l.drop 1)[k]'_=x15 at hx15
        have eb18:=hAR _ (List.mem_of_mem_drop (List.mem_of_getElem? hx15))
        obtain ⟨id17,of17,cc17,ty17,wr17,ex17,i17,j17,l17,q17⟩:=(r13).at (P:=Tryz.prog) (t:=54) Tryz.underlying54 tz3 hx15
        have jr17:=j17
        have j17:=(ga15.2 id17 l17).trans jr17
        have m17_0:cc17[of17]?=some (.int .i64 x15):=q17 0 (show 0<1 by decide)
        try simp (disch:=first|omega|assumption) only [E0_G,SY,off,agreeKind,ldA,aggD,Nat.reduceAdd,Nat.reduceLT,Nat.reduceBEq,TY_EvH31,g15_32,g15_34,h16a,i17,j17,m17_0] at he
        rw [code_draws _ _ _ (by kernel_rfl)] at he
        generalize hnd19:needy _=nd19 at he
        have hx20:l[k]?=some (lget l k):=lget_some (by first|omega|simp; omega)
        try have eb21:=hAR _ (List.mem_of_getElem? hx20)
        obtain ⟨id20,of20,cc20,ty20,wr20,ex20,i20,j20,l20,q20⟩:=(hv_l).at (P:=Tryz.prog) (t:=54) Tryz.underlying54 tz3 hx20
        have jr20:=j20
        have j20:=(ga15.2 id20 l20).trans jr20
        have m20_0:cc20[of20]?=some (.int .i64 (lget l k)):=q20 0 (show 0<1 by decide)
        obtain ⟨u22,S22,k22,a22,oo22⟩:=c106 h (lget l k) tv hF hV (by omega) (by omega) S15 (v_h_rooms) (hv_h_rooms.agree ga15) (v_h_doors) (hv_h_doors.agree ga15) (v_h_ways) (hv_h_ways.agree ga15)
        have l22:=a22.1
        obtain ⟨pu22,nu22,cu22,rfl⟩:=own_slice oo22
        have s22:E0.same S15 S22=true:=symEnv_same a22
        have v1_22:=(a22.2 S.next (by omega)).trans bb15_1
        have g22:Agree S S22:=ga15.trans a22
        have p22:=r106_len (fr:=(lget l k)) hV (show 0≤tv∧tv≤1073741823 by omega)
        have qz23:((Int.toNat x15:Nat):Int)=x15:=Int.toNat_of_nonneg (by first|omega|simp; omega)
        have hx24:(r106 h (lget l k) tv)[(Int.toNat x15)]?=some (lget (r106 h (lget l k) tv) (Int.toNat x15)):=lget_some (by first|omega|simp; omega)
        have eb25:=r106_at hV (by omega) hx24
        obtain ⟨id24,of24,cc24,ty24,wr24,ex24,i24,j24,l24,q24,lb24,bk24,oq24⟩:=oo22.at4 (P:=Tryz.prog) (t:=54) Tryz.underlying54 tz3 hx24
        have m24_0:cc24[of24]?=some (.int .i64 (lget (r106 h (lget l k) tv) (Int.toNat x15))):=q24 0 (show 0<1 by decide)
        rw [qz23] at i24
        try simp (disch:=first|omega|assumption) only [E0_G,SY,off,agreeKind,vals,ldA,rdCells,aggD,Nat.reduceAdd,Nat.reduceLT,Nat.reduceBEq,TY_EvH31,g15_1,g15_2,g15_3,bb15_1,store_agree,store_refl E0_same,i20,j20,m20_0,k22,i24,j24,m24_0] at he
        rcases dP ((lget (r106 h (lget l k) tv) (Int.toNat x15))=1073741824) with ⟨h26a,h26⟩|⟨h26a,h26⟩
        ·skip
         try simp (disch:=first|omega|assumption) only [SY,if_false,reduceCtorEq,store_refl E0_same,h26a] at he
         rw [drop_cons' hx15] at hd15
         have hf:=(show _=((lget (r106 h (lget l k) tv) (Int.toNat x15)):Int) from (if_pos h26).trans (rfl)).symm.trans hd15
         refine .exit he ⟨rfl,⟨k,(lget (r106 h (lget l k) tv) (Int.toNat x15)),?_,v1_22,g22,by omega,?_,?_,hf.symm⟩⟩<;>first|(simp only [SY,eq_self,Nat.reduceBEq,g15_2]<;>rfl)|omega|assumption|(simp; omega)|simp
        ·skip
         have w27:IntKind.i64.wrap ((k:Int)+1)=((k+1:Nat):Int):=by rw [IntWalk.i64_in]<;>omega
         try simp (disch:=first|omega|assumption) only [E0_G,SY,off,agreeKind,Nat.reduceAdd,Nat.reduceLT,Nat.reduceBEq,g15_34,store_refl E0_same,h26a,w27] at he
         rw [drop_cons' hx15] at hd15
         have hf:=(show _=(R61_0 h l ti ((l.drop 1).drop (k+1)) (k+1) (lget (r106 h (lget l k) tv) (Int.toNat x15)):Int) from (if_neg h26).trans (rfl)).symm.trans hd15
         refine .next he (m - 1) (by omega) ⟨(k+1),(lget (r106 h (lget l k) tv) (Int.toNat x15)),?_,?_,?_,?_,?_,?_,?_,?_,?_,?_,v1_22,g22,by omega,hf⟩<;>first|(simp only [SY,eq_self,Nat.reduceBEq,g15_1,g15_2,g15_3,g15_32,g15_33,g15_34]<;>rfl)|omega|assumption|(simp; omega)|simp
       ·skip
        try simp (disch:=first|omega|assumption) only [SY,h16a] at he
        rw [List.drop_eq_nil_of_le (show (l.drop 1).length≤k by omega)] at hd15
        have hf:=(show _=(tv:Int) from rfl).symm.trans hd15
        refine .exit he ⟨rfl,⟨k,tv,?_,bb15_1,ga15,by omega,?_,?_,hf.symm⟩⟩<;>first|(simp only [SY,eq_self,Nat.reduceBEq,g15_2]<;>rfl)|omega|assumption|(simp; omega)|simp)
     obtain ⟨rfl,k,tv,ge15_2,be15_1,ge15,gm15,hj15_0,hj15_1,hR15⟩:=hQ15
     obtain rfl:tv=R61_0 h l ti (l.drop 1) 0 ti:=hR15.symm
     try simp (disch:=first|omega|assumption) only [E0_G,SY,off,agreeKind,eq_self,if_true,Nat.reduceAdd,Nat.reduceLT,Nat.reduceBEq,ge15_2] at hz
     have hr:r61 h l ti=(R61_0 h l ti (l.drop 1) 0 ti,0):=(if_pos h4).trans ((if_neg h7).trans ((if_pos h9).trans ((if_pos h11).trans (rfl))))
     exact fin hz (by rw [hr]) ge15
    ·skip
     try simp (disch:=first|omega|assumption) only [E0_G,SY,off,agreeKind,Nat.reduceAdd,Nat.reduceLT,Nat.reduceBEq,h11a] at hz
     have hr:r61 h l ti=(0,1):=(if_pos h4).trans ((if_neg h7).trans ((if_pos h9).trans ((if_neg h11).trans (rfl))))
     exact fin hz (by rw [hr]) g10
   ·skip
    try simp (disch:=first|omega|assumption) only [E0_G,SY,off,agreeKind,Nat.reduceAdd,Nat.reduceLT,Nat.reduceBEq,h9a] at hz
    have hr:r61 h l ti=(0,1):=(if_pos h4).trans ((if_neg h7).trans ((if_neg h9).trans (rfl)))
    exact fin hz (by rw [hr]) g8
 ·skip
  try simp (disch:=first|omega|assumption) only [E0_G,SY,off,agreeKind,Nat.reduceAdd,Nat.reduceLT,Nat.reduceBEq,h4a] at hz
  have hr:r61 h l ti=(0,(r84 h (decide (0<(l.length:Int))))):=(if_neg h4).trans (rfl)
  exact fin hz (by rw [hr]) g3
def R63_0 (h:Hs) (fr:Int) (ti:Int) (l:List Int)  : List Int→Int→Int→Int × Int
 | [],fi,at_=>(fi,at_)
 | x14 :: l',fi,at_=>(if (lget (r106 h fr ti) (Int.toNat x14))<at_ then R63_0 h fr ti l l' x14 (lget (r106 h fr ti) (Int.toNat x14)) else (if (lget (r106 h fr ti) (Int.toNat x14))=at_ then (if x14<fi then R63_0 h fr ti l l' x14 (lget (r106 h fr ti) (Int.toNat x14)) else R63_0 h fr ti l l' fi at_) else R63_0 h fr ti l l' fi at_))
def r63 (h:Hs) (fr:Int) (ti:Int) (l:List Int):Int × Int × Int:=(if (r102 h fr)=true then (if (r88 ti)=true then (if (r84 h (r121 h (l:List Int)))=0 then (if ((R63_0 h fr ti l l 0 1073741824).2)=1073741824 then (0,0,5) else ((R63_0 h fr ti l l 0 1073741824).1,(R63_0 h fr ti l l 0 1073741824).2,0)) else (0,0,(r84 h (r121 h (l:List Int))))) else (0,0,(r84 h false))) else (0,0,(r84 h false)))
set_option maxHeartbeats 8000000 in
theorem c63 (h:Hs) (fr:Int) (ti:Int) (l:List Int) (hF:Few h) (hs:∀ x ∈ h.rooms,x.name.size≤9223372036854775807) (hl:l.length≤80) (S:AS) (v_h_rooms:Value) (hv_h_rooms:LstR S v_h_rooms h.rooms) (v_h_doors:Value) (hv_h_doors:LstR S v_h_doors h.doors) (v_h_ways:Value) (hv_h_ways:Lst S v_h_ways h.ways) (v_l:Value) (hv_l:Lst S v_l l) :
  ∃ S',(evL Tryz.prog E0).call 63 #[.agg #[v_h_rooms,v_h_doors,v_h_ways],.int .i64 fr,.int .i64 ti,v_l] S=some (.tuple #[.int .i64 (r63 h fr ti l).1,.int .i64 (r63 h fr ti l).2.1,.int .i64 (r63 h fr ti l).2.2],S')∧Agree S S':=by
 have qr:=hF.r; have qd:=hF.d; have qw:=hF.w
 generalize hz:(evL Tryz.prog E0).call 63 _ _=z
 rw [L_call,evCall_said rfl Tryz.func63 rfl (by decide) Tryz.ntmps63 Tryz.results63] at hz
 obtain ⟨S1,e1,n1,b1,a1⟩:=push_open S (.cells [v_h_rooms,v_h_doors,v_h_ways] 26 0 true true)
 have g1:Agree S S1:=a1
 have s1:E0.same S S1=true:=symEnv_same a1
 try simp (disch:=first|omega|assumption) only [E0_G,SY,setArgs,off,agreeKind,boxed,Nat.reduceAdd,Nat.reduceSub,Nat.reduceLT,Nat.reduceBEq,e1] at hz
 rw [code_draws _ _ _ (by kernel_rfl)] at hz
 generalize hnd2:needy _=nd2 at hz
 obtain ⟨S3,k3,a3⟩:=c102 h fr  S1 (v_h_rooms) (hv_h_rooms.agree g1) (v_h_doors) (hv_h_doors.agree g1) (v_h_ways) (hv_h_ways.agree g1)
 have l3:=a3.1
 have s3:E0.same S1 S3=true:=symEnv_same a3
 have v1_3:=(a3.2 S.next (by omega)).trans b1
 have g3:Agree S S3:=g1.trans a3
 try simp (disch:=first|omega|assumption) only [E0_G,SY,agreeKind,vals,ldA,rdCells,aggD,Nat.reduceAdd,Nat.reduceLT,Nat.reduceBEq,TY_EvH31,b1,store_agree,store_refl E0_same,k3] at hz
 rcases dB ((r102 h fr)) with ⟨h4a,h4⟩|⟨h4a,h4⟩
 ·skip
  have lq5:=r102_iff.1 h4
  obtain ⟨S6,k6,a6⟩:=c88 ti  S3
  have l6:=a6.1
  have s6:E0.same S3 S6=true:=symEnv_same a6
  have v1_6:=(a6.2 S.next (by omega)).trans v1_3
  have g6:Agree S S6:=g3.trans a6
  try simp (disch:=first|omega|assumption) only [E0_G,SY,agreeKind,vals,Nat.reduceAdd,Nat.reduceLT,Nat.reduceBEq,store_agree,store_refl E0_same,h4a,k6] at hz
  rcases dB ((r88 ti)) with ⟨h7a,h7⟩|⟨h7a,h7⟩
  ·skip
   have lq8:=r88_iff.1 h7
   obtain ⟨S9,k9,a9⟩:=c121 h (l:List Int) (by omega) S6 (v_h_rooms) (hv_h_rooms.agree g6) (v_h_doors) (hv_h_doors.agree g6) (v_h_ways) (hv_h_ways.agree g6) (v_l) (hv_l.agree g6)
   have l9:=a9.1
   have s9:E0.same S6 S9=true:=symEnv_same a9
   have v1_9:=(a9.2 S.next (by omega)).trans v1_6
   have g9:Agree S S9:=g6.trans a9
   obtain ⟨S10,k10,a10⟩:=c84 h (r121 h (l:List Int)) hF hs S9 (v_h_rooms) (hv_h_rooms.agree g9) (v_h_doors) (hv_h_doors.agree g9) (v_h_ways) (hv_h_ways.agree g9)
   have l10:=a10.1
   have s10:E0.same S9 S10=true:=symEnv_same a10
   have v1_10:=(a10.2 S.next (by omega)).trans v1_9
   have g10:Agree S S10:=g9.trans a10
   try simp (disch:=first|omega|assumption) only [E0_G,SY,off,agreeKind,vals,ldA,rdCells,aggD,Nat.reduceAdd,Nat.reduceLT,Nat.reduceBEq,TY_EvH31,store_agree,store_refl E0_same,v1_6,h7a,k9,k10] at hz
   rcases dP ((r84 h (r121 h (l:List Int)))=0) with ⟨h11a,h11⟩|⟨h11a,h11⟩
   ·skip
    have hV:=(r84_ok h11).1
    have hAR:=r121_ok (r84_ok h11).2
    obtain ⟨u12,S12,k12,a12,oo12⟩:=c106 h fr ti hF hV (by omega) (by omega) S10 (v_h_rooms) (hv_h_rooms.agree g10) (v_h_doors) (hv_h_doors.agree g10) (v_h_ways) (hv_h_ways.agree g10)
    have l12:=a12.1
    obtain ⟨pu12,nu12,cu12,rfl⟩:=own_slice oo12
    have s12:E0.same S10 S12=true:=symEnv_same a12
    have g12:Agree S S12:=g10.trans a12
    have p12:=r106_len (fr:=fr) hV (show 0≤ti∧ti≤1073741823 by omega)
    have w13:=(hv_l.agree g12).len (P:=Tryz.prog) (t:=54) Tryz.underlying54
    try simp (disch:=first|omega|assumption) only [E0_G,SY,off,agreeKind,vals,ldA,rdCells,aggD,Nat.reduceAdd,Nat.reduceLT,Nat.reduceBEq,TY_EvH31,store_agree,store_refl E0_same,v1_10,h11a,k12,w13] at hz
    generalize hL14:Rec.loop _ _ _ _=L14 at hz
    obtain ⟨x14,t14,S14e,rfl,hQ14⟩:=loop_met hL14 (fun m t S'=>∃ (k:Nat) (fi:Int) (at_:Int),m+k=l.length∧k≤l.length∧t.get 12=some (.slice pu12 nu12 cu12)∧t.get 13=some (.int .i64 fi)∧t.get 14=some (.int .i64 at_)∧t.get 38=some (v_l)∧t.get 39=some (.int .i64 (l.length:Int))∧t.get 40=some (.int .i64 (k:Int))∧Agree S S'∧S12.next≤S'.next∧Own 3 S10.next S' (.slice pu12 nu12 cu12) (r106 h fr ti)∧R63_0 h fr ti l (l.drop k) fi at_=R63_0 h fr ti l l 0 1073741824)
     (fun x t S'=>x=.exit 0∧∃ (k:Nat) (fi:Int) (at_:Int),t.get 13=some (.int .i64 fi)∧t.get 14=some (.int .i64 at_)∧Agree S S'∧S12.next≤S'.next∧Own 3 S10.next S' (.slice pu12 nu12 cu12) (r106 h fr ti)∧k≤l.length∧R63_0 h fr ti l l 0 1073741824=(fi,at_)) (l.length - 0) (by refine ⟨0,0,1073741824,?_,?_,?_,?_,?_,?_,?_,?_,g12,Nat.le_refl _,oo12,rfl⟩<;>first|(simp only [SY,eq_self,Nat.reduceBEq]<;>rfl)|omega|assumption|(simp; omega)|simp) (by
      rintro m t S14 ⟨k,fi,at_,hi14_0,hi14_1,g14_12,g14_13,g14_14,g14_38,g14_39,g14_40,ga14,gn14,cw14_0,hd14⟩
      refine .run fun z he=>?_
      try simp (disch:=first|omega|assumption) only [E0_G,SY,off,agreeKind,Nat.reduceLT,Nat.reduceBEq,g14_39,g14_40] at he
      rcases dP ((k:Int)<(l.length:Int)) with ⟨h15a,h15⟩|⟨h15a,h15⟩
      ·skip
       have hx14:l[k]?=some (l[k]'(by first|omega|simp; omega)):=List.getElem?_eq_getElem _
       generalize l[k]'_=x14 at hx14
       try have eb17:=hAR _ (List.mem_of_getElem? hx14)
       obtain ⟨id16,of16,cc16,ty16,wr16,ex16,i16,j16,l16,q16⟩:=(hv_l).at (P:=Tryz.prog) (t:=54) Tryz.underlying54 tz3 hx14
       have jr16:=j16
       have j16:=(ga14.2 id16 l16).trans jr16
       have m16_0:cc16[of16]?=some (.int .i64 x14):=q16 0 (show 0<1 by decide)
       have qz18:((Int.toNat x14:Nat):Int)=x14:=Int.toNat_of_nonneg (by first|omega|simp; omega)
       have hx19:(r106 h fr ti)[(Int.toNat x14)]?=some (lget (r106 h fr ti) (Int.toNat x14)):=lget_some (by first|omega|simp; omega)
       have eb20:=r106_at hV (by omega) hx19
       obtain ⟨id19,of19,cc19,ty19,wr19,ex19,i19,j19,l19,q19,lb19,bk19,oq19⟩:=cw14_0.at4 (P:=Tryz.prog) (t:=54) Tryz.underlying54 tz3 hx19
       have m19_0:cc19[of19]?=some (.int .i64 (lget (r106 h fr ti) (Int.toNat x14))):=q19 0 (show 0<1 by decide)
       rw [qz18] at i19
       try simp (disch:=first|omega|assumption) only [E0_G,SY,off,agreeKind,ldA,aggD,Nat.reduceAdd,Nat.reduceLT,Nat.reduceBEq,TY_EvH31,g14_12,g14_14,g14_38,g14_40,h15a,i16,j16,m16_0,i19,j19,m19_0] at he
       rcases dP ((lget (r106 h fr ti) (Int.toNat x14))<at_) with ⟨h21a,h21⟩|⟨h21a,h21⟩
       ·skip
        try simp (disch:=first|omega|assumption) only [E0_G,SY,off,agreeKind,Nat.reduceAdd,Nat.reduceLT,Nat.reduceBEq,h21a] at he
        rw [code_draws _ _ _ (by kernel_rfl)] at he
        generalize hnd22:needy _=nd22 at he
        have qz23:((Int.toNat x14:Nat):Int)=x14:=Int.toNat_of_nonneg (by first|omega|simp; omega)
        have eb25:=r106_at hV (by omega) hx19
        obtain ⟨id24,of24,cc24,ty24,wr24,ex24,i24,j24,l24,q24,lb24,bk24,oq24⟩:=cw14_0.at4 (P:=Tryz.prog) (t:=54) Tryz.underlying54 tz3 hx19
        obtain rfl:id19=id24:=Option.some.inj (bk19.symm.trans bk24)
        obtain rfl:of19=of24:=oq19.trans oq24.symm
        have m24_0:cc24[of19]?=some (.int .i64 (lget (r106 h fr ti) (Int.toNat x14))):=q24 0 (show 0<1 by decide)
        rw [qz23] at i24
        have w26:IntKind.i64.wrap ((k:Int)+1)=((k+1:Nat):Int):=by rw [IntWalk.i64_in]<;>omega
        try simp (disch:=first|omega|assumption) only [E0_G,SY,off,agreeKind,ldA,aggD,Nat.reduceAdd,Nat.reduceLT,Nat.reduceBEq,TY_EvH31,g14_12,g14_40,i19,j19,m19_0,store_refl E0_same,w26] at he
        rw [drop_cons' hx14] at hd14
        have hf:=(show _=(R63_0 h fr ti l (l.drop (k+1)) x14 (lget (r106 h fr ti) (Int.toNat x14)):Int × Int) from (if_pos h21).trans (rfl)).symm.trans hd14
        refine .next he (m - 1) (by omega) ⟨(k+1),x14,(lget (r106 h fr ti) (Int.toNat x14)),?_,?_,?_,?_,?_,?_,?_,?_,ga14,by omega,cw14_0,hf⟩<;>first|(simp only [SY,eq_self,Nat.reduceBEq,g14_12,g14_13,g14_14,g14_38,g14_39,g14_40]<;>rfl)|omega|assumption|(simp; omega)|simp
       ·skip
        have qz27:((Int.toNat x14:Nat):Int)=x14:=Int.toNat_of_nonneg (by first|omega|simp; omega)
        have eb29:=r106_at hV (by omega) hx19
        obtain ⟨id28,of28,cc28,ty28,wr28,ex28,i28,j28,l28,q28,lb28,bk28,oq28⟩:=cw14_0.at4 (P:=Tryz.prog) (t:=54) Tryz.underlying54 tz3 hx19
        obtain rfl:id19=id28:=Option.some.inj (bk19.symm.trans bk28)
        obtain rfl:of19=of28:=oq19.trans oq28.symm
        have m28_0:cc28[of19]?=some (.int .i64 (lget (r106 h fr ti) (Int.toNat x14))):=q28 0 (show 0<1 by decide)
        rw [qz27] at i28
        try simp (disch:=first|omega|assumption) only [E0_G,SY,off,agreeKind,ldA,aggD,Nat.reduceAdd,Nat.reduceLT,Nat.reduceBEq,TY_EvH31,g14_12,g14_14,i19,j19,m19_0,h21a] at he
        rcases dP ((lget (r106 h fr ti) (Int.toNat x14))=at_) with ⟨h30a,h30⟩|⟨h30a,h30⟩
        ·skip
         try simp (disch:=first|omega|assumption) only [E0_G,SY,off,agreeKind,Nat.reduceAdd,Nat.reduceLT,Nat.reduceBEq,g14_13,h30a] at he
         rcases dP (x14<fi) with ⟨h31a,h31⟩|⟨h31a,h31⟩
         ·skip
          try simp (disch:=first|omega|assumption) only [SY,h31a] at he
          rw [code_draws _ _ _ (by kernel_rfl)] at he
          generalize hnd32:needy _=nd32 at he
          have qz33:((Int.toNat x14:Nat):Int)=x14:=Int.toNat_of_nonneg (by first|omega|simp; omega)
          have eb35:=r106_at hV (by omega) hx19
          obtain ⟨id34,of34,cc34,ty34,wr34,ex34,i34,j34,l34,q34,lb34,bk34,oq34⟩:=cw14_0.at4 (P:=Tryz.prog) (t:=54) Tryz.underlying54 tz3 hx19
          obtain rfl:id19=id34:=Option.some.inj (bk19.symm.trans bk34)
          obtain rfl:of19=of34:=oq19.trans oq34.symm
          have m34_0:cc34[of19]?=some (.int .i64 (lget (r106 h fr ti) (Int.toNat x14))):=q34 0 (show 0<1 by decide)
          rw [qz33] at i34
          have w36:IntKind.i64.wrap ((k:Int)+1)=((k+1:Nat):Int):=by rw [IntWalk.i64_in]<;>omega
          try simp (disch:=first|omega|assumption) only [E0_G,SY,off,agreeKind,ldA,aggD,Nat.reduceAdd,Nat.reduceLT,Nat.reduceBEq,TY_EvH31,g14_12,g14_40,i19,j19,m19_0,store_refl E0_same,w36] at he
          rw [drop_cons' hx14] at hd14
          have hf:=(show _=(R63_0 h fr ti l (l.drop (k+1)) x14 (lget (r106 h fr ti) (Int.toNat x14)):Int × Int) from (if_neg h21).trans ((if_pos h30).trans ((if_pos h31).trans (rfl)))).symm.trans hd14
          refine .next he (m - 1) (by omega) ⟨(k+1),x14,(lget (r106 h fr ti) (Int.toNat x14)),?_,?_,?_,?_,?_,?_,?_,?_,ga14,by omega,cw14_0,hf⟩<;>first|(simp only [SY,eq_self,Nat.reduceBEq,g14_12,g14_13,g14_14,g14_38,g14_39,g14_40]<;>rfl)|omega|assumption|(simp; omega)|simp
         ·skip
          have w37:IntKind.i64.wrap ((k:Int)+1)=((k+1:Nat):Int):=by rw [IntWalk.i64_in]<;>omega
          try simp (disch:=first|omega|assumption) only [E0_G,SY,off,agreeKind,Nat.reduceAdd,Nat.reduceLT,Nat.reduceBEq,g14_40,h31a,w37] at he
          rw [drop_cons' hx14] at hd14
          have hf:=(show _=(R63_0 h fr ti l (l.drop (k+1)) fi at_:Int × Int) from (if_neg h21).trans ((if_pos h30).trans ((if_neg h31).trans (rfl)))).symm.trans hd14
          refine .next he (m - 1) (by omega) ⟨(k+1),fi,at_,?_,?_,?_,?_,?_,?_,?_,?_,ga14,by omega,cw14_0,hf⟩<;>first|(simp only [SY,eq_self,Nat.reduceBEq,g14_12,g14_13,g14_14,g14_38,g14_39,g14_40]<;>rfl)|omega|assumption|(simp; omega)|simp
        ·skip
         have w38:IntKind.i64.wrap ((k:Int)+1)=((k+1:Nat):Int):=by rw [IntWalk.i64_in]<;>omega
         try simp (disch:=first|omega|assumption) only [E0_G,SY,off,agreeKind,Nat.reduceAdd,Nat.reduceLT,Nat.reduceBEq,g14_40,h30a,w38] at he
         rw [drop_cons' hx14] at hd14
         have hf:=(show _=(R63_0 h fr ti l (l.drop (k+1)) fi at_:Int × Int) from (if_neg h21).trans ((if_neg h30).trans (rfl))).symm.trans hd14
         refine .next he (m - 1) (by omega) ⟨(k+1),fi,at_,?_,?_,?_,?_,?_,?_,?_,?_,ga14,by omega,cw14_0,hf⟩<;>first|(simp only [SY,eq_self,Nat.reduceBEq,g14_12,g14_13,g14_14,g14_38,g14_39,g14_40]<;>rfl)|omega|assumption|(simp; omega)|simp
      ·skip
       try simp (disch:=first|omega|assumption) only [SY,h15a] at he
       rw [List.drop_eq_nil_of_le (show l.length≤k by omega)] at hd14
       have hf:=(show _=((fi,at_):Int × Int) from rfl).symm.trans hd14
       refine .exit he ⟨rfl,⟨k,fi,at_,?_,?_,ga14,by omega,cw14_0,?_,hf.symm⟩⟩<;>first|(simp only [SY,eq_self,Nat.reduceBEq,g14_13,g14_14]<;>rfl)|omega|assumption|(simp; omega)|simp)
    obtain ⟨rfl,k,fi,at_,ge14_13,ge14_14,ge14,gm14,ce14_0,hj14_0,hR14⟩:=hQ14
    obtain rfl:fi=(R63_0 h fr ti l l 0 1073741824).1:=by rw [hR14]
    obtain rfl:at_=(R63_0 h fr ti l l 0 1073741824).2:=by rw [hR14]
    try simp (disch:=first|omega|assumption) only [E0_G,SY,off,agreeKind,eq_self,if_true,Nat.reduceAdd,Nat.reduceLT,Nat.reduceBEq,ge14_14] at hz
    rcases dP (((R63_0 h fr ti l l 0 1073741824).2)=1073741824) with ⟨h40a,h40⟩|⟨h40a,h40⟩
    ·skip
     try simp (disch:=first|omega|assumption) only [E0_G,SY,off,agreeKind,Nat.reduceAdd,Nat.reduceLT,Nat.reduceBEq,h40a] at hz
     have hr:r63 h fr ti l=(0,0,5):=(if_pos h4).trans ((if_pos h7).trans ((if_pos h11).trans ((if_pos h40).trans (rfl))))
     exact fin hz (by rw [hr]) ge14
    ·skip
     try simp (disch:=first|omega|assumption) only [E0_G,SY,off,agreeKind,Nat.reduceAdd,Nat.reduceLT,Nat.reduceBEq,ge14_13,ge14_14,h40a] at hz
     have hr:r63 h fr ti l=((R63_0 h fr ti l l 0 1073741824).1,(R63_0 h fr ti l l 0 1073741824).2,0):=(if_pos h4).trans ((if_pos h7).trans ((if_pos h11).trans ((if_neg h40).trans (rfl))))
     exact fin hz (by rw [hr]) ge14
   ·skip
    try simp (disch:=first|omega|assumption) only [E0_G,SY,off,agreeKind,Nat.reduceAdd,Nat.reduceLT,Nat.reduceBEq,store_refl E0_same,h11a] at hz
    have hr:r63 h fr ti l=(0,0,(r84 h (r121 h (l:List Int)))):=(if_pos h4).trans ((if_pos h7).trans ((if_neg h11).trans (rfl)))
    exact fin hz (by rw [hr]) g10
  ·skip
   obtain ⟨S41,k41,a41⟩:=c84 h false hF hs S6 (v_h_rooms) (hv_h_rooms.agree g6) (v_h_doors) (hv_h_doors.agree g6) (v_h_ways) (hv_h_ways.agree g6)
   have l41:=a41.1
   have s41:E0.same S6 S41=true:=symEnv_same a41
   have g41:Agree S S41:=g6.trans a41
   try simp (disch:=first|omega|assumption) only [E0_G,SY,off,agreeKind,vals,Nat.reduceAdd,Nat.reduceLT,Nat.reduceBEq,store_agree,store_refl E0_same,h7a,k41] at hz
   have h42:¬ ((r84 h false)=0):=r84_false
   have h42a:=decide_eq_false h42
   try simp (disch:=first|omega|assumption) only [E0_G,SY,off,agreeKind,Nat.reduceAdd,Nat.reduceLT,Nat.reduceBEq,store_refl E0_same,h42a] at hz
   have hr:r63 h fr ti l=(0,0,(r84 h false)):=(if_pos h4).trans ((if_neg h7).trans (rfl))
   exact fin hz (by rw [hr]) g41
 ·skip
  obtain ⟨S43,k43,a43⟩:=c84 h false hF hs S3 (v_h_rooms) (hv_h_rooms.agree g3) (v_h_doors) (hv_h_doors.agree g3) (v_h_ways) (hv_h_ways.agree g3)
  have l43:=a43.1
  have s43:E0.same S3 S43=true:=symEnv_same a43
  have g43:Agree S S43:=g3.trans a43
  try simp (disch:=first|omega|assumption) only [E0_G,SY,off,agreeKind,vals,Nat.reduceAdd,Nat.reduceLT,Nat.reduceBEq,store_agree,store_refl E0_same,h4a,k43] at hz
  have h44:¬ ((r84 h false)=0):=r84_false
  have h44a:=decide_eq_false h44
  try simp (disch:=first|omega|assumption) only [E0_G,SY,off,agreeKind,Nat.reduceAdd,Nat.reduceLT,Nat.reduceBEq,store_refl E0_same,h44a] at hz
  have hr:r63 h fr ti l=(0,0,(r84 h false)):=(if_neg h4).trans (rfl)
  exact fin hz (by rw [hr]) g43
def R62_0 (h:Hs) (l:List Int) (ti:Int)  : List Int→Sum (Int × Int) (Unit)
 | []=>.inr ()
 | x8 :: l'=>(if (r104 h x8 ti)=0 then R62_0 h l ti l' else .inl (0,(r104 h x8 ti)))
def R62_1 (h:Hs) (l:List Int) (ti:Int)  : Nat→Nat→Int→Int
 | 0,k2,tv=>tv
 | m'+1,k2,tv=>(if (k2:Int)<(l.length:Int) then (if tv<1073741824 then R62_1 h l ti m' (k2+1) (lget (r50 h (lget l (Int.toNat ((k2:Int) - 1))) tv) (Int.toNat (lget l k2))) else tv) else tv)
def r62 (h:Hs) (l:List Int) (ti:Int):Int × Int:=(if (r59 h)=0 then (if (l.length:Int)=0 then (0,1) else (if 60<(l.length:Int) then (0,2) else (onSum (R62_0 h l ti l) (fun (r6,r7)=>(r6,r7)) (fun _=>(R62_1 h l ti (l.length+1) 1 ti,0))))) else (0,(r59 h)))
set_option maxHeartbeats 8000000 in
theorem c62 (h:Hs) (l:List Int) (ti:Int) (hF:Few h) (hl:l.length≤80) (S:AS) (v_h_rooms:Value) (hv_h_rooms:LstR S v_h_rooms h.rooms) (v_h_doors:Value) (hv_h_doors:LstR S v_h_doors h.doors) (v_h_ways:Value) (hv_h_ways:Lst S v_h_ways h.ways) (v_l:Value) (hv_l:Lst S v_l l) :
  ∃ S',(evL Tryz.prog E0).call 62 #[.agg #[v_h_rooms,v_h_doors,v_h_ways],v_l,.int .i64 ti] S=some (.tuple #[.int .i64 (r62 h l ti).1,.int .i64 (r62 h l ti).2],S')∧Agree S S':=by
 have qr:=hF.r; have qd:=hF.d; have qw:=hF.w
 have q0:∀ (m:List Int),R62_0 h l ti m=.inr ()→∀ x ∈ m,r104 h x ti=0:=by
  intro m
  induction m with
  | nil=>intro _ x hx; simp at hx
  | cons y m ih =>
   intro e x hx
   rw [R62_0] at e
   split at e
   ·rcases List.mem_cons.1 hx with rfl|hx
    ·assumption
    ·exact ih e x hx
   ·cases e
 generalize hz:(evL Tryz.prog E0).call 62 _ _=z
 rw [L_call,evCall_said rfl Tryz.func62 rfl (by decide) Tryz.ntmps62 Tryz.results62] at hz
 obtain ⟨S1,e1,n1,b1,a1⟩:=push_open S (.cells [v_h_rooms,v_h_doors,v_h_ways] 26 0 true true)
 have g1:Agree S S1:=a1
 have s1:E0.same S S1=true:=symEnv_same a1
 obtain ⟨S2,k2,a2⟩:=c59 h hF S1 (v_h_rooms) (hv_h_rooms.agree g1) (v_h_doors) (hv_h_doors.agree g1) (v_h_ways) (hv_h_ways.agree g1)
 have l2:=a2.1
 have s2:E0.same S1 S2=true:=symEnv_same a2
 have v1_2:=(a2.2 S.next (by omega)).trans b1
 have g2:Agree S S2:=g1.trans a2
 try simp (disch:=first|omega|assumption) only [E0_G,SY,setArgs,off,agreeKind,vals,boxed,ldA,rdCells,aggD,Nat.reduceAdd,Nat.reduceSub,Nat.reduceLT,Nat.reduceBEq,TY_EvH31,e1,b1,k2] at hz
 rcases dP ((r59 h)=0) with ⟨h3a,h3⟩|⟨h3a,h3⟩
 ·skip
  have hV:=h3
  have w4:=(hv_l.agree g2).len (P:=Tryz.prog) (t:=54) Tryz.underlying54
  try simp (disch:=first|omega|assumption) only [E0_G,SY,off,agreeKind,Nat.reduceAdd,Nat.reduceLT,Nat.reduceBEq,h3a,w4] at hz
  rcases dP ((l.length:Int)=0) with ⟨h5a,h5⟩|⟨h5a,h5⟩
  ·skip
   try simp (disch:=first|omega|assumption) only [E0_G,SY,off,agreeKind,Nat.reduceAdd,Nat.reduceLT,Nat.reduceBEq,h5a] at hz
   have hr:r62 h l ti=(0,1):=(if_pos h3).trans ((if_pos h5).trans (rfl))
   exact fin hz (by rw [hr]) g2
  ·skip
   have w6:=(hv_l.agree g2).len (P:=Tryz.prog) (t:=54) Tryz.underlying54
   try simp (disch:=first|omega|assumption) only [E0_G,SY,off,agreeKind,Nat.reduceAdd,Nat.reduceLT,Nat.reduceBEq,w4,h5a] at hz
   rcases dP (60<(l.length:Int)) with ⟨h7a,h7⟩|⟨h7a,h7⟩
   ·skip
    try simp (disch:=first|omega|assumption) only [E0_G,SY,off,agreeKind,Nat.reduceAdd,Nat.reduceLT,Nat.reduceBEq,h7a] at hz
    have hr:r62 h l ti=(0,2):=(if_pos h3).trans ((if_neg h5).trans ((if_pos h7).trans (rfl)))
    exact fin hz (by rw [hr]) g2
   ·skip
    try simp (disch:=first|omega|assumption) only [E0_G,SY,off,agreeKind,Nat.reduceLT,h7a] at hz
    generalize hL8:Rec.loop _ _ _ _=L8 at hz
    obtain ⟨x8,t8,S8e,rfl,hQ8⟩:=loop_met hL8 (fun m t S'=>∃ (k:Nat),m+k=l.length∧k≤l.length∧t.get 1=some (v_l)∧t.get 2=some (.int .i64 ti)∧t.get 3=some (.pointer (some ⟨S.next,0,none⟩))∧t.get 9=some (.int .i64 (k:Int))∧S'.heap.get S.next=some (.cells [v_h_rooms,v_h_doors,v_h_ways] 26 0 true true)∧Agree S S'∧S2.next≤S'.next∧R62_0 h l ti (l.drop k)=R62_0 h l ti l)
     (fun x t S'=>(x=.exit 0∧∃ (k:Nat),t.get 1=some (v_l)∧t.get 2=some (.int .i64 ti)∧t.get 3=some (.pointer (some ⟨S.next,0,none⟩))∧S'.heap.get S.next=some (.cells [v_h_rooms,v_h_doors,v_h_ways] 26 0 true true)∧Agree S S'∧S2.next≤S'.next∧k≤l.length∧R62_0 h l ti l=.inr ())∨(x=.ret∧∃ (r6:Int) (r7:Int),t.get 6=some (.int .i64 r6)∧t.get 7=some (.int .i64 r7)∧Agree S S'∧R62_0 h l ti l=.inl (r6,r7))) (l.length - 0) (by refine ⟨0,?_,?_,?_,?_,?_,?_,v1_2,g2,Nat.le_refl _,rfl⟩<;>first|(simp only [SY,eq_self,Nat.reduceBEq]<;>rfl)|omega|assumption|(simp; omega)|simp) (by
      rintro m t S8 ⟨k,hi8_0,hi8_1,g8_1,g8_2,g8_3,g8_9,bb8_1,ga8,gn8,hd8⟩
      refine .run fun z he=>?_
      have w9:=(hv_l.agree ga8).len (P:=Tryz.prog) (t:=54) Tryz.underlying54
      try simp (disch:=first|omega|assumption) only [E0_G,SY,off,agreeKind,Nat.reduceAdd,Nat.reduceLT,Nat.reduceBEq,g8_1,g8_9,w4] at he
      rcases dP ((k:Int)<(l.length:Int)) with ⟨h10a,h10⟩|⟨h10a,h10⟩
      ·skip
       try simp (disch:=first|omega|assumption) only [SY,h10a] at he
       rw [code_draws _ _ _ (by kernel_rfl)] at he
       generalize hnd11:needy _=nd11 at he
       have hx8:l[k]?=some (l[k]'(by first|omega|simp; omega)):=List.getElem?_eq_getElem _
       generalize l[k]'_=x8 at hx8
       try have eb13:=hAR _ (List.mem_of_getElem? hx8)
       obtain ⟨id12,of12,cc12,ty12,wr12,ex12,i12,j12,l12,q12⟩:=(hv_l).at (P:=Tryz.prog) (t:=54) Tryz.underlying54 tz3 hx8
       have jr12:=j12
       have j12:=(ga8.2 id12 l12).trans jr12
       have m12_0:cc12[of12]?=some (.int .i64 x8):=q12 0 (show 0<1 by decide)
       obtain ⟨S14,k14,a14⟩:=c104 h x8 ti hF S8 (v_h_rooms) (hv_h_rooms.agree ga8) (v_h_doors) (hv_h_doors.agree ga8) (v_h_ways) (hv_h_ways.agree ga8)
       have l14:=a14.1
       have s14:E0.same S8 S14=true:=symEnv_same a14
       have v1_14:=(a14.2 S.next (by omega)).trans bb8_1
       have g14:Agree S S14:=ga8.trans a14
       try simp (disch:=first|omega|assumption) only [E0_G,SY,off,agreeKind,vals,ldA,rdCells,aggD,Nat.reduceAdd,Nat.reduceLT,Nat.reduceBEq,TY_EvH31,g8_1,g8_2,g8_3,g8_9,bb8_1,store_agree,store_refl E0_same,i12,j12,m12_0,k14] at he
       rcases dP ((r104 h x8 ti)=0) with ⟨h15a,h15⟩|⟨h15a,h15⟩
       ·skip
        have hV:=(r104_ok h15).1
        have lq16:=(r104_ok h15).2
        have w17:IntKind.i64.wrap ((k:Int)+1)=((k+1:Nat):Int):=by rw [IntWalk.i64_in]<;>omega
        try simp (disch:=first|omega|assumption) only [E0_G,SY,off,agreeKind,Nat.reduceAdd,Nat.reduceLT,Nat.reduceBEq,g8_9,store_refl E0_same,h15a,w17] at he
        rw [drop_cons' hx8] at hd8
        have hf:=(show _=(R62_0 h l ti (l.drop (k+1)):Sum (Int × Int) (Unit)) from (if_pos h15).trans (rfl)).symm.trans hd8
        refine .next he (m - 1) (by omega) ⟨(k+1),?_,?_,?_,?_,?_,?_,v1_14,g14,by omega,hf⟩<;>first|(simp only [SY,eq_self,Nat.reduceBEq,g8_1,g8_2,g8_3,g8_9]<;>rfl)|omega|assumption|(simp; omega)|simp
       ·skip
        try simp (disch:=first|omega|assumption) only [E0_G,SY,off,agreeKind,Nat.reduceAdd,Nat.reduceLT,Nat.reduceBEq,store_refl E0_same,h15a] at he
        rw [drop_cons' hx8] at hd8
        have hf:=(show _=(.inl (0,(r104 h x8 ti)):Sum (Int × Int) (Unit)) from (if_neg h15).trans (rfl)).symm.trans hd8
        refine .ret he (.inr ⟨rfl,⟨0,(r104 h x8 ti),?_,?_,g14,hf.symm⟩⟩)<;>first|(simp only [SY,eq_self,Nat.reduceBEq]<;>rfl)|omega|assumption|(simp; omega)|simp
      ·skip
       try simp (disch:=first|omega|assumption) only [SY,h10a] at he
       rw [List.drop_eq_nil_of_le (show l.length≤k by omega)] at hd8
       have hf:=(show _=(.inr ():Sum (Int × Int) (Unit)) from rfl).symm.trans hd8
       refine .exit he (.inl ⟨rfl,⟨k,?_,?_,?_,bb8_1,ga8,by omega,?_,hf.symm⟩⟩)<;>first|(simp only [SY,eq_self,Nat.reduceBEq,g8_1,g8_2,g8_3]<;>rfl)|omega|assumption|(simp; omega)|simp)
    rcases hQ8 with ⟨rfl,hQ8⟩|⟨rfl,hQ8⟩
    ·skip
     obtain ⟨k,ge8_1,ge8_2,ge8_3,be8_1,ge8,gm8,hj8_0,hR8⟩:=hQ8
     try simp (disch:=first|omega|assumption) only [E0_G,SY,off,agreeKind,eq_self,if_true,Nat.reduceLT] at hz
     have hq0:=q0 _ (by assumption)
     have hAR:∀ x ∈ l,0≤x∧x<(h.rooms.length:Int):=fun x hx=>⟨(r104_ok (hq0 x hx)).2.1,(r104_ok (hq0 x hx)).2.2.1⟩
     have hTI:=(r104_ok (hq0 _ (lget_mem' (l:=l) (i:=0) (by omega)))).2.2.2
     generalize hL19:Rec.loop _ _ _ _=L19 at hz
     obtain ⟨x19,t19,S19e,rfl,hQ19⟩:=loop_met hL19 (fun m t S'=>∃ (k2:Nat) (tv:Int),m+k2=l.length+2∧1≤k2∧k2≤l.length∧0≤tv∧tv≤1073741824∧t.get 1=some (v_l)∧t.get 2=some (.int .i64 tv)∧t.get 3=some (.pointer (some ⟨S.next,0,none⟩))∧t.get 10=some (.int .i64 (k2:Int))∧S'.heap.get S.next=some (.cells [v_h_rooms,v_h_doors,v_h_ways] 26 0 true true)∧Agree S S'∧S8e.next≤S'.next∧R62_1 h l ti m k2 tv=R62_1 h l ti (l.length+1) 1 ti)
      (fun x t S'=>x=.exit 2∧∃ (k2:Nat) (tv:Int),t.get 2=some (.int .i64 tv)∧S'.heap.get S.next=some (.cells [v_h_rooms,v_h_doors,v_h_ways] 26 0 true true)∧Agree S S'∧S8e.next≤S'.next∧1≤k2∧k2≤l.length∧0≤tv∧tv≤1073741824∧R62_1 h l ti (l.length+1) 1 ti=tv) (l.length+1) (by refine ⟨1,ti,?_,?_,?_,?_,?_,?_,?_,?_,?_,be8_1,ge8,Nat.le_refl _,rfl⟩<;>first|(simp only [SY,eq_self,Nat.reduceBEq,ge8_1,ge8_2,ge8_3]<;>rfl)|omega|assumption|(simp; omega)|simp) (by
       rintro m t S19 ⟨k2,tv,hi19_0,hi19_1,hi19_2,hi19_3,hi19_4,g19_1,g19_2,g19_3,g19_10,bb19_1,ga19,gn19,hd19⟩
       refine .run fun z he=>?_
       have w20:=(hv_l.agree ga19).len (P:=Tryz.prog) (t:=54) Tryz.underlying54
       try simp (disch:=first|omega|assumption) only [E0_G,SY,off,agreeKind,Nat.reduceAdd,Nat.reduceLT,Nat.reduceBEq,g19_1,g19_10,w4] at he
       rcases dP ((k2:Int)<(l.length:Int)) with ⟨h21a,h21⟩|⟨h21a,h21⟩
       ·skip
        try simp (disch:=first|omega|assumption) only [E0_G,SY,off,agreeKind,Nat.reduceAdd,Nat.reduceLT,Nat.reduceBEq,g19_2,h21a] at he
        rcases dP (tv<1073741824) with ⟨h22a,h22⟩|⟨h22a,h22⟩
        ·skip
         try simp (disch:=first|omega|assumption) only [SY,h22a] at he
         rw [code_draws _ _ _ (by kernel_rfl)] at he
         generalize hnd23:needy _=nd23 at he
         have w24:IntKind.i64.wrap ((k2:Int) - 1)=(k2:Int) - 1:=by rw [IntWalk.i64_in]; omega
         have qz25:((Int.toNat ((k2:Int) - 1):Nat):Int)=(k2:Int) - 1:=Int.toNat_of_nonneg (by first|omega|simp; omega)
         have hx26:l[(Int.toNat ((k2:Int) - 1))]?=some (lget l (Int.toNat ((k2:Int) - 1))):=lget_some (by first|omega|simp; omega)
         try have eb27:=hAR _ (List.mem_of_getElem? hx26)
         obtain ⟨id26,of26,cc26,ty26,wr26,ex26,i26,j26,l26,q26⟩:=(hv_l).at (P:=Tryz.prog) (t:=54) Tryz.underlying54 tz3 hx26
         have jr26:=j26
         have j26:=(ga19.2 id26 l26).trans jr26
         have m26_0:cc26[of26]?=some (.int .i64 (lget l (Int.toNat ((k2:Int) - 1)))):=q26 0 (show 0<1 by decide)
         rw [qz25] at i26
         obtain ⟨u28,S28,k28,a28,oo28⟩:=c50 h (lget l (Int.toNat ((k2:Int) - 1))) tv hF hV (by omega) (by omega) S19 (v_h_rooms) (hv_h_rooms.agree ga19) (v_h_doors) (hv_h_doors.agree ga19) (v_h_ways) (hv_h_ways.agree ga19)
         have l28:=a28.1
         obtain ⟨pu28,nu28,cu28,rfl⟩:=own_slice oo28
         have s28:E0.same S19 S28=true:=symEnv_same a28
         have v1_28:=(a28.2 S.next (by omega)).trans bb19_1
         have g28:Agree S S28:=ga19.trans a28
         have p28:=r50_len h (lget l (Int.toNat ((k2:Int) - 1))) tv
         have hx29:l[k2]?=some (lget l k2):=lget_some (by first|omega|simp; omega)
         try have eb30:=hAR _ (List.mem_of_getElem? hx29)
         obtain ⟨id29,of29,cc29,ty29,wr29,ex29,i29,j29,l29,q29⟩:=(hv_l).at (P:=Tryz.prog) (t:=54) Tryz.underlying54 tz3 hx29
         have jr29:=j29
         have j29:=(g28.2 id29 l29).trans jr29
         have m29_0:cc29[of29]?=some (.int .i64 (lget l k2)):=q29 0 (show 0<1 by decide)
         have qz31:((Int.toNat (lget l k2):Nat):Int)=(lget l k2):=Int.toNat_of_nonneg (by first|omega|simp; omega)
         have hx32:(r50 h (lget l (Int.toNat ((k2:Int) - 1))) tv)[(Int.toNat (lget l k2))]?=some (lget (r50 h (lget l (Int.toNat ((k2:Int) - 1))) tv) (Int.toNat (lget l k2))):=lget_some (by first|omega|simp; omega)
         have eb33:=r50_at hV (by omega) hx32
         obtain ⟨id32,of32,cc32,ty32,wr32,ex32,i32,j32,l32,q32,lb32,bk32,oq32⟩:=oo28.at4 (P:=Tryz.prog) (t:=54) Tryz.underlying54 tz3 hx32
         have m32_0:cc32[of32]?=some (.int .i64 (lget (r50 h (lget l (Int.toNat ((k2:Int) - 1))) tv) (Int.toNat (lget l k2)))):=q32 0 (show 0<1 by decide)
         rw [qz31] at i32
         have w34:IntKind.i64.wrap ((k2:Int)+1)=((k2+1:Nat):Int):=by rw [IntWalk.i64_in]<;>omega
         try simp (disch:=first|omega|assumption) only [E0_G,SY,off,agreeKind,vals,ldA,rdCells,aggD,Nat.reduceAdd,Nat.reduceLT,Nat.reduceBEq,TY_EvH31,g19_1,g19_2,g19_3,g19_10,bb19_1,store_agree,store_refl E0_same,w24,i26,j26,m26_0,k28,i29,j29,m29_0,i32,j32,m32_0,w34] at he
         obtain ⟨m',rfl⟩:∃ m',m=m'+1:=⟨m - 1,by omega⟩
         have hf:=(show _=(R62_1 h l ti m' (k2+1) (lget (r50 h (lget l (Int.toNat ((k2:Int) - 1))) tv) (Int.toNat (lget l k2))):Int) from (if_pos h21).trans ((if_pos h22).trans (rfl))).symm.trans hd19
         refine .next he m' (by omega) ⟨(k2+1),(lget (r50 h (lget l (Int.toNat ((k2:Int) - 1))) tv) (Int.toNat (lget l k2))),?_,?_,?_,?_,?_,?_,?_,?_,?_,v1_28,g28,by omega,hf⟩<;>first|(simp only [SY,eq_self,Nat.reduceBEq,g19_1,g19_2,g19_3,g19_10]<;>rfl)|omega|assumption|(simp; omega)|simp
        ·skip
         try simp (disch:=first|omega|assumption) only [SY,h22a] at he
         obtain ⟨m',rfl⟩:∃ m',m=m'+1:=⟨m - 1,by omega⟩
         have hf:=(show _=(tv:Int) from (if_pos h21).trans ((if_neg h22).trans (rfl))).symm.trans hd19
         refine .exit he ⟨rfl,⟨k2,tv,?_,bb19_1,ga19,by omega,?_,?_,?_,?_,hf.symm⟩⟩<;>first|(simp only [SY,eq_self,Nat.reduceBEq,g19_2]<;>rfl)|omega|assumption|(simp; omega)|simp
       ·skip
        try simp (disch:=first|omega|assumption) only [E0_G,SY,off,agreeKind,Nat.reduceAdd,Nat.reduceLT,Nat.reduceBEq,h21a] at he
        obtain ⟨m',rfl⟩:∃ m',m=m'+1:=⟨m - 1,by omega⟩
        have hf:=(show _=(tv:Int) from (if_neg h21).trans (rfl)).symm.trans hd19
        refine .exit he ⟨rfl,⟨k2,tv,?_,bb19_1,ga19,by omega,?_,?_,?_,?_,hf.symm⟩⟩<;>first|(simp only [SY,eq_self,Nat.reduceBEq,g19_2]<;>rfl)|omega|assumption|(simp; omega)|simp)
     obtain ⟨rfl,k2,tv,ge19_2,be19_1,ge19,gm19,hj19_0,hj19_1,hj19_2,hj19_3,hR19⟩:=hQ19
     obtain rfl:tv=R62_1 h l ti (l.length+1) 1 ti:=hR19.symm
     try simp (disch:=first|omega|assumption) only [E0_G,SY,off,agreeKind,eq_self,if_true,Nat.reduceAdd,Nat.reduceLT,Nat.reduceBEq,ge19_2] at hz
     have hr:r62 h l ti=(R62_1 h l ti (l.length+1) 1 ti,0):=(if_pos h3).trans ((if_neg h5).trans ((if_neg h7).trans ((onSum_inr hR8).trans (rfl))))
     exact fin hz (by rw [hr]) ge19
    ·skip
     obtain ⟨r6,r7,ge8_6,ge8_7,ge8,hR8⟩:=hQ8
     try simp (disch:=first|omega|assumption) only [SY,ge8_6,ge8_7] at hz
     have hr:r62 h l ti=(r6,r7):=(if_pos h3).trans ((if_neg h5).trans ((if_neg h7).trans ((onSum_inl hR8).trans (rfl))))
     exact fin hz (by rw [hr]) ge8
 ·skip
  try simp (disch:=first|omega|assumption) only [E0_G,SY,off,agreeKind,Nat.reduceAdd,Nat.reduceLT,Nat.reduceBEq,h3a] at hz
  have hr:r62 h l ti=(0,(r59 h)):=(if_neg h3).trans (rfl)
  exact fin hz (by rw [hr]) g2
def R64_0 (h:Hs) (fr:Int) (ti:Int) (l:List Int)  : List Int→Sum (Int × Int × Int) (Unit)
 | []=>.inr ()
 | x6 :: l'=>(if (r122 h x6)=true then R64_0 h fr ti l l' else .inl (0,0,1))
def R64_1 (h:Hs) (fr:Int) (ti:Int) (l:List Int)  : List Int→Int→Int→Int→Int × Int × Int
 | [],rm,tm_,er=>(rm,tm_,er)
 | x25 :: l',rm,tm_,er=>(if (lget (r50 h fr ti) (Int.toNat x25))<tm_ then R64_1 h fr ti l l' x25 (lget (r50 h fr ti) (Int.toNat x25)) 0 else (if (lget (r50 h fr ti) (Int.toNat x25))<1073741824 then (if (lget (r50 h fr ti) (Int.toNat x25))=tm_ then (if x25<rm then R64_1 h fr ti l l' x25 (lget (r50 h fr ti) (Int.toNat x25)) 0 else R64_1 h fr ti l l' rm tm_ er) else R64_1 h fr ti l l' rm tm_ er) else R64_1 h fr ti l l' rm tm_ er))
def r64 (h:Hs) (fr:Int) (ti:Int) (l:List Int):(Int × Int × Int):=(if (r104 h fr ti)=0 then (onSum (R64_0 h fr ti l l) (fun (r8_0,r8_1,r8_2)=>(r8_0,r8_1,r8_2)) (fun _=>(if ((R64_1 h fr ti l l (-1) 1073741824 5).2.2)=0 then ((R64_1 h fr ti l l (-1) 1073741824 5).1,(R64_1 h fr ti l l (-1) 1073741824 5).2.1,(R64_1 h fr ti l l (-1) 1073741824 5).2.2) else (0,0,5)))) else (0,0,(r104 h fr ti)))
set_option maxHeartbeats 8000000 in
theorem c64 (h:Hs) (fr:Int) (ti:Int) (l:List Int) (hF:Few h) (hl:l.length≤80) (S:AS) (v_h_rooms:Value) (hv_h_rooms:LstR S v_h_rooms h.rooms) (v_h_doors:Value) (hv_h_doors:LstR S v_h_doors h.doors) (v_h_ways:Value) (hv_h_ways:Lst S v_h_ways h.ways) (v_l:Value) (hv_l:Lst S v_l l) :
  ∃ S',(evL Tryz.prog E0).call 64 #[.agg #[v_h_rooms,v_h_doors,v_h_ways],.int .i64 fr,.int .i64 ti,v_l] S=some (.agg #[.int .i64 ((r64 h fr ti l).1),.int .i64 ((r64 h fr ti l).2.1),.int .i64 ((r64 h fr ti l).2.2)],S')∧Agree S S':=by
 have qr:=hF.r; have qd:=hF.d; have qw:=hF.w
 have q0:∀ (m:List Int),R64_0 h fr ti l m=.inr ()→∀ x ∈ m,r122 h x=true:=by
  intro m
  induction m with
  | nil=>intro _ x hx; simp at hx
  | cons y m ih =>
   intro e x hx
   rw [R64_0] at e
   split at e
   ·rcases List.mem_cons.1 hx with rfl|hx
    ·assumption
    ·exact ih e x hx
   ·cases e
 generalize hz:(evL Tryz.prog E0).call 64 _ _=z
 rw [L_call,evCall_said rfl Tryz.func64 rfl (by decide) Tryz.ntmps64 Tryz.results64] at hz
 obtain ⟨S1,e1,n1,b1,a1⟩:=push_open S (.cells [v_h_rooms,v_h_doors,v_h_ways] 26 0 true true)
 have g1:Agree S S1:=a1
 have s1:E0.same S S1=true:=symEnv_same a1
 obtain ⟨S2,e2,n2,b2,a2⟩:=push_open S1 (.cells [.int .i64 0,.int .i64 0,.int .i64 0] 51 0 true true)
 have v1_2:=(a2.2 S.next (by omega)).trans b1
 have g2:Agree S S2:=g1.trans a2
 have s2:E0.same S1 S2=true:=symEnv_same a2
 obtain ⟨S3,k3,a3⟩:=c104 h fr ti hF S2 (v_h_rooms) (hv_h_rooms.agree g2) (v_h_doors) (hv_h_doors.agree g2) (v_h_ways) (hv_h_ways.agree g2)
 have l3:=a3.1
 have s3:E0.same S2 S3=true:=symEnv_same a3
 have v1_3:=(a3.2 S.next (by omega)).trans v1_2
 have v2_3:=(a3.2 S1.next (by omega)).trans b2
 have g3:Agree S S3:=g2.trans a3
 try simp (disch:=first|omega|assumption) only [E0_G,SY,setArgs,off,agreeKind,vals,allocV,boxed,ldA,rdCells,aggD,Nat.reduceAdd,Nat.reduceSub,Nat.reduceLT,Nat.reduceBEq,TY_EvH31,e1,v1_2,e2,k3] at hz
 rcases dP ((r104 h fr ti)=0) with ⟨h4a,h4⟩|⟨h4a,h4⟩
 ·skip
  have hV:=(r104_ok h4).1
  have lq5:=(r104_ok h4).2
  try simp (disch:=first|omega|assumption) only [E0_G,SY,off,agreeKind,Nat.reduceLT,h4a] at hz
  generalize hL6:Rec.loop _ _ _ _=L6 at hz
  obtain ⟨x6,t6,S6e,rfl,hQ6⟩:=loop_met hL6 (fun m t S'=>∃ (k:Nat),m+k=l.length∧k≤l.length∧t.get 1=some (.int .i64 fr)∧t.get 2=some (.int .i64 ti)∧t.get 3=some (v_l)∧t.get 4=some (.pointer (some ⟨S.next,0,none⟩))∧t.get 8=some (.pointer (some ⟨S1.next,0,none⟩))∧t.get 10=some (.int .i64 (k:Int))∧S'.heap.get S.next=some (.cells [v_h_rooms,v_h_doors,v_h_ways] 26 0 true true)∧S'.heap.get S1.next=some (.cells [.int .i64 0,.int .i64 0,.int .i64 0] 51 0 true true)∧Agree S S'∧S3.next≤S'.next∧R64_0 h fr ti l (l.drop k)=R64_0 h fr ti l l)
   (fun x t S'=>(x=.exit 0∧∃ (k:Nat),t.get 1=some (.int .i64 fr)∧t.get 2=some (.int .i64 ti)∧t.get 3=some (v_l)∧t.get 4=some (.pointer (some ⟨S.next,0,none⟩))∧t.get 8=some (.pointer (some ⟨S1.next,0,none⟩))∧S'.heap.get S.next=some (.cells [v_h_rooms,v_h_doors,v_h_ways] 26 0 true true)∧S'.heap.get S1.next=some (.cells [.int .i64 0,.int .i64 0,.int .i64 0] 51 0 true true)∧Agree S S'∧S3.next≤S'.next∧k≤l.length∧R64_0 h fr ti l l=.inr ())∨(x=.ret∧∃ (r8_0:Int) (r8_1:Int) (r8_2:Int),t.get 8=some (.pointer (some ⟨S1.next,0,none⟩))∧S'.heap.get S1.next=some (.cells [.int .i64 r8_0,.int .i64 r8_1,.int .i64 r8_2] 51 0 true true)∧Agree S S'∧R64_0 h fr ti l l=.inl (r8_0,r8_1,r8_2))) (l.length - 0) (by refine ⟨0,?_,?_,?_,?_,?_,?_,?_,?_,v1_3,v2_3,g3,Nat.le_refl _,rfl⟩<;>first|(simp only [SY,eq_self,Nat.reduceBEq]<;>rfl)|omega|assumption|(simp; omega)|simp) (by
    rintro m t S6 ⟨k,hi6_0,hi6_1,g6_1,g6_2,g6_3,g6_4,g6_8,g6_10,bb6_1,bb6_2,ga6,gn6,hd6⟩
    refine .run fun z he=>?_
    have w7:=(hv_l.agree ga6).len (P:=Tryz.prog) (t:=54) Tryz.underlying54
    try simp (disch:=first|omega|assumption) only [E0_G,SY,off,agreeKind,Nat.reduceAdd,Nat.reduceLT,Nat.reduceBEq,g6_3,g6_10,w7] at he
    rcases dP ((k:Int)<(l.length:Int)) with ⟨h8a,h8⟩|⟨h8a,h8⟩
    ·skip
     try simp (disch:=first|omega|assumption) only [SY,h8a] at he
     rw [code_draws _ _ _ (by kernel_rfl)] at he
     generalize hnd9:needy _=nd9 at he
     have hx6:l[k]?=some (l[k]'(by first|omega|simp; omega)):=List.getElem?_eq_getElem _
     generalize l[k]'_=x6 at hx6
     try have eb11:=hAR _ (List.mem_of_getElem? hx6)
     obtain ⟨id10,of10,cc10,ty10,wr10,ex10,i10,j10,l10,q10⟩:=(hv_l).at (P:=Tryz.prog) (t:=54) Tryz.underlying54 tz3 hx6
     have jr10:=j10
     have j10:=(ga6.2 id10 l10).trans jr10
     have m10_0:cc10[of10]?=some (.int .i64 x6):=q10 0 (show 0<1 by decide)
     obtain ⟨S12,k12,a12⟩:=c122 h x6 hF S6 (v_h_rooms) (hv_h_rooms.agree ga6) (v_h_doors) (hv_h_doors.agree ga6) (v_h_ways) (hv_h_ways.agree ga6)
     have l12:=a12.1
     have s12:E0.same S6 S12=true:=symEnv_same a12
     have v1_12:=(a12.2 S.next (by omega)).trans bb6_1
     have v2_12:=(a12.2 S1.next (by omega)).trans bb6_2
     have g12:Agree S S12:=ga6.trans a12
     try simp (disch:=first|omega|assumption) only [E0_G,SY,off,agreeKind,vals,ldA,rdCells,aggD,Nat.reduceAdd,Nat.reduceLT,Nat.reduceBEq,TY_EvH31,g6_3,g6_4,g6_10,bb6_1,store_agree,store_refl E0_same,i10,j10,m10_0,k12] at he
     rcases dB ((r122 h x6)) with ⟨h13a,h13⟩|⟨h13a,h13⟩
     ·skip
      have w14:IntKind.i64.wrap ((k:Int)+1)=((k+1:Nat):Int):=by rw [IntWalk.i64_in]<;>omega
      try simp (disch:=first|omega|assumption) only [E0_G,SY,off,agreeKind,Nat.reduceAdd,Nat.reduceLT,Nat.reduceBEq,g6_10,store_refl E0_same,h13a,w14] at he
      rw [drop_cons' hx6] at hd6
      have hf:=(show _=(R64_0 h fr ti l (l.drop (k+1)):Sum (Int × Int × Int) (Unit)) from (if_pos h13).trans (rfl)).symm.trans hd6
      refine .next he (m - 1) (by omega) ⟨(k+1),?_,?_,?_,?_,?_,?_,?_,?_,v1_12,v2_12,g12,by omega,hf⟩<;>first|(simp only [SY,eq_self,Nat.reduceBEq,g6_1,g6_2,g6_3,g6_4,g6_8,g6_10]<;>rfl)|omega|assumption|(simp; omega)|simp
     ·skip
      have y15:aBuild Tryz.prog 51 [(2,.int .i64 1)]=some (.agg #[.int .i64 0,.int .i64 0,.int .i64 1]):=by kernel_rfl
      obtain ⟨S16,k16,n16,b16,q16⟩:=st_at (o:=0) (c':=[.int .i64 0,.int .i64 0,.int .i64 1]) (v:=.agg #[.int .i64 0,.int .i64 0,.int .i64 1]) tz51 v2_12 rfl rfl (show 0+3≤3 by decide) rfl
      have g16:Agree S S16:=⟨by have:=(g12).1; omega,fun id hid=>(q16 id (by have:=(g12).1; omega)).trans ((g12).2 id hid)⟩
      try simp (disch:=first|omega|assumption) only [E0_G,SY,off,agreeKind,partVals,Nat.reduceAdd,Nat.reduceLT,Nat.reduceBEq,g6_8,store_refl E0_same,h13a,y15,k16] at he
      rw [drop_cons' hx6] at hd6
      have hf:=(show _=(.inl (0,0,1):Sum (Int × Int × Int) (Unit)) from (if_neg h13).trans (rfl)).symm.trans hd6
      refine .ret he (.inr ⟨rfl,⟨0,0,1,?_,b16,g16,hf.symm⟩⟩)<;>first|(simp only [SY,eq_self,Nat.reduceBEq,g6_8]<;>rfl)|omega|assumption|(simp; omega)|simp
    ·skip
     try simp (disch:=first|omega|assumption) only [SY,h8a] at he
     rw [List.drop_eq_nil_of_le (show l.length≤k by omega)] at hd6
     have hf:=(show _=(.inr ():Sum (Int × Int × Int) (Unit)) from rfl).symm.trans hd6
     refine .exit he (.inl ⟨rfl,⟨k,?_,?_,?_,?_,?_,bb6_1,bb6_2,ga6,by omega,?_,hf.symm⟩⟩)<;>first|(simp only [SY,eq_self,Nat.reduceBEq,g6_1,g6_2,g6_3,g6_4,g6_8]<;>rfl)|omega|assumption|(simp; omega)|simp)
  rcases hQ6 with ⟨rfl,hQ6⟩|⟨rfl,hQ6⟩
  ·skip
   obtain ⟨k,ge6_1,ge6_2,ge6_3,ge6_4,ge6_8,be6_1,be6_2,ge6,gm6,hj6_0,hR6⟩:=hQ6
   obtain ⟨u18,S18,k18,a18,oo18⟩:=c50 h fr ti hF hV (by omega) (by omega) S6e (v_h_rooms) (hv_h_rooms.agree ge6) (v_h_doors) (hv_h_doors.agree ge6) (v_h_ways) (hv_h_ways.agree ge6)
   have l18:=a18.1
   obtain ⟨pu18,nu18,cu18,rfl⟩:=own_slice oo18
   have s18:E0.same S6e S18=true:=symEnv_same a18
   have v2_18:=(a18.2 S1.next (by omega)).trans be6_2
   have g18:Agree S S18:=ge6.trans a18
   have p18:=r50_len h fr ti
   have y19:aBuild Tryz.prog 51 [(0,.int .i64 (-1)),(1,.int .i64 1073741824),(2,.int .i64 5)]=some (.agg #[.int .i64 (-1),.int .i64 1073741824,.int .i64 5]):=by kernel_rfl
   obtain ⟨S20,e20,n20,b20,a20⟩:=push_open S18 (.cells [.int .i64 0,.int .i64 0,.int .i64 0] 51 0 true true)
   have v2_20:=(a20.2 S1.next (by omega)).trans v2_18
   have o18_21:=oo18.agree a20
   have g20:Agree S S20:=g18.trans a20
   have s20:E0.same S18 S20=true:=symEnv_same a20
   have ne22:blkOf (.slice pu18 nu18 cu18)≠some S18.next:=oo18.new (Nat.le_refl _)
   obtain ⟨S23,k23,n23,b23,q23⟩:=st_at (o:=0) (c':=[.int .i64 (-1),.int .i64 1073741824,.int .i64 5]) (v:=.agg #[.int .i64 (-1),.int .i64 1073741824,.int .i64 5]) tz51 b20 rfl rfl (show 0+3≤3 by decide) rfl
   have v2_23:=(q23 S1.next (by omega)).trans v2_20
   have o18_24:=o18_21.frame (by omega) (fun id hid hb=>q23 id (fun e=>(show blkOf (.slice pu18 nu18 cu18)≠some S18.next from by first|exact o18_21.ne (by omega)|exact o18_21.new (by omega)|assumption) (e ▸ hb)))
   have g23:Agree S S23:=⟨by have:=(g20).1; omega,fun id hid=>(q23 id (by have:=(g20).1; omega)).trans ((g20).2 id hid)⟩
   try simp (disch:=first|omega|assumption) only [E0_G,SY,off,agreeKind,partVals,vals,allocV,ldA,rdCells,aggD,eq_self,if_true,Nat.reduceAdd,Nat.reduceLT,Nat.reduceBEq,TY_EvH31,ge6_1,ge6_2,ge6_4,be6_1,k18,y19,e20,k23] at hz
   have hq0:=q0 _ (by assumption)
   have hAR:∀ x ∈ l,0≤x∧x<(h.rooms.length:Int):=fun x hx=>by have:=r71_iff.1 (show r71 x 0 ((h.rooms.length:Int) - 1)=true from hq0 x hx); omega
   generalize hL25:Rec.loop _ _ _ _=L25 at hz
   obtain ⟨x25,t25,S25e,rfl,hQ25⟩:=loop_met hL25 (fun m t S'=>∃ (k2:Nat) (rm:Int) (tm_:Int) (er:Int),m+k2=l.length∧k2≤l.length∧t.get 3=some (v_l)∧t.get 8=some (.pointer (some ⟨S1.next,0,none⟩))∧t.get 12=some (.slice pu18 nu18 cu18)∧t.get 13=some (.pointer (some ⟨S18.next,0,none⟩))∧t.get 14=some (.int .i64 (k2:Int))∧S'.heap.get S1.next=some (.cells [.int .i64 0,.int .i64 0,.int .i64 0] 51 0 true true)∧S'.heap.get S18.next=some (.cells [.int .i64 rm,.int .i64 tm_,.int .i64 er] 51 0 true true)∧Agree S S'∧S23.next≤S'.next∧Own 3 S6e.next S' (.slice pu18 nu18 cu18) (r50 h fr ti)∧R64_1 h fr ti l (l.drop k2) rm tm_ er=R64_1 h fr ti l l (-1) 1073741824 5)
    (fun x t S'=>x=.exit 2∧∃ (k2:Nat) (rm:Int) (tm_:Int) (er:Int),t.get 8=some (.pointer (some ⟨S1.next,0,none⟩))∧t.get 13=some (.pointer (some ⟨S18.next,0,none⟩))∧S'.heap.get S1.next=some (.cells [.int .i64 0,.int .i64 0,.int .i64 0] 51 0 true true)∧S'.heap.get S18.next=some (.cells [.int .i64 rm,.int .i64 tm_,.int .i64 er] 51 0 true true)∧Agree S S'∧S23.next≤S'.next∧Own 3 S6e.next S' (.slice pu18 nu18 cu18) (r50 h fr ti)∧k2≤l.length∧R64_1 h fr ti l l (-1) 1073741824 5=(rm,tm_,er)) (l.length - 0) (by refine ⟨0,-1,1073741824,5,?_,?_,?_,?_,?_,?_,?_,v2_23,b23,g23,Nat.le_refl _,o18_24,rfl⟩<;>first|(simp only [SY,eq_self,Nat.reduceBEq,ge6_3,ge6_8]<;>rfl)|omega|assumption|(simp; omega)|simp) (by
     rintro m t S25 ⟨k2,rm,tm_,er,hi25_0,hi25_1,g25_3,g25_8,g25_12,g25_13,g25_14,bb25_2,bb25_20,ga25,gn25,cw25_0,hd25⟩
     refine .run fun z he=>?_
     have w26:=(hv_l.agree ga25).len (P:=Tryz.prog) (t:=54) Tryz.underlying54
     try simp (disch:=first|omega|assumption) only [E0_G,SY,off,agreeKind,Nat.reduceAdd,Nat.reduceLT,Nat.reduceBEq,g25_3,g25_14,w26] at he
     rcases dP ((k2:Int)<(l.length:Int)) with ⟨h27a,h27⟩|⟨h27a,h27⟩
     ·skip
      have hx25:l[k2]?=some (l[k2]'(by first|omega|simp; omega)):=List.getElem?_eq_getElem _
      generalize l[k2]'_=x25 at hx25
      try have eb29:=hAR _ (List.mem_of_getElem? hx25)
      obtain ⟨id28,of28,cc28,ty28,wr28,ex28,i28,j28,l28,q28⟩:=(hv_l).at (P:=Tryz.prog) (t:=54) Tryz.underlying54 tz3 hx25
      have jr28:=j28
      have j28:=(ga25.2 id28 l28).trans jr28
      have m28_0:cc28[of28]?=some (.int .i64 x25):=q28 0 (show 0<1 by decide)
      have qz30:((Int.toNat x25:Nat):Int)=x25:=Int.toNat_of_nonneg (by first|omega|simp; omega)
      have hx31:(r50 h fr ti)[(Int.toNat x25)]?=some (lget (r50 h fr ti) (Int.toNat x25)):=lget_some (by first|omega|simp; omega)
      have eb32:=r50_at hV (by omega) hx31
      obtain ⟨id31,of31,cc31,ty31,wr31,ex31,i31,j31,l31,q31,lb31,bk31,oq31⟩:=cw25_0.at4 (P:=Tryz.prog) (t:=54) Tryz.underlying54 tz3 hx31
      have m31_0:cc31[of31]?=some (.int .i64 (lget (r50 h fr ti) (Int.toNat x25))):=q31 0 (show 0<1 by decide)
      rw [qz30] at i31
      try simp (disch:=first|omega|assumption) only [E0_G,SY,off,agreeKind,ldA,aggD,Nat.reduceAdd,Nat.reduceLT,Nat.reduceBEq,TY_EvH31,g25_3,g25_12,g25_14,h27a,i28,j28,m28_0,i31,j31,m31_0] at he
      rw [code_draws _ _ _ (by kernel_rfl)] at he
      generalize hnd33:needy _=nd33 at he
      try simp (disch:=first|omega|assumption) only [E0_G,SY,agreeKind,ldA,aggD,aField,Nat.reduceAdd,Nat.reduceLT,Nat.reduceBEq,TY_EvH31,g25_13,bb25_20,store_refl E0_same] at he
      rcases dP ((lget (r50 h fr ti) (Int.toNat x25))<tm_) with ⟨h34a,h34⟩|⟨h34a,h34⟩
      ·skip
       try have eb36:=hAR _ (List.mem_of_getElem? hx25)
       obtain ⟨id35,of35,cc35,ty35,wr35,ex35,i35,j35,l35,q35⟩:=(hv_l).at (P:=Tryz.prog) (t:=54) Tryz.underlying54 tz3 hx25
       have jr35:=j35
       have j35:=(ga25.2 id35 l35).trans jr35
       have j35_28:=(ga25.2 id28 l28).trans jr28
       have m35_0:cc35[of35]?=some (.int .i64 x25):=q35 0 (show 0<1 by decide)
       have y37:aBuild Tryz.prog 51 [(0,.int .i64 x25),(1,.int .i64 (lget (r50 h fr ti) (Int.toNat x25)))]=some (.agg #[.int .i64 x25,.int .i64 (lget (r50 h fr ti) (Int.toNat x25)),.int .i64 0]):=by kernel_rfl
       obtain ⟨S38,k38,n38,b38,q38⟩:=st_at (o:=0) (c':=[.int .i64 x25,.int .i64 (lget (r50 h fr ti) (Int.toNat x25)),.int .i64 0]) (v:=.agg #[.int .i64 x25,.int .i64 (lget (r50 h fr ti) (Int.toNat x25)),.int .i64 0]) tz51 bb25_20 rfl rfl (show 0+3≤3 by decide) rfl
       have v2_38:=(q38 S1.next (by omega)).trans bb25_2
       have ocw25_39:=cw25_0.frame (by omega) (fun id hid hb=>q38 id (fun e=>(show blkOf (.slice pu18 nu18 cu18)≠some S18.next from by first|exact cw25_0.ne (by omega)|exact cw25_0.new (by omega)|assumption) (e ▸ hb)))
       have g38:Agree S S38:=⟨by have:=(ga25).1; omega,fun id hid=>(q38 id (by have:=(ga25).1; omega)).trans ((ga25).2 id hid)⟩
       have w40:IntKind.i64.wrap ((k2:Int)+1)=((k2+1:Nat):Int):=by rw [IntWalk.i64_in]<;>omega
       try simp (disch:=first|omega|assumption) only [E0_G,SY,off,agreeKind,partVals,ldA,aggD,Nat.reduceAdd,Nat.reduceLT,Nat.reduceBEq,TY_EvH31,g25_3,g25_13,g25_14,i28,j28,m28_0,store_refl E0_same,h34a,y37,k38,w40] at he
       rw [drop_cons' hx25] at hd25
       have hf:=(show _=(R64_1 h fr ti l (l.drop (k2+1)) x25 (lget (r50 h fr ti) (Int.toNat x25)) 0:Int × Int × Int) from (if_pos h34).trans (rfl)).symm.trans hd25
       refine .next he (m - 1) (by omega) ⟨(k2+1),x25,(lget (r50 h fr ti) (Int.toNat x25)),0,?_,?_,?_,?_,?_,?_,?_,v2_38,b38,g38,by omega,ocw25_39,hf⟩<;>first|(simp only [SY,eq_self,Nat.reduceBEq,g25_3,g25_8,g25_12,g25_13,g25_14]<;>rfl)|omega|assumption|(simp; omega)|simp
      ·skip
       try simp (disch:=first|omega|assumption) only [E0_G,SY,agreeKind,Nat.reduceAdd,Nat.reduceLT,Nat.reduceBEq,store_refl E0_same,h34a] at he
       rcases dP ((lget (r50 h fr ti) (Int.toNat x25))<1073741824) with ⟨h41a,h41⟩|⟨h41a,h41⟩
       ·skip
        try simp (disch:=first|omega|assumption) only [E0_G,SY,agreeKind,ldA,aggD,aField,Nat.reduceAdd,Nat.reduceLT,Nat.reduceBEq,TY_EvH31,g25_13,bb25_20,store_refl E0_same,h41a] at he
        rcases dP ((lget (r50 h fr ti) (Int.toNat x25))=tm_) with ⟨h42a,h42⟩|⟨h42a,h42⟩
        ·skip
         try have eb44:=hAR _ (List.mem_of_getElem? hx25)
         obtain ⟨id43,of43,cc43,ty43,wr43,ex43,i43,j43,l43,q43⟩:=(hv_l).at (P:=Tryz.prog) (t:=54) Tryz.underlying54 tz3 hx25
         have jr43:=j43
         have j43:=(ga25.2 id43 l43).trans jr43
         have j43_28:=(ga25.2 id28 l28).trans jr28
         have m43_0:cc43[of43]?=some (.int .i64 x25):=q43 0 (show 0<1 by decide)
         try simp (disch:=first|omega|assumption) only [E0_G,SY,agreeKind,ldA,aggD,aField,Nat.reduceAdd,Nat.reduceLT,Nat.reduceBEq,TY_EvH31,g25_3,g25_13,g25_14,bb25_20,i28,j28,m28_0,store_refl E0_same,h42a] at he
         rcases dP (x25<rm) with ⟨h45a,h45⟩|⟨h45a,h45⟩
         ·skip
          try have eb47:=hAR _ (List.mem_of_getElem? hx25)
          obtain ⟨id46,of46,cc46,ty46,wr46,ex46,i46,j46,l46,q46⟩:=(hv_l).at (P:=Tryz.prog) (t:=54) Tryz.underlying54 tz3 hx25
          have jr46:=j46
          have j46:=(ga25.2 id46 l46).trans jr46
          have j46_28:=(ga25.2 id28 l28).trans jr28
          have j46_43:=(ga25.2 id43 l43).trans jr43
          have m46_0:cc46[of46]?=some (.int .i64 x25):=q46 0 (show 0<1 by decide)
          have y48:aBuild Tryz.prog 51 [(0,.int .i64 x25),(1,.int .i64 (lget (r50 h fr ti) (Int.toNat x25)))]=some (.agg #[.int .i64 x25,.int .i64 (lget (r50 h fr ti) (Int.toNat x25)),.int .i64 0]):=by kernel_rfl
          obtain ⟨S49,k49,n49,b49,q49⟩:=st_at (o:=0) (c':=[.int .i64 x25,.int .i64 (lget (r50 h fr ti) (Int.toNat x25)),.int .i64 0]) (v:=.agg #[.int .i64 x25,.int .i64 (lget (r50 h fr ti) (Int.toNat x25)),.int .i64 0]) tz51 bb25_20 rfl rfl (show 0+3≤3 by decide) rfl
          have v2_49:=(q49 S1.next (by omega)).trans bb25_2
          have ocw25_50:=cw25_0.frame (by omega) (fun id hid hb=>q49 id (fun e=>(show blkOf (.slice pu18 nu18 cu18)≠some S18.next from by first|exact cw25_0.ne (by omega)|exact cw25_0.new (by omega)|assumption) (e ▸ hb)))
          have g49:Agree S S49:=⟨by have:=(ga25).1; omega,fun id hid=>(q49 id (by have:=(ga25).1; omega)).trans ((ga25).2 id hid)⟩
          have w51:IntKind.i64.wrap ((k2:Int)+1)=((k2+1:Nat):Int):=by rw [IntWalk.i64_in]<;>omega
          try simp (disch:=first|omega|assumption) only [E0_G,SY,off,agreeKind,partVals,ldA,aggD,Nat.reduceAdd,Nat.reduceLT,Nat.reduceBEq,TY_EvH31,g25_3,g25_13,g25_14,i28,j28,m28_0,store_refl E0_same,h45a,y48,k49,w51] at he
          rw [drop_cons' hx25] at hd25
          have hf:=(show _=(R64_1 h fr ti l (l.drop (k2+1)) x25 (lget (r50 h fr ti) (Int.toNat x25)) 0:Int × Int × Int) from (if_neg h34).trans ((if_pos h41).trans ((if_pos h42).trans ((if_pos h45).trans (rfl))))).symm.trans hd25
          refine .next he (m - 1) (by omega) ⟨(k2+1),x25,(lget (r50 h fr ti) (Int.toNat x25)),0,?_,?_,?_,?_,?_,?_,?_,v2_49,b49,g49,by omega,ocw25_50,hf⟩<;>first|(simp only [SY,eq_self,Nat.reduceBEq,g25_3,g25_8,g25_12,g25_13,g25_14]<;>rfl)|omega|assumption|(simp; omega)|simp
         ·skip
          have w52:IntKind.i64.wrap ((k2:Int)+1)=((k2+1:Nat):Int):=by rw [IntWalk.i64_in]<;>omega
          try simp (disch:=first|omega|assumption) only [E0_G,SY,off,agreeKind,Nat.reduceAdd,Nat.reduceLT,Nat.reduceBEq,g25_14,store_refl E0_same,h45a,w52] at he
          rw [drop_cons' hx25] at hd25
          have hf:=(show _=(R64_1 h fr ti l (l.drop (k2+1)) rm tm_ er:Int × Int × Int) from (if_neg h34).trans ((if_pos h41).trans ((if_pos h42).trans ((if_neg h45).trans (rfl))))).symm.trans hd25
          refine .next he (m - 1) (by omega) ⟨(k2+1),rm,tm_,er,?_,?_,?_,?_,?_,?_,?_,bb25_2,bb25_20,ga25,by omega,cw25_0,hf⟩<;>first|(simp only [SY,eq_self,Nat.reduceBEq,g25_3,g25_8,g25_12,g25_13,g25_14]<;>rfl)|omega|assumption|(simp; omega)|simp
        ·skip
         have w53:IntKind.i64.wrap ((k2:Int)+1)=((k2+1:Nat):Int):=by rw [IntWalk.i64_in]<;>omega
         try simp (disch:=first|omega|assumption) only [E0_G,SY,off,agreeKind,Nat.reduceAdd,Nat.reduceLT,Nat.reduceBEq,g25_14,store_refl E0_same,h42a,w53] at he
         rw [drop_cons' hx25] at hd25
         have hf:=(show _=(R64_1 h fr ti l (l.drop (k2+1)) rm tm_ er:Int × Int × Int) from (if_neg h34).trans ((if_pos h41).trans ((if_neg h42).trans (rfl)))).symm.trans hd25
         refine .next he (m - 1) (by omega) ⟨(k2+1),rm,tm_,er,?_,?_,?_,?_,?_,?_,?_,bb25_2,bb25_20,ga25,by omega,cw25_0,hf⟩<;>first|(simp only [SY,eq_self,Nat.reduceBEq,g25_3,g25_8,g25_12,g25_13,g25_14]<;>rfl)|omega|assumption|(simp; omega)|simp
       ·skip
        have w54:IntKind.i64.wrap ((k2:Int)+1)=((k2+1:Nat):Int):=by rw [IntWalk.i64_in]<;>omega
        try simp (disch:=first|omega|assumption) only [E0_G,SY,off,agreeKind,Nat.reduceAdd,Nat.reduceLT,Nat.reduceBEq,g25_14,store_refl E0_same,h41a,w54] at he
        rw [drop_cons' hx25] at hd25
        have hf:=(show _=(R64_1 h fr ti l (l.drop (k2+1)) rm tm_ er:Int × Int × Int) from (if_neg h34).trans ((if_neg h41).trans (rfl))).symm.trans hd25
        refine .next he (m - 1) (by omega) ⟨(k2+1),rm,tm_,er,?_,?_,?_,?_,?_,?_,?_,bb25_2,bb25_20,ga25,by omega,cw25_0,hf⟩<;>first|(simp only [SY,eq_self,Nat.reduceBEq,g25_3,g25_8,g25_12,g25_13,g25_14]<;>rfl)|omega|assumption|(simp; omega)|simp
     ·skip
      try simp (disch:=first|omega|assumption) only [SY,h27a] at he
      rw [List.drop_eq_nil_of_le (show l.length≤k2 by omega)] at hd25
      have hf:=(show _=((rm,tm_,er):Int × Int × Int) from rfl).symm.trans hd25
      refine .exit he ⟨rfl,⟨k2,rm,tm_,er,?_,?_,bb25_2,bb25_20,ga25,by omega,cw25_0,?_,hf.symm⟩⟩<;>first|(simp only [SY,eq_self,Nat.reduceBEq,g25_8,g25_13]<;>rfl)|omega|assumption|(simp; omega)|simp)
   obtain ⟨rfl,k2,rm,tm_,er,ge25_8,ge25_13,be25_2,be25_20,ge25,gm25,ce25_0,hj25_0,hR25⟩:=hQ25
   obtain rfl:rm=(R64_1 h fr ti l l (-1) 1073741824 5).1:=by rw [hR25]
   obtain rfl:tm_=(R64_1 h fr ti l l (-1) 1073741824 5).2.1:=by rw [hR25]
   obtain rfl:er=(R64_1 h fr ti l l (-1) 1073741824 5).2.2:=by rw [hR25]
   try simp (disch:=first|omega|assumption) only [E0_G,SY,off,agreeKind,ldA,aggD,aField,eq_self,if_true,Nat.reduceAdd,Nat.reduceLT,Nat.reduceBEq,TY_EvH31,ge25_13,be25_20] at hz
   rcases dP (((R64_1 h fr ti l l (-1) 1073741824 5).2.2)=0) with ⟨h56a,h56⟩|⟨h56a,h56⟩
   ·skip
    obtain ⟨S57,k57,n57,b57,q57⟩:=st_at (o:=0) (c':=[.int .i64 ((R64_1 h fr ti l l (-1) 1073741824 5).1),.int .i64 ((R64_1 h fr ti l l (-1) 1073741824 5).2.1),.int .i64 ((R64_1 h fr ti l l (-1) 1073741824 5).2.2)]) (v:=.agg #[.int .i64 ((R64_1 h fr ti l l (-1) 1073741824 5).1),.int .i64 ((R64_1 h fr ti l l (-1) 1073741824 5).2.1),.int .i64 ((R64_1 h fr ti l l (-1) 1073741824 5).2.2)]) tz51 be25_2 rfl rfl (show 0+3≤3 by decide) rfl
    have oce25_58:=ce25_0.frame (by omega) (fun id hid hb=>q57 id (fun e=>(show blkOf (.slice pu18 nu18 cu18)≠some S1.next from by first|exact ce25_0.ne (by omega)|exact ce25_0.new (by omega)|assumption) (e ▸ hb)))
    have g57:Agree S S57:=⟨by have:=(ge25).1; omega,fun id hid=>(q57 id (by have:=(ge25).1; omega)).trans ((ge25).2 id hid)⟩
    try simp (disch:=first|omega|assumption) only [E0_G,SY,off,agreeKind,ldA,rdCells,aggD,Nat.reduceAdd,Nat.reduceLT,Nat.reduceBEq,TY_EvH31,ge25_8,ge25_13,be25_20,h56a,k57,b57] at hz
    have hr:r64 h fr ti l=((R64_1 h fr ti l l (-1) 1073741824 5).1,(R64_1 h fr ti l l (-1) 1073741824 5).2.1,(R64_1 h fr ti l l (-1) 1073741824 5).2.2):=(if_pos h4).trans ((onSum_inr hR6).trans ((if_pos h56).trans (rfl)))
    exact fin hz (by rw [hr]) g57
   ·skip
    have y59:aBuild Tryz.prog 51 [(2,.int .i64 5)]=some (.agg #[.int .i64 0,.int .i64 0,.int .i64 5]):=by kernel_rfl
    obtain ⟨S60,k60,n60,b60,q60⟩:=st_at (o:=0) (c':=[.int .i64 0,.int .i64 0,.int .i64 5]) (v:=.agg #[.int .i64 0,.int .i64 0,.int .i64 5]) tz51 be25_2 rfl rfl (show 0+3≤3 by decide) rfl
    have oce25_61:=ce25_0.frame (by omega) (fun id hid hb=>q60 id (fun e=>(show blkOf (.slice pu18 nu18 cu18)≠some S1.next from by first|exact ce25_0.ne (by omega)|exact ce25_0.new (by omega)|assumption) (e ▸ hb)))
    have g60:Agree S S60:=⟨by have:=(ge25).1; omega,fun id hid=>(q60 id (by have:=(ge25).1; omega)).trans ((ge25).2 id hid)⟩
    try simp (disch:=first|omega|assumption) only [E0_G,SY,off,agreeKind,partVals,ldA,rdCells,aggD,Nat.reduceAdd,Nat.reduceLT,Nat.reduceBEq,TY_EvH31,ge25_8,h56a,y59,k60,b60] at hz
    have hr:r64 h fr ti l=(0,0,5):=(if_pos h4).trans ((onSum_inr hR6).trans ((if_neg h56).trans (rfl)))
    exact fin hz (by rw [hr]) g60
  ·skip
   obtain ⟨r8_0,r8_1,r8_2,ge6_8,bc6_8,ge6,hR6⟩:=hQ6
   try simp (disch:=first|omega|assumption) only [SY,ldA,rdCells,aggD,Nat.reduceAdd,TY_EvH31,ge6_8,bc6_8] at hz
   have hr:r64 h fr ti l=(r8_0,r8_1,r8_2):=(if_pos h4).trans ((onSum_inl hR6).trans (rfl))
   exact fin hz (by rw [hr]) ge6
 ·skip
  have y62:aBuild Tryz.prog 51 [(2,.int .i64 (r104 h fr ti))]=some (.agg #[.int .i64 0,.int .i64 0,.int .i64 (r104 h fr ti)]):=by kernel_rfl
  obtain ⟨S63,k63,n63,b63,q63⟩:=st_at (o:=0) (c':=[.int .i64 0,.int .i64 0,.int .i64 (r104 h fr ti)]) (v:=.agg #[.int .i64 0,.int .i64 0,.int .i64 (r104 h fr ti)]) tz51 v2_3 rfl rfl (show 0+3≤3 by decide) rfl
  have g63:Agree S S63:=⟨by have:=(g3).1; omega,fun id hid=>(q63 id (by have:=(g3).1; omega)).trans ((g3).2 id hid)⟩
  try simp (disch:=first|omega|assumption) only [E0_G,SY,off,agreeKind,partVals,ldA,rdCells,aggD,Nat.reduceAdd,Nat.reduceLT,Nat.reduceBEq,TY_EvH31,h4a,y62,k63,b63] at hz
  have hr:r64 h fr ti l=(0,0,(r104 h fr ti)):=(if_neg h4).trans (rfl)
  exact fin hz (by rw [hr]) g63
def r12 (h:Hs) (fr:Int) (ti:Int) (l:List Int):Bool:=(if (r20 h)=true then (if 80<(l.length:Int) then true else (if ((r61 h (l:List Int) ti).1)=((r62 h (l:List Int) ti).1) then (if ((r61 h (l:List Int) ti).2)=((r62 h (l:List Int) ti).2) then (if ((r63 h fr ti (l:List Int)).1)=(((r64 h fr ti (l:List Int))).1) then (if ((r63 h fr ti (l:List Int)).2.1)=(((r64 h fr ti (l:List Int))).2.1) then decide (((r63 h fr ti (l:List Int)).2.2)=(((r64 h fr ti (l:List Int))).2.2)) else false) else false) else false) else false)) else true)
set_option maxHeartbeats 16000000 in
theorem c12 (h:Hs) (fr:Int) (ti:Int) (l:List Int) (hs:∀ x ∈ h.rooms,x.name.size≤9223372036854775807) (S:AS) (v_h_rooms:Value) (hv_h_rooms:LstR S v_h_rooms h.rooms) (v_h_doors:Value) (hv_h_doors:LstR S v_h_doors h.doors) (v_h_ways:Value) (hv_h_ways:Lst S v_h_ways h.ways) (v_l:Value) (hv_l:Lst S v_l l) :
  ∃ S',(evL Tryz.prog E0).call 12 #[.agg #[v_h_rooms,v_h_doors,v_h_ways],.int .i64 fr,.int .i64 ti,v_l] S=some (.bool (r12 h fr ti l),S')∧Agree S S':=by
 generalize hz:(evL Tryz.prog E0).call 12 _ _=z
 rw [L_call,evCall_said rfl Tryz.func12 rfl (by decide) Tryz.ntmps12 Tryz.results12] at hz
 obtain ⟨S1,e1,n1,b1,a1⟩:=push_open S (.cells [v_h_rooms,v_h_doors,v_h_ways] 26 0 true true)
 have g1:Agree S S1:=a1
 obtain ⟨S2,k2,a2⟩:=c20 h  S1 (v_h_rooms) (hv_h_rooms.agree g1) (v_h_doors) (hv_h_doors.agree g1) (v_h_ways) (hv_h_ways.agree g1)
 have l2:=a2.1
 have v1_2:=(a2.2 S.next (by omega)).trans b1
 have g2:Agree S S2:=g1.trans a2
 try simp (disch:=first|omega|assumption) only [E0_G,SY,setArgs,off,agreeKind,vals,boxed,ldA,rdCells,aggD,Nat.reduceAdd,Nat.reduceSub,Nat.reduceLT,Nat.reduceBEq,TY_EvH31,e1,b1,k2] at hz
 rcases dB ((r20 h)) with ⟨h3a,h3⟩|⟨h3a,h3⟩
 ·skip
  have w4:=(hv_l.agree g2).len (P:=Tryz.prog) (t:=54) Tryz.underlying54
  try simp (disch:=first|omega|assumption) only [E0_G,SY,off,agreeKind,Nat.reduceAdd,Nat.reduceLT,Nat.reduceBEq,h3a,w4] at hz
  rcases dP (80<(l.length:Int)) with ⟨h5a,h5⟩|⟨h5a,h5⟩
  ·skip
   try simp (disch:=first|omega|assumption) only [E0_G,SY,off,agreeKind,vals,Nat.reduceAdd,Nat.reduceLT,Nat.reduceBEq,h5a,c21s] at hz
   have hr:r12 h fr ti l=true:=(if_pos h3).trans ((if_pos h5).trans (rfl))
   exact fin hz (by rw [hr]) g2
  ·skip
   obtain ⟨S6,k6,a6⟩:=c61 h (l:List Int) ti (few_of (show r20 h=true by assumption)) hs (by omega) S2 (v_h_rooms) (hv_h_rooms.agree g2) (v_h_doors) (hv_h_doors.agree g2) (v_h_ways) (hv_h_ways.agree g2) (v_l) (hv_l.agree g2)
   have l6:=a6.1
   have v1_6:=(a6.2 S.next (by omega)).trans v1_2
   have g6:Agree S S6:=g2.trans a6
   obtain ⟨S7,k7,a7⟩:=c62 h (l:List Int) ti (few_of (show r20 h=true by assumption)) (by omega) S6 (v_h_rooms) (hv_h_rooms.agree g6) (v_h_doors) (hv_h_doors.agree g6) (v_h_ways) (hv_h_ways.agree g6) (v_l) (hv_l.agree g6)
   have l7:=a7.1
   have v1_7:=(a7.2 S.next (by omega)).trans v1_6
   have g7:Agree S S7:=g6.trans a7
   obtain ⟨S8,k8,a8⟩:=c63 h fr ti (l:List Int) (few_of (show r20 h=true by assumption)) hs (by omega) S7 (v_h_rooms) (hv_h_rooms.agree g7) (v_h_doors) (hv_h_doors.agree g7) (v_h_ways) (hv_h_ways.agree g7) (v_l) (hv_l.agree g7)
   have l8:=a8.1
   have v1_8:=(a8.2 S.next (by omega)).trans v1_7
   have g8:Agree S S8:=g7.trans a8
   obtain ⟨S9,k9,a9⟩:=c64 h fr ti (l:List Int) (few_of (show r20 h=true by assumption)) (by omega) S8 (v_h_rooms) (hv_h_rooms.agree g8) (v_h_doors) (hv_h_doors.agree g8) (v_h_ways) (hv_h_ways.agree g8) (v_l) (hv_l.agree g8)
   have l9:=a9.1
   have g9:Agree S S9:=g8.trans a9
   obtain ⟨S10,e10,n10,b10,a10⟩:=push_open S9 (.cells [.int .i64 0,.int .i64 0,.int .i64 0] 51 0 true true)
   have g10:Agree S S10:=g9.trans a10
   obtain ⟨S11,k11,n11,b11,q11⟩:=st_at (o:=0) (c':=[.int .i64 (((r64 h fr ti (l:List Int))).1),.int .i64 (((r64 h fr ti (l:List Int))).2.1),.int .i64 (((r64 h fr ti (l:List Int))).2.2)]) (v:=.agg #[.int .i64 (((r64 h fr ti (l:List Int))).1),.int .i64 (((r64 h fr ti (l:List Int))).2.1),.int .i64 (((r64 h fr ti (l:List Int))).2.2)]) tz51 b10 rfl rfl (show 0+3≤3 by decide) rfl
   have g11:Agree S S11:=⟨by have:=(g10).1; omega,fun id hid=>(q11 id (by have:=(g10).1; omega)).trans ((g10).2 id hid)⟩
   try simp (disch:=first|omega|assumption) only [E0_G,SY,off,agreeKind,vals,allocV,ldA,rdCells,aggD,aExtract,Nat.reduceAdd,Nat.reduceLT,Nat.reduceBEq,TY_EvH31,v1_2,h5a,k6,v1_6,k7,v1_7,k8,v1_8,k9,e10,k11,c21s] at hz
   rcases dP (((r61 h (l:List Int) ti).1)=((r62 h (l:List Int) ti).1)) with ⟨h12a,h12⟩|⟨h12a,h12⟩
   ·skip
    try simp (disch:=first|omega|assumption) only [E0_G,SY,off,agreeKind,Nat.reduceAdd,Nat.reduceLT,Nat.reduceBEq,h12a] at hz
    rcases dP (((r61 h (l:List Int) ti).2)=((r62 h (l:List Int) ti).2)) with ⟨h13a,h13⟩|⟨h13a,h13⟩
    ·skip
     try simp (disch:=first|omega|assumption) only [E0_G,SY,off,agreeKind,ldA,aggD,aField,Nat.reduceAdd,Nat.reduceLT,Nat.reduceBEq,TY_EvH31,b11,h13a] at hz
     rcases dP (((r63 h fr ti (l:List Int)).1)=(((r64 h fr ti (l:List Int))).1)) with ⟨h14a,h14⟩|⟨h14a,h14⟩
     ·skip
      try simp (disch:=first|omega|assumption) only [E0_G,SY,off,agreeKind,ldA,aggD,aField,Nat.reduceAdd,Nat.reduceLT,Nat.reduceBEq,TY_EvH31,b11,h14a] at hz
      rcases dP (((r63 h fr ti (l:List Int)).2.1)=(((r64 h fr ti (l:List Int))).2.1)) with ⟨h15a,h15⟩|⟨h15a,h15⟩
      ·skip
       try simp (disch:=first|omega|assumption) only [E0_G,SY,off,agreeKind,ldA,aggD,aField,Nat.reduceAdd,Nat.reduceLT,Nat.reduceBEq,TY_EvH31,b11,h15a] at hz
       have hr:r12 h fr ti l=decide (((r63 h fr ti (l:List Int)).2.2)=(((r64 h fr ti (l:List Int))).2.2)):=(if_pos h3).trans ((if_neg h5).trans ((if_pos h12).trans ((if_pos h13).trans ((if_pos h14).trans ((if_pos h15).trans (rfl))))))
       exact fin hz (by rw [hr]) g11
      ·skip
       try simp (disch:=first|omega|assumption) only [E0_G,SY,off,agreeKind,Nat.reduceAdd,Nat.reduceLT,Nat.reduceBEq,h15a] at hz
       have hr:r12 h fr ti l=false:=(if_pos h3).trans ((if_neg h5).trans ((if_pos h12).trans ((if_pos h13).trans ((if_pos h14).trans ((if_neg h15).trans (rfl))))))
       exact fin hz (by rw [hr]) g11
     ·skip
      try simp (disch:=first|omega|assumption) only [E0_G,SY,off,agreeKind,Nat.reduceAdd,Nat.reduceLT,Nat.reduceBEq,h14a] at hz
      have hr:r12 h fr ti l=false:=(if_pos h3).trans ((if_neg h5).trans ((if_pos h12).trans ((if_pos h13).trans ((if_neg h14).trans (rfl)))))
      exact fin hz (by rw [hr]) g11
    ·skip
     try simp (disch:=first|omega|assumption) only [E0_G,SY,off,agreeKind,Nat.reduceAdd,Nat.reduceLT,Nat.reduceBEq,h13a] at hz
     have hr:r12 h fr ti l=false:=(if_pos h3).trans ((if_neg h5).trans ((if_pos h12).trans ((if_neg h13).trans (rfl))))
     exact fin hz (by rw [hr]) g11
   ·skip
    try simp (disch:=first|omega|assumption) only [E0_G,SY,off,agreeKind,Nat.reduceAdd,Nat.reduceLT,Nat.reduceBEq,h12a] at hz
    have hr:r12 h fr ti l=false:=(if_pos h3).trans ((if_neg h5).trans ((if_neg h12).trans (rfl)))
    exact fin hz (by rw [hr]) g11
 ·skip
  try simp (disch:=first|omega|assumption) only [E0_G,SY,off,agreeKind,vals,Nat.reduceAdd,Nat.reduceLT,Nat.reduceBEq,h3a,c21s] at hz
  have hr:r12 h fr ti l=true:=(if_neg h3).trans (rfl)
  exact fin hz (by rw [hr]) g2
end House
end Go.Proofs
