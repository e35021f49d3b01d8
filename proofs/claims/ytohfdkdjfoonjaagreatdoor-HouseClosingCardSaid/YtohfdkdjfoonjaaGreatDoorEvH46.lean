import Derived.Test.YtohfdkdjfoonjaaGreatDoorBAF
set_option linter.unusedSimpArgs false
set_option linter.unusedVariables false
namespace Go.Proofs
namespace House
open Go Go.RowKit Go.Aev
set_option maxRecDepth 100000
theorem TY_EvH46:type_of% TY_EvH45:=TY_EvH45
theorem few_r65 {h:Hs} {d a b:Int} (hF:Few h):Few (r65 h d a b).1:=by
 have z:Few (⟨[],[],[]⟩:Hs):=⟨by decide,by decide,by decide,fun x hx=>by simp at hx⟩
 unfold r65
 split
 ·split
  ·split
   ·exact z
   ·rename_i h3
    refine ⟨hF.r,by simp only [List.length_set]; exact hF.d,hF.w,fun x hx=>?_⟩
    simp only at hx
    rcases List.mem_or_eq_of_mem_set hx with h|h
    ·exact hF.s x h
    ·subst h
     refine ⟨?_,by simp only; omega⟩
     simp only
     by_cases hd:Int.toNat d<h.doors.length
     ·exact (hF.s _ (List.mem_of_getElem? (lget_some hd))).1
     ·rw [List.set_eq_of_length_le (by omega)] at hx
      exact (hF.s _ hx).1
  ·exact z
 ·exact z
theorem few_len {g:Hs} (hF:Few g):g.rooms.length≤30∧g.doors.length≤20∧g.ways.length≤70:=⟨hF.r,hF.d,hF.w⟩
theorem names_r65 {h:Hs} {d a b:Int} (hs:∀ x ∈ h.rooms,x.name.size≤9223372036854775807):∀ x ∈ (r65 h d a b).1.rooms,x.name.size≤9223372036854775807:=by
 unfold r65
 split
 ·split
  ·split
   ·intro x hx; simp at hx
   ·exact hs
  ·intro x hx; simp at hx
 ·intro x hx; simp at hx
def R18_0 (h:Hs) (door:Int) (slo shi:Int) (a:Int) (ta:Int) (b:Int) (tb:Int) (tc:Int) (l:List Int)  : List Int→Nat→Sum (Bool) (Unit)
 | [],k=>.inr ()
 | x140 :: l',k=>(if ((lget ((r41 ((r65 h (r70 door (h.doors.length:Int)) slo shi).1) (r70 a (h.rooms.length:Int)) ta).1) k)<x140)∨((lget ((r43 h (r70 b (h.rooms.length:Int)) tb).1) k)<(lget ((r43 ((r65 h (r70 door (h.doors.length:Int)) slo shi).1) (r70 b (h.rooms.length:Int)) tb).1) k)) then .inl false else R18_0 h door slo shi a ta b tb tc l l' (k+1))
def r18 (h:Hs) (door:Int) (slo shi:Int) (a:Int) (ta:Int) (b:Int) (tb:Int) (tc:Int) (l:List Int):Bool:=(if (¬ ((r68 h)=true))∨(((h.doors.length:Int)=0)∨((¬ ((r69 ta)=true))∨((¬ ((r69 tb)=true))∨((¬ ((r69 tc)=true))∨(40<(l.length:Int)))))) then true else (if ((r65 h (r70 door (h.doors.length:Int)) slo shi).2)=0 then (if (¬ (((r41 h (r70 a (h.rooms.length:Int)) ta).2)=0))∨((¬ (((r41 ((r65 h (r70 door (h.doors.length:Int)) slo shi).1) (r70 a (h.rooms.length:Int)) ta).2)=0))∨((¬ (((r43 h (r70 b (h.rooms.length:Int)) tb).2)=0))∨((¬ (((r43 ((r65 h (r70 door (h.doors.length:Int)) slo shi).1) (r70 b (h.rooms.length:Int)) tb).2)=0))∨((¬ ((((r41 h (r70 a (h.rooms.length:Int)) ta).1).length:Int)=(h.rooms.length:Int)))∨((¬ ((((r41 ((r65 h (r70 door (h.doors.length:Int)) slo shi).1) (r70 a (h.rooms.length:Int)) ta).1).length:Int)=(((r41 h (r70 a (h.rooms.length:Int)) ta).1).length:Int)))∨((¬ ((((r43 h (r70 b (h.rooms.length:Int)) tb).1).length:Int)=(((r41 h (r70 a (h.rooms.length:Int)) ta).1).length:Int)))∨(¬ ((((r43 ((r65 h (r70 door (h.doors.length:Int)) slo shi).1) (r70 b (h.rooms.length:Int)) tb).1).length:Int)=(((r41 h (r70 a (h.rooms.length:Int)) ta).1).length:Int))))))))) then false else (onSum (R18_0 h door slo shi a ta b tb tc l ((r41 h (r70 a (h.rooms.length:Int)) ta).1) 0) (fun (rq18:Bool)=>rq18) (fun (_:Unit)=>(if ((r52 h (r70 a (h.rooms.length:Int)) ta (r70 b (h.rooms.length:Int)) tb (l:List Int))=0)∧(¬ ((r52 ((r65 h (r70 door (h.doors.length:Int)) slo shi).1) (r70 a (h.rooms.length:Int)) ta (r70 b (h.rooms.length:Int)) tb (l:List Int))=0)) then false else (if (((r54 h (r70 a (h.rooms.length:Int)) ta (r70 b (h.rooms.length:Int)) tb).2)=0)∧(¬ ((r52 ((r65 h (r70 door (h.doors.length:Int)) slo shi).1) (r70 a (h.rooms.length:Int)) ta (r70 b (h.rooms.length:Int)) tb ((r54 h (r70 a (h.rooms.length:Int)) ta (r70 b (h.rooms.length:Int)) tb).1:List Int))=0)) then false else decide ((((r26 h (r70 door (h.doors.length:Int)) tc).2)=0)∧((((r26 ((r65 h (r70 door (h.doors.length:Int)) slo shi).1) (r70 door (h.doors.length:Int)) tc).2)=0)∧(((((r26 h (r70 door (h.doors.length:Int)) tc).1)=true)∧(((r26 ((r65 h (r70 door (h.doors.length:Int)) slo shi).1) (r70 door (h.doors.length:Int)) tc).1)=(!(r71 tc slo shi))))∨((¬ (((r26 h (r70 door (h.doors.length:Int)) tc).1)=true))∧(((r26 ((r65 h (r70 door (h.doors.length:Int)) slo shi).1) (r70 door (h.doors.length:Int)) tc).1)=false)))))))))) else decide ((((((r65 h (r70 door (h.doors.length:Int)) slo shi).1.rooms).length+((r65 h (r70 door (h.doors.length:Int)) slo shi).1.doors).length)+((r65 h (r70 door (h.doors.length:Int)) slo shi).1.ways).length:Nat):Int)=0)))
set_option maxHeartbeats 16000000 in
theorem c18 (h:Hs) (door:Int) (slo shi:Int) (a:Int) (ta:Int) (b:Int) (tb:Int) (tc:Int) (l:List Int) (hs:∀ x ∈ h.rooms,x.name.size≤9223372036854775807) (S:AS) (v_h_rooms:Value) (hv_h_rooms:LstR S v_h_rooms h.rooms) (v_h_doors:Value) (hv_h_doors:LstR S v_h_doors h.doors) (v_h_ways:Value) (hv_h_ways:Lst S v_h_ways h.ways) (v_l:Value) (hv_l:Lst S v_l l) :
  ∃ S',(evL Tryz.prog E0).call 18 #[.agg #[v_h_rooms,v_h_doors,v_h_ways],.int .i64 door,.agg #[.int .i64 slo,.int .i64 shi],.int .i64 a,.int .i64 ta,.int .i64 b,.int .i64 tb,.int .i64 tc,v_l] S=some (.bool (r18 h door slo shi a ta b tb tc l),S')∧Agree S S':=by
 generalize hz:(evL Tryz.prog E0).call 18 _ _=z
 rw [L_call,evCall_said rfl Tryz.func18 rfl (by decide) Tryz.ntmps18 Tryz.results18] at hz
 obtain ⟨S1,e1,n1,b1,a1⟩:=push_open S (.cells [v_h_rooms,v_h_doors,v_h_ways] 26 0 true true)
 have g1:Agree S S1:=a1
 have s1:E0.same S S1=true:=symEnv_same a1
 obtain ⟨S2,e2,n2,b2,a2⟩:=push_open S1 (.cells [.int .i64 slo,.int .i64 shi] 36 0 true true)
 have v1_2:=(a2.2 S.next (by omega)).trans b1
 have g2:Agree S S2:=g1.trans a2
 have s2:E0.same S1 S2=true:=symEnv_same a2
 obtain ⟨S3,k3,a3⟩:=c68 h  S2 (v_h_rooms) (hv_h_rooms.agree g2) (v_h_doors) (hv_h_doors.agree g2) (v_h_ways) (hv_h_ways.agree g2)
 have l3:=a3.1
 have s3:E0.same S2 S3=true:=symEnv_same a3
 have v1_3:=(a3.2 S.next (by omega)).trans v1_2
 have v2_3:=(a3.2 S1.next (by omega)).trans b2
 have g3:Agree S S3:=g2.trans a3
 try simp (disch:=first|omega|assumption) only [E0_G,SY,setArgs,off,agreeKind,vals,boxed,ldA,rdCells,aggD,Nat.reduceAdd,Nat.reduceSub,Nat.reduceLT,Nat.reduceBEq,TY_EvH46,e1,v1_2,e2,k3] at hz
 generalize hL4:behind _ _=L4 at hz
 refine join_reg hL4 (fun t S'=>∃ (j4_0:Bool),j4_0=decide ((¬ ((r68 h)=true))∨(((h.doors.length:Int)=0)∨((¬ ((r69 ta)=true))∨((¬ ((r69 tb)=true))∨((¬ ((r69 tc)=true))∨(40<(l.length:Int)))))))∧t.get 1=some (.int .i64 door)∧t.get 3=some (.int .i64 a)∧t.get 4=some (.int .i64 ta)∧t.get 5=some (.int .i64 b)∧t.get 6=some (.int .i64 tb)∧t.get 7=some (.int .i64 tc)∧t.get 8=some (v_l)∧t.get 9=some (.pointer (some ⟨S.next,0,none⟩))∧t.get 11=some (.pointer (some ⟨S1.next,0,none⟩))∧t.get 67=some (.bool j4_0)∧S'.heap.get S.next=some (.cells [v_h_rooms,v_h_doors,v_h_ways] 26 0 true true)∧S'.heap.get S1.next=some (.cells [.int .i64 slo,.int .i64 shi] 36 0 true true)∧Agree S S'∧S3.next≤S'.next) (fun tl4=>?_) (fun t4 S4 hn4 hq4=>?_)
 ·try simp (disch:=first|omega|assumption) only [E0_G,SY,setArgs,off,agreeKind,partVals,vals,allocV,boxed,ldA,rdCells,oneB,aggD,aField,aFieldV,aExtract,eq_self,ne_eq,if_true,if_false,not_false_eq_true,Nat.reduceAdd,Nat.reduceSub,Nat.reduceMul,Nat.reduceLT,Nat.reduceEqDiff,Nat.reduceBEq,reduceIte,Int.reduceEq,Int.reduceLT,Int.reduceLE,reduceCtorEq,TY_EvH46,s1,e1,b1,v1_2,s2,e2,b2,k3,s3,v1_3,v2_3] at hL4
  rcases dB ((r68 h)) with ⟨h23a,h23⟩|⟨h23a,h23⟩
  ·have hV:=(r68_ok h23).2
   have lq24:=r68_len h23
   have lq25:=(r68_ok h23).1.r
   have w26:=(hv_h_doors.agree g3).len (P:=Tryz.prog) (t:=23) Tryz.underlying23
   try simp (disch:=first|omega|assumption) only [E0_G,SY,off,agreeKind,ldA,aggD,aField,Nat.reduceAdd,Nat.reduceLT,Nat.reduceBEq,TY_EvH46,v1_3,h23a,w26] at hL4
   rcases dP ((h.doors.length:Int)=0) with ⟨h27a,h27⟩|⟨h27a,h27⟩
   ·try simp (disch:=first|omega|assumption) only [E0_G,SY,off,agreeKind,Nat.reduceAdd,Nat.reduceLT,Nat.reduceBEq,h27a] at hL4
    refine tl4 _ _ hL4.symm ⟨true,by simp only [eq_true h23,eq_true h27,true_or,or_true,not_true_eq_false,decide_true],?_,?_,?_,?_,?_,?_,?_,?_,?_,?_,v1_3,v2_3,g3,by omega⟩<;>first|(simp only [SY,eq_self,Nat.reduceBEq]<;>rfl)|omega|assumption|(simp; omega)|simp
   obtain ⟨S28,k28,a28⟩:=c69 ta  S3
   have l28:=a28.1
   have s28:E0.same S3 S28=true:=symEnv_same a28
   have v1_28:=(a28.2 S.next (by omega)).trans v1_3
   have v2_28:=(a28.2 S1.next (by omega)).trans v2_3
   have g28:Agree S S28:=g3.trans a28
   try simp (disch:=first|omega|assumption) only [E0_G,SY,off,agreeKind,vals,Nat.reduceAdd,Nat.reduceLT,Nat.reduceBEq,h27a,k28] at hL4
   rcases dB ((r69 ta)) with ⟨h29a,h29⟩|⟨h29a,h29⟩
   ·have lq30:=r69_iff.1 h29
    have lq31:=r69_iff.1 h29
    obtain ⟨S32,k32,a32⟩:=c69 tb  S28
    have l32:=a32.1
    have s32:E0.same S28 S32=true:=symEnv_same a32
    have v1_32:=(a32.2 S.next (by omega)).trans v1_28
    have v2_32:=(a32.2 S1.next (by omega)).trans v2_28
    have g32:Agree S S32:=g28.trans a32
    try simp (disch:=first|omega|assumption) only [E0_G,SY,off,agreeKind,vals,Nat.reduceAdd,Nat.reduceLT,Nat.reduceBEq,h29a,k32] at hL4
    rcases dB ((r69 tb)) with ⟨h33a,h33⟩|⟨h33a,h33⟩
    ·have lq34:=r69_iff.1 h33
     have lq35:=r69_iff.1 h33
     obtain ⟨S36,k36,a36⟩:=c69 tc  S32
     have l36:=a36.1
     have s36:E0.same S32 S36=true:=symEnv_same a36
     have v1_36:=(a36.2 S.next (by omega)).trans v1_32
     have v2_36:=(a36.2 S1.next (by omega)).trans v2_32
     have g36:Agree S S36:=g32.trans a36
     try simp (disch:=first|omega|assumption) only [E0_G,SY,off,agreeKind,vals,Nat.reduceAdd,Nat.reduceLT,Nat.reduceBEq,h33a,k36] at hL4
     rcases dB ((r69 tc)) with ⟨h37a,h37⟩|⟨h37a,h37⟩
     ·have lq38:=r69_iff.1 h37
      have lq39:=r69_iff.1 h37
      have w40:=(hv_l.agree g36).len (P:=Tryz.prog) (t:=54) Tryz.underlying54
      try simp (disch:=first|omega|assumption) only [E0_G,SY,off,agreeKind,Nat.reduceAdd,Nat.reduceLT,Nat.reduceBEq,h37a,w40] at hL4
      refine tl4 _ _ hL4.symm ⟨decide (40<(l.length:Int)),by simp only [eq_true h23,eq_false h27,eq_true h29,eq_true h33,eq_true h37,false_or,not_true_eq_false],?_,?_,?_,?_,?_,?_,?_,?_,?_,?_,v1_36,v2_36,g36,by omega⟩<;>first|(simp only [SY,eq_self,Nat.reduceBEq]<;>rfl)|omega|assumption|(simp; omega)|simp
     try simp (disch:=first|omega|assumption) only [E0_G,SY,off,agreeKind,Nat.reduceAdd,Nat.reduceLT,Nat.reduceBEq,h37a] at hL4
     refine tl4 _ _ hL4.symm ⟨true,by simp only [eq_true h23,eq_false h27,eq_true h29,eq_true h33,eq_false h37,true_or,or_true,not_true_eq_false,not_false_eq_true,decide_true],?_,?_,?_,?_,?_,?_,?_,?_,?_,?_,v1_36,v2_36,g36,by omega⟩<;>first|(simp only [SY,eq_self,Nat.reduceBEq]<;>rfl)|omega|assumption|(simp; omega)|simp
    try simp (disch:=first|omega|assumption) only [E0_G,SY,off,agreeKind,Nat.reduceAdd,Nat.reduceLT,Nat.reduceBEq,h33a] at hL4
    refine tl4 _ _ hL4.symm ⟨true,by simp only [eq_true h23,eq_false h27,eq_true h29,eq_false h33,true_or,or_true,not_true_eq_false,not_false_eq_true,decide_true],?_,?_,?_,?_,?_,?_,?_,?_,?_,?_,v1_32,v2_32,g32,by omega⟩<;>first|(simp only [SY,eq_self,Nat.reduceBEq]<;>rfl)|omega|assumption|(simp; omega)|simp
   try simp (disch:=first|omega|assumption) only [E0_G,SY,off,agreeKind,Nat.reduceAdd,Nat.reduceLT,Nat.reduceBEq,h29a] at hL4
   refine tl4 _ _ hL4.symm ⟨true,by simp only [eq_true h23,eq_false h27,eq_false h29,true_or,or_true,not_true_eq_false,not_false_eq_true,decide_true],?_,?_,?_,?_,?_,?_,?_,?_,?_,?_,v1_28,v2_28,g28,by omega⟩<;>first|(simp only [SY,eq_self,Nat.reduceBEq]<;>rfl)|omega|assumption|(simp; omega)|simp
  try simp (disch:=first|omega|assumption) only [E0_G,SY,off,agreeKind,Nat.reduceAdd,Nat.reduceLT,Nat.reduceBEq,h23a] at hL4
  refine tl4 _ _ hL4.symm ⟨true,by simp only [eq_false h23,true_or,not_false_eq_true,decide_true],?_,?_,?_,?_,?_,?_,?_,?_,?_,?_,v1_3,v2_3,g3,by omega⟩<;>first|(simp only [SY,eq_self,Nat.reduceBEq]<;>rfl)|omega|assumption|(simp; omega)|simp
 subst hn4
 obtain ⟨j4_0,rfl,g4_1,g4_3,g4_4,g4_5,g4_6,g4_7,g4_8,g4_9,g4_11,g4_67,bj4_1,bj4_2,gj4,gl4⟩:=hq4
 try simp (disch:=first|omega|assumption) only [E0_G,SY,g4_67] at hz
 rcases dP ((¬ ((r68 h)=true))∨(((h.doors.length:Int)=0)∨((¬ ((r69 ta)=true))∨((¬ ((r69 tb)=true))∨((¬ ((r69 tc)=true))∨(40<(l.length:Int))))))) with ⟨h41a,h41⟩|⟨h41a,h41⟩
 ·simp only [h41a] at hz
  try simp (disch:=first|omega|assumption) only [E0_G,SY,off,agreeKind,vals,Nat.reduceAdd,Nat.reduceLT,Nat.reduceBEq,c21s] at hz
  have hr:r18 h door slo shi a ta b tb tc l=true:=(if_pos h41).trans (rfl)
  exact fin hz (by rw [hr]) gj4
 simp only [h41a] at hz
 have h42:(r68 h)=true:=(Decidable.not_not.1 (fun q_=>h41 (.inl q_)))
 have h42a:=id h42
 have hV:=(r68_ok h42).2
 have lq43:=r68_len h42
 have lq44:=(r68_ok h42).1.r
 have h45:¬ ((h.doors.length:Int)=0):=(fun q_=>(fun q_=>h41 (.inr q_)) (.inl q_))
 have h45a:=decide_eq_false h45
 have h46:(r69 ta)=true:=(Decidable.not_not.1 (fun q_=>(fun q_=>(fun q_=>h41 (.inr q_)) (.inr q_)) (.inl q_)))
 have h46a:=id h46
 have lq47:=r69_iff.1 h46
 have lq48:=r69_iff.1 h46
 have h49:(r69 tb)=true:=(Decidable.not_not.1 (fun q_=>(fun q_=>(fun q_=>(fun q_=>h41 (.inr q_)) (.inr q_)) (.inr q_)) (.inl q_)))
 have h49a:=id h49
 have lq50:=r69_iff.1 h49
 have lq51:=r69_iff.1 h49
 have h52:(r69 tc)=true:=(Decidable.not_not.1 (fun q_=>(fun q_=>(fun q_=>(fun q_=>(fun q_=>h41 (.inr q_)) (.inr q_)) (.inr q_)) (.inr q_)) (.inl q_)))
 have h52a:=id h52
 have lq53:=r69_iff.1 h52
 have lq54:=r69_iff.1 h52
 have h55:¬ (40<(l.length:Int)):=(fun q_=>(fun q_=>(fun q_=>(fun q_=>(fun q_=>h41 (.inr q_)) (.inr q_)) (.inr q_)) (.inr q_)) (.inr q_))
 have h55a:=decide_eq_false h55
 have w56:=(hv_h_doors.agree gj4).len (P:=Tryz.prog) (t:=23) Tryz.underlying23
 obtain ⟨S57,k57,a57⟩:=c70w door (h.doors.length:Int) (by have:=(r68_ok (h:=h) (by assumption)).1.r; have:=(r68_ok (h:=h) (by assumption)).1.d; omega) S4
 have l57:=a57.1
 have s57:E0.same S4 S57=true:=symEnv_same a57
 have v1_57:=(a57.2 S.next (by omega)).trans bj4_1
 have v2_57:=(a57.2 S1.next (by omega)).trans bj4_2
 have g57:Agree S S57:=gj4.trans a57
 have w58:=(hv_h_rooms.agree g57).len (P:=Tryz.prog) (t:=22) Tryz.underlying22
 obtain ⟨S59,k59,a59⟩:=c70w a (h.rooms.length:Int) (by have:=(r68_ok (h:=h) (by assumption)).1.r; have:=(r68_ok (h:=h) (by assumption)).1.d; omega) S57
 have l59:=a59.1
 have s59:E0.same S57 S59=true:=symEnv_same a59
 have v1_59:=(a59.2 S.next (by omega)).trans v1_57
 have v2_59:=(a59.2 S1.next (by omega)).trans v2_57
 have g59:Agree S S59:=g57.trans a59
 have w60:=(hv_h_rooms.agree g59).len (P:=Tryz.prog) (t:=22) Tryz.underlying22
 obtain ⟨S61,k61,a61⟩:=c70w b (h.rooms.length:Int) (by have:=(r68_ok (h:=h) (by assumption)).1.r; have:=(r68_ok (h:=h) (by assumption)).1.d; omega) S59
 have l61:=a61.1
 have s61:E0.same S59 S61=true:=symEnv_same a61
 have v1_61:=(a61.2 S.next (by omega)).trans v1_59
 have v2_61:=(a61.2 S1.next (by omega)).trans v2_59
 have g61:Agree S S61:=g59.trans a61
 obtain ⟨u62_0,u62_1,u62_2,S62,k62,a62,rd62_0,rd62_1,rd62_2⟩:=c65 h (r70 door (h.doors.length:Int)) slo shi (r68_ok (h:=h) (by assumption)).1 hs S61 (v_h_rooms) (hv_h_rooms.agree g61) (v_h_doors) (hv_h_doors.agree g61) (v_h_ways) (hv_h_ways.agree g61)
 have l62:=a62.1
 have s62:E0.same S61 S62=true:=symEnv_same a62
 have v1_62:=(a62.2 S.next (by omega)).trans v1_61
 have v2_62:=(a62.2 S1.next (by omega)).trans v2_61
 have g62:Agree S S62:=g61.trans a62
 have p62:=few_len (few_r65 (h:=h) (d:=(r70 door (h.doors.length:Int))) (a:=slo) (b:=shi) (r68_ok (h:=h) (by assumption)).1)
 obtain ⟨S63,e63,n63,b63,a63⟩:=push_open S62 (.cells [.slice none 0 0,.slice none 0 0,.slice none 0 0] 26 0 true true)
 have v1_63:=(a63.2 S.next (by omega)).trans v1_62
 have v2_63:=(a63.2 S1.next (by omega)).trans v2_62
 have rg64:=rd62_0.agree a63
 have rg65:=rd62_1.agree a63
 have rg66:=rd62_2.agree a63
 have g63:Agree S S63:=g62.trans a63
 have s63:E0.same S62 S63=true:=symEnv_same a63
 obtain ⟨S67,k67,n67,b67,q67⟩:=st_at (o:=0) (c':=[u62_0,u62_1,u62_2]) (v:=.agg #[u62_0,u62_1,u62_2]) tz26 b63 (by obtain ⟨p0_,n0_,c0_,e0_⟩:=(rg64).form; rw [e0_]; obtain ⟨p1_,n1_,c1_,e1_⟩:=(rg65).form; rw [e1_]; obtain ⟨p2_,n2_,c2_,e2_⟩:=(rg66).form; rw [e2_]; rfl) rfl (show 0+3≤3 by decide) rfl
 have v1_67:=(q67 S.next (by omega)).trans v1_63
 have v2_67:=(q67 S1.next (by omega)).trans v2_63
 have rd68:=LstR.box (α:=Rm) rg64 b63 (by decide) (by omega) q67
 have rd69:=LstR.box (α:=Dr) rg65 b63 (by decide) (by omega) q67
 have rd70:=Lst.box (β:=Wy) rg66 b63 (by decide) (by omega) q67
 have g67:Agree S S67:=⟨by have:=(g63).1; omega,fun id hid=>(q67 id (by have:=(g63).1; omega)).trans ((g63).2 id hid)⟩
 try simp (disch:=first|omega|assumption) only [E0_G,SY,off,agreeKind,vals,allocV,ldA,rdCells,aggD,aField,aExtract,Nat.reduceAdd,Nat.reduceLT,Nat.reduceBEq,TY_EvH46,g4_1,g4_3,g4_5,g4_9,g4_11,bj4_1,w56,k57,v1_57,w58,k59,v1_59,k61,v1_61,v2_61,k62,e63,k67] at hz
 rcases dP (((r65 h (r70 door (h.doors.length:Int)) slo shi).2)=0) with ⟨h71a,h71⟩|⟨h71a,h71⟩
 ·obtain ⟨u72,S72,k72,a72,oo72⟩:=c41 h (r70 a (h.rooms.length:Int)) ta (r68_ok (h:=h) (by assumption)).1 hs S67 (v_h_rooms) (hv_h_rooms.agree g67) (v_h_doors) (hv_h_doors.agree g67) (v_h_ways) (hv_h_ways.agree g67)
  have l72:=a72.1
  obtain ⟨pu72,nu72,cu72,rfl⟩:=own_slice oo72
  have s72:E0.same S67 S72=true:=symEnv_same a72
  have v1_72:=(a72.2 S.next (by omega)).trans v1_67
  have v2_72:=(a72.2 S1.next (by omega)).trans v2_67
  have v63_72:=(a72.2 S62.next (by omega)).trans b67
  have rg73:=rd68.agree a72
  have rg74:=rd69.agree a72
  have rg75:=rd70.agree a72
  have g72:Agree S S72:=g67.trans a72
  obtain ⟨u76,S76,k76,a76,oo76⟩:=c41 ((r65 h (r70 door (h.doors.length:Int)) slo shi).1) (r70 a (h.rooms.length:Int)) ta (few_r65 (r68_ok (h:=h) (by assumption)).1) (names_r65 hs) S72 (u62_0) (rg73) (u62_1) (rg74) (u62_2) (rg75)
  have l76:=a76.1
  obtain ⟨pu76,nu76,cu76,rfl⟩:=own_slice oo76
  have ap77:∀ b,blkOf (.slice pu72 nu72 cu72)=some b→blkOf (.slice pu76 nu76 cu76)≠some b:=fun b hb=>oo76.ne (Nat.lt_of_lt_of_le (oo72.lt hb) (by omega))
  have s76:E0.same S72 S76=true:=symEnv_same a76
  have v1_76:=(a76.2 S.next (by omega)).trans v1_72
  have v2_76:=(a76.2 S1.next (by omega)).trans v2_72
  have v63_76:=(a76.2 S62.next (by omega)).trans v63_72
  have o72_78:=oo72.agree a76
  have rg79:=rg73.agree a76
  have rg80:=rg74.agree a76
  have rg81:=rg75.agree a76
  have g76:Agree S S76:=g72.trans a76
  obtain ⟨u82,S82,k82,a82,oo82⟩:=c43 h (r70 b (h.rooms.length:Int)) tb (r68_ok (h:=h) (by assumption)).1 hs S76 (v_h_rooms) (hv_h_rooms.agree g76) (v_h_doors) (hv_h_doors.agree g76) (v_h_ways) (hv_h_ways.agree g76)
  have l82:=a82.1
  obtain ⟨pu82,nu82,cu82,rfl⟩:=own_slice oo82
  have ap83:∀ b,blkOf (.slice pu72 nu72 cu72)=some b→blkOf (.slice pu82 nu82 cu82)≠some b:=fun b hb=>oo82.ne (Nat.lt_of_lt_of_le (o72_78.lt hb) (by omega))
  have ap84:∀ b,blkOf (.slice pu76 nu76 cu76)=some b→blkOf (.slice pu82 nu82 cu82)≠some b:=fun b hb=>oo82.ne (Nat.lt_of_lt_of_le (oo76.lt hb) (by omega))
  have s82:E0.same S76 S82=true:=symEnv_same a82
  have v1_82:=(a82.2 S.next (by omega)).trans v1_76
  have v2_82:=(a82.2 S1.next (by omega)).trans v2_76
  have v63_82:=(a82.2 S62.next (by omega)).trans v63_76
  have o72_85:=o72_78.agree a82
  have o76_86:=oo76.agree a82
  have rg87:=rg79.agree a82
  have rg88:=rg80.agree a82
  have rg89:=rg81.agree a82
  have g82:Agree S S82:=g76.trans a82
  obtain ⟨u90,S90,k90,a90,oo90⟩:=c43 ((r65 h (r70 door (h.doors.length:Int)) slo shi).1) (r70 b (h.rooms.length:Int)) tb (few_r65 (r68_ok (h:=h) (by assumption)).1) (names_r65 hs) S82 (u62_0) (rg87) (u62_1) (rg88) (u62_2) (rg89)
  have l90:=a90.1
  obtain ⟨pu90,nu90,cu90,rfl⟩:=own_slice oo90
  have ap91:∀ b,blkOf (.slice pu72 nu72 cu72)=some b→blkOf (.slice pu90 nu90 cu90)≠some b:=fun b hb=>oo90.ne (Nat.lt_of_lt_of_le (o72_85.lt hb) (by omega))
  have ap92:∀ b,blkOf (.slice pu76 nu76 cu76)=some b→blkOf (.slice pu90 nu90 cu90)≠some b:=fun b hb=>oo90.ne (Nat.lt_of_lt_of_le (o76_86.lt hb) (by omega))
  have ap93:∀ b,blkOf (.slice pu82 nu82 cu82)=some b→blkOf (.slice pu90 nu90 cu90)≠some b:=fun b hb=>oo90.ne (Nat.lt_of_lt_of_le (oo82.lt hb) (by omega))
  have s90:E0.same S82 S90=true:=symEnv_same a90
  have v1_90:=(a90.2 S.next (by omega)).trans v1_82
  have v2_90:=(a90.2 S1.next (by omega)).trans v2_82
  have v63_90:=(a90.2 S62.next (by omega)).trans v63_82
  have o72_94:=o72_85.agree a90
  have o76_95:=o76_86.agree a90
  have o82_96:=oo82.agree a90
  have rg97:=rg87.agree a90
  have rg98:=rg88.agree a90
  have rg99:=rg89.agree a90
  have g90:Agree S S90:=g82.trans a90
  try simp (disch:=first|omega|assumption) only [E0_G,SY,off,agreeKind,vals,ldA,rdCells,aggD,aExtract,Nat.reduceAdd,Nat.reduceLT,Nat.reduceBEq,TY_EvH46,g4_4,g4_6,g4_9,v1_67,h71a,k72,v63_72,k76,v1_76,k82,v63_82,k90] at hz
  generalize hL100:behind _ _=L100 at hz
  refine join_reg hL100 (fun t S'=>∃ (j100_0:Bool),j100_0=decide ((¬ (((r41 h (r70 a (h.rooms.length:Int)) ta).2)=0))∨((¬ (((r41 ((r65 h (r70 door (h.doors.length:Int)) slo shi).1) (r70 a (h.rooms.length:Int)) ta).2)=0))∨((¬ (((r43 h (r70 b (h.rooms.length:Int)) tb).2)=0))∨((¬ (((r43 ((r65 h (r70 door (h.doors.length:Int)) slo shi).1) (r70 b (h.rooms.length:Int)) tb).2)=0))∨((¬ ((((r41 h (r70 a (h.rooms.length:Int)) ta).1).length:Int)=(h.rooms.length:Int)))∨((¬ ((((r41 ((r65 h (r70 door (h.doors.length:Int)) slo shi).1) (r70 a (h.rooms.length:Int)) ta).1).length:Int)=(((r41 h (r70 a (h.rooms.length:Int)) ta).1).length:Int)))∨((¬ ((((r43 h (r70 b (h.rooms.length:Int)) tb).1).length:Int)=(((r41 h (r70 a (h.rooms.length:Int)) ta).1).length:Int)))∨(¬ ((((r43 ((r65 h (r70 door (h.doors.length:Int)) slo shi).1) (r70 b (h.rooms.length:Int)) tb).1).length:Int)=(((r41 h (r70 a (h.rooms.length:Int)) ta).1).length:Int))))))))))∧t.get 4=some (.int .i64 ta)∧t.get 6=some (.int .i64 tb)∧t.get 7=some (.int .i64 tc)∧t.get 8=some (v_l)∧t.get 9=some (.pointer (some ⟨S.next,0,none⟩))∧t.get 11=some (.pointer (some ⟨S1.next,0,none⟩))∧t.get 19=some (.int .i64 (r70 door (h.doors.length:Int)))∧t.get 20=some (.int .i64 (r70 a (h.rooms.length:Int)))∧t.get 21=some (.int .i64 (r70 b (h.rooms.length:Int)))∧t.get 22=some (.pointer (some ⟨S62.next,0,none⟩))∧t.get 24=some (.slice pu72 nu72 cu72)∧t.get 26=some (.slice pu76 nu76 cu76)∧t.get 28=some (.slice pu82 nu82 cu82)∧t.get 30=some (.slice pu90 nu90 cu90)∧t.get 178=some (.bool j100_0)∧S90=S') (fun tl100=>?_) (fun t100 S100 hn100 hq100=>?_)
  ·try simp (disch:=first|omega|assumption) only [E0_G,SY,setArgs,off,agreeKind,partVals,vals,allocV,boxed,ldA,rdCells,oneB,aggD,aField,aFieldV,aExtract,eq_self,ne_eq,if_true,if_false,not_false_eq_true,Nat.reduceAdd,Nat.reduceSub,Nat.reduceMul,Nat.reduceLT,Nat.reduceEqDiff,Nat.reduceBEq,reduceIte,Int.reduceEq,Int.reduceLT,Int.reduceLE,reduceCtorEq,TY_EvH46,s1,e1,b1,v1_2,s2,e2,b2,k3,s3,v1_3,v2_3,g4_1,g4_3,g4_4,g4_5,g4_6,g4_7,g4_8,g4_9,g4_11,g4_67,bj4_1,bj4_2,h41a,h42a,h45a,h46a,h49a,h52a,h55a,w56,k57,s57,v1_57,v2_57,w58,k59,s59,v1_59,v2_59,w60,k61,s61,v1_61,v2_61,k62,s62,v1_62,v2_62,v1_63,v2_63,s63,e63,b63,v1_67,v2_67,k67,b67,h71a,k72,s72,v1_72,v2_72,v63_72,k76,s76,v1_76,v2_76,v63_76,k82,s82,v1_82,v2_82,v63_82,k90,s90,v1_90,v2_90,v63_90] at hL100
   rcases dP (((r41 h (r70 a (h.rooms.length:Int)) ta).2)=0) with ⟨h116a,h116⟩|⟨h116a,h116⟩
   ·try simp (disch:=first|omega|assumption) only [E0_G,SY,off,agreeKind,Nat.reduceAdd,Nat.reduceLT,Nat.reduceBEq,h116a] at hL100
    rcases dP (((r41 ((r65 h (r70 door (h.doors.length:Int)) slo shi).1) (r70 a (h.rooms.length:Int)) ta).2)=0) with ⟨h117a,h117⟩|⟨h117a,h117⟩
    ·try simp (disch:=first|omega|assumption) only [E0_G,SY,off,agreeKind,Nat.reduceAdd,Nat.reduceLT,Nat.reduceBEq,h117a] at hL100
     rcases dP (((r43 h (r70 b (h.rooms.length:Int)) tb).2)=0) with ⟨h118a,h118⟩|⟨h118a,h118⟩
     ·try simp (disch:=first|omega|assumption) only [E0_G,SY,off,agreeKind,Nat.reduceAdd,Nat.reduceLT,Nat.reduceBEq,h118a] at hL100
      rcases dP (((r43 ((r65 h (r70 door (h.doors.length:Int)) slo shi).1) (r70 b (h.rooms.length:Int)) tb).2)=0) with ⟨h119a,h119⟩|⟨h119a,h119⟩
      ·have w120:=(o72_94.rows).len (P:=Tryz.prog) (t:=54) Tryz.underlying54
       have w121:=(hv_h_rooms.agree g90).len (P:=Tryz.prog) (t:=22) Tryz.underlying22
       try simp (disch:=first|omega|assumption) only [E0_G,SY,off,agreeKind,ldA,aggD,aField,Nat.reduceAdd,Nat.reduceLT,Nat.reduceBEq,TY_EvH46,g4_9,w58,v1_90,h119a,w120] at hL100
       rcases dP ((((r41 h (r70 a (h.rooms.length:Int)) ta).1).length:Int)=(h.rooms.length:Int)) with ⟨h122a,h122⟩|⟨h122a,h122⟩
       ·have w123:=(o76_95.rows).len (P:=Tryz.prog) (t:=54) Tryz.underlying54
        have w124:=(o72_94.rows).len (P:=Tryz.prog) (t:=54) Tryz.underlying54
        try simp (disch:=first|omega|assumption) only [E0_G,SY,off,agreeKind,Nat.reduceAdd,Nat.reduceLT,Nat.reduceBEq,w120,h122a,w123] at hL100
        rcases dP ((((r41 ((r65 h (r70 door (h.doors.length:Int)) slo shi).1) (r70 a (h.rooms.length:Int)) ta).1).length:Int)=(((r41 h (r70 a (h.rooms.length:Int)) ta).1).length:Int)) with ⟨h125a,h125⟩|⟨h125a,h125⟩
        ·have w126:=(o82_96.rows).len (P:=Tryz.prog) (t:=54) Tryz.underlying54
         have w127:=(o72_94.rows).len (P:=Tryz.prog) (t:=54) Tryz.underlying54
         try simp (disch:=first|omega|assumption) only [E0_G,SY,off,agreeKind,Nat.reduceAdd,Nat.reduceLT,Nat.reduceBEq,w120,h125a,w126] at hL100
         rcases dP ((((r43 h (r70 b (h.rooms.length:Int)) tb).1).length:Int)=(((r41 h (r70 a (h.rooms.length:Int)) ta).1).length:Int)) with ⟨h128a,h128⟩|⟨h128a,h128⟩
         ·have w129:=(oo90.rows).len (P:=Tryz.prog) (t:=54) Tryz.underlying54
          have w130:=(o72_94.rows).len (P:=Tryz.prog) (t:=54) Tryz.underlying54
          try simp (disch:=first|omega|assumption) only [E0_G,SY,off,agreeKind,Nat.reduceAdd,Nat.reduceLT,Nat.reduceBEq,w120,h128a,w129] at hL100
          refine tl100 _ _ hL100.symm ⟨!(decide ((((r43 ((r65 h (r70 door (h.doors.length:Int)) slo shi).1) (r70 b (h.rooms.length:Int)) tb).1).length:Int)=(((r41 h (r70 a (h.rooms.length:Int)) ta).1).length:Int))),by simp only [eq_true h116,eq_true h117,eq_true h118,eq_true h119,eq_true h122,eq_true h125,eq_true h128,false_or,not_true_eq_false,decide_not],?_,?_,?_,?_,?_,?_,?_,?_,?_,?_,?_,?_,?_,?_,?_,rfl⟩<;>first|(simp only [SY,eq_self,Nat.reduceBEq,g4_4,g4_6,g4_7,g4_8,g4_9,g4_11]<;>rfl)|omega|assumption|(simp; omega)|simp
         try simp (disch:=first|omega|assumption) only [E0_G,SY,off,agreeKind,Nat.reduceAdd,Nat.reduceLT,Nat.reduceBEq,h128a] at hL100
         refine tl100 _ _ hL100.symm ⟨true,by simp only [eq_true h116,eq_true h117,eq_true h118,eq_true h119,eq_true h122,eq_true h125,eq_false h128,true_or,or_true,not_true_eq_false,not_false_eq_true,decide_true],?_,?_,?_,?_,?_,?_,?_,?_,?_,?_,?_,?_,?_,?_,?_,rfl⟩<;>first|(simp only [SY,eq_self,Nat.reduceBEq,g4_4,g4_6,g4_7,g4_8,g4_9,g4_11]<;>rfl)|omega|assumption|(simp; omega)|simp
        try simp (disch:=first|omega|assumption) only [E0_G,SY,off,agreeKind,Nat.reduceAdd,Nat.reduceLT,Nat.reduceBEq,h125a] at hL100
        refine tl100 _ _ hL100.symm ⟨true,by simp only [eq_true h116,eq_true h117,eq_true h118,eq_true h119,eq_true h122,eq_false h125,true_or,or_true,not_true_eq_false,not_false_eq_true,decide_true],?_,?_,?_,?_,?_,?_,?_,?_,?_,?_,?_,?_,?_,?_,?_,rfl⟩<;>first|(simp only [SY,eq_self,Nat.reduceBEq,g4_4,g4_6,g4_7,g4_8,g4_9,g4_11]<;>rfl)|omega|assumption|(simp; omega)|simp
       try simp (disch:=first|omega|assumption) only [E0_G,SY,off,agreeKind,Nat.reduceAdd,Nat.reduceLT,Nat.reduceBEq,h122a] at hL100
       refine tl100 _ _ hL100.symm ⟨true,by simp only [eq_true h116,eq_true h117,eq_true h118,eq_true h119,eq_false h122,true_or,or_true,not_true_eq_false,not_false_eq_true,decide_true],?_,?_,?_,?_,?_,?_,?_,?_,?_,?_,?_,?_,?_,?_,?_,rfl⟩<;>first|(simp only [SY,eq_self,Nat.reduceBEq,g4_4,g4_6,g4_7,g4_8,g4_9,g4_11]<;>rfl)|omega|assumption|(simp; omega)|simp
      try simp (disch:=first|omega|assumption) only [E0_G,SY,off,agreeKind,Nat.reduceAdd,Nat.reduceLT,Nat.reduceBEq,h119a] at hL100
      refine tl100 _ _ hL100.symm ⟨true,by simp only [eq_true h116,eq_true h117,eq_true h118,eq_false h119,true_or,or_true,not_true_eq_false,not_false_eq_true,decide_true],?_,?_,?_,?_,?_,?_,?_,?_,?_,?_,?_,?_,?_,?_,?_,rfl⟩<;>first|(simp only [SY,eq_self,Nat.reduceBEq,g4_4,g4_6,g4_7,g4_8,g4_9,g4_11]<;>rfl)|omega|assumption|(simp; omega)|simp
     try simp (disch:=first|omega|assumption) only [E0_G,SY,off,agreeKind,Nat.reduceAdd,Nat.reduceLT,Nat.reduceBEq,h118a] at hL100
     refine tl100 _ _ hL100.symm ⟨true,by simp only [eq_true h116,eq_true h117,eq_false h118,true_or,or_true,not_true_eq_false,not_false_eq_true,decide_true],?_,?_,?_,?_,?_,?_,?_,?_,?_,?_,?_,?_,?_,?_,?_,rfl⟩<;>first|(simp only [SY,eq_self,Nat.reduceBEq,g4_4,g4_6,g4_7,g4_8,g4_9,g4_11]<;>rfl)|omega|assumption|(simp; omega)|simp
    try simp (disch:=first|omega|assumption) only [E0_G,SY,off,agreeKind,Nat.reduceAdd,Nat.reduceLT,Nat.reduceBEq,h117a] at hL100
    refine tl100 _ _ hL100.symm ⟨true,by simp only [eq_true h116,eq_false h117,true_or,or_true,not_true_eq_false,not_false_eq_true,decide_true],?_,?_,?_,?_,?_,?_,?_,?_,?_,?_,?_,?_,?_,?_,?_,rfl⟩<;>first|(simp only [SY,eq_self,Nat.reduceBEq,g4_4,g4_6,g4_7,g4_8,g4_9,g4_11]<;>rfl)|omega|assumption|(simp; omega)|simp
   try simp (disch:=first|omega|assumption) only [E0_G,SY,off,agreeKind,Nat.reduceAdd,Nat.reduceLT,Nat.reduceBEq,h116a] at hL100
   refine tl100 _ _ hL100.symm ⟨true,by simp only [eq_false h116,true_or,not_false_eq_true,decide_true],?_,?_,?_,?_,?_,?_,?_,?_,?_,?_,?_,?_,?_,?_,?_,rfl⟩<;>first|(simp only [SY,eq_self,Nat.reduceBEq,g4_4,g4_6,g4_7,g4_8,g4_9,g4_11]<;>rfl)|omega|assumption|(simp; omega)|simp
  subst hn100
  obtain ⟨j100_0,rfl,g100_4,g100_6,g100_7,g100_8,g100_9,g100_11,g100_19,g100_20,g100_21,g100_22,g100_24,g100_26,g100_28,g100_30,g100_178,rfl⟩:=hq100
  try simp (disch:=first|omega|assumption) only [E0_G,SY,g100_178] at hz
  rcases dP ((¬ (((r41 h (r70 a (h.rooms.length:Int)) ta).2)=0))∨((¬ (((r41 ((r65 h (r70 door (h.doors.length:Int)) slo shi).1) (r70 a (h.rooms.length:Int)) ta).2)=0))∨((¬ (((r43 h (r70 b (h.rooms.length:Int)) tb).2)=0))∨((¬ (((r43 ((r65 h (r70 door (h.doors.length:Int)) slo shi).1) (r70 b (h.rooms.length:Int)) tb).2)=0))∨((¬ ((((r41 h (r70 a (h.rooms.length:Int)) ta).1).length:Int)=(h.rooms.length:Int)))∨((¬ ((((r41 ((r65 h (r70 door (h.doors.length:Int)) slo shi).1) (r70 a (h.rooms.length:Int)) ta).1).length:Int)=(((r41 h (r70 a (h.rooms.length:Int)) ta).1).length:Int)))∨((¬ ((((r43 h (r70 b (h.rooms.length:Int)) tb).1).length:Int)=(((r41 h (r70 a (h.rooms.length:Int)) ta).1).length:Int)))∨(¬ ((((r43 ((r65 h (r70 door (h.doors.length:Int)) slo shi).1) (r70 b (h.rooms.length:Int)) tb).1).length:Int)=(((r41 h (r70 a (h.rooms.length:Int)) ta).1).length:Int)))))))))) with ⟨h131a,h131⟩|⟨h131a,h131⟩
  ·simp only [h131a] at hz
   try simp (disch:=first|omega|assumption) only [E0_G,SY,off,agreeKind,Nat.reduceLT,Nat.reduceBEq] at hz
   have hr:r18 h door slo shi a ta b tb tc l=false:=(if_neg h41).trans ((if_pos h71).trans ((if_pos h131).trans (rfl)))
   exact fin hz (by rw [hr]) g90
  simp only [h131a] at hz
  have h132:((r41 h (r70 a (h.rooms.length:Int)) ta).2)=0:=(Decidable.not_not.1 (fun q_=>h131 (.inl q_)))
  have h132a:=decide_eq_true h132
  have h133:((r41 ((r65 h (r70 door (h.doors.length:Int)) slo shi).1) (r70 a (h.rooms.length:Int)) ta).2)=0:=(Decidable.not_not.1 (fun q_=>(fun q_=>h131 (.inr q_)) (.inl q_)))
  have h133a:=decide_eq_true h133
  have h134:((r43 h (r70 b (h.rooms.length:Int)) tb).2)=0:=(Decidable.not_not.1 (fun q_=>(fun q_=>(fun q_=>h131 (.inr q_)) (.inr q_)) (.inl q_)))
  have h134a:=decide_eq_true h134
  have h135:((r43 ((r65 h (r70 door (h.doors.length:Int)) slo shi).1) (r70 b (h.rooms.length:Int)) tb).2)=0:=(Decidable.not_not.1 (fun q_=>(fun q_=>(fun q_=>(fun q_=>h131 (.inr q_)) (.inr q_)) (.inr q_)) (.inl q_)))
  have h135a:=decide_eq_true h135
  have h136:(((r41 h (r70 a (h.rooms.length:Int)) ta).1).length:Int)=(h.rooms.length:Int):=(Decidable.not_not.1 (fun q_=>(fun q_=>(fun q_=>(fun q_=>(fun q_=>h131 (.inr q_)) (.inr q_)) (.inr q_)) (.inr q_)) (.inl q_)))
  have h136a:=decide_eq_true h136
  have h137:(((r41 ((r65 h (r70 door (h.doors.length:Int)) slo shi).1) (r70 a (h.rooms.length:Int)) ta).1).length:Int)=(((r41 h (r70 a (h.rooms.length:Int)) ta).1).length:Int):=(Decidable.not_not.1 (fun q_=>(fun q_=>(fun q_=>(fun q_=>(fun q_=>(fun q_=>h131 (.inr q_)) (.inr q_)) (.inr q_)) (.inr q_)) (.inr q_)) (.inl q_)))
  have h137a:=decide_eq_true h137
  have h138:(((r43 h (r70 b (h.rooms.length:Int)) tb).1).length:Int)=(((r41 h (r70 a (h.rooms.length:Int)) ta).1).length:Int):=(Decidable.not_not.1 (fun q_=>(fun q_=>(fun q_=>(fun q_=>(fun q_=>(fun q_=>(fun q_=>h131 (.inr q_)) (.inr q_)) (.inr q_)) (.inr q_)) (.inr q_)) (.inr q_)) (.inl q_)))
  have h138a:=decide_eq_true h138
  have h139:(((r43 ((r65 h (r70 door (h.doors.length:Int)) slo shi).1) (r70 b (h.rooms.length:Int)) tb).1).length:Int)=(((r41 h (r70 a (h.rooms.length:Int)) ta).1).length:Int):=(Decidable.not_not.1 (fun q_=>(fun q_=>(fun q_=>(fun q_=>(fun q_=>(fun q_=>(fun q_=>h131 (.inr q_)) (.inr q_)) (.inr q_)) (.inr q_)) (.inr q_)) (.inr q_)) (.inr q_)))
  have h139a:=decide_eq_true h139
  try simp (disch:=first|omega|assumption) only [E0_G,SY,off,agreeKind,Nat.reduceLT] at hz
  have hL1:=r41_len h (r70 a (h.rooms.length:Int)) ta
  generalize hL140:Rec.loop _ _ _ _=L140 at hz
  obtain ⟨x140,t140,S140e,rfl,hQ140⟩:=loop_met hL140 (fun m t S'=>∃ (k:Nat),m+k=((r41 h (r70 a (h.rooms.length:Int)) ta).1).length∧k≤((r41 h (r70 a (h.rooms.length:Int)) ta).1).length∧LstR S' u62_0 ((r65 h (r70 door (h.doors.length:Int)) slo shi).1.rooms)∧LstR S' u62_1 ((r65 h (r70 door (h.doors.length:Int)) slo shi).1.doors)∧Lst S' u62_2 ((r65 h (r70 door (h.doors.length:Int)) slo shi).1.ways)∧t.get 4=some (.int .i64 ta)∧t.get 6=some (.int .i64 tb)∧t.get 7=some (.int .i64 tc)∧t.get 8=some (v_l)∧t.get 9=some (.pointer (some ⟨S.next,0,none⟩))∧t.get 11=some (.pointer (some ⟨S1.next,0,none⟩))∧t.get 19=some (.int .i64 (r70 door (h.doors.length:Int)))∧t.get 20=some (.int .i64 (r70 a (h.rooms.length:Int)))∧t.get 21=some (.int .i64 (r70 b (h.rooms.length:Int)))∧t.get 22=some (.pointer (some ⟨S62.next,0,none⟩))∧t.get 24=some (.slice pu72 nu72 cu72)∧t.get 26=some (.slice pu76 nu76 cu76)∧t.get 28=some (.slice pu82 nu82 cu82)∧t.get 30=some (.slice pu90 nu90 cu90)∧t.get 32=some (.int .i64 (k:Int))∧S'.heap.get S.next=some (.cells [v_h_rooms,v_h_doors,v_h_ways] 26 0 true true)∧S'.heap.get S1.next=some (.cells [.int .i64 slo,.int .i64 shi] 36 0 true true)∧S'.heap.get S62.next=some (.cells [u62_0,u62_1,u62_2] 26 0 true true)∧Agree S S'∧S90.next≤S'.next∧Own 3 S67.next S' (.slice pu72 nu72 cu72) ((r41 h (r70 a (h.rooms.length:Int)) ta).1)∧Own 3 S72.next S' (.slice pu76 nu76 cu76) ((r41 ((r65 h (r70 door (h.doors.length:Int)) slo shi).1) (r70 a (h.rooms.length:Int)) ta).1)∧Own 3 S76.next S' (.slice pu82 nu82 cu82) ((r43 h (r70 b (h.rooms.length:Int)) tb).1)∧Own 3 S82.next S' (.slice pu90 nu90 cu90) ((r43 ((r65 h (r70 door (h.doors.length:Int)) slo shi).1) (r70 b (h.rooms.length:Int)) tb).1)∧R18_0 h door slo shi a ta b tb tc l (((r41 h (r70 a (h.rooms.length:Int)) ta).1).drop k) k=R18_0 h door slo shi a ta b tb tc l ((r41 h (r70 a (h.rooms.length:Int)) ta).1) 0)
   (fun x t S'=>(x=.exit 0∧∃ (k:Nat),t.get 4=some (.int .i64 ta)∧t.get 6=some (.int .i64 tb)∧t.get 7=some (.int .i64 tc)∧t.get 8=some (v_l)∧t.get 9=some (.pointer (some ⟨S.next,0,none⟩))∧t.get 11=some (.pointer (some ⟨S1.next,0,none⟩))∧t.get 19=some (.int .i64 (r70 door (h.doors.length:Int)))∧t.get 20=some (.int .i64 (r70 a (h.rooms.length:Int)))∧t.get 21=some (.int .i64 (r70 b (h.rooms.length:Int)))∧t.get 22=some (.pointer (some ⟨S62.next,0,none⟩))∧S'.heap.get S.next=some (.cells [v_h_rooms,v_h_doors,v_h_ways] 26 0 true true)∧S'.heap.get S1.next=some (.cells [.int .i64 slo,.int .i64 shi] 36 0 true true)∧S'.heap.get S62.next=some (.cells [u62_0,u62_1,u62_2] 26 0 true true)∧Agree S S'∧S90.next≤S'.next∧Own 3 S67.next S' (.slice pu72 nu72 cu72) ((r41 h (r70 a (h.rooms.length:Int)) ta).1)∧Own 3 S72.next S' (.slice pu76 nu76 cu76) ((r41 ((r65 h (r70 door (h.doors.length:Int)) slo shi).1) (r70 a (h.rooms.length:Int)) ta).1)∧Own 3 S76.next S' (.slice pu82 nu82 cu82) ((r43 h (r70 b (h.rooms.length:Int)) tb).1)∧Own 3 S82.next S' (.slice pu90 nu90 cu90) ((r43 ((r65 h (r70 door (h.doors.length:Int)) slo shi).1) (r70 b (h.rooms.length:Int)) tb).1)∧k≤((r41 h (r70 a (h.rooms.length:Int)) ta).1).length∧LstR S' u62_0 ((r65 h (r70 door (h.doors.length:Int)) slo shi).1.rooms)∧LstR S' u62_1 ((r65 h (r70 door (h.doors.length:Int)) slo shi).1.doors)∧Lst S' u62_2 ((r65 h (r70 door (h.doors.length:Int)) slo shi).1.ways)∧R18_0 h door slo shi a ta b tb tc l ((r41 h (r70 a (h.rooms.length:Int)) ta).1) 0=.inr ())∨(x=.ret∧∃ (rq18:Bool),t.get 18=some (.bool rq18)∧Agree S S'∧R18_0 h door slo shi a ta b tb tc l ((r41 h (r70 a (h.rooms.length:Int)) ta).1) 0=.inl (rq18))) (((r41 h (r70 a (h.rooms.length:Int)) ta).1).length - 0) (by refine ⟨0,?_,?_,?_,?_,?_,?_,?_,?_,?_,?_,?_,?_,?_,?_,?_,?_,?_,?_,?_,?_,v1_90,v2_90,v63_90,g90,Nat.le_refl _,o72_94,o76_95,o82_96,oo90,rfl⟩<;>first|(simp only [SY,eq_self,Nat.reduceBEq,g100_4,g100_6,g100_7,g100_8,g100_9,g100_11,g100_19,g100_20,g100_21,g100_22,g100_24,g100_26,g100_28,g100_30]<;>rfl)|omega|assumption|(simp; omega)|simp) (by
    rintro m t S140 ⟨k,hi140_0,hi140_1,hi140_2,hi140_3,hi140_4,g140_4,g140_6,g140_7,g140_8,g140_9,g140_11,g140_19,g140_20,g140_21,g140_22,g140_24,g140_26,g140_28,g140_30,g140_32,bb140_1,bb140_2,bb140_63,ga140,gn140,cw140_0,cw140_1,cw140_2,cw140_3,hd140⟩
    refine .run fun z he=>?_
    have w141:=(cw140_0.rows).len (P:=Tryz.prog) (t:=54) Tryz.underlying54
    try simp (disch:=first|omega|assumption) only [E0_G,SY,off,agreeKind,Nat.reduceAdd,Nat.reduceLT,Nat.reduceBEq,g140_24,g140_32,w141] at he
    rcases dP ((k:Int)<(((r41 h (r70 a (h.rooms.length:Int)) ta).1).length:Int)) with ⟨h142a,h142⟩|⟨h142a,h142⟩
    ·try simp (disch:=first|omega|assumption) only [SY,h142a] at he
     rw [code_draws _ _ _ (by kernel_rfl)] at he
     generalize hnd143:needy _=nd143 at he
     have hx140:((r41 h (r70 a (h.rooms.length:Int)) ta).1)[k]?=some (((r41 h (r70 a (h.rooms.length:Int)) ta).1)[k]'(by first|omega|simp; omega)):=List.getElem?_eq_getElem _
     generalize ((r41 h (r70 a (h.rooms.length:Int)) ta).1)[k]'_=x140 at hx140
     obtain ⟨id144,of144,cc144,ty144,wr144,ex144,i144,j144,l144,q144,lb144,bk144,oq144⟩:=cw140_0.at4 (P:=Tryz.prog) (t:=54) Tryz.underlying54 tz3 hx140
     have m144_0:cc144[of144]?=some (.int .i64 x140):=q144 0 (show 0<1 by decide)
     have hx145:((r41 ((r65 h (r70 door (h.doors.length:Int)) slo shi).1) (r70 a (h.rooms.length:Int)) ta).1)[k]?=some (lget ((r41 ((r65 h (r70 door (h.doors.length:Int)) slo shi).1) (r70 a (h.rooms.length:Int)) ta).1) k):=lget_some (by first|omega|simp; omega)
     obtain ⟨id145,of145,cc145,ty145,wr145,ex145,i145,j145,l145,q145,lb145,bk145,oq145⟩:=cw140_1.at4 (P:=Tryz.prog) (t:=54) Tryz.underlying54 tz3 hx145
     have m145_0:cc145[of145]?=some (.int .i64 (lget ((r41 ((r65 h (r70 door (h.doors.length:Int)) slo shi).1) (r70 a (h.rooms.length:Int)) ta).1) k)):=q145 0 (show 0<1 by decide)
     try simp (disch:=first|omega|assumption) only [E0_G,SY,agreeKind,ldA,aggD,Nat.reduceAdd,Nat.reduceLT,Nat.reduceBEq,TY_EvH46,g140_24,g140_26,g140_32,store_refl E0_same,i144,j144,m144_0,i145,j145,m145_0] at he
     generalize hL146:behind _ _=L146 at he
     refine join_reg hL146 (fun t S'=>∃ (j146_0:Bool),j146_0=decide (((lget ((r41 ((r65 h (r70 door (h.doors.length:Int)) slo shi).1) (r70 a (h.rooms.length:Int)) ta).1) k)<x140)∨((lget ((r43 h (r70 b (h.rooms.length:Int)) tb).1) k)<(lget ((r43 ((r65 h (r70 door (h.doors.length:Int)) slo shi).1) (r70 b (h.rooms.length:Int)) tb).1) k)))∧t.get 4=some (.int .i64 ta)∧t.get 6=some (.int .i64 tb)∧t.get 7=some (.int .i64 tc)∧t.get 8=some (v_l)∧t.get 9=some (.pointer (some ⟨S.next,0,none⟩))∧t.get 11=some (.pointer (some ⟨S1.next,0,none⟩))∧t.get 19=some (.int .i64 (r70 door (h.doors.length:Int)))∧t.get 20=some (.int .i64 (r70 a (h.rooms.length:Int)))∧t.get 21=some (.int .i64 (r70 b (h.rooms.length:Int)))∧t.get 22=some (.pointer (some ⟨S62.next,0,none⟩))∧t.get 24=some (.slice pu72 nu72 cu72)∧t.get 26=some (.slice pu76 nu76 cu76)∧t.get 28=some (.slice pu82 nu82 cu82)∧t.get 30=some (.slice pu90 nu90 cu90)∧t.get 32=some (.int .i64 (k:Int))∧t.get 204=some (.bool j146_0)∧S140=S') (fun tl146=>?_) (fun t146 S146 hn146 hq146=>?_)
     ·try simp (disch:=first|omega|assumption) only [E0_G,SY,setArgs,off,agreeKind,partVals,vals,allocV,boxed,ldA,rdCells,oneB,aggD,aField,aFieldV,aExtract,eq_self,ne_eq,if_true,if_false,not_false_eq_true,Nat.reduceAdd,Nat.reduceSub,Nat.reduceMul,Nat.reduceLT,Nat.reduceEqDiff,Nat.reduceBEq,reduceIte,Int.reduceEq,Int.reduceLT,Int.reduceLE,reduceCtorEq,TY_EvH46,g140_4,g140_6,g140_7,g140_8,g140_9,g140_11,g140_19,g140_20,g140_21,g140_22,g140_24,g140_26,g140_28,g140_30,g140_32,bb140_1,bb140_2,bb140_63,h41a,h42a,h45a,h46a,h49a,h52a,h55a,w56,w58,w60,h71a,h131a,h132a,h133a,h134a,h135a,h136a,h137a,h138a,h139a,w141,h142a,store_agree,store_refl E0_same,i144,j144,m144_0,i145,j145,m145_0] at hL146
      rcases dP ((lget ((r41 ((r65 h (r70 door (h.doors.length:Int)) slo shi).1) (r70 a (h.rooms.length:Int)) ta).1) k)<x140) with ⟨h150a,h150⟩|⟨h150a,h150⟩
      ·try simp (disch:=first|omega|assumption) only [E0_G,SY,agreeKind,Nat.reduceAdd,Nat.reduceLT,Nat.reduceBEq,store_refl E0_same,h150a] at hL146
       refine tl146 _ _ hL146.symm ⟨true,by simp only [eq_true h150,true_or,decide_true],?_,?_,?_,?_,?_,?_,?_,?_,?_,?_,?_,?_,?_,?_,?_,?_,rfl⟩<;>first|(simp only [SY,eq_self,Nat.reduceBEq,g140_4,g140_6,g140_7,g140_8,g140_9,g140_11,g140_19,g140_20,g140_21,g140_22,g140_24,g140_26,g140_28,g140_30,g140_32]<;>rfl)|omega|assumption|(simp; omega)|simp
      have hx151:((r43 h (r70 b (h.rooms.length:Int)) tb).1)[k]?=some (lget ((r43 h (r70 b (h.rooms.length:Int)) tb).1) k):=lget_some (by first|omega|simp; omega)
      obtain ⟨id151,of151,cc151,ty151,wr151,ex151,i151,j151,l151,q151,lb151,bk151,oq151⟩:=cw140_2.at4 (P:=Tryz.prog) (t:=54) Tryz.underlying54 tz3 hx151
      have m151_0:cc151[of151]?=some (.int .i64 (lget ((r43 h (r70 b (h.rooms.length:Int)) tb).1) k)):=q151 0 (show 0<1 by decide)
      have hx152:((r43 ((r65 h (r70 door (h.doors.length:Int)) slo shi).1) (r70 b (h.rooms.length:Int)) tb).1)[k]?=some (lget ((r43 ((r65 h (r70 door (h.doors.length:Int)) slo shi).1) (r70 b (h.rooms.length:Int)) tb).1) k):=lget_some (by first|omega|simp; omega)
      obtain ⟨id152,of152,cc152,ty152,wr152,ex152,i152,j152,l152,q152,lb152,bk152,oq152⟩:=cw140_3.at4 (P:=Tryz.prog) (t:=54) Tryz.underlying54 tz3 hx152
      have m152_0:cc152[of152]?=some (.int .i64 (lget ((r43 ((r65 h (r70 door (h.doors.length:Int)) slo shi).1) (r70 b (h.rooms.length:Int)) tb).1) k)):=q152 0 (show 0<1 by decide)
      try simp (disch:=first|omega|assumption) only [E0_G,SY,agreeKind,ldA,aggD,Nat.reduceAdd,Nat.reduceLT,Nat.reduceBEq,TY_EvH46,g140_28,g140_30,g140_32,store_refl E0_same,h150a,i151,j151,m151_0,i152,j152,m152_0] at hL146
      refine tl146 _ _ hL146.symm ⟨decide ((lget ((r43 h (r70 b (h.rooms.length:Int)) tb).1) k)<(lget ((r43 ((r65 h (r70 door (h.doors.length:Int)) slo shi).1) (r70 b (h.rooms.length:Int)) tb).1) k)),by simp only [eq_false h150,false_or],?_,?_,?_,?_,?_,?_,?_,?_,?_,?_,?_,?_,?_,?_,?_,?_,rfl⟩<;>first|(simp only [SY,eq_self,Nat.reduceBEq,g140_4,g140_6,g140_7,g140_8,g140_9,g140_11,g140_19,g140_20,g140_21,g140_22,g140_24,g140_26,g140_28,g140_30,g140_32]<;>rfl)|omega|assumption|(simp; omega)|simp
     subst hn146
     obtain ⟨j146_0,rfl,g146_4,g146_6,g146_7,g146_8,g146_9,g146_11,g146_19,g146_20,g146_21,g146_22,g146_24,g146_26,g146_28,g146_30,g146_32,g146_204,rfl⟩:=hq146
     try simp (disch:=first|omega|assumption) only [E0_G,SY,store_refl E0_same,g146_204] at he
     rcases dP (((lget ((r41 ((r65 h (r70 door (h.doors.length:Int)) slo shi).1) (r70 a (h.rooms.length:Int)) ta).1) k)<x140)∨((lget ((r43 h (r70 b (h.rooms.length:Int)) tb).1) k)<(lget ((r43 ((r65 h (r70 door (h.doors.length:Int)) slo shi).1) (r70 b (h.rooms.length:Int)) tb).1) k))) with ⟨h153a,h153⟩|⟨h153a,h153⟩
     ·simp only [h153a] at he
      try simp (disch:=first|omega|assumption) only [E0_G,SY,off,agreeKind,Nat.reduceLT,store_refl E0_same] at he
      rw [drop_cons' hx140] at hd140
      have hf:=(show _=(.inl false:Sum (Bool) (Unit)) from (if_pos h153).trans (rfl)).symm.trans hd140
      refine .ret he (.inr ⟨rfl,⟨false,?_,ga140,hf.symm⟩⟩)<;>first|(simp only [SY,eq_self,Nat.reduceBEq]<;>rfl)|omega|assumption|(simp; omega)|simp
     simp only [h153a] at he
     have h154:¬ ((lget ((r41 ((r65 h (r70 door (h.doors.length:Int)) slo shi).1) (r70 a (h.rooms.length:Int)) ta).1) k)<x140):=(fun q_=>h153 (.inl q_))
     have h154a:=decide_eq_false h154
     have h155:¬ ((lget ((r43 h (r70 b (h.rooms.length:Int)) tb).1) k)<(lget ((r43 ((r65 h (r70 door (h.doors.length:Int)) slo shi).1) (r70 b (h.rooms.length:Int)) tb).1) k)):=(fun q_=>h153 (.inr q_))
     have h155a:=decide_eq_false h155
     have w156:IntKind.i64.wrap ((k:Int)+1)=((k+1:Nat):Int):=by rw [IntWalk.i64_in]<;>omega
     try simp (disch:=first|omega|assumption) only [E0_G,SY,off,agreeKind,Nat.reduceAdd,Nat.reduceLT,Nat.reduceBEq,store_refl E0_same,g146_32,w156] at he
     rw [drop_cons' hx140] at hd140
     have hf:=(show _=(R18_0 h door slo shi a ta b tb tc l (((r41 h (r70 a (h.rooms.length:Int)) ta).1).drop (k+1)) (k+1):Sum (Bool) (Unit)) from (if_neg h153).trans (rfl)).symm.trans hd140
     refine .next he (m - 1) (by omega) ⟨(k+1),?_,?_,?_,?_,?_,?_,?_,?_,?_,?_,?_,?_,?_,?_,?_,?_,?_,?_,?_,?_,bb140_1,bb140_2,bb140_63,ga140,by omega,cw140_0,cw140_1,cw140_2,cw140_3,hf⟩<;>first|(simp only [SY,eq_self,Nat.reduceBEq,g146_4,g146_6,g146_7,g146_8,g146_9,g146_11,g146_19,g146_20,g146_21,g146_22,g146_24,g146_26,g146_28,g146_30,g146_32]<;>rfl)|omega|assumption|(simp; omega)|simp
    try simp (disch:=first|omega|assumption) only [SY,h142a] at he
    rw [List.drop_eq_nil_of_le (show ((r41 h (r70 a (h.rooms.length:Int)) ta).1).length≤k by omega)] at hd140
    have hf:=(show _=(.inr ():Sum (Bool) (Unit)) from rfl).symm.trans hd140
    refine .exit he (.inl ⟨rfl,⟨k,?_,?_,?_,?_,?_,?_,?_,?_,?_,?_,bb140_1,bb140_2,bb140_63,ga140,by omega,cw140_0,cw140_1,cw140_2,cw140_3,?_,?_,?_,?_,hf.symm⟩⟩)<;>first|(simp only [SY,eq_self,Nat.reduceBEq,g140_4,g140_6,g140_7,g140_8,g140_9,g140_11,g140_19,g140_20,g140_21,g140_22]<;>rfl)|omega|assumption|(simp; omega)|simp)
  rcases hQ140 with ⟨rfl,hQ140⟩|⟨rfl,hQ140⟩
  ·obtain ⟨k,ge140_4,ge140_6,ge140_7,ge140_8,ge140_9,ge140_11,ge140_19,ge140_20,ge140_21,ge140_22,be140_1,be140_2,be140_63,ge140,gm140,ce140_0,ce140_1,ce140_2,ce140_3,hj140_0,hj140_1,hj140_2,hj140_3,hR140⟩:=hQ140
   obtain ⟨S158,k158,a158⟩:=c52 h (r70 a (h.rooms.length:Int)) ta (r70 b (h.rooms.length:Int)) tb (l:List Int) (r68_ok (h:=h) (by assumption)).1 hs (by first|omega|exact r54_len _ _ _ _ _) S140e (v_h_rooms) (hv_h_rooms.agree ge140) (v_h_doors) (hv_h_doors.agree ge140) (v_h_ways) (hv_h_ways.agree ge140) (v_l) (hv_l.agree ge140)
   have l158:=a158.1
   have s158:E0.same S140e S158=true:=symEnv_same a158
   have v1_158:=(a158.2 S.next (by omega)).trans be140_1
   have v2_158:=(a158.2 S1.next (by omega)).trans be140_2
   have v63_158:=(a158.2 S62.next (by omega)).trans be140_63
   have oce140_159:=ce140_0.agree a158
   have oce140_160:=ce140_1.agree a158
   have oce140_161:=ce140_2.agree a158
   have oce140_162:=ce140_3.agree a158
   have rg163:=hj140_1.agree a158
   have rg164:=hj140_2.agree a158
   have rg165:=hj140_3.agree a158
   have g158:Agree S S158:=ge140.trans a158
   try simp (disch:=first|omega|assumption) only [E0_G,SY,off,agreeKind,vals,ldA,rdCells,aggD,eq_self,if_true,Nat.reduceAdd,Nat.reduceLT,Nat.reduceBEq,TY_EvH46,ge140_4,ge140_6,ge140_8,ge140_9,ge140_20,ge140_21,be140_1,k158] at hz
   generalize hL166:behind _ _=L166 at hz
   refine join_reg hL166 (fun t S'=>∃ (j166_0:Bool),j166_0=decide (((r52 h (r70 a (h.rooms.length:Int)) ta (r70 b (h.rooms.length:Int)) tb (l:List Int))=0)∧(¬ ((r52 ((r65 h (r70 door (h.doors.length:Int)) slo shi).1) (r70 a (h.rooms.length:Int)) ta (r70 b (h.rooms.length:Int)) tb (l:List Int))=0)))∧t.get 4=some (.int .i64 ta)∧t.get 6=some (.int .i64 tb)∧t.get 7=some (.int .i64 tc)∧t.get 9=some (.pointer (some ⟨S.next,0,none⟩))∧t.get 11=some (.pointer (some ⟨S1.next,0,none⟩))∧t.get 19=some (.int .i64 (r70 door (h.doors.length:Int)))∧t.get 20=some (.int .i64 (r70 a (h.rooms.length:Int)))∧t.get 21=some (.int .i64 (r70 b (h.rooms.length:Int)))∧t.get 22=some (.pointer (some ⟨S62.next,0,none⟩))∧t.get 222=some (.bool j166_0)∧S'.heap.get S.next=some (.cells [v_h_rooms,v_h_doors,v_h_ways] 26 0 true true)∧S'.heap.get S1.next=some (.cells [.int .i64 slo,.int .i64 shi] 36 0 true true)∧S'.heap.get S62.next=some (.cells [u62_0,u62_1,u62_2] 26 0 true true)∧Agree S S'∧S158.next≤S'.next∧LstR S' u62_0 ((r65 h (r70 door (h.doors.length:Int)) slo shi).1.rooms)∧LstR S' u62_1 ((r65 h (r70 door (h.doors.length:Int)) slo shi).1.doors)∧Lst S' u62_2 ((r65 h (r70 door (h.doors.length:Int)) slo shi).1.ways)) (fun tl166=>?_) (fun t166 S166 hn166 hq166=>?_)
   ·try simp (disch:=first|omega|assumption) only [E0_G,SY,setArgs,off,agreeKind,partVals,vals,allocV,boxed,ldA,rdCells,oneB,aggD,aField,aFieldV,aExtract,eq_self,ne_eq,if_true,if_false,not_false_eq_true,Nat.reduceAdd,Nat.reduceSub,Nat.reduceMul,Nat.reduceLT,Nat.reduceEqDiff,Nat.reduceBEq,reduceIte,Int.reduceEq,Int.reduceLT,Int.reduceLE,reduceCtorEq,TY_EvH46,h41a,h42a,h45a,h46a,h49a,h52a,h55a,w56,w58,w60,h71a,h131a,h132a,h133a,h134a,h135a,h136a,h137a,h138a,h139a,ge140_4,ge140_6,ge140_7,ge140_8,ge140_9,ge140_11,ge140_19,ge140_20,ge140_21,ge140_22,be140_1,be140_2,be140_63,k158,s158,v1_158,v2_158,v63_158] at hL166
    rcases dP ((r52 h (r70 a (h.rooms.length:Int)) ta (r70 b (h.rooms.length:Int)) tb (l:List Int))=0) with ⟨h176a,h176⟩|⟨h176a,h176⟩
    ·obtain ⟨S177,k177,a177⟩:=c52 ((r65 h (r70 door (h.doors.length:Int)) slo shi).1) (r70 a (h.rooms.length:Int)) ta (r70 b (h.rooms.length:Int)) tb (l:List Int) (few_r65 (r68_ok (h:=h) (by assumption)).1) (names_r65 hs) (by first|omega|exact r54_len _ _ _ _ _) S158 (u62_0) (rg163) (u62_1) (rg164) (u62_2) (rg165) (v_l) (hv_l.agree g158)
     have l177:=a177.1
     have s177:E0.same S158 S177=true:=symEnv_same a177
     have v1_177:=(a177.2 S.next (by omega)).trans v1_158
     have v2_177:=(a177.2 S1.next (by omega)).trans v2_158
     have v63_177:=(a177.2 S62.next (by omega)).trans v63_158
     have oce140_178:=oce140_159.agree a177
     have oce140_179:=oce140_160.agree a177
     have oce140_180:=oce140_161.agree a177
     have oce140_181:=oce140_162.agree a177
     have rg182:=rg163.agree a177
     have rg183:=rg164.agree a177
     have rg184:=rg165.agree a177
     have g177:Agree S S177:=g158.trans a177
     try simp (disch:=first|omega|assumption) only [E0_G,SY,off,agreeKind,vals,ldA,rdCells,aggD,Nat.reduceAdd,Nat.reduceLT,Nat.reduceBEq,TY_EvH46,ge140_4,ge140_6,ge140_8,ge140_20,ge140_21,ge140_22,v63_158,h176a,k177] at hL166
     refine tl166 _ _ hL166.symm ⟨!(decide ((r52 ((r65 h (r70 door (h.doors.length:Int)) slo shi).1) (r70 a (h.rooms.length:Int)) ta (r70 b (h.rooms.length:Int)) tb (l:List Int))=0)),by simp only [eq_true h176,true_and,decide_not],?_,?_,?_,?_,?_,?_,?_,?_,?_,?_,v1_177,v2_177,v63_177,g177,by omega,rg182,rg183,rg184⟩<;>first|(simp only [SY,eq_self,Nat.reduceBEq,ge140_4,ge140_6,ge140_7,ge140_9,ge140_11,ge140_19,ge140_20,ge140_21,ge140_22]<;>rfl)|omega|assumption|(simp; omega)|simp
    try simp (disch:=first|omega|assumption) only [E0_G,SY,off,agreeKind,Nat.reduceAdd,Nat.reduceLT,Nat.reduceBEq,h176a] at hL166
    refine tl166 _ _ hL166.symm ⟨false,by simp only [eq_false h176,false_and,decide_false],?_,?_,?_,?_,?_,?_,?_,?_,?_,?_,v1_158,v2_158,v63_158,g158,by omega,rg163,rg164,rg165⟩<;>first|(simp only [SY,eq_self,Nat.reduceBEq,ge140_4,ge140_6,ge140_7,ge140_9,ge140_11,ge140_19,ge140_20,ge140_21,ge140_22]<;>rfl)|omega|assumption|(simp; omega)|simp
   subst hn166
   obtain ⟨j166_0,rfl,g166_4,g166_6,g166_7,g166_9,g166_11,g166_19,g166_20,g166_21,g166_22,g166_222,bj166_1,bj166_2,bj166_63,gj166,gl166,rj166_0,rj166_1,rj166_2⟩:=hq166
   try simp (disch:=first|omega|assumption) only [E0_G,SY,g166_222] at hz
   rcases dP (((r52 h (r70 a (h.rooms.length:Int)) ta (r70 b (h.rooms.length:Int)) tb (l:List Int))=0)∧(¬ ((r52 ((r65 h (r70 door (h.doors.length:Int)) slo shi).1) (r70 a (h.rooms.length:Int)) ta (r70 b (h.rooms.length:Int)) tb (l:List Int))=0))) with ⟨h185a,h185⟩|⟨h185a,h185⟩
   ·simp only [h185a] at hz
    have h186:(r52 h (r70 a (h.rooms.length:Int)) ta (r70 b (h.rooms.length:Int)) tb (l:List Int))=0:=h185.1
    have h186a:=decide_eq_true h186
    have h187:¬ ((r52 ((r65 h (r70 door (h.doors.length:Int)) slo shi).1) (r70 a (h.rooms.length:Int)) ta (r70 b (h.rooms.length:Int)) tb (l:List Int))=0):=h185.2
    have h187a:=decide_eq_false h187
    try simp (disch:=first|omega|assumption) only [E0_G,SY,off,agreeKind,Nat.reduceLT,Nat.reduceBEq] at hz
    have hr:r18 h door slo shi a ta b tb tc l=false:=(if_neg h41).trans ((if_pos h71).trans ((if_neg h131).trans ((onSum_inr hR140).trans ((if_pos h185).trans (rfl)))))
    exact fin hz (by rw [hr]) gj166
   simp only [h185a] at hz
   obtain ⟨u188,S188,k188,a188,oo188⟩:=c54 h (r70 a (h.rooms.length:Int)) ta (r70 b (h.rooms.length:Int)) tb (r68_ok (h:=h) (by assumption)).1 hs S166 (v_h_rooms) (hv_h_rooms.agree gj166) (v_h_doors) (hv_h_doors.agree gj166) (v_h_ways) (hv_h_ways.agree gj166)
   have l188:=a188.1
   obtain ⟨pu188,nu188,cu188,rfl⟩:=own_slice oo188
   have s188:E0.same S166 S188=true:=symEnv_same a188
   have v1_188:=(a188.2 S.next (by omega)).trans bj166_1
   have v2_188:=(a188.2 S1.next (by omega)).trans bj166_2
   have v63_188:=(a188.2 S62.next (by omega)).trans bj166_63
   have rg189:=rj166_0.agree a188
   have rg190:=rj166_1.agree a188
   have rg191:=rj166_2.agree a188
   have g188:Agree S S188:=gj166.trans a188
   try simp (disch:=first|omega|assumption) only [E0_G,SY,off,agreeKind,vals,ldA,rdCells,aggD,aExtract,Nat.reduceAdd,Nat.reduceLT,Nat.reduceBEq,TY_EvH46,g166_4,g166_6,g166_9,g166_20,g166_21,bj166_1,k188] at hz
   generalize hL192:behind _ _=L192 at hz
   refine join_reg hL192 (fun t S'=>∃ (j192_0:Bool),j192_0=decide ((((r54 h (r70 a (h.rooms.length:Int)) ta (r70 b (h.rooms.length:Int)) tb).2)=0)∧(¬ ((r52 ((r65 h (r70 door (h.doors.length:Int)) slo shi).1) (r70 a (h.rooms.length:Int)) ta (r70 b (h.rooms.length:Int)) tb ((r54 h (r70 a (h.rooms.length:Int)) ta (r70 b (h.rooms.length:Int)) tb).1:List Int))=0)))∧t.get 7=some (.int .i64 tc)∧t.get 9=some (.pointer (some ⟨S.next,0,none⟩))∧t.get 11=some (.pointer (some ⟨S1.next,0,none⟩))∧t.get 19=some (.int .i64 (r70 door (h.doors.length:Int)))∧t.get 22=some (.pointer (some ⟨S62.next,0,none⟩))∧t.get 243=some (.bool j192_0)∧S'.heap.get S.next=some (.cells [v_h_rooms,v_h_doors,v_h_ways] 26 0 true true)∧S'.heap.get S1.next=some (.cells [.int .i64 slo,.int .i64 shi] 36 0 true true)∧S'.heap.get S62.next=some (.cells [u62_0,u62_1,u62_2] 26 0 true true)∧Agree S S'∧S188.next≤S'.next∧LstR S' u62_0 ((r65 h (r70 door (h.doors.length:Int)) slo shi).1.rooms)∧LstR S' u62_1 ((r65 h (r70 door (h.doors.length:Int)) slo shi).1.doors)∧Lst S' u62_2 ((r65 h (r70 door (h.doors.length:Int)) slo shi).1.ways)) (fun tl192=>?_) (fun t192 S192 hn192 hq192=>?_)
   ·try simp (disch:=first|omega|assumption) only [E0_G,SY,setArgs,off,agreeKind,partVals,vals,allocV,boxed,ldA,rdCells,oneB,aggD,aField,aFieldV,aExtract,eq_self,ne_eq,if_true,if_false,not_false_eq_true,Nat.reduceAdd,Nat.reduceSub,Nat.reduceMul,Nat.reduceLT,Nat.reduceEqDiff,Nat.reduceBEq,reduceIte,Int.reduceEq,Int.reduceLT,Int.reduceLE,reduceCtorEq,TY_EvH46,h41a,h42a,h45a,h46a,h49a,h52a,h55a,w56,w58,w60,h71a,h131a,h132a,h133a,h134a,h135a,h136a,h137a,h138a,h139a,ge140_4,ge140_6,ge140_7,ge140_8,ge140_9,ge140_11,ge140_19,ge140_20,ge140_21,ge140_22,be140_1,be140_2,be140_63,k158,s158,v1_158,v2_158,v63_158,g166_4,g166_6,g166_7,g166_9,g166_11,g166_19,g166_20,g166_21,g166_22,g166_222,bj166_1,bj166_2,bj166_63,h185a,k188,s188,v1_188,v2_188,v63_188] at hL192
    rcases dP (((r54 h (r70 a (h.rooms.length:Int)) ta (r70 b (h.rooms.length:Int)) tb).2)=0) with ⟨h199a,h199⟩|⟨h199a,h199⟩
    ·obtain ⟨S200,k200,a200⟩:=c52 ((r65 h (r70 door (h.doors.length:Int)) slo shi).1) (r70 a (h.rooms.length:Int)) ta (r70 b (h.rooms.length:Int)) tb ((r54 h (r70 a (h.rooms.length:Int)) ta (r70 b (h.rooms.length:Int)) tb).1:List Int) (few_r65 (r68_ok (h:=h) (by assumption)).1) (names_r65 hs) (by first|omega|exact r54_len _ _ _ _ _) S188 (u62_0) (rg189) (u62_1) (rg190) (u62_2) (rg191) (.slice pu188 nu188 cu188) (oo188.rows)
     have l200:=a200.1
     have s200:E0.same S188 S200=true:=symEnv_same a200
     have v1_200:=(a200.2 S.next (by omega)).trans v1_188
     have v2_200:=(a200.2 S1.next (by omega)).trans v2_188
     have v63_200:=(a200.2 S62.next (by omega)).trans v63_188
     have o188_201:=oo188.agree a200
     have rg202:=rg189.agree a200
     have rg203:=rg190.agree a200
     have rg204:=rg191.agree a200
     have g200:Agree S S200:=g188.trans a200
     try simp (disch:=first|omega|assumption) only [E0_G,SY,off,agreeKind,vals,ldA,rdCells,aggD,Nat.reduceAdd,Nat.reduceLT,Nat.reduceBEq,TY_EvH46,g166_4,g166_6,g166_20,g166_21,g166_22,v63_188,h199a,k200] at hL192
     refine tl192 _ _ hL192.symm ⟨!(decide ((r52 ((r65 h (r70 door (h.doors.length:Int)) slo shi).1) (r70 a (h.rooms.length:Int)) ta (r70 b (h.rooms.length:Int)) tb ((r54 h (r70 a (h.rooms.length:Int)) ta (r70 b (h.rooms.length:Int)) tb).1:List Int))=0)),by simp only [eq_true h199,true_and,decide_not],?_,?_,?_,?_,?_,?_,v1_200,v2_200,v63_200,g200,by omega,rg202,rg203,rg204⟩<;>first|(simp only [SY,eq_self,Nat.reduceBEq,g166_7,g166_9,g166_11,g166_19,g166_22]<;>rfl)|omega|assumption|(simp; omega)|simp
    try simp (disch:=first|omega|assumption) only [E0_G,SY,off,agreeKind,Nat.reduceAdd,Nat.reduceLT,Nat.reduceBEq,h199a] at hL192
    refine tl192 _ _ hL192.symm ⟨false,by simp only [eq_false h199,false_and,decide_false],?_,?_,?_,?_,?_,?_,v1_188,v2_188,v63_188,g188,by omega,rg189,rg190,rg191⟩<;>first|(simp only [SY,eq_self,Nat.reduceBEq,g166_7,g166_9,g166_11,g166_19,g166_22]<;>rfl)|omega|assumption|(simp; omega)|simp
   subst hn192
   obtain ⟨j192_0,rfl,g192_7,g192_9,g192_11,g192_19,g192_22,g192_243,bj192_1,bj192_2,bj192_63,gj192,gl192,rj192_0,rj192_1,rj192_2⟩:=hq192
   try simp (disch:=first|omega|assumption) only [E0_G,SY,g192_243] at hz
   rcases dP ((((r54 h (r70 a (h.rooms.length:Int)) ta (r70 b (h.rooms.length:Int)) tb).2)=0)∧(¬ ((r52 ((r65 h (r70 door (h.doors.length:Int)) slo shi).1) (r70 a (h.rooms.length:Int)) ta (r70 b (h.rooms.length:Int)) tb ((r54 h (r70 a (h.rooms.length:Int)) ta (r70 b (h.rooms.length:Int)) tb).1:List Int))=0))) with ⟨h205a,h205⟩|⟨h205a,h205⟩
   ·simp only [h205a] at hz
    have h206:((r54 h (r70 a (h.rooms.length:Int)) ta (r70 b (h.rooms.length:Int)) tb).2)=0:=h205.1
    have h206a:=decide_eq_true h206
    have h207:¬ ((r52 ((r65 h (r70 door (h.doors.length:Int)) slo shi).1) (r70 a (h.rooms.length:Int)) ta (r70 b (h.rooms.length:Int)) tb ((r54 h (r70 a (h.rooms.length:Int)) ta (r70 b (h.rooms.length:Int)) tb).1:List Int))=0):=h205.2
    have h207a:=decide_eq_false h207
    try simp (disch:=first|omega|assumption) only [E0_G,SY,off,agreeKind,Nat.reduceLT,Nat.reduceBEq] at hz
    have hr:r18 h door slo shi a ta b tb tc l=false:=(if_neg h41).trans ((if_pos h71).trans ((if_neg h131).trans ((onSum_inr hR140).trans ((if_neg h185).trans ((if_pos h205).trans (rfl))))))
    exact fin hz (by rw [hr]) gj192
   simp only [h205a] at hz
   obtain ⟨S208,k208,a208⟩:=c26 h (r70 door (h.doors.length:Int)) tc (r68_ok (h:=h) (by assumption)).1 hs S192 (v_h_rooms) (hv_h_rooms.agree gj192) (v_h_doors) (hv_h_doors.agree gj192) (v_h_ways) (hv_h_ways.agree gj192)
   have l208:=a208.1
   have s208:E0.same S192 S208=true:=symEnv_same a208
   have v1_208:=(a208.2 S.next (by omega)).trans bj192_1
   have v2_208:=(a208.2 S1.next (by omega)).trans bj192_2
   have v63_208:=(a208.2 S62.next (by omega)).trans bj192_63
   have rg209:=rj192_0.agree a208
   have rg210:=rj192_1.agree a208
   have rg211:=rj192_2.agree a208
   have g208:Agree S S208:=gj192.trans a208
   obtain ⟨S212,k212,a212⟩:=c26 ((r65 h (r70 door (h.doors.length:Int)) slo shi).1) (r70 door (h.doors.length:Int)) tc (few_r65 (r68_ok (h:=h) (by assumption)).1) (names_r65 hs) S208 (u62_0) (rg209) (u62_1) (rg210) (u62_2) (rg211)
   have l212:=a212.1
   have s212:E0.same S208 S212=true:=symEnv_same a212
   have v1_212:=(a212.2 S.next (by omega)).trans v1_208
   have v2_212:=(a212.2 S1.next (by omega)).trans v2_208
   have v63_212:=(a212.2 S62.next (by omega)).trans v63_208
   have rg213:=rg209.agree a212
   have rg214:=rg210.agree a212
   have rg215:=rg211.agree a212
   have g212:Agree S S212:=g208.trans a212
   try simp (disch:=first|omega|assumption) only [E0_G,SY,off,agreeKind,vals,ldA,rdCells,aggD,aExtract,Nat.reduceAdd,Nat.reduceLT,Nat.reduceBEq,TY_EvH46,g192_7,g192_9,g192_19,g192_22,bj192_1,k208,v63_208,k212,c21s] at hz
   generalize hL216:behind _ _=L216 at hz
   refine join_reg hL216 (fun t S'=>∃ (j216_0:Bool),j216_0=decide ((((r26 h (r70 door (h.doors.length:Int)) tc).2)=0)∧((((r26 ((r65 h (r70 door (h.doors.length:Int)) slo shi).1) (r70 door (h.doors.length:Int)) tc).2)=0)∧(((((r26 h (r70 door (h.doors.length:Int)) tc).1)=true)∧(((r26 ((r65 h (r70 door (h.doors.length:Int)) slo shi).1) (r70 door (h.doors.length:Int)) tc).1)=(!(r71 tc slo shi))))∨((¬ (((r26 h (r70 door (h.doors.length:Int)) tc).1)=true))∧(((r26 ((r65 h (r70 door (h.doors.length:Int)) slo shi).1) (r70 door (h.doors.length:Int)) tc).1)=false)))))∧t.get 18=some (.bool j216_0)∧Agree S S'∧S212.next≤S'.next∧LstR S' u62_0 ((r65 h (r70 door (h.doors.length:Int)) slo shi).1.rooms)∧LstR S' u62_1 ((r65 h (r70 door (h.doors.length:Int)) slo shi).1.doors)∧Lst S' u62_2 ((r65 h (r70 door (h.doors.length:Int)) slo shi).1.ways)) (fun tl216=>?_) (fun t216 S216 hn216 hq216=>?_)
   ·try simp (disch:=first|omega|assumption) only [E0_G,SY,setArgs,off,agreeKind,partVals,vals,allocV,boxed,ldA,rdCells,oneB,aggD,aField,aFieldV,aExtract,eq_self,ne_eq,if_true,if_false,not_false_eq_true,Nat.reduceAdd,Nat.reduceSub,Nat.reduceMul,Nat.reduceLT,Nat.reduceEqDiff,Nat.reduceBEq,reduceIte,Int.reduceEq,Int.reduceLT,Int.reduceLE,reduceCtorEq,TY_EvH46,h41a,h42a,h45a,h46a,h49a,h52a,h55a,w56,w58,w60,h71a,h131a,h132a,h133a,h134a,h135a,h136a,h137a,h138a,h139a,ge140_4,ge140_6,ge140_7,ge140_8,ge140_9,ge140_11,ge140_19,ge140_20,ge140_21,ge140_22,be140_1,be140_2,be140_63,k158,s158,v1_158,v2_158,v63_158,bj166_1,bj166_2,bj166_63,h185a,k188,s188,v1_188,v2_188,v63_188,g192_7,g192_9,g192_11,g192_19,g192_22,g192_243,bj192_1,bj192_2,bj192_63,h205a,k208,s208,v1_208,v2_208,v63_208,k212,s212,v1_212,v2_212,v63_212,c21s] at hL216
    rcases dP (((r26 h (r70 door (h.doors.length:Int)) tc).2)=0) with ⟨h224a,h224⟩|⟨h224a,h224⟩
    ·try simp (disch:=first|omega|assumption) only [E0_G,SY,off,agreeKind,Nat.reduceAdd,Nat.reduceLT,Nat.reduceBEq,h224a] at hL216
     rcases dP (((r26 ((r65 h (r70 door (h.doors.length:Int)) slo shi).1) (r70 door (h.doors.length:Int)) tc).2)=0) with ⟨h225a,h225⟩|⟨h225a,h225⟩
     ·try simp (disch:=first|omega|assumption) only [E0_G,SY,off,agreeKind,Nat.reduceAdd,Nat.reduceLT,Nat.reduceBEq,h225a] at hL216
      rcases dB ((r26 h (r70 door (h.doors.length:Int)) tc).1) with ⟨h226a,h226⟩|⟨h226a,h226⟩
      ·obtain ⟨S227,k227,a227⟩:=c71 tc slo shi  S212
       have l227:=a227.1
       have s227:E0.same S212 S227=true:=symEnv_same a227
       have rg228:=rg213.agree a227
       have rg229:=rg214.agree a227
       have rg230:=rg215.agree a227
       have g227:Agree S S227:=g212.trans a227
       try simp (disch:=first|omega|assumption) only [E0_G,SY,off,agreeKind,vals,ldA,aggD,aField,Nat.reduceAdd,Nat.reduceLT,Nat.reduceBEq,TY_EvH46,g192_7,g192_11,v2_212,h226a,k227] at hL216
       refine tl216 _ _ hL216.symm ⟨decide (((r26 ((r65 h (r70 door (h.doors.length:Int)) slo shi).1) (r70 door (h.doors.length:Int)) tc).1)=(!(r71 tc slo shi))),by simp only [eq_true h224,eq_true h225,eq_true h226,true_and,false_and,or_false,not_true_eq_false],?_,g227,by omega,rg228,rg229,rg230⟩<;>first|(simp only [SY,eq_self,Nat.reduceBEq]<;>rfl)|omega|assumption|(simp; omega)|simp
      try simp (disch:=first|omega|assumption) only [E0_G,SY,off,agreeKind,Nat.reduceAdd,Nat.reduceLT,Nat.reduceBEq,TY_EvH46,h226a] at hL216
      refine tl216 _ _ hL216.symm ⟨decide (((r26 ((r65 h (r70 door (h.doors.length:Int)) slo shi).1) (r70 door (h.doors.length:Int)) tc).1)=false),by simp only [eq_true h224,eq_true h225,eq_false h226,true_and,false_and,false_or,not_false_eq_true],?_,g212,by omega,rg213,rg214,rg215⟩<;>first|(simp only [SY,eq_self,Nat.reduceBEq]<;>rfl)|omega|assumption|(simp; omega)|simp
     try simp (disch:=first|omega|assumption) only [E0_G,SY,off,agreeKind,Nat.reduceAdd,Nat.reduceLT,Nat.reduceBEq,h225a] at hL216
     refine tl216 _ _ hL216.symm ⟨false,by simp only [eq_true h224,eq_false h225,false_and,and_false,decide_false],?_,g212,by omega,rg213,rg214,rg215⟩<;>first|(simp only [SY,eq_self,Nat.reduceBEq]<;>rfl)|omega|assumption|(simp; omega)|simp
    try simp (disch:=first|omega|assumption) only [E0_G,SY,off,agreeKind,Nat.reduceAdd,Nat.reduceLT,Nat.reduceBEq,h224a] at hL216
    refine tl216 _ _ hL216.symm ⟨false,by simp only [eq_false h224,false_and,decide_false],?_,g212,by omega,rg213,rg214,rg215⟩<;>first|(simp only [SY,eq_self,Nat.reduceBEq]<;>rfl)|omega|assumption|(simp; omega)|simp
   subst hn216
   obtain ⟨j216_0,rfl,g216_18,gj216,gl216,rj216_0,rj216_1,rj216_2⟩:=hq216
   try simp (disch:=first|omega|assumption) only [SY,g216_18] at hz
   have hr:r18 h door slo shi a ta b tb tc l=decide ((((r26 h (r70 door (h.doors.length:Int)) tc).2)=0)∧((((r26 ((r65 h (r70 door (h.doors.length:Int)) slo shi).1) (r70 door (h.doors.length:Int)) tc).2)=0)∧(((((r26 h (r70 door (h.doors.length:Int)) tc).1)=true)∧(((r26 ((r65 h (r70 door (h.doors.length:Int)) slo shi).1) (r70 door (h.doors.length:Int)) tc).1)=(!(r71 tc slo shi))))∨((¬ (((r26 h (r70 door (h.doors.length:Int)) tc).1)=true))∧(((r26 ((r65 h (r70 door (h.doors.length:Int)) slo shi).1) (r70 door (h.doors.length:Int)) tc).1)=false))))):=(if_neg h41).trans ((if_pos h71).trans ((if_neg h131).trans ((onSum_inr hR140).trans ((if_neg h185).trans ((if_neg h205).trans (rfl))))))
   exact fin hz (by rw [hr]) gj216
  obtain ⟨rq18,ge140_18,ge140,hR140⟩:=hQ140
  try simp (disch:=first|omega|assumption) only [SY,ge140_18] at hz
  have hr:r18 h door slo shi a ta b tb tc l=rq18:=(if_neg h41).trans ((if_pos h71).trans ((if_neg h131).trans ((onSum_inl hR140).trans (rfl))))
  exact fin hz (by rw [hr]) ge140
 have w231:=(rd68).len (P:=Tryz.prog) (t:=22) Tryz.underlying22
 have w232:=(rd69).len (P:=Tryz.prog) (t:=23) Tryz.underlying23
 have w233:IntKind.i64.wrap ((((r65 h (r70 door (h.doors.length:Int)) slo shi).1.rooms).length:Int)+(((r65 h (r70 door (h.doors.length:Int)) slo shi).1.doors).length:Int))=((((r65 h (r70 door (h.doors.length:Int)) slo shi).1.rooms).length+((r65 h (r70 door (h.doors.length:Int)) slo shi).1.doors).length:Nat):Int):=by rw [IntWalk.i64_in]<;>omega
 have w234:=(rd70).len (P:=Tryz.prog) (t:=24) Tryz.underlying24
 have w235:IntKind.i64.wrap (((((r65 h (r70 door (h.doors.length:Int)) slo shi).1.rooms).length+((r65 h (r70 door (h.doors.length:Int)) slo shi).1.doors).length:Nat):Int)+(((r65 h (r70 door (h.doors.length:Int)) slo shi).1.ways).length:Int))=(((((r65 h (r70 door (h.doors.length:Int)) slo shi).1.rooms).length+((r65 h (r70 door (h.doors.length:Int)) slo shi).1.doors).length)+((r65 h (r70 door (h.doors.length:Int)) slo shi).1.ways).length:Nat):Int):=by rw [IntWalk.i64_in]<;>omega
 try simp (disch:=first|omega|assumption) only [E0_G,SY,off,agreeKind,vals,ldA,aggD,aField,Nat.reduceAdd,Nat.reduceLT,Nat.reduceBEq,TY_EvH46,b67,h71a,c21s,w231,w232,w233,w234,w235] at hz
 have hr:r18 h door slo shi a ta b tb tc l=decide ((((((r65 h (r70 door (h.doors.length:Int)) slo shi).1.rooms).length+((r65 h (r70 door (h.doors.length:Int)) slo shi).1.doors).length)+((r65 h (r70 door (h.doors.length:Int)) slo shi).1.ways).length:Nat):Int)=0):=(if_neg h41).trans ((if_neg h71).trans (rfl))
 exact fin hz (by rw [hr]) g67
end House
end Go.Proofs
