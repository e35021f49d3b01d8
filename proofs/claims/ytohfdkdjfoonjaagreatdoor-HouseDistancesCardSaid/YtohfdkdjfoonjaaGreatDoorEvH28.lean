import Derived.Test.YtohfdkdjfoonjaaGreatDoorBU
set_option linter.unusedSimpArgs false
set_option linter.unusedVariables false
namespace Go.Proofs
namespace House
open Go Go.RowKit Go.Aev
set_option maxRecDepth 100000
theorem TY_EvH28:type_of% TY_EvH27:=TY_EvH27
def r49 (h:Hs) (a:Int) (ta:Int) (b:Int) (tb:Int):Int:=(if (r104 h a ta)=0 then (r104 h b tb) else (r104 h a ta))
set_option maxHeartbeats 8000000 in
theorem c49 (h:Hs) (a:Int) (ta:Int) (b:Int) (tb:Int) (hF:Few h) (S:AS) (v_h_rooms:Value) (hv_h_rooms:LstR S v_h_rooms h.rooms) (v_h_doors:Value) (hv_h_doors:LstR S v_h_doors h.doors) (v_h_ways:Value) (hv_h_ways:Lst S v_h_ways h.ways) :
  ∃ S',(evL Tryz.prog E0).call 49 #[.agg #[v_h_rooms,v_h_doors,v_h_ways],.int .i64 a,.int .i64 ta,.int .i64 b,.int .i64 tb] S=some (.int .i64 (r49 h a ta b tb),S')∧Agree S S':=by
 have qr:=hF.r; have qd:=hF.d; have qw:=hF.w
 generalize hz:(evL Tryz.prog E0).call 49 _ _=z
 rw [L_call,evCall_said rfl Tryz.func49 rfl (by decide) Tryz.ntmps49 Tryz.results49] at hz
 obtain ⟨S1,e1,n1,b1,a1⟩:=push_open S (.cells [v_h_rooms,v_h_doors,v_h_ways] 26 0 true true)
 have g1:Agree S S1:=a1
 obtain ⟨S2,k2,a2⟩:=c104 h a ta hF S1 (v_h_rooms) (hv_h_rooms.agree g1) (v_h_doors) (hv_h_doors.agree g1) (v_h_ways) (hv_h_ways.agree g1)
 have l2:=a2.1
 have v1_2:=(a2.2 S.next (by omega)).trans b1
 have g2:Agree S S2:=g1.trans a2
 try simp only [E0_G,SY,setArgs,off,agreeKind,vals,boxed,ldA,rdCells,aggD,Nat.reduceAdd,Nat.reduceSub,Nat.reduceLT,Nat.reduceBEq,TY_EvH28,e1,b1,k2] at hz
 rcases dP ((r104 h a ta)=0) with ⟨h3a,h3⟩|⟨h3a,h3⟩
 ·have hV:=(r104_ok h3).1
  have lq4:=(r104_ok h3).2
  obtain ⟨S5,k5,a5⟩:=c104 h b tb hF S2 (v_h_rooms) (hv_h_rooms.agree g2) (v_h_doors) (hv_h_doors.agree g2) (v_h_ways) (hv_h_ways.agree g2)
  have l5:=a5.1
  have g5:Agree S S5:=g2.trans a5
  try simp only [E0_G,SY,off,agreeKind,vals,ldA,rdCells,aggD,Nat.reduceAdd,Nat.reduceLT,Nat.reduceBEq,TY_EvH28,v1_2,h3a,k5] at hz
  have hr:r49 h a ta b tb=(r104 h b tb):=(if_pos h3).trans (rfl)
  exact fin hz (by rw [hr]) g5
 try simp only [E0_G,SY,off,agreeKind,Nat.reduceAdd,Nat.reduceLT,Nat.reduceBEq,h3a] at hz
 have hr:r49 h a ta b tb=(r104 h a ta):=(if_neg h3).trans (rfl)
 exact fin hz (by rw [hr]) g2
theorem r49_ok {h:Hs} {a ta b tb:Int} (e:r49 h a ta b tb=0):r59 h=0∧(0≤a∧a<(h.rooms.length:Int))∧(0≤ta∧ta≤1073741823)∧(0≤b∧b<(h.rooms.length:Int))∧(0≤tb∧tb≤1073741823):=by
 unfold r49 at e
 split at e
 ·rename_i h1
  have q:=r104_ok h1
  have k:=r104_ok e
  exact ⟨q.1,⟨q.2.1,q.2.2.1⟩,q.2.2.2,⟨k.2.1,k.2.2.1⟩,k.2.2.2⟩
 ·rename_i h1; exact absurd e h1
theorem r106_len {h:Hs} (hV:r59 h=0) {fr ti:Int} (ht:0≤ti∧ti≤1073741823):(r106 h fr ti).length=h.rooms.length:=(r109_tm (rooms:=h.rooms.length) (fr:=fr) ht (psg_hg hV)).1.len
theorem R50_3_len (h:Hs) (fr ti:Int) (out:List Int) (done:List Bool) (nv:Nat):∀ (m:List Gt) (o:List Int),(R50_3 h fr ti out done nv m o).length=o.length:=by
 intro m
 induction m with
 | nil=>intro o; rfl
 | cons g m ih=>intro o; rw [R50_3]; split<;>rw [ih]; rw [List.length_set]
theorem R50_1_len (h:Hs) (fr ti:Int):∀ (m:List Rm) (o:List Int) (d:List Bool) (nv:Nat),(onSum (R50_1 h fr ti m o d nv) (fun r=>r) (fun r=>r)).length=o.length:=by
 intro m
 induction m with
 | nil=>intro o d nv; rfl
 | cons x m ih =>
  intro o d nv
  rw [R50_1]
  split
  ·rfl
  ·rw [ih,R50_3_len]
theorem R50_0_eq (h:Hs) (fr ti:Int):∀ (m:List Rm) (o:List Int) (d:List Bool),R50_0 h fr ti m o d=(o++List.replicate m.length 1073741824,d++List.replicate m.length false):=by
 intro m
 induction m with
 | nil=>intro o d; simp [R50_0]
 | cons x m ih=>intro o d; rw [R50_0,ih]; simp [List.replicate_succ]
theorem r50_len (h:Hs) (fr ti:Int):(r50 h fr ti).length=h.rooms.length:=by
 unfold r50
 rw [R50_1_len,List.length_set,R50_0_eq]; simp
def R47_0 (l:List Int) (q:List Int)  : List Int→Nat→Sum (Bool) (Unit)
 | [],k=>.inr ()
 | x4 :: l',k=>(if x4=(lget q k) then R47_0 l q l' (k+1) else .inl false)
def r47 (l:List Int) (q:List Int):Bool:=(if (l.length:Int)=(q.length:Int) then (onSum (R47_0 l q l 0) (fun (r4:Bool)=>r4) (fun (_:Unit)=>true)) else false)
set_option maxHeartbeats 2000000 in
theorem c47 (l:List Int) (q:List Int) (hl:l.length≤1000) (S:AS) (v_l:Value) (hv_l:Lst S v_l l) (v_q:Value) (hv_q:Lst S v_q q) :
  ∃ S',(evL Tryz.prog E0).call 47 #[v_l,v_q] S=some (.bool (r47 l q),S')∧Agree S S':=by
 generalize hz:(evL Tryz.prog E0).call 47 _ _=z
 rw [L_call,evCall_said rfl Tryz.func47 rfl (by decide) Tryz.ntmps47 Tryz.results47] at hz
 have w1:=(hv_l).len (P:=Tryz.prog) (t:=54) Tryz.underlying54
 have w2:=(hv_q).len (P:=Tryz.prog) (t:=54) Tryz.underlying54
 try simp only [E0_G,SY,setArgs,off,agreeKind,Nat.reduceAdd,Nat.reduceSub,Nat.reduceLT,Nat.reduceBEq,w1,w2] at hz
 rcases dP ((l.length:Int)=(q.length:Int)) with ⟨h3a,h3⟩|⟨h3a,h3⟩
 ·try simp only [E0_G,SY,off,agreeKind,Nat.reduceLT,h3a] at hz
  generalize hL4:Rec.loop _ _ _ _=L4 at hz
  obtain ⟨x4,t4,S4e,rfl,hQ4⟩:=loop_met hL4 (fun m t S'=>∃ (k:Nat),m+k=l.length∧k≤l.length∧t.get 0=some (v_l)∧t.get 1=some (v_q)∧t.get 5=some (.int .i64 (k:Int))∧Agree S S'∧S.next≤S'.next∧R47_0 l q (l.drop k) k=R47_0 l q l 0)
   (fun x t S'=>(x=.exit 0∧∃ (k:Nat),Agree S S'∧S.next≤S'.next∧k≤l.length∧R47_0 l q l 0=.inr ())∨(x=.ret∧∃ (r4:Bool),t.get 4=some (.bool r4)∧Agree S S'∧R47_0 l q l 0=.inl (r4))) (l.length - 0) (by refine ⟨0,?_,?_,?_,?_,?_,(Agree.refl S),Nat.le_refl _,rfl⟩<;>first|(simp only [SY,eq_self,Nat.reduceBEq]<;>rfl)|omega|assumption|(simp; omega)|simp) (by
    rintro m t S4 ⟨k,hi4_0,hi4_1,g4_0,g4_1,g4_5,ga4,gn4,hd4⟩
    refine .run fun z he=>?_
    have w5:=(hv_l.agree ga4).len (P:=Tryz.prog) (t:=54) Tryz.underlying54
    try simp only [E0_G,SY,off,agreeKind,Nat.reduceAdd,Nat.reduceLT,Nat.reduceBEq,g4_0,g4_5,w1] at he
    rcases dP ((k:Int)<(l.length:Int)) with ⟨h6a,h6⟩|⟨h6a,h6⟩
    ·try simp only [SY,h6a] at he
     rw [code_draws _ _ _ (by kernel_rfl)] at he
     generalize hnd7:needy _=nd7 at he
     have hx4:l[k]?=some (l[k]'(by first|omega|simp; omega)):=List.getElem?_eq_getElem _
     generalize l[k]'_=x4 at hx4
     obtain ⟨id8,of8,cc8,ty8,wr8,ex8,i8,j8,l8,q8⟩:=(hv_l).at (P:=Tryz.prog) (t:=54) Tryz.underlying54 tz3 hx4
     have j8:=(ga4.2 id8 l8).trans j8
     have m8_0:cc8[of8]?=some (.int .i64 x4):=q8 0 (show 0<1 by decide)
     have hx9:q[k]?=some (lget q k):=lget_some (by first|omega|simp; omega)
     obtain ⟨id9,of9,cc9,ty9,wr9,ex9,i9,j9,l9,q9⟩:=(hv_q).at (P:=Tryz.prog) (t:=54) Tryz.underlying54 tz3 hx9
     have j9:=(ga4.2 id9 l9).trans j9
     have m9_0:cc9[of9]?=some (.int .i64 (lget q k)):=q9 0 (show 0<1 by decide)
     try simp only [E0_G,SY,agreeKind,ldA,aggD,Nat.reduceAdd,Nat.reduceLT,Nat.reduceBEq,TY_EvH28,g4_0,g4_1,g4_5,store_refl E0_same,i8,j8,m8_0,i9,j9,m9_0] at he
     rcases dP (x4=(lget q k)) with ⟨h10a,h10⟩|⟨h10a,h10⟩
     ·have w11:IntKind.i64.wrap ((k:Int)+1)=((k+1:Nat):Int):=by rw [IntWalk.i64_in]<;>omega
      try simp only [E0_G,SY,off,agreeKind,Nat.reduceAdd,Nat.reduceLT,Nat.reduceBEq,g4_5,store_refl E0_same,h10a,w11] at he
      rw [drop_cons' hx4] at hd4
      have hf:=(show _=(R47_0 l q (l.drop (k+1)) (k+1):Sum (Bool) (Unit)) from (if_pos h10).trans (rfl)).symm.trans hd4
      refine .next he (m - 1) (by omega) ⟨(k+1),?_,?_,?_,?_,?_,ga4,by omega,hf⟩<;>first|(simp only [SY,eq_self,Nat.reduceBEq,g4_0,g4_1,g4_5]<;>rfl)|omega|assumption|(simp; omega)|simp
     try simp only [E0_G,SY,off,agreeKind,Nat.reduceLT,store_refl E0_same,h10a] at he
     rw [drop_cons' hx4] at hd4
     have hf:=(show _=(.inl false:Sum (Bool) (Unit)) from (if_neg h10).trans (rfl)).symm.trans hd4
     refine .ret he (.inr ⟨rfl,⟨false,?_,ga4,hf.symm⟩⟩)<;>first|(simp only [SY,eq_self,Nat.reduceBEq]<;>rfl)|omega|assumption|(simp; omega)|simp
    try simp only [SY,h6a] at he
    rw [List.drop_eq_nil_of_le (show l.length≤k by omega)] at hd4
    have hf:=(show _=(.inr ():Sum (Bool) (Unit)) from rfl).symm.trans hd4
    refine .exit he (.inl ⟨rfl,⟨k,ga4,by omega,?_,hf.symm⟩⟩)<;>first|(simp only [SY,setArgs,off,agreeKind,partVals,vals,allocV,boxed,ldA,rdCells,oneB,aggD,aField,aFieldV,aExtract,eq_self,ne_eq,if_true,if_false,not_false_eq_true,Nat.reduceAdd,Nat.reduceSub,Nat.reduceMul,Nat.reduceLT,Nat.reduceEqDiff,Nat.reduceBEq,reduceIte,Int.reduceEq,Int.reduceLT,Int.reduceLE,reduceCtorEq,g4_0,g4_1,g4_5]<;>rfl)|omega|assumption|(simp; omega)|simp)
  rcases hQ4 with ⟨rfl,hQ4⟩|⟨rfl,hQ4⟩
  ·obtain ⟨k,ge4,gm4,hj4_0,hR4⟩:=hQ4
   try simp only [E0_G,SY,off,agreeKind,eq_self,if_true,Nat.reduceLT,Nat.reduceBEq] at hz
   have hr:r47 l q=true:=(if_pos h3).trans ((onSum_inr hR4).trans (rfl))
   exact fin hz (by rw [hr]) ge4
  obtain ⟨r4,ge4_4,ge4,hR4⟩:=hQ4
  try simp only [SY,ge4_4] at hz
  have hr:r47 l q=r4:=(if_pos h3).trans ((onSum_inl hR4).trans (rfl))
  exact fin hz (by rw [hr]) ge4
 try simp only [E0_G,SY,off,agreeKind,Nat.reduceLT,Nat.reduceBEq,h3a] at hz
 have hr:r47 l q=false:=(if_neg h3).trans (rfl)
 exact fin hz (by rw [hr]) (Agree.refl S)
end House
end Go.Proofs
