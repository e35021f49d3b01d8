import Derived.Test.YtohfdkdjfoonjaaGreatDoorBAK
set_option linter.unusedSimpArgs false
set_option linter.unusedVariables false
namespace Go.Proofs
namespace House
open Go Go.RowKit Go.Aev
set_option maxRecDepth 100000
theorem TY_EvH17:type_of% TY_EvH16:=TY_EvH16
def r28 (h:Hs) (door:Int) (ti:Int):Int × Int:=(if (r87 h door)=true then (if (r84 h (r88 ti))=0 then ((r89 (lget h.doors (Int.toNat door)) ti),0) else (0,(r84 h (r88 ti)))) else (0,(r84 h false)))
def r30 (h:Hs) (door:Int) (ti:Int):Int × Int:=(if (r87 h door)=true then (if (r84 h (r88 ti))=0 then ((r91 (lget h.doors (Int.toNat door)) ti),0) else (0,(r84 h (r88 ti)))) else (0,(r84 h false)))
def r26 (h:Hs) (door:Int) (ti:Int):Bool × Int:=(if ((r28 h door ti).2)=0 then (decide (((r28 h door ti).1)=ti),(r28 h door ti).2) else (false,(r28 h door ti).2))
def r29 (h:Hs) (door:Int) (ti:Int):Int × Int:=(if (r85 h door ti)=0 then ((r90 (lget h.doors (Int.toNat door)) ti),0) else (0,(r85 h door ti)))
def r31 (h:Hs) (door:Int) (ti:Int):Int × Int:=(if (r85 h door ti)=0 then ((r92 (lget h.doors (Int.toNat door)) ti),0) else (0,(r85 h door ti)))
def r27 (h:Hs) (door:Int) (ti:Int):Bool × Int:=(if (r85 h door ti)=0 then ((r86 (lget h.doors (Int.toNat door)) ti),0) else (false,(r85 h door ti)))
def R34_0 (l:List Sp) (q:List Sp)  : List Sp→Nat→Sum (Bool) (Unit)
 | [],k=>.inr ()
 | x4 :: l',k=>(if x4.lo=(lget q k).lo∧x4.hi=(lget q k).hi then R34_0 l q l' (k+1) else .inl false)
def r34 (l:List Sp) (q:List Sp):Bool:=(if (l.length:Int)=(q.length:Int) then (onSum (R34_0 l q l 0) (fun (r4:Bool)=>r4) (fun (_:Unit)=>true)) else false)
set_option maxHeartbeats 2000000 in
theorem c34 (l:List Sp) (q:List Sp) (hl:l.length≤1000000) (S:AS) (v_l:Value) (hv_l:Lst S v_l l) (v_q:Value) (hv_q:Lst S v_q q) :
  ∃ S',(evL Tryz.prog E0).call 34 #[v_l,v_q] S=some (.bool (r34 l q),S')∧Agree S S':=by
 generalize hz:(evL Tryz.prog E0).call 34 _ _=z
 rw [L_call,evCall_said rfl Tryz.func34 rfl (by decide) Tryz.ntmps34 Tryz.results34] at hz
 have w1:=(hv_l).len (P:=Tryz.prog) (t:=40) Tryz.underlying40
 have w2:=(hv_q).len (P:=Tryz.prog) (t:=40) Tryz.underlying40
 try simp (disch:=first|omega|assumption) only [E0_G,SY,setArgs,off,agreeKind,Nat.reduceAdd,Nat.reduceSub,Nat.reduceLT,Nat.reduceBEq,w1,w2] at hz
 rcases dP ((l.length:Int)=(q.length:Int)) with ⟨h3a,h3⟩|⟨h3a,h3⟩
 ·try simp (disch:=first|omega|assumption) only [E0_G,SY,off,agreeKind,Nat.reduceLT,h3a] at hz
  generalize hL4:Rec.loop _ _ _ _=L4 at hz
  obtain ⟨x4,t4,S4e,rfl,hQ4⟩:=loop_met hL4 (fun m t S'=>∃ (k:Nat),m+k=l.length∧k≤l.length∧t.get 0=some (v_l)∧t.get 1=some (v_q)∧t.get 5=some (.int .i64 (k:Int))∧Agree S S'∧S.next≤S'.next∧R34_0 l q (l.drop k) k=R34_0 l q l 0)
   (fun x t S'=>(x=.exit 0∧∃ (k:Nat),Agree S S'∧S.next≤S'.next∧k≤l.length∧R34_0 l q l 0=.inr ())∨(x=.ret∧∃ (r4:Bool),t.get 4=some (.bool r4)∧Agree S S'∧R34_0 l q l 0=.inl (r4))) (l.length - 0) ⟨0,by first|rfl|omega|(simp; omega)|simp,by first|rfl|omega|(simp; omega)|simp,by simp only [SY,eq_self,Nat.reduceBEq]<;>rfl,by simp only [SY,eq_self,Nat.reduceBEq]<;>rfl,by simp only [SY,Nat.reduceBEq]<;>rfl,(Agree.refl S),Nat.le_refl _,rfl⟩ (by
    rintro m t S4 ⟨k,hi4_0,hi4_1,g4_0,g4_1,g4_5,ga4,gn4,hd4⟩
    refine .run fun z he=>?_
    have w5:=(hv_l.agree ga4).len (P:=Tryz.prog) (t:=40) Tryz.underlying40
    try simp (disch:=first|omega|assumption) only [E0_G,SY,off,agreeKind,Nat.reduceAdd,Nat.reduceLT,Nat.reduceBEq,g4_0,g4_5,w1] at he
    rcases dP ((k:Int)<(l.length:Int)) with ⟨h6a,h6⟩|⟨h6a,h6⟩
    ·try simp (disch:=first|omega|assumption) only [SY,h6a] at he
     rw [code_draws _ _ _ (by kernel_rfl)] at he
     generalize hnd7:needy _=nd7 at he
     have hx4:l[k]?=some (l[k]'(by first|omega|simp; omega)):=List.getElem?_eq_getElem _
     generalize l[k]'_=x4 at hx4
     obtain ⟨id8,of8,cc8,ty8,wr8,ex8,i8,j8,l8,q8⟩:=(hv_l).at (P:=Tryz.prog) (t:=40) Tryz.underlying40 tz36 hx4
     have j8:=(ga4.2 id8 l8).trans j8
     have m8_0:cc8[of8]?=some (.int .i64 x4.lo):=q8 0 (show 0<2 by decide)
     have m8_1:cc8[of8+1]?=some (.int .i64 x4.hi):=q8 1 (show 1<2 by decide)
     have hx9:q[k]?=some (lget q k):=lget_some (by first|omega|simp; omega)
     obtain ⟨id9,of9,cc9,ty9,wr9,ex9,i9,j9,l9,q9⟩:=(hv_q).at (P:=Tryz.prog) (t:=40) Tryz.underlying40 tz36 hx9
     have j9:=(ga4.2 id9 l9).trans j9
     have m9_0:cc9[of9]?=some (.int .i64 ((lget q k).lo)):=q9 0 (show 0<2 by decide)
     have m9_1:cc9[of9+1]?=some (.int .i64 ((lget q k).hi)):=q9 1 (show 1<2 by decide)
     have y10:aEqAgg Tryz.prog 36 (.agg #[.int .i64 x4.lo,.int .i64 x4.hi]) (.agg #[.int .i64 ((lget q k).lo),.int .i64 ((lget q k).hi)])=some (decide (x4.lo=(lget q k).lo∧x4.hi=(lget q k).hi)):=(show _=some (decide (x4.lo=(lget q k).lo) && (decide (x4.hi=(lget q k).hi) && true)) by kernel_rfl).trans (congrArg some (by simp only [Bool.and_true,← Bool.decide_and]))
     try simp (disch:=first|omega|assumption) only [E0_G,SY,agreeKind,ldA,rdCells,aggD,Nat.reduceAdd,Nat.reduceLT,Nat.reduceBEq,TY_EvH17,g4_0,g4_1,g4_5,store_refl E0_same,i8,j8,m8_0,m8_1,i9,j9,m9_0,m9_1,y10] at he
     rcases dP (x4.lo=(lget q k).lo∧x4.hi=(lget q k).hi) with ⟨h11a,h11⟩|⟨h11a,h11⟩
     ·have w12:IntKind.i64.wrap ((k:Int)+1)=((k+1:Nat):Int):=by rw [IntWalk.i64_in]<;>omega
      try simp (disch:=first|omega|assumption) only [E0_G,SY,off,agreeKind,Nat.reduceAdd,Nat.reduceLT,Nat.reduceBEq,g4_5,store_refl E0_same,h11a,w12] at he
      rw [drop_cons' hx4] at hd4
      have hf:=(show _=(R34_0 l q (l.drop (k+1)) (k+1):Sum (Bool) (Unit)) from (if_pos h11).trans (rfl)).symm.trans hd4
      exact .next he (m - 1) (by omega) ⟨(k+1),by first|omega|(simp; omega)|simp,by first|omega|(simp; omega)|simp,(by simp only [SY,eq_self,Nat.reduceBEq,g4_0]<;>rfl),(by simp only [SY,eq_self,Nat.reduceBEq,g4_1]<;>rfl),(by simp only [SY,eq_self,Nat.reduceBEq,g4_5]<;>rfl),ga4,by omega,hf⟩
     try simp (disch:=first|omega|assumption) only [E0_G,SY,off,agreeKind,Nat.reduceLT,store_refl E0_same,h11a] at he
     rw [drop_cons' hx4] at hd4
     have hf:=(show _=(.inl false:Sum (Bool) (Unit)) from (if_neg h11).trans (rfl)).symm.trans hd4
     exact .ret he (.inr ⟨rfl,⟨false,(by simp only [SY,eq_self,Nat.reduceBEq]<;>rfl),ga4,hf.symm⟩⟩)
    try simp (disch:=first|omega|assumption) only [SY,h6a] at he
    rw [List.drop_eq_nil_of_le (show l.length≤k by omega)] at hd4
    have hf:=(show _=(.inr ():Sum (Bool) (Unit)) from rfl).symm.trans hd4
    exact .exit he (.inl ⟨rfl,⟨k,ga4,by omega,by first|omega|assumption|simp,hf.symm⟩⟩))
  rcases hQ4 with ⟨rfl,hQ4⟩|⟨rfl,hQ4⟩
  ·obtain ⟨k,ge4,gm4,hj4_0,hR4⟩:=hQ4
   try simp (disch:=first|omega|assumption) only [E0_G,SY,off,agreeKind,eq_self,if_true,Nat.reduceLT,Nat.reduceBEq] at hz
   have hr:r34 l q=true:=(if_pos h3).trans ((onSum_inr hR4).trans (rfl))
   exact fin hz (by rw [hr]) ge4
  obtain ⟨r4,ge4_4,ge4,hR4⟩:=hQ4
  try simp (disch:=first|omega|assumption) only [SY,ge4_4] at hz
  have hr:r34 l q=r4:=(if_pos h3).trans ((onSum_inl hR4).trans (rfl))
  exact fin hz (by rw [hr]) ge4
 try simp (disch:=first|omega|assumption) only [E0_G,SY,off,agreeKind,Nat.reduceLT,Nat.reduceBEq,h3a] at hz
 have hr:r34 l q=false:=(if_neg h3).trans (rfl)
 exact fin hz (by rw [hr]) (Agree.refl S)
def r4 (h:Hs) (door:Int) (ti:Int) (slo shi:Int):Bool:=(if (r20 h)=true then (if ((r26 h door ti).1)=((r27 h door ti).1) then (if ((r26 h door ti).2)=((r27 h door ti).2) then (if ((r28 h door ti).1)=((r29 h door ti).1) then (if ((r28 h door ti).2)=((r29 h door ti).2) then (if ((r30 h door ti).1)=((r31 h door ti).1) then (if ((r30 h door ti).2)=((r31 h door ti).2) then (if ((r32 h door slo shi).2)=((r33 h door slo shi).2) then (r34 ((r32 h door slo shi).1:List Sp) ((r33 h door slo shi).1:List Sp)) else false) else false) else false) else false) else false) else false) else false) else true)
end House
end Go.Proofs
