import Derived.Test.YtohfdkdjfoonjaaGreatDoorEvH29
set_option linter.unusedSimpArgs false
set_option linter.unusedVariables false
namespace Go.Proofs
namespace House
open Go Go.RowKit Go.Aev
set_option maxRecDepth 100000
theorem TY_EvH30:type_of% TY_EvH28:=TY_EvH28
def R52_0 (h:Hs) (a:Int) (ta:Int) (b:Int) (tb:Int) (l:List Int)  : List Int→Sum (Int) (Unit)
 | []=>.inr ()
 | x9 :: l'=>(if x9<0 then .inl 8 else (if 1073741824<x9 then .inl 8 else R52_0 h a ta b tb l l'))
def r52 (h:Hs) (a:Int) (ta:Int) (b:Int) (tb:Int) (l:List Int):Int:=(if (r113 h a ta b tb)=0 then (if (l.length:Int)=(h.rooms.length:Int) then (onSum (R52_0 h a ta b tb l l) (fun (r12:Int)=>r12) (fun (_:Unit)=>(if ta<(lget l (Int.toNat a)) then 8 else (if (lget l (Int.toNat b))≤tb then 8 else (if r118 h l=true then 0 else 8))))) else 8) else (r113 h a ta b tb))
set_option maxHeartbeats 8000000 in
theorem c52 (h:Hs) (a:Int) (ta:Int) (b:Int) (tb:Int) (l:List Int) (hF:Few h) (hs:∀ x ∈ h.rooms,x.name.size≤9223372036854775807) (hl:l.length≤40) (S:AS) (v_h_rooms:Value) (hv_h_rooms:LstR S v_h_rooms h.rooms) (v_h_doors:Value) (hv_h_doors:LstR S v_h_doors h.doors) (v_h_ways:Value) (hv_h_ways:Lst S v_h_ways h.ways) (v_l:Value) (hv_l:Lst S v_l l) :
  ∃ S',(evL Tryz.prog E0).call 52 #[.agg #[v_h_rooms,v_h_doors,v_h_ways],.int .i64 a,.int .i64 ta,.int .i64 b,.int .i64 tb,v_l] S=some (.int .i64 (r52 h a ta b tb l),S')∧Agree S S':=by
 have qr:=hF.r; have qd:=hF.d; have qw:=hF.w
 generalize hz:(evL Tryz.prog E0).call 52 _ _=z
 rw [L_call,evCall_said rfl Tryz.func52 rfl (by decide) Tryz.ntmps52 Tryz.results52] at hz
 obtain ⟨S1,e1,n1,b1,a1⟩:=push_open S (.cells [v_h_rooms,v_h_doors,v_h_ways] 26 0 true true)
 have g1:Agree S S1:=a1
 obtain ⟨S2,k2,a2⟩:=c113 h a ta b tb hF hs S1 (v_h_rooms) (hv_h_rooms.agree g1) (v_h_doors) (hv_h_doors.agree g1) (v_h_ways) (hv_h_ways.agree g1)
 have l2:=a2.1
 have v1_2:=(a2.2 S.next (by omega)).trans b1
 have g2:Agree S S2:=g1.trans a2
 try simp (disch:=first|omega|assumption) only [E0_G,SY,setArgs,off,agreeKind,vals,boxed,ldA,rdCells,aggD,Nat.reduceAdd,Nat.reduceSub,Nat.reduceLT,Nat.reduceBEq,TY_EvH30,e1,b1,k2] at hz
 rcases dP ((r113 h a ta b tb)=0) with ⟨h3a,h3⟩|⟨h3a,h3⟩
 ·skip
  have hV:=(r113_ok h3).1
  have lq4:=(r113_ok h3).2
  have w5:=(hv_l.agree g2).len (P:=Tryz.prog) (t:=54) Tryz.underlying54
  have w6:=(hv_h_rooms.agree g2).len (P:=Tryz.prog) (t:=22) Tryz.underlying22
  try simp (disch:=first|omega|assumption) only [E0_G,SY,off,agreeKind,ldA,aggD,aField,Nat.reduceAdd,Nat.reduceLT,Nat.reduceBEq,TY_EvH30,v1_2,h3a,w5,w6] at hz
  rcases dP ((l.length:Int)=(h.rooms.length:Int)) with ⟨h7a,h7⟩|⟨h7a,h7⟩
  ·skip
   have w8:=(hv_l.agree g2).len (P:=Tryz.prog) (t:=54) Tryz.underlying54
   try simp (disch:=first|omega|assumption) only [E0_G,SY,off,agreeKind,Nat.reduceAdd,Nat.reduceLT,Nat.reduceBEq,w5,h7a] at hz
   generalize hL9:Rec.loop _ _ _ _=L9 at hz
   obtain ⟨x9,t9,S9e,rfl,hQ9⟩:=loop_met hL9 (fun m t S'=>∃ (k:Nat),m+k=l.length∧k≤l.length∧t.get 1=some (.int .i64 a)∧t.get 2=some (.int .i64 ta)∧t.get 3=some (.int .i64 b)∧t.get 4=some (.int .i64 tb)∧t.get 5=some (v_l)∧t.get 6=some (.pointer (some ⟨S.next,0,none⟩))∧t.get 31=some (v_l)∧t.get 32=some (.int .i64 (l.length:Int))∧t.get 33=some (.int .i64 (k:Int))∧S'.heap.get S.next=some (.cells [v_h_rooms,v_h_doors,v_h_ways] 26 0 true true)∧Agree S S'∧S2.next≤S'.next∧R52_0 h a ta b tb l (l.drop k)=R52_0 h a ta b tb l l)
    (fun x t S'=>(x=.exit 0∧∃ (k:Nat),t.get 1=some (.int .i64 a)∧t.get 2=some (.int .i64 ta)∧t.get 3=some (.int .i64 b)∧t.get 4=some (.int .i64 tb)∧t.get 5=some (v_l)∧t.get 6=some (.pointer (some ⟨S.next,0,none⟩))∧S'.heap.get S.next=some (.cells [v_h_rooms,v_h_doors,v_h_ways] 26 0 true true)∧Agree S S'∧S2.next≤S'.next∧k≤l.length∧R52_0 h a ta b tb l l=.inr ())∨(x=.ret∧∃ (r12:Int),t.get 12=some (.int .i64 r12)∧Agree S S'∧R52_0 h a ta b tb l l=.inl (r12))) (l.length - 0) (by refine ⟨0,?_,?_,?_,?_,?_,?_,?_,?_,?_,?_,?_,v1_2,g2,Nat.le_refl _,rfl⟩<;>first|(simp only [SY,eq_self,Nat.reduceBEq]<;>rfl)|omega|assumption|(simp; omega)|simp) (by
     rintro m t S9 ⟨k,hi9_0,hi9_1,g9_1,g9_2,g9_3,g9_4,g9_5,g9_6,g9_31,g9_32,g9_33,bb9_1,ga9,gn9,hd9⟩
     refine .run fun z he=>?_
     try simp (disch:=first|omega|assumption) only [E0_G,SY,off,agreeKind,Nat.reduceLT,Nat.reduceBEq,g9_32,g9_33] at he
     rcases dP ((k:Int)<(l.length:Int)) with ⟨h10a,h10⟩|⟨h10a,h10⟩
     ·skip
      have hx9:l[k]?=some (l[k]'(by first|omega|simp; omega)):=List.getElem?_eq_getElem _
      generalize l[k]'_=x9 at hx9
      obtain ⟨id11,of11,cc11,ty11,wr11,ex11,i11,j11,l11,q11⟩:=(hv_l).at (P:=Tryz.prog) (t:=54) Tryz.underlying54 tz3 hx9
      have jr11:=j11
      have j11:=(ga9.2 id11 l11).trans jr11
      have m11_0:cc11[of11]?=some (.int .i64 x9):=q11 0 (show 0<1 by decide)
      try simp (disch:=first|omega|assumption) only [E0_G,SY,off,agreeKind,ldA,aggD,Nat.reduceAdd,Nat.reduceLT,Nat.reduceBEq,TY_EvH30,g9_31,g9_33,h10a,i11,j11,m11_0] at he
      rcases dP (x9<0) with ⟨h12a,h12⟩|⟨h12a,h12⟩
      ·skip
       try simp (disch:=first|omega|assumption) only [E0_G,SY,off,agreeKind,Nat.reduceAdd,Nat.reduceLT,Nat.reduceBEq,h12a] at he
       rw [drop_cons' hx9] at hd9
       have hf:=(show _=(.inl 8:Sum (Int) (Unit)) from (if_pos h12).trans (rfl)).symm.trans hd9
       refine .ret he (.inr ⟨rfl,⟨8,?_,ga9,hf.symm⟩⟩)<;>first|(simp only [SY,eq_self,Nat.reduceBEq]<;>rfl)|omega|assumption|(simp; omega)|simp
      ·skip
       try simp (disch:=first|omega|assumption) only [E0_G,SY,off,agreeKind,Nat.reduceAdd,Nat.reduceLT,Nat.reduceBEq,h12a] at he
       rcases dP (1073741824<x9) with ⟨h13a,h13⟩|⟨h13a,h13⟩
       ·skip
        try simp (disch:=first|omega|assumption) only [E0_G,SY,off,agreeKind,Nat.reduceLT,h13a] at he
        rw [drop_cons' hx9] at hd9
        have hf:=(show _=(.inl 8:Sum (Int) (Unit)) from (if_neg h12).trans ((if_pos h13).trans (rfl))).symm.trans hd9
        refine .ret he (.inr ⟨rfl,⟨8,?_,ga9,hf.symm⟩⟩)<;>first|(simp only [SY,eq_self,Nat.reduceBEq]<;>rfl)|omega|assumption|(simp; omega)|simp
       ·skip
        have w14:IntKind.i64.wrap ((k:Int)+1)=((k+1:Nat):Int):=by rw [IntWalk.i64_in]<;>omega
        try simp (disch:=first|omega|assumption) only [E0_G,SY,off,agreeKind,Nat.reduceAdd,Nat.reduceLT,Nat.reduceBEq,g9_33,h13a,w14] at he
        rw [drop_cons' hx9] at hd9
        have hf:=(show _=(R52_0 h a ta b tb l (l.drop (k+1)):Sum (Int) (Unit)) from (if_neg h12).trans ((if_neg h13).trans (rfl))).symm.trans hd9
        refine .next he (m - 1) (by omega) ⟨(k+1),?_,?_,?_,?_,?_,?_,?_,?_,?_,?_,?_,bb9_1,ga9,by omega,hf⟩<;>first|(simp only [SY,eq_self,Nat.reduceBEq,g9_1,g9_2,g9_3,g9_4,g9_5,g9_6,g9_31,g9_32,g9_33]<;>rfl)|omega|assumption|(simp; omega)|simp
     ·skip
      try simp (disch:=first|omega|assumption) only [SY,h10a] at he
      rw [List.drop_eq_nil_of_le (show l.length≤k by omega)] at hd9
      have hf:=(show _=(.inr ():Sum (Int) (Unit)) from rfl).symm.trans hd9
      refine .exit he (.inl ⟨rfl,⟨k,?_,?_,?_,?_,?_,?_,bb9_1,ga9,by omega,?_,hf.symm⟩⟩)<;>first|(simp only [SY,eq_self,Nat.reduceBEq,g9_1,g9_2,g9_3,g9_4,g9_5,g9_6]<;>rfl)|omega|assumption|(simp; omega)|simp)
   rcases hQ9 with ⟨rfl,hQ9⟩|⟨rfl,hQ9⟩
   ·skip
    obtain ⟨k,ge9_1,ge9_2,ge9_3,ge9_4,ge9_5,ge9_6,be9_1,ge9,gm9,hj9_0,hR9⟩:=hQ9
    have qz16:((Int.toNat a:Nat):Int)=a:=Int.toNat_of_nonneg (by first|omega|simp; omega)
    have hx17:l[(Int.toNat a)]?=some (lget l (Int.toNat a)):=lget_some (by first|omega|simp; omega)
    obtain ⟨id17,of17,cc17,ty17,wr17,ex17,i17,j17,l17,q17⟩:=(hv_l).at (P:=Tryz.prog) (t:=54) Tryz.underlying54 tz3 hx17
    have jr17:=j17
    have j17:=(ge9.2 id17 l17).trans jr17
    have m17_0:cc17[of17]?=some (.int .i64 (lget l (Int.toNat a))):=q17 0 (show 0<1 by decide)
    rw [qz16] at i17
    try simp (disch:=first|omega|assumption) only [E0_G,SY,off,agreeKind,ldA,aggD,eq_self,if_true,Nat.reduceAdd,Nat.reduceLT,Nat.reduceBEq,TY_EvH30,ge9_1,ge9_2,ge9_5,i17,j17,m17_0] at hz
    rcases dP (ta<(lget l (Int.toNat a))) with ⟨h18a,h18⟩|⟨h18a,h18⟩
    ·skip
     try simp (disch:=first|omega|assumption) only [E0_G,SY,off,agreeKind,Nat.reduceAdd,Nat.reduceLT,Nat.reduceBEq,h18a] at hz
     have hr:r52 h a ta b tb l=8:=(if_pos h3).trans ((if_pos h7).trans ((onSum_inr hR9).trans ((if_pos h18).trans (rfl))))
     exact fin hz (by rw [hr]) ge9
    ·skip
     have qz19:((Int.toNat b:Nat):Int)=b:=Int.toNat_of_nonneg (by first|omega|simp; omega)
     have hx20:l[(Int.toNat b)]?=some (lget l (Int.toNat b)):=lget_some (by first|omega|simp; omega)
     obtain ⟨id20,of20,cc20,ty20,wr20,ex20,i20,j20,l20,q20⟩:=(hv_l).at (P:=Tryz.prog) (t:=54) Tryz.underlying54 tz3 hx20
     have jr20:=j20
     have j20:=(ge9.2 id20 l20).trans jr20
     have m20_0:cc20[of20]?=some (.int .i64 (lget l (Int.toNat b))):=q20 0 (show 0<1 by decide)
     rw [qz19] at i20
     try simp (disch:=first|omega|assumption) only [E0_G,SY,off,agreeKind,ldA,aggD,Nat.reduceAdd,Nat.reduceLT,Nat.reduceBEq,TY_EvH30,ge9_3,ge9_4,ge9_5,h18a,i20,j20,m20_0] at hz
     rcases dP ((lget l (Int.toNat b))≤tb) with ⟨h21a,h21⟩|⟨h21a,h21⟩
     ·skip
      try simp (disch:=first|omega|assumption) only [E0_G,SY,off,agreeKind,Nat.reduceAdd,Nat.reduceLT,Nat.reduceBEq,h21a] at hz
      have hr:r52 h a ta b tb l=8:=(if_pos h3).trans ((if_pos h7).trans ((onSum_inr hR9).trans ((if_neg h18).trans ((if_pos h21).trans (rfl)))))
      exact fin hz (by rw [hr]) ge9
     ·skip
      obtain ⟨S22,k22,a22⟩:=c118 h l (by omega) hV (by omega) S9e (v_h_rooms) (hv_h_rooms.agree ge9) (v_h_doors) (hv_h_doors.agree ge9) (v_h_ways) (hv_h_ways.agree ge9) (v_l) (hv_l.agree ge9)
      have l22:=a22.1
      have g22:Agree S S22:=ge9.trans a22
      try simp (disch:=first|omega|assumption) only [E0_G,SY,off,agreeKind,vals,ldA,rdCells,aggD,Nat.reduceAdd,Nat.reduceLT,Nat.reduceBEq,TY_EvH30,ge9_5,ge9_6,be9_1,h21a,k22] at hz
      rcases dB (r118 h l) with ⟨h23a,h23⟩|⟨h23a,h23⟩
      ·skip
       try simp (disch:=first|omega|assumption) only [E0_G,SY,off,agreeKind,Nat.reduceLT,Nat.reduceBEq,h23a] at hz
       have hr:r52 h a ta b tb l=0:=(if_pos h3).trans ((if_pos h7).trans ((onSum_inr hR9).trans ((if_neg h18).trans ((if_neg h21).trans ((if_pos h23).trans (rfl))))))
       exact fin hz (by rw [hr]) g22
      ·skip
       try simp (disch:=first|omega|assumption) only [E0_G,SY,off,agreeKind,Nat.reduceLT,Nat.reduceBEq,h23a] at hz
       have hr:r52 h a ta b tb l=8:=(if_pos h3).trans ((if_pos h7).trans ((onSum_inr hR9).trans ((if_neg h18).trans ((if_neg h21).trans ((if_neg h23).trans (rfl))))))
       exact fin hz (by rw [hr]) g22
   ·skip
    obtain ⟨r12,ge9_12,ge9,hR9⟩:=hQ9
    try simp (disch:=first|omega|assumption) only [SY,ge9_12] at hz
    have hr:r52 h a ta b tb l=r12:=(if_pos h3).trans ((if_pos h7).trans ((onSum_inl hR9).trans (rfl)))
    exact fin hz (by rw [hr]) ge9
  ·skip
   try simp (disch:=first|omega|assumption) only [E0_G,SY,off,agreeKind,Nat.reduceLT,Nat.reduceBEq,h7a] at hz
   have hr:r52 h a ta b tb l=8:=(if_pos h3).trans ((if_neg h7).trans (rfl))
   exact fin hz (by rw [hr]) g2
 ·skip
  try simp (disch:=first|omega|assumption) only [E0_G,SY,off,agreeKind,Nat.reduceAdd,Nat.reduceLT,Nat.reduceBEq,h3a] at hz
  have hr:r52 h a ta b tb l=(r113 h a ta b tb):=(if_neg h3).trans (rfl)
  exact fin hz (by rw [hr]) g2
def R55_0 (h:Hs) (a:Int) (ta:Int) (b:Int) (tb:Int) (l:List Int)  : List Int→Sum (Bool) (Unit)
 | []=>.inr ()
 | x5 :: l'=>(if (r71 x5 0 1073741824)=true then R55_0 h a ta b tb l l' else .inl false)
def R55_1 (h:Hs) (a:Int) (ta:Int) (b:Int) (tb:Int) (l:List Int)  : List Gt→Sum (Bool) (Unit)
 | []=>.inr ()
 | x21 :: l'=>(if (lget l (Int.toNat x21.fr))<1073741824 then (if (r99 h x21 (lget l (Int.toNat x21.fr)))<(lget l (Int.toNat x21.to)) then .inl false else R55_1 h a ta b tb l l') else R55_1 h a ta b tb l l')
def r55 (h:Hs) (a:Int) (ta:Int) (b:Int) (tb:Int) (l:List Int):Bool:=(if (l.length:Int)=(h.rooms.length:Int) then (onSum (R55_0 h a ta b tb l l) (fun (r12:Bool)=>r12) (fun (_:Unit)=>(if ta<(lget l (Int.toNat a)) then false else (if (lget l (Int.toNat b))≤tb then false else (onSum (R55_1 h a ta b tb l (r116 h)) (fun (r12:Bool)=>r12) (fun (_:Unit)=>true)))))) else false)
def r53 (h:Hs) (a:Int) (ta:Int) (b:Int) (tb:Int) (l:List Int):Int:=(if (r49 h a ta b tb)=0 then (if (r55 h a ta b tb (l:List Int))=true then 0 else 8) else (r49 h a ta b tb))
theorem r54_len0 {h:Hs} (hV:r59 h=0) {fr ti:Int} (ht:0≤ti∧ti≤1073741823):(r106 h fr ti).length≤40:=by
 rw [r106_len hV ht]; have:=rooms_len hV; omega
def r54 (h:Hs) (a:Int) (ta:Int) (b:Int) (tb:Int):List Int × Int:=(if (r113 h a ta b tb)=0 then (if (lget (r106 h a ta) (Int.toNat b))≤tb then ([],5) else ((r106 h a ta),0)) else ([],(r113 h a ta b tb)))
set_option maxHeartbeats 8000000 in
theorem c54 (h:Hs) (a:Int) (ta:Int) (b:Int) (tb:Int) (hF:Few h) (hs:∀ x ∈ h.rooms,x.name.size≤9223372036854775807) (S:AS) (v_h_rooms:Value) (hv_h_rooms:LstR S v_h_rooms h.rooms) (v_h_doors:Value) (hv_h_doors:LstR S v_h_doors h.doors) (v_h_ways:Value) (hv_h_ways:Lst S v_h_ways h.ways) :
  ∃ v' S',(evL Tryz.prog E0).call 54 #[.agg #[v_h_rooms,v_h_doors,v_h_ways],.int .i64 a,.int .i64 ta,.int .i64 b,.int .i64 tb] S=some (.tuple #[v',.int .i64 (r54 h a ta b tb).2],S')∧Agree S S'∧Own 3 S.next S' v' (r54 h a ta b tb).1:=by
 have qr:=hF.r; have qd:=hF.d; have qw:=hF.w
 generalize hz:(evL Tryz.prog E0).call 54 _ _=z
 rw [L_call,evCall_said rfl Tryz.func54 rfl (by decide) Tryz.ntmps54 Tryz.results54] at hz
 obtain ⟨S1,e1,n1,b1,a1⟩:=push_open S (.cells [v_h_rooms,v_h_doors,v_h_ways] 26 0 true true)
 have g1:Agree S S1:=a1
 obtain ⟨S2,k2,a2⟩:=c113 h a ta b tb hF hs S1 (v_h_rooms) (hv_h_rooms.agree g1) (v_h_doors) (hv_h_doors.agree g1) (v_h_ways) (hv_h_ways.agree g1)
 have l2:=a2.1
 have v1_2:=(a2.2 S.next (by omega)).trans b1
 have g2:Agree S S2:=g1.trans a2
 try simp (disch:=first|omega|assumption) only [E0_G,SY,setArgs,off,agreeKind,vals,boxed,ldA,rdCells,aggD,Nat.reduceAdd,Nat.reduceSub,Nat.reduceLT,Nat.reduceBEq,TY_EvH30,e1,b1,k2] at hz
 rcases dP ((r113 h a ta b tb)=0) with ⟨h3a,h3⟩|⟨h3a,h3⟩
 ·skip
  have hV:=(r113_ok h3).1
  have lq4:=(r113_ok h3).2
  obtain ⟨u5,S5,k5,a5,oo5⟩:=c106 h a ta hF hV (by omega) (by omega) S2 (v_h_rooms) (hv_h_rooms.agree g2) (v_h_doors) (hv_h_doors.agree g2) (v_h_ways) (hv_h_ways.agree g2)
  have l5:=a5.1
  obtain ⟨pu5,nu5,cu5,rfl⟩:=own_slice oo5
  have g5:Agree S S5:=g2.trans a5
  have p5:=r106_len (fr:=a) hV (show 0≤ta∧ta≤1073741823 by omega)
  have qz6:((Int.toNat b:Nat):Int)=b:=Int.toNat_of_nonneg (by first|omega|simp; omega)
  have hx7:(r106 h a ta)[(Int.toNat b)]?=some (lget (r106 h a ta) (Int.toNat b)):=lget_some (by first|omega|simp; omega)
  obtain ⟨id7,of7,cc7,ty7,wr7,ex7,i7,j7,l7,q7,lb7,bk7,oq7⟩:=oo5.at4 (P:=Tryz.prog) (t:=54) Tryz.underlying54 tz3 hx7
  have m7_0:cc7[of7]?=some (.int .i64 (lget (r106 h a ta) (Int.toNat b))):=q7 0 (show 0<1 by decide)
  rw [qz6] at i7
  try simp (disch:=first|omega|assumption) only [E0_G,SY,off,agreeKind,vals,ldA,rdCells,aggD,Nat.reduceAdd,Nat.reduceLT,Nat.reduceBEq,TY_EvH30,v1_2,h3a,k5,i7,j7,m7_0] at hz
  rcases dP ((lget (r106 h a ta) (Int.toNat b))≤tb) with ⟨h8a,h8⟩|⟨h8a,h8⟩
  ·skip
   try simp (disch:=first|omega|assumption) only [E0_G,SY,off,agreeKind,Nat.reduceAdd,Nat.reduceLT,Nat.reduceBEq,h8a] at hz
   have hr:r54 h a ta b tb=([],5):=(if_pos h3).trans ((if_pos h8).trans (rfl))
   exact ⟨.slice none 0 0,S5,by first|(rw [hr]; exact hz.symm)|exact hz.symm,g5,by rw [hr]; exact Own.nil _ _ _⟩
  ·skip
   try simp (disch:=first|omega|assumption) only [E0_G,SY,off,agreeKind,Nat.reduceAdd,Nat.reduceLT,Nat.reduceBEq,h8a] at hz
   have hr:r54 h a ta b tb=((r106 h a ta),0):=(if_pos h3).trans ((if_neg h8).trans (rfl))
   exact ⟨.slice pu5 nu5 cu5,S5,by first|(rw [hr]; exact hz.symm)|exact hz.symm,g5,by rw [hr]; exact oo5.low (by omega)⟩
 ·skip
  try simp (disch:=first|omega|assumption) only [E0_G,SY,off,agreeKind,Nat.reduceAdd,Nat.reduceLT,Nat.reduceBEq,h3a] at hz
  have hr:r54 h a ta b tb=([],(r113 h a ta b tb)):=(if_neg h3).trans (rfl)
  exact ⟨.slice none 0 0,S2,by first|(rw [hr]; exact hz.symm)|exact hz.symm,g2,by rw [hr]; exact Own.nil _ _ _⟩
theorem r54_len (h:Hs) (a ta b tb:Int):(r54 h a ta b tb).1.length≤40:=by
 unfold r54
 split
 ·rename_i h1
  have q:=r113_ok h1
  split
  ·simp
  ·exact r54_len0 q.1 q.2.2.1
 ·simp
end House
end Go.Proofs
