import Derived.Test.YtohfdkdjfoonjaaGreatDoorEvH29
set_option linter.unusedSimpArgs false
set_option linter.unusedVariables false
namespace Go.Proofs
namespace House
open Go Go.RowKit Go.Aev
set_option maxRecDepth 100000
theorem TY_EvH30:type_of% (And.intro (And.intro (And.intro (And.intro (And.intro (And.intro (And.intro Tryz.underlying3 tz3) (And.intro tt3 (And.intro t0_3 Tryz.underlying4))) (And.intro (And.intro tz4 tt4) (And.intro t0_4 (And.intro Tryz.underlying9 tz9)))) (And.intro (And.intro (And.intro tt9 t0_9) (And.intro Tryz.underlying22 (And.intro tz22 tt22))) (And.intro (And.intro t0_22 (And.intro Tryz.underlying23 tz23)) (And.intro tt23 (And.intro t0_23 Tryz.underlying24))))) (And.intro (And.intro (And.intro (And.intro tz24 tt24) (And.intro t0_24 (And.intro Tryz.underlying25 tz25))) (And.intro (And.intro tt25 t0_25) (And.intro Tryz.underlying26 (And.intro tz26 tt26)))) (And.intro (And.intro (And.intro t0_26 Tryz.underlying29) (And.intro tz29 (And.intro tt29 t0_29))) (And.intro (And.intro Tryz.underlying35 (And.intro tz35 tt35)) (And.intro t0_35 (And.intro Tryz.underlying36 tz36)))))) (And.intro (And.intro (And.intro (And.intro (And.intro tt36 t0_36) (And.intro Tryz.underlying40 (And.intro tz40 tt40))) (And.intro (And.intro t0_40 Tryz.underlying47) (And.intro tz47 (And.intro tt47 t0_47)))) (And.intro (And.intro (And.intro Tryz.underlying50 tz50) (And.intro tt50 (And.intro t0_50 Tryz.underlying51))) (And.intro (And.intro tz51 (And.intro tt51 t0_51)) (And.intro Tryz.underlying54 (And.intro tz54 tt54))))) (And.intro (And.intro (And.intro (And.intro t0_54 Tryz.underlying57) (And.intro tz57 (And.intro tt57 t0_57))) (And.intro (And.intro Tryz.underlying58 tz58) (And.intro tt58 (And.intro t0_58 Tryz.underlying91)))) (And.intro (And.intro (And.intro tz91 tt91) (And.intro t0_91 (And.intro Tryz.underlying92 tz92))) (And.intro (And.intro tt92 (And.intro t0_92 Tryz.underlying93)) (And.intro tz93 (And.intro tt93 t0_93))))))) (And.intro (And.intro (And.intro (And.intro (And.intro (And.intro Tryz.underlying94 tz94) (And.intro tt94 (And.intro t0_94 Tryz.underlying97))) (And.intro (And.intro tz97 tt97) (And.intro t0_97 (And.intro Tryz.underlying98 tz98)))) (And.intro (And.intro (And.intro tt98 t0_98) (And.intro Tryz.underlying109 (And.intro tz109 tt109))) (And.intro (And.intro t0_109 (And.intro Tryz.underlying110 tz110)) (And.intro tt110 (And.intro t0_110 Tryz.underlying113))))) (And.intro (And.intro (And.intro (And.intro tz113 tt113) (And.intro t0_113 (And.intro Tryz.underlying124 tz124))) (And.intro (And.intro tt124 t0_124) (And.intro Tryz.underlying125 (And.intro tz125 tt125)))) (And.intro (And.intro (And.intro t0_125 Tryz.underlying127) (And.intro tz127 (And.intro tt127 t0_127))) (And.intro (And.intro Tryz.underlying128 (And.intro tz128 tt128)) (And.intro t0_128 (And.intro Tryz.underlying134 tz134)))))) (And.intro (And.intro (And.intro (And.intro (And.intro tt134 t0_134) (And.intro Tryz.underlying136 (And.intro tz136 tt136))) (And.intro (And.intro t0_136 Tryz.underlying137) (And.intro tz137 (And.intro tt137 t0_137)))) (And.intro (And.intro (And.intro Tryz.underlying141 tz141) (And.intro tt141 (And.intro t0_141 Tryz.underlying142))) (And.intro (And.intro tz142 (And.intro tt142 t0_142)) (And.intro Tryz.underlying148 (And.intro tz148 tt148))))) (And.intro (And.intro (And.intro (And.intro t0_148 Tryz.underlying149) (And.intro tz149 (And.intro tt149 t0_149))) (And.intro (And.intro Tryz.underlying154 tz154) (And.intro tt154 (And.intro t0_154 Tryz.underlying168)))) (And.intro (And.intro (And.intro tz168 tt168) (And.intro t0_168 (And.intro Tryz.underlying204 tz204))) (And.intro (And.intro tt204 (And.intro t0_204 Tryz.underlying207)) (And.intro tz207 (And.intro tt207 t0_207)))))))):=(And.intro (And.intro (And.intro (And.intro (And.intro (And.intro (And.intro Tryz.underlying3 tz3) (And.intro tt3 (And.intro t0_3 Tryz.underlying4))) (And.intro (And.intro tz4 tt4) (And.intro t0_4 (And.intro Tryz.underlying9 tz9)))) (And.intro (And.intro (And.intro tt9 t0_9) (And.intro Tryz.underlying22 (And.intro tz22 tt22))) (And.intro (And.intro t0_22 (And.intro Tryz.underlying23 tz23)) (And.intro tt23 (And.intro t0_23 Tryz.underlying24))))) (And.intro (And.intro (And.intro (And.intro tz24 tt24) (And.intro t0_24 (And.intro Tryz.underlying25 tz25))) (And.intro (And.intro tt25 t0_25) (And.intro Tryz.underlying26 (And.intro tz26 tt26)))) (And.intro (And.intro (And.intro t0_26 Tryz.underlying29) (And.intro tz29 (And.intro tt29 t0_29))) (And.intro (And.intro Tryz.underlying35 (And.intro tz35 tt35)) (And.intro t0_35 (And.intro Tryz.underlying36 tz36)))))) (And.intro (And.intro (And.intro (And.intro (And.intro tt36 t0_36) (And.intro Tryz.underlying40 (And.intro tz40 tt40))) (And.intro (And.intro t0_40 Tryz.underlying47) (And.intro tz47 (And.intro tt47 t0_47)))) (And.intro (And.intro (And.intro Tryz.underlying50 tz50) (And.intro tt50 (And.intro t0_50 Tryz.underlying51))) (And.intro (And.intro tz51 (And.intro tt51 t0_51)) (And.intro Tryz.underlying54 (And.intro tz54 tt54))))) (And.intro (And.intro (And.intro (And.intro t0_54 Tryz.underlying57) (And.intro tz57 (And.intro tt57 t0_57))) (And.intro (And.intro Tryz.underlying58 tz58) (And.intro tt58 (And.intro t0_58 Tryz.underlying91)))) (And.intro (And.intro (And.intro tz91 tt91) (And.intro t0_91 (And.intro Tryz.underlying92 tz92))) (And.intro (And.intro tt92 (And.intro t0_92 Tryz.underlying93)) (And.intro tz93 (And.intro tt93 t0_93))))))) (And.intro (And.intro (And.intro (And.intro (And.intro (And.intro Tryz.underlying94 tz94) (And.intro tt94 (And.intro t0_94 Tryz.underlying97))) (And.intro (And.intro tz97 tt97) (And.intro t0_97 (And.intro Tryz.underlying98 tz98)))) (And.intro (And.intro (And.intro tt98 t0_98) (And.intro Tryz.underlying109 (And.intro tz109 tt109))) (And.intro (And.intro t0_109 (And.intro Tryz.underlying110 tz110)) (And.intro tt110 (And.intro t0_110 Tryz.underlying113))))) (And.intro (And.intro (And.intro (And.intro tz113 tt113) (And.intro t0_113 (And.intro Tryz.underlying124 tz124))) (And.intro (And.intro tt124 t0_124) (And.intro Tryz.underlying125 (And.intro tz125 tt125)))) (And.intro (And.intro (And.intro t0_125 Tryz.underlying127) (And.intro tz127 (And.intro tt127 t0_127))) (And.intro (And.intro Tryz.underlying128 (And.intro tz128 tt128)) (And.intro t0_128 (And.intro Tryz.underlying134 tz134)))))) (And.intro (And.intro (And.intro (And.intro (And.intro tt134 t0_134) (And.intro Tryz.underlying136 (And.intro tz136 tt136))) (And.intro (And.intro t0_136 Tryz.underlying137) (And.intro tz137 (And.intro tt137 t0_137)))) (And.intro (And.intro (And.intro Tryz.underlying141 tz141) (And.intro tt141 (And.intro t0_141 Tryz.underlying142))) (And.intro (And.intro tz142 (And.intro tt142 t0_142)) (And.intro Tryz.underlying148 (And.intro tz148 tt148))))) (And.intro (And.intro (And.intro (And.intro t0_148 Tryz.underlying149) (And.intro tz149 (And.intro tt149 t0_149))) (And.intro (And.intro Tryz.underlying154 tz154) (And.intro tt154 (And.intro t0_154 Tryz.underlying168)))) (And.intro (And.intro (And.intro tz168 tt168) (And.intro t0_168 (And.intro Tryz.underlying204 tz204))) (And.intro (And.intro tt204 (And.intro t0_204 Tryz.underlying207)) (And.intro tz207 (And.intro tt207 t0_207))))))))
def R52_0 (h:Hs) (a:Int) (ta:Int) (b:Int) (tb:Int) (l:List Int)  : List Int→Sum (Int) (Unit)
 | []=>.inr ()
 | x9 :: l'=>(if x9<0 then .inl 8 else (if 1073741824<x9 then .inl 8 else R52_0 h a ta b tb l l'))
def r52 (h:Hs) (a:Int) (ta:Int) (b:Int) (tb:Int) (l:List Int):Int:=(if (r113 h a ta b tb)=0 then (if (l.length:Int)=(h.rooms.length:Int) then (onSum (R52_0 h a ta b tb l l) (fun (r12:Int)=>r12) (fun (_:Unit)=>(if ta<(lget l (Int.toNat a)) then 8 else (if (lget l (Int.toNat b))≤tb then 8 else (if r118 h l=true then 0 else 8))))) else 8) else (r113 h a ta b tb))
set_option maxHeartbeats 8000000 in
theorem c52 (h:Hs) (a:Int) (ta:Int) (b:Int) (tb:Int) (l:List Int) (hF:Few h) (hs:∀ x ∈ h.rooms,x.name.size≤9223372036854775807) (hl:l.length≤40) (S:AS) (v_h_rooms:Value) (hv_h_rooms:LstR S v_h_rooms h.rooms) (v_h_doors:Value) (hv_h_doors:LstR S v_h_doors h.doors) (v_h_ways:Value) (hv_h_ways:Lst S v_h_ways h.ways) (v_l:Value) (hv_l:Lst S v_l l) :
  ∃ S',(evL Tryz.prog E0).call 52 #[.agg #[v_h_rooms,v_h_doors,v_h_ways],.int .i64 a,.int .i64 ta,.int .i64 b,.int .i64 tb,v_l] S=some (.int .i64 (r52 h a ta b tb l),S')∧Agree S S':=by
 have qr:=hF.r; have qd:=hF.d; have qw:=hF.w
 generalize hz:(evL Tryz.prog E0).call 52 _ _=z
 rw [L_call,evCall_said rfl Tryz.func52 rfl (by decide) Tryz.ntmps52 Tryz.results52] at hz
 obtain ⟨S1,e1,n1,b1,a1⟩:=push_open S (.cells [v_h_rooms,v_h_doors,v_h_ways] 26 0 true true)
 have g1:Agree S S1:=a1
 have s1:E0.same S S1=true:=symEnv_same a1
 obtain ⟨S2,k2,a2⟩:=c113 h a ta b tb hF hs S1 (v_h_rooms) (hv_h_rooms.agree g1) (v_h_doors) (hv_h_doors.agree g1) (v_h_ways) (hv_h_ways.agree g1)
 have l2:=a2.1
 have s2:E0.same S1 S2=true:=symEnv_same a2
 have v1_2:=(a2.2 S.next (by omega)).trans b1
 have g2:Agree S S2:=g1.trans a2
 try simp (disch:=first|omega|assumption) only [E0_G,SY,setArgs,off,agreeKind,vals,boxed,ldA,rdCells,aggD,Nat.reduceAdd,Nat.reduceSub,Nat.reduceLT,Nat.reduceBEq,TY_EvH30,e1,b1,k2] at hz
 rcases dP ((r113 h a ta b tb)=0) with ⟨h3a,h3⟩|⟨h3a,h3⟩
 ·skip
  have hV:=(r113_ok h3).1
  have lq4:=(r113_ok h3).2
  have w5:=(hv_l.agree g2).len (P:=Tryz.prog) (t:=54) Tryz.underlying54
  have w6:=(hv_h_rooms.agree g2).len (P:=Tryz.prog) (t:=22) Tryz.underlying22
  try simp (disch:=first|omega|assumption) only [E0_G,SY,off,agreeKind,ldA,aggD,aField,Nat.reduceAdd,Nat.reduceLT,Nat.reduceBEq,TY_EvH30,v1_2,h3a,w5,w6] at hz
  rcases dP ((l.length:Int)=(h.rooms.length:Int)) with ⟨h7a,h7⟩|⟨h7a,h7⟩
  ·skip
   have w8:=(hv_l.agree g2).len (P:=Tryz.prog) (t:=54) Tryz.underlying54
   try simp (disch:=first|omega|assumption) only [E0_G,SY,off,agreeKind,Nat.reduceAdd,Nat.reduceLT,Nat.reduceBEq,w5,h7a] at hz
   generalize hL9:Rec.loop _ _ _ _=L9 at hz
   obtain ⟨x9,t9,S9e,rfl,hQ9⟩:=loop_met hL9 (fun m t S'=>∃ (k:Nat),m+k=l.length∧k≤l.length∧t.get 1=some (.int .i64 a)∧t.get 2=some (.int .i64 ta)∧t.get 3=some (.int .i64 b)∧t.get 4=some (.int .i64 tb)∧t.get 5=some (v_l)∧t.get 6=some (.pointer (some ⟨S.next,0,none⟩))∧t.get 31=some (v_l)∧t.get 32=some (.int .i64 (l.length:Int))∧t.get 33=some (.int .i64 (k:Int))∧S'.heap.get S.next=some (.cells [v_h_rooms,v_h_doors,v_h_ways] 26 0 true true)∧Agree S S'∧S2.next≤S'.next∧R52_0 h a ta b tb l (l.drop k)=R52_0 h a ta b tb l l)
    (fun x t S'=>(x=.exit 0∧∃ (k:Nat),t.get 1=some (.int .i64 a)∧t.get 2=some (.int .i64 ta)∧t.get 3=some (.int .i64 b)∧t.get 4=some (.int .i64 tb)∧t.get 5=some (v_l)∧t.get 6=some (.pointer (some ⟨S.next,0,none⟩))∧S'.heap.get S.next=some (.cells [v_h_rooms,v_h_doors,v_h_ways] 26 0 true true)∧Agree S S'∧S2.next≤S'.next∧k≤l.length∧R52_0 h a ta b tb l l=.inr ())∨(x=.ret∧∃ (r12:Int),t.get 12=some (.int .i64 r12)∧Agree S S'∧R52_0 h a ta b tb l l=.inl (r12))) (l.length - 0) (by refine ⟨0,?_,?_,?_,?_,?_,?_,?_,?_,?_,?_,?_,v1_2,g2,Nat.le_refl _,rfl⟩<;>first|(simp only [SY,eq_self,Nat.reduceBEq]<;>rfl)|omega|assumption|(simp; omega)|simp) (by
     rintro m t S9 ⟨k,hi9_0,hi9_1,g9_1,g9_2,g9_3,g9_4,g9_5,g9_6,g9_31,g9_32,g9_33,bb9_1,ga9,gn9,hd9⟩
     refine .run fun z he=>?_
     try simp (disch:=first|omega|assumption) only [E0_G,SY,off,agreeKind,Nat.reduceLT,Nat.reduceBEq,g9_32,g9_33] at he
     rcases dP ((k:Int)<(l.length:Int)) with ⟨h10a,h10⟩|⟨h10a,h10⟩
     ·skip
      have hx9:l[k]?=some (l[k]'(by first|omega|simp; omega)):=List.getElem?_eq_getElem _
      generalize l[k]'_=x9 at hx9
      obtain ⟨id11,of11,cc11,ty11,wr11,ex11,i11,j11,l11,q11⟩:=(hv_l).at (P:=Tryz.prog) (t:=54) Tryz.underlying54 tz3 hx9
      have jr11:=j11
      have j11:=(ga9.2 id11 l11).trans jr11
      have m11_0:cc11[of11]?=some (.int .i64 x9):=q11 0 (show 0<1 by decide)
      try simp (disch:=first|omega|assumption) only [E0_G,SY,off,agreeKind,ldA,aggD,Nat.reduceAdd,Nat.reduceLT,Nat.reduceBEq,TY_EvH30,g9_31,g9_33,h10a,i11,j11,m11_0] at he
      rcases dP (x9<0) with ⟨h12a,h12⟩|⟨h12a,h12⟩
      ·skip
       try simp (disch:=first|omega|assumption) only [E0_G,SY,off,agreeKind,Nat.reduceAdd,Nat.reduceLT,Nat.reduceBEq,h12a] at he
       rw [drop_cons' hx9] at hd9
       have hf:=(show _=(.inl 8:Sum (Int) (Unit)) from (if_pos h12).trans (rfl)).symm.trans hd9
       refine .ret he (.inr ⟨rfl,⟨8,?_,ga9,hf.symm⟩⟩)<;>first|(simp only [SY,eq_self,Nat.reduceBEq]<;>rfl)|omega|assumption|(simp; omega)|simp
      ·skip
       try simp (disch:=first|omega|assumption) only [E0_G,SY,off,agreeKind,Nat.reduceAdd,Nat.reduceLT,Nat.reduceBEq,h12a] at he
       rcases dP (1073741824<x9) with ⟨h13a,h13⟩|⟨h13a,h13⟩
       ·skip
        try simp (disch:=first|omega|assumption) only [E0_G,SY,off,agreeKind,Nat.reduceLT,h13a] at he
        rw [drop_cons' hx9] at hd9
        have hf:=(show _=(.inl 8:Sum (Int) (Unit)) from (if_neg h12).trans ((if_pos h13).trans (rfl))).symm.trans hd9
        refine .ret he (.inr ⟨rfl,⟨8,?_,ga9,hf.symm⟩⟩)<;>first|(simp only [SY,eq_self,Nat.reduceBEq]<;>rfl)|omega|assumption|(simp; omega)|simp
       ·skip
        have w14:IntKind.i64.wrap ((k:Int)+1)=((k+1:Nat):Int):=by rw [IntWalk.i64_in]<;>omega
        try simp (disch:=first|omega|assumption) only [E0_G,SY,off,agreeKind,Nat.reduceAdd,Nat.reduceLT,Nat.reduceBEq,g9_33,h13a,w14] at he
        rw [drop_cons' hx9] at hd9
        have hf:=(show _=(R52_0 h a ta b tb l (l.drop (k+1)):Sum (Int) (Unit)) from (if_neg h12).trans ((if_neg h13).trans (rfl))).symm.trans hd9
        refine .next he (m - 1) (by omega) ⟨(k+1),?_,?_,?_,?_,?_,?_,?_,?_,?_,?_,?_,bb9_1,ga9,by omega,hf⟩<;>first|(simp only [SY,eq_self,Nat.reduceBEq,g9_1,g9_2,g9_3,g9_4,g9_5,g9_6,g9_31,g9_32,g9_33]<;>rfl)|omega|assumption|(simp; omega)|simp
     ·skip
      try simp (disch:=first|omega|assumption) only [SY,h10a] at he
      rw [List.drop_eq_nil_of_le (show l.length≤k by omega)] at hd9
      have hf:=(show _=(.inr ():Sum (Int) (Unit)) from rfl).symm.trans hd9
      refine .exit he (.inl ⟨rfl,⟨k,?_,?_,?_,?_,?_,?_,bb9_1,ga9,by omega,?_,hf.symm⟩⟩)<;>first|(simp only [SY,eq_self,Nat.reduceBEq,g9_1,g9_2,g9_3,g9_4,g9_5,g9_6]<;>rfl)|omega|assumption|(simp; omega)|simp)
   rcases hQ9 with ⟨rfl,hQ9⟩|⟨rfl,hQ9⟩
   ·skip
    obtain ⟨k,ge9_1,ge9_2,ge9_3,ge9_4,ge9_5,ge9_6,be9_1,ge9,gm9,hj9_0,hR9⟩:=hQ9
    have qz16:((Int.toNat a:Nat):Int)=a:=Int.toNat_of_nonneg (by first|omega|simp; omega)
    have hx17:l[(Int.toNat a)]?=some (lget l (Int.toNat a)):=lget_some (by first|omega|simp; omega)
    obtain ⟨id17,of17,cc17,ty17,wr17,ex17,i17,j17,l17,q17⟩:=(hv_l).at (P:=Tryz.prog) (t:=54) Tryz.underlying54 tz3 hx17
    have jr17:=j17
    have j17:=(ge9.2 id17 l17).trans jr17
    have m17_0:cc17[of17]?=some (.int .i64 (lget l (Int.toNat a))):=q17 0 (show 0<1 by decide)
    rw [qz16] at i17
    try simp (disch:=first|omega|assumption) only [E0_G,SY,off,agreeKind,ldA,aggD,eq_self,if_true,Nat.reduceAdd,Nat.reduceLT,Nat.reduceBEq,TY_EvH30,ge9_1,ge9_2,ge9_5,i17,j17,m17_0] at hz
    rcases dP (ta<(lget l (Int.toNat a))) with ⟨h18a,h18⟩|⟨h18a,h18⟩
    ·skip
     try simp (disch:=first|omega|assumption) only [E0_G,SY,off,agreeKind,Nat.reduceAdd,Nat.reduceLT,Nat.reduceBEq,h18a] at hz
     have hr:r52 h a ta b tb l=8:=(if_pos h3).trans ((if_pos h7).trans ((onSum_inr hR9).trans ((if_pos h18).trans (rfl))))
     exact fin hz (by rw [hr]) ge9
    ·skip
     have qz19:((Int.toNat b:Nat):Int)=b:=Int.toNat_of_nonneg (by first|omega|simp; omega)
     have hx20:l[(Int.toNat b)]?=some (lget l (Int.toNat b)):=lget_some (by first|omega|simp; omega)
     obtain ⟨id20,of20,cc20,ty20,wr20,ex20,i20,j20,l20,q20⟩:=(hv_l).at (P:=Tryz.prog) (t:=54) Tryz.underlying54 tz3 hx20
     have jr20:=j20
     have j20:=(ge9.2 id20 l20).trans jr20
     have m20_0:cc20[of20]?=some (.int .i64 (lget l (Int.toNat b))):=q20 0 (show 0<1 by decide)
     rw [qz19] at i20
     try simp (disch:=first|omega|assumption) only [E0_G,SY,off,agreeKind,ldA,aggD,Nat.reduceAdd,Nat.reduceLT,Nat.reduceBEq,TY_EvH30,ge9_3,ge9_4,ge9_5,h18a,i20,j20,m20_0] at hz
     rcases dP ((lget l (Int.toNat b))≤tb) with ⟨h21a,h21⟩|⟨h21a,h21⟩
     ·skip
      try simp (disch:=first|omega|assumption) only [E0_G,SY,off,agreeKind,Nat.reduceAdd,Nat.reduceLT,Nat.reduceBEq,h21a] at hz
      have hr:r52 h a ta b tb l=8:=(if_pos h3).trans ((if_pos h7).trans ((onSum_inr hR9).trans ((if_neg h18).trans ((if_pos h21).trans (rfl)))))
      exact fin hz (by rw [hr]) ge9
     ·skip
      obtain ⟨S22,k22,a22⟩:=c118 h l (by omega) hV (by omega) S9e (v_h_rooms) (hv_h_rooms.agree ge9) (v_h_doors) (hv_h_doors.agree ge9) (v_h_ways) (hv_h_ways.agree ge9) (v_l) (hv_l.agree ge9)
      have l22:=a22.1
      have s22:E0.same S9e S22=true:=symEnv_same a22
      have v1_22:=(a22.2 S.next (by omega)).trans be9_1
      have v17_22:=(a22.2 id17 (by omega)).trans j17
      have v20_22:=(a22.2 id20 (by omega)).trans j20
      have g22:Agree S S22:=ge9.trans a22
      try simp (disch:=first|omega|assumption) only [E0_G,SY,off,agreeKind,vals,ldA,rdCells,aggD,Nat.reduceAdd,Nat.reduceLT,Nat.reduceBEq,TY_EvH30,ge9_5,ge9_6,be9_1,h21a,k22] at hz
      rcases dB (r118 h l) with ⟨h23a,h23⟩|⟨h23a,h23⟩
      ·skip
       try simp (disch:=first|omega|assumption) only [E0_G,SY,off,agreeKind,Nat.reduceLT,Nat.reduceBEq,h23a] at hz
       have hr:r52 h a ta b tb l=0:=(if_pos h3).trans ((if_pos h7).trans ((onSum_inr hR9).trans ((if_neg h18).trans ((if_neg h21).trans ((if_pos h23).trans (rfl))))))
       exact fin hz (by rw [hr]) g22
      ·skip
       try simp (disch:=first|omega|assumption) only [E0_G,SY,off,agreeKind,Nat.reduceLT,Nat.reduceBEq,h23a] at hz
       have hr:r52 h a ta b tb l=8:=(if_pos h3).trans ((if_pos h7).trans ((onSum_inr hR9).trans ((if_neg h18).trans ((if_neg h21).trans ((if_neg h23).trans (rfl))))))
       exact fin hz (by rw [hr]) g22
   ·skip
    obtain ⟨r12,ge9_12,ge9,hR9⟩:=hQ9
    try simp (disch:=first|omega|assumption) only [SY,ge9_12] at hz
    have hr:r52 h a ta b tb l=r12:=(if_pos h3).trans ((if_pos h7).trans ((onSum_inl hR9).trans (rfl)))
    exact fin hz (by rw [hr]) ge9
  ·skip
   try simp (disch:=first|omega|assumption) only [E0_G,SY,off,agreeKind,Nat.reduceLT,Nat.reduceBEq,h7a] at hz
   have hr:r52 h a ta b tb l=8:=(if_pos h3).trans ((if_neg h7).trans (rfl))
   exact fin hz (by rw [hr]) g2
 ·skip
  try simp (disch:=first|omega|assumption) only [E0_G,SY,off,agreeKind,Nat.reduceAdd,Nat.reduceLT,Nat.reduceBEq,h3a] at hz
  have hr:r52 h a ta b tb l=(r113 h a ta b tb):=(if_neg h3).trans (rfl)
  exact fin hz (by rw [hr]) g2
def R55_0 (h:Hs) (a:Int) (ta:Int) (b:Int) (tb:Int) (l:List Int)  : List Int→Sum (Bool) (Unit)
 | []=>.inr ()
 | x5 :: l'=>(if (r71 x5 0 1073741824)=true then R55_0 h a ta b tb l l' else .inl false)
def R55_1 (h:Hs) (a:Int) (ta:Int) (b:Int) (tb:Int) (l:List Int)  : List Gt→Sum (Bool) (Unit)
 | []=>.inr ()
 | x21 :: l'=>(if (lget l (Int.toNat x21.fr))<1073741824 then (if (r99 h x21 (lget l (Int.toNat x21.fr)))<(lget l (Int.toNat x21.to)) then .inl false else R55_1 h a ta b tb l l') else R55_1 h a ta b tb l l')
def r55 (h:Hs) (a:Int) (ta:Int) (b:Int) (tb:Int) (l:List Int):Bool:=(if (l.length:Int)=(h.rooms.length:Int) then (onSum (R55_0 h a ta b tb l l) (fun (r12:Bool)=>r12) (fun (_:Unit)=>(if ta<(lget l (Int.toNat a)) then false else (if (lget l (Int.toNat b))≤tb then false else (onSum (R55_1 h a ta b tb l (r116 h)) (fun (r12:Bool)=>r12) (fun (_:Unit)=>true)))))) else false)
set_option maxHeartbeats 16000000 in
theorem c55 (h:Hs) (a:Int) (ta:Int) (b:Int) (tb:Int) (l:List Int) (hF:Few h) (hV:r59 h=0) (hl:l.length≤40) (ha:0≤a∧a<(h.rooms.length:Int)) (hb:0≤b∧b<(h.rooms.length:Int)) (S:AS) (v_h_rooms:Value) (hv_h_rooms:LstR S v_h_rooms h.rooms) (v_h_doors:Value) (hv_h_doors:LstR S v_h_doors h.doors) (v_h_ways:Value) (hv_h_ways:Lst S v_h_ways h.ways) (v_l:Value) (hv_l:Lst S v_l l) :
  ∃ S',(evL Tryz.prog E0).call 55 #[.agg #[v_h_rooms,v_h_doors,v_h_ways],.int .i64 a,.int .i64 ta,.int .i64 b,.int .i64 tb,v_l] S=some (.bool (r55 h a ta b tb l),S')∧Agree S S':=by
 have qr:=hF.r; have qd:=hF.d; have qw:=hF.w; have hgl:=r116_len h
 have q0:∀ (m:List Int),R55_0 h a ta b tb l m=.inr ()→∀ x ∈ m,0≤x∧x≤1073741824:=by
  intro m
  induction m with
  | nil=>intro _ x hx; simp at hx
  | cons y m ih =>
   intro e x hx
   rw [R55_0] at e
   split at e
   ·rcases List.mem_cons.1 hx with rfl|hx
    ·exact r71_iff.1 (by assumption)
    ·exact ih e x hx
   ·cases e
 generalize hz:(evL Tryz.prog E0).call 55 _ _=z
 rw [L_call,evCall_said rfl Tryz.func55 rfl (by decide) Tryz.ntmps55 Tryz.results55] at hz
 obtain ⟨S1,e1,n1,b1,a1⟩:=push_open S (.cells [v_h_rooms,v_h_doors,v_h_ways] 26 0 true true)
 have g1:Agree S S1:=a1
 have s1:E0.same S S1=true:=symEnv_same a1
 have w2:=(hv_l.agree g1).len (P:=Tryz.prog) (t:=54) Tryz.underlying54
 have w3:=(hv_h_rooms.agree g1).len (P:=Tryz.prog) (t:=22) Tryz.underlying22
 try simp (disch:=first|omega|assumption) only [E0_G,SY,setArgs,off,agreeKind,boxed,ldA,aggD,aField,Nat.reduceAdd,Nat.reduceSub,Nat.reduceLT,Nat.reduceBEq,TY_EvH30,e1,b1,w2,w3] at hz
 rcases dP ((l.length:Int)=(h.rooms.length:Int)) with ⟨h4a,h4⟩|⟨h4a,h4⟩
 ·skip
  try simp (disch:=first|omega|assumption) only [E0_G,SY,off,agreeKind,Nat.reduceLT,h4a] at hz
  generalize hL5:Rec.loop _ _ _ _=L5 at hz
  obtain ⟨x5,t5,S5e,rfl,hQ5⟩:=loop_met hL5 (fun m t S'=>∃ (k:Nat),m+k=l.length∧k≤l.length∧t.get 1=some (.int .i64 a)∧t.get 2=some (.int .i64 ta)∧t.get 3=some (.int .i64 b)∧t.get 4=some (.int .i64 tb)∧t.get 5=some (v_l)∧t.get 6=some (.pointer (some ⟨S.next,0,none⟩))∧t.get 13=some (.int .i64 (k:Int))∧S'.heap.get S.next=some (.cells [v_h_rooms,v_h_doors,v_h_ways] 26 0 true true)∧Agree S S'∧S1.next≤S'.next∧R55_0 h a ta b tb l (l.drop k)=R55_0 h a ta b tb l l)
   (fun x t S'=>(x=.exit 0∧∃ (k:Nat),t.get 1=some (.int .i64 a)∧t.get 2=some (.int .i64 ta)∧t.get 3=some (.int .i64 b)∧t.get 4=some (.int .i64 tb)∧t.get 5=some (v_l)∧t.get 6=some (.pointer (some ⟨S.next,0,none⟩))∧S'.heap.get S.next=some (.cells [v_h_rooms,v_h_doors,v_h_ways] 26 0 true true)∧Agree S S'∧S1.next≤S'.next∧k≤l.length∧R55_0 h a ta b tb l l=.inr ())∨(x=.ret∧∃ (r12:Bool),t.get 12=some (.bool r12)∧Agree S S'∧R55_0 h a ta b tb l l=.inl (r12))) (l.length - 0) (by refine ⟨0,?_,?_,?_,?_,?_,?_,?_,?_,?_,b1,g1,Nat.le_refl _,rfl⟩<;>first|(simp only [SY,eq_self,Nat.reduceBEq]<;>rfl)|omega|assumption|(simp; omega)|simp) (by
    rintro m t S5 ⟨k,hi5_0,hi5_1,g5_1,g5_2,g5_3,g5_4,g5_5,g5_6,g5_13,bb5_1,ga5,gn5,hd5⟩
    refine .run fun z he=>?_
    have w6:=(hv_l.agree ga5).len (P:=Tryz.prog) (t:=54) Tryz.underlying54
    try simp (disch:=first|omega|assumption) only [E0_G,SY,off,agreeKind,Nat.reduceAdd,Nat.reduceLT,Nat.reduceBEq,g5_5,g5_13,w2] at he
    rcases dP ((k:Int)<(l.length:Int)) with ⟨h7a,h7⟩|⟨h7a,h7⟩
    ·skip
     have hx5:l[k]?=some (l[k]'(by first|omega|simp; omega)):=List.getElem?_eq_getElem _
     generalize l[k]'_=x5 at hx5
     obtain ⟨id8,of8,cc8,ty8,wr8,ex8,i8,j8,l8,q8⟩:=(hv_l).at (P:=Tryz.prog) (t:=54) Tryz.underlying54 tz3 hx5
     have jr8:=j8
     have j8:=(ga5.2 id8 l8).trans jr8
     have m8_0:cc8[of8]?=some (.int .i64 x5):=q8 0 (show 0<1 by decide)
     obtain ⟨S9,k9,a9⟩:=c71 x5 0 1073741824  S5
     have l9:=a9.1
     have s9:E0.same S5 S9=true:=symEnv_same a9
     have v1_9:=(a9.2 S.next (by omega)).trans bb5_1
     have v8_9:=(a9.2 id8 (by omega)).trans j8
     have g9:Agree S S9:=ga5.trans a9
     try simp (disch:=first|omega|assumption) only [E0_G,SY,off,agreeKind,vals,ldA,aggD,Nat.reduceAdd,Nat.reduceLT,Nat.reduceBEq,TY_EvH30,g5_5,g5_13,h7a,i8,j8,m8_0,k9] at he
     rcases dB ((r71 x5 0 1073741824)) with ⟨h10a,h10⟩|⟨h10a,h10⟩
     ·skip
      have lq11:=r71_iff.1 h10
      have w12:IntKind.i64.wrap ((k:Int)+1)=((k+1:Nat):Int):=by rw [IntWalk.i64_in]<;>omega
      try simp (disch:=first|omega|assumption) only [E0_G,SY,off,agreeKind,Nat.reduceAdd,Nat.reduceLT,Nat.reduceBEq,g5_13,h10a,w12] at he
      rw [drop_cons' hx5] at hd5
      have hf:=(show _=(R55_0 h a ta b tb l (l.drop (k+1)):Sum (Bool) (Unit)) from (if_pos h10).trans (rfl)).symm.trans hd5
      refine .next he (m - 1) (by omega) ⟨(k+1),?_,?_,?_,?_,?_,?_,?_,?_,?_,v1_9,g9,by omega,hf⟩<;>first|(simp only [SY,eq_self,Nat.reduceBEq,g5_1,g5_2,g5_3,g5_4,g5_5,g5_6,g5_13]<;>rfl)|omega|assumption|(simp; omega)|simp
     ·skip
      try simp (disch:=first|omega|assumption) only [E0_G,SY,off,agreeKind,Nat.reduceLT,h10a] at he
      rw [drop_cons' hx5] at hd5
      have hf:=(show _=(.inl false:Sum (Bool) (Unit)) from (if_neg h10).trans (rfl)).symm.trans hd5
      refine .ret he (.inr ⟨rfl,⟨false,?_,g9,hf.symm⟩⟩)<;>first|(simp only [SY,eq_self,Nat.reduceBEq]<;>rfl)|omega|assumption|(simp; omega)|simp
    ·skip
     try simp (disch:=first|omega|assumption) only [SY,h7a] at he
     rw [List.drop_eq_nil_of_le (show l.length≤k by omega)] at hd5
     have hf:=(show _=(.inr ():Sum (Bool) (Unit)) from rfl).symm.trans hd5
     refine .exit he (.inl ⟨rfl,⟨k,?_,?_,?_,?_,?_,?_,bb5_1,ga5,by omega,?_,hf.symm⟩⟩)<;>first|(simp only [SY,eq_self,Nat.reduceBEq,g5_1,g5_2,g5_3,g5_4,g5_5,g5_6]<;>rfl)|omega|assumption|(simp; omega)|simp)
  rcases hQ5 with ⟨rfl,hQ5⟩|⟨rfl,hQ5⟩
  ·skip
   obtain ⟨k,ge5_1,ge5_2,ge5_3,ge5_4,ge5_5,ge5_6,be5_1,ge5,gm5,hj5_0,hR5⟩:=hQ5
   have qz14:((Int.toNat a:Nat):Int)=a:=Int.toNat_of_nonneg (by first|omega|simp; omega)
   have hx15:l[(Int.toNat a)]?=some (lget l (Int.toNat a)):=lget_some (by first|omega|simp; omega)
   obtain ⟨id15,of15,cc15,ty15,wr15,ex15,i15,j15,l15,q15⟩:=(hv_l).at (P:=Tryz.prog) (t:=54) Tryz.underlying54 tz3 hx15
   have jr15:=j15
   have j15:=(ge5.2 id15 l15).trans jr15
   have m15_0:cc15[of15]?=some (.int .i64 (lget l (Int.toNat a))):=q15 0 (show 0<1 by decide)
   rw [qz14] at i15
   try simp (disch:=first|omega|assumption) only [E0_G,SY,off,agreeKind,ldA,aggD,eq_self,if_true,Nat.reduceAdd,Nat.reduceLT,Nat.reduceBEq,TY_EvH30,ge5_1,ge5_2,ge5_5,i15,j15,m15_0] at hz
   rcases dP (ta<(lget l (Int.toNat a))) with ⟨h16a,h16⟩|⟨h16a,h16⟩
   ·skip
    try simp (disch:=first|omega|assumption) only [E0_G,SY,off,agreeKind,Nat.reduceAdd,Nat.reduceLT,Nat.reduceBEq,h16a] at hz
    have hr:r55 h a ta b tb l=false:=(if_pos h4).trans ((onSum_inr hR5).trans ((if_pos h16).trans (rfl)))
    exact fin hz (by rw [hr]) ge5
   ·skip
    have qz17:((Int.toNat b:Nat):Int)=b:=Int.toNat_of_nonneg (by first|omega|simp; omega)
    have hx18:l[(Int.toNat b)]?=some (lget l (Int.toNat b)):=lget_some (by first|omega|simp; omega)
    obtain ⟨id18,of18,cc18,ty18,wr18,ex18,i18,j18,l18,q18⟩:=(hv_l).at (P:=Tryz.prog) (t:=54) Tryz.underlying54 tz3 hx18
    have jr18:=j18
    have j18:=(ge5.2 id18 l18).trans jr18
    have m18_0:cc18[of18]?=some (.int .i64 (lget l (Int.toNat b))):=q18 0 (show 0<1 by decide)
    rw [qz17] at i18
    try simp (disch:=first|omega|assumption) only [E0_G,SY,off,agreeKind,ldA,aggD,Nat.reduceAdd,Nat.reduceLT,Nat.reduceBEq,TY_EvH30,ge5_3,ge5_4,ge5_5,h16a,i18,j18,m18_0] at hz
    rcases dP ((lget l (Int.toNat b))≤tb) with ⟨h19a,h19⟩|⟨h19a,h19⟩
    ·skip
     try simp (disch:=first|omega|assumption) only [E0_G,SY,off,agreeKind,Nat.reduceLT,Nat.reduceBEq,h19a] at hz
     have hr:r55 h a ta b tb l=false:=(if_pos h4).trans ((onSum_inr hR5).trans ((if_neg h16).trans ((if_pos h19).trans (rfl))))
     exact fin hz (by rw [hr]) ge5
    ·skip
     obtain ⟨u20,S20,k20,a20,oo20⟩:=c116 h hF S5e (v_h_rooms) (hv_h_rooms.agree ge5) (v_h_doors) (hv_h_doors.agree ge5) (v_h_ways) (hv_h_ways.agree ge5)
     have l20:=a20.1
     obtain ⟨pu20,nu20,cu20,rfl⟩:=own_slice oo20
     have s20:E0.same S5e S20=true:=symEnv_same a20
     have v1_20:=(a20.2 S.next (by omega)).trans be5_1
     have v15_20:=(a20.2 id15 (by omega)).trans j15
     have v18_20:=(a20.2 id18 (by omega)).trans j18
     have g20:Agree S S20:=ge5.trans a20
     try simp (disch:=first|omega|assumption) only [E0_G,SY,off,agreeKind,vals,ldA,rdCells,aggD,Nat.reduceAdd,Nat.reduceLT,Nat.reduceBEq,TY_EvH30,ge5_6,be5_1,h19a,k20] at hz
     have hl0:=q0 _ (by assumption)
     generalize hL21:Rec.loop _ _ _ _=L21 at hz
     obtain ⟨x21,t21,S21e,rfl,hQ21⟩:=loop_met hL21 (fun m t S'=>∃ (gv:Nat),m+gv=(r116 h).length∧gv≤(r116 h).length∧t.get 5=some (v_l)∧t.get 6=some (.pointer (some ⟨S.next,0,none⟩))∧t.get 14=some (.slice pu20 nu20 cu20)∧t.get 15=some (.int .i64 (gv:Int))∧S'.heap.get S.next=some (.cells [v_h_rooms,v_h_doors,v_h_ways] 26 0 true true)∧Agree S S'∧S20.next≤S'.next∧Own 128 S5e.next S' (.slice pu20 nu20 cu20) (r116 h)∧R55_1 h a ta b tb l ((r116 h).drop gv)=R55_1 h a ta b tb l (r116 h))
      (fun x t S'=>(x=.exit 2∧∃ (gv:Nat),S'.heap.get S.next=some (.cells [v_h_rooms,v_h_doors,v_h_ways] 26 0 true true)∧Agree S S'∧S20.next≤S'.next∧Own 128 S5e.next S' (.slice pu20 nu20 cu20) (r116 h)∧gv≤(r116 h).length∧R55_1 h a ta b tb l (r116 h)=.inr ())∨(x=.ret∧∃ (r12:Bool),t.get 12=some (.bool r12)∧Agree S S'∧R55_1 h a ta b tb l (r116 h)=.inl (r12))) ((r116 h).length - 0) (by refine ⟨0,?_,?_,?_,?_,?_,?_,v1_20,g20,Nat.le_refl _,oo20,rfl⟩<;>first|(simp only [SY,eq_self,Nat.reduceBEq,ge5_5,ge5_6]<;>rfl)|omega|assumption|(simp; omega)|simp) (by
       rintro m t S21 ⟨gv,hi21_0,hi21_1,g21_5,g21_6,g21_14,g21_15,bb21_1,ga21,gn21,cw21_0,hd21⟩
       refine .run fun z he=>?_
       have w22:=(cw21_0.rows).len (P:=Tryz.prog) (t:=149) Tryz.underlying149
       try simp (disch:=first|omega|assumption) only [E0_G,SY,off,agreeKind,Nat.reduceAdd,Nat.reduceLT,Nat.reduceBEq,g21_14,g21_15,w22] at he
       rcases dP ((gv:Int)<((r116 h).length:Int)) with ⟨h23a,h23⟩|⟨h23a,h23⟩
       ·skip
        have hx21:(r116 h)[gv]?=some ((r116 h)[gv]'(by first|omega|simp; omega)):=List.getElem?_eq_getElem _
        generalize (r116 h)[gv]'_=x21 at hx21
        have eb25:=r116_ok hV (List.mem_of_getElem? hx21)
        have ef25:=eb25.f
        have et25:=eb25.t
        obtain ⟨id24,of24,cc24,ty24,wr24,ex24,i24,j24,l24,q24,lb24,bk24,oq24⟩:=cw21_0.at4 (P:=Tryz.prog) (t:=149) Tryz.underlying149 tz128 hx21
        have m24_0:cc24[of24]?=some (.int .i64 x21.way):=q24 0 (show 0<5 by decide)
        have m24_1:cc24[of24+1]?=some (.int .i64 x21.fr):=q24 1 (show 1<5 by decide)
        have m24_2:cc24[of24+2]?=some (.int .i64 x21.to):=q24 2 (show 2<5 by decide)
        have m24_3:cc24[of24+3]?=some (.int .i64 x21.secs):=q24 3 (show 3<5 by decide)
        have m24_4:cc24[of24+4]?=some (.int .i64 x21.door):=q24 4 (show 4<5 by decide)
        have qz26:((Int.toNat x21.fr:Nat):Int)=x21.fr:=Int.toNat_of_nonneg (by first|omega|simp; omega)
        have hx27:l[(Int.toNat x21.fr)]?=some (lget l (Int.toNat x21.fr)):=lget_some (by first|omega|simp; omega)
        have eb28:=hl0 _ (List.mem_of_getElem? hx27)
        obtain ⟨id27,of27,cc27,ty27,wr27,ex27,i27,j27,l27,q27⟩:=(hv_l).at (P:=Tryz.prog) (t:=54) Tryz.underlying54 tz3 hx27
        have jr27:=j27
        have j27:=(ga21.2 id27 l27).trans jr27
        have m27_0:cc27[of27]?=some (.int .i64 (lget l (Int.toNat x21.fr))):=q27 0 (show 0<1 by decide)
        rw [qz26] at i27
        try simp (disch:=first|omega|assumption) only [E0_G,SY,off,agreeKind,ldA,aggD,aField,Nat.reduceAdd,Nat.reduceLT,Nat.reduceBEq,TY_EvH30,g21_5,g21_14,g21_15,h23a,i24,j24,m24_1,i27,j27,m27_0] at he
        rcases dP ((lget l (Int.toNat x21.fr))<1073741824) with ⟨h29a,h29⟩|⟨h29a,h29⟩
        ·skip
         try simp (disch:=first|omega|assumption) only [SY,h29a] at he
         rw [code_draws _ _ _ (by kernel_rfl)] at he
         generalize hnd30:needy _=nd30 at he
         have eb32:=r116_ok hV (List.mem_of_getElem? hx21)
         have ef32:=eb32.f
         have et32:=eb32.t
         obtain ⟨id31,of31,cc31,ty31,wr31,ex31,i31,j31,l31,q31,lb31,bk31,oq31⟩:=cw21_0.at4 (P:=Tryz.prog) (t:=149) Tryz.underlying149 tz128 hx21
         obtain rfl:id24=id31:=Option.some.inj (bk24.symm.trans bk31)
         obtain rfl:of24=of31:=oq24.trans oq31.symm
         have m31_0:cc31[of24]?=some (.int .i64 x21.way):=q31 0 (show 0<5 by decide)
         have m31_1:cc31[of24+1]?=some (.int .i64 x21.fr):=q31 1 (show 1<5 by decide)
         have m31_2:cc31[of24+2]?=some (.int .i64 x21.to):=q31 2 (show 2<5 by decide)
         have m31_3:cc31[of24+3]?=some (.int .i64 x21.secs):=q31 3 (show 3<5 by decide)
         have m31_4:cc31[of24+4]?=some (.int .i64 x21.door):=q31 4 (show 4<5 by decide)
         have eb34:=r116_ok hV (List.mem_of_getElem? hx21)
         have ef34:=eb34.f
         have et34:=eb34.t
         obtain ⟨id33,of33,cc33,ty33,wr33,ex33,i33,j33,l33,q33,lb33,bk33,oq33⟩:=cw21_0.at4 (P:=Tryz.prog) (t:=149) Tryz.underlying149 tz128 hx21
         obtain rfl:id24=id33:=Option.some.inj (bk24.symm.trans bk33)
         obtain rfl:of24=of33:=oq24.trans oq33.symm
         have m33_0:cc33[of24]?=some (.int .i64 x21.way):=q33 0 (show 0<5 by decide)
         have m33_1:cc33[of24+1]?=some (.int .i64 x21.fr):=q33 1 (show 1<5 by decide)
         have m33_2:cc33[of24+2]?=some (.int .i64 x21.to):=q33 2 (show 2<5 by decide)
         have m33_3:cc33[of24+3]?=some (.int .i64 x21.secs):=q33 3 (show 3<5 by decide)
         have m33_4:cc33[of24+4]?=some (.int .i64 x21.door):=q33 4 (show 4<5 by decide)
         have qz35:((Int.toNat x21.fr:Nat):Int)=x21.fr:=Int.toNat_of_nonneg (by first|omega|simp; omega)
         have eb37:=hl0 _ (List.mem_of_getElem? hx27)
         obtain ⟨id36,of36,cc36,ty36,wr36,ex36,i36,j36,l36,q36⟩:=(hv_l).at (P:=Tryz.prog) (t:=54) Tryz.underlying54 tz3 hx27
         have jr36:=j36
         have j36:=(ga21.2 id36 l36).trans jr36
         have j36_27:=(ga21.2 id27 l27).trans jr27
         have m36_0:cc36[of36]?=some (.int .i64 (lget l (Int.toNat x21.fr))):=q36 0 (show 0<1 by decide)
         rw [qz35] at i36
         obtain ⟨S38,k38,a38⟩:=c99 h x21 (lget l (Int.toNat x21.fr)) (r116_ok hV (List.mem_of_getElem? (by assumption:(r116 h)[_]?=some (x21)))).ok (by omega) S21 (v_h_rooms) (hv_h_rooms.agree ga21) (v_h_doors) (hv_h_doors.agree ga21) (v_h_ways) (hv_h_ways.agree ga21)
         have l38:=a38.1
         have s38:E0.same S21 S38=true:=symEnv_same a38
         have v1_38:=(a38.2 S.next (by omega)).trans bb21_1
         have v24_38:=(a38.2 id24 (by omega)).trans j24
         have v27_38:=(a38.2 id27 (by omega)).trans j27
         have v31_38:=(a38.2 id24 (by omega)).trans j31
         have v33_38:=(a38.2 id24 (by omega)).trans j33
         have v36_38:=(a38.2 id36 (by omega)).trans j36
         have ocw21_39:=cw21_0.agree a38
         have g38:Agree S S38:=ga21.trans a38
         have eb41:=r116_ok hV (List.mem_of_getElem? hx21)
         have ef41:=eb41.f
         have et41:=eb41.t
         obtain ⟨id40,of40,cc40,ty40,wr40,ex40,i40,j40,l40,q40,lb40,bk40,oq40⟩:=ocw21_39.at4 (P:=Tryz.prog) (t:=149) Tryz.underlying149 tz128 hx21
         obtain rfl:id24=id40:=Option.some.inj (bk24.symm.trans bk40)
         obtain rfl:of24=of40:=oq24.trans oq40.symm
         have m40_0:cc40[of24]?=some (.int .i64 x21.way):=q40 0 (show 0<5 by decide)
         have m40_1:cc40[of24+1]?=some (.int .i64 x21.fr):=q40 1 (show 1<5 by decide)
         have m40_2:cc40[of24+2]?=some (.int .i64 x21.to):=q40 2 (show 2<5 by decide)
         have m40_3:cc40[of24+3]?=some (.int .i64 x21.secs):=q40 3 (show 3<5 by decide)
         have m40_4:cc40[of24+4]?=some (.int .i64 x21.door):=q40 4 (show 4<5 by decide)
         have qz42:((Int.toNat x21.to:Nat):Int)=x21.to:=Int.toNat_of_nonneg (by first|omega|simp; omega)
         have hx43:l[(Int.toNat x21.to)]?=some (lget l (Int.toNat x21.to)):=lget_some (by first|omega|simp; omega)
         have eb44:=hl0 _ (List.mem_of_getElem? hx43)
         obtain ⟨id43,of43,cc43,ty43,wr43,ex43,i43,j43,l43,q43⟩:=(hv_l).at (P:=Tryz.prog) (t:=54) Tryz.underlying54 tz3 hx43
         have jr43:=j43
         have j43:=(g38.2 id43 l43).trans jr43
         have m43_0:cc43[of43]?=some (.int .i64 (lget l (Int.toNat x21.to))):=q43 0 (show 0<1 by decide)
         rw [qz42] at i43
         try simp (disch:=first|omega|assumption) only [E0_G,SY,off,agreeKind,vals,ldA,rdCells,aggD,aField,Nat.reduceAdd,Nat.reduceLT,Nat.reduceBEq,TY_EvH30,g21_5,g21_6,g21_14,g21_15,bb21_1,i24,j24,m24_0,m24_1,m24_2,m24_3,m24_4,i27,j27,m27_0,store_agree,store_refl E0_same,k38,v24_38,i43,j43,m43_0] at he
         rcases dP ((r99 h x21 (lget l (Int.toNat x21.fr)))<(lget l (Int.toNat x21.to))) with ⟨h45a,h45⟩|⟨h45a,h45⟩
         ·skip
          try simp (disch:=first|omega|assumption) only [E0_G,SY,off,agreeKind,Nat.reduceLT,store_refl E0_same,h45a] at he
          rw [drop_cons' hx21] at hd21
          have hf:=(show _=(.inl false:Sum (Bool) (Unit)) from (if_pos h29).trans ((if_pos h45).trans (rfl))).symm.trans hd21
          refine .ret he (.inr ⟨rfl,⟨false,?_,g38,hf.symm⟩⟩)<;>first|(simp only [SY,eq_self,Nat.reduceBEq]<;>rfl)|omega|assumption|(simp; omega)|simp
         ·skip
          have w46:IntKind.i64.wrap ((gv:Int)+1)=((gv+1:Nat):Int):=by rw [IntWalk.i64_in]<;>omega
          try simp (disch:=first|omega|assumption) only [E0_G,SY,off,agreeKind,Nat.reduceAdd,Nat.reduceLT,Nat.reduceBEq,g21_15,store_refl E0_same,h45a,w46] at he
          rw [drop_cons' hx21] at hd21
          have hf:=(show _=(R55_1 h a ta b tb l ((r116 h).drop (gv+1)):Sum (Bool) (Unit)) from (if_pos h29).trans ((if_neg h45).trans (rfl))).symm.trans hd21
          refine .next he (m - 1) (by omega) ⟨(gv+1),?_,?_,?_,?_,?_,?_,v1_38,g38,by omega,ocw21_39,hf⟩<;>first|(simp only [SY,eq_self,Nat.reduceBEq,g21_5,g21_6,g21_14,g21_15]<;>rfl)|omega|assumption|(simp; omega)|simp
        ·skip
         have w47:IntKind.i64.wrap ((gv:Int)+1)=((gv+1:Nat):Int):=by rw [IntWalk.i64_in]<;>omega
         try simp (disch:=first|omega|assumption) only [E0_G,SY,off,agreeKind,Nat.reduceAdd,Nat.reduceLT,Nat.reduceBEq,g21_15,h29a,w47] at he
         rw [drop_cons' hx21] at hd21
         have hf:=(show _=(R55_1 h a ta b tb l ((r116 h).drop (gv+1)):Sum (Bool) (Unit)) from (if_neg h29).trans (rfl)).symm.trans hd21
         refine .next he (m - 1) (by omega) ⟨(gv+1),?_,?_,?_,?_,?_,?_,bb21_1,ga21,by omega,cw21_0,hf⟩<;>first|(simp only [SY,eq_self,Nat.reduceBEq,g21_5,g21_6,g21_14,g21_15]<;>rfl)|omega|assumption|(simp; omega)|simp
       ·skip
        try simp (disch:=first|omega|assumption) only [SY,h23a] at he
        rw [List.drop_eq_nil_of_le (show (r116 h).length≤gv by omega)] at hd21
        have hf:=(show _=(.inr ():Sum (Bool) (Unit)) from rfl).symm.trans hd21
        refine .exit he (.inl ⟨rfl,⟨gv,bb21_1,ga21,by omega,cw21_0,?_,hf.symm⟩⟩)<;>first|(simp only [SY,setArgs,off,agreeKind,partVals,vals,allocV,boxed,ldA,rdCells,oneB,aggD,aField,aFieldV,aExtract,eq_self,ne_eq,if_true,if_false,not_false_eq_true,Nat.reduceAdd,Nat.reduceSub,Nat.reduceMul,Nat.reduceLT,Nat.reduceEqDiff,Nat.reduceBEq,reduceIte,Int.reduceEq,Int.reduceLT,Int.reduceLE,reduceCtorEq,g21_5,g21_6,g21_14,g21_15]<;>rfl)|omega|assumption|(simp; omega)|simp)
     rcases hQ21 with ⟨rfl,hQ21⟩|⟨rfl,hQ21⟩
     ·skip
      obtain ⟨gv,be21_1,ge21,gm21,ce21_0,hj21_0,hR21⟩:=hQ21
      try simp (disch:=first|omega|assumption) only [E0_G,SY,off,agreeKind,eq_self,if_true,Nat.reduceLT,Nat.reduceBEq] at hz
      have hr:r55 h a ta b tb l=true:=(if_pos h4).trans ((onSum_inr hR5).trans ((if_neg h16).trans ((if_neg h19).trans ((onSum_inr hR21).trans (rfl)))))
      exact fin hz (by rw [hr]) ge21
     ·skip
      obtain ⟨r12,ge21_12,ge21,hR21⟩:=hQ21
      try simp (disch:=first|omega|assumption) only [SY,ge21_12] at hz
      have hr:r55 h a ta b tb l=r12:=(if_pos h4).trans ((onSum_inr hR5).trans ((if_neg h16).trans ((if_neg h19).trans ((onSum_inl hR21).trans (rfl)))))
      exact fin hz (by rw [hr]) ge21
  ·skip
   obtain ⟨r12,ge5_12,ge5,hR5⟩:=hQ5
   try simp (disch:=first|omega|assumption) only [SY,ge5_12] at hz
   have hr:r55 h a ta b tb l=r12:=(if_pos h4).trans ((onSum_inl hR5).trans (rfl))
   exact fin hz (by rw [hr]) ge5
 ·skip
  try simp (disch:=first|omega|assumption) only [E0_G,SY,off,agreeKind,Nat.reduceLT,Nat.reduceBEq,h4a] at hz
  have hr:r55 h a ta b tb l=false:=(if_neg h4).trans (rfl)
  exact fin hz (by rw [hr]) g1
def r53 (h:Hs) (a:Int) (ta:Int) (b:Int) (tb:Int) (l:List Int):Int:=(if (r49 h a ta b tb)=0 then (if (r55 h a ta b tb (l:List Int))=true then 0 else 8) else (r49 h a ta b tb))
theorem r54_len0 {h:Hs} (hV:r59 h=0) {fr ti:Int} (ht:0≤ti∧ti≤1073741823):(r106 h fr ti).length≤40:=by
 rw [r106_len hV ht]; have:=rooms_len hV; omega
theorem r46_ok {h:Hs} {a ta b tb:Int} (e:(r46 h a ta b tb).2=0):r59 h=0∧(0≤a∧a<(h.rooms.length:Int))∧(0≤ta∧ta≤1073741823)∧(0≤b∧b<(h.rooms.length:Int))∧(0≤tb∧tb≤1073741823):=by
 unfold r46 at e
 split at e
 ·exact r49_ok (by assumption)
 ·rename_i h1; exact absurd e h1
def r54 (h:Hs) (a:Int) (ta:Int) (b:Int) (tb:Int):List Int × Int:=(if (r113 h a ta b tb)=0 then (if (lget (r106 h a ta) (Int.toNat b))≤tb then ([],5) else ((r106 h a ta),0)) else ([],(r113 h a ta b tb)))
set_option maxHeartbeats 8000000 in
theorem c54 (h:Hs) (a:Int) (ta:Int) (b:Int) (tb:Int) (hF:Few h) (hs:∀ x ∈ h.rooms,x.name.size≤9223372036854775807) (S:AS) (v_h_rooms:Value) (hv_h_rooms:LstR S v_h_rooms h.rooms) (v_h_doors:Value) (hv_h_doors:LstR S v_h_doors h.doors) (v_h_ways:Value) (hv_h_ways:Lst S v_h_ways h.ways) :
  ∃ v' S',(evL Tryz.prog E0).call 54 #[.agg #[v_h_rooms,v_h_doors,v_h_ways],.int .i64 a,.int .i64 ta,.int .i64 b,.int .i64 tb] S=some (.tuple #[v',.int .i64 (r54 h a ta b tb).2],S')∧Agree S S'∧Own 3 S.next S' v' (r54 h a ta b tb).1:=by
 have qr:=hF.r; have qd:=hF.d; have qw:=hF.w
 generalize hz:(evL Tryz.prog E0).call 54 _ _=z
 rw [L_call,evCall_said rfl Tryz.func54 rfl (by decide) Tryz.ntmps54 Tryz.results54] at hz
 obtain ⟨S1,e1,n1,b1,a1⟩:=push_open S (.cells [v_h_rooms,v_h_doors,v_h_ways] 26 0 true true)
 have g1:Agree S S1:=a1
 have s1:E0.same S S1=true:=symEnv_same a1
 obtain ⟨S2,k2,a2⟩:=c113 h a ta b tb hF hs S1 (v_h_rooms) (hv_h_rooms.agree g1) (v_h_doors) (hv_h_doors.agree g1) (v_h_ways) (hv_h_ways.agree g1)
 have l2:=a2.1
 have s2:E0.same S1 S2=true:=symEnv_same a2
 have v1_2:=(a2.2 S.next (by omega)).trans b1
 have g2:Agree S S2:=g1.trans a2
 try simp (disch:=first|omega|assumption) only [E0_G,SY,setArgs,off,agreeKind,vals,boxed,ldA,rdCells,aggD,Nat.reduceAdd,Nat.reduceSub,Nat.reduceLT,Nat.reduceBEq,TY_EvH30,e1,b1,k2] at hz
 rcases dP ((r113 h a ta b tb)=0) with ⟨h3a,h3⟩|⟨h3a,h3⟩
 ·skip
  have hV:=(r113_ok h3).1
  have lq4:=(r113_ok h3).2
  obtain ⟨u5,S5,k5,a5,oo5⟩:=c106 h a ta hF hV (by omega) (by omega) S2 (v_h_rooms) (hv_h_rooms.agree g2) (v_h_doors) (hv_h_doors.agree g2) (v_h_ways) (hv_h_ways.agree g2)
  have l5:=a5.1
  obtain ⟨pu5,nu5,cu5,rfl⟩:=own_slice oo5
  have s5:E0.same S2 S5=true:=symEnv_same a5
  have v1_5:=(a5.2 S.next (by omega)).trans v1_2
  have g5:Agree S S5:=g2.trans a5
  have p5:=r106_len (fr:=a) hV (show 0≤ta∧ta≤1073741823 by omega)
  have qz6:((Int.toNat b:Nat):Int)=b:=Int.toNat_of_nonneg (by first|omega|simp; omega)
  have hx7:(r106 h a ta)[(Int.toNat b)]?=some (lget (r106 h a ta) (Int.toNat b)):=lget_some (by first|omega|simp; omega)
  obtain ⟨id7,of7,cc7,ty7,wr7,ex7,i7,j7,l7,q7,lb7,bk7,oq7⟩:=oo5.at4 (P:=Tryz.prog) (t:=54) Tryz.underlying54 tz3 hx7
  have m7_0:cc7[of7]?=some (.int .i64 (lget (r106 h a ta) (Int.toNat b))):=q7 0 (show 0<1 by decide)
  rw [qz6] at i7
  try simp (disch:=first|omega|assumption) only [E0_G,SY,off,agreeKind,vals,ldA,rdCells,aggD,Nat.reduceAdd,Nat.reduceLT,Nat.reduceBEq,TY_EvH30,v1_2,h3a,k5,i7,j7,m7_0] at hz
  rcases dP ((lget (r106 h a ta) (Int.toNat b))≤tb) with ⟨h8a,h8⟩|⟨h8a,h8⟩
  ·skip
   try simp (disch:=first|omega|assumption) only [E0_G,SY,off,agreeKind,Nat.reduceAdd,Nat.reduceLT,Nat.reduceBEq,h8a] at hz
   have hr:r54 h a ta b tb=([],5):=(if_pos h3).trans ((if_pos h8).trans (rfl))
   exact ⟨.slice none 0 0,S5,by first|(rw [hr]; exact hz.symm)|exact hz.symm,g5,by rw [hr]; exact Own.nil _ _ _⟩
  ·skip
   try simp (disch:=first|omega|assumption) only [E0_G,SY,off,agreeKind,Nat.reduceAdd,Nat.reduceLT,Nat.reduceBEq,h8a] at hz
   have hr:r54 h a ta b tb=((r106 h a ta),0):=(if_pos h3).trans ((if_neg h8).trans (rfl))
   exact ⟨.slice pu5 nu5 cu5,S5,by first|(rw [hr]; exact hz.symm)|exact hz.symm,g5,by rw [hr]; exact oo5.low (by omega)⟩
 ·skip
  try simp (disch:=first|omega|assumption) only [E0_G,SY,off,agreeKind,Nat.reduceAdd,Nat.reduceLT,Nat.reduceBEq,h3a] at hz
  have hr:r54 h a ta b tb=([],(r113 h a ta b tb)):=(if_neg h3).trans (rfl)
  exact ⟨.slice none 0 0,S2,by first|(rw [hr]; exact hz.symm)|exact hz.symm,g2,by rw [hr]; exact Own.nil _ _ _⟩
theorem r54_len (h:Hs) (a ta b tb:Int):(r54 h a ta b tb).1.length≤40:=by
 unfold r54
 split
 ·rename_i h1
  have q:=r113_ok h1
  split
  ·simp
  ·exact r54_len0 q.1 q.2.2.1
 ·simp
def r10 (h:Hs) (a:Int) (ta:Int) (b:Int) (tb:Int):Bool:=(if (r20 h)=true then (if ((r46 h a ta b tb).2)=0 then (if (r46 h a ta b tb).1=true then (if ((r54 h a ta b tb).2)=5 then decide ((((r54 h a ta b tb).1).length:Int)=0) else false) else (if ((r54 h a ta b tb).2)=0 then (if (r55 h a ta b tb ((r54 h a ta b tb).1:List Int))=true then decide ((r52 h a ta b tb ((r54 h a ta b tb).1:List Int))=0) else false) else false)) else (if ((r54 h a ta b tb).2)=((r46 h a ta b tb).2) then decide ((((r54 h a ta b tb).1).length:Int)=0) else false)) else true)
set_option maxHeartbeats 16000000 in
theorem c10 (h:Hs) (a:Int) (ta:Int) (b:Int) (tb:Int) (hs:∀ x ∈ h.rooms,x.name.size≤9223372036854775807) (S:AS) (v_h_rooms:Value) (hv_h_rooms:LstR S v_h_rooms h.rooms) (v_h_doors:Value) (hv_h_doors:LstR S v_h_doors h.doors) (v_h_ways:Value) (hv_h_ways:Lst S v_h_ways h.ways) :
  ∃ S',(evL Tryz.prog E0).call 10 #[.agg #[v_h_rooms,v_h_doors,v_h_ways],.int .i64 a,.int .i64 ta,.int .i64 b,.int .i64 tb] S=some (.bool (r10 h a ta b tb),S')∧Agree S S':=by
 generalize hz:(evL Tryz.prog E0).call 10 _ _=z
 rw [L_call,evCall_said rfl Tryz.func10 rfl (by decide) Tryz.ntmps10 Tryz.results10] at hz
 obtain ⟨S1,e1,n1,b1,a1⟩:=push_open S (.cells [v_h_rooms,v_h_doors,v_h_ways] 26 0 true true)
 have g1:Agree S S1:=a1
 have s1:E0.same S S1=true:=symEnv_same a1
 obtain ⟨S2,k2,a2⟩:=c20 h  S1 (v_h_rooms) (hv_h_rooms.agree g1) (v_h_doors) (hv_h_doors.agree g1) (v_h_ways) (hv_h_ways.agree g1)
 have l2:=a2.1
 have s2:E0.same S1 S2=true:=symEnv_same a2
 have v1_2:=(a2.2 S.next (by omega)).trans b1
 have g2:Agree S S2:=g1.trans a2
 try simp (disch:=first|omega|assumption) only [E0_G,SY,setArgs,off,agreeKind,vals,boxed,ldA,rdCells,aggD,Nat.reduceAdd,Nat.reduceSub,Nat.reduceLT,Nat.reduceBEq,TY_EvH30,e1,b1,k2] at hz
 rcases dB ((r20 h)) with ⟨h3a,h3⟩|⟨h3a,h3⟩
 ·skip
  obtain ⟨u4,S4,k4,a4,oo4⟩:=c54 h a ta b tb (few_of (show r20 h=true by assumption)) hs S2 (v_h_rooms) (hv_h_rooms.agree g2) (v_h_doors) (hv_h_doors.agree g2) (v_h_ways) (hv_h_ways.agree g2)
  have l4:=a4.1
  obtain ⟨pu4,nu4,cu4,rfl⟩:=own_slice oo4
  have s4:E0.same S2 S4=true:=symEnv_same a4
  have v1_4:=(a4.2 S.next (by omega)).trans v1_2
  have g4:Agree S S4:=g2.trans a4
  obtain ⟨S5,k5,a5⟩:=c46 h a ta b tb (few_of (show r20 h=true by assumption)) S4 (v_h_rooms) (hv_h_rooms.agree g4) (v_h_doors) (hv_h_doors.agree g4) (v_h_ways) (hv_h_ways.agree g4)
  have l5:=a5.1
  have s5:E0.same S4 S5=true:=symEnv_same a5
  have v1_5:=(a5.2 S.next (by omega)).trans v1_4
  have o4_6:=oo4.agree a5
  have g5:Agree S S5:=g4.trans a5
  try simp (disch:=first|omega|assumption) only [E0_G,SY,off,agreeKind,vals,ldA,rdCells,aggD,aExtract,Nat.reduceAdd,Nat.reduceLT,Nat.reduceBEq,TY_EvH30,v1_2,h3a,k4,v1_4,k5] at hz
  rcases dP (((r46 h a ta b tb).2)=0) with ⟨h7a,h7⟩|⟨h7a,h7⟩
  ·skip
   have hV:=(r46_ok h7).1
   have lq8:=(r46_ok h7).2
   try simp (disch:=first|omega|assumption) only [E0_G,SY,off,agreeKind,Nat.reduceLT,Nat.reduceBEq,h7a] at hz
   rcases dB ((r46 h a ta b tb).1) with ⟨h9a,h9⟩|⟨h9a,h9⟩
   ·skip
    try simp (disch:=first|omega|assumption) only [E0_G,SY,off,agreeKind,vals,Nat.reduceAdd,Nat.reduceLT,Nat.reduceBEq,h9a,c21s] at hz
    rcases dP (((r54 h a ta b tb).2)=5) with ⟨h10a,h10⟩|⟨h10a,h10⟩
    ·skip
     have w11:=(o4_6.rows).len (P:=Tryz.prog) (t:=54) Tryz.underlying54
     try simp (disch:=first|omega|assumption) only [E0_G,SY,off,agreeKind,Nat.reduceAdd,Nat.reduceLT,Nat.reduceBEq,h10a,w11] at hz
     have hr:r10 h a ta b tb=decide ((((r54 h a ta b tb).1).length:Int)=0):=(if_pos h3).trans ((if_pos h7).trans ((if_pos h9).trans ((if_pos h10).trans (rfl))))
     exact fin hz (by rw [hr]) g5
    ·skip
     try simp (disch:=first|omega|assumption) only [E0_G,SY,off,agreeKind,Nat.reduceAdd,Nat.reduceLT,Nat.reduceBEq,h10a] at hz
     have hr:r10 h a ta b tb=false:=(if_pos h3).trans ((if_pos h7).trans ((if_pos h9).trans ((if_neg h10).trans (rfl))))
     exact fin hz (by rw [hr]) g5
   ·skip
    try simp (disch:=first|omega|assumption) only [E0_G,SY,off,agreeKind,vals,Nat.reduceAdd,Nat.reduceLT,Nat.reduceBEq,h9a,c21s] at hz
    rcases dP (((r54 h a ta b tb).2)=0) with ⟨h12a,h12⟩|⟨h12a,h12⟩
    ·skip
     obtain ⟨S13,k13,a13⟩:=c55 h a ta b tb ((r54 h a ta b tb).1:List Int) (few_of (show r20 h=true by assumption)) hV (r54_len _ _ _ _ _) (by omega) (by omega) S5 (v_h_rooms) (hv_h_rooms.agree g5) (v_h_doors) (hv_h_doors.agree g5) (v_h_ways) (hv_h_ways.agree g5) (.slice pu4 nu4 cu4) (o4_6.rows)
     have l13:=a13.1
     have s13:E0.same S5 S13=true:=symEnv_same a13
     have v1_13:=(a13.2 S.next (by omega)).trans v1_5
     have o4_14:=o4_6.agree a13
     have g13:Agree S S13:=g5.trans a13
     try simp (disch:=first|omega|assumption) only [E0_G,SY,off,agreeKind,vals,ldA,rdCells,aggD,Nat.reduceAdd,Nat.reduceLT,Nat.reduceBEq,TY_EvH30,v1_5,h12a,k13] at hz
     rcases dB ((r55 h a ta b tb ((r54 h a ta b tb).1:List Int))) with ⟨h15a,h15⟩|⟨h15a,h15⟩
     ·skip
      obtain ⟨S16,k16,a16⟩:=c52 h a ta b tb ((r54 h a ta b tb).1:List Int) (few_of (show r20 h=true by assumption)) hs (by first|omega|exact r54_len _ _ _ _ _) S13 (v_h_rooms) (hv_h_rooms.agree g13) (v_h_doors) (hv_h_doors.agree g13) (v_h_ways) (hv_h_ways.agree g13) (.slice pu4 nu4 cu4) (o4_14.rows)
      have l16:=a16.1
      have s16:E0.same S13 S16=true:=symEnv_same a16
      have v1_16:=(a16.2 S.next (by omega)).trans v1_13
      have o4_17:=o4_14.agree a16
      have g16:Agree S S16:=g13.trans a16
      try simp (disch:=first|omega|assumption) only [E0_G,SY,off,agreeKind,vals,ldA,rdCells,aggD,Nat.reduceAdd,Nat.reduceLT,Nat.reduceBEq,TY_EvH30,v1_13,h15a,k16] at hz
      have hr:r10 h a ta b tb=decide ((r52 h a ta b tb ((r54 h a ta b tb).1:List Int))=0):=(if_pos h3).trans ((if_pos h7).trans ((if_neg h9).trans ((if_pos h12).trans ((if_pos h15).trans (rfl)))))
      exact fin hz (by rw [hr]) g16
     ·skip
      try simp (disch:=first|omega|assumption) only [E0_G,SY,off,agreeKind,Nat.reduceAdd,Nat.reduceLT,Nat.reduceBEq,h15a] at hz
      have hr:r10 h a ta b tb=false:=(if_pos h3).trans ((if_pos h7).trans ((if_neg h9).trans ((if_pos h12).trans ((if_neg h15).trans (rfl)))))
      exact fin hz (by rw [hr]) g13
    ·skip
     try simp (disch:=first|omega|assumption) only [E0_G,SY,off,agreeKind,Nat.reduceAdd,Nat.reduceLT,Nat.reduceBEq,h12a] at hz
     have hr:r10 h a ta b tb=false:=(if_pos h3).trans ((if_pos h7).trans ((if_neg h9).trans ((if_neg h12).trans (rfl))))
     exact fin hz (by rw [hr]) g5
  ·skip
   try simp (disch:=first|omega|assumption) only [E0_G,SY,off,agreeKind,vals,Nat.reduceAdd,Nat.reduceLT,Nat.reduceBEq,h7a,c21s] at hz
   rcases dP (((r54 h a ta b tb).2)=((r46 h a ta b tb).2)) with ⟨h18a,h18⟩|⟨h18a,h18⟩
   ·skip
    have w19:=(o4_6.rows).len (P:=Tryz.prog) (t:=54) Tryz.underlying54
    try simp (disch:=first|omega|assumption) only [E0_G,SY,off,agreeKind,Nat.reduceAdd,Nat.reduceLT,Nat.reduceBEq,h18a,w19] at hz
    have hr:r10 h a ta b tb=decide ((((r54 h a ta b tb).1).length:Int)=0):=(if_pos h3).trans ((if_neg h7).trans ((if_pos h18).trans (rfl)))
    exact fin hz (by rw [hr]) g5
   ·skip
    try simp (disch:=first|omega|assumption) only [E0_G,SY,off,agreeKind,Nat.reduceAdd,Nat.reduceLT,Nat.reduceBEq,h18a] at hz
    have hr:r10 h a ta b tb=false:=(if_pos h3).trans ((if_neg h7).trans ((if_neg h18).trans (rfl)))
    exact fin hz (by rw [hr]) g5
 ·skip
  try simp (disch:=first|omega|assumption) only [E0_G,SY,off,agreeKind,vals,Nat.reduceAdd,Nat.reduceLT,Nat.reduceBEq,h3a,c21s] at hz
  have hr:r10 h a ta b tb=true:=(if_neg h3).trans (rfl)
  exact fin hz (by rw [hr]) g2
end House
end Go.Proofs
