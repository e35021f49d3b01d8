import Derived.Test.YtohfdkdjfoonjaaGreatDoorEvH4
set_option linter.unusedSimpArgs false
set_option linter.unusedVariables false
namespace Go.Proofs
namespace House
open Go Go.RowKit Go.Aev
set_option maxRecDepth 100000
theorem tz47:szOf Tryz.prog 47=some 1:=by kernel_rfl
theorem tt47:inTab Tryz.prog 47=true:=by kernel_rfl
theorem t0_47:zeroOf Tryz.prog 47=some (.slice none 0 0):=by kernel_rfl
theorem tz93:szOf Tryz.prog 93=some 3:=by kernel_rfl
theorem tt93:inTab Tryz.prog 93=true:=by kernel_rfl
theorem t0_93:zeroOf Tryz.prog 93=some (.agg #[.int .i64 0,.bool false,.int .i64 0]):=by kernel_rfl
theorem tz94:szOf Tryz.prog 94=some 3:=by kernel_rfl
theorem tt94:inTab Tryz.prog 94=true:=by kernel_rfl
theorem t0_94:zeroOf Tryz.prog 94=some (.agg #[.int .i64 0,.bool false,.int .i64 0]):=by kernel_rfl
theorem tz127:szOf Tryz.prog 127=some 5:=by kernel_rfl
theorem tt127:inTab Tryz.prog 127=true:=by kernel_rfl
theorem t0_127:zeroOf Tryz.prog 127=some (.agg #[.int .i64 0,.int .i64 0,.int .i64 0,.int .i64 0,.int .i64 0]):=by kernel_rfl
theorem tz128:szOf Tryz.prog 128=some 5:=by kernel_rfl
theorem tt128:inTab Tryz.prog 128=true:=by kernel_rfl
theorem t0_128:zeroOf Tryz.prog 128=some (.agg #[.int .i64 0,.int .i64 0,.int .i64 0,.int .i64 0,.int .i64 0]):=by kernel_rfl
theorem TY_EvH5:type_of% (And.intro TY_EvH4 (And.intro (And.intro (And.intro (And.intro Tryz.underlying47 tz47) (And.intro tt47 (And.intro t0_47 Tryz.underlying93))) (And.intro (And.intro tz93 tt93) (And.intro t0_93 (And.intro Tryz.underlying94 tz94)))) (And.intro (And.intro (And.intro tt94 t0_94) (And.intro Tryz.underlying127 (And.intro tz127 tt127))) (And.intro (And.intro t0_127 Tryz.underlying128) (And.intro tz128 (And.intro tt128 t0_128)))))):=(And.intro TY_EvH4 (And.intro (And.intro (And.intro (And.intro Tryz.underlying47 tz47) (And.intro tt47 (And.intro t0_47 Tryz.underlying93))) (And.intro (And.intro tz93 tt93) (And.intro t0_93 (And.intro Tryz.underlying94 tz94)))) (And.intro (And.intro (And.intro tt94 t0_94) (And.intro Tryz.underlying127 (And.intro tz127 tt127))) (And.intro (And.intro t0_127 Tryz.underlying128) (And.intro tz128 (And.intro tt128 t0_128))))))
instance:Inhabited Stp:=⟨⟨0,false,0⟩⟩
theorem R137_ok (l:List Sp) (t:Int):∀ (m:List Sp) (a b:Int) (c:Bool),R137_0 l t m=.inl (a,b,c)→c=true∧a≤t∧t≤b∧(⟨a,b⟩:Sp) ∈ m:=by
 intro m
 induction m with
 | nil=>intro a b c e; cases e
 | cons x m ih =>
  intro a b c e
  unfold R137_0 at e
  split at e
  ·rename_i h
   have h:=r133_iff.1 h
   simp only [Sum.inl.injEq,Prod.mk.injEq] at e
   obtain ⟨rfl,rfl,rfl⟩:=e
   exact ⟨rfl,h.1,h.2,by simp⟩
  ·obtain ⟨h1,h2,h3,h4⟩:=ih a b c e
   exact ⟨h1,h2,h3,by simp [h4]⟩
theorem r137_ok {l:List Sp} {t:Int} (hb:Bd 1073741823 l) (h:(r137 l t).2=true):(r137 l t).1.1≤t∧t≤(r137 l t).1.2∧(r137 l t).1.2≤1073741823∧0≤(r137 l t).1.1:=by
 unfold r137 at h ⊢
 cases e:R137_0 l t l with
 | inl x =>
  obtain ⟨a,b,c⟩:=x
  obtain ⟨_,h2,h3,h4⟩:=R137_ok l t l a b c e
  have:=hb _ h4
  exact ⟨h2,h3,this.2.2,this.1⟩
 | inr u=>rw [e] at h; simp [onSum] at h
def R89_0 (d:Dr) (ti:Int)  : Nat→Int→Sum (Int) (Unit)
 | 0,tv=>.inr ()
 | m'+1,tv=>(if tv≤1073741823 then (if (r137 (d.shut:List Sp) (r136 (d.hours:List Sp) tv)).2=true then (if ((((r137 (d.shut:List Sp) (r136 (d.hours:List Sp) tv)).1).2)+1)=tv then .inl tv else R89_0 d ti m' ((((r137 (d.shut:List Sp) (r136 (d.hours:List Sp) tv)).1).2)+1)) else (if (r136 (d.hours:List Sp) tv)=tv then .inl tv else R89_0 d ti m' (r136 (d.hours:List Sp) tv))) else .inr ())
def r89 (d:Dr) (ti:Int):Int:=(onSum (R89_0 d ti ((1073741824 - ti).toNat+1) ti) (fun (r4:Int)=>r4) (fun (_:Unit)=>1073741824))
set_option maxHeartbeats 8000000 in
theorem c89 (d:Dr) (ti:Int) (hD:OkD d) (ht:0≤ti) (S:AS) (v_d_hours:Value) (hv_d_hours:Lst S v_d_hours d.hours) (v_d_shut:Value) (hv_d_shut:Lst S v_d_shut d.shut) :
  ∃ S',(evL Tryz.prog E0).call 89 #[.agg #[v_d_hours,v_d_shut],.int .i64 ti] S=some (.int .i64 (r89 d ti),S')∧Agree S S':=by
 generalize hz:(evL Tryz.prog E0).call 89 _ _=z
 rw [L_call,evCall_said rfl Tryz.func89 rfl (by decide) Tryz.ntmps89 Tryz.results89] at hz
 obtain ⟨S1,e1,n1,b1,a1⟩:=push_open S (.cells [v_d_hours,v_d_shut] 98 0 true true)
 have g1:Agree S S1:=a1
 try simp only [E0_G,SY,setArgs,off,agreeKind,boxed,Nat.reduceAdd,Nat.reduceSub,Nat.reduceLT,Nat.reduceBEq,e1] at hz
 generalize hL2:Rec.loop _ _ _ _=L2 at hz
 obtain ⟨x2,t2,S2e,rfl,hQ2⟩:=loop_met hL2 (fun m t S'=>∃ (tv:Int),1073741824 - tv<(m:Int)∧1≤m∧0≤tv∧t.get 1=some (.int .i64 tv)∧t.get 2=some (.pointer (some ⟨S.next,0,none⟩))∧S'.heap.get S.next=some (.cells [v_d_hours,v_d_shut] 98 0 true true)∧Agree S S'∧S1.next≤S'.next∧R89_0 d ti m tv=R89_0 d ti ((1073741824 - ti).toNat+1) ti)
  (fun x t S'=>(x=.exit 0∧∃ (tv:Int),S'.heap.get S.next=some (.cells [v_d_hours,v_d_shut] 98 0 true true)∧Agree S S'∧S1.next≤S'.next∧0≤tv∧R89_0 d ti ((1073741824 - ti).toNat+1) ti=.inr ())∨(x=.ret∧∃ (r4:Int),t.get 4=some (.int .i64 r4)∧Agree S S'∧R89_0 d ti ((1073741824 - ti).toNat+1) ti=.inl (r4))) ((1073741824 - ti).toNat+1) ⟨ti,by first|rfl|omega|(simp; omega)|simp,by first|rfl|omega|(simp; omega)|simp,by first|rfl|omega|(simp; omega)|simp,by simp only [SY,eq_self,Nat.reduceBEq]<;>rfl,by simp only [SY,eq_self,Nat.reduceBEq]<;>rfl,b1,g1,Nat.le_refl _,rfl⟩ (by
   rintro m t S2 ⟨tv,hi2_0,hi2_1,hi2_2,g2_1,g2_2,bb2_1,ga2,gn2,hd2⟩
   refine .run fun z he=>?_
   try simp only [E0_G,SY,off,agreeKind,Nat.reduceAdd,Nat.reduceLT,Nat.reduceBEq,g2_1] at he
   rcases dP (tv≤1073741823) with ⟨h3a,h3⟩|⟨h3a,h3⟩
   ·obtain ⟨S4,k4,a4⟩:=c136 (d.hours:List Sp) tv hD.h hD.hl (by omega) S2 (v_d_hours) (hv_d_hours.agree ga2)
    have l4:=a4.1
    have v1_4:=(a4.2 S.next (by omega)).trans bb2_1
    have g4:Agree S S4:=ga2.trans a4
    have p4:=r136_ge (show 0≤tv∧tv≤1073741823 by omega) hD.h
    obtain ⟨S5,k5,a5⟩:=c137 (d.shut:List Sp) (r136 (d.hours:List Sp) tv) hD.sl S4 (v_d_shut) (hv_d_shut.agree g4)
    have l5:=a5.1
    have v1_5:=(a5.2 S.next (by omega)).trans v1_4
    have g5:Agree S S5:=g4.trans a5
    obtain ⟨S6,e6,n6,b6,a6⟩:=push_open S5 (.cells [.int .i64 0,.int .i64 0] 36 0 true true)
    have v1_6:=(a6.2 S.next (by omega)).trans v1_5
    have g6:Agree S S6:=g5.trans a6
    obtain ⟨S7,k7,n7,b7,q7⟩:=st_at (o:=0) (c':=[.int .i64 (((r137 (d.shut:List Sp) (r136 (d.hours:List Sp) tv)).1).1),.int .i64 (((r137 (d.shut:List Sp) (r136 (d.hours:List Sp) tv)).1).2)]) (v:=.agg #[.int .i64 (((r137 (d.shut:List Sp) (r136 (d.hours:List Sp) tv)).1).1),.int .i64 (((r137 (d.shut:List Sp) (r136 (d.hours:List Sp) tv)).1).2)]) tz36 b6 rfl rfl (show 0+2≤2 by decide) rfl
    have v1_7:=(q7 S.next (by omega)).trans v1_6
    have g7:Agree S S7:=⟨by have:=(g6).1; omega,fun id hid=>(q7 id (by have:=(g6).1; omega)).trans ((g6).2 id hid)⟩
    try simp (disch:=first|omega|assumption) only [E0_G,SY,off,agreeKind,vals,allocV,ldA,aggD,aField,aExtract,Nat.reduceAdd,Nat.reduceLT,Nat.reduceBEq,TY_EvH5,g2_1,g2_2,bb2_1,h3a,k4,v1_4,k5,e6,k7] at he
    rcases dB ((r137 (d.shut:List Sp) (r136 (d.hours:List Sp) tv)).2) with ⟨h8a,h8⟩|⟨h8a,h8⟩
    ·have lq9:=r137_ok hD.s h8
     have w10:IntKind.i64.wrap ((((r137 (d.shut:List Sp) (r136 (d.hours:List Sp) tv)).1).2)+1)=(((r137 (d.shut:List Sp) (r136 (d.hours:List Sp) tv)).1).2)+1:=by rw [IntWalk.i64_in]; omega
     try simp (disch:=first|omega|assumption) only [E0_G,SY,off,agreeKind,ldA,aggD,aField,Nat.reduceAdd,Nat.reduceLT,Nat.reduceBEq,TY_EvH5,g2_1,b7,h8a,w10] at he
     rcases dP (((((r137 (d.shut:List Sp) (r136 (d.hours:List Sp) tv)).1).2)+1)=tv) with ⟨h11a,h11⟩|⟨h11a,h11⟩
     ·try simp only [E0_G,SY,off,agreeKind,Nat.reduceAdd,Nat.reduceLT,Nat.reduceBEq,g2_1,h11a] at he
      obtain ⟨m',rfl⟩:∃ m',m=m'+1:=⟨m - 1,by omega⟩
      have hf:=(show _=(.inl tv:Sum (Int) (Unit)) from (if_pos h3).trans ((if_pos h8).trans ((if_pos h11).trans (rfl)))).symm.trans hd2
      exact .ret he (.inr ⟨rfl,⟨tv,(by simp only [SY,eq_self,Nat.reduceBEq]<;>rfl),g7,hf.symm⟩⟩)
     try simp only [E0_G,SY,off,agreeKind,Nat.reduceAdd,Nat.reduceLT,Nat.reduceBEq,h11a] at he
     obtain ⟨m',rfl⟩:∃ m',m=m'+1:=⟨m - 1,by omega⟩
     have hf:=(show _=(R89_0 d ti m' ((((r137 (d.shut:List Sp) (r136 (d.hours:List Sp) tv)).1).2)+1):Sum (Int) (Unit)) from (if_pos h3).trans ((if_pos h8).trans ((if_neg h11).trans (rfl)))).symm.trans hd2
     exact .next he m' (by omega) ⟨(((r137 (d.shut:List Sp) (r136 (d.hours:List Sp) tv)).1).2)+1,by first|omega|(simp; omega)|simp,by first|omega|(simp; omega)|simp,by first|omega|(simp; omega)|simp,(by simp only [SY,eq_self,Nat.reduceBEq,g2_1]<;>rfl),(by simp only [SY,eq_self,Nat.reduceBEq,g2_2]<;>rfl),v1_7,g7,by omega,hf⟩
    try simp only [E0_G,SY,off,agreeKind,Nat.reduceAdd,Nat.reduceLT,Nat.reduceBEq,g2_1,h8a] at he
    rcases dP ((r136 (d.hours:List Sp) tv)=tv) with ⟨h12a,h12⟩|⟨h12a,h12⟩
    ·try simp only [E0_G,SY,off,agreeKind,Nat.reduceAdd,Nat.reduceLT,Nat.reduceBEq,g2_1,h12a] at he
     obtain ⟨m',rfl⟩:∃ m',m=m'+1:=⟨m - 1,by omega⟩
     have hf:=(show _=(.inl tv:Sum (Int) (Unit)) from (if_pos h3).trans ((if_neg h8).trans ((if_pos h12).trans (rfl)))).symm.trans hd2
     exact .ret he (.inr ⟨rfl,⟨tv,(by simp only [SY,eq_self,Nat.reduceBEq]<;>rfl),g7,hf.symm⟩⟩)
    try simp only [E0_G,SY,off,agreeKind,Nat.reduceAdd,Nat.reduceLT,Nat.reduceBEq,h12a] at he
    obtain ⟨m',rfl⟩:∃ m',m=m'+1:=⟨m - 1,by omega⟩
    have hf:=(show _=(R89_0 d ti m' (r136 (d.hours:List Sp) tv):Sum (Int) (Unit)) from (if_pos h3).trans ((if_neg h8).trans ((if_neg h12).trans (rfl)))).symm.trans hd2
    exact .next he m' (by omega) ⟨(r136 (d.hours:List Sp) tv),by first|omega|(simp; omega)|simp,by first|omega|(simp; omega)|simp,by first|omega|(simp; omega)|simp,(by simp only [SY,eq_self,Nat.reduceBEq,g2_1]<;>rfl),(by simp only [SY,eq_self,Nat.reduceBEq,g2_2]<;>rfl),v1_7,g7,by omega,hf⟩
   try simp only [SY,h3a] at he
   obtain ⟨m',rfl⟩:∃ m',m=m'+1:=⟨m - 1,by omega⟩
   have hf:=(show _=(.inr ():Sum (Int) (Unit)) from (if_neg h3).trans (rfl)).symm.trans hd2
   exact .exit he (.inl ⟨rfl,⟨tv,bb2_1,ga2,by omega,by first|omega|assumption|simp,hf.symm⟩⟩))
 rcases hQ2 with ⟨rfl,hQ2⟩|⟨rfl,hQ2⟩
 ·obtain ⟨tv,be2_1,ge2,gm2,hj2_0,hR2⟩:=hQ2
  try simp only [E0_G,SY,off,agreeKind,eq_self,if_true,Nat.reduceLT,Nat.reduceBEq] at hz
  have hr:r89 d ti=1073741824:=(onSum_inr hR2).trans (rfl)
  exact fin hz (by rw [hr]) ge2
 obtain ⟨r4,ge2_4,ge2,hR2⟩:=hQ2
 try simp only [SY,ge2_4] at hz
 have hr:r89 d ti=r4:=(onSum_inl hR2).trans (rfl)
 exact fin hz (by rw [hr]) ge2
def R134_0 (l:List Sp) (n:Int)  : List Sp→Nat→Sum (Bool) (Unit)
 | [],k=>.inr ()
 | x1 :: l',k=>(if (r71 n x1.lo x1.hi)=true then .inl true else R134_0 l n l' (k+1))
def r134 (l:List Sp) (n:Int):Bool:=(onSum (R134_0 l n l 0) (fun (r4:Bool)=>r4) (fun (_:Unit)=>false))
def r86 (d:Dr) (ti:Int):Bool:=(if (r134 (d.hours:List Sp) (Int.tmod ti 86400))=true then !(r134 (d.shut:List Sp) ti) else false)
theorem r144_ok {h:Hs} {w:Int} {b:Bool} (e:r59 h=0) (hw:0≤w∧w<h.ways.length) : -1≤(r144 h w b).1.2.2.2.2.2∧(r144 h w b).1.2.2.2.2.2<h.doors.length∧0≤(r144 h w b).1.2.2.2.2.1∧(r144 h w b).1.2.2.2.2.1≤3600:=by
 have k:=okw_at e hw
 unfold r144
 split
 ·exact ⟨k.d.1,k.d.2,k.k⟩
 ·exact ⟨k.d.1,k.d.2,by have:=k.s; simp only; omega,k.s.2⟩
def r103 (h:Hs) (room:Int) (since:Int) (s:Stp):Int × Int × Int:=(if (r143 h s.way)=true then (if (r88 s.at_)=true then (if (r144 h s.way s.back).2=true then (if (((r144 h s.way s.back).1).2.2.1)=room then (if s.at_<since then (0,0,3) else (if 0≤(((r144 h s.way s.back).1).2.2.2.2.2) then (if (r89 (lget h.doors (Int.toNat (((r144 h s.way s.back).1).2.2.2.2.2))) s.at_)=s.at_ then (if (r88 (s.at_+(((r144 h s.way s.back).1).2.2.2.2.1)))=true then (((r144 h s.way s.back).1).2.2.2.1,s.at_+(((r144 h s.way s.back).1).2.2.2.2.1),0) else (0,0,3)) else (0,0,9)) else (if (r88 (s.at_+(((r144 h s.way s.back).1).2.2.2.2.1)))=true then (((r144 h s.way s.back).1).2.2.2.1,s.at_+(((r144 h s.way s.back).1).2.2.2.2.1),0) else (0,0,3)))) else (0,0,4)) else (0,0,1)) else (0,0,1)) else (0,0,1))
theorem r84_false {h:Hs}:¬ r84 h false=0:=by
 intro e
 unfold r84 at e
 split at e
 ·simp at e
 ·exact absurd e (by assumption)
theorem r84_ok {h:Hs} {b:Bool} (e:r84 h b=0):r59 h=0∧b=true:=by
 unfold r84 at e
 rw [check_eq] at e
 unfold r59
 split at e
 ·split at e
  ·exact ⟨by assumption,by assumption⟩
  ·simp at e
 ·exact absurd e (by assumption)
def R39_0 (h:Hs) (from_:Int) (ti:Int) (l:List Stp)  : List Stp→Int→Int→Sum (Int × Int × Int) (Int × Int)
 | [],fr,tv=>.inr (fr,tv)
 | x13 :: l',fr,tv=>(if ((r103 h fr tv x13).2.2)=0 then R39_0 h from_ ti l l' ((r103 h fr tv x13).1) ((r103 h fr tv x13).2.1) else .inl (0,0,(r103 h fr tv x13).2.2))
def r39 (h:Hs) (from_:Int) (ti:Int) (l:List Stp):Int × Int × Int:=(if (r102 h from_)=true then (if (r84 h (r88 ti))=0 then (if 60<(l.length:Int) then (0,0,2) else (onSum (R39_0 h from_ ti l l from_ ti) (fun (r8,r9,r10)=>(r8,r9,r10)) (fun (fr,tv)=>(fr,tv,0)))) else (0,0,(r84 h (r88 ti)))) else (0,0,(r84 h false)))
def r104 (h:Hs) (room:Int) (ti:Int):Int:=(if (r59 h)=0 then (if (r122 h room)=true then (if (r69 ti)=true then (r59 h) else 1) else 1) else (r59 h))
def r98 (h:Hs) (n:Int) (back:Bool) (ti:Int):(Int × Int × Int × Int × Int) × Int:=(if (r59 h)=0 then (if (r71 n 0 ((h.ways.length:Int) - 1))=true then (if (r69 ti)=true then (if back=true then (if ((lget h.ways (Int.toNat n)).back)=0 then ((0,0,0,0,0),5) else ((n,(lget h.ways (Int.toNat n)).b,(lget h.ways (Int.toNat n)).a,(lget h.ways (Int.toNat n)).back,(lget h.ways (Int.toNat n)).door),0)) else ((n,(lget h.ways (Int.toNat n)).a,(lget h.ways (Int.toNat n)).b,(lget h.ways (Int.toNat n)).secs,(lget h.ways (Int.toNat n)).door),0)) else ((0,0,0,0,0),1)) else ((0,0,0,0,0),1)) else ((0,0,0,0,0),(r59 h)))
end House
end Go.Proofs
