import Derived.Test.YtohfdkdjfoonjaaGreatDoorEvH4
set_option linter.unusedSimpArgs false
set_option linter.unusedVariables false
namespace Go.Proofs
namespace House
open Go Go.RowKit Go.Aev
set_option maxRecDepth 100000
theorem tz47:szOf Tryz.prog 47=some 1:=by kernel_rfl
theorem tt47:inTab Tryz.prog 47=true:=by kernel_rfl
theorem t0_47:zeroOf Tryz.prog 47=some (.slice none 0 0):=by kernel_rfl
theorem tz93:szOf Tryz.prog 93=some 3:=by kernel_rfl
theorem tt93:inTab Tryz.prog 93=true:=by kernel_rfl
theorem t0_93:zeroOf Tryz.prog 93=some (.agg #[.int .i64 0,.bool false,.int .i64 0]):=by kernel_rfl
theorem tz94:szOf Tryz.prog 94=some 3:=by kernel_rfl
theorem tt94:inTab Tryz.prog 94=true:=by kernel_rfl
theorem t0_94:zeroOf Tryz.prog 94=some (.agg #[.int .i64 0,.bool false,.int .i64 0]):=by kernel_rfl
theorem ti94:(Tryz.prog.info? 94).map (fun i=>Nat.ble i.bytes 65536)=some true:=by kernel_rfl
theorem tv94:(zeroOf Tryz.prog 94).isSome=true:=by kernel_rfl
theorem tz127:szOf Tryz.prog 127=some 5:=by kernel_rfl
theorem tt127:inTab Tryz.prog 127=true:=by kernel_rfl
theorem t0_127:zeroOf Tryz.prog 127=some (.agg #[.int .i64 0,.int .i64 0,.int .i64 0,.int .i64 0,.int .i64 0]):=by kernel_rfl
theorem tz128:szOf Tryz.prog 128=some 5:=by kernel_rfl
theorem tt128:inTab Tryz.prog 128=true:=by kernel_rfl
theorem t0_128:zeroOf Tryz.prog 128=some (.agg #[.int .i64 0,.int .i64 0,.int .i64 0,.int .i64 0,.int .i64 0]):=by kernel_rfl
theorem TY_EvH5:type_of% (And.intro TY_EvH4 (And.intro (And.intro (And.intro (And.intro Tryz.underlying47 tz47) (And.intro tt47 (And.intro t0_47 Tryz.underlying93))) (And.intro (And.intro tz93 tt93) (And.intro t0_93 (And.intro Tryz.underlying94 tz94)))) (And.intro (And.intro (And.intro tt94 t0_94) (And.intro Tryz.underlying127 (And.intro tz127 tt127))) (And.intro (And.intro t0_127 Tryz.underlying128) (And.intro tz128 (And.intro tt128 t0_128)))))):=(And.intro TY_EvH4 (And.intro (And.intro (And.intro (And.intro Tryz.underlying47 tz47) (And.intro tt47 (And.intro t0_47 Tryz.underlying93))) (And.intro (And.intro tz93 tt93) (And.intro t0_93 (And.intro Tryz.underlying94 tz94)))) (And.intro (And.intro (And.intro tt94 t0_94) (And.intro Tryz.underlying127 (And.intro tz127 tt127))) (And.intro (And.intro t0_127 Tryz.underlying128) (And.intro tz128 (And.intro tt128 t0_128))))))
instance:Inhabited Stp:=⟨⟨0,false,0⟩⟩
theorem R137_ok (l:List Sp) (t:Int):∀ (m:List Sp) (a b:Int) (c:Bool),R137_0 l t m=.inl (a,b,c)→c=true∧a≤t∧t≤b∧(⟨a,b⟩:Sp) ∈ m:=by
 intro m
 induction m with
 | nil=>intro a b c e; cases e
 | cons x m ih =>
  intro a b c e
  unfold R137_0 at e
  split at e
  ·rename_i h
   have h:=r133_iff.1 h
   simp only [Sum.inl.injEq,Prod.mk.injEq] at e
   obtain ⟨rfl,rfl,rfl⟩:=e
   exact ⟨rfl,h.1,h.2,by simp⟩
  ·obtain ⟨h1,h2,h3,h4⟩:=ih a b c e
   exact ⟨h1,h2,h3,by simp [h4]⟩
theorem r137_ok {l:List Sp} {t:Int} (hb:Bd 1073741823 l) (h:(r137 l t).2=true):(r137 l t).1.1≤t∧t≤(r137 l t).1.2∧(r137 l t).1.2≤1073741823∧0≤(r137 l t).1.1:=by
 unfold r137 at h ⊢
 cases e:R137_0 l t l with
 | inl x =>
  obtain ⟨a,b,c⟩:=x
  obtain ⟨_,h2,h3,h4⟩:=R137_ok l t l a b c e
  have:=hb _ h4
  exact ⟨h2,h3,this.2.2,this.1⟩
 | inr u=>rw [e] at h; simp [onSum] at h
def R89_0 (d:Dr) (ti:Int)  : Nat→Int→Sum (Int) (Unit)
 | 0,tv=>.inr ()
 | m'+1,tv=>(if tv≤1073741823 then (if (r137 (d.shut:List Sp) (r136 (d.hours:List Sp) tv)).2=true then (if ((((r137 (d.shut:List Sp) (r136 (d.hours:List Sp) tv)).1).2)+1)=tv then .inl tv else R89_0 d ti m' ((((r137 (d.shut:List Sp) (r136 (d.hours:List Sp) tv)).1).2)+1)) else (if (r136 (d.hours:List Sp) tv)=tv then .inl tv else R89_0 d ti m' (r136 (d.hours:List Sp) tv))) else .inr ())
def r89 (d:Dr) (ti:Int):Int:=(onSum (R89_0 d ti ((1073741824 - ti).toNat+1) ti) (fun (r4:Int)=>r4) (fun (_:Unit)=>1073741824))
set_option maxHeartbeats 8000000 in
theorem c89 (d:Dr) (ti:Int) (hD:OkD d) (ht:0≤ti) (S:AS) (v_d_hours:Value) (hv_d_hours:Lst S v_d_hours d.hours) (v_d_shut:Value) (hv_d_shut:Lst S v_d_shut d.shut) :
  ∃ S',(evL Tryz.prog E0).call 89 #[.agg #[v_d_hours,v_d_shut],.int .i64 ti] S=some (.int .i64 (r89 d ti),S')∧Agree S S':=by
 generalize hz:(evL Tryz.prog E0).call 89 _ _=z
 rw [L_call,evCall_said rfl Tryz.func89 rfl (by decide) Tryz.ntmps89 Tryz.results89] at hz
 obtain ⟨S1,e1,n1,b1,a1⟩:=push_open S (.cells [v_d_hours,v_d_shut] 98 0 true true)
 have g1:Agree S S1:=a1
 try simp only [E0_G,SY,setArgs,off,agreeKind,boxed,Nat.reduceAdd,Nat.reduceSub,Nat.reduceLT,Nat.reduceBEq,e1] at hz
 generalize hL2:Rec.loop _ _ _ _=L2 at hz
 obtain ⟨x2,t2,S2e,rfl,hQ2⟩:=loop_met hL2 (fun m t S'=>∃ (tv:Int),1073741824 - tv<(m:Int)∧1≤m∧0≤tv∧t.get 1=some (.int .i64 tv)∧t.get 2=some (.pointer (some ⟨S.next,0,none⟩))∧S'.heap.get S.next=some (.cells [v_d_hours,v_d_shut] 98 0 true true)∧Agree S S'∧S1.next≤S'.next∧R89_0 d ti m tv=R89_0 d ti ((1073741824 - ti).toNat+1) ti)
  (fun x t S'=>(x=.exit 0∧∃ (tv:Int),S'.heap.get S.next=some (.cells [v_d_hours,v_d_shut] 98 0 true true)∧Agree S S'∧S1.next≤S'.next∧0≤tv∧R89_0 d ti ((1073741824 - ti).toNat+1) ti=.inr ())∨(x=.ret∧∃ (r4:Int),t.get 4=some (.int .i64 r4)∧Agree S S'∧R89_0 d ti ((1073741824 - ti).toNat+1) ti=.inl (r4))) ((1073741824 - ti).toNat+1) ⟨ti,by first|rfl|omega|(simp; omega)|simp,by first|rfl|omega|(simp; omega)|simp,by first|rfl|omega|(simp; omega)|simp,by simp only [SY,eq_self,Nat.reduceBEq]<;>rfl,by simp only [SY,eq_self,Nat.reduceBEq]<;>rfl,b1,g1,Nat.le_refl _,rfl⟩ (by
   rintro m t S2 ⟨tv,hi2_0,hi2_1,hi2_2,g2_1,g2_2,bb2_1,ga2,gn2,hd2⟩
   refine .run fun z he=>?_
   try simp only [E0_G,SY,off,agreeKind,Nat.reduceAdd,Nat.reduceLT,Nat.reduceBEq,g2_1] at he
   rcases dP (tv≤1073741823) with ⟨h3a,h3⟩|⟨h3a,h3⟩
   ·obtain ⟨S4,k4,a4⟩:=c136 (d.hours:List Sp) tv hD.h hD.hl (by omega) S2 (v_d_hours) (hv_d_hours.agree ga2)
    have l4:=a4.1
    have v1_4:=(a4.2 S.next (by omega)).trans bb2_1
    have g4:Agree S S4:=ga2.trans a4
    have p4:=r136_ge (show 0≤tv∧tv≤1073741823 by omega) hD.h
    obtain ⟨S5,k5,a5⟩:=c137 (d.shut:List Sp) (r136 (d.hours:List Sp) tv) hD.sl S4 (v_d_shut) (hv_d_shut.agree g4)
    have l5:=a5.1
    have v1_5:=(a5.2 S.next (by omega)).trans v1_4
    have g5:Agree S S5:=g4.trans a5
    obtain ⟨S6,e6,n6,b6,a6⟩:=push_open S5 (.cells [.int .i64 0,.int .i64 0] 36 0 true true)
    have v1_6:=(a6.2 S.next (by omega)).trans v1_5
    have g6:Agree S S6:=g5.trans a6
    obtain ⟨S7,k7,n7,b7,q7⟩:=st_at (o:=0) (c':=[.int .i64 (((r137 (d.shut:List Sp) (r136 (d.hours:List Sp) tv)).1).1),.int .i64 (((r137 (d.shut:List Sp) (r136 (d.hours:List Sp) tv)).1).2)]) (v:=.agg #[.int .i64 (((r137 (d.shut:List Sp) (r136 (d.hours:List Sp) tv)).1).1),.int .i64 (((r137 (d.shut:List Sp) (r136 (d.hours:List Sp) tv)).1).2)]) tz36 b6 rfl rfl (show 0+2≤2 by decide) rfl
    have v1_7:=(q7 S.next (by omega)).trans v1_6
    have g7:Agree S S7:=⟨by have:=(g6).1; omega,fun id hid=>(q7 id (by have:=(g6).1; omega)).trans ((g6).2 id hid)⟩
    try simp (disch:=first|omega|assumption) only [E0_G,SY,off,agreeKind,vals,allocV,ldA,aggD,aField,aExtract,Nat.reduceAdd,Nat.reduceLT,Nat.reduceBEq,TY_EvH5,g2_1,g2_2,bb2_1,h3a,k4,v1_4,k5,e6,k7] at he
    rcases dB ((r137 (d.shut:List Sp) (r136 (d.hours:List Sp) tv)).2) with ⟨h8a,h8⟩|⟨h8a,h8⟩
    ·have lq9:=r137_ok hD.s h8
     have w10:IntKind.i64.wrap ((((r137 (d.shut:List Sp) (r136 (d.hours:List Sp) tv)).1).2)+1)=(((r137 (d.shut:List Sp) (r136 (d.hours:List Sp) tv)).1).2)+1:=by rw [IntWalk.i64_in]; omega
     try simp (disch:=first|omega|assumption) only [E0_G,SY,off,agreeKind,ldA,aggD,aField,Nat.reduceAdd,Nat.reduceLT,Nat.reduceBEq,TY_EvH5,g2_1,b7,h8a,w10] at he
     rcases dP (((((r137 (d.shut:List Sp) (r136 (d.hours:List Sp) tv)).1).2)+1)=tv) with ⟨h11a,h11⟩|⟨h11a,h11⟩
     ·try simp only [E0_G,SY,off,agreeKind,Nat.reduceAdd,Nat.reduceLT,Nat.reduceBEq,g2_1,h11a] at he
      obtain ⟨m',rfl⟩:∃ m',m=m'+1:=⟨m - 1,by omega⟩
      have hf:=(show _=(.inl tv:Sum (Int) (Unit)) from (if_pos h3).trans ((if_pos h8).trans ((if_pos h11).trans (rfl)))).symm.trans hd2
      exact .ret he (.inr ⟨rfl,⟨tv,(by simp only [SY,eq_self,Nat.reduceBEq]<;>rfl),g7,hf.symm⟩⟩)
     try simp only [E0_G,SY,off,agreeKind,Nat.reduceAdd,Nat.reduceLT,Nat.reduceBEq,h11a] at he
     obtain ⟨m',rfl⟩:∃ m',m=m'+1:=⟨m - 1,by omega⟩
     have hf:=(show _=(R89_0 d ti m' ((((r137 (d.shut:List Sp) (r136 (d.hours:List Sp) tv)).1).2)+1):Sum (Int) (Unit)) from (if_pos h3).trans ((if_pos h8).trans ((if_neg h11).trans (rfl)))).symm.trans hd2
     exact .next he m' (by omega) ⟨(((r137 (d.shut:List Sp) (r136 (d.hours:List Sp) tv)).1).2)+1,by first|omega|(simp; omega)|simp,by first|omega|(simp; omega)|simp,by first|omega|(simp; omega)|simp,(by simp only [SY,eq_self,Nat.reduceBEq,g2_1]<;>rfl),(by simp only [SY,eq_self,Nat.reduceBEq,g2_2]<;>rfl),v1_7,g7,by omega,hf⟩
    try simp only [E0_G,SY,off,agreeKind,Nat.reduceAdd,Nat.reduceLT,Nat.reduceBEq,g2_1,h8a] at he
    rcases dP ((r136 (d.hours:List Sp) tv)=tv) with ⟨h12a,h12⟩|⟨h12a,h12⟩
    ·try simp only [E0_G,SY,off,agreeKind,Nat.reduceAdd,Nat.reduceLT,Nat.reduceBEq,g2_1,h12a] at he
     obtain ⟨m',rfl⟩:∃ m',m=m'+1:=⟨m - 1,by omega⟩
     have hf:=(show _=(.inl tv:Sum (Int) (Unit)) from (if_pos h3).trans ((if_neg h8).trans ((if_pos h12).trans (rfl)))).symm.trans hd2
     exact .ret he (.inr ⟨rfl,⟨tv,(by simp only [SY,eq_self,Nat.reduceBEq]<;>rfl),g7,hf.symm⟩⟩)
    try simp only [E0_G,SY,off,agreeKind,Nat.reduceAdd,Nat.reduceLT,Nat.reduceBEq,h12a] at he
    obtain ⟨m',rfl⟩:∃ m',m=m'+1:=⟨m - 1,by omega⟩
    have hf:=(show _=(R89_0 d ti m' (r136 (d.hours:List Sp) tv):Sum (Int) (Unit)) from (if_pos h3).trans ((if_neg h8).trans ((if_neg h12).trans (rfl)))).symm.trans hd2
    exact .next he m' (by omega) ⟨(r136 (d.hours:List Sp) tv),by first|omega|(simp; omega)|simp,by first|omega|(simp; omega)|simp,by first|omega|(simp; omega)|simp,(by simp only [SY,eq_self,Nat.reduceBEq,g2_1]<;>rfl),(by simp only [SY,eq_self,Nat.reduceBEq,g2_2]<;>rfl),v1_7,g7,by omega,hf⟩
   try simp only [SY,h3a] at he
   obtain ⟨m',rfl⟩:∃ m',m=m'+1:=⟨m - 1,by omega⟩
   have hf:=(show _=(.inr ():Sum (Int) (Unit)) from (if_neg h3).trans (rfl)).symm.trans hd2
   exact .exit he (.inl ⟨rfl,⟨tv,bb2_1,ga2,by omega,by first|omega|assumption|simp,hf.symm⟩⟩))
 rcases hQ2 with ⟨rfl,hQ2⟩|⟨rfl,hQ2⟩
 ·obtain ⟨tv,be2_1,ge2,gm2,hj2_0,hR2⟩:=hQ2
  try simp only [E0_G,SY,off,agreeKind,eq_self,if_true,Nat.reduceLT,Nat.reduceBEq] at hz
  have hr:r89 d ti=1073741824:=(onSum_inr hR2).trans (rfl)
  exact fin hz (by rw [hr]) ge2
 obtain ⟨r4,ge2_4,ge2,hR2⟩:=hQ2
 try simp only [SY,ge2_4] at hz
 have hr:r89 d ti=r4:=(onSum_inl hR2).trans (rfl)
 exact fin hz (by rw [hr]) ge2
def R134_0 (l:List Sp) (n:Int)  : List Sp→Nat→Sum (Bool) (Unit)
 | [],k=>.inr ()
 | x1 :: l',k=>(if (r71 n x1.lo x1.hi)=true then .inl true else R134_0 l n l' (k+1))
def r134 (l:List Sp) (n:Int):Bool:=(onSum (R134_0 l n l 0) (fun (r4:Bool)=>r4) (fun (_:Unit)=>false))
def r86 (d:Dr) (ti:Int):Bool:=(if (r134 (d.hours:List Sp) (Int.tmod ti 86400))=true then !(r134 (d.shut:List Sp) ti) else false)
theorem r144_ok {h:Hs} {w:Int} {b:Bool} (e:r59 h=0) (hw:0≤w∧w<h.ways.length) : -1≤(r144 h w b).1.2.2.2.2.2∧(r144 h w b).1.2.2.2.2.2<h.doors.length∧0≤(r144 h w b).1.2.2.2.2.1∧(r144 h w b).1.2.2.2.2.1≤3600:=by
 have k:=okw_at e hw
 unfold r144
 split
 ·exact ⟨k.d.1,k.d.2,k.k⟩
 ·exact ⟨k.d.1,k.d.2,by have:=k.s; simp only; omega,k.s.2⟩
def r103 (h:Hs) (room:Int) (since:Int) (s:Stp):Int × Int × Int:=(if (r143 h s.way)=true then (if (r88 s.at_)=true then (if (r144 h s.way s.back).2=true then (if (((r144 h s.way s.back).1).2.2.1)=room then (if s.at_<since then (0,0,3) else (if 0≤(((r144 h s.way s.back).1).2.2.2.2.2) then (if (r89 (lget h.doors (Int.toNat (((r144 h s.way s.back).1).2.2.2.2.2))) s.at_)=s.at_ then (if (r88 (s.at_+(((r144 h s.way s.back).1).2.2.2.2.1)))=true then (((r144 h s.way s.back).1).2.2.2.1,s.at_+(((r144 h s.way s.back).1).2.2.2.2.1),0) else (0,0,3)) else (0,0,9)) else (if (r88 (s.at_+(((r144 h s.way s.back).1).2.2.2.2.1)))=true then (((r144 h s.way s.back).1).2.2.2.1,s.at_+(((r144 h s.way s.back).1).2.2.2.2.1),0) else (0,0,3)))) else (0,0,4)) else (0,0,1)) else (0,0,1)) else (0,0,1))
set_option maxHeartbeats 8000000 in
theorem c103 (h:Hs) (room:Int) (since:Int) (s:Stp) (hF:Few h) (hV:r59 h=0) (S:AS) (v_h_rooms:Value) (hv_h_rooms:LstR S v_h_rooms h.rooms) (v_h_doors:Value) (hv_h_doors:LstR S v_h_doors h.doors) (v_h_ways:Value) (hv_h_ways:Lst S v_h_ways h.ways) :
  ∃ S',(evL Tryz.prog E0).call 103 #[.agg #[v_h_rooms,v_h_doors,v_h_ways],.int .i64 room,.int .i64 since,.agg #[.int .i64 s.way,.bool s.back,.int .i64 s.at_]] S=some (.tuple #[.int .i64 (r103 h room since s).1,.int .i64 (r103 h room since s).2.1,.int .i64 (r103 h room since s).2.2],S')∧Agree S S':=by
 have qr:=hF.r; have qd:=hF.d; have qw:=hF.w
 generalize hz:(evL Tryz.prog E0).call 103 _ _=z
 rw [L_call,evCall_said rfl Tryz.func103 rfl (by decide) Tryz.ntmps103 Tryz.results103] at hz
 obtain ⟨S1,e1,n1,b1,a1⟩:=push_open S (.cells [v_h_rooms,v_h_doors,v_h_ways] 26 0 true true)
 have g1:Agree S S1:=a1
 have s1:E0.same S S1=true:=symEnv_same a1
 obtain ⟨S2,e2,n2,b2,a2⟩:=push_open S1 (.cells [.int .i64 s.way,.bool s.back,.int .i64 s.at_] 94 0 true true)
 have v1_2:=(a2.2 S.next (by omega)).trans b1
 have g2:Agree S S2:=g1.trans a2
 have s2:E0.same S1 S2=true:=symEnv_same a2
 obtain ⟨S3,k3,a3⟩:=c143 h s.way  S2 (v_h_rooms) (hv_h_rooms.agree g2) (v_h_doors) (hv_h_doors.agree g2) (v_h_ways) (hv_h_ways.agree g2)
 have l3:=a3.1
 have s3:E0.same S2 S3=true:=symEnv_same a3
 have v1_3:=(a3.2 S.next (by omega)).trans v1_2
 have v2_3:=(a3.2 S1.next (by omega)).trans b2
 have g3:Agree S S3:=g2.trans a3
 try simp (disch:=first|omega|assumption) only [E0_G,SY,setArgs,off,agreeKind,vals,boxed,ldA,rdCells,aggD,aField,Nat.reduceAdd,Nat.reduceSub,Nat.reduceLT,Nat.reduceBEq,TY_EvH5,e1,v1_2,e2,b2,k3] at hz
 rcases dB ((r143 h s.way)) with ⟨h4a,h4⟩|⟨h4a,h4⟩
 ·have lq5:=r143_iff.1 h4
  obtain ⟨S6,k6,a6⟩:=c88 s.at_  S3
  have l6:=a6.1
  have s6:E0.same S3 S6=true:=symEnv_same a6
  have v1_6:=(a6.2 S.next (by omega)).trans v1_3
  have v2_6:=(a6.2 S1.next (by omega)).trans v2_3
  have g6:Agree S S6:=g3.trans a6
  try simp (disch:=first|omega|assumption) only [E0_G,SY,off,agreeKind,vals,ldA,aggD,aField,Nat.reduceAdd,Nat.reduceLT,Nat.reduceBEq,TY_EvH5,v2_3,h4a,k6] at hz
  rcases dB ((r88 s.at_)) with ⟨h7a,h7⟩|⟨h7a,h7⟩
  ·have lq8:=r88_iff.1 h7
   obtain ⟨S9,k9,a9⟩:=c144 h s.way s.back (by first|omega|assumption) S6 (v_h_rooms) (hv_h_rooms.agree g6) (v_h_doors) (hv_h_doors.agree g6) (v_h_ways) (hv_h_ways.agree g6)
   have l9:=a9.1
   have s9:E0.same S6 S9=true:=symEnv_same a9
   have v1_9:=(a9.2 S.next (by omega)).trans v1_6
   have v2_9:=(a9.2 S1.next (by omega)).trans v2_6
   have g9:Agree S S9:=g6.trans a9
   have p9:=r144_ok (b:=s.back) hV (show 0≤s.way∧s.way<(h.ways.length:Int) by omega)
   obtain ⟨S10,e10,n10,b10,a10⟩:=push_open S9 (.cells [.int .i64 0,.bool false,.int .i64 0,.int .i64 0,.int .i64 0,.int .i64 0] 137 0 true true)
   have v1_10:=(a10.2 S.next (by omega)).trans v1_9
   have v2_10:=(a10.2 S1.next (by omega)).trans v2_9
   have g10:Agree S S10:=g9.trans a10
   have s10:E0.same S9 S10=true:=symEnv_same a10
   obtain ⟨S11,k11,n11,b11,q11⟩:=st_at (o:=0) (c':=[.int .i64 (((r144 h s.way s.back).1).1),.bool (((r144 h s.way s.back).1).2.1),.int .i64 (((r144 h s.way s.back).1).2.2.1),.int .i64 (((r144 h s.way s.back).1).2.2.2.1),.int .i64 (((r144 h s.way s.back).1).2.2.2.2.1),.int .i64 (((r144 h s.way s.back).1).2.2.2.2.2)]) (v:=.agg #[.int .i64 (((r144 h s.way s.back).1).1),.bool (((r144 h s.way s.back).1).2.1),.int .i64 (((r144 h s.way s.back).1).2.2.1),.int .i64 (((r144 h s.way s.back).1).2.2.2.1),.int .i64 (((r144 h s.way s.back).1).2.2.2.2.1),.int .i64 (((r144 h s.way s.back).1).2.2.2.2.2)]) tz137 b10 rfl rfl (show 0+6≤6 by decide) rfl
   have v1_11:=(q11 S.next (by omega)).trans v1_10
   have v2_11:=(q11 S1.next (by omega)).trans v2_10
   have g11:Agree S S11:=⟨by have:=(g10).1; omega,fun id hid=>(q11 id (by have:=(g10).1; omega)).trans ((g10).2 id hid)⟩
   try simp (disch:=first|omega|assumption) only [E0_G,SY,off,agreeKind,vals,allocV,ldA,rdCells,aggD,aField,aExtract,Nat.reduceAdd,Nat.reduceLT,Nat.reduceBEq,TY_EvH5,v1_6,v2_6,h7a,k9,e10,k11] at hz
   rcases dB ((r144 h s.way s.back).2) with ⟨h12a,h12⟩|⟨h12a,h12⟩
   ·try simp (disch:=first|omega|assumption) only [E0_G,SY,off,agreeKind,ldA,aggD,aField,Nat.reduceAdd,Nat.reduceLT,Nat.reduceBEq,TY_EvH5,b11,h12a] at hz
    rcases dP ((((r144 h s.way s.back).1).2.2.1)=room) with ⟨h13a,h13⟩|⟨h13a,h13⟩
    ·try simp (disch:=first|omega|assumption) only [E0_G,SY,off,agreeKind,ldA,aggD,aField,Nat.reduceAdd,Nat.reduceLT,Nat.reduceBEq,TY_EvH5,v2_11,h13a] at hz
     rcases dP (s.at_<since) with ⟨h14a,h14⟩|⟨h14a,h14⟩
     ·try simp only [E0_G,SY,off,agreeKind,Nat.reduceAdd,Nat.reduceLT,Nat.reduceBEq,h14a] at hz
      have hr:r103 h room since s=(0,0,3):=(if_pos h4).trans ((if_pos h7).trans ((if_pos h12).trans ((if_pos h13).trans ((if_pos h14).trans (rfl)))))
      exact fin hz (by rw [hr]) g11
     try simp only [SY,h14a] at hz
     rw [code_draws _ _ _ (by kernel_rfl)] at hz
     generalize hnd15:needy _=nd15 at hz
     try simp (disch:=first|omega|assumption) only [E0_G,SY,agreeKind,ldA,aggD,aField,Nat.reduceAdd,Nat.reduceLT,Nat.reduceBEq,TY_EvH5,b11,store_refl E0_same] at hz
     rcases dP (0≤(((r144 h s.way s.back).1).2.2.2.2.2)) with ⟨h16a,h16⟩|⟨h16a,h16⟩
     ·have qz17:((Int.toNat (((r144 h s.way s.back).1).2.2.2.2.2):Nat):Int)=((r144 h s.way s.back).1).2.2.2.2.2:=Int.toNat_of_nonneg (by first|omega|simp; omega)
      have hx18:h.doors[(Int.toNat (((r144 h s.way s.back).1).2.2.2.2.2))]?=some (lget h.doors (Int.toNat (((r144 h s.way s.back).1).2.2.2.2.2))):=lget_some (by first|omega|simp; omega)
      obtain ⟨id18,of18,cc18,ty18,wr18,ex18,cs18,i18,j18,l18,rp18,q18⟩:=LstR.at (hv_h_doors) (P:=Tryz.prog) (t:=23) Tryz.underlying23 tz98 hx18
      obtain ⟨w18_0,w18_1,rp18,rr18_0,rr18_1⟩:=rp18
      have rq18:cs18=[w18_0,w18_1]:=rp18
      subst rq18
      have j18:=(g11.2 id18 l18).trans j18
      have m18_0:cc18[of18]?=some (w18_0):=q18 0 (show 0<2 by decide)
      have m18_1:cc18[of18+1]?=some (w18_1):=q18 1 (show 1<2 by decide)
      rw [qz17] at i18
      obtain ⟨S19,k19,a19⟩:=c89 (lget h.doors (Int.toNat (((r144 h s.way s.back).1).2.2.2.2.2))) s.at_ (okd hV (List.mem_of_getElem? (by assumption))) (by omega) S11 (w18_0) (rr18_0.agree g11) (w18_1) (rr18_1.agree g11)
      have l19:=a19.1
      have s19:E0.same S11 S19=true:=symEnv_same a19
      have v2_19:=(a19.2 S1.next (by omega)).trans v2_11
      have v10_19:=(a19.2 S9.next (by omega)).trans b11
      have g19:Agree S S19:=g11.trans a19
      try simp (disch:=first|omega|assumption) only [E0_G,SY,agreeKind,vals,ldA,rdCells,aggD,aField,Nat.reduceAdd,Nat.reduceLT,Nat.reduceBEq,TY_EvH5,v1_11,v2_11,b11,store_agree,store_refl E0_same,h16a,i18,j18,m18_0,m18_1,k19,v2_19] at hz
      rcases dP ((r89 (lget h.doors (Int.toNat (((r144 h s.way s.back).1).2.2.2.2.2))) s.at_)=s.at_) with ⟨h20a,h20⟩|⟨h20a,h20⟩
      ·have w21:IntKind.i64.wrap (s.at_+(((r144 h s.way s.back).1).2.2.2.2.1))=s.at_+(((r144 h s.way s.back).1).2.2.2.2.1):=by rw [IntWalk.i64_in]; omega
       obtain ⟨S22,k22,a22⟩:=c88 (s.at_+(((r144 h s.way s.back).1).2.2.2.2.1))  S19
       have l22:=a22.1
       have s22:E0.same S19 S22=true:=symEnv_same a22
       have v2_22:=(a22.2 S1.next (by omega)).trans v2_19
       have v10_22:=(a22.2 S9.next (by omega)).trans v10_19
       have g22:Agree S S22:=g19.trans a22
       try simp (disch:=first|omega|assumption) only [E0_G,SY,off,agreeKind,vals,ldA,aggD,aField,Nat.reduceAdd,Nat.reduceLT,Nat.reduceBEq,TY_EvH5,store_agree,store_refl E0_same,v2_19,v10_19,h20a,w21,k22] at hz
       rcases dB ((r88 (s.at_+(((r144 h s.way s.back).1).2.2.2.2.1)))) with ⟨h23a,h23⟩|⟨h23a,h23⟩
       ·have lq24:=r88_iff.1 h23
        try simp only [SY,store_refl E0_same,h23a] at hz
        rw [code_draws _ _ _ (by kernel_rfl)] at hz
        generalize hnd25:needy _=nd25 at hz
        have w26:IntKind.i64.wrap (s.at_+(((r144 h s.way s.back).1).2.2.2.2.1))=s.at_+(((r144 h s.way s.back).1).2.2.2.2.1):=by rw [IntWalk.i64_in]; omega
        try simp (disch:=first|omega|assumption) only [E0_G,SY,agreeKind,ldA,aggD,aField,Nat.reduceAdd,Nat.reduceLT,Nat.reduceBEq,TY_EvH5,store_refl E0_same,w21,v2_22,v10_22] at hz
        have hr:r103 h room since s=(((r144 h s.way s.back).1).2.2.2.1,s.at_+(((r144 h s.way s.back).1).2.2.2.2.1),0):=(if_pos h4).trans ((if_pos h7).trans ((if_pos h12).trans ((if_pos h13).trans ((if_neg h14).trans ((if_pos h16).trans ((if_pos h20).trans ((if_pos h23).trans (rfl))))))))
        exact fin hz (by rw [hr]) g22
       try simp only [E0_G,SY,off,agreeKind,Nat.reduceAdd,Nat.reduceLT,Nat.reduceBEq,store_refl E0_same,h23a] at hz
       have hr:r103 h room since s=(0,0,3):=(if_pos h4).trans ((if_pos h7).trans ((if_pos h12).trans ((if_pos h13).trans ((if_neg h14).trans ((if_pos h16).trans ((if_pos h20).trans ((if_neg h23).trans (rfl))))))))
       exact fin hz (by rw [hr]) g22
      try simp only [E0_G,SY,off,agreeKind,Nat.reduceAdd,Nat.reduceLT,Nat.reduceBEq,store_refl E0_same,h20a] at hz
      have hr:r103 h room since s=(0,0,9):=(if_pos h4).trans ((if_pos h7).trans ((if_pos h12).trans ((if_pos h13).trans ((if_neg h14).trans ((if_pos h16).trans ((if_neg h20).trans (rfl)))))))
      exact fin hz (by rw [hr]) g19
     have w27:IntKind.i64.wrap (s.at_+(((r144 h s.way s.back).1).2.2.2.2.1))=s.at_+(((r144 h s.way s.back).1).2.2.2.2.1):=by rw [IntWalk.i64_in]; omega
     obtain ⟨S28,k28,a28⟩:=c88 (s.at_+(((r144 h s.way s.back).1).2.2.2.2.1))  S11
     have l28:=a28.1
     have s28:E0.same S11 S28=true:=symEnv_same a28
     have v2_28:=(a28.2 S1.next (by omega)).trans v2_11
     have v10_28:=(a28.2 S9.next (by omega)).trans b11
     have g28:Agree S S28:=g11.trans a28
     try simp (disch:=first|omega|assumption) only [E0_G,SY,off,agreeKind,vals,ldA,aggD,aField,Nat.reduceAdd,Nat.reduceLT,Nat.reduceBEq,TY_EvH5,v2_11,b11,store_agree,store_refl E0_same,h16a,w27,k28] at hz
     rcases dB ((r88 (s.at_+(((r144 h s.way s.back).1).2.2.2.2.1)))) with ⟨h29a,h29⟩|⟨h29a,h29⟩
     ·have lq30:=r88_iff.1 h29
      try simp only [SY,store_refl E0_same,h29a] at hz
      rw [code_draws _ _ _ (by kernel_rfl)] at hz
      generalize hnd31:needy _=nd31 at hz
      have w32:IntKind.i64.wrap (s.at_+(((r144 h s.way s.back).1).2.2.2.2.1))=s.at_+(((r144 h s.way s.back).1).2.2.2.2.1):=by rw [IntWalk.i64_in]; omega
      try simp (disch:=first|omega|assumption) only [E0_G,SY,agreeKind,ldA,aggD,aField,Nat.reduceAdd,Nat.reduceLT,Nat.reduceBEq,TY_EvH5,store_refl E0_same,w27,v2_28,v10_28] at hz
      have hr:r103 h room since s=(((r144 h s.way s.back).1).2.2.2.1,s.at_+(((r144 h s.way s.back).1).2.2.2.2.1),0):=(if_pos h4).trans ((if_pos h7).trans ((if_pos h12).trans ((if_pos h13).trans ((if_neg h14).trans ((if_neg h16).trans ((if_pos h29).trans (rfl)))))))
      exact fin hz (by rw [hr]) g28
     try simp only [E0_G,SY,off,agreeKind,Nat.reduceAdd,Nat.reduceLT,Nat.reduceBEq,store_refl E0_same,h29a] at hz
     have hr:r103 h room since s=(0,0,3):=(if_pos h4).trans ((if_pos h7).trans ((if_pos h12).trans ((if_pos h13).trans ((if_neg h14).trans ((if_neg h16).trans ((if_neg h29).trans (rfl)))))))
     exact fin hz (by rw [hr]) g28
    try simp only [E0_G,SY,off,agreeKind,Nat.reduceAdd,Nat.reduceLT,Nat.reduceBEq,h13a] at hz
    have hr:r103 h room since s=(0,0,4):=(if_pos h4).trans ((if_pos h7).trans ((if_pos h12).trans ((if_neg h13).trans (rfl))))
    exact fin hz (by rw [hr]) g11
   try simp only [E0_G,SY,off,agreeKind,Nat.reduceAdd,Nat.reduceLT,Nat.reduceBEq,h12a] at hz
   have hr:r103 h room since s=(0,0,1):=(if_pos h4).trans ((if_pos h7).trans ((if_neg h12).trans (rfl)))
   exact fin hz (by rw [hr]) g11
  try simp only [E0_G,SY,off,agreeKind,Nat.reduceAdd,Nat.reduceLT,Nat.reduceBEq,h7a] at hz
  have hr:r103 h room since s=(0,0,1):=(if_pos h4).trans ((if_neg h7).trans (rfl))
  exact fin hz (by rw [hr]) g6
 try simp only [E0_G,SY,off,agreeKind,Nat.reduceAdd,Nat.reduceLT,Nat.reduceBEq,h4a] at hz
 have hr:r103 h room since s=(0,0,1):=(if_neg h4).trans (rfl)
 exact fin hz (by rw [hr]) g3
theorem r84_false {h:Hs}:¬ r84 h false=0:=by
 intro e
 unfold r84 at e
 split at e
 ·simp at e
 ·exact absurd e (by assumption)
theorem r84_ok {h:Hs} {b:Bool} (e:r84 h b=0):r59 h=0∧b=true:=by
 unfold r84 at e
 rw [check_eq] at e
 unfold r59
 split at e
 ·split at e
  ·exact ⟨by assumption,by assumption⟩
  ·simp at e
 ·exact absurd e (by assumption)
def R39_0 (h:Hs) (from_:Int) (ti:Int) (l:List Stp)  : List Stp→Int→Int→Sum (Int × Int × Int) (Int × Int)
 | [],fr,tv=>.inr (fr,tv)
 | x13 :: l',fr,tv=>(if ((r103 h fr tv x13).2.2)=0 then R39_0 h from_ ti l l' ((r103 h fr tv x13).1) ((r103 h fr tv x13).2.1) else .inl (0,0,(r103 h fr tv x13).2.2))
def r39 (h:Hs) (from_:Int) (ti:Int) (l:List Stp):Int × Int × Int:=(if (r102 h from_)=true then (if (r84 h (r88 ti))=0 then (if 60<(l.length:Int) then (0,0,2) else (onSum (R39_0 h from_ ti l l from_ ti) (fun (r8,r9,r10)=>(r8,r9,r10)) (fun (fr,tv)=>(fr,tv,0)))) else (0,0,(r84 h (r88 ti)))) else (0,0,(r84 h false)))
set_option maxHeartbeats 8000000 in
theorem c39 (h:Hs) (from_:Int) (ti:Int) (l:List Stp) (hF:Few h) (hs:∀ x ∈ h.rooms,x.name.size≤9223372036854775807) (hl:l.length≤80) (S:AS) (v_h_rooms:Value) (hv_h_rooms:LstR S v_h_rooms h.rooms) (v_h_doors:Value) (hv_h_doors:LstR S v_h_doors h.doors) (v_h_ways:Value) (hv_h_ways:Lst S v_h_ways h.ways) (v_l:Value) (hv_l:LstR S v_l l) :
  ∃ S',(evL Tryz.prog E0).call 39 #[.agg #[v_h_rooms,v_h_doors,v_h_ways],.int .i64 from_,.int .i64 ti,v_l] S=some (.tuple #[.int .i64 (r39 h from_ ti l).1,.int .i64 (r39 h from_ ti l).2.1,.int .i64 (r39 h from_ ti l).2.2],S')∧Agree S S':=by
 have qr:=hF.r; have qd:=hF.d; have qw:=hF.w
 generalize hz:(evL Tryz.prog E0).call 39 _ _=z
 rw [L_call,evCall_said rfl Tryz.func39 rfl (by decide) Tryz.ntmps39 Tryz.results39] at hz
 obtain ⟨S1,e1,n1,b1,a1⟩:=push_open S (.cells [v_h_rooms,v_h_doors,v_h_ways] 26 0 true true)
 have g1:Agree S S1:=a1
 have s1:E0.same S S1=true:=symEnv_same a1
 try simp only [E0_G,SY,setArgs,off,agreeKind,boxed,Nat.reduceAdd,Nat.reduceSub,Nat.reduceLT,Nat.reduceBEq,e1] at hz
 rw [code_draws _ _ _ (by kernel_rfl)] at hz
 generalize hnd2:needy _=nd2 at hz
 obtain ⟨S3,k3,a3⟩:=c102 h from_  S1 (v_h_rooms) (hv_h_rooms.agree g1) (v_h_doors) (hv_h_doors.agree g1) (v_h_ways) (hv_h_ways.agree g1)
 have l3:=a3.1
 have s3:E0.same S1 S3=true:=symEnv_same a3
 have v1_3:=(a3.2 S.next (by omega)).trans b1
 have g3:Agree S S3:=g1.trans a3
 try simp (disch:=first|omega|assumption) only [E0_G,SY,agreeKind,vals,ldA,rdCells,aggD,Nat.reduceAdd,Nat.reduceLT,Nat.reduceBEq,TY_EvH5,b1,store_agree,store_refl E0_same,k3] at hz
 rcases dB ((r102 h from_)) with ⟨h4a,h4⟩|⟨h4a,h4⟩
 ·have lq5:=r102_iff.1 h4
  obtain ⟨S6,k6,a6⟩:=c88 ti  S3
  have l6:=a6.1
  have s6:E0.same S3 S6=true:=symEnv_same a6
  have v1_6:=(a6.2 S.next (by omega)).trans v1_3
  have g6:Agree S S6:=g3.trans a6
  obtain ⟨S7,k7,a7⟩:=c84 h (r88 ti) hF hs S6 (v_h_rooms) (hv_h_rooms.agree g6) (v_h_doors) (hv_h_doors.agree g6) (v_h_ways) (hv_h_ways.agree g6)
  have l7:=a7.1
  have s7:E0.same S6 S7=true:=symEnv_same a7
  have v1_7:=(a7.2 S.next (by omega)).trans v1_6
  have g7:Agree S S7:=g6.trans a7
  try simp (disch:=first|omega|assumption) only [E0_G,SY,off,agreeKind,vals,Nat.reduceAdd,Nat.reduceLT,Nat.reduceBEq,store_agree,store_refl E0_same,h4a,k6,k7] at hz
  rcases dP ((r84 h (r88 ti))=0) with ⟨h8a,h8⟩|⟨h8a,h8⟩
  ·have lq9:=(r84_ok h8).1
   have w10:=(hv_l.agree g7).len (P:=Tryz.prog) (t:=47) Tryz.underlying47
   try simp only [E0_G,SY,off,agreeKind,Nat.reduceAdd,Nat.reduceLT,Nat.reduceBEq,store_refl E0_same,h8a,w10] at hz
   rcases dP (60<(l.length:Int)) with ⟨h11a,h11⟩|⟨h11a,h11⟩
   ·try simp only [E0_G,SY,off,agreeKind,Nat.reduceAdd,Nat.reduceLT,Nat.reduceBEq,store_refl E0_same,h11a] at hz
    have hr:r39 h from_ ti l=(0,0,2):=(if_pos h4).trans ((if_pos h8).trans ((if_pos h11).trans (rfl)))
    exact fin hz (by rw [hr]) g7
   have w12:=(hv_l.agree g7).len (P:=Tryz.prog) (t:=47) Tryz.underlying47
   try simp only [E0_G,SY,off,agreeKind,Nat.reduceAdd,Nat.reduceLT,Nat.reduceBEq,store_refl E0_same,w10,h11a] at hz
   have hV:=(r84_ok (by assumption)).1
   generalize hL13:Rec.loop _ _ _ _=L13 at hz
   obtain ⟨x13,t13,S13e,rfl,hQ13⟩:=loop_met hL13 (fun m t S'=>∃ (k:Nat) (fr:Int) (tv:Int),m+k=l.length∧k≤l.length∧t.get 1=some (.int .i64 fr)∧t.get 2=some (.int .i64 tv)∧t.get 4=some (.pointer (some ⟨S.next,0,none⟩))∧t.get 30=some (v_l)∧t.get 31=some (.int .i64 (l.length:Int))∧t.get 32=some (.int .i64 (k:Int))∧S'.heap.get S.next=some (.cells [v_h_rooms,v_h_doors,v_h_ways] 26 0 true true)∧Agree S S'∧S7.next≤S'.next∧R39_0 h from_ ti l (l.drop k) fr tv=R39_0 h from_ ti l l from_ ti)
    (fun x t S'=>(x=.exit 0∧∃ (k:Nat) (fr:Int) (tv:Int),t.get 1=some (.int .i64 fr)∧t.get 2=some (.int .i64 tv)∧S'.heap.get S.next=some (.cells [v_h_rooms,v_h_doors,v_h_ways] 26 0 true true)∧Agree S S'∧S7.next≤S'.next∧k≤l.length∧R39_0 h from_ ti l l from_ ti=.inr (fr,tv))∨(x=.ret∧∃ (r8:Int) (r9:Int) (r10:Int),t.get 8=some (.int .i64 r8)∧t.get 9=some (.int .i64 r9)∧t.get 10=some (.int .i64 r10)∧Agree S S'∧R39_0 h from_ ti l l from_ ti=.inl (r8,r9,r10))) (l.length - 0) ⟨0,from_,ti,by first|rfl|omega|(simp; omega)|simp,by first|rfl|omega|(simp; omega)|simp,by simp only [SY,eq_self,Nat.reduceBEq]<;>rfl,by simp only [SY,eq_self,Nat.reduceBEq]<;>rfl,by simp only [SY,eq_self,Nat.reduceBEq]<;>rfl,by simp only [SY,eq_self,Nat.reduceBEq]<;>rfl,by simp only [SY,eq_self,Nat.reduceBEq]<;>rfl,by simp only [SY,Nat.reduceBEq]<;>rfl,v1_7,g7,Nat.le_refl _,rfl⟩ (by
     rintro m t S13 ⟨k,fr,tv,hi13_0,hi13_1,g13_1,g13_2,g13_4,g13_30,g13_31,g13_32,bb13_1,ga13,gn13,hd13⟩
     refine .run fun z he=>?_
     try simp only [E0_G,SY,off,agreeKind,Nat.reduceLT,Nat.reduceBEq,g13_31,g13_32] at he
     rcases dP ((k:Int)<(l.length:Int)) with ⟨h14a,h14⟩|⟨h14a,h14⟩
     ·have hx13:l[k]?=some (l[k]'(by first|omega|simp; omega)):=List.getElem?_eq_getElem _
      generalize l[k]'_=x13 at hx13
      obtain ⟨id15,of15,cc15,ty15,wr15,ex15,cs15,i15,j15,l15,rp15,q15⟩:=LstR.at (hv_l) (P:=Tryz.prog) (t:=47) Tryz.underlying47 tz94 hx13
      have rq15:cs15=[.int .i64 x13.way,.bool x13.back,.int .i64 x13.at_]:=rp15
      subst rq15
      have j15:=(ga13.2 id15 l15).trans j15
      have m15_0:cc15[of15]?=some (.int .i64 x13.way):=q15 0 (show 0<3 by decide)
      have m15_1:cc15[of15+1]?=some (.bool x13.back):=q15 1 (show 1<3 by decide)
      have m15_2:cc15[of15+2]?=some (.int .i64 x13.at_):=q15 2 (show 2<3 by decide)
      obtain ⟨S16,e16,n16,b16,a16⟩:=push_open S13 (.cells [.int .i64 0,.bool false,.int .i64 0] 94 0 true true)
      have v1_16:=(a16.2 S.next (by omega)).trans bb13_1
      have g16:Agree S S16:=ga13.trans a16
      have s16:E0.same S13 S16=true:=symEnv_same a16
      obtain ⟨S17,k17,n17,b17,q17⟩:=st_at (o:=0) (c':=[.int .i64 x13.way,.bool x13.back,.int .i64 x13.at_]) (v:=.agg #[.int .i64 x13.way,.bool x13.back,.int .i64 x13.at_]) tz94 b16 rfl rfl (show 0+3≤3 by decide) rfl
      have v1_17:=(q17 S.next (by omega)).trans v1_16
      have g17:Agree S S17:=⟨by have:=(g16).1; omega,fun id hid=>(q17 id (by have:=(g16).1; omega)).trans ((g16).2 id hid)⟩
      obtain ⟨S18,k18,a18⟩:=c103 h fr tv x13 hF hV S17 (v_h_rooms) (hv_h_rooms.agree g17) (v_h_doors) (hv_h_doors.agree g17) (v_h_ways) (hv_h_ways.agree g17)
      have l18:=a18.1
      have s18:E0.same S17 S18=true:=symEnv_same a18
      have v1_18:=(a18.2 S.next (by omega)).trans v1_17
      have g18:Agree S S18:=g17.trans a18
      try simp (disch:=first|omega|assumption) only [E0_G,SY,off,agreeKind,vals,allocV,ldA,rdCells,aggD,aExtract,Nat.reduceAdd,Nat.reduceLT,Nat.reduceBEq,TY_EvH5,g13_1,g13_2,g13_4,g13_30,g13_32,h14a,i15,j15,m15_0,m15_1,m15_2,e16,v1_17,k17,b17,k18] at he
      rcases dP (((r103 h fr tv x13).2.2)=0) with ⟨h19a,h19⟩|⟨h19a,h19⟩
      ·have w20:IntKind.i64.wrap ((k:Int)+1)=((k+1:Nat):Int):=by rw [IntWalk.i64_in]<;>omega
       try simp only [E0_G,SY,off,agreeKind,Nat.reduceAdd,Nat.reduceLT,Nat.reduceBEq,g13_32,h19a,w20] at he
       rw [drop_cons' hx13] at hd13
       have hf:=(show _=(R39_0 h from_ ti l (l.drop (k+1)) ((r103 h fr tv x13).1) ((r103 h fr tv x13).2.1):Sum (Int × Int × Int) (Int × Int)) from (if_pos h19).trans (rfl)).symm.trans hd13
       exact .next he (m - 1) (by omega) ⟨(k+1),(r103 h fr tv x13).1,(r103 h fr tv x13).2.1,by first|omega|(simp; omega)|simp,by first|omega|(simp; omega)|simp,(by simp only [SY,eq_self,Nat.reduceBEq,g13_1]<;>rfl),(by simp only [SY,eq_self,Nat.reduceBEq,g13_2]<;>rfl),(by simp only [SY,eq_self,Nat.reduceBEq,g13_4]<;>rfl),(by simp only [SY,eq_self,Nat.reduceBEq,g13_30]<;>rfl),(by simp only [SY,eq_self,Nat.reduceBEq,g13_31]<;>rfl),(by simp only [SY,eq_self,Nat.reduceBEq,g13_32]<;>rfl),v1_18,g18,by omega,hf⟩
      try simp only [E0_G,SY,off,agreeKind,Nat.reduceAdd,Nat.reduceLT,Nat.reduceBEq,h19a] at he
      rw [drop_cons' hx13] at hd13
      have hf:=(show _=(.inl (0,0,(r103 h fr tv x13).2.2):Sum (Int × Int × Int) (Int × Int)) from (if_neg h19).trans (rfl)).symm.trans hd13
      exact .ret he (.inr ⟨rfl,⟨0,0,(r103 h fr tv x13).2.2,(by simp only [SY,eq_self,Nat.reduceBEq]<;>rfl),(by simp only [SY,eq_self,Nat.reduceBEq]<;>rfl),(by simp only [SY,eq_self,Nat.reduceBEq]<;>rfl),g18,hf.symm⟩⟩)
     try simp only [SY,h14a] at he
     rw [List.drop_eq_nil_of_le (show l.length≤k by omega)] at hd13
     have hf:=(show _=(.inr (fr,tv):Sum (Int × Int × Int) (Int × Int)) from rfl).symm.trans hd13
     exact .exit he (.inl ⟨rfl,⟨k,fr,tv,(by simp only [SY,eq_self,Nat.reduceBEq,g13_1]<;>rfl),(by simp only [SY,eq_self,Nat.reduceBEq,g13_2]<;>rfl),bb13_1,ga13,by omega,by first|omega|assumption|simp,hf.symm⟩⟩))
   rcases hQ13 with ⟨rfl,hQ13⟩|⟨rfl,hQ13⟩
   ·obtain ⟨k,fr,tv,ge13_1,ge13_2,be13_1,ge13,gm13,hj13_0,hR13⟩:=hQ13
    try simp only [E0_G,SY,off,agreeKind,eq_self,if_true,Nat.reduceAdd,Nat.reduceLT,Nat.reduceBEq,ge13_1,ge13_2] at hz
    have hr:r39 h from_ ti l=(fr,tv,0):=(if_pos h4).trans ((if_pos h8).trans ((if_neg h11).trans ((onSum_inr hR13).trans (rfl))))
    exact fin hz (by rw [hr]) ge13
   obtain ⟨r8,r9,r10,ge13_8,ge13_9,ge13_10,ge13,hR13⟩:=hQ13
   try simp only [SY,ge13_8,ge13_9,ge13_10] at hz
   have hr:r39 h from_ ti l=(r8,r9,r10):=(if_pos h4).trans ((if_pos h8).trans ((if_neg h11).trans ((onSum_inl hR13).trans (rfl))))
   exact fin hz (by rw [hr]) ge13
  try simp only [E0_G,SY,off,agreeKind,Nat.reduceAdd,Nat.reduceLT,Nat.reduceBEq,store_refl E0_same,h8a] at hz
  have hr:r39 h from_ ti l=(0,0,(r84 h (r88 ti))):=(if_pos h4).trans ((if_neg h8).trans (rfl))
  exact fin hz (by rw [hr]) g7
 obtain ⟨S22,k22,a22⟩:=c84 h false hF hs S3 (v_h_rooms) (hv_h_rooms.agree g3) (v_h_doors) (hv_h_doors.agree g3) (v_h_ways) (hv_h_ways.agree g3)
 have l22:=a22.1
 have s22:E0.same S3 S22=true:=symEnv_same a22
 have g22:Agree S S22:=g3.trans a22
 try simp (disch:=first|omega|assumption) only [E0_G,SY,off,agreeKind,vals,Nat.reduceAdd,Nat.reduceLT,Nat.reduceBEq,store_agree,store_refl E0_same,h4a,k22] at hz
 have h23:¬ ((r84 h false)=0):=r84_false
 have h23a:=decide_eq_false h23
 try simp only [E0_G,SY,off,agreeKind,Nat.reduceAdd,Nat.reduceLT,Nat.reduceBEq,store_refl E0_same,h23a] at hz
 have hr:r39 h from_ ti l=(0,0,(r84 h false)):=(if_neg h4).trans (rfl)
 exact fin hz (by rw [hr]) g22
def r104 (h:Hs) (room:Int) (ti:Int):Int:=(if (r59 h)=0 then (if (r122 h room)=true then (if (r69 ti)=true then (r59 h) else 1) else 1) else (r59 h))
def r98 (h:Hs) (n:Int) (back:Bool) (ti:Int):(Int × Int × Int × Int × Int) × Int:=(if (r59 h)=0 then (if (r71 n 0 ((h.ways.length:Int) - 1))=true then (if (r69 ti)=true then (if back=true then (if ((lget h.ways (Int.toNat n)).back)=0 then ((0,0,0,0,0),5) else ((n,(lget h.ways (Int.toNat n)).b,(lget h.ways (Int.toNat n)).a,(lget h.ways (Int.toNat n)).back,(lget h.ways (Int.toNat n)).door),0)) else ((n,(lget h.ways (Int.toNat n)).a,(lget h.ways (Int.toNat n)).b,(lget h.ways (Int.toNat n)).secs,(lget h.ways (Int.toNat n)).door),0)) else ((0,0,0,0,0),1)) else ((0,0,0,0,0),1)) else ((0,0,0,0,0),(r59 h)))
end House
end Go.Proofs
