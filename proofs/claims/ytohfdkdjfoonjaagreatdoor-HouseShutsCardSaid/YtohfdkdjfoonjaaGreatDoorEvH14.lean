import Derived.Test.YtohfdkdjfoonjaaGreatDoorEvM7
import Derived.Test.YtohfdkdjfoonjaaGreatDoorAE6
set_option linter.unusedSimpArgs false
set_option linter.unusedVariables false
namespace Go.Proofs
namespace House
open Go Go.RowKit Go.Aev
set_option maxRecDepth 100000
theorem TY_EvH14:type_of% TY_EvH13:=TY_EvH13
def r85 (h:Hs) (n:Int) (ti:Int):Int:=(if (r59 h)=0 then (if (r71 n 0 ((h.doors.length:Int) - 1))=true then (if (r69 ti)=true then (r59 h) else 1) else 1) else (r59 h))
set_option maxHeartbeats 2000000 in
theorem c85 (h:Hs) (n:Int) (ti:Int) (hF:Few h) (S:AS) (v_h_rooms:Value) (hv_h_rooms:LstR S v_h_rooms h.rooms) (v_h_doors:Value) (hv_h_doors:LstR S v_h_doors h.doors) (v_h_ways:Value) (hv_h_ways:Lst S v_h_ways h.ways) :
  ∃ S',(evL Tryz.prog E0).call 85 #[.agg #[v_h_rooms,v_h_doors,v_h_ways],.int .i64 n,.int .i64 ti] S=some (.int .i64 (r85 h n ti),S')∧Agree S S':=by
 have qr:=hF.r; have qd:=hF.d; have qw:=hF.w
 generalize hz:(evL Tryz.prog E0).call 85 _ _=z
 rw [L_call,evCall_said rfl Tryz.func85 rfl (by decide) Tryz.ntmps85 Tryz.results85] at hz
 obtain ⟨S1,e1,n1,b1,a1⟩:=push_open S (.cells [v_h_rooms,v_h_doors,v_h_ways] 26 0 true true)
 have g1:Agree S S1:=a1
 obtain ⟨S2,k2,a2⟩:=c59 h hF S1 (v_h_rooms) (hv_h_rooms.agree g1) (v_h_doors) (hv_h_doors.agree g1) (v_h_ways) (hv_h_ways.agree g1)
 have l2:=a2.1
 have v1_2:=(a2.2 S.next (by omega)).trans b1
 have g2:Agree S S2:=g1.trans a2
 try simp (disch:=first|omega|assumption) only [E0_G,SY,setArgs,off,agreeKind,vals,boxed,ldA,rdCells,aggD,Nat.reduceAdd,Nat.reduceSub,Nat.reduceLT,Nat.reduceBEq,TY_EvH14,e1,b1,k2] at hz
 rcases dP ((r59 h)=0) with ⟨h3a,h3⟩|⟨h3a,h3⟩
 ·have w4:=(hv_h_doors.agree g2).len (P:=Tryz.prog) (t:=23) Tryz.underlying23
  have w5:IntKind.i64.wrap ((h.doors.length:Int) - 1)=(h.doors.length:Int) - 1:=by rw [IntWalk.i64_in]; omega
  obtain ⟨S6,k6,a6⟩:=c71 n 0 ((h.doors.length:Int) - 1)  S2
  have l6:=a6.1
  have g6:Agree S S6:=g2.trans a6
  try simp (disch:=first|omega|assumption) only [E0_G,SY,off,agreeKind,vals,ldA,aggD,aField,Nat.reduceAdd,Nat.reduceLT,Nat.reduceBEq,TY_EvH14,v1_2,h3a,w4,w5,k6] at hz
  rcases dB ((r71 n 0 ((h.doors.length:Int) - 1))) with ⟨h7a,h7⟩|⟨h7a,h7⟩
  ·have lq8:=r71_iff.1 h7
   obtain ⟨S9,k9,a9⟩:=c69 ti  S6
   have l9:=a9.1
   have g9:Agree S S9:=g6.trans a9
   try simp (disch:=first|omega|assumption) only [E0_G,SY,off,agreeKind,vals,Nat.reduceAdd,Nat.reduceLT,Nat.reduceBEq,h7a,k9] at hz
   rcases dB ((r69 ti)) with ⟨h10a,h10⟩|⟨h10a,h10⟩
   ·have lq11:=r69_iff.1 h10
    try simp (disch:=first|omega|assumption) only [E0_G,SY,off,agreeKind,Nat.reduceAdd,Nat.reduceLT,Nat.reduceBEq,h10a] at hz
    have hr:r85 h n ti=(r59 h):=(if_pos h3).trans ((if_pos h7).trans ((if_pos h10).trans (rfl)))
    exact fin hz (by rw [hr]) g9
   try simp (disch:=first|omega|assumption) only [E0_G,SY,off,agreeKind,Nat.reduceLT,Nat.reduceBEq,h10a] at hz
   have hr:r85 h n ti=1:=(if_pos h3).trans ((if_pos h7).trans ((if_neg h10).trans (rfl)))
   exact fin hz (by rw [hr]) g9
  try simp (disch:=first|omega|assumption) only [E0_G,SY,off,agreeKind,Nat.reduceAdd,Nat.reduceLT,Nat.reduceBEq,h7a] at hz
  have hr:r85 h n ti=1:=(if_pos h3).trans ((if_neg h7).trans (rfl))
  exact fin hz (by rw [hr]) g6
 try simp (disch:=first|omega|assumption) only [E0_G,SY,off,agreeKind,Nat.reduceAdd,Nat.reduceLT,Nat.reduceBEq,h3a] at hz
 have hr:r85 h n ti=(r59 h):=(if_neg h3).trans (rfl)
 exact fin hz (by rw [hr]) g2
theorem r85_ok {h:Hs} {n t:Int} (e:r85 h n t=0):r59 h=0∧0≤n∧n<(h.doors.length:Int)∧0≤t∧t≤1073741823:=by
 by_cases h0:r59 h=0
 ·refine ⟨h0,?_⟩
  unfold r85 at e
  rw [if_pos h0] at e
  split at e
  ·rename_i h1
   have h1:0≤n∧n≤(h.doors.length:Int) - 1:=by
    unfold r71 at h1; split at h1<;>simp at h1<;>omega
   split at e
   ·rename_i h2
    have:=r69_iff.1 h2
    omega
   ·cases e
  ·cases e
 ·unfold r85 at e
  rw [if_neg h0] at e
  exact absurd e h0
def R33_0 (h:Hs) (n:Int) (slo shi:Int)  : Nat→List Sp→Int→(List Sp)
 | 0,out,tv=>out
 | m'+1,out,tv=>(if tv≤shi then (if (r86 (lget h.doors (Int.toNat n)) tv)=true then (if 0<(out.length:Int) then (if ((lget out (Int.toNat (max ((out.length:Int) - 1) 0))).hi)=(tv - 1) then R33_0 h n slo shi m' (out.set (Int.toNat ((out.length:Int) - 1)) (⟨(lget out (Int.toNat ((out.length:Int) - 1))).lo,min (r95 (lget h.doors (Int.toNat n)) tv) shi⟩:Sp)) ((min (r95 (lget h.doors (Int.toNat n)) tv) shi)+1) else R33_0 h n slo shi m' (out++([(⟨tv,min (r95 (lget h.doors (Int.toNat n)) tv) shi⟩:Sp)])) ((min (r95 (lget h.doors (Int.toNat n)) tv) shi)+1)) else R33_0 h n slo shi m' (out++([(⟨tv,min (r95 (lget h.doors (Int.toNat n)) tv) shi⟩:Sp)])) ((min (r95 (lget h.doors (Int.toNat n)) tv) shi)+1)) else R33_0 h n slo shi m' out ((min (r95 (lget h.doors (Int.toNat n)) tv) shi)+1)) else out)
def r33 (h:Hs) (n:Int) (slo shi:Int):List Sp × Int:=(if (r85 h n 0)=0 then (if shi<slo then ([],1) else (if (r69 slo)=true then (if (r69 shi)=true then (if 604800≤(shi - slo) then ([],2) else (R33_0 h n slo shi ((shi+1 - slo).toNat+1) ([]) slo,0)) else ([],1)) else ([],1))) else ([],(r85 h n 0)))
end House
end Go.Proofs
