import Derived.Test.YtohfdkdjfoonjaaGreatDoorBAI
set_option linter.unusedSimpArgs false
set_option linter.unusedVariables false
namespace Go.Proofs
namespace House
open Go Go.RowKit Go.Aev
set_option maxRecDepth 100000
theorem TY_EvH11:type_of% TY_EvH10:=TY_EvH10
structure Pg where
 way:Int
 back:Bool
 fr:Int
 to:Int
 secs:Int
 door:Int
structure Gt where
 way:Int
 fr:Int
 to:Int
 secs:Int
 door:Int
structure OkP (g:Hs) (x:Pg):Prop where
 v:r59 g=0
 d : -1≤x.door∧x.door<g.doors.length
 s:0≤x.secs∧x.secs≤3600
theorem r89_ge {d:Dr} (hO:OkO d) {t:Int} (ht:0≤t∧t≤1073741823):t≤r89 d t∧r89 d t≤1073741824:=by
 rcases r89_nx hO ht.1 with ⟨h1,_⟩|⟨h1,h2,_⟩<;>omega
set_option maxHeartbeats 4000000 in
theorem c97 (v0 v1 v2:Value) (S:AS):∃ S',(evL Tryz.prog E0).call 97 #[.agg #[v0,v1,v2]] S=some (.func (.func 145) #[] #[.pointer (some ⟨S.next,0,none⟩)],S')∧Agree S S'∧S'.next=S.next+1∧S'.heap.get S.next=some (.cells [v0,v1,v2] 26 0 true true):=by
 obtain ⟨S1,e1,n1,b1,a1⟩:=push_open S (.cells [v0,v1,v2] 26 0 true true)
 refine ⟨S1,?_,a1,by omega,b1⟩
 rw [L_call,evCall_said rfl Tryz.func97 rfl (by decide) Tryz.ntmps97 Tryz.results97]
 simp (disch:=first|omega|assumption) only [E0_G,SY,setArgs,off,agreeKind,boxed,eq_self,Nat.reduceAdd,Nat.reduceSub,Nat.reduceLT,Nat.reduceBEq,e1,op_makeFunc1]
set_option maxHeartbeats 4000000 in
theorem c100 (v0 v1 v2:Value) (S:AS):∃ S',(evL Tryz.prog E0).call 100 #[.agg #[v0,v1,v2]] S=some (.func (.func 146) #[] #[.pointer (some ⟨S.next,0,none⟩)],S')∧Agree S S'∧S'.next=S.next+1∧S'.heap.get S.next=some (.cells [v0,v1,v2] 26 0 true true):=by
 obtain ⟨S1,e1,n1,b1,a1⟩:=push_open S (.cells [v0,v1,v2] 26 0 true true)
 refine ⟨S1,?_,a1,by omega,b1⟩
 rw [L_call,evCall_said rfl Tryz.func100 rfl (by decide) Tryz.ntmps100 Tryz.results100]
 simp (disch:=first|omega|assumption) only [E0_G,SY,setArgs,off,agreeKind,boxed,eq_self,Nat.reduceAdd,Nat.reduceSub,Nat.reduceLT,Nat.reduceBEq,e1,op_makeFunc1]
def r145 (x:Pg) (ti:Int) (h:Hs):Int:=(if 0≤x.door then min ((r89 (lget h.doors (Int.toNat x.door)) ti)+x.secs) 1073741824 else min (ti+x.secs) 1073741824)
set_option maxHeartbeats 2000000 in
theorem c145 (x:Pg) (ti:Int) (h:Hs) (hP:OkP h x) (ht:0≤ti∧ti≤1073741823) (S:AS) (v_h_rooms:Value) (hv_h_rooms:LstR S v_h_rooms h.rooms) (v_h_doors:Value) (hv_h_doors:LstR S v_h_doors h.doors) (v_h_ways:Value) (hv_h_ways:Lst S v_h_ways h.ways) (p_h:Nat) (g_h:S.heap.get p_h=some (.cells [v_h_rooms,v_h_doors,v_h_ways] 26 0 true true)) (l_h:p_h<S.next) :
  ∃ S',(evL Tryz.prog E0).call 145 #[.agg #[.int .i64 x.way,.bool x.back,.int .i64 x.fr,.int .i64 x.to,.int .i64 x.secs,.int .i64 x.door],.int .i64 ti,.pointer (some ⟨p_h,0,none⟩)] S=some (.int .i64 (r145 x ti h),S')∧Agree S S':=by
 have hPd:=hP.d; have hPs:=hP.s
 generalize hz:(evL Tryz.prog E0).call 145 _ _=z
 rw [L_call,evCall_said rfl Tryz.func145 rfl (by decide) Tryz.ntmps145 Tryz.results145] at hz
 obtain ⟨S1,e1,n1,b1,a1⟩:=push_open S (.cells [.int .i64 x.way,.bool x.back,.int .i64 x.fr,.int .i64 x.to,.int .i64 x.secs,.int .i64 x.door] 137 0 true true)
 have vh_1:=(a1.2 p_h (by omega)).trans g_h
 have g1:Agree S S1:=a1
 try simp (disch:=first|omega|assumption) only [E0_G,SY,setArgs,off,agreeKind,boxed,ldA,aggD,aField,Nat.reduceAdd,Nat.reduceSub,Nat.reduceLT,Nat.reduceBEq,TY_EvH11,e1,b1] at hz
 rcases dP (0≤x.door) with ⟨h2a,h2⟩|⟨h2a,h2⟩
 ·have qz3:((Int.toNat x.door:Nat):Int)=x.door:=Int.toNat_of_nonneg (by first|omega|simp; omega)
  have hx4:h.doors[(Int.toNat x.door)]?=some (lget h.doors (Int.toNat x.door)):=lget_some (by first|omega|simp; omega)
  obtain ⟨id4,of4,cc4,ty4,wr4,ex4,cs4,i4,j4,l4,rp4,q4⟩:=LstR.at (hv_h_doors) (P:=Tryz.prog) (t:=23) Tryz.underlying23 tz98 hx4
  obtain ⟨w4_0,w4_1,rp4,rr4_0,rr4_1⟩:=rp4
  have rq4:cs4=[w4_0,w4_1]:=rp4
  subst rq4
  have j4:=(g1.2 id4 l4).trans j4
  have m4_0:cc4[of4]?=some (w4_0):=q4 0 (show 0<2 by decide)
  have m4_1:cc4[of4+1]?=some (w4_1):=q4 1 (show 1<2 by decide)
  rw [qz3] at i4
  obtain ⟨S5,k5,a5⟩:=c89 (lget h.doors (Int.toNat x.door)) ti (okd hP.v (List.mem_of_getElem? (by assumption))) (by omega) S1 (w4_0) (rr4_0.agree g1) (w4_1) (rr4_1.agree g1)
  have l5:=a5.1
  have v1_5:=(a5.2 S.next (by omega)).trans b1
  have g5:Agree S S5:=g1.trans a5
  have p5:=r89_ge (oko hP.v (List.mem_of_getElem? (by assumption:h.doors[_]?=some (lget h.doors (Int.toNat x.door))))) (show 0≤ti∧ti≤1073741823 by omega)
  have w6:IntKind.i64.wrap ((r89 (lget h.doors (Int.toNat x.door)) ti)+x.secs)=(r89 (lget h.doors (Int.toNat x.door)) ti)+x.secs:=by rw [IntWalk.i64_in]; omega
  try simp (disch:=first|omega|assumption) only [E0_G,SY,off,agreeKind,vals,ldA,rdCells,aggD,aField,Nat.reduceAdd,Nat.reduceLT,Nat.reduceBEq,TY_EvH11,vh_1,b1,h2a,i4,j4,m4_0,m4_1,k5,v1_5,w6] at hz
  have hr:r145 x ti h=min ((r89 (lget h.doors (Int.toNat x.door)) ti)+x.secs) 1073741824:=(if_pos h2).trans (rfl)
  exact fin hz (by rw [hr]) g5
 have w7:IntKind.i64.wrap (ti+x.secs)=ti+x.secs:=by rw [IntWalk.i64_in]; omega
 try simp (disch:=first|omega|assumption) only [E0_G,SY,off,agreeKind,ldA,aggD,aField,Nat.reduceAdd,Nat.reduceLT,Nat.reduceBEq,TY_EvH11,b1,h2a,w7] at hz
 have hr:r145 x ti h=min (ti+x.secs) 1073741824:=(if_neg h2).trans (rfl)
 exact fin hz (by rw [hr]) g1
def r146 (x:Pg) (ti:Int) (h:Hs):Int:=(if 0≤x.door then max (r91 (lget h.doors (Int.toNat x.door)) (ti - x.secs)) (-1) else max (ti - x.secs) (-1))
set_option maxHeartbeats 2000000 in
theorem c146 (x:Pg) (ti:Int) (h:Hs) (hP:OkP h x) (ht:0≤ti∧ti≤1073741823) (S:AS) (v_h_rooms:Value) (hv_h_rooms:LstR S v_h_rooms h.rooms) (v_h_doors:Value) (hv_h_doors:LstR S v_h_doors h.doors) (v_h_ways:Value) (hv_h_ways:Lst S v_h_ways h.ways) (p_h:Nat) (g_h:S.heap.get p_h=some (.cells [v_h_rooms,v_h_doors,v_h_ways] 26 0 true true)) (l_h:p_h<S.next) :
  ∃ S',(evL Tryz.prog E0).call 146 #[.agg #[.int .i64 x.way,.bool x.back,.int .i64 x.fr,.int .i64 x.to,.int .i64 x.secs,.int .i64 x.door],.int .i64 ti,.pointer (some ⟨p_h,0,none⟩)] S=some (.int .i64 (r146 x ti h),S')∧Agree S S':=by
 have hPd:=hP.d; have hPs:=hP.s
 generalize hz:(evL Tryz.prog E0).call 146 _ _=z
 rw [L_call,evCall_said rfl Tryz.func146 rfl (by decide) Tryz.ntmps146 Tryz.results146] at hz
 obtain ⟨S1,e1,n1,b1,a1⟩:=push_open S (.cells [.int .i64 x.way,.bool x.back,.int .i64 x.fr,.int .i64 x.to,.int .i64 x.secs,.int .i64 x.door] 137 0 true true)
 have vh_1:=(a1.2 p_h (by omega)).trans g_h
 have g1:Agree S S1:=a1
 have w2:IntKind.i64.wrap (ti - x.secs)=ti - x.secs:=by rw [IntWalk.i64_in]; omega
 try simp (disch:=first|omega|assumption) only [E0_G,SY,setArgs,off,agreeKind,boxed,ldA,aggD,aField,Nat.reduceAdd,Nat.reduceSub,Nat.reduceLT,Nat.reduceBEq,TY_EvH11,e1,b1,w2] at hz
 rcases dP (0≤x.door) with ⟨h3a,h3⟩|⟨h3a,h3⟩
 ·have qz4:((Int.toNat x.door:Nat):Int)=x.door:=Int.toNat_of_nonneg (by first|omega|simp; omega)
  have hx5:h.doors[(Int.toNat x.door)]?=some (lget h.doors (Int.toNat x.door)):=lget_some (by first|omega|simp; omega)
  obtain ⟨id5,of5,cc5,ty5,wr5,ex5,cs5,i5,j5,l5,rp5,q5⟩:=LstR.at (hv_h_doors) (P:=Tryz.prog) (t:=23) Tryz.underlying23 tz98 hx5
  obtain ⟨w5_0,w5_1,rp5,rr5_0,rr5_1⟩:=rp5
  have rq5:cs5=[w5_0,w5_1]:=rp5
  subst rq5
  have j5:=(g1.2 id5 l5).trans j5
  have m5_0:cc5[of5]?=some (w5_0):=q5 0 (show 0<2 by decide)
  have m5_1:cc5[of5+1]?=some (w5_1):=q5 1 (show 1<2 by decide)
  rw [qz4] at i5
  obtain ⟨S6,k6,a6⟩:=c91 (lget h.doors (Int.toNat x.door)) (ti - x.secs) (okd hP.v (List.mem_of_getElem? (by assumption))) (by omega) S1 (w5_0) (rr5_0.agree g1) (w5_1) (rr5_1.agree g1)
  have l6:=a6.1
  have g6:Agree S S6:=g1.trans a6
  try simp (disch:=first|omega|assumption) only [E0_G,SY,off,agreeKind,vals,ldA,rdCells,aggD,aField,Nat.reduceAdd,Nat.reduceLT,Nat.reduceBEq,TY_EvH11,vh_1,b1,h3a,i5,j5,m5_0,m5_1,k6] at hz
  have hr:r146 x ti h=max (r91 (lget h.doors (Int.toNat x.door)) (ti - x.secs)) (-1):=(if_pos h3).trans (rfl)
  exact fin hz (by rw [hr]) g6
 try simp (disch:=first|omega|assumption) only [E0_G,SY,off,agreeKind,Nat.reduceAdd,Nat.reduceLT,Nat.reduceBEq,h3a] at hz
 have hr:r146 x ti h=max (ti - x.secs) (-1):=(if_neg h3).trans (rfl)
 exact fin hz (by rw [hr]) g1
def r99 (h:Hs) (g:Gt) (ti:Int):Int:=(if 0≤g.door then min ((r90 (lget h.doors (Int.toNat g.door)) ti)+g.secs) 1073741824 else min (ti+g.secs) 1073741824)
def r101 (h:Hs) (g:Gt) (ti:Int):Int:=(if (ti - g.secs)<0 then -1 else (if g.door<0 then ti - g.secs else (r92 (lget h.doors (Int.toNat g.door)) (ti - g.secs))))
end House
end Go.Proofs
