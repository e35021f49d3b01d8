import Derived.Test.YtohfdkdjfoonjaaGreatDoorEvH18
import Derived.Test.YtohfdkdjfoonjaaGreatDoorAE6
section
set_option linter.unusedSimpArgs false
set_option linter.unusedVariables false
namespace Go.Proofs
namespace House
open Go Go.RowKit Go.Aev
set_option maxRecDepth 100000
theorem tz149:szOf Tryz.prog 149=some 1:=by kernel_rfl
theorem tt149:inTab Tryz.prog 149=true:=by kernel_rfl
theorem t0_149:zeroOf Tryz.prog 149=some (.slice none 0 0):=by kernel_rfl
theorem TY_EvH19:type_of% (And.intro TY_EvH18 (And.intro (And.intro Tryz.underlying149 tz149) (And.intro tt149 t0_149))):=(And.intro TY_EvH18 (And.intro (And.intro Tryz.underlying149 tz149) (And.intro tt149 t0_149)))
instance:Inhabited Pg:=⟨⟨0,false,0,0,0,0⟩⟩
instance:Cel Pg:=⟨6,fun x=>[.int .i64 x.way,.bool x.back,.int .i64 x.fr,.int .i64 x.to,.int .i64 x.secs,.int .i64 x.door],fun _=>rfl,fun _=>rfl⟩
instance:Inhabited Gt:=⟨⟨0,0,0,0,0⟩⟩
instance:Flat Gt:=⟨[.i64,.i64,.i64,.i64,.i64],fun x=>[x.way,x.fr,x.to,x.secs,x.door],fun _=>rfl⟩
structure Tm (n:Nat) (l:List Int):Prop where
 len:l.length=n
 all:∀ x ∈ l,0≤x∧x≤1073741824
theorem Tm.set {n:Nat} {l:List Int} (h:Tm n l) (i:Nat) {x:Int} (hx:0≤x∧x≤1073741824):Tm n (l.set i x):=⟨by rw [List.length_set]; exact h.len,fun y hy=>(List.mem_or_eq_of_mem_set hy).elim (h.all y) (fun e=>e ▸ hx)⟩
theorem Tm.at {n:Nat} {l:List Int} (h:Tm n l) {i:Nat} {x:Int} (hx:l[i]?=some x):0≤x∧x≤1073741824:=h.all x (List.mem_of_getElem? hx)
theorem Tm.rep (n:Nat) {x:Int} (hx:0≤x∧x≤1073741824):Tm n (List.replicate n x):=⟨List.length_replicate,fun y hy=>(List.eq_of_mem_replicate hy) ▸ hx⟩
def Hr (times:List Int) (left:List Bool) (here:Int):Prop:=here = -1∨0≤here∧here<(times.length:Int)∧lget times here.toNat≤1073741823∧lget left here.toNat=false
theorem Hr.init (times:List Int) (left:List Bool):Hr times left (-1):=.inl rfl
theorem Hr.at {times:List Int} {left:List Bool} {k:Nat} {x:Int} (hk:k<times.length) (hx:times[k]?=some x) (h:x≤1073741823) (hl:¬ lget left k=true):Hr times left (k:Int) :=
 .inr ⟨by omega,by omega,by rw [Int.toNat_natCast,lget_of hx]; exact h,by rw [Int.toNat_natCast]; simpa using hl⟩
theorem Hr.get {times:List Int} {left:List Bool} {here:Int} (h:Hr times left here) (h0:¬ here<0):0≤here∧here<(times.length:Int)∧lget times here.toNat≤1073741823∧lget left here.toNat=false:=by
 rcases h with rfl|h
 ·omega
 ·exact h
theorem cnt_set:∀ (l:List Bool) (i:Nat),i<l.length→lget l i=false→(l.set i true).count false+1=l.count false:=by
 intro l
 induction l with
 | nil=>intro i h; simp at h
 | cons b l ih =>
  intro i h e
  cases i with
  | zero =>
   have e:b=false:=e
   subst e; simp
  | succ i =>
   have e:lget l i=false:=e
   have:=ih i (by simpa using h) e
   rw [List.set_cons_succ,List.count_cons,List.count_cons]; omega
def R116_0 (h:Hs)  : List Wy→List Gt→Nat→(List Gt)
 | [],out,k=>out
 | x2 :: l',out,k=>(if 0<x2.back then R116_0 h l' ((out++([(⟨(k:Int),x2.a,x2.b,x2.secs,x2.door⟩:Gt)]))++([(⟨(k:Int),x2.b,x2.a,x2.back,x2.door⟩:Gt)])) (k+1) else R116_0 h l' (out++([(⟨(k:Int),x2.a,x2.b,x2.secs,x2.door⟩:Gt)])) (k+1))
def r116 (h:Hs):List Gt:=R116_0 h h.ways ([]) 0
set_option maxHeartbeats 2000000 in
theorem c116 (h:Hs) (hF:Few h) (S:AS) (v_h_rooms:Value) (hv_h_rooms:LstR S v_h_rooms h.rooms) (v_h_doors:Value) (hv_h_doors:LstR S v_h_doors h.doors) (v_h_ways:Value) (hv_h_ways:Lst S v_h_ways h.ways) :
  ∃ v' S',(evL Tryz.prog E0).call 116 #[.agg #[v_h_rooms,v_h_doors,v_h_ways]] S=some (v',S')∧Agree S S'∧Own 128 S.next S' v' (r116 h):=by
 have qr:=hF.r; have qd:=hF.d; have qw:=hF.w
 generalize hz:(evL Tryz.prog E0).call 116 _ _=z
 rw [L_call,evCall_said rfl Tryz.func116 rfl (by decide) Tryz.ntmps116 Tryz.results116] at hz
 obtain ⟨S1,e1,n1,b1,a1⟩:=push_open S (.cells [v_h_rooms,v_h_doors,v_h_ways] 26 0 true true)
 have g1:Agree S S1:=a1
 have s1:E0.same S S1=true:=symEnv_same a1
 try simp (disch:=first|omega|assumption) only [E0_G,SY,setArgs,off,agreeKind,partVals,vals,allocV,boxed,ldA,rdCells,oneB,aggD,aField,aFieldV,aExtract,eq_self,ne_eq,if_true,if_false,not_false_eq_true,Nat.reduceAdd,Nat.reduceSub,Nat.reduceMul,Nat.reduceLT,Nat.reduceEqDiff,Nat.reduceBEq,reduceIte,Int.reduceEq,Int.reduceLT,Int.reduceLE,reduceCtorEq,TY_EvH19,s1,e1,b1] at hz
 generalize hL2:Rec.loop _ _ _ _=L2 at hz
 obtain ⟨x2,t2,S2e,rfl,hQ2⟩:=loop_met hL2 (fun m t S'=>∃ (v_out:Value) (out:List Gt) (k:Nat),m+k=h.ways.length∧out.length≤2 * k∧k≤h.ways.length∧t.get 1=some (.pointer (some ⟨S.next,0,none⟩))∧t.get 3=some (v_out)∧t.get 4=some (.int .i64 (k:Int))∧S'.heap.get S.next=some (.cells [v_h_rooms,v_h_doors,v_h_ways] 26 0 true true)∧Agree S S'∧S1.next≤S'.next∧Own 128 S1.next S' v_out out∧R116_0 h (h.ways.drop k) out k=R116_0 h h.ways ([]) 0)
  (fun x t S'=>x=.exit 0∧∃ (v_out:Value) (out:List Gt) (k:Nat),t.get 3=some (v_out)∧S'.heap.get S.next=some (.cells [v_h_rooms,v_h_doors,v_h_ways] 26 0 true true)∧Agree S S'∧S1.next≤S'.next∧Own 128 S1.next S' v_out out∧out.length≤2 * k∧k≤h.ways.length∧R116_0 h h.ways ([]) 0=out) (h.ways.length - 0) ⟨.slice none 0 0,[],0,by first|rfl|omega|(simp; omega)|simp,by first|rfl|omega|(simp; omega)|simp,by first|rfl|omega|(simp; omega)|simp,by simp only [SY,setArgs,off,agreeKind,partVals,vals,allocV,boxed,ldA,rdCells,oneB,aggD,aField,aFieldV,aExtract,eq_self,ne_eq,if_true,if_false,not_false_eq_true,Nat.reduceAdd,Nat.reduceSub,Nat.reduceMul,Nat.reduceLT,Nat.reduceEqDiff,Nat.reduceBEq,reduceIte,Int.reduceEq,Int.reduceLT,Int.reduceLE,reduceCtorEq]<;>rfl,by simp only [SY,setArgs,off,agreeKind,partVals,vals,allocV,boxed,ldA,rdCells,oneB,aggD,aField,aFieldV,aExtract,eq_self,ne_eq,if_true,if_false,not_false_eq_true,Nat.reduceAdd,Nat.reduceSub,Nat.reduceMul,Nat.reduceLT,Nat.reduceEqDiff,Nat.reduceBEq,reduceIte,Int.reduceEq,Int.reduceLT,Int.reduceLE,reduceCtorEq]<;>rfl,by simp only [SY,setArgs,off,agreeKind,partVals,vals,allocV,boxed,ldA,rdCells,oneB,aggD,aField,aFieldV,aExtract,eq_self,ne_eq,if_true,if_false,not_false_eq_true,Nat.reduceAdd,Nat.reduceSub,Nat.reduceMul,Nat.reduceLT,Nat.reduceEqDiff,Nat.reduceBEq,reduceIte,Int.reduceEq,Int.reduceLT,Int.reduceLE,reduceCtorEq]<;>rfl,b1,g1,Nat.le_refl _,Own.nil _ _ _,rfl⟩ (by
   rintro m t S2 ⟨v_out,out,k,hi2_0,hi2_1,hi2_2,g2_1,g2_3,g2_4,bb2_1,ga2,gn2,ow_out,hd2⟩
   refine .run fun z he=>?_
   have w3:=(hv_h_ways.agree ga2).len (P:=Tryz.prog) (t:=24) Tryz.underlying24
   try simp (disch:=first|omega|assumption) only [E0_G,SY,setArgs,off,agreeKind,partVals,vals,allocV,boxed,ldA,rdCells,oneB,aggD,aField,aFieldV,aExtract,eq_self,ne_eq,if_true,if_false,not_false_eq_true,Nat.reduceAdd,Nat.reduceSub,Nat.reduceMul,Nat.reduceLT,Nat.reduceEqDiff,Nat.reduceBEq,reduceIte,Int.reduceEq,Int.reduceLT,Int.reduceLE,reduceCtorEq,TY_EvH19,g2_1,g2_3,g2_4,bb2_1,w3] at he
   rcases dP ((k:Int)<(h.ways.length:Int)) with ⟨h4a,h4⟩|⟨h4a,h4⟩
   ·have hx2:h.ways[k]?=some (h.ways[k]'(by first|omega|simp; omega)):=List.getElem?_eq_getElem _
    generalize h.ways[k]'_=x2 at hx2
    obtain ⟨id5,of5,cc5,ty5,wr5,ex5,i5,j5,l5,q5⟩:=(hv_h_ways).at (P:=Tryz.prog) (t:=24) Tryz.underlying24 tz92 hx2
    have j5:=(ga2.2 id5 l5).trans j5
    have m5_0:cc5[of5]?=some (.int .i64 x2.a):=q5 0 (show 0<5 by decide)
    have m5_1:cc5[of5+1]?=some (.int .i64 x2.b):=q5 1 (show 1<5 by decide)
    have m5_2:cc5[of5+2]?=some (.int .i64 x2.secs):=q5 2 (show 2<5 by decide)
    have m5_3:cc5[of5+3]?=some (.int .i64 x2.back):=q5 3 (show 3<5 by decide)
    have m5_4:cc5[of5+4]?=some (.int .i64 x2.door):=q5 4 (show 4<5 by decide)
    obtain ⟨S6,e6,n6,b6,a6⟩:=push_open S2 (.cells [.int .i64 0,.int .i64 0,.int .i64 0,.int .i64 0,.int .i64 0] 92 0 true true)
    have v1_6:=(a6.2 S.next (by omega)).trans bb2_1
    have v5_6:=(a6.2 id5 (by omega)).trans j5
    have ow_7:=ow_out.agree a6
    have g6:Agree S S6:=ga2.trans a6
    have s6:E0.same S2 S6=true:=symEnv_same a6
    have ne8:blkOf (v_out)≠some S2.next:=ow_out.new (Nat.le_refl _)
    obtain ⟨S9,k9,n9,b9,q9⟩:=st_at (o:=0) (c':=[.int .i64 x2.a,.int .i64 x2.b,.int .i64 x2.secs,.int .i64 x2.back,.int .i64 x2.door]) (v:=.agg #[.int .i64 x2.a,.int .i64 x2.b,.int .i64 x2.secs,.int .i64 x2.back,.int .i64 x2.door]) tz92 b6 rfl rfl (show 0+5≤5 by decide) rfl
    have v1_9:=(q9 S.next (by omega)).trans v1_6
    have v5_9:=(q9 id5 (by omega)).trans v5_6
    have ow_10:=ow_7.frame (by omega) (fun id hid hb=>q9 id (fun e=>(show blkOf (v_out)≠some S2.next from by first|exact ow_7.ne (by omega)|exact ow_7.new (by omega)|assumption) (e ▸ hb)))
    have g9:Agree S S9:=⟨by have:=(g6).1; omega,fun id hid=>(q9 id (by have:=(g6).1; omega)).trans ((g6).2 id hid)⟩
    have y11:aBuild Tryz.prog 128 [(0,.int .i64 (k:Int)),(1,.int .i64 x2.a),(2,.int .i64 x2.b),(3,.int .i64 x2.secs),(4,.int .i64 x2.door)]=some (.agg #[.int .i64 (k:Int),.int .i64 x2.a,.int .i64 x2.b,.int .i64 x2.secs,.int .i64 x2.door]):=by kernel_rfl
    have y12:aBuildSlice Tryz.prog 149 1 [(0,.agg #[.int .i64 (k:Int),.int .i64 x2.a,.int .i64 x2.b,.int .i64 x2.secs,.int .i64 x2.door])] S9=some (.slice (some ⟨S9.next,0,none⟩) 1 1,S9.push (.cells [.int .i64 (k:Int),.int .i64 x2.a,.int .i64 x2.b,.int .i64 x2.secs,.int .i64 x2.door] 128 5 true true)):=by kernel_rfl
    obtain ⟨S13,e13,n13,b13,a13⟩:=push_open S9 (.cells [.int .i64 (k:Int),.int .i64 x2.a,.int .i64 x2.b,.int .i64 x2.secs,.int .i64 x2.door] 128 5 true true)
    have v1_13:=(a13.2 S.next (by omega)).trans v1_9
    have v5_13:=(a13.2 id5 (by omega)).trans v5_9
    have v6_13:=(a13.2 S2.next (by omega)).trans b9
    have ow_14:=ow_10.agree a13
    have g13:Agree S S13:=g9.trans a13
    have s13:E0.same S9 S13=true:=symEnv_same a13
    have ne15:blkOf (v_out)≠some S9.next:=ow_10.new (Nat.le_refl _)
    have o16:Own 128 S9.next S13 (.slice (some ⟨S9.next,0,none⟩) 1 1) ([(⟨(k:Int),x2.a,x2.b,x2.secs,x2.door⟩:Gt)]:List Gt):=.inr ⟨_,true,rfl,Nat.le_refl _,by omega,b13⟩
    have ap17:∀ b,blkOf (v_out)=some b→blkOf (.slice (some ⟨S9.next,0,none⟩) 1 1)≠some b:=fun b hb=>o16.ne (Nat.lt_of_lt_of_le (ow_10.lt hb) (by omega))
    obtain ⟨u18,S18,k18,o18,n18,f18,d18⟩:=own_append (P:=Tryz.prog) (t:=149) (tx:=149) (n:=4) (v:=v_out) ow_14 (o16.rows) (by omega) (by first|omega|(simp; omega)|simp) (by first|omega|(simp; omega)|simp) Tryz.underlying149 Tryz.underlying149 ti128 tv128 rfl tz128
    have v1_18:=(f18 S.next (by omega) (by first|(simp [blkOf]; done)|exact ow_14.ne (by omega)|exact ow_14.new (by omega)|assumption)).trans v1_13
    have v6_18:=(f18 S2.next (by omega) (by first|(simp [blkOf]; done)|exact ow_14.ne (by omega)|exact ow_14.new (by omega)|assumption)).trans v6_13
    have g18:Agree S S18:=⟨Nat.le_trans (g13).1 n18,fun id hid=>(f18 id (by have:=(g13).1; omega) (by first|(simp [blkOf]; done)|exact ow_14.ne (by omega)|assumption)).trans ((g13).2 id hid)⟩
    have ne19:blkOf u18≠some S.next:=by first|exact o18.ne (by omega)|exact o18.new (by omega)|exact d18 _ (by omega) (by first|(simp [blkOf]; done)|exact ow_14.ne (by omega)|exact ow_14.new (by omega)|assumption)
    have ne20:blkOf u18≠some S2.next:=by first|exact o18.ne (by omega)|exact o18.new (by omega)|exact d18 _ (by omega) (by first|(simp [blkOf]; done)|exact ow_14.ne (by omega)|exact ow_14.new (by omega)|assumption)
    try simp (disch:=first|omega|assumption) only [E0_G,SY,setArgs,off,agreeKind,partVals,vals,allocV,boxed,ldA,rdCells,oneB,aggD,aField,aFieldV,aExtract,eq_self,ne_eq,if_true,if_false,not_false_eq_true,Nat.reduceAdd,Nat.reduceSub,Nat.reduceMul,Nat.reduceLT,Nat.reduceEqDiff,Nat.reduceBEq,reduceIte,Int.reduceEq,Int.reduceLT,Int.reduceLE,reduceCtorEq,TY_EvH19,g2_1,g2_3,g2_4,bb2_1,w3,h4a,i5,j5,m5_0,m5_1,m5_2,m5_3,m5_4,v1_6,v5_6,s6,e6,b6,v1_9,v5_9,k9,b9,y11,y12,v1_13,v5_13,v6_13,s13,e13,b13,v1_18,v6_18,k18] at he
    rcases dP (0<x2.back) with ⟨h21a,h21⟩|⟨h21a,h21⟩
    ·have y22:aBuild Tryz.prog 128 [(0,.int .i64 (k:Int)),(1,.int .i64 x2.b),(2,.int .i64 x2.a),(3,.int .i64 x2.back),(4,.int .i64 x2.door)]=some (.agg #[.int .i64 (k:Int),.int .i64 x2.b,.int .i64 x2.a,.int .i64 x2.back,.int .i64 x2.door]):=by kernel_rfl
     have y23:aBuildSlice Tryz.prog 149 1 [(0,.agg #[.int .i64 (k:Int),.int .i64 x2.b,.int .i64 x2.a,.int .i64 x2.back,.int .i64 x2.door])] S18=some (.slice (some ⟨S18.next,0,none⟩) 1 1,S18.push (.cells [.int .i64 (k:Int),.int .i64 x2.b,.int .i64 x2.a,.int .i64 x2.back,.int .i64 x2.door] 128 5 true true)):=by kernel_rfl
     obtain ⟨S24,e24,n24,b24,a24⟩:=push_open S18 (.cells [.int .i64 (k:Int),.int .i64 x2.b,.int .i64 x2.a,.int .i64 x2.back,.int .i64 x2.door] 128 5 true true)
     have v1_24:=(a24.2 S.next (by omega)).trans v1_18
     have v6_24:=(a24.2 S2.next (by omega)).trans v6_18
     have o18_25:=o18.agree a24
     have g24:Agree S S24:=g18.trans a24
     have s24:E0.same S18 S24=true:=symEnv_same a24
     have ne26:blkOf (u18)≠some S18.next:=o18.new (Nat.le_refl _)
     have o27:Own 128 S18.next S24 (.slice (some ⟨S18.next,0,none⟩) 1 1) ([(⟨(k:Int),x2.b,x2.a,x2.back,x2.door⟩:Gt)]:List Gt):=.inr ⟨_,true,rfl,Nat.le_refl _,by omega,b24⟩
     have ap28:∀ b,blkOf (u18)=some b→blkOf (.slice (some ⟨S18.next,0,none⟩) 1 1)≠some b:=fun b hb=>o27.ne (Nat.lt_of_lt_of_le (o18.lt hb) (by omega))
     obtain ⟨u29,S29,k29,o29,n29,f29,d29⟩:=own_append (P:=Tryz.prog) (t:=149) (tx:=149) (n:=4) (v:=u18) o18_25 (o27.rows) (by omega) (by first|omega|(simp; omega)|simp) (by first|omega|(simp; omega)|simp) Tryz.underlying149 Tryz.underlying149 ti128 tv128 rfl tz128
     have v1_29:=(f29 S.next (by omega) (by first|(simp [blkOf]; done)|exact o18_25.ne (by omega)|exact o18_25.new (by omega)|assumption)).trans v1_24
     have v6_29:=(f29 S2.next (by omega) (by first|(simp [blkOf]; done)|exact o18_25.ne (by omega)|exact o18_25.new (by omega)|assumption)).trans v6_24
     have g29:Agree S S29:=⟨Nat.le_trans (g24).1 n29,fun id hid=>(f29 id (by have:=(g24).1; omega) (by first|(simp [blkOf]; done)|exact o18_25.ne (by omega)|assumption)).trans ((g24).2 id hid)⟩
     have ne30:blkOf u29≠some S.next:=by first|exact o29.ne (by omega)|exact o29.new (by omega)|exact d29 _ (by omega) (by first|(simp [blkOf]; done)|exact o18_25.ne (by omega)|exact o18_25.new (by omega)|assumption)
     have ne31:blkOf u29≠some S2.next:=by first|exact o29.ne (by omega)|exact o29.new (by omega)|exact d29 _ (by omega) (by first|(simp [blkOf]; done)|exact o18_25.ne (by omega)|exact o18_25.new (by omega)|assumption)
     have w32:IntKind.i64.wrap ((k:Int)+1)=((k+1:Nat):Int):=by rw [IntWalk.i64_in]<;>omega
     try simp (disch:=first|omega|assumption) only [E0_G,SY,setArgs,off,agreeKind,partVals,vals,allocV,boxed,ldA,rdCells,oneB,aggD,aField,aFieldV,aExtract,eq_self,ne_eq,if_true,if_false,not_false_eq_true,Nat.reduceAdd,Nat.reduceSub,Nat.reduceMul,Nat.reduceLT,Nat.reduceEqDiff,Nat.reduceBEq,reduceIte,Int.reduceEq,Int.reduceLT,Int.reduceLE,reduceCtorEq,TY_EvH19,g2_1,g2_3,g2_4,bb2_1,w3,h4a,i5,j5,m5_0,m5_1,m5_2,m5_3,m5_4,v1_6,v5_6,s6,e6,b6,v1_9,v5_9,k9,b9,y11,y12,v1_13,v5_13,v6_13,s13,e13,b13,v1_18,v6_18,k18,h21a,y22,y23,v1_24,v6_24,s24,e24,b24,v1_29,v6_29,k29,w32] at he
     rw [drop_cons' hx2] at hd2
     have hf:=(show _=(R116_0 h (h.ways.drop (k+1)) ((out++([(⟨(k:Int),x2.a,x2.b,x2.secs,x2.door⟩:Gt)]))++([(⟨(k:Int),x2.b,x2.a,x2.back,x2.door⟩:Gt)])) (k+1):(List Gt)) from (if_pos h21).trans (rfl)).symm.trans hd2
     exact .next he (m - 1) (by omega) ⟨u29,(out++([(⟨(k:Int),x2.a,x2.b,x2.secs,x2.door⟩:Gt)]))++([(⟨(k:Int),x2.b,x2.a,x2.back,x2.door⟩:Gt)]),(k+1),by first|omega|(simp; omega)|simp,by first|omega|(simp; omega)|simp,by first|omega|(simp; omega)|simp,(by simp only [SY,setArgs,off,agreeKind,partVals,vals,allocV,boxed,ldA,rdCells,oneB,aggD,aField,aFieldV,aExtract,eq_self,ne_eq,if_true,if_false,not_false_eq_true,Nat.reduceAdd,Nat.reduceSub,Nat.reduceMul,Nat.reduceLT,Nat.reduceEqDiff,Nat.reduceBEq,reduceIte,Int.reduceEq,Int.reduceLT,Int.reduceLE,reduceCtorEq,g2_1,g2_3,g2_4]<;>rfl),(by simp only [SY,setArgs,off,agreeKind,partVals,vals,allocV,boxed,ldA,rdCells,oneB,aggD,aField,aFieldV,aExtract,eq_self,ne_eq,if_true,if_false,not_false_eq_true,Nat.reduceAdd,Nat.reduceSub,Nat.reduceMul,Nat.reduceLT,Nat.reduceEqDiff,Nat.reduceBEq,reduceIte,Int.reduceEq,Int.reduceLT,Int.reduceLE,reduceCtorEq,g2_1,g2_3,g2_4]<;>rfl),(by simp only [SY,setArgs,off,agreeKind,partVals,vals,allocV,boxed,ldA,rdCells,oneB,aggD,aField,aFieldV,aExtract,eq_self,ne_eq,if_true,if_false,not_false_eq_true,Nat.reduceAdd,Nat.reduceSub,Nat.reduceMul,Nat.reduceLT,Nat.reduceEqDiff,Nat.reduceBEq,reduceIte,Int.reduceEq,Int.reduceLT,Int.reduceLE,reduceCtorEq,g2_1,g2_3,g2_4]<;>rfl),v1_29,g29,by omega,(o29.low (by omega)),hf⟩
    have w33:IntKind.i64.wrap ((k:Int)+1)=((k+1:Nat):Int):=by rw [IntWalk.i64_in]<;>omega
    try simp (disch:=first|omega|assumption) only [E0_G,SY,setArgs,off,agreeKind,partVals,vals,allocV,boxed,ldA,rdCells,oneB,aggD,aField,aFieldV,aExtract,eq_self,ne_eq,if_true,if_false,not_false_eq_true,Nat.reduceAdd,Nat.reduceSub,Nat.reduceMul,Nat.reduceLT,Nat.reduceEqDiff,Nat.reduceBEq,reduceIte,Int.reduceEq,Int.reduceLT,Int.reduceLE,reduceCtorEq,TY_EvH19,g2_1,g2_3,g2_4,bb2_1,w3,h4a,i5,j5,m5_0,m5_1,m5_2,m5_3,m5_4,v1_6,v5_6,s6,e6,b6,v1_9,v5_9,k9,b9,y11,y12,v1_13,v5_13,v6_13,s13,e13,b13,v1_18,v6_18,k18,h21a,w33] at he
    rw [drop_cons' hx2] at hd2
    have hf:=(show _=(R116_0 h (h.ways.drop (k+1)) (out++([(⟨(k:Int),x2.a,x2.b,x2.secs,x2.door⟩:Gt)])) (k+1):(List Gt)) from (if_neg h21).trans (rfl)).symm.trans hd2
    exact .next he (m - 1) (by omega) ⟨u18,out++([(⟨(k:Int),x2.a,x2.b,x2.secs,x2.door⟩:Gt)]),(k+1),by first|omega|(simp; omega)|simp,by first|omega|(simp; omega)|simp,by first|omega|(simp; omega)|simp,(by simp only [SY,setArgs,off,agreeKind,partVals,vals,allocV,boxed,ldA,rdCells,oneB,aggD,aField,aFieldV,aExtract,eq_self,ne_eq,if_true,if_false,not_false_eq_true,Nat.reduceAdd,Nat.reduceSub,Nat.reduceMul,Nat.reduceLT,Nat.reduceEqDiff,Nat.reduceBEq,reduceIte,Int.reduceEq,Int.reduceLT,Int.reduceLE,reduceCtorEq,g2_1,g2_3,g2_4]<;>rfl),(by simp only [SY,setArgs,off,agreeKind,partVals,vals,allocV,boxed,ldA,rdCells,oneB,aggD,aField,aFieldV,aExtract,eq_self,ne_eq,if_true,if_false,not_false_eq_true,Nat.reduceAdd,Nat.reduceSub,Nat.reduceMul,Nat.reduceLT,Nat.reduceEqDiff,Nat.reduceBEq,reduceIte,Int.reduceEq,Int.reduceLT,Int.reduceLE,reduceCtorEq,g2_1,g2_3,g2_4]<;>rfl),(by simp only [SY,setArgs,off,agreeKind,partVals,vals,allocV,boxed,ldA,rdCells,oneB,aggD,aField,aFieldV,aExtract,eq_self,ne_eq,if_true,if_false,not_false_eq_true,Nat.reduceAdd,Nat.reduceSub,Nat.reduceMul,Nat.reduceLT,Nat.reduceEqDiff,Nat.reduceBEq,reduceIte,Int.reduceEq,Int.reduceLT,Int.reduceLE,reduceCtorEq,g2_1,g2_3,g2_4]<;>rfl),v1_18,g18,by omega,(o18.low (by omega)),hf⟩
   try simp (disch:=first|omega|assumption) only [E0_G,SY,setArgs,off,agreeKind,partVals,vals,allocV,boxed,ldA,rdCells,oneB,aggD,aField,aFieldV,aExtract,eq_self,ne_eq,if_true,if_false,not_false_eq_true,Nat.reduceAdd,Nat.reduceSub,Nat.reduceMul,Nat.reduceLT,Nat.reduceEqDiff,Nat.reduceBEq,reduceIte,Int.reduceEq,Int.reduceLT,Int.reduceLE,reduceCtorEq,TY_EvH19,g2_1,g2_3,g2_4,bb2_1,w3,h4a] at he
   rw [List.drop_eq_nil_of_le (show h.ways.length≤k by omega)] at hd2
   have hf:=(show _=(out:(List Gt)) from rfl).symm.trans hd2
   exact .exit he ⟨rfl,⟨v_out,out,k,(by simp only [SY,setArgs,off,agreeKind,partVals,vals,allocV,boxed,ldA,rdCells,oneB,aggD,aField,aFieldV,aExtract,eq_self,ne_eq,if_true,if_false,not_false_eq_true,Nat.reduceAdd,Nat.reduceSub,Nat.reduceMul,Nat.reduceLT,Nat.reduceEqDiff,Nat.reduceBEq,reduceIte,Int.reduceEq,Int.reduceLT,Int.reduceLE,reduceCtorEq,g2_1,g2_3,g2_4]<;>rfl),bb2_1,ga2,by omega,(ow_out.low (by omega)),by first|omega|assumption|simp,by first|omega|assumption|simp,hf.symm⟩⟩)
 obtain ⟨rfl,v_out,out,k,ge2_3,be2_1,ge2,gm2,oe_out2,hj2_0,hj2_1,hR2⟩:=hQ2
 obtain rfl:out=R116_0 h h.ways ([]) 0:=hR2.symm
 try simp (disch:=first|omega|assumption) only [E0_G,SY,setArgs,off,agreeKind,partVals,vals,allocV,boxed,ldA,rdCells,oneB,aggD,aField,aFieldV,aExtract,eq_self,ne_eq,if_true,if_false,not_false_eq_true,Nat.reduceAdd,Nat.reduceSub,Nat.reduceMul,Nat.reduceLT,Nat.reduceEqDiff,Nat.reduceBEq,reduceIte,Int.reduceEq,Int.reduceLT,Int.reduceLE,reduceCtorEq,TY_EvH19,ge2_3,be2_1] at hz
 have hr:r116 h=R116_0 h h.ways ([]) 0:=rfl
 exact ⟨v_out,S2e,by first|(rw [hr]; exact hz.symm)|exact hz.symm,ge2,by rw [hr]; exact oe_out2.low (by omega)⟩
end House
end Go.Proofs
end
section
set_option linter.unusedSimpArgs false
set_option linter.unusedVariables false
namespace Go.Proofs
namespace House
open Go Go.RowKit Go.Aev
set_option maxRecDepth 100000
theorem tz54:szOf Tryz.prog 54=some 1:=by kernel_rfl
theorem tt54:inTab Tryz.prog 54=true:=by kernel_rfl
theorem t0_54:zeroOf Tryz.prog 54=some (.slice none 0 0):=by kernel_rfl
theorem ti54:(Tryz.prog.info? 54).map (fun i=>Nat.ble i.bytes 65536)=some true:=by kernel_rfl
theorem tv54:(zeroOf Tryz.prog 54).isSome=true:=by kernel_rfl
theorem tz204:szOf Tryz.prog 204=some 1:=by kernel_rfl
theorem tt204:inTab Tryz.prog 204=true:=by kernel_rfl
theorem t0_204:zeroOf Tryz.prog 204=some (.int .u32 0):=by kernel_rfl
theorem tz207:szOf Tryz.prog 207=some 1:=by kernel_rfl
theorem tt207:inTab Tryz.prog 207=true:=by kernel_rfl
theorem t0_207:zeroOf Tryz.prog 207=some (.int .u64 0):=by kernel_rfl
theorem TY_EvH20:type_of% (And.intro TY_EvH19 (And.intro (And.intro (And.intro Tryz.underlying54 (And.intro tz54 tt54)) (And.intro t0_54 (And.intro Tryz.underlying204 tz204))) (And.intro (And.intro tt204 (And.intro t0_204 Tryz.underlying207)) (And.intro tz207 (And.intro tt207 t0_207))))):=(And.intro TY_EvH19 (And.intro (And.intro (And.intro Tryz.underlying54 (And.intro tz54 tt54)) (And.intro t0_54 (And.intro Tryz.underlying204 tz204))) (And.intro (And.intro tt204 (And.intro t0_204 Tryz.underlying207)) (And.intro tz207 (And.intro tt207 t0_207)))))
theorem shr32 (a:Int):Int.fdiv a (2 ^ (min (Int.toNat 32) IntKind.u64.bits))=Int.fdiv a 4294967296:=rfl
theorem c169 (n:Nat) (hn:n≤1000) (S:AS):(evL Tryz.prog E0).call 169 #[.int .u64 1,.int .u64 (n:Int)] S=some (.tuple #[.int .u64 0,.int .u64 (n:Int)],S):=by
 generalize hz:(evL Tryz.prog E0).call 169 _ _=z
 rw [L_call,evCall_said rfl Tryz.func169 rfl (by decide) Tryz.ntmps169 Tryz.results169] at hz
 simp (disch:=first|omega|assumption) only [E0_G,SY,setArgs,off,agreeKind,Nat.reduceAdd,Nat.reduceSub,Nat.reduceLT,Nat.reduceBEq,Int.reduceLT,shr32] at hz
 rw [← hz]
 simp only [Option.some.injEq,Prod.mk.injEq,Value.tuple.injEq,and_true,Array.mk.injEq,List.cons.injEq,Value.int.injEq,true_and]
 have h:n<1001:=by omega
 clear hz hn z S
 revert n
 decide +kernel
theorem c162 (n:Nat) (hn:n≤1000) (S:AS):(evL Tryz.prog E0).call 162 #[.int .u64 1,.int .u64 (n:Int)] S=some (.tuple #[.int .u64 0,.int .u64 (n:Int)],S):=by
 generalize hz:(evL Tryz.prog E0).call 162 _ _=z
 rw [L_call,evCall_said rfl Tryz.func162 rfl (by decide) Tryz.ntmps162 Tryz.results162] at hz
 simp (disch:=first|omega|assumption) only [E0_G,SY,setArgs,off,agreeKind,vals,aExtract,Nat.reduceAdd,Nat.reduceSub,Nat.reduceLT,Nat.reduceBEq,c169 n hn] at hz
 rw [← hz]
theorem u64n {n:Nat} (h:n≤1000):IntKind.u64.wrap (n:Int)=n:=u64w (by omega)
set_option maxHeartbeats 4000000 in
theorem c149 (x0 : Int) (n : Nat) (hn : 0 < n ∧ n ≤ 1000) (S : AS) (v : Value) (hv : Lst S v [x0]) :
    ∃ v' S',(evL Tryz.prog E0).call 149 #[v,.int .i64 (n : Int)] S = some (v',S') ∧ Agree S S' ∧ Own 3 S.next S' v' (List.replicate n x0) := by
  obtain ⟨p,q,c,rfl⟩ := lst_slice hv
  have hl := hv.len (P := Tryz.prog) (t := 54) Tryz.underlying54
  have g0 : decide ((n : Int) < 0) = false := decide_eq_false (by omega)
  have g1 : decide (9223372036854775807 < (n : Int)) = false := decide_eq_false (by omega)
  have u0 : IntKind.u64.wrap (n : Int) = n := u64n hn.2
  have u1 : IntKind.u64.wrap ((1 : Nat) : Int) = 1 := rfl
  have u2 : IntKind.i64.wrap (n : Int) = n := wr64 (by omega)
  have g2 : decide ((0 : Int) < 0) = false := rfl
  obtain ⟨w,S1,k1,vq,a1,oo⟩ := make_own (P := Tryz.prog) (t := 54) (el := 3) (x0 := (0 : Int)) (n := n) (k := .i64) (k' := .i64) S Tryz.underlying54 ti3 t0_3 rfl tz3 rfl (by omega)
  have hsrc : ∃ id2 off2 cs ty cap wr ex,Value.slice p q c = .slice (some ⟨id2,off2,none⟩) 1 cap ∧ S.heap.get id2 = some (.cells cs ty 1 wr ex) ∧ id2 < S.next ∧ off2 + 1 ≤ cs.length ∧ (cs.drop off2).take 1 = [.int .i64 x0] := by
    rcases hv with ⟨h,_⟩ | ⟨id2,off2,cs,ty,cap,wr,ex,h1,_,h3,h4,h5⟩
    · simp at h
    · have h6 : cs[off2]? = some (.int .i64 x0) := h5 0 x0 rfl 0 (by decide)
      obtain ⟨h7,h8⟩ := List.getElem?_eq_some_iff.1 h6
      refine ⟨id2,off2,cs,ty,cap,wr,ex,h1,h3,h4,by omega,?_⟩
      rw [List.drop_eq_getElem_cons h7,h8]; rfl
  obtain ⟨id2,off2,cs,ty,cap,wr,ex,e0,s1,s2,s3,s4⟩ := hsrc
  obtain ⟨S2,k2,n2,o2,q2⟩ := copy_own (m := [x0]) (w := w) oo (P := Tryz.prog) (t := 54) Tryz.underlying54 tz3 (by decide) (id := S.next) (i := 0) (cap := n) (by rw [vq]; simp) (by rw [vq]; simp) (by simp; omega) e0 (by decide) ((a1.2 _ s2).trans s1)
    (by have : Nat.min 1 ((List.replicate n (0 : Int)).length - 0) = 1 := by rw [List.length_replicate]; exact Nat.min_eq_left (by omega)
        rw [this]; exact s3) (by have : Nat.min 1 ((List.replicate n (0 : Int)).length - 0) = 1 := by rw [List.length_replicate]; exact Nat.min_eq_left (by omega)
                                 rw [this]; rfl)
    (by have : Nat.min 1 ((List.replicate n (0 : Int)).length - 0) = 1 := by rw [List.length_replicate]; exact Nat.min_eq_left (by omega)
        rw [this]; exact s4)
  have m1 : Nat.min 1 ((List.replicate n (0 : Int)).length - 0) = 1 := by rw [List.length_replicate]; exact Nat.min_eq_left (by omega)
  rw [m1] at k2
  subst vq
  have g3 : Agree S S2 := ⟨by have := a1.1; omega,fun id hid => (q2 id (by omega)).trans (a1.2 id hid)⟩
  generalize hz : (evL Tryz.prog E0).call 149 _ _ = z
  rw [L_call,evCall_said rfl Tryz.func149 rfl (by decide) Tryz.ntmps149 Tryz.results149] at hz
  simp (disch:=first|omega|assumption) only [E0_G,SY,setArgs,off,agreeKind,vals,aExtract,Nat.reduceAdd,Nat.reduceSub,Nat.reduceLT,Nat.reduceBEq,Int.reduceLT,TY_EvH20,hl,g0,g1,u0,u1,u2,c162 n hn.2,op_makeSlice,k1,op_copy,k2] at hz
  generalize hL : Rec.loop _ _ _ _ = L at hz
  obtain ⟨x,t,S3,rfl,hQ⟩ := loop_met hL (fun m t S' => ∃ (j : Nat) (l : List Int),m + j = n ∧ 1 ≤ j ∧ l.length = n ∧ l.take j = List.replicate j x0 ∧ t.get 7 = some (.slice (some ⟨S.next,0,none⟩) n n) ∧ t.get 8 = some (.int .i64 (j : Int)) ∧ Own 3 S.next S' (.slice (some ⟨S.next,0,none⟩) n n) l ∧ Agree S S')
    (fun x t S' => x = .exit 0 ∧ t.get 7 = some (.slice (some ⟨S.next,0,none⟩) n n) ∧ Own 3 S.next S' (.slice (some ⟨S.next,0,none⟩) n n) (List.replicate n x0) ∧ Agree S S') (n - 1)
    ⟨1,_,by omega,by omega,by simp; omega,rfl,by simp only [SY,eq_self,Nat.reduceBEq] <;> rfl,by simp only [SY,eq_self,Nat.reduceBEq] <;> rfl,o2,g3⟩ (by
      rintro m t S4 ⟨j,l,j1,j2,j3,j4,t7,t8,o4,g4⟩
      refine .run fun z he => ?_
      have hn4 := (o4.rows).len (P := Tryz.prog) (t := 54) Tryz.underlying54
      rw [j3] at hn4
      simp (disch:=first|omega|assumption) only [E0_G,SY,off,agreeKind,Nat.reduceAdd,Nat.reduceLT,Nat.reduceBEq,t7,t8,hn4] at he
      rcases dP ((j : Int) < (n : Int)) with ⟨h5a,h5⟩ | ⟨h5a,h5⟩
      · obtain ⟨d1,d2,ex4,d3⟩ := o4.lo_at (P := Tryz.prog) (t := 54) Tryz.underlying54 tz3 (i := j) (by omega)
        have d4 := o4.hi_at (P := Tryz.prog) (t := 54) Tryz.underlying54 tz3 (i := j) (by omega) (by omega)
        have mle : Nat.min j (l.length - j) ≤ j := Nat.min_le_left _ _
        have mle2 : Nat.min j (l.length - j) ≤ l.length - j := Nat.min_le_right _ _
        have mpos : 0 < Nat.min j (l.length - j) := by simp only [Nat.min_def]; split <;> omega
        obtain ⟨S5,k5,n5,o5,q5⟩ := copy_own (m := l.take (Nat.min j (l.length - j))) o4 (P := Tryz.prog) (t := 54) (w := .slice (some ⟨S.next,j * Cel.n Int,none⟩) (n - j) (n - j)) (x := .slice (some ⟨S.next,0,none⟩) j n) (i := j) (id := S.next) (cap := n - j) (n2 := j) Tryz.underlying54 tz3 (by decide) (by rw [d2]) (by rw [d2]) (by omega) rfl (by omega) d3
          (by rw [flat_len _ (cells_all l),List.length_map,Nat.zero_add]; exact Nat.mul_le_mul_right _ (by omega)) (by rw [List.length_take]; omega)
          (by rw [List.drop_zero]; exact flat_take l (by omega))
        rw [← d2] at k5
        generalize hk : Nat.min j (n - j) = k at k5
        rw [d2] at hk
        rw [hk] at o5 mle mle2 mpos
        have w5 : IntKind.i64.wrap ((j : Int) + (k : Int)) = ((j + k : Nat) : Int) := by rw [wr64 (by omega)]; omega
        simp (disch:=first|omega|assumption) only [SY,h5a] at he
        rw [code_draws _ _ _ (by kernel_rfl)] at he
        generalize hnd : needy _ = nd at he
        have nn6 : nd 7 = false := by rw [← hnd]; kernel_rfl
        simp (disch:=first|omega|assumption) only [E0_G,SY,agreeKind,Nat.reduceAdd,Nat.reduceLT,Nat.reduceBEq,t7,t8,d1,d4,op_copy,k5,w5,nn6,store_refl E0_same] at he
        refine .next he (m - k) (by omega) ⟨j + k,_,by omega,by omega,?_,?_,by simp only [SY,eq_self,Nat.reduceBEq,t7] <;> rfl,by simp only [SY,eq_self,Nat.reduceBEq] <;> rfl,o5,⟨by have := g4.1; omega,fun id hid => (q5 id (by omega)).trans (g4.2 id hid)⟩⟩
        · simp only [List.length_append,List.length_take,List.length_drop]; omega
        · have hlk : (l.take j ++ l.take k).length = j + k := by simp only [List.length_append,List.length_take]; omega
          have hlen : (l.take k).length = k := by rw [List.length_take]; omega
          rw [hlen,← hlk,List.take_left,hlk,j4]
          have : l.take k = List.replicate k x0 := by
            have := congrArg (List.take k) j4
            rw [List.take_take,List.take_replicate,Nat.min_eq_left (by omega)] at this
            exact this
          rw [this,List.replicate_append_replicate]
      · simp (disch:=first|omega|assumption) only [SY,h5a] at he
        refine .exit he ⟨rfl,by simp only [SY,eq_self,Nat.reduceBEq,t7] <;> rfl,?_,g4⟩
        have hj : j = n := by omega
        rw [hj,take_all l n j3] at j4
        have : l = List.replicate n x0 := j4
        rw [← this]; exact o4)
  obtain ⟨rfl,t7,o6,g6⟩ := hQ
  simp (disch:=first|omega|assumption) only [E0_G,SY,off,agreeKind,eq_self,if_true,Nat.reduceAdd,Nat.reduceLT,Nat.reduceBEq,t7] at hz
  exact ⟨_,S3,hz.symm,g6,o6⟩
end House
end Go.Proofs
end
