import Derived.Test.YtohfdkdjfoonjaaGreatDoorEvH21
set_option linter.unusedSimpArgs false
set_option linter.unusedVariables false
namespace Go.Proofs
namespace House
open Go Go.RowKit Go.Aev
set_option maxRecDepth 100000
theorem TY_EvH22:type_of% TY_EvH21:=TY_EvH21
theorem R116_mem (h:Hs):∀ (m:List Wy) (out:List Gt) (k:Nat),∀ g ∈ R116_0 h m out k,g ∈ out∨∃ w ∈ m,(g.fr=w.a∧g.to=w.b∧g.secs=w.secs∧g.door=w.door)∨(0<w.back∧g.fr=w.b∧g.to=w.a∧g.secs=w.back∧g.door=w.door):=by
 intro m
 induction m with
 | nil=>intro out k g hg; exact .inl hg
 | cons w m ih =>
  intro out k g hg
  rw [R116_0] at hg
  split at hg
  ·rcases ih _ _ g hg with h1|⟨w',hw',h1⟩
   ·rcases List.mem_append.1 h1 with h1|h1
    ·rcases List.mem_append.1 h1 with h1|h1
     ·exact .inl h1
     ·rw [List.mem_singleton.1 h1]; exact .inr ⟨w,by simp,.inl ⟨rfl,rfl,rfl,rfl⟩⟩
    ·rw [List.mem_singleton.1 h1]; exact .inr ⟨w,by simp,.inr ⟨by assumption,rfl,rfl,rfl,rfl⟩⟩
   ·exact .inr ⟨w',by simp [hw'],h1⟩
  ·rcases ih _ _ g hg with h1|⟨w',hw',h1⟩
   ·rcases List.mem_append.1 h1 with h1|h1
    ·exact .inl h1
    ·rw [List.mem_singleton.1 h1]; exact .inr ⟨w,by simp,.inl ⟨rfl,rfl,rfl,rfl⟩⟩
   ·exact .inr ⟨w',by simp [hw'],h1⟩
structure OkR (h:Hs) (g:Gt):Prop where
 ok:OkG h g
 f:0≤g.fr∧g.fr<(h.rooms.length:Int)
 t:0≤g.to∧g.to<(h.rooms.length:Int)
 p:1≤g.secs
theorem r116_ok {h:Hs} (hV:r59 h=0) {g:Gt} (hg:g ∈ r116 h):OkR h g:=by
 rcases R116_mem h h.ways [] 0 g hg with h1|⟨w,hw,h1⟩
 ·simp at h1
 ·have k:=okw hV hw
  have k1:=k.k; have k2:=k.s; have k3:=k.d; have k4:=k.a; have k5:=k.b
  rcases h1 with ⟨e1,e2,e3,e4⟩|⟨e0,e1,e2,e3,e4⟩
  ·exact ⟨⟨hV,by omega,by omega⟩,by omega,by omega,by omega⟩
  ·exact ⟨⟨hV,by omega,by omega⟩,by omega,by omega,by omega⟩
theorem R116_len (h:Hs):∀ (m:List Wy) (out:List Gt) (k:Nat),(R116_0 h m out k).length≤out.length+2 * m.length:=by
 intro m
 induction m with
 | nil=>intro out k; simp [R116_0]
 | cons w m ih =>
  intro out k
  rw [R116_0]
  split
  ·have:=ih ((out++([(⟨(k:Int),w.a,w.b,w.secs,w.door⟩:Gt)]))++([(⟨(k:Int),w.b,w.a,w.back,w.door⟩:Gt)])) (k+1)
   simp only [List.length_append,List.length_cons,List.length_nil] at this ⊢; omega
  ·have:=ih (out++([(⟨(k:Int),w.a,w.b,w.secs,w.door⟩:Gt)])) (k+1)
   simp only [List.length_append,List.length_cons,List.length_nil] at this ⊢; omega
theorem r116_len (h:Hs):(r116 h).length≤2 * h.ways.length:=by
 have:=R116_len h h.ways [] 0
 simpa [r116] using this
theorem r99_ge {h:Hs} {g:Gt} (hG:OkG h g) {t:Int} (ht:0≤t∧t≤1073741823):t≤r99 h g t∧r99 h g t≤1073741824:=by
 have hs:=hG.s; have hd:=hG.d
 unfold r99
 split
 ·have:=r90_ge (oko hG.v (List.mem_of_getElem? (lget_some (l:=h.doors) (i:=Int.toNat g.door) (by omega)))) ht
  omega
 ·omega
theorem lget_set_le' {l:List Int} {i j:Nat} {x c:Int} (h:lget l i≤c) (hx:x≤lget l j):lget (l.set j x) i≤c:=by
 by_cases e:x=lget l j
 ·subst e
  by_cases hj:j<l.length
  ·rw [show l.set j (lget l j)=l from by rw [show lget l j=l[j] from lget_of (List.getElem?_eq_getElem hj),List.set_getElem_self]]; exact h
  ·rw [List.set_eq_of_length_le (by omega)]; exact h
 ·exact lget_set_le h (by omega)
theorem lget_set_ge {l:List Int} {i j:Nat} {x c:Int} (h:c≤lget l i) (hx:lget l j≤x) (hj:j<l.length):c≤lget (l.set j x) i:=by
 unfold lget at *
 rw [List.getD_eq_getElem?_getD] at *
 rw [List.getElem?_set]
 by_cases e:j=i
 ·subst e
  rw [if_pos rfl,if_pos hj]
  simp only [Option.getD_some]; omega
 ·rw [if_neg e]; exact h
structure Dm (n:Nat) (l:List Int):Prop where
 len:l.length=n
 all:∀ x ∈ l,-1≤x∧x≤1073741823
theorem Dm.set {n:Nat} {l:List Int} (h:Dm n l) (i:Nat) {x:Int} (hx : -1≤x∧x≤1073741823):Dm n (l.set i x):=⟨by rw [List.length_set]; exact h.len,fun y hy=>(List.mem_or_eq_of_mem_set hy).elim (h.all y) (fun e=>e ▸ hx)⟩
theorem Dm.at {n:Nat} {l:List Int} (h:Dm n l) {i:Nat} {x:Int} (hx:l[i]?=some x) : -1≤x∧x≤1073741823:=h.all x (List.mem_of_getElem? hx)
def Hd (times:List Int) (left:List Bool) (here:Int):Prop:=here = -1∨0≤here∧here<(times.length:Int)∧0≤lget times here.toNat∧lget left here.toNat=false
theorem Hd.init (times:List Int) (left:List Bool):Hd times left (-1):=.inl rfl
theorem Hd.at {times:List Int} {left:List Bool} {k:Nat} {x:Int} (hk:k<times.length) (hx:times[k]?=some x) (h:0≤x) (hl:¬ lget left k=true):Hd times left (k:Int) :=
 .inr ⟨by omega,by omega,by rw [Int.toNat_natCast,lget_of hx]; exact h,by rw [Int.toNat_natCast]; simpa using hl⟩
theorem Hd.get {times:List Int} {left:List Bool} {here:Int} (h:Hd times left here) (h0:¬ here<0):0≤here∧here<(times.length:Int)∧0≤lget times here.toNat∧lget left here.toNat=false:=by
 rcases h with rfl|h
 ·omega
 ·exact h
theorem Tm.nil:Tm 0 []:=⟨rfl,fun x hx=>by simp at hx⟩
theorem Tm.push {n:Nat} {l:List Int} (h:Tm n l) {x:Int} (hx:0≤x∧x≤1073741824):Tm (n+1) (l++[x]):=⟨by rw [List.length_append,h.len]; rfl,fun y hy=>(List.mem_append.1 hy).elim (h.all y) (fun e=>(List.mem_singleton.1 e) ▸ hx)⟩
theorem Dm.nil:Dm 0 []:=⟨rfl,fun x hx=>by simp at hx⟩
theorem Dm.push {n:Nat} {l:List Int} (h:Dm n l) {x:Int} (hx : -1≤x∧x≤1073741823):Dm (n+1) (l++[x]):=⟨by rw [List.length_append,h.len]; rfl,fun y hy=>(List.mem_append.1 hy).elim (h.all y) (fun e=>(List.mem_singleton.1 e) ▸ hx)⟩
theorem Dm.rep (n:Nat) {x:Int} (hx : -1≤x∧x≤1073741823):Dm n (List.replicate n x):=⟨List.length_replicate,fun y hy=>(List.eq_of_mem_replicate hy) ▸ hx⟩
def R50_0 (h:Hs) (fr:Int) (ti:Int)  : List Rm→List Int→List Bool→(List Int) × (List Bool)
 | [],out,done=>(out,done)
 | _x :: l',out,done=>R50_0 h fr ti l' (out++([1073741824])) (done++([false]))
def R50_2 (h:Hs) (fr:Int) (ti:Int) (out1:List Int) (done1:List Bool) (nv:Nat):List Int→Int→Nat→Int
 | [],at_,iv=>at_
 | x49 :: l',at_,iv=>(if (lget done1 iv)=true then R50_2 h fr ti out1 done1 nv l' at_ (iv+1) else (if x49<1073741824 then (if at_<0 then R50_2 h fr ti out1 done1 nv l' (iv:Int) (iv+1) else (if x49<(lget out1 (Int.toNat (max at_ 0))) then R50_2 h fr ti out1 done1 nv l' (iv:Int) (iv+1) else R50_2 h fr ti out1 done1 nv l' at_ (iv+1))) else R50_2 h fr ti out1 done1 nv l' at_ (iv+1)))
def R50_3 (h:Hs) (fr:Int) (ti:Int) (out1:List Int) (done1:List Bool) (nv:Nat):List Gt→List Int→(List Int)
 | [],out2=>out2
 | x77 :: l',out2=>(if x77.fr=(R50_2 h fr ti out1 done1 nv out1 (-1) 0) then R50_3 h fr ti out1 done1 nv l' (out2.set (Int.toNat x77.to) (min (lget out2 (Int.toNat x77.to)) (r99 h x77 (lget out2 (Int.toNat (R50_2 h fr ti out1 done1 nv out1 (-1) 0)))))) else R50_3 h fr ti out1 done1 nv l' out2)
def R50_1 (h:Hs) (fr:Int) (ti:Int)  : List Rm→List Int→List Bool→Nat→Sum ((List Int)) ((List Int))
 | [],out1,done1,nv=>.inr out1
 | _x :: l',out1,done1,nv=>(if (R50_2 h fr ti out1 done1 nv out1 (-1) 0)<0 then .inl out1 else R50_1 h fr ti l' (R50_3 h fr ti out1 done1 nv (r116 h) out1) (done1.set (Int.toNat (R50_2 h fr ti out1 done1 nv out1 (-1) 0)) true) (nv+1))
def r50 (h:Hs) (fr:Int) (ti:Int):List Int:=(onSum (R50_1 h fr ti h.rooms (((R50_0 h fr ti h.rooms ([]) ([])).1).set (Int.toNat fr) ti) ((R50_0 h fr ti h.rooms ([]) ([])).2) 0) (fun (r6:(List Int))=>r6) (fun (out1:(List Int))=>out1))
set_option maxHeartbeats 8000000 in
theorem c50 (h:Hs) (fr:Int) (ti:Int) (hF:Few h) (hV:r59 h=0) (hf:0≤fr∧fr<(h.rooms.length:Int)) (ht:0≤ti∧ti≤1073741823) (S:AS) (v_h_rooms:Value) (hv_h_rooms:LstR S v_h_rooms h.rooms) (v_h_doors:Value) (hv_h_doors:LstR S v_h_doors h.doors) (v_h_ways:Value) (hv_h_ways:Lst S v_h_ways h.ways) :
  ∃ v' S',(evL Tryz.prog E0).call 50 #[.agg #[v_h_rooms,v_h_doors,v_h_ways],.int .i64 fr,.int .i64 ti] S=some (v',S')∧Agree S S'∧Own 3 S.next S' v' (r50 h fr ti):=by
 have qr:=hF.r; have qd:=hF.d; have qw:=hF.w; have hgl:=r116_len h
 have q0:∀ (m:List Rm) (o:List Int) (d:List Bool),R50_0 h fr ti m o d=(o++List.replicate m.length 1073741824,d++List.replicate m.length false):=by
  intro m
  induction m with
  | nil=>intro o d; simp [R50_0]
  | cons x m ih=>intro o d; rw [R50_0,ih]; simp [List.replicate_succ]
 have q1:((R50_0 h fr ti h.rooms ([]) ([])).1).length=h.rooms.length:=by rw [q0]; simp
 have q2:((R50_0 h fr ti h.rooms ([]) ([])).2).length=h.rooms.length:=by rw [q0]; simp
 have q3:Tm h.rooms.length ((R50_0 h fr ti h.rooms ([]) ([])).1):=by rw [q0]; exact Tm.rep _ (by decide)
 generalize hz:(evL Tryz.prog E0).call 50 _ _=z
 rw [L_call,evCall_said rfl Tryz.func50 rfl (by decide) Tryz.ntmps50 Tryz.results50] at hz
 obtain ⟨S1,e1,n1,b1,a1⟩:=push_open S (.cells [v_h_rooms,v_h_doors,v_h_ways] 26 0 true true)
 have g1:Agree S S1:=a1
 have s1:E0.same S S1=true:=symEnv_same a1
 try simp only [E0_G,SY,setArgs,off,agreeKind,boxed,Nat.reduceAdd,Nat.reduceSub,Nat.reduceLT,Nat.reduceBEq,e1] at hz
 generalize hL2:Rec.loop _ _ _ _=L2 at hz
 obtain ⟨x2,t2,S2e,rfl,hQ2⟩:=loop_met hL2 (fun m t S'=>∃ (v_out:Value) (out:List Int) (v_done:Value) (done:List Bool) (kv:Nat),m+kv=h.rooms.length∧out.length=kv∧done.length=kv∧Tm kv out∧kv≤h.rooms.length∧t.get 1=some (.int .i64 fr)∧t.get 2=some (.int .i64 ti)∧t.get 3=some (.pointer (some ⟨S.next,0,none⟩))∧t.get 7=some (v_out)∧t.get 8=some (v_done)∧t.get 9=some (.int .i64 (kv:Int))∧S'.heap.get S.next=some (.cells [v_h_rooms,v_h_doors,v_h_ways] 26 0 true true)∧Agree S S'∧S1.next≤S'.next∧Own 3 S1.next S' v_out out∧Own 4 S1.next S' v_done done∧(∀ b,blkOf v_out=some b→blkOf v_done≠some b)∧R50_0 h fr ti (h.rooms.drop kv) out done=R50_0 h fr ti h.rooms ([]) ([]))
  (fun x t S'=>x=.exit 0∧∃ (v_out:Value) (out:List Int) (v_done:Value) (done:List Bool) (kv:Nat),t.get 1=some (.int .i64 fr)∧t.get 2=some (.int .i64 ti)∧t.get 3=some (.pointer (some ⟨S.next,0,none⟩))∧t.get 7=some (v_out)∧t.get 8=some (v_done)∧S'.heap.get S.next=some (.cells [v_h_rooms,v_h_doors,v_h_ways] 26 0 true true)∧Agree S S'∧S1.next≤S'.next∧Own 3 S1.next S' v_out out∧Own 4 S1.next S' v_done done∧(∀ b,blkOf v_out=some b→blkOf v_done≠some b)∧out.length=kv∧done.length=kv∧Tm kv out∧kv≤h.rooms.length∧R50_0 h fr ti h.rooms ([]) ([])=(out,done)) (h.rooms.length - 0) (by refine ⟨.slice none 0 0,[],.slice none 0 0,[],0,?_,?_,?_,?_,?_,?_,?_,?_,?_,?_,?_,b1,g1,Nat.le_refl _,Own.nil _ _ _,Own.nil _ _ _,(fun b hb=>by simp [blkOf]),rfl⟩<;>first|(simp only [SY,eq_self,Nat.reduceBEq]<;>rfl)|omega|assumption|assumption|exact Tm.set (by assumption) _ (by omega)|exact Tm.set (Tm.rep _ (by decide)) _ (by omega)|exact Hr.init _ _|exact Hr.at (by omega) (by assumption) (by omega) (by assumption)|exact (Hr.get (by assumption) (by assumption)).2.2.1|exact lget_set_le' (by assumption) (by omega)|exact Tm.push (by assumption) (by decide)|exact Tm.nil|(simp; omega)|simp) (by
   rintro m t S2 ⟨v_out,out,v_done,done,kv,hi2_0,hi2_1,hi2_2,hi2_3,hi2_4,g2_1,g2_2,g2_3,g2_7,g2_8,g2_9,bb2_1,ga2,gn2,ow_out,ow_done,pr2_0,hd2⟩
   refine .run fun z he=>?_
   have w3:=(hv_h_rooms.agree ga2).len (P:=Tryz.prog) (t:=22) Tryz.underlying22
   try simp (disch:=first|omega|assumption) only [E0_G,SY,off,agreeKind,ldA,aggD,aField,Nat.reduceAdd,Nat.reduceLT,Nat.reduceBEq,TY_EvH22,g2_3,g2_9,bb2_1,w3] at he
   rcases dP ((kv:Int)<(h.rooms.length:Int)) with ⟨h4a,h4⟩|⟨h4a,h4⟩
   ·have y5:aBuildSlice Tryz.prog 54 1 [(0,.int .i64 1073741824)] S2=some (.slice (some ⟨S2.next,0,none⟩) 1 1,S2.push (.cells [.int .i64 1073741824] 3 1 true true)):=by kernel_rfl
    obtain ⟨S6,e6,n6,b6,a6⟩:=push_open S2 (.cells [.int .i64 1073741824] 3 1 true true)
    have v1_6:=(a6.2 S.next (by omega)).trans bb2_1
    have ow_7:=ow_out.agree a6
    have ow_8:=ow_done.agree a6
    have g6:Agree S S6:=ga2.trans a6
    have s6:E0.same S2 S6=true:=symEnv_same a6
    have ne9:blkOf (v_out)≠some S2.next:=ow_out.new (Nat.le_refl _)
    have ne10:blkOf (v_done)≠some S2.next:=ow_done.new (Nat.le_refl _)
    have o11:Own 3 S2.next S6 (.slice (some ⟨S2.next,0,none⟩) 1 1) ([1073741824]:List Int):=.inr ⟨_,true,rfl,Nat.le_refl _,by omega,b6⟩
    have ap12:∀ b,blkOf (v_out)=some b→blkOf (.slice (some ⟨S2.next,0,none⟩) 1 1)≠some b:=fun b hb=>o11.ne (Nat.lt_of_lt_of_le (ow_out.lt hb) (by omega))
    have ap13:∀ b,blkOf (v_done)=some b→blkOf (.slice (some ⟨S2.next,0,none⟩) 1 1)≠some b:=fun b hb=>o11.ne (Nat.lt_of_lt_of_le (ow_done.lt hb) (by omega))
    obtain ⟨u14,S14,k14,o14,n14,f14,d14⟩:=own_append (P:=Tryz.prog) (t:=54) (tx:=54) (n:=0) (v:=v_out) ow_7 (o11.rows) (by omega) (by first|omega|(simp; omega)|simp) (by first|omega|(simp; omega)|simp) Tryz.underlying54 Tryz.underlying54 ti3 tv3 rfl tz3
    have v1_14:=(f14 S.next (by omega) (by first|(simp [blkOf]; done)|exact ow_7.ne (by omega)|exact ow_7.new (by omega)|assumption)).trans v1_6
    have apow_15:∀ b,blkOf (v_done)=some b→blkOf u14≠some b:=fun b hb=>d14 b (ow_8.lt hb) ((fun b h1 h2=>pr2_0 b h2 h1) b hb)
    have ow_15:=ow_8.frame n14 (fun id hid hb=>f14 id hid ((fun b h1 h2=>pr2_0 b h2 h1) id hb))
    have apo11_16:∀ b,blkOf (.slice (some ⟨S2.next,0,none⟩) 1 1)=some b→blkOf u14≠some b:=fun b hb=>d14 b (o11.lt hb) ((fun b h1 h2=>ap12 b h2 h1) b hb)
    have o11_16:=o11.frame n14 (fun id hid hb=>f14 id hid ((fun b h1 h2=>ap12 b h2 h1) id hb))
    have g14:Agree S S14:=⟨Nat.le_trans (g6).1 n14,fun id hid=>(f14 id (by have:=(g6).1; omega) (by first|(simp [blkOf]; done)|exact ow_7.ne (by omega)|assumption)).trans ((g6).2 id hid)⟩
    have ne17:blkOf u14≠some S.next:=by first|exact o14.ne (by omega)|exact o14.new (by omega)|exact d14 _ (by omega) (by first|(simp [blkOf]; done)|exact ow_7.ne (by omega)|exact ow_7.new (by omega)|assumption)
    have y18:aBuildSlice Tryz.prog 148 1 [(0,.bool false)] S14=some (.slice (some ⟨S14.next,0,none⟩) 1 1,S14.push (.cells [.bool false] 4 1 true true)):=by kernel_rfl
    obtain ⟨S19,e19,n19,b19,a19⟩:=push_open S14 (.cells [.bool false] 4 1 true true)
    have v1_19:=(a19.2 S.next (by omega)).trans v1_14
    have o14_20:=o14.agree a19
    have ow_21:=ow_15.agree a19
    have o11_22:=o11_16.agree a19
    have g19:Agree S S19:=g14.trans a19
    have s19:E0.same S14 S19=true:=symEnv_same a19
    have ne23:blkOf (u14)≠some S14.next:=o14.new (Nat.le_refl _)
    have ne24:blkOf (v_done)≠some S14.next:=ow_15.new (Nat.le_refl _)
    have ne25:blkOf (.slice (some ⟨S2.next,0,none⟩) 1 1)≠some S14.next:=o11_16.new (Nat.le_refl _)
    have o26:Own 4 S14.next S19 (.slice (some ⟨S14.next,0,none⟩) 1 1) ([false]:List Bool):=.inr ⟨_,true,rfl,Nat.le_refl _,by omega,b19⟩
    have ap27:∀ b,blkOf (u14)=some b→blkOf (.slice (some ⟨S14.next,0,none⟩) 1 1)≠some b:=fun b hb=>o26.ne (Nat.lt_of_lt_of_le (o14.lt hb) (by omega))
    have ap28:∀ b,blkOf (v_done)=some b→blkOf (.slice (some ⟨S14.next,0,none⟩) 1 1)≠some b:=fun b hb=>o26.ne (Nat.lt_of_lt_of_le (ow_15.lt hb) (by omega))
    have ap29:∀ b,blkOf (.slice (some ⟨S2.next,0,none⟩) 1 1)=some b→blkOf (.slice (some ⟨S14.next,0,none⟩) 1 1)≠some b:=fun b hb=>o26.ne (Nat.lt_of_lt_of_le (o11_16.lt hb) (by omega))
    obtain ⟨u30,S30,k30,o30,n30,f30,d30⟩:=own_append (P:=Tryz.prog) (t:=148) (tx:=148) (n:=0) (v:=v_done) ow_21 (o26.rows) (by omega) (by first|omega|(simp; omega)|simp) (by first|omega|(simp; omega)|simp) Tryz.underlying148 Tryz.underlying148 ti4 tv4 rfl tz4
    have v1_30:=(f30 S.next (by omega) (by first|(simp [blkOf]; done)|exact ow_21.ne (by omega)|exact ow_21.new (by omega)|assumption)).trans v1_19
    have apo14_31:∀ b,blkOf (u14)=some b→blkOf u30≠some b:=fun b hb=>d30 b (o14_20.lt hb) ((fun b h1 h2=>apow_15 b h2 h1) b hb)
    have o14_31:=o14_20.frame n30 (fun id hid hb=>f30 id hid ((fun b h1 h2=>apow_15 b h2 h1) id hb))
    have apo11_32:∀ b,blkOf (.slice (some ⟨S2.next,0,none⟩) 1 1)=some b→blkOf u30≠some b:=fun b hb=>d30 b (o11_22.lt hb) ((fun b h1 h2=>ap13 b h2 h1) b hb)
    have o11_32:=o11_22.frame n30 (fun id hid hb=>f30 id hid ((fun b h1 h2=>ap13 b h2 h1) id hb))
    have apo26_33:∀ b,blkOf (.slice (some ⟨S14.next,0,none⟩) 1 1)=some b→blkOf u30≠some b:=fun b hb=>d30 b (o26.lt hb) ((fun b h1 h2=>ap28 b h2 h1) b hb)
    have o26_33:=o26.frame n30 (fun id hid hb=>f30 id hid ((fun b h1 h2=>ap28 b h2 h1) id hb))
    have g30:Agree S S30:=⟨Nat.le_trans (g19).1 n30,fun id hid=>(f30 id (by have:=(g19).1; omega) (by first|(simp [blkOf]; done)|exact ow_21.ne (by omega)|assumption)).trans ((g19).2 id hid)⟩
    have ne34:blkOf u30≠some S.next:=by first|exact o30.ne (by omega)|exact o30.new (by omega)|exact d30 _ (by omega) (by first|(simp [blkOf]; done)|exact ow_21.ne (by omega)|exact ow_21.new (by omega)|assumption)
    have w35:IntKind.i64.wrap ((kv:Int)+1)=((kv+1:Nat):Int):=by rw [IntWalk.i64_in]<;>omega
    try simp only [E0_G,SY,off,agreeKind,partVals,Nat.reduceAdd,Nat.reduceLT,Nat.reduceBEq,g2_7,g2_8,g2_9,h4a,y5,e6,k14,y18,e19,k30,w35] at he
    rw [drop_cons' (List.getElem?_eq_getElem (show kv<_ by omega))] at hd2
    have hf:=(show _=(R50_0 h fr ti (h.rooms.drop (kv+1)) (out++([1073741824])) (done++([false])):(List Int) × (List Bool)) from rfl).symm.trans hd2
    refine .next he (m - 1) (by omega) ⟨u14,out++([1073741824]),u30,done++([false]),(kv+1),?_,?_,?_,?_,?_,?_,?_,?_,?_,?_,?_,v1_30,g30,by omega,(o14_31.low (by omega)),(o30.low (by omega)),apo14_31,hf⟩<;>first|(simp only [SY,eq_self,Nat.reduceBEq,g2_1,g2_2,g2_3,g2_7,g2_8,g2_9]<;>rfl)|omega|assumption|assumption|exact Tm.set (by assumption) _ (by omega)|exact Tm.set (Tm.rep _ (by decide)) _ (by omega)|exact Hr.init _ _|exact Hr.at (by omega) (by assumption) (by omega) (by assumption)|exact (Hr.get (by assumption) (by assumption)).2.2.1|exact lget_set_le' (by assumption) (by omega)|exact Tm.push (by assumption) (by decide)|exact Tm.nil|(simp; omega)|simp
   try simp only [SY,h4a] at he
   rw [List.drop_eq_nil_of_le (show h.rooms.length≤kv by omega)] at hd2
   have hf:=(show _=((out,done):(List Int) × (List Bool)) from rfl).symm.trans hd2
   refine .exit he ⟨rfl,⟨v_out,out,v_done,done,kv,?_,?_,?_,?_,?_,bb2_1,ga2,by omega,(ow_out.low (by omega)),(ow_done.low (by omega)),pr2_0,?_,?_,?_,?_,hf.symm⟩⟩<;>first|(simp only [SY,eq_self,Nat.reduceBEq,g2_1,g2_2,g2_3,g2_7,g2_8]<;>rfl)|omega|assumption|assumption|exact Tm.set (by assumption) _ (by omega)|exact Tm.set (Tm.rep _ (by decide)) _ (by omega)|exact Hr.init _ _|exact Hr.at (by omega) (by assumption) (by omega) (by assumption)|exact (Hr.get (by assumption) (by assumption)).2.2.1|exact lget_set_le' (by assumption) (by omega)|exact Tm.push (by assumption) (by decide)|exact Tm.nil|(simp; omega)|simp)
 obtain ⟨rfl,v_out,out,v_done,done,kv,ge2_1,ge2_2,ge2_3,ge2_7,ge2_8,be2_1,ge2,gm2,oe_out2,oe_done2,pe2_0,hj2_0,hj2_1,hj2_2,hj2_3,hR2⟩:=hQ2
 obtain rfl:out=(R50_0 h fr ti h.rooms ([]) ([])).1:=by rw [hR2]
 obtain rfl:done=(R50_0 h fr ti h.rooms ([]) ([])).2:=by rw [hR2]
 have qz37:((Int.toNat fr:Nat):Int)=fr:=Int.toNat_of_nonneg (by first|omega|simp; omega)
 have hx38:((R50_0 h fr ti h.rooms ([]) ([])).1)[(Int.toNat fr)]?=some (lget ((R50_0 h fr ti h.rooms ([]) ([])).1) (Int.toNat fr)):=lget_some (by first|omega|simp; omega)
 obtain ⟨id38,of38,cc38,ty38,wr38,ex38,i38,j38,l38,q38,lb38,bk38,oq38⟩:=oe_out2.at4 (P:=Tryz.prog) (t:=54) Tryz.underlying54 tz3 hx38
 have m38_0:cc38[of38]?=some (.int .i64 (lget ((R50_0 h fr ti h.rooms ([]) ([])).1) (Int.toNat fr))):=q38 0 (show 0<1 by decide)
 rw [qz37] at i38
 obtain ⟨S39,k39,n39,o39,q39⟩:=oe_out2.put1 (P:=Tryz.prog) (lget_some (l:=(R50_0 h fr ti h.rooms ([]) ([])).1) (by first|omega|simp; omega)) bk38 oq38 3 (.int .i64 ti) 0 ti tz3 rfl rfl (by decide) rfl
 replace k39:stA Tryz.prog 3 ⟨id38,of38,none⟩ (.int .i64 ti) S2e=some S39:=k39
 have v1_39:=(q39 S.next (fun e=>(show blkOf (v_out)≠some S.next from by first|exact oe_out2.ne (by omega)|exact oe_out2.new (by omega)|assumption) (e ▸ bk38))).trans be2_1
 have oe_40:=oe_done2.frame (by omega) (fun id hid hb=>q39 id (fun e=>(fun b h1 h2=>pe2_0 b h2 h1) id hb (e ▸ bk38)))
 have g39:Agree S S39:=⟨by have:=(ge2).1; omega,fun id hid=>(q39 id (fun e=>(show blkOf (v_out)≠some id from oe_out2.ne (by omega)) (e ▸ bk38))).trans ((ge2).2 id hid)⟩
 obtain ⟨u41,S41,k41,a41,oo41⟩:=c116 h hF S39 (v_h_rooms) (hv_h_rooms.agree g39) (v_h_doors) (hv_h_doors.agree g39) (v_h_ways) (hv_h_ways.agree g39)
 have l41:=a41.1
 obtain ⟨pu41,nu41,cu41,rfl⟩:=own_slice oo41
 have ap42:∀ b,blkOf (v_out)=some b→blkOf (.slice pu41 nu41 cu41)≠some b:=fun b hb=>oo41.ne (Nat.lt_of_lt_of_le (o39.lt hb) (by omega))
 have ap43:∀ b,blkOf (v_done)=some b→blkOf (.slice pu41 nu41 cu41)≠some b:=fun b hb=>oo41.ne (Nat.lt_of_lt_of_le (oe_40.lt hb) (by omega))
 have s41:E0.same S39 S41=true:=symEnv_same a41
 have v1_41:=(a41.2 S.next (by omega)).trans v1_39
 have o39_44:=o39.agree a41
 have oe_45:=oe_40.agree a41
 have g41:Agree S S41:=g39.trans a41
 try simp only [E0_G,SY,off,agreeKind,vals,ldA,rdCells,aggD,eq_self,if_true,Nat.reduceAdd,Nat.reduceLT,Nat.reduceBEq,TY_EvH22,ge2_1,ge2_2,ge2_3,ge2_7,i38,v1_39,k39,k41] at hz
 generalize hL46:Rec.loop _ _ _ _=L46 at hz
 obtain ⟨x46,t46,S46e,rfl,hQ46⟩:=loop_met hL46 (fun m t S'=>∃ (out1:List Int) (done1:List Bool) (nv:Nat),m+nv=h.rooms.length∧out1.length=h.rooms.length∧done1.length=h.rooms.length∧Tm h.rooms.length out1∧nv≤h.rooms.length∧t.get 3=some (.pointer (some ⟨S.next,0,none⟩))∧t.get 7=some (v_out)∧t.get 8=some (v_done)∧t.get 10=some (.slice pu41 nu41 cu41)∧t.get 11=some (.int .i64 (nv:Int))∧S'.heap.get S.next=some (.cells [v_h_rooms,v_h_doors,v_h_ways] 26 0 true true)∧Agree S S'∧S41.next≤S'.next∧Own 3 S1.next S' v_out out1∧Own 4 S1.next S' v_done done1∧Own 128 S39.next S' (.slice pu41 nu41 cu41) (r116 h)∧R50_1 h fr ti (h.rooms.drop nv) out1 done1 nv=R50_1 h fr ti h.rooms (((R50_0 h fr ti h.rooms ([]) ([])).1).set (Int.toNat fr) ti) ((R50_0 h fr ti h.rooms ([]) ([])).2) 0)
  (fun x t S'=>(x=.exit 2∧∃ (out1:List Int) (done1:List Bool) (nv:Nat),t.get 7=some (v_out)∧S'.heap.get S.next=some (.cells [v_h_rooms,v_h_doors,v_h_ways] 26 0 true true)∧Agree S S'∧S41.next≤S'.next∧Own 3 S1.next S' v_out out1∧Own 4 S1.next S' v_done done1∧Own 128 S39.next S' (.slice pu41 nu41 cu41) (r116 h)∧out1.length=h.rooms.length∧done1.length=h.rooms.length∧Tm h.rooms.length out1∧nv≤h.rooms.length∧R50_1 h fr ti h.rooms (((R50_0 h fr ti h.rooms ([]) ([])).1).set (Int.toNat fr) ti) ((R50_0 h fr ti h.rooms ([]) ([])).2) 0=.inr out1)∨(x=.ret∧∃ (r6:List Int) (vr6:Value),t.get 6=some vr6∧Own 3 S.next S' vr6 r6∧Agree S S'∧R50_1 h fr ti h.rooms (((R50_0 h fr ti h.rooms ([]) ([])).1).set (Int.toNat fr) ti) ((R50_0 h fr ti h.rooms ([]) ([])).2) 0=.inl (r6))) (h.rooms.length - 0) (by refine ⟨(((R50_0 h fr ti h.rooms ([]) ([])).1).set (Int.toNat fr) ti),((R50_0 h fr ti h.rooms ([]) ([])).2),0,?_,?_,?_,?_,?_,?_,?_,?_,?_,?_,v1_41,g41,Nat.le_refl _,o39_44,oe_45,oo41,rfl⟩<;>first|(simp only [SY,eq_self,Nat.reduceBEq,ge2_3,ge2_7,ge2_8]<;>rfl)|omega|assumption|assumption|exact Tm.set (by assumption) _ (by omega)|exact Tm.set (Tm.rep _ (by decide)) _ (by omega)|exact Hr.init _ _|exact Hr.at (by omega) (by assumption) (by omega) (by assumption)|exact (Hr.get (by assumption) (by assumption)).2.2.1|exact lget_set_le' (by assumption) (by omega)|exact Tm.push (by assumption) (by decide)|exact Tm.nil|(simp; omega)|simp) (by
   rintro m t S46 ⟨out1,done1,nv,hi46_0,hi46_1,hi46_2,hi46_3,hi46_4,g46_3,g46_7,g46_8,g46_10,g46_11,bb46_1,ga46,gn46,ow_out1,ow_done1,cw46_0,hd46⟩
   refine .run fun z he=>?_
   have w47:=(hv_h_rooms.agree ga46).len (P:=Tryz.prog) (t:=22) Tryz.underlying22
   try simp (disch:=first|omega|assumption) only [E0_G,SY,off,agreeKind,ldA,aggD,aField,Nat.reduceAdd,Nat.reduceLT,Nat.reduceBEq,TY_EvH22,g46_3,g46_11,bb46_1,w47] at he
   rcases dP ((nv:Int)<(h.rooms.length:Int)) with ⟨h48a,h48⟩|⟨h48a,h48⟩
   ·try simp only [E0_G,SY,off,agreeKind,Nat.reduceLT,h48a] at he
    generalize hL49:Rec.loop _ _ _ _=L49 at he
    obtain ⟨x49,t49,S49e,rfl,hQ49⟩:=loop_met hL49 (fun m t S'=>∃ (at_:Int) (iv:Nat),m+iv=out1.length∧Hr out1 done1 at_ ∧ -1≤at_∧at_<(h.rooms.length:Int)∧iv≤out1.length∧t.get 3=some (.pointer (some ⟨S.next,0,none⟩))∧t.get 7=some (v_out)∧t.get 8=some (v_done)∧t.get 10=some (.slice pu41 nu41 cu41)∧t.get 11=some (.int .i64 (nv:Int))∧t.get 12=some (.int .i64 at_)∧t.get 13=some (.int .i64 (iv:Int))∧S'.heap.get S.next=some (.cells [v_h_rooms,v_h_doors,v_h_ways] 26 0 true true)∧Agree S S'∧S46.next≤S'.next∧Own 3 S1.next S' v_out out1∧Own 4 S1.next S' v_done done1∧Own 128 S39.next S' (.slice pu41 nu41 cu41) (r116 h)∧R50_2 h fr ti out1 done1 nv (out1.drop iv) at_ iv=R50_2 h fr ti out1 done1 nv out1 (-1) 0)
     (fun x t S'=>x=.exit 4∧∃ (at_:Int) (iv:Nat),t.get 3=some (.pointer (some ⟨S.next,0,none⟩))∧t.get 7=some (v_out)∧t.get 8=some (v_done)∧t.get 10=some (.slice pu41 nu41 cu41)∧t.get 11=some (.int .i64 (nv:Int))∧t.get 12=some (.int .i64 at_)∧S'.heap.get S.next=some (.cells [v_h_rooms,v_h_doors,v_h_ways] 26 0 true true)∧Agree S S'∧S46.next≤S'.next∧Own 3 S1.next S' v_out out1∧Own 4 S1.next S' v_done done1∧Own 128 S39.next S' (.slice pu41 nu41 cu41) (r116 h)∧Hr out1 done1 at_ ∧ -1≤at_∧at_<(h.rooms.length:Int)∧iv≤out1.length∧R50_2 h fr ti out1 done1 nv out1 (-1) 0=at_) (out1.length - 0) (by refine ⟨-1,0,?_,?_,?_,?_,?_,?_,?_,?_,?_,?_,?_,?_,bb46_1,ga46,Nat.le_refl _,ow_out1,ow_done1,cw46_0,rfl⟩<;>first|(simp only [SY,eq_self,Nat.reduceBEq,Int.reduceLE,g46_3,g46_7,g46_8,g46_10,g46_11]<;>rfl)|omega|assumption|assumption|exact Tm.set (by assumption) _ (by omega)|exact Tm.set (Tm.rep _ (by decide)) _ (by omega)|exact Hr.init _ _|exact Hr.at (by omega) (by assumption) (by omega) (by assumption)|exact (Hr.get (by assumption) (by assumption)).2.2.1|exact lget_set_le' (by assumption) (by omega)|exact Tm.push (by assumption) (by decide)|exact Tm.nil|(simp; omega)|simp) (by
      rintro m t S49 ⟨at_,iv,hi49_0,hi49_1,hi49_2,hi49_3,hi49_4,g49_3,g49_7,g49_8,g49_10,g49_11,g49_12,g49_13,bb49_1,ga49,gn49,cw49_0,cw49_1,cw49_2,hd49⟩
      refine .run fun z he=>?_
      have w50:=(cw49_0.rows).len (P:=Tryz.prog) (t:=54) Tryz.underlying54
      try simp only [E0_G,SY,off,agreeKind,Nat.reduceAdd,Nat.reduceLT,Nat.reduceBEq,g49_7,g49_13,w50] at he
      rcases dP ((iv:Int)<(out1.length:Int)) with ⟨h51a,h51⟩|⟨h51a,h51⟩
      ·try simp only [SY,h51a] at he
       rw [code_draws _ _ _ (by kernel_rfl)] at he
       generalize hnd52:needy _=nd52 at he
       have hx53:done1[iv]?=some (lget done1 iv):=lget_some (by first|omega|simp; omega)
       obtain ⟨id53,of53,cc53,ty53,wr53,ex53,i53,j53,l53,q53,lb53,bk53,oq53⟩:=cw49_1.at4 (P:=Tryz.prog) (t:=148) Tryz.underlying148 tz4 hx53
       have m53_0:cc53[of53]?=some (.bool (lget done1 iv)):=q53 0 (show 0<1 by decide)
       try simp only [E0_G,SY,agreeKind,ldA,aggD,Nat.reduceAdd,Nat.reduceLT,Nat.reduceBEq,TY_EvH22,g49_8,g49_13,store_refl E0_same,i53,j53,m53_0] at he
       rcases dB ((lget done1 iv)) with ⟨h54a,h54⟩|⟨h54a,h54⟩
       ·have w55:IntKind.i64.wrap ((iv:Int)+1)=((iv+1:Nat):Int):=by rw [IntWalk.i64_in]<;>omega
        try simp only [E0_G,SY,off,agreeKind,Nat.reduceAdd,Nat.reduceLT,Nat.reduceBEq,g49_13,store_refl E0_same,h54a,w55] at he
        rw [drop_cons' (List.getElem?_eq_getElem (show iv<_ by omega))] at hd49
        have hf:=(show _=(R50_2 h fr ti out1 done1 nv (out1.drop (iv+1)) at_ (iv+1):Int) from (if_pos h54).trans (rfl)).symm.trans hd49
        refine .next he (m - 1) (by omega) ⟨at_,(iv+1),?_,?_,?_,?_,?_,?_,?_,?_,?_,?_,?_,?_,bb49_1,ga49,by omega,cw49_0,cw49_1,cw49_2,hf⟩<;>first|(simp only [SY,eq_self,Nat.reduceBEq,g49_3,g49_7,g49_8,g49_10,g49_11,g49_12,g49_13]<;>rfl)|omega|assumption|assumption|exact Tm.set (by assumption) _ (by omega)|exact Tm.set (Tm.rep _ (by decide)) _ (by omega)|exact Hr.init _ _|exact Hr.at (by omega) (by assumption) (by omega) (by assumption)|exact (Hr.get (by assumption) (by assumption)).2.2.1|exact lget_set_le' (by assumption) (by omega)|exact Tm.push (by assumption) (by decide)|exact Tm.nil|(simp; omega)|simp
       have hx49:out1[iv]?=some (out1[iv]'(by first|omega|simp; omega)):=List.getElem?_eq_getElem _
       generalize out1[iv]'_=x49 at hx49
       have eb57:=Tm.at (by assumption:Tm h.rooms.length out1) hx49
       obtain ⟨id56,of56,cc56,ty56,wr56,ex56,i56,j56,l56,q56,lb56,bk56,oq56⟩:=cw49_0.at4 (P:=Tryz.prog) (t:=54) Tryz.underlying54 tz3 hx49
       have m56_0:cc56[of56]?=some (.int .i64 x49):=q56 0 (show 0<1 by decide)
       try simp only [E0_G,SY,agreeKind,ldA,aggD,Nat.reduceAdd,Nat.reduceLT,Nat.reduceBEq,TY_EvH22,g49_7,g49_13,store_refl E0_same,h54a,i56,j56,m56_0] at he
       rcases dP (x49<1073741824) with ⟨h58a,h58⟩|⟨h58a,h58⟩
       ·try simp only [E0_G,SY,agreeKind,Nat.reduceAdd,Nat.reduceLT,Nat.reduceBEq,g49_12,store_refl E0_same,h58a] at he
        rcases dP (at_<0) with ⟨h59a,h59⟩|⟨h59a,h59⟩
        ·have w60:IntKind.i64.wrap ((iv:Int)+1)=((iv+1:Nat):Int):=by rw [IntWalk.i64_in]<;>omega
         try simp only [E0_G,SY,off,agreeKind,Nat.reduceAdd,Nat.reduceLT,Nat.reduceBEq,g49_13,store_refl E0_same,h59a,w60] at he
         rw [drop_cons' hx49] at hd49
         have hf:=(show _=(R50_2 h fr ti out1 done1 nv (out1.drop (iv+1)) (iv:Int) (iv+1):Int) from (if_neg h54).trans ((if_pos h58).trans ((if_pos h59).trans (rfl)))).symm.trans hd49
         refine .next he (m - 1) (by omega) ⟨(iv:Int),(iv+1),?_,?_,?_,?_,?_,?_,?_,?_,?_,?_,?_,?_,bb49_1,ga49,by omega,cw49_0,cw49_1,cw49_2,hf⟩<;>first|(simp only [SY,eq_self,Nat.reduceBEq,g49_3,g49_7,g49_8,g49_10,g49_11,g49_12,g49_13]<;>rfl)|omega|assumption|assumption|exact Tm.set (by assumption) _ (by omega)|exact Tm.set (Tm.rep _ (by decide)) _ (by omega)|exact Hr.init _ _|exact Hr.at (by omega) (by assumption) (by omega) (by assumption)|exact (Hr.get (by assumption) (by assumption)).2.2.1|exact lget_set_le' (by assumption) (by omega)|exact Tm.push (by assumption) (by decide)|exact Tm.nil|(simp; omega)|simp
        have eb62:=Tm.at (by assumption:Tm h.rooms.length out1) hx49
        obtain ⟨id61,of61,cc61,ty61,wr61,ex61,i61,j61,l61,q61,lb61,bk61,oq61⟩:=cw49_0.at4 (P:=Tryz.prog) (t:=54) Tryz.underlying54 tz3 hx49
        obtain rfl:id56=id61:=Option.some.inj (bk56.symm.trans bk61)
        obtain rfl:of56=of61:=oq56.trans oq61.symm
        have m61_0:cc61[of56]?=some (.int .i64 x49):=q61 0 (show 0<1 by decide)
        have qz63:((Int.toNat (max at_ 0):Nat):Int)=max at_ 0:=Int.toNat_of_nonneg (by first|omega|simp; omega)
        have hx64:out1[(Int.toNat (max at_ 0))]?=some (lget out1 (Int.toNat (max at_ 0))):=lget_some (by first|omega|simp; omega)
        have eb65:=Tm.at (by assumption:Tm h.rooms.length out1) hx64
        obtain ⟨id64,of64,cc64,ty64,wr64,ex64,i64,j64,l64,q64,lb64,bk64,oq64⟩:=cw49_0.at4 (P:=Tryz.prog) (t:=54) Tryz.underlying54 tz3 hx64
        have m64_0:cc64[of64]?=some (.int .i64 (lget out1 (Int.toNat (max at_ 0)))):=q64 0 (show 0<1 by decide)
        rw [qz63] at i64
        try simp only [E0_G,SY,agreeKind,ldA,aggD,Nat.reduceAdd,Nat.reduceLT,Nat.reduceBEq,TY_EvH22,g49_7,g49_12,g49_13,store_refl E0_same,i56,j56,m56_0,h59a,i64,j64,m64_0] at he
        rcases dP (x49<(lget out1 (Int.toNat (max at_ 0)))) with ⟨h66a,h66⟩|⟨h66a,h66⟩
        ·have w67:IntKind.i64.wrap ((iv:Int)+1)=((iv+1:Nat):Int):=by rw [IntWalk.i64_in]<;>omega
         try simp only [E0_G,SY,off,agreeKind,Nat.reduceAdd,Nat.reduceLT,Nat.reduceBEq,g49_13,store_refl E0_same,h66a,w67] at he
         rw [drop_cons' hx49] at hd49
         have hf:=(show _=(R50_2 h fr ti out1 done1 nv (out1.drop (iv+1)) (iv:Int) (iv+1):Int) from (if_neg h54).trans ((if_pos h58).trans ((if_neg h59).trans ((if_pos h66).trans (rfl))))).symm.trans hd49
         refine .next he (m - 1) (by omega) ⟨(iv:Int),(iv+1),?_,?_,?_,?_,?_,?_,?_,?_,?_,?_,?_,?_,bb49_1,ga49,by omega,cw49_0,cw49_1,cw49_2,hf⟩<;>first|(simp only [SY,eq_self,Nat.reduceBEq,g49_3,g49_7,g49_8,g49_10,g49_11,g49_12,g49_13]<;>rfl)|omega|assumption|assumption|exact Tm.set (by assumption) _ (by omega)|exact Tm.set (Tm.rep _ (by decide)) _ (by omega)|exact Hr.init _ _|exact Hr.at (by omega) (by assumption) (by omega) (by assumption)|exact (Hr.get (by assumption) (by assumption)).2.2.1|exact lget_set_le' (by assumption) (by omega)|exact Tm.push (by assumption) (by decide)|exact Tm.nil|(simp; omega)|simp
        have w68:IntKind.i64.wrap ((iv:Int)+1)=((iv+1:Nat):Int):=by rw [IntWalk.i64_in]<;>omega
        try simp only [E0_G,SY,off,agreeKind,Nat.reduceAdd,Nat.reduceLT,Nat.reduceBEq,g49_13,store_refl E0_same,h66a,w68] at he
        rw [drop_cons' hx49] at hd49
        have hf:=(show _=(R50_2 h fr ti out1 done1 nv (out1.drop (iv+1)) at_ (iv+1):Int) from (if_neg h54).trans ((if_pos h58).trans ((if_neg h59).trans ((if_neg h66).trans (rfl))))).symm.trans hd49
        refine .next he (m - 1) (by omega) ⟨at_,(iv+1),?_,?_,?_,?_,?_,?_,?_,?_,?_,?_,?_,?_,bb49_1,ga49,by omega,cw49_0,cw49_1,cw49_2,hf⟩<;>first|(simp only [SY,eq_self,Nat.reduceBEq,g49_3,g49_7,g49_8,g49_10,g49_11,g49_12,g49_13]<;>rfl)|omega|assumption|assumption|exact Tm.set (by assumption) _ (by omega)|exact Tm.set (Tm.rep _ (by decide)) _ (by omega)|exact Hr.init _ _|exact Hr.at (by omega) (by assumption) (by omega) (by assumption)|exact (Hr.get (by assumption) (by assumption)).2.2.1|exact lget_set_le' (by assumption) (by omega)|exact Tm.push (by assumption) (by decide)|exact Tm.nil|(simp; omega)|simp
       have w69:IntKind.i64.wrap ((iv:Int)+1)=((iv+1:Nat):Int):=by rw [IntWalk.i64_in]<;>omega
       try simp only [E0_G,SY,off,agreeKind,Nat.reduceAdd,Nat.reduceLT,Nat.reduceBEq,g49_13,store_refl E0_same,h58a,w69] at he
       rw [drop_cons' hx49] at hd49
       have hf:=(show _=(R50_2 h fr ti out1 done1 nv (out1.drop (iv+1)) at_ (iv+1):Int) from (if_neg h54).trans ((if_neg h58).trans (rfl))).symm.trans hd49
       refine .next he (m - 1) (by omega) ⟨at_,(iv+1),?_,?_,?_,?_,?_,?_,?_,?_,?_,?_,?_,?_,bb49_1,ga49,by omega,cw49_0,cw49_1,cw49_2,hf⟩<;>first|(simp only [SY,eq_self,Nat.reduceBEq,g49_3,g49_7,g49_8,g49_10,g49_11,g49_12,g49_13]<;>rfl)|omega|assumption|assumption|exact Tm.set (by assumption) _ (by omega)|exact Tm.set (Tm.rep _ (by decide)) _ (by omega)|exact Hr.init _ _|exact Hr.at (by omega) (by assumption) (by omega) (by assumption)|exact (Hr.get (by assumption) (by assumption)).2.2.1|exact lget_set_le' (by assumption) (by omega)|exact Tm.push (by assumption) (by decide)|exact Tm.nil|(simp; omega)|simp
      try simp only [SY,h51a] at he
      rw [List.drop_eq_nil_of_le (show out1.length≤iv by omega)] at hd49
      have hf:=(show _=(at_:Int) from rfl).symm.trans hd49
      refine .exit he ⟨rfl,⟨at_,iv,?_,?_,?_,?_,?_,?_,bb49_1,ga49,by omega,cw49_0,cw49_1,cw49_2,?_,?_,?_,?_,hf.symm⟩⟩<;>first|(simp only [SY,eq_self,Nat.reduceBEq,g49_3,g49_7,g49_8,g49_10,g49_11,g49_12]<;>rfl)|omega|assumption|assumption|exact Tm.set (by assumption) _ (by omega)|exact Tm.set (Tm.rep _ (by decide)) _ (by omega)|exact Hr.init _ _|exact Hr.at (by omega) (by assumption) (by omega) (by assumption)|exact (Hr.get (by assumption) (by assumption)).2.2.1|exact lget_set_le' (by assumption) (by omega)|exact Tm.push (by assumption) (by decide)|exact Tm.nil|(simp; omega)|simp)
    obtain ⟨rfl,at_,iv,ge49_3,ge49_7,ge49_8,ge49_10,ge49_11,ge49_12,be49_1,ge49,gm49,ce49_0,ce49_1,ce49_2,hj49_0,hj49_1,hj49_2,hj49_3,hR49⟩:=hQ49
    obtain rfl:at_=R50_2 h fr ti out1 done1 nv out1 (-1) 0:=hR49.symm
    try simp only [E0_G,SY,off,agreeKind,eq_self,if_true,Nat.reduceAdd,Nat.reduceLT,Nat.reduceBEq,ge49_12] at he
    rcases dP ((R50_2 h fr ti out1 done1 nv out1 (-1) 0)<0) with ⟨h71a,h71⟩|⟨h71a,h71⟩
    ·try simp only [E0_G,SY,off,agreeKind,Nat.reduceAdd,Nat.reduceLT,Nat.reduceBEq,ge49_7,h71a] at he
     rw [drop_cons' (List.getElem?_eq_getElem (show nv<_ by omega))] at hd46
     have hf:=(show _=(.inl out1:Sum ((List Int)) ((List Int))) from (if_pos h71).trans (rfl)).symm.trans hd46
     refine .ret he (.inr ⟨rfl,⟨out1,v_out,?_,(ce49_0.low (by omega)),ge49,hf.symm⟩⟩)<;>first|(simp only [SY,eq_self,Nat.reduceBEq]<;>rfl)|omega|assumption|assumption|exact Tm.set (by assumption) _ (by omega)|exact Tm.set (Tm.rep _ (by decide)) _ (by omega)|exact Hr.init _ _|exact Hr.at (by omega) (by assumption) (by omega) (by assumption)|exact (Hr.get (by assumption) (by assumption)).2.2.1|exact lget_set_le' (by assumption) (by omega)|exact Tm.push (by assumption) (by decide)|exact Tm.nil|(simp; omega)|simp
    have qz72:((Int.toNat (R50_2 h fr ti out1 done1 nv out1 (-1) 0):Nat):Int)=R50_2 h fr ti out1 done1 nv out1 (-1) 0:=Int.toNat_of_nonneg (by first|omega|simp; omega)
    have hx73:done1[(Int.toNat (R50_2 h fr ti out1 done1 nv out1 (-1) 0))]?=some (lget done1 (Int.toNat (R50_2 h fr ti out1 done1 nv out1 (-1) 0))):=lget_some (by first|omega|simp; omega)
    obtain ⟨id73,of73,cc73,ty73,wr73,ex73,i73,j73,l73,q73,lb73,bk73,oq73⟩:=ce49_1.at4 (P:=Tryz.prog) (t:=148) Tryz.underlying148 tz4 hx73
    have m73_0:cc73[of73]?=some (.bool (lget done1 (Int.toNat (R50_2 h fr ti out1 done1 nv out1 (-1) 0)))):=q73 0 (show 0<1 by decide)
    rw [qz72] at i73
    obtain ⟨S74,k74,n74,o74,q74⟩:=ce49_1.put1 (P:=Tryz.prog) (lget_some (l:=done1) (by first|omega|simp; omega)) bk73 oq73 4 (.bool true) 0 true tz4 rfl rfl (by decide) rfl
    replace k74:stA Tryz.prog 4 ⟨id73,of73,none⟩ (.bool true) S49e=some S74:=k74
    have v1_74:=(q74 S.next (fun e=>(show blkOf (v_done)≠some S.next from by first|exact ce49_1.ne (by omega)|exact ce49_1.new (by omega)|assumption) (e ▸ bk73))).trans be49_1
    have oce49_75:=ce49_0.frame (by omega) (fun id hid hb=>q74 id (fun e=>pe2_0 id hb (e ▸ bk73)))
    have oce49_76:=ce49_2.frame (by omega) (fun id hid hb=>q74 id (fun e=>(fun b h1 h2=>ap43 b h2 h1) id hb (e ▸ bk73)))
    have g74:Agree S S74:=⟨by have:=(ge49).1; omega,fun id hid=>(q74 id (fun e=>(show blkOf (v_done)≠some id from ce49_1.ne (by omega)) (e ▸ bk73))).trans ((ge49).2 id hid)⟩
    try simp only [E0_G,SY,off,agreeKind,Nat.reduceAdd,Nat.reduceLT,Nat.reduceBEq,ge49_8,ge49_12,h71a,i73,k74] at he
    generalize hL77:Rec.loop _ _ _ _=L77 at he
    obtain ⟨x77,t77,S77e,rfl,hQ77⟩:=loop_met hL77 (fun m t S'=>∃ (out2:List Int) (gv:Nat),m+gv=(r116 h).length∧out2.length=h.rooms.length∧Tm h.rooms.length out2∧lget out2 (Int.toNat (R50_2 h fr ti out1 done1 nv out1 (-1) 0))≤1073741823∧gv≤(r116 h).length∧t.get 3=some (.pointer (some ⟨S.next,0,none⟩))∧t.get 7=some (v_out)∧t.get 8=some (v_done)∧t.get 10=some (.slice pu41 nu41 cu41)∧t.get 11=some (.int .i64 (nv:Int))∧t.get 12=some (.int .i64 (R50_2 h fr ti out1 done1 nv out1 (-1) 0))∧t.get 14=some (.int .i64 (gv:Int))∧S'.heap.get S.next=some (.cells [v_h_rooms,v_h_doors,v_h_ways] 26 0 true true)∧Agree S S'∧S74.next≤S'.next∧Own 3 S1.next S' v_out out2∧Own 4 S1.next S' v_done (done1.set (Int.toNat (R50_2 h fr ti out1 done1 nv out1 (-1) 0)) true)∧Own 128 S39.next S' (.slice pu41 nu41 cu41) (r116 h)∧R50_3 h fr ti out1 done1 nv ((r116 h).drop gv) out2=R50_3 h fr ti out1 done1 nv (r116 h) out1)
     (fun x t S'=>x=.exit 6∧∃ (out2:List Int) (gv:Nat),t.get 3=some (.pointer (some ⟨S.next,0,none⟩))∧t.get 7=some (v_out)∧t.get 8=some (v_done)∧t.get 10=some (.slice pu41 nu41 cu41)∧t.get 11=some (.int .i64 (nv:Int))∧S'.heap.get S.next=some (.cells [v_h_rooms,v_h_doors,v_h_ways] 26 0 true true)∧Agree S S'∧S74.next≤S'.next∧Own 3 S1.next S' v_out out2∧Own 4 S1.next S' v_done (done1.set (Int.toNat (R50_2 h fr ti out1 done1 nv out1 (-1) 0)) true)∧Own 128 S39.next S' (.slice pu41 nu41 cu41) (r116 h)∧out2.length=h.rooms.length∧Tm h.rooms.length out2∧lget out2 (Int.toNat (R50_2 h fr ti out1 done1 nv out1 (-1) 0))≤1073741823∧gv≤(r116 h).length∧R50_3 h fr ti out1 done1 nv (r116 h) out1=out2) ((r116 h).length - 0) (by refine ⟨out1,0,?_,?_,?_,?_,?_,?_,?_,?_,?_,?_,?_,?_,v1_74,g74,Nat.le_refl _,oce49_75,o74,oce49_76,rfl⟩<;>first|(simp only [SY,eq_self,Nat.reduceBEq,ge49_3,ge49_7,ge49_8,ge49_10,ge49_11,ge49_12]<;>rfl)|omega|assumption|assumption|exact Tm.set (by assumption) _ (by omega)|exact Tm.set (Tm.rep _ (by decide)) _ (by omega)|exact Hr.init _ _|exact Hr.at (by omega) (by assumption) (by omega) (by assumption)|exact (Hr.get (by assumption) (by assumption)).2.2.1|exact lget_set_le' (by assumption) (by omega)|exact Tm.push (by assumption) (by decide)|exact Tm.nil|(simp; omega)|simp) (by
      rintro m t S77 ⟨out2,gv,hi77_0,hi77_1,hi77_2,hi77_3,hi77_4,g77_3,g77_7,g77_8,g77_10,g77_11,g77_12,g77_14,bb77_1,ga77,gn77,ow_out2,cw77_0,cw77_1,hd77⟩
      refine .run fun z he=>?_
      have w78:=(cw77_1.rows).len (P:=Tryz.prog) (t:=149) Tryz.underlying149
      try simp only [E0_G,SY,off,agreeKind,Nat.reduceAdd,Nat.reduceLT,Nat.reduceBEq,g77_10,g77_14,w78] at he
      rcases dP ((gv:Int)<((r116 h).length:Int)) with ⟨h79a,h79⟩|⟨h79a,h79⟩
      ·have hx77:(r116 h)[gv]?=some ((r116 h)[gv]'(by first|omega|simp; omega)):=List.getElem?_eq_getElem _
       generalize (r116 h)[gv]'_=x77 at hx77
       have eb81:=r116_ok hV (List.mem_of_getElem? hx77)
       have ef81:=eb81.f
       have et81:=eb81.t
       obtain ⟨id80,of80,cc80,ty80,wr80,ex80,i80,j80,l80,q80,lb80,bk80,oq80⟩:=cw77_1.at4 (P:=Tryz.prog) (t:=149) Tryz.underlying149 tz128 hx77
       have m80_0:cc80[of80]?=some (.int .i64 x77.way):=q80 0 (show 0<5 by decide)
       have m80_1:cc80[of80+1]?=some (.int .i64 x77.fr):=q80 1 (show 1<5 by decide)
       have m80_2:cc80[of80+2]?=some (.int .i64 x77.to):=q80 2 (show 2<5 by decide)
       have m80_3:cc80[of80+3]?=some (.int .i64 x77.secs):=q80 3 (show 3<5 by decide)
       have m80_4:cc80[of80+4]?=some (.int .i64 x77.door):=q80 4 (show 4<5 by decide)
       try simp (disch:=first|omega|assumption) only [E0_G,SY,off,agreeKind,ldA,aggD,aField,Nat.reduceAdd,Nat.reduceLT,Nat.reduceBEq,TY_EvH22,g77_10,g77_12,g77_14,h79a,i80,j80,m80_1] at he
       rcases dP (x77.fr=(R50_2 h fr ti out1 done1 nv out1 (-1) 0)) with ⟨h82a,h82⟩|⟨h82a,h82⟩
       ·try simp only [SY,h82a] at he
        rw [code_draws _ _ _ (by kernel_rfl)] at he
        generalize hnd83:needy _=nd83 at he
        have eb85:=r116_ok hV (List.mem_of_getElem? hx77)
        have ef85:=eb85.f
        have et85:=eb85.t
        obtain ⟨id84,of84,cc84,ty84,wr84,ex84,i84,j84,l84,q84,lb84,bk84,oq84⟩:=cw77_1.at4 (P:=Tryz.prog) (t:=149) Tryz.underlying149 tz128 hx77
        obtain rfl:id80=id84:=Option.some.inj (bk80.symm.trans bk84)
        obtain rfl:of80=of84:=oq80.trans oq84.symm
        have m84_0:cc84[of80]?=some (.int .i64 x77.way):=q84 0 (show 0<5 by decide)
        have m84_1:cc84[of80+1]?=some (.int .i64 x77.fr):=q84 1 (show 1<5 by decide)
        have m84_2:cc84[of80+2]?=some (.int .i64 x77.to):=q84 2 (show 2<5 by decide)
        have m84_3:cc84[of80+3]?=some (.int .i64 x77.secs):=q84 3 (show 3<5 by decide)
        have m84_4:cc84[of80+4]?=some (.int .i64 x77.door):=q84 4 (show 4<5 by decide)
        have qz86:((Int.toNat (R50_2 h fr ti out1 done1 nv out1 (-1) 0):Nat):Int)=R50_2 h fr ti out1 done1 nv out1 (-1) 0:=Int.toNat_of_nonneg (by first|omega|simp; omega)
        have hx87:out2[(Int.toNat (R50_2 h fr ti out1 done1 nv out1 (-1) 0))]?=some (lget out2 (Int.toNat (R50_2 h fr ti out1 done1 nv out1 (-1) 0))):=lget_some (by first|omega|simp; omega)
        have eb88:=Tm.at (by assumption:Tm h.rooms.length out2) hx87
        obtain ⟨id87,of87,cc87,ty87,wr87,ex87,i87,j87,l87,q87,lb87,bk87,oq87⟩:=ow_out2.at4 (P:=Tryz.prog) (t:=54) Tryz.underlying54 tz3 hx87
        have m87_0:cc87[of87]?=some (.int .i64 (lget out2 (Int.toNat (R50_2 h fr ti out1 done1 nv out1 (-1) 0)))):=q87 0 (show 0<1 by decide)
        rw [qz86] at i87
        obtain ⟨S89,k89,a89⟩:=c99 h x77 (lget out2 (Int.toNat (R50_2 h fr ti out1 done1 nv out1 (-1) 0))) (r116_ok hV (List.mem_of_getElem? (by assumption:(r116 h)[_]?=some (x77)))).ok (by omega) S77 (v_h_rooms) (hv_h_rooms.agree ga77) (v_h_doors) (hv_h_doors.agree ga77) (v_h_ways) (hv_h_ways.agree ga77)
        have l89:=a89.1
        have s89:E0.same S77 S89=true:=symEnv_same a89
        have v1_89:=(a89.2 S.next (by omega)).trans bb77_1
        have v80_89:=(a89.2 id80 (by omega)).trans j80
        have ow_90:=ow_out2.agree a89
        have ocw77_91:=cw77_0.agree a89
        have ocw77_92:=cw77_1.agree a89
        have g89:Agree S S89:=ga77.trans a89
        have p89:=r99_ge (r116_ok hV (List.mem_of_getElem? (by assumption:(r116 h)[_]?=some (x77)))).ok (show 0≤(lget out2 (Int.toNat (R50_2 h fr ti out1 done1 nv out1 (-1) 0)))∧(lget out2 (Int.toNat (R50_2 h fr ti out1 done1 nv out1 (-1) 0)))≤1073741823 by omega)
        try simp (disch:=first|omega|assumption) only [E0_G,SY,agreeKind,vals,ldA,rdCells,aggD,Nat.reduceAdd,Nat.reduceLT,Nat.reduceBEq,TY_EvH22,g77_3,g77_7,g77_10,g77_12,g77_14,bb77_1,i80,j80,m80_0,m80_1,m80_2,m80_3,m80_4,store_agree,store_refl E0_same,i87,j87,m87_0,k89] at he
        rw [code_draws _ _ _ (by kernel_rfl)] at he
        generalize hnd93:needy _=nd93 at he
        have nn93_17:nd93 17=false:=by rw [← hnd93]; kernel_rfl
        have eb95:=r116_ok hV (List.mem_of_getElem? hx77)
        have ef95:=eb95.f
        have et95:=eb95.t
        obtain ⟨id94,of94,cc94,ty94,wr94,ex94,i94,j94,l94,q94,lb94,bk94,oq94⟩:=ocw77_92.at4 (P:=Tryz.prog) (t:=149) Tryz.underlying149 tz128 hx77
        obtain rfl:id80=id94:=Option.some.inj (bk80.symm.trans bk94)
        obtain rfl:of80=of94:=oq80.trans oq94.symm
        have m94_0:cc94[of80]?=some (.int .i64 x77.way):=q94 0 (show 0<5 by decide)
        have m94_1:cc94[of80+1]?=some (.int .i64 x77.fr):=q94 1 (show 1<5 by decide)
        have m94_2:cc94[of80+2]?=some (.int .i64 x77.to):=q94 2 (show 2<5 by decide)
        have m94_3:cc94[of80+3]?=some (.int .i64 x77.secs):=q94 3 (show 3<5 by decide)
        have m94_4:cc94[of80+4]?=some (.int .i64 x77.door):=q94 4 (show 4<5 by decide)
        have eb97:=r116_ok hV (List.mem_of_getElem? hx77)
        have ef97:=eb97.f
        have et97:=eb97.t
        obtain ⟨id96,of96,cc96,ty96,wr96,ex96,i96,j96,l96,q96,lb96,bk96,oq96⟩:=ocw77_92.at4 (P:=Tryz.prog) (t:=149) Tryz.underlying149 tz128 hx77
        obtain rfl:id80=id96:=Option.some.inj (bk80.symm.trans bk96)
        obtain rfl:of80=of96:=oq80.trans oq96.symm
        have m96_0:cc96[of80]?=some (.int .i64 x77.way):=q96 0 (show 0<5 by decide)
        have m96_1:cc96[of80+1]?=some (.int .i64 x77.fr):=q96 1 (show 1<5 by decide)
        have m96_2:cc96[of80+2]?=some (.int .i64 x77.to):=q96 2 (show 2<5 by decide)
        have m96_3:cc96[of80+3]?=some (.int .i64 x77.secs):=q96 3 (show 3<5 by decide)
        have m96_4:cc96[of80+4]?=some (.int .i64 x77.door):=q96 4 (show 4<5 by decide)
        have qz98:((Int.toNat x77.to:Nat):Int)=x77.to:=Int.toNat_of_nonneg (by first|omega|simp; omega)
        have hx99:out2[(Int.toNat x77.to)]?=some (lget out2 (Int.toNat x77.to)):=lget_some (by first|omega|simp; omega)
        have eb100:=Tm.at (by assumption:Tm h.rooms.length out2) hx99
        obtain ⟨id99,of99,cc99,ty99,wr99,ex99,i99,j99,l99,q99,lb99,bk99,oq99⟩:=ow_90.at4 (P:=Tryz.prog) (t:=54) Tryz.underlying54 tz3 hx99
        have m99_0:cc99[of99]?=some (.int .i64 (lget out2 (Int.toNat x77.to))):=q99 0 (show 0<1 by decide)
        rw [qz98] at i99
        have qz101:((Int.toNat x77.to:Nat):Int)=x77.to:=Int.toNat_of_nonneg (by first|omega|simp; omega)
        have eb103:=Tm.at (by assumption:Tm h.rooms.length out2) hx99
        obtain ⟨id102,of102,cc102,ty102,wr102,ex102,i102,j102,l102,q102,lb102,bk102,oq102⟩:=ow_90.at4 (P:=Tryz.prog) (t:=54) Tryz.underlying54 tz3 hx99
        obtain rfl:id99=id102:=Option.some.inj (bk99.symm.trans bk102)
        obtain rfl:of99=of102:=oq99.trans oq102.symm
        have m102_0:cc102[of99]?=some (.int .i64 (lget out2 (Int.toNat x77.to))):=q102 0 (show 0<1 by decide)
        rw [qz101] at i102
        obtain ⟨S104,k104,n104,o104,q104⟩:=ow_90.put1 (P:=Tryz.prog) (lget_some (l:=out2) (by first|omega|simp; omega)) bk102 oq102 3 (.int .i64 (min (lget out2 (Int.toNat x77.to)) (r99 h x77 (lget out2 (Int.toNat (R50_2 h fr ti out1 done1 nv out1 (-1) 0)))))) 0 (min (lget out2 (Int.toNat x77.to)) (r99 h x77 (lget out2 (Int.toNat (R50_2 h fr ti out1 done1 nv out1 (-1) 0))))) tz3 rfl rfl (by decide) rfl
        replace k104:stA Tryz.prog 3 ⟨id99,of99,none⟩ (.int .i64 (min (lget out2 (Int.toNat x77.to)) (r99 h x77 (lget out2 (Int.toNat (R50_2 h fr ti out1 done1 nv out1 (-1) 0)))))) S89=some S104:=k104
        have v1_104:=(q104 S.next (fun e=>(show blkOf (v_out)≠some S.next from by first|exact ow_90.ne (by omega)|exact ow_90.new (by omega)|assumption) (e ▸ bk102))).trans v1_89
        have ocw77_105:=ocw77_91.frame (by omega) (fun id hid hb=>q104 id (fun e=>(fun b h1 h2=>pe2_0 b h2 h1) id hb (e ▸ bk102)))
        have ocw77_106:=ocw77_92.frame (by omega) (fun id hid hb=>q104 id (fun e=>(fun b h1 h2=>ap42 b h2 h1) id hb (e ▸ bk102)))
        have g104:Agree S S104:=⟨by have:=(g89).1; omega,fun id hid=>(q104 id (fun e=>(show blkOf (v_out)≠some id from ow_90.ne (by omega)) (e ▸ bk102))).trans ((g89).2 id hid)⟩
        have w107:IntKind.i64.wrap ((gv:Int)+1)=((gv+1:Nat):Int):=by rw [IntWalk.i64_in]<;>omega
        try simp (disch:=first|omega|assumption) only [E0_G,SY,off,agreeKind,ldA,aggD,aField,Nat.reduceAdd,Nat.reduceLT,Nat.reduceBEq,TY_EvH22,g77_7,g77_10,g77_14,i80,m80_2,store_refl E0_same,v80_89,nn93_17,i99,j99,m99_0,k104,w107] at he
        rw [drop_cons' hx77] at hd77
        have hf:=(show _=(R50_3 h fr ti out1 done1 nv ((r116 h).drop (gv+1)) (out2.set (Int.toNat x77.to) (min (lget out2 (Int.toNat x77.to)) (r99 h x77 (lget out2 (Int.toNat (R50_2 h fr ti out1 done1 nv out1 (-1) 0)))))):(List Int)) from (if_pos h82).trans (rfl)).symm.trans hd77
        refine .next he (m - 1) (by omega) ⟨out2.set (Int.toNat x77.to) (min (lget out2 (Int.toNat x77.to)) (r99 h x77 (lget out2 (Int.toNat (R50_2 h fr ti out1 done1 nv out1 (-1) 0))))),(gv+1),?_,?_,?_,?_,?_,?_,?_,?_,?_,?_,?_,?_,v1_104,g104,by omega,o104,ocw77_105,ocw77_106,hf⟩<;>first|(simp only [SY,eq_self,Nat.reduceBEq,g77_3,g77_7,g77_8,g77_10,g77_11,g77_12,g77_14]<;>rfl)|omega|assumption|assumption|exact Tm.set (by assumption) _ (by omega)|exact Tm.set (Tm.rep _ (by decide)) _ (by omega)|exact Hr.init _ _|exact Hr.at (by omega) (by assumption) (by omega) (by assumption)|exact (Hr.get (by assumption) (by assumption)).2.2.1|exact lget_set_le' (by assumption) (by omega)|exact Tm.push (by assumption) (by decide)|exact Tm.nil|(simp; omega)|simp
       have w108:IntKind.i64.wrap ((gv:Int)+1)=((gv+1:Nat):Int):=by rw [IntWalk.i64_in]<;>omega
       try simp only [E0_G,SY,off,agreeKind,Nat.reduceAdd,Nat.reduceLT,Nat.reduceBEq,g77_14,h82a,w108] at he
       rw [drop_cons' hx77] at hd77
       have hf:=(show _=(R50_3 h fr ti out1 done1 nv ((r116 h).drop (gv+1)) out2:(List Int)) from (if_neg h82).trans (rfl)).symm.trans hd77
       refine .next he (m - 1) (by omega) ⟨out2,(gv+1),?_,?_,?_,?_,?_,?_,?_,?_,?_,?_,?_,?_,bb77_1,ga77,by omega,ow_out2,cw77_0,cw77_1,hf⟩<;>first|(simp only [SY,eq_self,Nat.reduceBEq,g77_3,g77_7,g77_8,g77_10,g77_11,g77_12,g77_14]<;>rfl)|omega|assumption|assumption|exact Tm.set (by assumption) _ (by omega)|exact Tm.set (Tm.rep _ (by decide)) _ (by omega)|exact Hr.init _ _|exact Hr.at (by omega) (by assumption) (by omega) (by assumption)|exact (Hr.get (by assumption) (by assumption)).2.2.1|exact lget_set_le' (by assumption) (by omega)|exact Tm.push (by assumption) (by decide)|exact Tm.nil|(simp; omega)|simp
      try simp only [SY,h79a] at he
      rw [List.drop_eq_nil_of_le (show (r116 h).length≤gv by omega)] at hd77
      have hf:=(show _=(out2:(List Int)) from rfl).symm.trans hd77
      refine .exit he ⟨rfl,⟨out2,gv,?_,?_,?_,?_,?_,bb77_1,ga77,by omega,ow_out2,cw77_0,cw77_1,?_,?_,?_,?_,hf.symm⟩⟩<;>first|(simp only [SY,eq_self,Nat.reduceBEq,g77_3,g77_7,g77_8,g77_10,g77_11]<;>rfl)|omega|assumption|assumption|exact Tm.set (by assumption) _ (by omega)|exact Tm.set (Tm.rep _ (by decide)) _ (by omega)|exact Hr.init _ _|exact Hr.at (by omega) (by assumption) (by omega) (by assumption)|exact (Hr.get (by assumption) (by assumption)).2.2.1|exact lget_set_le' (by assumption) (by omega)|exact Tm.push (by assumption) (by decide)|exact Tm.nil|(simp; omega)|simp)
    obtain ⟨rfl,out2,gv,ge77_3,ge77_7,ge77_8,ge77_10,ge77_11,be77_1,ge77,gm77,oe_out277,ce77_0,ce77_1,hj77_0,hj77_1,hj77_2,hj77_3,hR77⟩:=hQ77
    obtain rfl:out2=R50_3 h fr ti out1 done1 nv (r116 h) out1:=hR77.symm
    have w110:IntKind.i64.wrap ((nv:Int)+1)=((nv+1:Nat):Int):=by rw [IntWalk.i64_in]<;>omega
    try simp only [E0_G,SY,off,agreeKind,eq_self,if_true,Nat.reduceAdd,Nat.reduceLT,Nat.reduceBEq,ge77_11,w110] at he
    rw [drop_cons' (List.getElem?_eq_getElem (show nv<_ by omega))] at hd46
    have hf:=(show _=(R50_1 h fr ti (h.rooms.drop (nv+1)) (R50_3 h fr ti out1 done1 nv (r116 h) out1) (done1.set (Int.toNat (R50_2 h fr ti out1 done1 nv out1 (-1) 0)) true) (nv+1):Sum ((List Int)) ((List Int))) from (if_neg h71).trans (rfl)).symm.trans hd46
    refine .next he (m - 1) (by omega) ⟨R50_3 h fr ti out1 done1 nv (r116 h) out1,done1.set (Int.toNat (R50_2 h fr ti out1 done1 nv out1 (-1) 0)) true,(nv+1),?_,?_,?_,?_,?_,?_,?_,?_,?_,?_,be77_1,ge77,by omega,oe_out277,ce77_0,ce77_1,hf⟩<;>first|(simp only [SY,eq_self,Nat.reduceBEq,ge77_3,ge77_7,ge77_8,ge77_10,ge77_11]<;>rfl)|omega|assumption|assumption|exact Tm.set (by assumption) _ (by omega)|exact Tm.set (Tm.rep _ (by decide)) _ (by omega)|exact Hr.init _ _|exact Hr.at (by omega) (by assumption) (by omega) (by assumption)|exact (Hr.get (by assumption) (by assumption)).2.2.1|exact lget_set_le' (by assumption) (by omega)|exact Tm.push (by assumption) (by decide)|exact Tm.nil|(simp; omega)|simp
   try simp only [SY,h48a] at he
   rw [List.drop_eq_nil_of_le (show h.rooms.length≤nv by omega)] at hd46
   have hf:=(show _=(.inr out1:Sum ((List Int)) ((List Int))) from rfl).symm.trans hd46
   refine .exit he (.inl ⟨rfl,⟨out1,done1,nv,?_,bb46_1,ga46,by omega,ow_out1,ow_done1,cw46_0,?_,?_,?_,?_,hf.symm⟩⟩)<;>first|(simp only [SY,eq_self,Nat.reduceBEq,g46_7]<;>rfl)|omega|assumption|assumption|exact Tm.set (by assumption) _ (by omega)|exact Tm.set (Tm.rep _ (by decide)) _ (by omega)|exact Hr.init _ _|exact Hr.at (by omega) (by assumption) (by omega) (by assumption)|exact (Hr.get (by assumption) (by assumption)).2.2.1|exact lget_set_le' (by assumption) (by omega)|exact Tm.push (by assumption) (by decide)|exact Tm.nil|(simp; omega)|simp)
 rcases hQ46 with ⟨rfl,hQ46⟩|⟨rfl,hQ46⟩
 ·obtain ⟨out1,done1,nv,ge46_7,be46_1,ge46,gm46,oe_out146,oe_done146,ce46_0,hj46_0,hj46_1,hj46_2,hj46_3,hR46⟩:=hQ46
  try simp only [E0_G,SY,off,agreeKind,eq_self,if_true,Nat.reduceAdd,Nat.reduceLT,Nat.reduceBEq,ge46_7] at hz
  have hr:r50 h fr ti=out1:=(onSum_inr hR46).trans (rfl)
  exact ⟨v_out,S46e,by first|(rw [hr]; exact hz.symm)|exact hz.symm,ge46,by rw [hr]; exact oe_out146.low (by omega)⟩
 obtain ⟨r6,vr6,ge46_6,or46_6,ge46,hR46⟩:=hQ46
 try simp only [SY,ge46_6] at hz
 have hr:r50 h fr ti=r6:=(onSum_inl hR46).trans (rfl)
 exact ⟨vr6,S46e,by first|(rw [hr]; exact hz.symm)|exact hz.symm,ge46,by rw [hr]; exact or46_6.low (by omega)⟩
end House
end Go.Proofs
