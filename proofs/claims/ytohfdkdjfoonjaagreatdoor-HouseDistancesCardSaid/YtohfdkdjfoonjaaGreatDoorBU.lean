import Derived.Test.YtohfdkdjfoonjaaGreatDoorBT
section
set_option linter.unusedSimpArgs false
set_option linter.unusedVariables false
namespace Go.Proofs
namespace House
open Go Go.RowKit Go.Aev
set_option maxRecDepth 100000
theorem tz125:szOf Tryz.prog 125=some 1:=by kernel_rfl
theorem tt125:inTab Tryz.prog 125=true:=by kernel_rfl
theorem t0_125:zeroOf Tryz.prog 125=some (.nilFunc):=by kernel_rfl
theorem TY_EvH26:type_of% (And.intro TY_EvH25 (And.intro (And.intro Tryz.underlying125 tz125) (And.intro tt125 t0_125))):=(And.intro TY_EvH25 (And.intro (And.intro Tryz.underlying125 tz125) (And.intro tt125 t0_125)))
theorem R109_1_hr (rooms:Nat) (fr ti:Int) (l:List Pg) (g:Pg→Int→Int) (times by_:List Int) (left:List Bool):∀ (m:List Int) (kv:Nat) (here:Int),times.drop kv=m→Hr times left here→Hr times left (R109_1 rooms fr ti l g times by_ left m kv here):=by
 intro m
 induction m with
 | nil=>intro kv here _ h; exact h
 | cons x m ih =>
  intro kv here hd h
  obtain ⟨hx,hd'⟩:=drop_unc hd
  have hk:kv<times.length:=(List.getElem?_eq_some_iff.1 hx).1
  rw [R109_1]
  split
  ·exact ih _ _ hd' h
  ·rename_i h1
   split
   ·rename_i h2
    have hat:Hr times left (kv:Int):=Hr.at hk hx h2 h1
    split
    ·exact ih _ _ hd' hat
    ·split
     ·exact ih _ _ hd' hat
     ·exact ih _ _ hd' h
   ·exact ih _ _ hd' h
theorem R109_2_tm (rooms:Nat) (fr ti:Int) (l:List Pg) (g:Pg→Int→Int) (hg:∀ p ∈ l,∀ t,0≤t∧t≤1073741823→0≤g p t∧g p t≤1073741824) (times by_:List Int) (left:List Bool) (here:Int) (he:R109_1 rooms fr ti l g times by_ left times 0 (-1)=here) (h0:0≤here∧here<(rooms:Int)) :
  ∀ (m:List Pg) (t2 b2:List Int) (j:Nat),(∀ p ∈ m,p ∈ l)→Tm rooms t2→b2.length=rooms→lget t2 here.toNat≤1073741823→Tm rooms (R109_2 rooms fr ti l g times by_ left m t2 b2 j).1∧(R109_2 rooms fr ti l g times by_ left m t2 b2 j).2.length=rooms:=by
 intro m
 induction m with
 | nil=>intro t2 b2 j _ h1 h2 _; exact ⟨h1,h2⟩
 | cons x m ih =>
  intro t2 b2 j hm h1 h2 h3
  have hx:=hm x (by simp)
  have hm':∀ p ∈ m,p ∈ l:=fun p hp=>hm p (by simp [hp])
  rw [R109_2,he]
  split
  ·split
   ·rename_i hlt
    have h4:0≤lget t2 here.toNat:=(h1.at (lget_some (by have:=h1.len; omega))).1
    exact ih _ _ _ hm' (h1.set _ (hg x hx _ ⟨h4,h3⟩)) (by rw [List.length_set]; exact h2) (lget_set_le h3 hlt)
   ·exact ih _ _ _ hm' h1 h2 h3
  ·exact ih _ _ _ hm' h1 h2 h3
theorem R109_0_tm (rooms:Nat) (fr ti:Int) (l:List Pg) (g:Pg→Int→Int) (hg:∀ p ∈ l,∀ t,0≤t∧t≤1073741823→0≤g p t∧g p t≤1073741824) :
  ∀ (m:Nat) (times by_:List Int) (left:List Bool),Tm rooms times→by_.length=rooms→left.length=rooms→Tm rooms (R109_0 rooms fr ti l g m times by_ left).1∧(R109_0 rooms fr ti l g m times by_ left).2.length=rooms:=by
 intro m
 induction m with
 | zero=>intro times by_ left h1 h2 _; exact ⟨h1,h2⟩
 | succ m ih =>
  intro times by_ left h1 h2 h3
  rw [R109_0]
  split
  ·exact ⟨h1,h2⟩
  ·rename_i h0
   have hH:=R109_1_hr rooms fr ti l g times by_ left times 0 (-1) rfl (Hr.init _ _)
   have q:=hH.get h0
   have hl:=h1.len
   have k:=R109_2_tm rooms fr ti l g hg times by_ left _ rfl ⟨q.1,by omega⟩ l times by_ 0 (fun p hp=>hp) h1 h2 q.2.2.1
   exact ih _ _ _ k.1 k.2 (by rw [List.length_set]; exact h3)
theorem r109_tm {rooms:Nat} {fr ti:Int} {l:List Pg} {g:Pg→Int→Int} (ht:0≤ti∧ti≤1073741823) (hg:∀ p ∈ l,∀ t,0≤t∧t≤1073741823→0≤g p t∧g p t≤1073741824):Tm rooms (r109 rooms fr ti l g).1∧(r109 rooms fr ti l g).2.length=rooms :=
 R109_0_tm rooms fr ti l g hg (rooms+1) _ _ _ ((Tm.rep _ (by decide)).set _ (by omega)) (by simp) (by simp)
end House
end Go.Proofs
end
section
set_option linter.unusedSimpArgs false
set_option linter.unusedVariables false
namespace Go.Proofs
namespace House
open Go Go.RowKit Go.Aev
set_option maxRecDepth 100000
theorem tz124:szOf Tryz.prog 124=some 1:=by kernel_rfl
theorem tt124:inTab Tryz.prog 124=true:=by kernel_rfl
theorem t0_124:zeroOf Tryz.prog 124=some (.nilFunc):=by kernel_rfl
theorem TY_EvH27:type_of% (And.intro TY_EvH26 (And.intro (And.intro Tryz.underlying124 tz124) (And.intro tt124 t0_124))):=(And.intro TY_EvH26 (And.intro (And.intro Tryz.underlying124 tz124) (And.intro tt124 t0_124)))
structure Mx (n:Nat) (l:List Int):Prop where
 len:l.length=n
 all:∀ x ∈ l,-1≤x∧x≤1073741824
theorem Mx.set {n:Nat} {l:List Int} (h:Mx n l) (i:Nat) {x:Int} (hx : -1≤x∧x≤1073741824):Mx n (l.set i x):=⟨by rw [List.length_set]; exact h.len,fun y hy=>(List.mem_or_eq_of_mem_set hy).elim (h.all y) (fun e=>e ▸ hx)⟩
theorem Mx.at {n:Nat} {l:List Int} (h:Mx n l) {i:Nat} {x:Int} (hx:l[i]?=some x) : -1≤x∧x≤1073741824:=h.all x (List.mem_of_getElem? hx)
theorem Mx.of {n:Nat} {l:List Int} (h:Tm n l):Mx n l:=⟨h.len,fun x hx=>by have:=h.all x hx; omega⟩
end House
end Go.Proofs
end
