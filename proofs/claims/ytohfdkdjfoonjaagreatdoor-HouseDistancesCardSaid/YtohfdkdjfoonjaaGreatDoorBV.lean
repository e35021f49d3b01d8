import Derived.Test.YtohfdkdjfoonjaaGreatDoorEvH28
section
set_option linter.unusedSimpArgs false
set_option linter.unusedVariables false
namespace Go.Proofs
namespace House
open Go Go.RowKit Go.Aev
set_option maxRecDepth 100000
def gt (p:Pg):Gt:=⟨p.way,p.fr,p.to,p.secs,p.door⟩
theorem r144_f (h:Hs) (k:Nat):r144 h (k:Int) false=(((k:Int),false,(lget h.ways k).a,(lget h.ways k).b,(lget h.ways k).secs,(lget h.ways k).door),true):=by
 unfold r144; rw [if_neg (by decide),Int.toNat_natCast]
theorem r144_t (h:Hs) (k:Nat):r144 h (k:Int) true=(((k:Int),true,(lget h.ways k).b,(lget h.ways k).a,(lget h.ways k).back,(lget h.ways k).door),decide (0<(lget h.ways k).back)):=by
 unfold r144; rw [if_pos rfl,Int.toNat_natCast]
theorem R116_gt (h:Hs):∀ (m:List Wy) (out:List Gt) (k:Nat),h.ways.drop k=m→R116_0 h m out k=out++(R148_0 h.rooms h.doors h.ways m k).map gt:=by
 intro m
 induction m with
 | nil=>intro out k _; simp [R116_0,R148_0]
 | cons w m ih =>
  intro out k hd
  obtain ⟨hx,hd'⟩:=drop_unc hd
  have hw:lget h.ways k=w:=lget_of hx
  rw [R116_0,R148_0]
  rw [r144_f,r144_t]
  simp only [hw,if_true]
  by_cases hb:0<w.back
  ·rw [if_pos hb,decide_eq_true hb,if_pos rfl,ih _ _ hd']
   simp [gt]
  ·rw [if_neg hb,decide_eq_false hb,if_neg (by decide),ih _ _ hd']
   simp [gt]
theorem gates_eq (h:Hs):r116 h=(psg h).map gt:=by
 unfold r116 psg r148
 rw [R116_gt h h.ways [] 0 rfl]; simp
theorem lget_mem' {α:Type} [Inhabited α] {l:List α} {i:Nat} (h:i<l.length):lget l i ∈ l:=List.mem_of_getElem? (lget_some h)
theorem no_here {times:List Int} {left:List Bool} {here:Int} (hH:Hr times left here) (hl:left.length=times.length) (hc:left.count false=0):here<0:=by
 rcases hH with rfl|⟨h1,h2,_,h4⟩
 ·omega
 ·have hm:lget left here.toNat ∈ left:=lget_mem' (by omega)
  rw [h4] at hm
  have:=List.count_pos_iff.2 hm
  omega
theorem set_self {l:List Int} {i:Nat}:l.set i (lget l i)=l:=by
 by_cases h:i<l.length
 ·rw [show lget l i=l[i] from lget_of (List.getElem?_eq_getElem h),List.set_getElem_self]
 ·rw [List.set_eq_of_length_le (by omega)]
theorem sim1 (rooms:Nat) (fr ti:Int) (l:List Pg) (g:Pg→Int→Int) (times by_:List Int) (left:List Bool) (h:Hs) (fr' ti':Int) (nv:Nat):∀ (m:List Int) (kv:Nat) (here:Int),R109_1 rooms fr ti l g times by_ left m kv here=R50_2 h fr' ti' times left nv m here kv:=by
 intro m
 induction m with
 | nil=>intro kv here; rfl
 | cons x m ih =>
  intro kv here
  rw [R109_1,R50_2]
  by_cases h1:lget left kv=true
  ·rw [if_pos h1,if_pos h1,ih]
  ·rw [if_neg h1,if_neg h1]
   by_cases h2:x≤1073741823
   ·rw [if_pos h2,if_pos (show x<1073741824 by omega)]
    by_cases h3:here<0
    ·rw [if_pos h3,if_pos h3,ih]
    ·rw [if_neg h3,if_neg h3,show max here 0=here by omega]
     by_cases h4:x<lget times here.toNat
     ·rw [if_pos h4,if_pos h4,ih]
     ·rw [if_neg h4,if_neg h4,ih]
   ·rw [if_neg h2,if_neg (show ¬ x<1073741824 by omega),ih]
theorem r99_r145 {h:Hs} (hV:r59 h=0) {p:Pg} (hp:OkP h p) {t:Int} (ht:0≤t∧t≤1073741823):r99 h (gt p) t=r145 p t h:=by
 have hd:=hp.d
 unfold r99 r145
 show (if 0≤p.door then _ else _)=_
 by_cases h1:0≤p.door
 ·rw [if_pos h1,if_pos h1,next_eq (oko hV (List.mem_of_getElem? (lget_some (l:=h.doors) (i:=Int.toNat p.door) (by omega)))) ht]; rfl
 ·rw [if_neg h1,if_neg h1]; rfl
theorem sim2 {h:Hs} (hV:r59 h=0) (fr ti fr' ti':Int) (l:List Pg) (times by_:List Int) (left:List Bool) (nv:Nat) (here:Int)
  (he:R109_1 h.rooms.length fr ti l (fun p t=>r145 p t h) times by_ left times 0 (-1)=here) (he':R50_2 h fr' ti' times left nv times (-1) 0=here) (h0:0≤here∧here<(h.rooms.length:Int)) :
  ∀ (m:List Pg) (t2 b2:List Int) (j:Nat),(∀ p ∈ m,p ∈ psg h)→Tm h.rooms.length t2→lget t2 here.toNat≤1073741823 →
   (R109_2 h.rooms.length fr ti l (fun p t=>r145 p t h) times by_ left m t2 b2 j).1=R50_3 h fr' ti' times left nv (m.map gt) t2:=by
 intro m
 induction m with
 | nil=>intro t2 b2 j _ _ _; rfl
 | cons x m ih =>
  intro t2 b2 j hm h1 h3
  have hx:=hm x (by simp)
  have k:=psg_ok hV hx
  have hm':∀ p ∈ m,p ∈ psg h:=fun p hp=>hm p (by simp [hp])
  have h4:0≤lget t2 here.toNat:=(h1.at (lget_some (by have:=h1.len; omega))).1
  rw [List.map_cons,R109_2,R50_3,he,he']
  show _=if x.fr=here then _ else _
  by_cases e:x.fr=here
  ·rw [if_pos e,if_pos e,r99_r145 hV k.ok ⟨h4,h3⟩]
   show _=R50_3 h fr' ti' times left nv (m.map gt) (t2.set x.to.toNat (min (lget t2 x.to.toNat) (r145 x (lget t2 here.toNat) h)))
   have hv:=r145_ge k.ok (t:=lget t2 here.toNat) ⟨h4,h3⟩
   by_cases c:r145 x (lget t2 here.toNat) h<lget t2 x.to.toNat
   ·rw [if_pos c,show min (lget t2 x.to.toNat) (r145 x (lget t2 here.toNat) h)=r145 x (lget t2 here.toNat) h by omega]
    exact ih _ _ _ hm' (h1.set _ (by omega)) (lget_set_le h3 c)
   ·rw [if_neg c,show min (lget t2 x.to.toNat) (r145 x (lget t2 here.toNat) h)=lget t2 x.to.toNat by omega,set_self]
    exact ih _ _ _ hm' h1 h3
  ·rw [if_neg e,if_neg e]
   exact ih _ _ _ hm' h1 h3
theorem sim0 {h:Hs} (hV:r59 h=0) (fr ti fr' ti':Int):∀ (m:List Rm) (times by_:List Int) (left:List Bool) (nv:Nat),Tm h.rooms.length times→by_.length=h.rooms.length→left.length=h.rooms.length→left.count false≤m.length →
  (R109_0 h.rooms.length fr ti (psg h) (fun p t=>r145 p t h) (m.length+1) times by_ left).1=onSum (R50_1 h fr' ti' m times left nv) (fun r=>r) (fun r=>r):=by
 intro m
 induction m with
 | nil =>
  intro times by_ left nv h1 h2 h3 h4
  have hH:=R109_1_hr h.rooms.length fr ti (psg h) (fun p t=>r145 p t h) times by_ left times 0 (-1) rfl (Hr.init _ _)
  have hn:=no_here hH (by have:=h1.len; omega) (by simpa using h4)
  rw [R109_0,if_pos hn]; rfl
 | cons x m ih =>
  intro times by_ left nv h1 h2 h3 h4
  have hH:=R109_1_hr h.rooms.length fr ti (psg h) (fun p t=>r145 p t h) times by_ left times 0 (-1) rfl (Hr.init _ _)
  have e2:=sim1 h.rooms.length fr ti (psg h) (fun p t=>r145 p t h) times by_ left h fr' ti' nv times 0 (-1)
  rw [R109_0,R50_1]
  generalize he:R109_1 h.rooms.length fr ti (psg h) (fun p t=>r145 p t h) times by_ left times 0 (-1)=here at *
  rw [← e2]
  by_cases hn:here<0
  ·rw [if_pos hn,if_pos hn]; rfl
  ·rw [if_neg hn,if_neg hn]
   have q:=hH.get hn
   have hl:=h1.len
   have k:=R109_2_tm h.rooms.length fr ti (psg h) (fun p t=>r145 p t h) (psg_hg hV) times by_ left here he ⟨q.1,by omega⟩ (psg h) times by_ 0 (fun p hp=>hp) h1 h2 q.2.2.1
   have s:=sim2 hV fr ti fr' ti' (psg h) times by_ left nv here he e2.symm ⟨q.1,by omega⟩ (psg h) times by_ 0 (fun p hp=>hp) h1 q.2.2.1
   rw [← gates_eq] at s
   rw [← s]
   have hc:=cnt_set left here.toNat (by omega) q.2.2.2
   exact ih _ _ _ _ k.1 k.2 (by rw [List.length_set]; exact h3) (by simp only [List.length_cons] at h4; omega)
theorem arrivals_eq {h:Hs} (hV:r59 h=0) {fr ti:Int} (ht:0≤ti∧ti≤1073741823):r106 h fr ti=r50 h fr ti:=by
 show (R109_0 h.rooms.length fr ti (psg h) (fun p t=>r145 p t h) (h.rooms.length+1) _ _ _).1=onSum (R50_1 h fr ti h.rooms _ _ 0) _ _
 rw [R50_0_eq]
 exact sim0 hV fr ti fr ti h.rooms _ _ _ 0 ((Tm.rep _ (by decide)).set _ (by omega)) (by simp) (by simp) (by simp)
end House
end Go.Proofs
end
section
set_option linter.unusedSimpArgs false
set_option linter.unusedVariables false
namespace Go.Proofs
namespace House
open Go Go.RowKit Go.Aev
set_option maxRecDepth 100000
theorem R47_self (l q:List Int):∀ (m:List Int) (k:Nat),q.drop k=m→onSum (R47_0 l q m k) (fun r=>r) (fun _=>true)=true:=by
 intro m
 induction m with
 | nil=>intro k _; rfl
 | cons x m ih =>
  intro k hd
  obtain ⟨hx,hd'⟩:=drop_unc hd
  rw [R47_0,if_pos (lget_of hx).symm]
  exact ih _ hd'
theorem r47_self (l:List Int):r47 l l=true:=by
 unfold r47
 rw [if_pos rfl]
 exact R47_self l l l 0 rfl
end House
end Go.Proofs
end
