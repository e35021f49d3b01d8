import Derived.Test.YtohfdkdjfoonjaaGreatDoorBV
set_option linter.unusedSimpArgs false
set_option linter.unusedVariables false
namespace Go.Proofs
namespace House
open Go Go.RowKit Go.Aev
set_option maxRecDepth 100000
theorem lget_set_ne {α:Type} [Inhabited α] {l:List α} {i j:Nat} {x:α} (h:i≠j):lget (l.set i x) j=lget l j:=by
 unfold lget; rw [List.getD_eq_getElem?_getD,List.getD_eq_getElem?_getD,List.getElem?_set_ne h]
structure Crs (rooms:Nat) (l:List Pg) (g:Pg→Int→Int):Prop where
 rng:∀ p ∈ l,∀ t,0≤t∧t≤1073741823→0≤g p t∧g p t≤1073741824
 inf:∀ p ∈ l,∀ t,0≤t∧t≤1073741823→t≤g p t
 rms:∀ p ∈ l,0≤p.fr∧p.fr<(rooms:Int)∧0≤p.to∧p.to<(rooms:Int)
def MinAt (times:List Int) (left:List Bool) (kv:Nat) (here:Int):Prop:=∀ j,j<kv→lget left j=false→1073741823<lget times j∨(0≤here∧lget times here.toNat≤lget times j)
theorem R109_1_min (rooms:Nat) (fr ti:Int) (l:List Pg) (g:Pg→Int→Int) (times by_:List Int) (left:List Bool):∀ (m:List Int) (kv:Nat) (here:Int),times.drop kv=m→MinAt times left kv here→MinAt times left times.length (R109_1 rooms fr ti l g times by_ left m kv here):=by
 intro m
 induction m with
 | nil =>
  intro kv here hd h j hj hl
  have:=List.drop_eq_nil_iff.1 hd
  exact h j (by omega) hl
 | cons x m ih =>
  intro kv here hd h
  obtain ⟨hx,hd'⟩:=drop_unc hd
  have hk:lget times kv=x:=lget_of hx
  have next:∀ here',(∀ j,j<kv→lget left j=false→1073741823<lget times j∨(0≤here'∧lget times here'.toNat≤lget times j))→(lget left kv=false→1073741823<x∨(0≤here'∧lget times here'.toNat≤x))→MinAt times left (kv+1) here':=by
   intro here' h1 h2 j hj hl
   by_cases e:j=kv
   ·subst e; rw [hk]; exact h2 hl
   ·exact h1 j (by omega) hl
  have here_:lget times ((kv:Int)).toNat=x:=by rw [Int.toNat_natCast]; exact hk
  rw [R109_1]
  split
  ·rename_i h1
   exact ih _ _ hd' (next here h (fun e=>by rw [h1] at e; cases e))
  ·split
   ·split
    ·exact ih _ _ hd' (next _ (fun j hj hl=>(h j hj hl).imp id (fun q=>by omega)) (fun _=>.inr ⟨by omega,by rw [here_]; omega⟩))
    ·split
     ·exact ih _ _ hd' (next _ (fun j hj hl=>(h j hj hl).imp id (fun q=>⟨by omega,by rw [here_]; omega⟩)) (fun _=>.inr ⟨by omega,by rw [here_]; omega⟩))
     ·exact ih _ _ hd' (next here h (fun _=>.inr ⟨by omega,by omega⟩))
   ·exact ih _ _ hd' (next here h (fun _=>.inl (by omega)))
theorem R109_2_rel {rooms : Nat} {fr ti : Int} {l : List Pg} {g : Pg → Int → Int} (hg : Crs rooms l g) (times by_ : List Int) (left : List Bool) (here : Int) (he : R109_1 rooms fr ti l g times by_ left times 0 (-1) = here) (hT : Tm rooms times) (h0 : 0 ≤ here ∧ here < (rooms : Int)) (hc : lget times here.toNat ≤ 1073741823) :
    ∀ (m : List Pg) (t2 b2 : List Int) (j : Nat),(∀ p ∈ m,p ∈ l) → t2.length = rooms → (∀ i,lget t2 i ≤ lget times i) → (∀ i,lget times here.toNat ≤ lget t2 i ∨ lget t2 i = lget times i) → (∀ i,lget times i ≤ lget times here.toNat → lget t2 i = lget times i) →
      let r := (R109_2 rooms fr ti l g times by_ left m t2 b2 j).1
      (∀ i,lget r i ≤ lget t2 i) ∧ (∀ i,lget times here.toNat ≤ lget r i ∨ lget r i = lget times i) ∧ (∀ i,lget times i ≤ lget times here.toNat → lget r i = lget times i) ∧ ∀ p ∈ m,p.fr = here → lget r p.to.toNat ≤ g p (lget times here.toNat) := by
  intro m
  induction m with
  | nil => intro t2 b2 j _ h1 h2 h3 h4; exact ⟨fun i => Int.le_refl _,h3,h4,fun p hp => by simp at hp⟩
  | cons x m ih =>
    intro t2 b2 j hm h1 h2 h3 h4
    have hx := hm x (by simp)
    have hr := hg.rms x hx
    have hm' : ∀ p ∈ m,p ∈ l := fun p hp => hm p (by simp [hp])
    have c0 : 0 ≤ lget times here.toNat := (hT.at (lget_some (by have := hT.len; omega))).1
    have hh : lget t2 here.toNat = lget times here.toNat := h4 _ (Int.le_refl _)
    have inf := hg.inf x hx _ ⟨c0,hc⟩
    simp only
    rw [R109_2,he]
    by_cases e : x.fr = here
    · rw [if_pos e,hh]
      by_cases c : g x (lget times here.toNat) < lget t2 x.to.toNat
      · rw [if_pos c]
        have hs : lget (t2.set x.to.toNat (g x (lget times here.toNat))) x.to.toNat = g x (lget times here.toNat) := lget_set_self (by omega)
        have hn : ∀ i,x.to.toNat ≠ i → lget (t2.set x.to.toNat (g x (lget times here.toNat))) i = lget t2 i := fun i hi => lget_set_ne hi
        have q := ih (t2.set x.to.toNat (g x (lget times here.toNat))) (b2.set x.to.toNat (j : Int)) (j + 1) hm' (by rw [List.length_set]; exact h1)
          (fun i => by by_cases ei : x.to.toNat = i
                       · rw [← ei,hs]; have := h2 x.to.toNat; omega
                       · rw [hn i ei]; exact h2 i)
          (fun i => by by_cases ei : x.to.toNat = i
                       · rw [← ei,hs]; exact .inl inf
                       · rw [hn i ei]; exact h3 i)
          (fun i hi => by by_cases ei : x.to.toNat = i
                          · exfalso; have := h4 i hi; rw [← ei] at this hi; omega
                          · rw [hn i ei]; exact h4 i hi)
        refine ⟨fun i => ?_,q.2.1,q.2.2.1,fun p hp ep => ?_⟩
        · by_cases ei : x.to.toNat = i
          · have := q.1 i; rw [← ei,hs] at this; rw [← ei]; omega
          · have := q.1 i; rw [hn i ei] at this; exact this
        · rcases List.mem_cons.1 hp with rfl | hp
          · have := q.1 p.to.toNat; rw [hs] at this; exact this
          · exact q.2.2.2 p hp ep
      · rw [if_neg c]
        have q := ih t2 b2 (j + 1) hm' h1 h2 h3 h4
        refine ⟨q.1,q.2.1,q.2.2.1,fun p hp ep => ?_⟩
        rcases List.mem_cons.1 hp with rfl | hp
        · have := q.1 p.to.toNat; omega
        · exact q.2.2.2 p hp ep
    · rw [if_neg e]
      have q := ih t2 b2 (j + 1) hm' h1 h2 h3 h4
      refine ⟨q.1,q.2.1,q.2.2.1,fun p hp ep => ?_⟩
      rcases List.mem_cons.1 hp with rfl | hp
      · exact absurd ep e
      · exact q.2.2.2 p hp ep
structure Inv (rooms:Nat) (l:List Pg) (g:Pg→Int→Int) (times:List Int) (left:List Bool):Prop where
 tm:Tm rooms times
 len:left.length=rooms
 ord:∀ i j,i<rooms→j<rooms→lget left i=true→lget left j=false→lget times i≤lget times j
 cl:∀ p ∈ l,lget left p.fr.toNat=true→lget times p.to.toNat≤g p (lget times p.fr.toNat)
theorem lget_replicate {α:Type} [Inhabited α] {n i:Nat} {x:α} (h:i<n):lget (List.replicate n x) i=x:=by
 apply lget_of; rw [List.getElem?_replicate,if_pos h]
end House
end Go.Proofs
