import Derived.Test.YtohfdkdjfoonjaaGreatDoorBV
section
set_option linter.unusedSimpArgs false
set_option linter.unusedVariables false
namespace Go.Proofs
namespace House
open Go Go.RowKit Go.Aev
set_option maxRecDepth 100000
theorem lget_set_ne {α:Type} [Inhabited α] {l:List α} {i j:Nat} {x:α} (h:i≠j):lget (l.set i x) j=lget l j:=by
 unfold lget; rw [List.getD_eq_getElem?_getD,List.getD_eq_getElem?_getD,List.getElem?_set_ne h]
structure Crs (rooms:Nat) (l:List Pg) (g:Pg→Int→Int):Prop where
 rng:∀ p ∈ l,∀ t,0≤t∧t≤1073741823→0≤g p t∧g p t≤1073741824
 inf:∀ p ∈ l,∀ t,0≤t∧t≤1073741823→t≤g p t
 rms:∀ p ∈ l,0≤p.fr∧p.fr<(rooms:Int)∧0≤p.to∧p.to<(rooms:Int)
def MinAt (times:List Int) (left:List Bool) (kv:Nat) (here:Int):Prop:=∀ j,j<kv→lget left j=false→1073741823<lget times j∨(0≤here∧lget times here.toNat≤lget times j)
theorem R109_1_min (rooms:Nat) (fr ti:Int) (l:List Pg) (g:Pg→Int→Int) (times by_:List Int) (left:List Bool):∀ (m:List Int) (kv:Nat) (here:Int),times.drop kv=m→MinAt times left kv here→MinAt times left times.length (R109_1 rooms fr ti l g times by_ left m kv here):=by
 intro m
 induction m with
 | nil =>
  intro kv here hd h j hj hl
  have:=List.drop_eq_nil_iff.1 hd
  exact h j (by omega) hl
 | cons x m ih =>
  intro kv here hd h
  obtain ⟨hx,hd'⟩:=drop_unc hd
  have hk:lget times kv=x:=lget_of hx
  have next:∀ here',(∀ j,j<kv→lget left j=false→1073741823<lget times j∨(0≤here'∧lget times here'.toNat≤lget times j))→(lget left kv=false→1073741823<x∨(0≤here'∧lget times here'.toNat≤x))→MinAt times left (kv+1) here':=by
   intro here' h1 h2 j hj hl
   by_cases e:j=kv
   ·subst e; rw [hk]; exact h2 hl
   ·exact h1 j (by omega) hl
  have here_:lget times ((kv:Int)).toNat=x:=by rw [Int.toNat_natCast]; exact hk
  rw [R109_1]
  split
  ·rename_i h1
   exact ih _ _ hd' (next here h (fun e=>by rw [h1] at e; cases e))
  ·split
   ·split
    ·exact ih _ _ hd' (next _ (fun j hj hl=>(h j hj hl).imp id (fun q=>by omega)) (fun _=>.inr ⟨by omega,by rw [here_]; omega⟩))
    ·split
     ·exact ih _ _ hd' (next _ (fun j hj hl=>(h j hj hl).imp id (fun q=>⟨by omega,by rw [here_]; omega⟩)) (fun _=>.inr ⟨by omega,by rw [here_]; omega⟩))
     ·exact ih _ _ hd' (next here h (fun _=>.inr ⟨by omega,by omega⟩))
   ·exact ih _ _ hd' (next here h (fun _=>.inl (by omega)))
theorem R109_2_rel {rooms : Nat} {fr ti : Int} {l : List Pg} {g : Pg → Int → Int} (hg : Crs rooms l g) (times by_ : List Int) (left : List Bool) (here : Int) (he : R109_1 rooms fr ti l g times by_ left times 0 (-1) = here) (hT : Tm rooms times) (h0 : 0 ≤ here ∧ here < (rooms : Int)) (hc : lget times here.toNat ≤ 1073741823) :
    ∀ (m : List Pg) (t2 b2 : List Int) (j : Nat),(∀ p ∈ m,p ∈ l) → t2.length = rooms → (∀ i,lget t2 i ≤ lget times i) → (∀ i,lget times here.toNat ≤ lget t2 i ∨ lget t2 i = lget times i) → (∀ i,lget times i ≤ lget times here.toNat → lget t2 i = lget times i) →
      let r := (R109_2 rooms fr ti l g times by_ left m t2 b2 j).1
      (∀ i,lget r i ≤ lget t2 i) ∧ (∀ i,lget times here.toNat ≤ lget r i ∨ lget r i = lget times i) ∧ (∀ i,lget times i ≤ lget times here.toNat → lget r i = lget times i) ∧ ∀ p ∈ m,p.fr = here → lget r p.to.toNat ≤ g p (lget times here.toNat) := by
  intro m
  induction m with
  | nil => intro t2 b2 j _ h1 h2 h3 h4; exact ⟨fun i => Int.le_refl _,h3,h4,fun p hp => by simp at hp⟩
  | cons x m ih =>
    intro t2 b2 j hm h1 h2 h3 h4
    have hx := hm x (by simp)
    have hr := hg.rms x hx
    have hm' : ∀ p ∈ m,p ∈ l := fun p hp => hm p (by simp [hp])
    have c0 : 0 ≤ lget times here.toNat := (hT.at (lget_some (by have := hT.len; omega))).1
    have hh : lget t2 here.toNat = lget times here.toNat := h4 _ (Int.le_refl _)
    have inf := hg.inf x hx _ ⟨c0,hc⟩
    simp only
    rw [R109_2,he]
    by_cases e : x.fr = here
    · rw [if_pos e,hh]
      by_cases c : g x (lget times here.toNat) < lget t2 x.to.toNat
      · rw [if_pos c]
        have hs : lget (t2.set x.to.toNat (g x (lget times here.toNat))) x.to.toNat = g x (lget times here.toNat) := lget_set_self (by omega)
        have hn : ∀ i,x.to.toNat ≠ i → lget (t2.set x.to.toNat (g x (lget times here.toNat))) i = lget t2 i := fun i hi => lget_set_ne hi
        have q := ih (t2.set x.to.toNat (g x (lget times here.toNat))) (b2.set x.to.toNat (j : Int)) (j + 1) hm' (by rw [List.length_set]; exact h1)
          (fun i => by by_cases ei : x.to.toNat = i
                       · rw [← ei,hs]; have := h2 x.to.toNat; omega
                       · rw [hn i ei]; exact h2 i)
          (fun i => by by_cases ei : x.to.toNat = i
                       · rw [← ei,hs]; exact .inl inf
                       · rw [hn i ei]; exact h3 i)
          (fun i hi => by by_cases ei : x.to.toNat = i
                          · exfalso; have := h4 i hi; rw [← ei] at this hi; omega
                          · rw [hn i ei]; exact h4 i hi)
        refine ⟨fun i => ?_,q.2.1,q.2.2.1,fun p hp ep => ?_⟩
        · by_cases ei : x.to.toNat = i
          · have := q.1 i; rw [← ei,hs] at this; rw [← ei]; omega
          · have := q.1 i; rw [hn i ei] at this; exact this
        · rcases List.mem_cons.1 hp with rfl | hp
          · have := q.1 p.to.toNat; rw [hs] at this; exact this
          · exact q.2.2.2 p hp ep
      · rw [if_neg c]
        have q := ih t2 b2 (j + 1) hm' h1 h2 h3 h4
        refine ⟨q.1,q.2.1,q.2.2.1,fun p hp ep => ?_⟩
        rcases List.mem_cons.1 hp with rfl | hp
        · have := q.1 p.to.toNat; omega
        · exact q.2.2.2 p hp ep
    · rw [if_neg e]
      have q := ih t2 b2 (j + 1) hm' h1 h2 h3 h4
      refine ⟨q.1,q.2.1,q.2.2.1,fun p hp ep => ?_⟩
      rcases List.mem_cons.1 hp with rfl | hp
      · exact absurd ep e
      · exact q.2.2.2 p hp ep
structure Inv (rooms:Nat) (l:List Pg) (g:Pg→Int→Int) (times:List Int) (left:List Bool):Prop where
 tm:Tm rooms times
 len:left.length=rooms
 ord:∀ i j,i<rooms→j<rooms→lget left i=true→lget left j=false→lget times i≤lget times j
 cl:∀ p ∈ l,lget left p.fr.toNat=true→lget times p.to.toNat≤g p (lget times p.fr.toNat)
theorem R109_0_closed {rooms:Nat} {fr ti:Int} {l:List Pg} {g:Pg→Int→Int} (hg:Crs rooms l g):∀ (m:Nat) (times by_:List Int) (left:List Bool),by_.length=rooms→left.count false<m→Inv rooms l g times left →
  ∀ p ∈ l,lget (R109_0 rooms fr ti l g m times by_ left).1 p.fr.toNat≤1073741823→lget (R109_0 rooms fr ti l g m times by_ left).1 p.to.toNat≤g p (lget (R109_0 rooms fr ti l g m times by_ left).1 p.fr.toNat):=by
 intro m
 induction m with
 | zero=>intro times by_ left _ h; omega
 | succ m ih =>
  intro times by_ left hb hm hI
  have hH:=R109_1_hr rooms fr ti l g times by_ left times 0 (-1) rfl (Hr.init _ _)
  have hM:=R109_1_min rooms fr ti l g times by_ left times 0 (-1) rfl (fun j hj=>by omega)
  have hlen:=hI.tm.len
  rw [R109_0]
  generalize he:R109_1 rooms fr ti l g times by_ left times 0 (-1)=here at *
  by_cases hn:here<0
  ·rw [if_pos hn]
   intro p hp hle
   have hr:=hg.rms p hp
   have hle:lget times p.fr.toNat≤1073741823:=hle
   cases hb2:lget left p.fr.toNat with
   | true=>exact hI.cl p hp hb2
   | false =>
    rcases hM p.fr.toNat (by omega) hb2 with h|h
    ·omega
    ·omega
  ·rw [if_neg hn]
   have q:=hH.get hn
   have hT:=R109_2_tm rooms fr ti l g hg.rng times by_ left here he ⟨q.1,by omega⟩ l times by_ 0 (fun p hp=>hp) hI.tm hb q.2.2.1
   have r:=R109_2_rel (fr:=fr) (ti:=ti) hg times by_ left here he hI.tm ⟨q.1,by omega⟩ q.2.2.1 l times by_ 0 (fun p hp=>hp) hlen (fun i=>Int.le_refl _) (fun i=>.inr rfl) (fun i _=>rfl)
   have hll:=hI.len
   have hc:=cnt_set left here.toNat (by omega) q.2.2.2
   refine ih _ _ _ hT.2 (by omega) ⟨hT.1,by rw [List.length_set]; exact hI.len,?_,?_⟩
   ·intro i j hi hj h1 h2
    have ej:here.toNat≠j:=by
     rintro rfl
     rw [lget_set_self (by omega)] at h2; cases h2
    rw [lget_set_ne ej] at h2
    have hj2:lget times here.toNat≤lget times j:=by
     rcases hM j (by omega) h2 with h|h
     ·omega
     ·exact h.2
    have hj3:lget times here.toNat≤lget (R109_2 rooms fr ti l g times by_ left l times by_ 0).1 j:=by
     rcases r.2.1 j with h|h
     ·exact h
     ·rw [h]; exact hj2
    by_cases ei:here.toNat=i
    ·rw [← ei,r.2.2.1 here.toNat (Int.le_refl _)]; exact hj3
    ·rw [lget_set_ne ei] at h1
     have h3:=hI.ord i here.toNat hi (by omega) h1 q.2.2.2
     rw [r.2.2.1 i h3]; omega
   ·intro p hp h1
    have hr:=hg.rms p hp
    by_cases ei:here.toNat=p.fr.toNat
    ·rw [← ei,r.2.2.1 here.toNat (Int.le_refl _)]
     exact r.2.2.2 p hp (by omega)
    ·rw [lget_set_ne ei] at h1
     have h3:=hI.ord p.fr.toNat here.toNat (by omega) (by omega) h1 q.2.2.2
     rw [r.2.2.1 _ h3]
     have:=r.1 p.to.toNat
     have:=hI.cl p hp h1
     omega
theorem lget_replicate {α:Type} [Inhabited α] {n i:Nat} {x:α} (h:i<n):lget (List.replicate n x) i=x:=by
 apply lget_of; rw [List.getElem?_replicate,if_pos h]
theorem closed {rooms:Nat} {fr ti:Int} {l:List Pg} {g:Pg→Int→Int} (hg:Crs rooms l g) (ht:0≤ti∧ti≤1073741823) :
  ∀ p ∈ l,lget (r109 rooms fr ti l g).1 p.fr.toNat≤1073741823→lget (r109 rooms fr ti l g).1 p.to.toNat≤g p (lget (r109 rooms fr ti l g).1 p.fr.toNat) :=
 R109_0_closed hg (rooms+1) _ _ _ (by simp) (by rw [List.count_replicate_self]; omega) ⟨(Tm.rep _ (by decide)).set _ (by omega),by simp,fun i j hi hj h=>absurd h (by rw [lget_replicate hi]; decide),fun p hp h=>absurd h (by have:=hg.rms p hp; rw [lget_replicate (by omega)]; decide)⟩
theorem R109_2_lb {rooms:Nat} {fr ti:Int} {l:List Pg} {g:Pg→Int→Int} (W:Nat→Int) (hW:∀ p ∈ l,∀ t,W p.fr.toNat≤t→0≤t∧t≤1073741823→W p.to.toNat≤g p t) (hg:Crs rooms l g) (times by_:List Int) (left:List Bool) (here:Int) (he:R109_1 rooms fr ti l g times by_ left times 0 (-1)=here) (h0:0≤here∧here<(rooms:Int)) :
  ∀ (m:List Pg) (t2 b2:List Int) (j:Nat),(∀ p ∈ m,p ∈ l)→Tm rooms t2→lget t2 here.toNat≤1073741823→(∀ i,i<rooms→W i≤lget t2 i)→∀ i,i<rooms→W i≤lget (R109_2 rooms fr ti l g times by_ left m t2 b2 j).1 i:=by
 intro m
 induction m with
 | nil=>intro t2 b2 j _ _ _ h; exact h
 | cons x m ih =>
  intro t2 b2 j hm h1 h2 h3
  have hx:=hm x (by simp)
  have hr:=hg.rms x hx
  have hm':∀ p ∈ m,p ∈ l:=fun p hp=>hm p (by simp [hp])
  have c0:0≤lget t2 here.toNat:=(h1.at (lget_some (by have:=h1.len; omega))).1
  rw [R109_2,he]
  split
  ·rename_i e
   split
   ·rename_i c
    refine ih _ _ _ hm' (h1.set _ (hg.rng x hx _ ⟨c0,h2⟩)) (lget_set_le h2 c) (fun i hi=>?_)
    by_cases ei:x.to.toNat=i
    ·rw [← ei,lget_set_self (by have:=h1.len; omega)]
     exact hW x hx _ (by rw [e]; exact h3 _ (by omega)) ⟨c0,h2⟩
    ·rw [lget_set_ne ei]; exact h3 i hi
   ·exact ih _ _ _ hm' h1 h2 h3
  ·exact ih _ _ _ hm' h1 h2 h3
theorem R109_0_lb {rooms:Nat} {fr ti:Int} {l:List Pg} {g:Pg→Int→Int} (W:Nat→Int) (hW:∀ p ∈ l,∀ t,W p.fr.toNat≤t→0≤t∧t≤1073741823→W p.to.toNat≤g p t) (hg:Crs rooms l g):∀ (m:Nat) (times by_:List Int) (left:List Bool),Tm rooms times→by_.length=rooms→left.length=rooms→(∀ i,i<rooms→W i≤lget times i) →
  ∀ i,i<rooms→W i≤lget (R109_0 rooms fr ti l g m times by_ left).1 i:=by
 intro m
 induction m with
 | zero=>intro times by_ left _ _ _ h; exact h
 | succ m ih =>
  intro times by_ left h1 h2 h3 h4
  rw [R109_0]
  split
  ·exact h4
  ·rename_i hn
   have hH:=R109_1_hr rooms fr ti l g times by_ left times 0 (-1) rfl (Hr.init _ _)
   have q:=hH.get hn
   have hl:=h1.len
   have hT:=R109_2_tm rooms fr ti l g hg.rng times by_ left _ rfl ⟨q.1,by omega⟩ l times by_ 0 (fun p hp=>hp) h1 h2 q.2.2.1
   exact ih _ _ _ hT.1 hT.2 (by rw [List.length_set]; exact h3) (R109_2_lb W hW hg times by_ left _ rfl ⟨q.1,by omega⟩ l times by_ 0 (fun p hp=>hp) h1 q.2.2.1 h4)
theorem least {rooms:Nat} {fr ti:Int} {l:List Pg} {g:Pg→Int→Int} (W:Nat→Int) (hg:Crs rooms l g) (hW:∀ p ∈ l,∀ t,W p.fr.toNat≤t→0≤t∧t≤1073741823→W p.to.toNat≤g p t) (hf:0≤fr∧fr<(rooms:Int)) (ht:0≤ti∧ti≤1073741823) (h0:W fr.toNat≤ti) (h1:∀ i,i<rooms→W i≤1073741824) :
  ∀ i,i<rooms→W i≤lget (r109 rooms fr ti l g).1 i:=by
 refine R109_0_lb W hW hg (rooms+1) _ _ _ ((Tm.rep _ (by decide)).set _ (by omega)) (by simp) (by simp) (fun i hi=>?_)
 by_cases e:fr.toNat=i
 ·rw [← e,lget_set_self (by simp; omega)]; exact h0
 ·rw [lget_set_ne e,lget_replicate hi]; exact h1 i hi
theorem start_le {rooms:Nat} {fr ti:Int} {l:List Pg} {g:Pg→Int→Int} (hg:Crs rooms l g) (hf:0≤fr∧fr<(rooms:Int)) (ht:0≤ti∧ti≤1073741823):lget (r109 rooms fr ti l g).1 fr.toNat≤ti:=by
 have mono:∀ (m:Nat) (times by_:List Int) (left:List Bool),Tm rooms times→by_.length=rooms→left.length=rooms→∀ i,lget (R109_0 rooms fr ti l g m times by_ left).1 i≤lget times i:=by
  intro m
  induction m with
  | zero=>intro times by_ left _ _ _ i; exact Int.le_refl _
  | succ m ih =>
   intro times by_ left h1 h2 h3 i
   rw [R109_0]
   split
   ·exact Int.le_refl _
   ·rename_i hn
    have hH:=R109_1_hr rooms fr ti l g times by_ left times 0 (-1) rfl (Hr.init _ _)
    have q:=hH.get hn
    have hl:=h1.len
    have hT:=R109_2_tm rooms fr ti l g hg.rng times by_ left _ rfl ⟨q.1,by omega⟩ l times by_ 0 (fun p hp=>hp) h1 h2 q.2.2.1
    have r:=R109_2_rel (fr:=fr) (ti:=ti) hg times by_ left _ rfl h1 ⟨q.1,by omega⟩ q.2.2.1 l times by_ 0 (fun p hp=>hp) hl (fun i=>Int.le_refl _) (fun i=>.inr rfl) (fun i _=>rfl)
    have:=ih _ _ (left.set (R109_1 rooms fr ti l g times by_ left times 0 (-1)).toNat true) hT.1 hT.2 (by rw [List.length_set]; exact h3) i
    have:=r.1 i
    omega
 have:=mono (rooms+1) _ _ _ ((Tm.rep rooms (x:=1073741824) (by decide)).set fr.toNat (x:=ti) (by omega)) (show (List.replicate rooms (-1:Int)).length=rooms by simp) (show (List.replicate rooms false).length=rooms by simp) fr.toNat
 rw [lget_set_self (by simp; omega)] at this
 exact this
end House
end Go.Proofs
end
section
set_option linter.unusedSimpArgs false
set_option linter.unusedVariables false
namespace Go.Proofs
namespace House
open Go Go.RowKit Go.Aev
set_option maxRecDepth 100000
end House
end Go.Proofs
end
section
set_option linter.unusedSimpArgs false
set_option linter.unusedVariables false
namespace Go.Proofs
namespace House
open Go Go.RowKit Go.Aev
set_option maxRecDepth 100000
end House
end Go.Proofs
end
section
set_option linter.unusedSimpArgs false
set_option linter.unusedVariables false
namespace Go.Proofs
namespace House
open Go Go.RowKit Go.Aev
set_option maxRecDepth 100000
theorem crs {h:Hs} (hV:r59 h=0):Crs h.rooms.length (psg h) (fun p t=>r145 p t h):=⟨psg_hg hV,fun p hp t ht=>(r145_ge (psg_ok hV hp).ok ht).1,psg_hp hV⟩
theorem r106_tm {h:Hs} (hV:r59 h=0) {fr ti:Int} (ht:0≤ti∧ti≤1073741823):Tm h.rooms.length (r106 h fr ti):=(r109_tm (rooms:=h.rooms.length) (fr:=fr) ht (psg_hg hV)).1
theorem r106_closed {h:Hs} (hV:r59 h=0) {fr ti:Int} (ht:0≤ti∧ti≤1073741823):∀ p ∈ psg h,lget (r106 h fr ti) p.fr.toNat≤1073741823→lget (r106 h fr ti) p.to.toNat≤r145 p (lget (r106 h fr ti) p.fr.toNat) h :=
 closed (fr:=fr) (crs hV) ht
theorem r106_start {h:Hs} (hV:r59 h=0) {fr ti:Int} (hf:0≤fr∧fr<(h.rooms.length:Int)) (ht:0≤ti∧ti≤1073741823):lget (r106 h fr ti) fr.toNat≤ti:=start_le (crs hV) hf ht
end House
end Go.Proofs
end
