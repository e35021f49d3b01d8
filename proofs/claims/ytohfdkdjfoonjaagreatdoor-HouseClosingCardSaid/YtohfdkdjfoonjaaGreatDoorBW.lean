import Derived.Test.YtohfdkdjfoonjaaGreatDoorBV
section
set_option linter.unusedSimpArgs false
set_option linter.unusedVariables false
namespace Go.Proofs
namespace House
open Go Go.RowKit Go.Aev
set_option maxRecDepth 100000
theorem lget_set_ne {α:Type} [Inhabited α] {l:List α} {i j:Nat} {x:α} (h:i≠j):lget (l.set i x) j=lget l j:=by
 unfold lget; rw [List.getD_eq_getElem?_getD,List.getD_eq_getElem?_getD,List.getElem?_set_ne h]
structure Crs (rooms:Nat) (l:List Pg) (g:Pg→Int→Int):Prop where
 rng:∀ p ∈ l,∀ t,0≤t∧t≤1073741823→0≤g p t∧g p t≤1073741824
 inf:∀ p ∈ l,∀ t,0≤t∧t≤1073741823→t≤g p t
 rms:∀ p ∈ l,0≤p.fr∧p.fr<(rooms:Int)∧0≤p.to∧p.to<(rooms:Int)
def MinAt (times:List Int) (left:List Bool) (kv:Nat) (here:Int):Prop:=∀ j,j<kv→lget left j=false→1073741823<lget times j∨(0≤here∧lget times here.toNat≤lget times j)
theorem R109_1_min (rooms:Nat) (fr ti:Int) (l:List Pg) (g:Pg→Int→Int) (times by_:List Int) (left:List Bool):∀ (m:List Int) (kv:Nat) (here:Int),times.drop kv=m→MinAt times left kv here→MinAt times left times.length (R109_1 rooms fr ti l g times by_ left m kv here):=by
 intro m
 induction m with
 | nil =>
  intro kv here hd h j hj hl
  have:=List.drop_eq_nil_iff.1 hd
  exact h j (by omega) hl
 | cons x m ih =>
  intro kv here hd h
  obtain ⟨hx,hd'⟩:=drop_unc hd
  have hk:lget times kv=x:=lget_of hx
  have next:∀ here',(∀ j,j<kv→lget left j=false→1073741823<lget times j∨(0≤here'∧lget times here'.toNat≤lget times j))→(lget left kv=false→1073741823<x∨(0≤here'∧lget times here'.toNat≤x))→MinAt times left (kv+1) here':=by
   intro here' h1 h2 j hj hl
   by_cases e:j=kv
   ·subst e; rw [hk]; exact h2 hl
   ·exact h1 j (by omega) hl
  have here_:lget times ((kv:Int)).toNat=x:=by rw [Int.toNat_natCast]; exact hk
  rw [R109_1]
  split
  ·rename_i h1
   exact ih _ _ hd' (next here h (fun e=>by rw [h1] at e; cases e))
  ·split
   ·split
    ·exact ih _ _ hd' (next _ (fun j hj hl=>(h j hj hl).imp id (fun q=>by omega)) (fun _=>.inr ⟨by omega,by rw [here_]; omega⟩))
    ·split
     ·exact ih _ _ hd' (next _ (fun j hj hl=>(h j hj hl).imp id (fun q=>⟨by omega,by rw [here_]; omega⟩)) (fun _=>.inr ⟨by omega,by rw [here_]; omega⟩))
     ·exact ih _ _ hd' (next here h (fun _=>.inr ⟨by omega,by omega⟩))
   ·exact ih _ _ hd' (next here h (fun _=>.inl (by omega)))
theorem R109_2_rel {rooms : Nat} {fr ti : Int} {l : List Pg} {g : Pg → Int → Int} (hg : Crs rooms l g) (times by_ : List Int) (left : List Bool) (here : Int) (he : R109_1 rooms fr ti l g times by_ left times 0 (-1) = here) (hT : Tm rooms times) (h0 : 0 ≤ here ∧ here < (rooms : Int)) (hc : lget times here.toNat ≤ 1073741823) :
    ∀ (m : List Pg) (t2 b2 : List Int) (j : Nat),(∀ p ∈ m,p ∈ l) → t2.length = rooms → (∀ i,lget t2 i ≤ lget times i) → (∀ i,lget times here.toNat ≤ lget t2 i ∨ lget t2 i = lget times i) → (∀ i,lget times i ≤ lget times here.toNat → lget t2 i = lget times i) →
      let r := (R109_2 rooms fr ti l g times by_ left m t2 b2 j).1
      (∀ i,lget r i ≤ lget t2 i) ∧ (∀ i,lget times here.toNat ≤ lget r i ∨ lget r i = lget times i) ∧ (∀ i,lget times i ≤ lget times here.toNat → lget r i = lget times i) ∧ ∀ p ∈ m,p.fr = here → lget r p.to.toNat ≤ g p (lget times here.toNat) := by
  intro m
  induction m with
  | nil => intro t2 b2 j _ h1 h2 h3 h4; exact ⟨fun i => Int.le_refl _,h3,h4,fun p hp => by simp at hp⟩
  | cons x m ih =>
    intro t2 b2 j hm h1 h2 h3 h4
    have hx := hm x (by simp)
    have hr := hg.rms x hx
    have hm' : ∀ p ∈ m,p ∈ l := fun p hp => hm p (by simp [hp])
    have c0 : 0 ≤ lget times here.toNat := (hT.at (lget_some (by have := hT.len; omega))).1
    have hh : lget t2 here.toNat = lget times here.toNat := h4 _ (Int.le_refl _)
    have inf := hg.inf x hx _ ⟨c0,hc⟩
    simp only
    rw [R109_2,he]
    by_cases e : x.fr = here
    · rw [if_pos e,hh]
      by_cases c : g x (lget times here.toNat) < lget t2 x.to.toNat
      · rw [if_pos c]
        have hs : lget (t2.set x.to.toNat (g x (lget times here.toNat))) x.to.toNat = g x (lget times here.toNat) := lget_set_self (by omega)
        have hn : ∀ i,x.to.toNat ≠ i → lget (t2.set x.to.toNat (g x (lget times here.toNat))) i = lget t2 i := fun i hi => lget_set_ne hi
        have q := ih (t2.set x.to.toNat (g x (lget times here.toNat))) (b2.set x.to.toNat (j : Int)) (j + 1) hm' (by rw [List.length_set]; exact h1)
          (fun i => by by_cases ei : x.to.toNat = i
                       · rw [← ei,hs]; have := h2 x.to.toNat; omega
                       · rw [hn i ei]; exact h2 i)
          (fun i => by by_cases ei : x.to.toNat = i
                       · rw [← ei,hs]; exact .inl inf
                       · rw [hn i ei]; exact h3 i)
          (fun i hi => by by_cases ei : x.to.toNat = i
                          · exfalso; have := h4 i hi; rw [← ei] at this hi; omega
                          · rw [hn i ei]; exact h4 i hi)
        refine ⟨fun i => ?_,q.2.1,q.2.2.1,fun p hp ep => ?_⟩
        · by_cases ei : x.to.toNat = i
          · have := q.1 i; rw [← ei,hs] at this; rw [← ei]; omega
          · have := q.1 i; rw [hn i ei] at this; exact this
        · rcases List.mem_cons.1 hp with rfl | hp
          · have := q.1 p.to.toNat; rw [hs] at this; exact this
          · exact q.2.2.2 p hp ep
      · rw [if_neg c]
        have q := ih t2 b2 (j + 1) hm' h1 h2 h3 h4
        refine ⟨q.1,q.2.1,q.2.2.1,fun p hp ep => ?_⟩
        rcases List.mem_cons.1 hp with rfl | hp
        · have := q.1 p.to.toNat; omega
        · exact q.2.2.2 p hp ep
    · rw [if_neg e]
      have q := ih t2 b2 (j + 1) hm' h1 h2 h3 h4
      refine ⟨q.1,q.2.1,q.2.2.1,fun p hp ep => ?_⟩
      rcases List.mem_cons.1 hp with rfl | hp
      · exact absurd ep e
      · exact q.2.2.2 p hp ep
structure Inv (rooms:Nat) (l:List Pg) (g:Pg→Int→Int) (times:List Int) (left:List Bool):Prop where
 tm:Tm rooms times
 len:left.length=rooms
 ord:∀ i j,i<rooms→j<rooms→lget left i=true→lget left j=false→lget times i≤lget times j
 cl:∀ p ∈ l,lget left p.fr.toNat=true→lget times p.to.toNat≤g p (lget times p.fr.toNat)
theorem R109_0_closed {rooms:Nat} {fr ti:Int} {l:List Pg} {g:Pg→Int→Int} (hg:Crs rooms l g):∀ (m:Nat) (times by_:List Int) (left:List Bool),by_.length=rooms→left.count false<m→Inv rooms l g times left →
  ∀ p ∈ l,lget (R109_0 rooms fr ti l g m times by_ left).1 p.fr.toNat≤1073741823→lget (R109_0 rooms fr ti l g m times by_ left).1 p.to.toNat≤g p (lget (R109_0 rooms fr ti l g m times by_ left).1 p.fr.toNat):=by
 intro m
 induction m with
 | zero=>intro times by_ left _ h; omega
 | succ m ih =>
  intro times by_ left hb hm hI
  have hH:=R109_1_hr rooms fr ti l g times by_ left times 0 (-1) rfl (Hr.init _ _)
  have hM:=R109_1_min rooms fr ti l g times by_ left times 0 (-1) rfl (fun j hj=>by omega)
  have hlen:=hI.tm.len
  rw [R109_0]
  generalize he:R109_1 rooms fr ti l g times by_ left times 0 (-1)=here at *
  by_cases hn:here<0
  ·rw [if_pos hn]
   intro p hp hle
   have hr:=hg.rms p hp
   have hle:lget times p.fr.toNat≤1073741823:=hle
   cases hb2:lget left p.fr.toNat with
   | true=>exact hI.cl p hp hb2
   | false =>
    rcases hM p.fr.toNat (by omega) hb2 with h|h
    ·omega
    ·omega
  ·rw [if_neg hn]
   have q:=hH.get hn
   have hT:=R109_2_tm rooms fr ti l g hg.rng times by_ left here he ⟨q.1,by omega⟩ l times by_ 0 (fun p hp=>hp) hI.tm hb q.2.2.1
   have r:=R109_2_rel (fr:=fr) (ti:=ti) hg times by_ left here he hI.tm ⟨q.1,by omega⟩ q.2.2.1 l times by_ 0 (fun p hp=>hp) hlen (fun i=>Int.le_refl _) (fun i=>.inr rfl) (fun i _=>rfl)
   have hll:=hI.len
   have hc:=cnt_set left here.toNat (by omega) q.2.2.2
   refine ih _ _ _ hT.2 (by omega) ⟨hT.1,by rw [List.length_set]; exact hI.len,?_,?_⟩
   ·intro i j hi hj h1 h2
    have ej:here.toNat≠j:=by
     rintro rfl
     rw [lget_set_self (by omega)] at h2; cases h2
    rw [lget_set_ne ej] at h2
    have hj2:lget times here.toNat≤lget times j:=by
     rcases hM j (by omega) h2 with h|h
     ·omega
     ·exact h.2
    have hj3:lget times here.toNat≤lget (R109_2 rooms fr ti l g times by_ left l times by_ 0).1 j:=by
     rcases r.2.1 j with h|h
     ·exact h
     ·rw [h]; exact hj2
    by_cases ei:here.toNat=i
    ·rw [← ei,r.2.2.1 here.toNat (Int.le_refl _)]; exact hj3
    ·rw [lget_set_ne ei] at h1
     have h3:=hI.ord i here.toNat hi (by omega) h1 q.2.2.2
     rw [r.2.2.1 i h3]; omega
   ·intro p hp h1
    have hr:=hg.rms p hp
    by_cases ei:here.toNat=p.fr.toNat
    ·rw [← ei,r.2.2.1 here.toNat (Int.le_refl _)]
     exact r.2.2.2 p hp (by omega)
    ·rw [lget_set_ne ei] at h1
     have h3:=hI.ord p.fr.toNat here.toNat (by omega) (by omega) h1 q.2.2.2
     rw [r.2.2.1 _ h3]
     have:=r.1 p.to.toNat
     have:=hI.cl p hp h1
     omega
theorem lget_replicate {α:Type} [Inhabited α] {n i:Nat} {x:α} (h:i<n):lget (List.replicate n x) i=x:=by
 apply lget_of; rw [List.getElem?_replicate,if_pos h]
theorem closed {rooms:Nat} {fr ti:Int} {l:List Pg} {g:Pg→Int→Int} (hg:Crs rooms l g) (ht:0≤ti∧ti≤1073741823) :
  ∀ p ∈ l,lget (r109 rooms fr ti l g).1 p.fr.toNat≤1073741823→lget (r109 rooms fr ti l g).1 p.to.toNat≤g p (lget (r109 rooms fr ti l g).1 p.fr.toNat) :=
 R109_0_closed hg (rooms+1) _ _ _ (by simp) (by rw [List.count_replicate_self]; omega) ⟨(Tm.rep _ (by decide)).set _ (by omega),by simp,fun i j hi hj h=>absurd h (by rw [lget_replicate hi]; decide),fun p hp h=>absurd h (by have:=hg.rms p hp; rw [lget_replicate (by omega)]; decide)⟩
theorem R109_2_lb {rooms:Nat} {fr ti:Int} {l:List Pg} {g:Pg→Int→Int} (W:Nat→Int) (hW:∀ p ∈ l,∀ t,W p.fr.toNat≤t→0≤t∧t≤1073741823→W p.to.toNat≤g p t) (hg:Crs rooms l g) (times by_:List Int) (left:List Bool) (here:Int) (he:R109_1 rooms fr ti l g times by_ left times 0 (-1)=here) (h0:0≤here∧here<(rooms:Int)) :
  ∀ (m:List Pg) (t2 b2:List Int) (j:Nat),(∀ p ∈ m,p ∈ l)→Tm rooms t2→lget t2 here.toNat≤1073741823→(∀ i,i<rooms→W i≤lget t2 i)→∀ i,i<rooms→W i≤lget (R109_2 rooms fr ti l g times by_ left m t2 b2 j).1 i:=by
 intro m
 induction m with
 | nil=>intro t2 b2 j _ _ _ h; exact h
 | cons x m ih =>
  intro t2 b2 j hm h1 h2 h3
  have hx:=hm x (by simp)
  have hr:=hg.rms x hx
  have hm':∀ p ∈ m,p ∈ l:=fun p hp=>hm p (by simp [hp])
  have c0:0≤lget t2 here.toNat:=(h1.at (lget_some (by have:=h1.len; omega))).1
  rw [R109_2,he]
  split
  ·rename_i e
   split
   ·rename_i c
    refine ih _ _ _ hm' (h1.set _ (hg.rng x hx _ ⟨c0,h2⟩)) (lget_set_le h2 c) (fun i hi=>?_)
    by_cases ei:x.to.toNat=i
    ·rw [← ei,lget_set_self (by have:=h1.len; omega)]
     exact hW x hx _ (by rw [e]; exact h3 _ (by omega)) ⟨c0,h2⟩
    ·rw [lget_set_ne ei]; exact h3 i hi
   ·exact ih _ _ _ hm' h1 h2 h3
  ·exact ih _ _ _ hm' h1 h2 h3
theorem R109_0_lb {rooms:Nat} {fr ti:Int} {l:List Pg} {g:Pg→Int→Int} (W:Nat→Int) (hW:∀ p ∈ l,∀ t,W p.fr.toNat≤t→0≤t∧t≤1073741823→W p.to.toNat≤g p t) (hg:Crs rooms l g):∀ (m:Nat) (times by_:List Int) (left:List Bool),Tm rooms times→by_.length=rooms→left.length=rooms→(∀ i,i<rooms→W i≤lget times i) →
  ∀ i,i<rooms→W i≤lget (R109_0 rooms fr ti l g m times by_ left).1 i:=by
 intro m
 induction m with
 | zero=>intro times by_ left _ _ _ h; exact h
 | succ m ih =>
  intro times by_ left h1 h2 h3 h4
  rw [R109_0]
  split
  ·exact h4
  ·rename_i hn
   have hH:=R109_1_hr rooms fr ti l g times by_ left times 0 (-1) rfl (Hr.init _ _)
   have q:=hH.get hn
   have hl:=h1.len
   have hT:=R109_2_tm rooms fr ti l g hg.rng times by_ left _ rfl ⟨q.1,by omega⟩ l times by_ 0 (fun p hp=>hp) h1 h2 q.2.2.1
   exact ih _ _ _ hT.1 hT.2 (by rw [List.length_set]; exact h3) (R109_2_lb W hW hg times by_ left _ rfl ⟨q.1,by omega⟩ l times by_ 0 (fun p hp=>hp) h1 q.2.2.1 h4)
theorem least {rooms:Nat} {fr ti:Int} {l:List Pg} {g:Pg→Int→Int} (W:Nat→Int) (hg:Crs rooms l g) (hW:∀ p ∈ l,∀ t,W p.fr.toNat≤t→0≤t∧t≤1073741823→W p.to.toNat≤g p t) (hf:0≤fr∧fr<(rooms:Int)) (ht:0≤ti∧ti≤1073741823) (h0:W fr.toNat≤ti) (h1:∀ i,i<rooms→W i≤1073741824) :
  ∀ i,i<rooms→W i≤lget (r109 rooms fr ti l g).1 i:=by
 refine R109_0_lb W hW hg (rooms+1) _ _ _ ((Tm.rep _ (by decide)).set _ (by omega)) (by simp) (by simp) (fun i hi=>?_)
 by_cases e:fr.toNat=i
 ·rw [← e,lget_set_self (by simp; omega)]; exact h0
 ·rw [lget_set_ne e,lget_replicate hi]; exact h1 i hi
theorem start_le {rooms:Nat} {fr ti:Int} {l:List Pg} {g:Pg→Int→Int} (hg:Crs rooms l g) (hf:0≤fr∧fr<(rooms:Int)) (ht:0≤ti∧ti≤1073741823):lget (r109 rooms fr ti l g).1 fr.toNat≤ti:=by
 have mono:∀ (m:Nat) (times by_:List Int) (left:List Bool),Tm rooms times→by_.length=rooms→left.length=rooms→∀ i,lget (R109_0 rooms fr ti l g m times by_ left).1 i≤lget times i:=by
  intro m
  induction m with
  | zero=>intro times by_ left _ _ _ i; exact Int.le_refl _
  | succ m ih =>
   intro times by_ left h1 h2 h3 i
   rw [R109_0]
   split
   ·exact Int.le_refl _
   ·rename_i hn
    have hH:=R109_1_hr rooms fr ti l g times by_ left times 0 (-1) rfl (Hr.init _ _)
    have q:=hH.get hn
    have hl:=h1.len
    have hT:=R109_2_tm rooms fr ti l g hg.rng times by_ left _ rfl ⟨q.1,by omega⟩ l times by_ 0 (fun p hp=>hp) h1 h2 q.2.2.1
    have r:=R109_2_rel (fr:=fr) (ti:=ti) hg times by_ left _ rfl h1 ⟨q.1,by omega⟩ q.2.2.1 l times by_ 0 (fun p hp=>hp) hl (fun i=>Int.le_refl _) (fun i=>.inr rfl) (fun i _=>rfl)
    have:=ih _ _ (left.set (R109_1 rooms fr ti l g times by_ left times 0 (-1)).toNat true) hT.1 hT.2 (by rw [List.length_set]; exact h3) i
    have:=r.1 i
    omega
 have:=mono (rooms+1) _ _ _ ((Tm.rep rooms (x:=1073741824) (by decide)).set fr.toNat (x:=ti) (by omega)) (show (List.replicate rooms (-1:Int)).length=rooms by simp) (show (List.replicate rooms false).length=rooms by simp) fr.toNat
 rw [lget_set_self (by simp; omega)] at this
 exact this
end House
end Go.Proofs
end
section
set_option linter.unusedSimpArgs false
set_option linter.unusedVariables false
namespace Go.Proofs
namespace House
open Go Go.RowKit Go.Aev
set_option maxRecDepth 100000
def bad (h:Hs) (l:List Int) (x:Pg):Bool:=r88 (lget l x.fr.toNat) && decide (r145 x (lget l x.fr.toNat) h<lget l x.to.toNat)
def r118 (h:Hs) (l:List Int):Bool:=!(psg h).any (bad h l)
noncomputable def R118:Code × Code:=((Tryz.f118.body.bind findR).getD (.skip,.skip))
set_option maxHeartbeats 16000000 in
theorem rg118 (h:Hs) (hw:h.ways.length≤70) (hV:r59 h=0) (l:List Int) (hl:l.length=h.rooms.length) (Sb S:AS) (agb:Agree Sb S) (v_l v0 v1 v2:Value) (hvl:Lst Sb v_l l) (hv0:LstR Sb v0 h.rooms) (hv1:LstR Sb v1 h.doors) (hv2:Lst Sb v2 h.ways)
  (t:T Value) (d:List Nat) (z:Option (X × St)) (p3 p4 p5 pe pp:Nat)
  (g3:t.get 3=some (.pointer (some ⟨p3,0,none⟩))) (g4:t.get 4=some (.pointer (some ⟨p4,0,none⟩))) (g5:t.get 5=some (.pointer (some ⟨p5,0,none⟩))) (g10:t.get 10=some (.func (.func 148) #[] #[.pointer (some ⟨pp,0,none⟩)]))
  (h3:S.heap.get p3=some (.cells [v_l] 54 0 true true)) (h4:S.heap.get p4=some (.cells [.bool false] 4 0 true true)) (h5:S.heap.get p5=some (.cells [.func (.func 145) #[] #[.pointer (some ⟨pe,0,none⟩)]] 125 0 true true))
  (he:S.heap.get pe=some (.cells [v0,v1,v2] 26 0 true true)) (hp:S.heap.get pp=some (.cells [v0,v1,v2] 26 0 true true))
  (l3:p3<S.next) (l4:p4<S.next) (l5:p5<S.next) (le:pe<S.next) (lp:pp<S.next) (m4:Sb.next≤p4) (n3:p3≠p4) (n5:p5≠p4) (ne:pe≠p4) (np:pp≠p4) (mp:Sb.next≤pp)
  (hz:evCode Tryz.prog E0 (evL Tryz.prog E0) none (.rangeFunc (.tmp 10) #[11] R118.1 R118.2) ⟨⟨t,34⟩,d,S⟩=z) :
  ∃ x S',z=some (x,⟨⟨t,34⟩,S.next :: d,S'⟩)∧S.next<S'.next∧S'.heap.get S.next=some (.dfd true)∧(∀ q,q<S.next→S'.heap.get q=S.heap.get q) ∧
   ((x=.normal∧r118 h l=true)∨(x=.ret∧r118 h l=false)):=by
 have a01:=agb.1
 obtain ⟨x,S',rfl,hQ⟩:=range_met hz (k:=148) (cs:=#[]) (ds:=#[.pointer (some ⟨pp,0,none⟩)]) g10 (fun a S'=>rfl)
  (fun x S'=>S.next<S'.next∧S'.heap.get S.next=some (.dfd true)∧(∀ q,q<S.next→S'.heap.get q=S.heap.get q)∧((x=.normal∧r118 h l=true)∨(x=.ret∧r118 h l=false)))
  (by
   intro L0 S1 S2 e1 e2 hbg
   obtain rfl:=hbg.eq
   obtain ⟨Sx,ex1,nx1,bx1,ax1⟩:=push_open S (.dfd true)
   obtain rfl:Sx=S1:=ex1.symm.trans e1
   obtain ⟨Sy,ex2,nx2,bx2,ax2⟩:=push_open Sx (.loop ⟨.ready,none,t,34,#[11],R118.1,R118.2⟩)
   obtain rfl:Sy=S2:=ex2.symm.trans e2
   have ag:=ax1.trans ax2
   generalize hy:Sx.next=y at *
   have hys:y=S.next+1:=by omega
   have key:=it148 h.rooms h.doors h.ways hw Sy y (fun i T S'=>Sy.next≤S'.next∧i≤(psg h).length∧S'.heap.get y=some (.loop ⟨.ready,none,t,34,#[11],R118.1,R118.2⟩)∧S'.heap.get p4=some (.cells [.bool false] 4 0 true true) ∧
     (∀ q,q<S.next→q≠p4→S'.heap.get q=S.heap.get q)∧((psg h).take i).any (bad h l)=false∧T=fun id=>id=p4∨id=y)
    (fun i T S'=>Sy.next≤S'.next∧S'.heap.get y=some (.loop ⟨.done,some .ret,t,34,#[11],R118.1,R118.2⟩)∧S'.heap.get p4=some (.cells [.bool false] 4 0 true true)∧(psg h).any (bad h l)=true∧T=fun id=>id=p4∨id=y)
    (fun id=>id=p4∨id=y) ?_ ?_ Sb (agb.trans ag) ?_ v0 hv0 v1 hv1 v2 hv2 pp ((ag.2 pp lp).trans hp) (by omega) ?_
   ·obtain ⟨S3,T3,hc,hIJ,off3,_⟩:=key
    have fr:∀ q,q<S.next→S3.heap.get p4=some (.cells [.bool false] 4 0 true true)→S3.heap.get q=S.heap.get q:=fun q hq h4'=>by
     by_cases e:q=p4
     ·rw [e,h4',h4]
     ·exact (off3.2 q (by omega) (fun h=>h.elim e (fun h=>by omega))).trans (ag.2 q hq)
    have dfd:S3.heap.get S.next=some (.dfd true):=(off3.2 S.next (by omega) (fun h=>h.elim (fun h=>by omega) (fun h=>by omega))).trans ((ax2.2 S.next (by omega)).trans bx1)
    rcases hIJ with ⟨hn3,_,hy3,hp3,_,hh,rfl⟩|⟨i,b,hib,hn3,hy3,hp3,hh,rfl⟩
    ·refine ⟨_,S3,_,.normal,hc,hy3,by simp,rfl,by show S.next<S3.next; omega,?_,?_,.inl ⟨rfl,?_⟩⟩
     ·simp only [T.get_set]; rw [if_neg (by omega)]; exact dfd
     ·intro q hq; simp only [T.get_set]; rw [if_neg (by omega)]; exact fr q hq hp3
     ·have e:((psg h).take (psg h).length).any (bad h l)=false:=hh
      rw [List.take_length] at e
      unfold r118; rw [e]; rfl
    ·refine ⟨_,S3,_,.ret,hc,hy3,by simp,rfl,by show S.next<S3.next; omega,?_,?_,.inr ⟨rfl,?_⟩⟩
     ·simp only [T.get_set]; rw [if_neg (by omega)]; exact dfd
     ·intro q hq; simp only [T.get_set]; rw [if_neg (by omega)]; exact fr q hq hp3
     ·unfold r118; rw [hh]; rfl
   ·refine ⟨?_,?_,?_⟩
    ·rintro i T S' ⟨hn',_,_,_,_,_,rfl⟩ id (rfl|rfl)<;>omega
    ·rintro i T S' S'' ⟨hn',hi,hy',h4',hf,hh,rfl⟩ hle hk
     exact ⟨by omega,hi,(hk y (by omega) (.inl (.inr rfl))).trans hy',(hk p4 (by omega) (.inl (.inl rfl))).trans h4',fun q hq hne=>(hk q (by omega) (.inr (by omega))).trans (hf q hq hne),hh,rfl⟩
    ·rintro i T S' b hbi ⟨hn',hi,hy',h4',hf,hh,rfl⟩
     have hbi:(psg h)[i]?=some b:=hbi
     have hi2:i<(psg h).length:=(List.getElem?_eq_some_iff.1 hbi).1
     have hmem:b ∈ psg h:=List.mem_of_getElem? hbi
     have kq:=psg_ok hV hmem
     have kf:=kq.f; have kt:=kq.t
     have htk:((psg h).take (i+1)).any (bad h l)=bad h l b:=by rw [List.take_add_one,hbi]; simp [hh]
     have:=round_runS (P:=Tryz.prog) (E:=E0) (l:=y) (bs:=[.agg #[.int .i64 b.way,.bool b.back,.int .i64 b.fr,.int .i64 b.to,.int .i64 b.secs,.int .i64 b.door]]) (ps:=[11]) (t:=t) (m:=34) (A:=R118.1) (B:=R118.2) (S:=S') rfl hy'
      (Q:=fun S4=>bad h l b=false∧S'.next≤S4.next∧S4.heap.get y=some (.loop ⟨.ready,none,t,34,#[11],R118.1,R118.2⟩)∧∀ q,q<S'.next→q≠y→S4.heap.get q=S'.heap.get q)
      (R:=fun S4=>bad h l b=true∧S'.next≤S4.next∧S4.heap.get y=some (.loop ⟨.done,some .ret,t,34,#[11],R118.1,R118.2⟩)∧S4.heap.get p4=some (.cells [.bool false] 4 0 true true)∧∀ q,q<S'.next→q≠y→q≠p4→S4.heap.get q=S'.heap.get q)
      (by
       intro zA hA
       change evCode _ _ _ _ (Code.region 3 _ _) ⟨⟨t.set 11 (some (.agg #[.int .i64 b.way,.bool b.back,.int .i64 b.fr,.int .i64 b.to,.int .i64 b.secs,.int .i64 b.door])),34⟩,[],S'⟩=_ at hA
       obtain ⟨S5,e5,n5',b5,a5⟩:=push_open S' (.cells [.int .i64 0,.bool false,.int .i64 0,.int .i64 0,.int .i64 0,.int .i64 0] 137 0 true true)
       obtain ⟨S6,e6,n6,b6,q6⟩:=st_at (P:=Tryz.prog) (o:=0) (c':=[.int .i64 b.way,.bool b.back,.int .i64 b.fr,.int .i64 b.to,.int .i64 b.secs,.int .i64 b.door]) (v:=.agg #[.int .i64 b.way,.bool b.back,.int .i64 b.fr,.int .i64 b.to,.int .i64 b.secs,.int .i64 b.door]) tz137 b5 rfl rfl (show 0+6≤6 by decide) rfl
       simp (disch:=first|omega|assumption) only [E0_G,SY,setArgs,off,agreeKind,partVals,vals,allocV,boxed,ldA,rdCells,oneB,aggD,aField,aFieldV,aExtract,eq_self,ne_eq,if_true,if_false,not_false_eq_true,Nat.reduceAdd,Nat.reduceSub,Nat.reduceMul,Nat.reduceLT,Nat.reduceEqDiff,Nat.reduceBEq,reduceIte,Int.reduceEq,Int.reduceLT,Int.reduceLE,reduceCtorEq,TY_EvH27,e5,e6] at hA
       refine ⟨_,S6,hA.symm,?_,?_⟩
       ·exact (q6 y (by omega)).trans ((a5.2 y (by omega)).trans hy')
       intro S7 n7 b7 q7 zB hB
       change evCode _ _ _ _ (Code.block 1 _) _=_ at hB
       have f7:∀ q,q<S'.next→q≠y→S7.heap.get q=S'.heap.get q:=fun q hq hne=>(q7 q hne).trans ((q6 q (by omega)).trans (a5.2 q hq))
       have u4:S7.heap.get p4=some (.cells [.bool false] 4 0 true true):=(f7 p4 (by omega) (by omega)).trans h4'
       have u8:S7.heap.get S'.next=some (.cells [.int .i64 b.way,.bool b.back,.int .i64 b.fr,.int .i64 b.to,.int .i64 b.secs,.int .i64 b.door] 137 0 true true):=(q7 S'.next (by omega)).trans b6
       have lo7:∀ q,q<S.next→q≠p4→S7.heap.get q=S.heap.get q:=fun q hq hne=>(f7 q (by omega) (by omega)).trans (hf q hq hne)
       have u3:=(lo7 p3 l3 n3).trans h3
       have u5:=(lo7 p5 l5 n5).trans h5
       have agb7:Agree Sb S7:=⟨by omega,fun id hid=>(lo7 id (by omega) (by omega)).trans (agb.2 id hid)⟩
       have e1:((b.fr.toNat:Nat):Int)=b.fr:=Int.toNat_of_nonneg kf.1
       have e2:((b.to.toNat:Nat):Int)=b.to:=Int.toNat_of_nonneg kt.1
       obtain ⟨i1,o1,cc1,ty1,wr1,ex1,ix1,j1,lt1,m1⟩:=(hvl.agree agb7).at (P:=Tryz.prog) (t:=54) Tryz.underlying54 tz3 (lget_some (l:=l) (i:=b.fr.toNat) (by omega))
       have m1:cc1[o1]?=some (.int .i64 (lget l b.fr.toNat)):=m1 0 (show 0<1 by decide)
       rw [e1] at ix1
       obtain ⟨i2,o2,cc2,ty2,wr2,ex2,ix2,j2,lt2,m2⟩:=(hvl.agree agb7).at (P:=Tryz.prog) (t:=54) Tryz.underlying54 tz3 (lget_some (l:=l) (i:=b.to.toNat) (by omega))
       have m2:cc2[o2]?=some (.int .i64 (lget l b.to.toNat)):=m2 0 (show 0<1 by decide)
       rw [e2] at ix2
       obtain ⟨S8,k8,a8⟩:=c88 (lget l b.fr.toNat) S7
       have s8:E0.same S7 S8=true:=symEnv_same a8
       have u38:=(a8.2 p3 (by omega)).trans u3
       have u48:=(a8.2 p4 (by omega)).trans u4
       have u58:=(a8.2 p5 (by omega)).trans u5
       have u88:=(a8.2 S'.next (by omega)).trans u8
       have j18:=(a8.2 i1 lt1).trans j1
       have j28:=(a8.2 i2 lt2).trans j2
       rw [code_block,code_seq] at hB
       rw [code_draws _ _ _ (by kernel_rfl)] at hB
       generalize hnd:needy _=nd at hB
       simp (disch:=first|omega|assumption) only [E0_G,SY,setArgs,off,agreeKind,partVals,vals,allocV,boxed,ldA,rdCells,oneB,aggD,aField,aFieldV,aExtract,eq_self,ne_eq,if_true,if_false,not_false_eq_true,Nat.reduceAdd,Nat.reduceSub,Nat.reduceMul,Nat.reduceLT,Nat.reduceEqDiff,Nat.reduceBEq,reduceIte,Int.reduceEq,Int.reduceLT,Int.reduceLE,reduceCtorEq,TY_EvH27,g3,g4,g5,u3,u8,ix1,j1,m1,k8,s8,store_agree,store_refl E0_same] at hB
       rcases dB (r88 (lget l b.fr.toNat)) with ⟨ha,hr⟩|⟨ha,hr⟩
       ·have htm:=r88_iff.1 hr
        obtain ⟨S9,k9,a9⟩:=c145 b (lget l b.fr.toNat) h kq.ok htm S8 v0 (hv0.agree (agb7.trans a8)) v1 (hv1.agree (agb7.trans a8)) v2 (hv2.agree (agb7.trans a8)) pe ((a8.2 pe (by omega)).trans ((lo7 pe le ne).trans he)) (by have:=a8.1; omega)
        have l8:=a8.1; have l9:=a9.1
        have s9:E0.same S8 S9=true:=symEnv_same a9
        have u39:=(a9.2 p3 (by omega)).trans u38
        have u49:=(a9.2 p4 (by omega)).trans u48
        have u89:=(a9.2 S'.next (by omega)).trans u88
        have j29:=(a9.2 i2 (by omega)).trans j28
        have f9:∀ q,q<S'.next→q≠y→S9.heap.get q=S'.heap.get q:=fun q hq hne=>(a9.2 q (by omega)).trans ((a8.2 q (by omega)).trans (f7 q hq hne))
        simp (disch:=first|omega|assumption) only [E0_G,SY,setArgs,off,agreeKind,partVals,vals,allocV,boxed,ldA,rdCells,oneB,aggD,aField,aFieldV,aExtract,eq_self,ne_eq,if_true,if_false,not_false_eq_true,Nat.reduceAdd,Nat.reduceSub,Nat.reduceMul,Nat.reduceLT,Nat.reduceEqDiff,Nat.reduceBEq,reduceIte,Int.reduceEq,Int.reduceLT,Int.reduceLE,reduceCtorEq,TY_EvH27,g3,g4,g5,ha,u38,u58,u88,ix1,j18,m1,k9,s9,u39,u89,ix2,j29,m2,store_agree,store_refl E0_same] at hB
        rcases dP (r145 b (lget l b.fr.toNat) h<lget l b.to.toNat) with ⟨hq,hlt⟩|⟨hq,hlt⟩
        ·obtain ⟨S10,e10,n10,b10,q10⟩:=st_at (P:=Tryz.prog) (o:=0) (c':=[.bool false]) (v:=.bool false) tz4 u49 rfl rfl (show 0+1≤1 by decide) rfl
         simp (disch:=first|omega|assumption) only [E0_G,SY,setArgs,off,agreeKind,partVals,vals,allocV,boxed,ldA,rdCells,oneB,aggD,aField,aFieldV,aExtract,eq_self,ne_eq,if_true,if_false,not_false_eq_true,Nat.reduceAdd,Nat.reduceSub,Nat.reduceMul,Nat.reduceLT,Nat.reduceEqDiff,Nat.reduceBEq,reduceIte,Int.reduceEq,Int.reduceLT,Int.reduceLE,reduceCtorEq,TY_EvH27,g4,hq,e10] at hB
         refine ⟨.ret,_,_,S10,hB.symm,(q10 y (by omega)).trans ((a9.2 y (by omega)).trans ((a8.2 y (by omega)).trans b7)),.inr ⟨rfl,fun S11 n11 b11 q11=>⟨?_,by omega,b11,(q11 p4 (by omega)).trans b10,fun q hq1 h1 h2=>(q11 q h1).trans ((q10 q h2).trans (f9 q hq1 h1))⟩⟩⟩
         unfold bad; rw [hr,hq]; rfl
        ·simp (disch:=first|omega|assumption) only [E0_G,SY,setArgs,off,agreeKind,partVals,vals,allocV,boxed,ldA,rdCells,oneB,aggD,aField,aFieldV,aExtract,eq_self,ne_eq,if_true,if_false,not_false_eq_true,Nat.reduceAdd,Nat.reduceSub,Nat.reduceMul,Nat.reduceLT,Nat.reduceEqDiff,Nat.reduceBEq,reduceIte,Int.reduceEq,Int.reduceLT,Int.reduceLE,reduceCtorEq,TY_EvH27,hq] at hB
         refine ⟨.normal,_,_,S9,hB.symm,(a9.2 y (by omega)).trans ((a8.2 y (by omega)).trans b7),.inl ⟨rfl,fun S11 n11 b11 q11=>⟨?_,by omega,b11,fun q hq1 h1=>(q11 q h1).trans (f9 q hq1 h1)⟩⟩⟩
         unfold bad; rw [hr,hq]; rfl
       ·have l8:=a8.1
        simp (disch:=first|omega|assumption) only [E0_G,SY,setArgs,off,agreeKind,partVals,vals,allocV,boxed,ldA,rdCells,oneB,aggD,aField,aFieldV,aExtract,eq_self,ne_eq,if_true,if_false,not_false_eq_true,Nat.reduceAdd,Nat.reduceSub,Nat.reduceMul,Nat.reduceLT,Nat.reduceEqDiff,Nat.reduceBEq,reduceIte,Int.reduceEq,Int.reduceLT,Int.reduceLE,reduceCtorEq,TY_EvH27,ha] at hB
        refine ⟨.normal,_,_,S8,hB.symm,(a8.2 y (by omega)).trans b7,.inl ⟨rfl,fun S11 n11 b11 q11=>⟨?_,by omega,b11,fun q hq1 h1=>(q11 q h1).trans ((a8.2 q (by omega)).trans (f7 q hq1 h1))⟩⟩⟩
        unfold bad; rw [ha]; rfl)
     rcases this with ⟨S4,k4,hno,hn4,hy4,f4⟩|⟨S4,k4,hyes,hn4,hy4,hp4,f4⟩
     ·refine .inl ⟨S4,_,k4,⟨by omega,by omega,hy4,(f4 p4 (by omega) (by omega)).trans h4',fun q hq hne=>(f4 q (by omega) (by omega)).trans (hf q hq hne),?_,rfl⟩,⟨hn4,fun id hid hT=>f4 id hid (fun e=>hT (.inr e))⟩,fun id h=>.inl h⟩
      rw [htk]; exact hno
     ·refine .inr ⟨S4,_,k4,⟨by omega,hy4,hp4,List.any_eq_true.2 ⟨b,hmem,hyes⟩,rfl⟩,⟨hn4,fun id hid hT=>f4 id hid (fun e=>hT (.inr e)) (fun e=>hT (.inl e))⟩,fun id h=>.inl h⟩
   ·exact ⟨Nat.le_refl _,Nat.zero_le _,bx2,(ag.2 p4 l4).trans h4,fun q hq hne=>ag.2 q hq,rfl,rfl⟩
   ·rintro q (h|h)
    ·omega
    ·omega
   ·rintro (h|h)
    ·exact np h
    ·omega)
 obtain ⟨q1,q2,q3,q4⟩:=hQ
 exact ⟨x,S',rfl,q1,q2,q3,q4⟩
set_option maxHeartbeats 4000000 in
theorem c118 (h:Hs) (l:List Int) (hw:h.ways.length≤70) (hV:r59 h=0) (hl:l.length=h.rooms.length) (S:AS) (v0:Value) (hv0:LstR S v0 h.rooms) (v1:Value) (hv1:LstR S v1 h.doors) (v2:Value) (hv2:Lst S v2 h.ways) (v_l:Value) (hvl:Lst S v_l l) :
  ∃ S',(evL Tryz.prog E0).call 118 #[.agg #[v0,v1,v2],v_l] S=some (.bool (r118 h l),S')∧Agree S S':=by
 obtain ⟨p,n,c,rfl⟩:=lst_slice hvl
 generalize hz:(evL Tryz.prog E0).call 118 _ _=z
 rw [L_call,evCall_said rfl Tryz.func118 rfl (by decide) Tryz.ntmps118 Tryz.results118] at hz
 obtain ⟨S1,e1,n1,b1,a1⟩:=push_open S (.cells [v0,v1,v2] 26 0 true true)
 obtain ⟨S2,e2,n2,b2,a2⟩:=push_open S1 (.cells [.slice p n c] 54 0 true true)
 obtain ⟨S3,e3,n3,b3,a3⟩:=push_open S2 (.cells [.bool false] 4 0 true true)
 have b13:=(a3.2 S.next (by omega)).trans ((a2.2 S.next (by omega)).trans b1)
 have b23:=(a3.2 S1.next (by omega)).trans b2
 obtain ⟨S4,k4,a4,n4,b4⟩:=c97 v0 v1 v2 S3
 obtain ⟨S5,e5,n5,b5,a5⟩:=push_open S4 (.cells [.nilFunc] 125 0 true true)
 obtain ⟨S6,e6,n6,b6,q6⟩:=st_at (P:=Tryz.prog) (o:=0) (c':=[.func (.func 145) #[] #[.pointer (some ⟨S3.next,0,none⟩)]]) (v:=.func (.func 145) #[] #[.pointer (some ⟨S3.next,0,none⟩)]) tz125 b5 rfl rfl (show 0+1≤1 by decide) rfl
 have b16:=(q6 S.next (by omega)).trans ((a5.2 S.next (by omega)).trans ((a4.2 S.next (by omega)).trans b13))
 have b26:=(q6 S1.next (by omega)).trans ((a5.2 S1.next (by omega)).trans ((a4.2 S1.next (by omega)).trans b23))
 have b36:=(q6 S2.next (by omega)).trans ((a5.2 S2.next (by omega)).trans ((a4.2 S2.next (by omega)).trans b3))
 have b46:=(q6 S3.next (by omega)).trans ((a5.2 S3.next (by omega)).trans b4)
 obtain ⟨S7,k7,a7,n7,b7⟩:=c108 v0 v1 v2 S6
 have ag7:Agree S S7:=⟨by omega,fun id hid=>(a7.2 id (by omega)).trans ((q6 id (by omega)).trans ((a5.2 id (by omega)).trans ((a4.2 id (by omega)).trans ((a3.2 id (by omega)).trans ((a2.2 id (by omega)).trans (a1.2 id hid))))))⟩
 simp (disch:=first|omega|assumption) only [E0_G,SY,setArgs,off,agreeKind,partVals,vals,allocV,boxed,ldA,rdCells,oneB,aggD,aField,aFieldV,aExtract,eq_self,ne_eq,if_true,if_false,not_false_eq_true,Nat.reduceAdd,Nat.reduceSub,Nat.reduceMul,Nat.reduceLT,Nat.reduceEqDiff,Nat.reduceBEq,reduceIte,Int.reduceEq,Int.reduceLT,Int.reduceLE,reduceCtorEq,TY_EvH27,cells_nf,e1,e2,e3,b13,k4,e5,e6,b16,k7] at hz
 generalize hR:evCode Tryz.prog E0 (evL Tryz.prog E0) none (.rangeFunc _ _ _ _) _=R at hz
 obtain ⟨x,S8,rfl,m8,d8,f8,hx⟩:=rg118 h hw hV l hl S S7 ag7 (.slice p n c) v0 v1 v2 hvl hv0 hv1 hv2 _ _ _ S1.next S2.next S4.next S3.next S6.next
  (by simp only [SY,setArgs,off,agreeKind,partVals,vals,allocV,boxed,ldA,rdCells,oneB,aggD,aField,aFieldV,aExtract,eq_self,ne_eq,if_true,if_false,not_false_eq_true,Nat.reduceAdd,Nat.reduceSub,Nat.reduceMul,Nat.reduceLT,Nat.reduceEqDiff,Nat.reduceBEq,reduceIte,Int.reduceEq,Int.reduceLT,Int.reduceLE,reduceCtorEq]<;>rfl) (by simp only [SY,setArgs,off,agreeKind,partVals,vals,allocV,boxed,ldA,rdCells,oneB,aggD,aField,aFieldV,aExtract,eq_self,ne_eq,if_true,if_false,not_false_eq_true,Nat.reduceAdd,Nat.reduceSub,Nat.reduceMul,Nat.reduceLT,Nat.reduceEqDiff,Nat.reduceBEq,reduceIte,Int.reduceEq,Int.reduceLT,Int.reduceLE,reduceCtorEq]<;>rfl) (by simp only [SY,setArgs,off,agreeKind,partVals,vals,allocV,boxed,ldA,rdCells,oneB,aggD,aField,aFieldV,aExtract,eq_self,ne_eq,if_true,if_false,not_false_eq_true,Nat.reduceAdd,Nat.reduceSub,Nat.reduceMul,Nat.reduceLT,Nat.reduceEqDiff,Nat.reduceBEq,reduceIte,Int.reduceEq,Int.reduceLT,Int.reduceLE,reduceCtorEq]<;>rfl) (by simp only [SY,setArgs,off,agreeKind,partVals,vals,allocV,boxed,ldA,rdCells,oneB,aggD,aField,aFieldV,aExtract,eq_self,ne_eq,if_true,if_false,not_false_eq_true,Nat.reduceAdd,Nat.reduceSub,Nat.reduceMul,Nat.reduceLT,Nat.reduceEqDiff,Nat.reduceBEq,reduceIte,Int.reduceEq,Int.reduceLT,Int.reduceLE,reduceCtorEq]<;>rfl)
  ((a7.2 _ (by omega)).trans b26) ((a7.2 _ (by omega)).trans b36) ((a7.2 _ (by omega)).trans b6) ((a7.2 _ (by omega)).trans b46) b7 (by omega) (by omega) (by omega) (by omega) (by omega) (by omega) (by omega) (by omega) (by omega) (by omega) (by omega) hR
 have b48:=(f8 S2.next (by omega)).trans ((a7.2 _ (by omega)).trans b36)
 rcases hx with ⟨rfl,hr⟩|⟨rfl,hr⟩
 ·obtain ⟨S9,e9,n9,b9,q9⟩:=st_at (P:=Tryz.prog) (o:=0) (c':=[.bool true]) (v:=.bool true) tz4 b48 rfl rfl (show 0+1≤1 by decide) rfl
  simp (disch:=first|omega|assumption) only [E0_G,SY,setArgs,off,agreeKind,partVals,vals,allocV,boxed,ldA,rdCells,oneB,aggD,aField,aFieldV,aExtract,eq_self,ne_eq,if_true,if_false,not_false_eq_true,Nat.reduceAdd,Nat.reduceSub,Nat.reduceMul,Nat.reduceLT,Nat.reduceEqDiff,Nat.reduceBEq,reduceIte,Int.reduceEq,Int.reduceLT,Int.reduceLE,reduceCtorEq,TY_EvH27,e9,b9] at hz
  have d9:=(q9 S7.next (by omega)).trans d8
  obtain ⟨S10,k10,n10,q10⟩:=take1 d9
  have b10:=(q10 S2.next (by omega)).trans b9
  rw [handed_take k10] at hz
  simp (disch:=first|omega|assumption) only [E0_G,SY,setArgs,off,agreeKind,partVals,vals,allocV,boxed,ldA,rdCells,oneB,aggD,aField,aFieldV,aExtract,eq_self,ne_eq,if_true,if_false,not_false_eq_true,Nat.reduceAdd,Nat.reduceSub,Nat.reduceMul,Nat.reduceLT,Nat.reduceEqDiff,Nat.reduceBEq,reduceIte,Int.reduceEq,Int.reduceLT,Int.reduceLE,reduceCtorEq,TY_EvH27,b10] at hz
  exact fin hz (by rw [hr]) ⟨by omega,fun id hid=>(q10 id (by omega)).trans ((q9 id (by omega)).trans ((f8 id (by omega)).trans (ag7.2 id hid)))⟩
 ·simp (disch:=first|omega|assumption) only [E0_G,SY,setArgs,off,agreeKind,partVals,vals,allocV,boxed,ldA,rdCells,oneB,aggD,aField,aFieldV,aExtract,eq_self,ne_eq,if_true,if_false,not_false_eq_true,Nat.reduceAdd,Nat.reduceSub,Nat.reduceMul,Nat.reduceLT,Nat.reduceEqDiff,Nat.reduceBEq,reduceIte,Int.reduceEq,Int.reduceLT,Int.reduceLE,reduceCtorEq,TY_EvH27] at hz
  obtain ⟨S10,k10,n10,q10⟩:=take1 d8
  have b10:=(q10 S2.next (by omega)).trans b48
  rw [handed_take k10] at hz
  simp (disch:=first|omega|assumption) only [E0_G,SY,setArgs,off,agreeKind,partVals,vals,allocV,boxed,ldA,rdCells,oneB,aggD,aField,aFieldV,aExtract,eq_self,ne_eq,if_true,if_false,not_false_eq_true,Nat.reduceAdd,Nat.reduceSub,Nat.reduceMul,Nat.reduceLT,Nat.reduceEqDiff,Nat.reduceBEq,reduceIte,Int.reduceEq,Int.reduceLT,Int.reduceLE,reduceCtorEq,TY_EvH27,b10] at hz
  exact fin hz (by rw [hr]) ⟨by omega,fun id hid=>(q10 id (by omega)).trans ((f8 id (by omega)).trans (ag7.2 id hid))⟩
end House
end Go.Proofs
end
section
set_option linter.unusedSimpArgs false
set_option linter.unusedVariables false
namespace Go.Proofs
namespace House
open Go Go.RowKit Go.Aev
set_option maxRecDepth 100000
theorem TY_EvH30:type_of% TY_EvH28:=TY_EvH28
def R52_0 (h:Hs) (a:Int) (ta:Int) (b:Int) (tb:Int) (l:List Int)  : List Int→Sum (Int) (Unit)
 | []=>.inr ()
 | x9 :: l'=>(if x9<0 then .inl 8 else (if 1073741824<x9 then .inl 8 else R52_0 h a ta b tb l l'))
def r52 (h:Hs) (a:Int) (ta:Int) (b:Int) (tb:Int) (l:List Int):Int:=(if (r113 h a ta b tb)=0 then (if (l.length:Int)=(h.rooms.length:Int) then (onSum (R52_0 h a ta b tb l l) (fun (r12:Int)=>r12) (fun (_:Unit)=>(if ta<(lget l (Int.toNat a)) then 8 else (if (lget l (Int.toNat b))≤tb then 8 else (if r118 h l=true then 0 else 8))))) else 8) else (r113 h a ta b tb))
set_option maxHeartbeats 8000000 in
theorem c52 (h:Hs) (a:Int) (ta:Int) (b:Int) (tb:Int) (l:List Int) (hF:Few h) (hs:∀ x ∈ h.rooms,x.name.size≤9223372036854775807) (hl:l.length≤40) (S:AS) (v_h_rooms:Value) (hv_h_rooms:LstR S v_h_rooms h.rooms) (v_h_doors:Value) (hv_h_doors:LstR S v_h_doors h.doors) (v_h_ways:Value) (hv_h_ways:Lst S v_h_ways h.ways) (v_l:Value) (hv_l:Lst S v_l l) :
  ∃ S',(evL Tryz.prog E0).call 52 #[.agg #[v_h_rooms,v_h_doors,v_h_ways],.int .i64 a,.int .i64 ta,.int .i64 b,.int .i64 tb,v_l] S=some (.int .i64 (r52 h a ta b tb l),S')∧Agree S S':=by
 have qr:=hF.r; have qd:=hF.d; have qw:=hF.w
 generalize hz:(evL Tryz.prog E0).call 52 _ _=z
 rw [L_call,evCall_said rfl Tryz.func52 rfl (by decide) Tryz.ntmps52 Tryz.results52] at hz
 obtain ⟨S1,e1,n1,b1,a1⟩:=push_open S (.cells [v_h_rooms,v_h_doors,v_h_ways] 26 0 true true)
 have g1:Agree S S1:=a1
 obtain ⟨S2,k2,a2⟩:=c113 h a ta b tb hF hs S1 (v_h_rooms) (hv_h_rooms.agree g1) (v_h_doors) (hv_h_doors.agree g1) (v_h_ways) (hv_h_ways.agree g1)
 have l2:=a2.1
 have v1_2:=(a2.2 S.next (by omega)).trans b1
 have g2:Agree S S2:=g1.trans a2
 try simp (disch:=first|omega|assumption) only [E0_G,SY,setArgs,off,agreeKind,vals,boxed,ldA,rdCells,aggD,Nat.reduceAdd,Nat.reduceSub,Nat.reduceLT,Nat.reduceBEq,TY_EvH30,e1,b1,k2] at hz
 rcases dP ((r113 h a ta b tb)=0) with ⟨h3a,h3⟩|⟨h3a,h3⟩
 ·have hV:=(r113_ok h3).1
  have lq4:=(r113_ok h3).2
  have w5:=(hv_l.agree g2).len (P:=Tryz.prog) (t:=54) Tryz.underlying54
  have w6:=(hv_h_rooms.agree g2).len (P:=Tryz.prog) (t:=22) Tryz.underlying22
  try simp (disch:=first|omega|assumption) only [E0_G,SY,off,agreeKind,ldA,aggD,aField,Nat.reduceAdd,Nat.reduceLT,Nat.reduceBEq,TY_EvH30,v1_2,h3a,w5,w6] at hz
  rcases dP ((l.length:Int)=(h.rooms.length:Int)) with ⟨h7a,h7⟩|⟨h7a,h7⟩
  ·have w8:=(hv_l.agree g2).len (P:=Tryz.prog) (t:=54) Tryz.underlying54
   try simp (disch:=first|omega|assumption) only [E0_G,SY,off,agreeKind,Nat.reduceAdd,Nat.reduceLT,Nat.reduceBEq,w5,h7a] at hz
   generalize hL9:Rec.loop _ _ _ _=L9 at hz
   obtain ⟨x9,t9,S9e,rfl,hQ9⟩:=loop_met hL9 (fun m t S'=>∃ (k:Nat),m+k=l.length∧k≤l.length∧t.get 1=some (.int .i64 a)∧t.get 2=some (.int .i64 ta)∧t.get 3=some (.int .i64 b)∧t.get 4=some (.int .i64 tb)∧t.get 5=some (v_l)∧t.get 6=some (.pointer (some ⟨S.next,0,none⟩))∧t.get 31=some (v_l)∧t.get 32=some (.int .i64 (l.length:Int))∧t.get 33=some (.int .i64 (k:Int))∧S'.heap.get S.next=some (.cells [v_h_rooms,v_h_doors,v_h_ways] 26 0 true true)∧Agree S S'∧S2.next≤S'.next∧R52_0 h a ta b tb l (l.drop k)=R52_0 h a ta b tb l l)
    (fun x t S'=>(x=.exit 0∧∃ (k:Nat),t.get 1=some (.int .i64 a)∧t.get 2=some (.int .i64 ta)∧t.get 3=some (.int .i64 b)∧t.get 4=some (.int .i64 tb)∧t.get 5=some (v_l)∧t.get 6=some (.pointer (some ⟨S.next,0,none⟩))∧S'.heap.get S.next=some (.cells [v_h_rooms,v_h_doors,v_h_ways] 26 0 true true)∧Agree S S'∧S2.next≤S'.next∧k≤l.length∧R52_0 h a ta b tb l l=.inr ())∨(x=.ret∧∃ (r12:Int),t.get 12=some (.int .i64 r12)∧Agree S S'∧R52_0 h a ta b tb l l=.inl (r12))) (l.length - 0) (by refine ⟨0,?_,?_,?_,?_,?_,?_,?_,?_,?_,?_,?_,v1_2,g2,Nat.le_refl _,rfl⟩<;>first|(simp only [SY,eq_self,Nat.reduceBEq]<;>rfl)|omega|assumption|(simp; omega)|simp) (by
     rintro m t S9 ⟨k,hi9_0,hi9_1,g9_1,g9_2,g9_3,g9_4,g9_5,g9_6,g9_31,g9_32,g9_33,bb9_1,ga9,gn9,hd9⟩
     refine .run fun z he=>?_
     try simp (disch:=first|omega|assumption) only [E0_G,SY,off,agreeKind,Nat.reduceLT,Nat.reduceBEq,g9_32,g9_33] at he
     rcases dP ((k:Int)<(l.length:Int)) with ⟨h10a,h10⟩|⟨h10a,h10⟩
     ·have hx9:l[k]?=some (l[k]'(by first|omega|simp; omega)):=List.getElem?_eq_getElem _
      generalize l[k]'_=x9 at hx9
      obtain ⟨id11,of11,cc11,ty11,wr11,ex11,i11,j11,l11,q11⟩:=(hv_l).at (P:=Tryz.prog) (t:=54) Tryz.underlying54 tz3 hx9
      have j11:=(ga9.2 id11 l11).trans j11
      have m11_0:cc11[of11]?=some (.int .i64 x9):=q11 0 (show 0<1 by decide)
      try simp (disch:=first|omega|assumption) only [E0_G,SY,off,agreeKind,ldA,aggD,Nat.reduceAdd,Nat.reduceLT,Nat.reduceBEq,TY_EvH30,g9_31,g9_33,h10a,i11,j11,m11_0] at he
      rcases dP (x9<0) with ⟨h12a,h12⟩|⟨h12a,h12⟩
      ·try simp (disch:=first|omega|assumption) only [E0_G,SY,off,agreeKind,Nat.reduceAdd,Nat.reduceLT,Nat.reduceBEq,h12a] at he
       rw [drop_cons' hx9] at hd9
       have hf:=(show _=(.inl 8:Sum (Int) (Unit)) from (if_pos h12).trans (rfl)).symm.trans hd9
       refine .ret he (.inr ⟨rfl,⟨8,?_,ga9,hf.symm⟩⟩)<;>first|(simp only [SY,eq_self,Nat.reduceBEq]<;>rfl)|omega|assumption|(simp; omega)|simp
      try simp (disch:=first|omega|assumption) only [E0_G,SY,off,agreeKind,Nat.reduceAdd,Nat.reduceLT,Nat.reduceBEq,h12a] at he
      rcases dP (1073741824<x9) with ⟨h13a,h13⟩|⟨h13a,h13⟩
      ·try simp (disch:=first|omega|assumption) only [E0_G,SY,off,agreeKind,Nat.reduceLT,h13a] at he
       rw [drop_cons' hx9] at hd9
       have hf:=(show _=(.inl 8:Sum (Int) (Unit)) from (if_neg h12).trans ((if_pos h13).trans (rfl))).symm.trans hd9
       refine .ret he (.inr ⟨rfl,⟨8,?_,ga9,hf.symm⟩⟩)<;>first|(simp only [SY,eq_self,Nat.reduceBEq]<;>rfl)|omega|assumption|(simp; omega)|simp
      have w14:IntKind.i64.wrap ((k:Int)+1)=((k+1:Nat):Int):=by rw [IntWalk.i64_in]<;>omega
      try simp (disch:=first|omega|assumption) only [E0_G,SY,off,agreeKind,Nat.reduceAdd,Nat.reduceLT,Nat.reduceBEq,g9_33,h13a,w14] at he
      rw [drop_cons' hx9] at hd9
      have hf:=(show _=(R52_0 h a ta b tb l (l.drop (k+1)):Sum (Int) (Unit)) from (if_neg h12).trans ((if_neg h13).trans (rfl))).symm.trans hd9
      refine .next he (m - 1) (by omega) ⟨(k+1),?_,?_,?_,?_,?_,?_,?_,?_,?_,?_,?_,bb9_1,ga9,by omega,hf⟩<;>first|(simp only [SY,eq_self,Nat.reduceBEq,g9_1,g9_2,g9_3,g9_4,g9_5,g9_6,g9_31,g9_32,g9_33]<;>rfl)|omega|assumption|(simp; omega)|simp
     try simp (disch:=first|omega|assumption) only [SY,h10a] at he
     rw [List.drop_eq_nil_of_le (show l.length≤k by omega)] at hd9
     have hf:=(show _=(.inr ():Sum (Int) (Unit)) from rfl).symm.trans hd9
     refine .exit he (.inl ⟨rfl,⟨k,?_,?_,?_,?_,?_,?_,bb9_1,ga9,by omega,?_,hf.symm⟩⟩)<;>first|(simp only [SY,eq_self,Nat.reduceBEq,g9_1,g9_2,g9_3,g9_4,g9_5,g9_6]<;>rfl)|omega|assumption|(simp; omega)|simp)
   rcases hQ9 with ⟨rfl,hQ9⟩|⟨rfl,hQ9⟩
   ·obtain ⟨k,ge9_1,ge9_2,ge9_3,ge9_4,ge9_5,ge9_6,be9_1,ge9,gm9,hj9_0,hR9⟩:=hQ9
    have qz16:((Int.toNat a:Nat):Int)=a:=Int.toNat_of_nonneg (by first|omega|simp; omega)
    have hx17:l[(Int.toNat a)]?=some (lget l (Int.toNat a)):=lget_some (by first|omega|simp; omega)
    obtain ⟨id17,of17,cc17,ty17,wr17,ex17,i17,j17,l17,q17⟩:=(hv_l).at (P:=Tryz.prog) (t:=54) Tryz.underlying54 tz3 hx17
    have j17:=(ge9.2 id17 l17).trans j17
    have m17_0:cc17[of17]?=some (.int .i64 (lget l (Int.toNat a))):=q17 0 (show 0<1 by decide)
    rw [qz16] at i17
    try simp (disch:=first|omega|assumption) only [E0_G,SY,off,agreeKind,ldA,aggD,eq_self,if_true,Nat.reduceAdd,Nat.reduceLT,Nat.reduceBEq,TY_EvH30,ge9_1,ge9_2,ge9_5,i17,j17,m17_0] at hz
    rcases dP (ta<(lget l (Int.toNat a))) with ⟨h18a,h18⟩|⟨h18a,h18⟩
    ·try simp (disch:=first|omega|assumption) only [E0_G,SY,off,agreeKind,Nat.reduceAdd,Nat.reduceLT,Nat.reduceBEq,h18a] at hz
     have hr:r52 h a ta b tb l=8:=(if_pos h3).trans ((if_pos h7).trans ((onSum_inr hR9).trans ((if_pos h18).trans (rfl))))
     exact fin hz (by rw [hr]) ge9
    have qz19:((Int.toNat b:Nat):Int)=b:=Int.toNat_of_nonneg (by first|omega|simp; omega)
    have hx20:l[(Int.toNat b)]?=some (lget l (Int.toNat b)):=lget_some (by first|omega|simp; omega)
    obtain ⟨id20,of20,cc20,ty20,wr20,ex20,i20,j20,l20,q20⟩:=(hv_l).at (P:=Tryz.prog) (t:=54) Tryz.underlying54 tz3 hx20
    have j20:=(ge9.2 id20 l20).trans j20
    have m20_0:cc20[of20]?=some (.int .i64 (lget l (Int.toNat b))):=q20 0 (show 0<1 by decide)
    rw [qz19] at i20
    try simp (disch:=first|omega|assumption) only [E0_G,SY,off,agreeKind,ldA,aggD,Nat.reduceAdd,Nat.reduceLT,Nat.reduceBEq,TY_EvH30,ge9_3,ge9_4,ge9_5,h18a,i20,j20,m20_0] at hz
    rcases dP ((lget l (Int.toNat b))≤tb) with ⟨h21a,h21⟩|⟨h21a,h21⟩
    ·try simp (disch:=first|omega|assumption) only [E0_G,SY,off,agreeKind,Nat.reduceAdd,Nat.reduceLT,Nat.reduceBEq,h21a] at hz
     have hr:r52 h a ta b tb l=8:=(if_pos h3).trans ((if_pos h7).trans ((onSum_inr hR9).trans ((if_neg h18).trans ((if_pos h21).trans (rfl)))))
     exact fin hz (by rw [hr]) ge9
    obtain ⟨S22,k22,a22⟩:=c118 h l (by omega) hV (by omega) S9e (v_h_rooms) (hv_h_rooms.agree ge9) (v_h_doors) (hv_h_doors.agree ge9) (v_h_ways) (hv_h_ways.agree ge9) (v_l) (hv_l.agree ge9)
    have l22:=a22.1
    have g22:Agree S S22:=ge9.trans a22
    try simp (disch:=first|omega|assumption) only [E0_G,SY,off,agreeKind,vals,ldA,rdCells,aggD,Nat.reduceAdd,Nat.reduceLT,Nat.reduceBEq,TY_EvH30,ge9_5,ge9_6,be9_1,h21a,k22] at hz
    rcases dB (r118 h l) with ⟨h23a,h23⟩|⟨h23a,h23⟩
    ·try simp (disch:=first|omega|assumption) only [E0_G,SY,off,agreeKind,Nat.reduceLT,Nat.reduceBEq,h23a] at hz
     have hr:r52 h a ta b tb l=0:=(if_pos h3).trans ((if_pos h7).trans ((onSum_inr hR9).trans ((if_neg h18).trans ((if_neg h21).trans ((if_pos h23).trans (rfl))))))
     exact fin hz (by rw [hr]) g22
    try simp (disch:=first|omega|assumption) only [E0_G,SY,off,agreeKind,Nat.reduceLT,Nat.reduceBEq,h23a] at hz
    have hr:r52 h a ta b tb l=8:=(if_pos h3).trans ((if_pos h7).trans ((onSum_inr hR9).trans ((if_neg h18).trans ((if_neg h21).trans ((if_neg h23).trans (rfl))))))
    exact fin hz (by rw [hr]) g22
   obtain ⟨r12,ge9_12,ge9,hR9⟩:=hQ9
   try simp (disch:=first|omega|assumption) only [SY,ge9_12] at hz
   have hr:r52 h a ta b tb l=r12:=(if_pos h3).trans ((if_pos h7).trans ((onSum_inl hR9).trans (rfl)))
   exact fin hz (by rw [hr]) ge9
  try simp (disch:=first|omega|assumption) only [E0_G,SY,off,agreeKind,Nat.reduceLT,Nat.reduceBEq,h7a] at hz
  have hr:r52 h a ta b tb l=8:=(if_pos h3).trans ((if_neg h7).trans (rfl))
  exact fin hz (by rw [hr]) g2
 try simp (disch:=first|omega|assumption) only [E0_G,SY,off,agreeKind,Nat.reduceAdd,Nat.reduceLT,Nat.reduceBEq,h3a] at hz
 have hr:r52 h a ta b tb l=(r113 h a ta b tb):=(if_neg h3).trans (rfl)
 exact fin hz (by rw [hr]) g2
def R55_0 (h:Hs) (a:Int) (ta:Int) (b:Int) (tb:Int) (l:List Int)  : List Int→Sum (Bool) (Unit)
 | []=>.inr ()
 | x5 :: l'=>(if (r71 x5 0 1073741824)=true then R55_0 h a ta b tb l l' else .inl false)
def R55_1 (h:Hs) (a:Int) (ta:Int) (b:Int) (tb:Int) (l:List Int)  : List Gt→Sum (Bool) (Unit)
 | []=>.inr ()
 | x21 :: l'=>(if (lget l (Int.toNat x21.fr))<1073741824 then (if (r99 h x21 (lget l (Int.toNat x21.fr)))<(lget l (Int.toNat x21.to)) then .inl false else R55_1 h a ta b tb l l') else R55_1 h a ta b tb l l')
def r55 (h:Hs) (a:Int) (ta:Int) (b:Int) (tb:Int) (l:List Int):Bool:=(if (l.length:Int)=(h.rooms.length:Int) then (onSum (R55_0 h a ta b tb l l) (fun (r12:Bool)=>r12) (fun (_:Unit)=>(if ta<(lget l (Int.toNat a)) then false else (if (lget l (Int.toNat b))≤tb then false else (onSum (R55_1 h a ta b tb l (r116 h)) (fun (r12:Bool)=>r12) (fun (_:Unit)=>true)))))) else false)
def r53 (h:Hs) (a:Int) (ta:Int) (b:Int) (tb:Int) (l:List Int):Int:=(if (r49 h a ta b tb)=0 then (if (r55 h a ta b tb (l:List Int))=true then 0 else 8) else (r49 h a ta b tb))
theorem r54_len0 {h:Hs} (hV:r59 h=0) {fr ti:Int} (ht:0≤ti∧ti≤1073741823):(r106 h fr ti).length≤40:=by
 rw [r106_len hV ht]; have:=rooms_len hV; omega
def r54 (h:Hs) (a:Int) (ta:Int) (b:Int) (tb:Int):List Int × Int:=(if (r113 h a ta b tb)=0 then (if (lget (r106 h a ta) (Int.toNat b))≤tb then ([],5) else ((r106 h a ta),0)) else ([],(r113 h a ta b tb)))
set_option maxHeartbeats 8000000 in
theorem c54 (h:Hs) (a:Int) (ta:Int) (b:Int) (tb:Int) (hF:Few h) (hs:∀ x ∈ h.rooms,x.name.size≤9223372036854775807) (S:AS) (v_h_rooms:Value) (hv_h_rooms:LstR S v_h_rooms h.rooms) (v_h_doors:Value) (hv_h_doors:LstR S v_h_doors h.doors) (v_h_ways:Value) (hv_h_ways:Lst S v_h_ways h.ways) :
  ∃ v' S',(evL Tryz.prog E0).call 54 #[.agg #[v_h_rooms,v_h_doors,v_h_ways],.int .i64 a,.int .i64 ta,.int .i64 b,.int .i64 tb] S=some (.tuple #[v',.int .i64 (r54 h a ta b tb).2],S')∧Agree S S'∧Own 3 S.next S' v' (r54 h a ta b tb).1:=by
 have qr:=hF.r; have qd:=hF.d; have qw:=hF.w
 generalize hz:(evL Tryz.prog E0).call 54 _ _=z
 rw [L_call,evCall_said rfl Tryz.func54 rfl (by decide) Tryz.ntmps54 Tryz.results54] at hz
 obtain ⟨S1,e1,n1,b1,a1⟩:=push_open S (.cells [v_h_rooms,v_h_doors,v_h_ways] 26 0 true true)
 have g1:Agree S S1:=a1
 obtain ⟨S2,k2,a2⟩:=c113 h a ta b tb hF hs S1 (v_h_rooms) (hv_h_rooms.agree g1) (v_h_doors) (hv_h_doors.agree g1) (v_h_ways) (hv_h_ways.agree g1)
 have l2:=a2.1
 have v1_2:=(a2.2 S.next (by omega)).trans b1
 have g2:Agree S S2:=g1.trans a2
 try simp (disch:=first|omega|assumption) only [E0_G,SY,setArgs,off,agreeKind,vals,boxed,ldA,rdCells,aggD,Nat.reduceAdd,Nat.reduceSub,Nat.reduceLT,Nat.reduceBEq,TY_EvH30,e1,b1,k2] at hz
 rcases dP ((r113 h a ta b tb)=0) with ⟨h3a,h3⟩|⟨h3a,h3⟩
 ·have hV:=(r113_ok h3).1
  have lq4:=(r113_ok h3).2
  obtain ⟨u5,S5,k5,a5,oo5⟩:=c106 h a ta hF hV (by omega) (by omega) S2 (v_h_rooms) (hv_h_rooms.agree g2) (v_h_doors) (hv_h_doors.agree g2) (v_h_ways) (hv_h_ways.agree g2)
  have l5:=a5.1
  obtain ⟨pu5,nu5,cu5,rfl⟩:=own_slice oo5
  have g5:Agree S S5:=g2.trans a5
  have p5:=r106_len (fr:=a) hV (show 0≤ta∧ta≤1073741823 by omega)
  have qz6:((Int.toNat b:Nat):Int)=b:=Int.toNat_of_nonneg (by first|omega|simp; omega)
  have hx7:(r106 h a ta)[(Int.toNat b)]?=some (lget (r106 h a ta) (Int.toNat b)):=lget_some (by first|omega|simp; omega)
  obtain ⟨id7,of7,cc7,ty7,wr7,ex7,i7,j7,l7,q7,lb7,bk7,oq7⟩:=oo5.at4 (P:=Tryz.prog) (t:=54) Tryz.underlying54 tz3 hx7
  have m7_0:cc7[of7]?=some (.int .i64 (lget (r106 h a ta) (Int.toNat b))):=q7 0 (show 0<1 by decide)
  rw [qz6] at i7
  try simp (disch:=first|omega|assumption) only [E0_G,SY,off,agreeKind,vals,ldA,rdCells,aggD,Nat.reduceAdd,Nat.reduceLT,Nat.reduceBEq,TY_EvH30,v1_2,h3a,k5,i7,j7,m7_0] at hz
  rcases dP ((lget (r106 h a ta) (Int.toNat b))≤tb) with ⟨h8a,h8⟩|⟨h8a,h8⟩
  ·try simp (disch:=first|omega|assumption) only [E0_G,SY,off,agreeKind,Nat.reduceAdd,Nat.reduceLT,Nat.reduceBEq,h8a] at hz
   have hr:r54 h a ta b tb=([],5):=(if_pos h3).trans ((if_pos h8).trans (rfl))
   exact ⟨.slice none 0 0,S5,by first|(rw [hr]; exact hz.symm)|exact hz.symm,g5,by rw [hr]; exact Own.nil _ _ _⟩
  try simp (disch:=first|omega|assumption) only [E0_G,SY,off,agreeKind,Nat.reduceAdd,Nat.reduceLT,Nat.reduceBEq,h8a] at hz
  have hr:r54 h a ta b tb=((r106 h a ta),0):=(if_pos h3).trans ((if_neg h8).trans (rfl))
  exact ⟨.slice pu5 nu5 cu5,S5,by first|(rw [hr]; exact hz.symm)|exact hz.symm,g5,by rw [hr]; exact oo5.low (by omega)⟩
 try simp (disch:=first|omega|assumption) only [E0_G,SY,off,agreeKind,Nat.reduceAdd,Nat.reduceLT,Nat.reduceBEq,h3a] at hz
 have hr:r54 h a ta b tb=([],(r113 h a ta b tb)):=(if_neg h3).trans (rfl)
 exact ⟨.slice none 0 0,S2,by first|(rw [hr]; exact hz.symm)|exact hz.symm,g2,by rw [hr]; exact Own.nil _ _ _⟩
theorem r54_len (h:Hs) (a ta b tb:Int):(r54 h a ta b tb).1.length≤40:=by
 unfold r54
 split
 ·rename_i h1
  have q:=r113_ok h1
  split
  ·simp
  ·exact r54_len0 q.1 q.2.2.1
 ·simp
end House
end Go.Proofs
end
section
set_option linter.unusedSimpArgs false
set_option linter.unusedVariables false
namespace Go.Proofs
namespace House
open Go Go.RowKit Go.Aev
set_option maxRecDepth 100000
theorem R52_R55 (h:Hs) (a ta b tb:Int) (l:List Int):∀ (m:List Int),(R52_0 h a ta b tb l m=.inl 8∧R55_0 h a ta b tb l m=.inl false)∨(R52_0 h a ta b tb l m=.inr ()∧R55_0 h a ta b tb l m=.inr ()∧∀ x ∈ m,0≤x∧x≤1073741824):=by
 intro m
 induction m with
 | nil=>exact .inr ⟨rfl,rfl,fun x hx=>by simp at hx⟩
 | cons x m ih =>
  rw [R52_0,R55_0]
  by_cases h1:x<0
  ·rw [if_pos h1,if_neg (fun e=>by have:=r71_iff.1 e; omega)]; exact .inl ⟨rfl,rfl⟩
  ·rw [if_neg h1]
   by_cases h2:1073741824<x
   ·rw [if_pos h2,if_neg (fun e=>by have:=r71_iff.1 e; omega)]; exact .inl ⟨rfl,rfl⟩
   ·rw [if_neg h2,if_pos (r71_iff.2 (by omega))]
    rcases ih with ih|⟨e1,e2,e3⟩
    ·exact .inl ih
    ·exact .inr ⟨e1,e2,fun y hy=>by rcases List.mem_cons.1 hy with rfl|hy; omega; exact e3 y hy⟩
theorem R55_any {h:Hs} (hV:r59 h=0) (a ta b tb:Int) (l:List Int) (hl:l.length=h.rooms.length) (hr:∀ x ∈ l,0≤x∧x≤1073741824):∀ (m:List Pg),(∀ p ∈ m,p ∈ psg h)→onSum (R55_1 h a ta b tb l (m.map gt)) (fun r=>r) (fun _=>true)=!m.any (bad h l):=by
 intro m
 induction m with
 | nil=>intro _; rfl
 | cons x m ih =>
  intro hm
  have k:=psg_ok hV (hm x (by simp))
  have kf:=k.f
  have ih:=ih (fun p hp=>hm p (by simp [hp]))
  have h0:=hr _ (lget_mem' (l:=l) (i:=x.fr.toNat) (by omega))
  rw [List.map_cons,R55_1,List.any_cons]
  show onSum (if lget l x.fr.toNat<1073741824 then (if r99 h (gt x) (lget l x.fr.toNat)<lget l x.to.toNat then Sum.inl false else _) else _) _ _=_
  by_cases c:lget l x.fr.toNat<1073741824
  ·rw [if_pos c,r99_r145 hV k.ok (by omega)]
   have e88:r88 (lget l x.fr.toNat)=true:=r88_iff.2 (by omega)
   by_cases d:r145 x (lget l x.fr.toNat) h<lget l x.to.toNat
   ·rw [if_pos d]; unfold bad; rw [e88,decide_eq_true d]; rfl
   ·rw [if_neg d,ih]; unfold bad; rw [e88,decide_eq_false d]; rfl
  ·rw [if_neg c,ih]
   have e88:r88 (lget l x.fr.toNat)=false:=Bool.eq_false_iff.2 (fun e=>by have:=r88_iff.1 e; omega)
   unfold bad; rw [e88]; rfl
theorem wall_eq (h:Hs) (a ta b tb:Int) (l:List Int):r52 h a ta b tb l=r53 h a ta b tb l:=by
 unfold r52 r53
 rw [two_eq]
 by_cases e:r49 h a ta b tb=0
 ·rw [if_pos e,if_pos e]
  have hV:=(r49_ok e).1
  unfold r55
  by_cases hl:(l.length:Int)=(h.rooms.length:Int)
  ·rw [if_pos hl,if_pos hl]
   rcases R52_R55 h a ta b tb l l with ⟨e1,e2⟩|⟨e1,e2,e3⟩
   ·rw [e1,e2]; rfl
   ·rw [e1,e2,gates_eq,R55_any hV a ta b tb l (by omega) e3 (psg h) (fun p hp=>hp)]
    show (if ta<lget l a.toNat then 8 else if lget l b.toNat≤tb then 8 else if r118 h l=true then 0 else 8)=if (if ta<lget l a.toNat then false else if lget l b.toNat≤tb then false else r118 h l)=true then 0 else 8
    by_cases cc1:ta<lget l a.toNat
    ·simp [cc1]
    ·by_cases cc2:lget l b.toNat≤tb
     ·simp [cc1,cc2]
     ·simp [cc1,cc2]
  ·rw [if_neg hl,if_neg hl]; rfl
 ·rw [if_neg e,if_neg e]
theorem crs {h:Hs} (hV:r59 h=0):Crs h.rooms.length (psg h) (fun p t=>r145 p t h):=⟨psg_hg hV,fun p hp t ht=>(r145_ge (psg_ok hV hp).ok ht).1,psg_hp hV⟩
theorem r106_tm {h:Hs} (hV:r59 h=0) {fr ti:Int} (ht:0≤ti∧ti≤1073741823):Tm h.rooms.length (r106 h fr ti):=(r109_tm (rooms:=h.rooms.length) (fr:=fr) ht (psg_hg hV)).1
theorem r106_closed {h:Hs} (hV:r59 h=0) {fr ti:Int} (ht:0≤ti∧ti≤1073741823):∀ p ∈ psg h,lget (r106 h fr ti) p.fr.toNat≤1073741823→lget (r106 h fr ti) p.to.toNat≤r145 p (lget (r106 h fr ti) p.fr.toNat) h :=
 closed (fr:=fr) (crs hV) ht
theorem r106_start {h:Hs} (hV:r59 h=0) {fr ti:Int} (hf:0≤fr∧fr<(h.rooms.length:Int)) (ht:0≤ti∧ti≤1073741823):lget (r106 h fr ti) fr.toNat≤ti:=start_le (crs hV) hf ht
theorem not_bad {h:Hs} {l:List Int} (hc:∀ p ∈ psg h,lget l p.fr.toNat≤1073741823→lget l p.to.toNat≤r145 p (lget l p.fr.toNat) h):(psg h).any (bad h l)=false:=by
 rw [List.any_eq_false]
 intro p hp e
 unfold bad at e
 rw [Bool.and_eq_true,decide_eq_true_eq] at e
 have:=r88_iff.1 e.1
 have:=hc p hp this.2
 omega
theorem is_wall {h:Hs} (hV:r59 h=0) {a ta b tb:Int} {l:List Int} (hl:Tm h.rooms.length l) (h1:lget l a.toNat≤ta) (h2:tb<lget l b.toNat) (hc:∀ p ∈ psg h,lget l p.fr.toNat≤1073741823→lget l p.to.toNat≤r145 p (lget l p.fr.toNat) h):r55 h a ta b tb l=true:=by
 unfold r55
 rw [if_pos (by rw [hl.len])]
 rcases R52_R55 h a ta b tb l l with ⟨e1,e2⟩|⟨e1,e2,e3⟩
 ·exfalso
  have:∀ (m:List Int),(∀ x ∈ m,0≤x∧x≤1073741824)→R55_0 h a ta b tb l m=.inr ():=by
   intro m
   induction m with
   | nil=>intro _; rfl
   | cons x m ih=>intro hm; rw [R55_0,if_pos (r71_iff.2 (hm x (by simp)))]; exact ih (fun y hy=>hm y (by simp [hy]))
  rw [this l hl.all] at e2; cases e2
 ·rw [e2,gates_eq,R55_any hV a ta b tb l hl.len e3 (psg h) (fun p hp=>hp),not_bad hc]
  show (if ta<lget l a.toNat then false else if lget l b.toNat≤tb then false else !false)=true
  rw [if_neg (by omega),if_neg (by omega)]; rfl
end House
end Go.Proofs
end
