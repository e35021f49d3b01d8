import Derived.Test.YtohfdkdjfoonjaaGreatDoorEvM14
import Derived.Test.YtohfdkdjfoonjaaGreatDoorEvH32
set_option linter.unusedSimpArgs false
set_option linter.unusedVariables false
namespace Go.Proofs
namespace House
open Go Go.RowKit Go.Aev
set_option maxRecDepth 100000
theorem r41_val {h:Hs} (hV:r59 h=0) {a ta:Int} (ha:0≤a∧a<(h.rooms.length:Int)) (hta:0≤ta∧ta≤1073741823):r41 h a ta=(r106 h a ta,0):=by
 unfold r41
 rw [if_pos (r102_iff.2 ha),r84_eq,if_pos hV,if_pos (r88_iff.2 hta),if_pos rfl]
theorem r43_val {h:Hs} (hV:r59 h=0) {a ta:Int} (ha:0≤a∧a<(h.rooms.length:Int)) (hta:0≤ta∧ta≤1073741823):r43 h a ta=(r112 h a ta,0):=by
 unfold r43
 rw [if_pos (r102_iff.2 ha),r84_eq,if_pos hV,if_pos (r88_iff.2 hta),if_pos rfl,departures_eq hV hta]
theorem wall_least {h:Hs} (hV:r59 h=0) {a ta:Int} {l:List Int} (ha:0≤a∧a<(h.rooms.length:Int)) (hta:0≤ta∧ta≤1073741823) (hl:l.length=h.rooms.length) (hr:∀ x ∈ l,0≤x∧x≤1073741824) (h1:lget l a.toNat≤ta) (hc:∀ p ∈ psg h,lget l p.fr.toNat≤1073741823→lget l p.to.toNat≤r145 p (lget l p.fr.toNat) h) :
  ∀ i,i<h.rooms.length→lget l i≤lget (r106 h a ta) i :=
 r106_least hV ha hta (fun i=>lget l i) (fun p hp t hWt ht=>by
  have kf:=(psg_ok hV hp).f
  have hWt:lget l p.fr.toNat≤t:=hWt
  have h0:=hr _ (lget_mem' (l:=l) (i:=p.fr.toNat) (by omega))
  exact Int.le_trans (hc p hp (by omega)) (r145_mono (psg_ok hV hp).ok h0.1 hWt)) h1 (fun i hi=>(hr _ (lget_mem' (l:=l) (i:=i) (by omega))).2)
theorem r70_room {h:Hs} (hF:r68 h=true) (n:Int):0≤r70 n (h.rooms.length:Int)∧r70 n (h.rooms.length:Int)<(h.rooms.length:Int):=by
 have q:=r68_ok hF
 have:=rooms_pos q.2; have:=rooms_len q.2
 exact r70_ok (by omega)
theorem r106_mono {h:Hs} (hV:r59 h=0) {a t u:Int} (ha:0≤a∧a<(h.rooms.length:Int)) (ht:0≤t∧t≤1073741823) (hu:u≤1073741823) (htu:t≤u):∀ i,i<h.rooms.length→lget (r106 h a t) i≤lget (r106 h a u) i:=by
 have hT:=r106_tm (fr:=a) hV ht
 exact wall_least hV ha ⟨by omega,hu⟩ hT.len hT.all (by have:=r106_start hV ha ht; omega) (r106_closed hV ht)
theorem r106_from {h:Hs} (hV:r59 h=0) {a t:Int} (ha:0≤a∧a<(h.rooms.length:Int)) (ht:0≤t∧t≤1073741823):∀ i,i<h.rooms.length→t≤lget (r106 h a t) i :=
 r106_least hV ha ht (fun _=>t) (fun p hp s hs hr=>by have:=(r145_ge (psg_ok hV hp).ok hr).1; have hs:t≤s:=hs; show t≤_; omega) (Int.le_refl _) (fun i _=>by show t≤1073741824; omega)
theorem r112_mono {h : Hs} (hV : r59 h = 0) {b t u : Int} (hb : 0 ≤ b ∧ b < (h.rooms.length : Int)) (ht : 0 ≤ t ∧ t ≤ 1073741823) (hu : u ≤ 1073741823) (htu : t ≤ u) : ∀ i,i < h.rooms.length → lget (r112 h b t) i ≤ lget (r112 h b u) i := by
  have hu' : 0 ≤ u ∧ u ≤ 1073741823 := ⟨by omega,hu⟩
  have hD := r112_dm (fr := b) hV hu'
  have hl := hD.len
  intro i hi
  have k := r112_least hV hb ht (fun i => if i < h.rooms.length then lget (r112 h b u) i else 1073741824) (fun p hp s hs hr => by
    have kq := psg_ok hV hp
    have kf := kq.f; have kt := kq.t
    have hs : s ≤ if p.to.toNat < h.rooms.length then lget (r112 h b u) p.to.toNat else 1073741824 := hs
    show r146 p s h ≤ if p.fr.toNat < h.rooms.length then lget (r112 h b u) p.fr.toNat else 1073741824
    rw [if_pos (by omega)] at hs ⊢
    have k1 := r146_mono kq.ok (h := h) (t := s) (u := lget (r112 h b u) p.to.toNat) hs
    have k2 := r112_closed (fr := b) hV hu' p hp (by omega)
    omega) (by show t ≤ if b.toNat < h.rooms.length then _ else _
               rw [if_pos (by omega)]; have := r112_start hV hb hu'; omega)
    (fun i => by show -1 ≤ if i < h.rooms.length then _ else _
                 split
                 · exact (hD.at (lget_some (by omega))).1
                 · omega) i hi
  have k : lget (r112 h b t) i ≤ if i < h.rooms.length then lget (r112 h b u) i else 1073741824 := k
  rw [if_pos hi] at k; exact k
theorem r112_to {h:Hs} (hV:r59 h=0) {b t:Int} (hb:0≤b∧b<(h.rooms.length:Int)) (ht:0≤t∧t≤1073741823):∀ i,i<h.rooms.length→lget (r112 h b t) i≤t :=
 r112_least hV hb ht (fun _=>t) (fun p hp s hs hr=>by have:=(r146_ge (psg_ok hV hp).ok hr).2; have hs:s≤t:=hs; show _≤t; omega) (Int.le_refl _) (fun i=>by show -1≤t; omega)
theorem R61_le {h:Hs} (hV:r59 h=0) (l:List Int) (ti:Int) (hr:∀ x ∈ l,0≤x∧x<(h.rooms.length:Int)):∀ (tail:List Int) (k:Nat) (tv:Int),l.drop (k+1)=tail→0≤tv∧tv≤1073741823→R61_0 h l ti tail k tv≤1073741824:=by
 intro tail
 induction tail with
 | nil=>intro k tv _ ht; rw [R61_0]; omega
 | cons x tail ih =>
  intro k tv hd ht
  obtain ⟨hx,hd'⟩:=drop_unc hd
  have hxr:=hr x (List.mem_of_getElem? hx)
  have hv:=r106_at hV ht (lget_some (l:=r106 h (lget l k) tv) (i:=x.toNat) (by rw [r106_len hV ht]; omega))
  rw [R61_0]
  split
  ·omega
  ·exact ih _ _ hd' (by omega)
theorem R61_mono {h:Hs} (hV:r59 h=0) (l:List Int) (ti ti':Int) (hr:∀ x ∈ l,0≤x∧x<(h.rooms.length:Int)):∀ (tail:List Int) (k:Nat) (t u:Int),l.drop (k+1)=tail→0≤t→t≤u→u≤1073741823→R61_0 h l ti tail k t≤R61_0 h l ti' tail k u:=by
 intro tail
 induction tail with
 | nil=>intro k t u _ _ h2 _; rw [R61_0,R61_0]; exact h2
 | cons x tail ih =>
  intro k t u hd h0 h1 h2
  obtain ⟨hx,hd'⟩:=drop_unc hd
  have hk:k+1<l.length:=(List.getElem?_eq_some_iff.1 hx).1
  have hxr:=hr x (List.mem_of_getElem? hx)
  have hkr:=hr (lget l k) (lget_mem' (by omega))
  have ht:0≤t∧t≤1073741823:=⟨h0,by omega⟩
  have hu:0≤u∧u≤1073741823:=⟨by omega,h2⟩
  have hv:=r106_at hV ht (lget_some (l:=r106 h (lget l k) t) (i:=x.toNat) (by rw [r106_len hV ht]; omega))
  have hw:=r106_at hV hu (lget_some (l:=r106 h (lget l k) u) (i:=x.toNat) (by rw [r106_len hV hu]; omega))
  have m:=r106_mono hV hkr ht h2 h1 x.toNat (by omega)
  rw [R61_0,R61_0]
  by_cases k2:lget (r106 h (lget l k) u) x.toNat=1073741824
  ·rw [if_pos k2,k2]
   split
   ·omega
   ·exact R61_le hV l ti hr tail _ _ hd' (by omega)
  ·rw [if_neg k2,if_neg (by omega)]
   exact ih _ _ _ hd' (by omega) m (by omega)
theorem r61_later {h:Hs} (hV:r59 h=0) (l:List Int) {t u:Int} (ht:0≤t∧t≤1073741823) (hu:0≤u∧u≤1073741823) (htu:t≤u):(r61 h l t).2=(r61 h l u).2∧(r61 h l t).1≤(r61 h l u).1:=by
 unfold r61
 rw [r88_iff.2 ht,r88_iff.2 hu]
 split
 ·split
  ·exact ⟨rfl,Int.le_refl _⟩
  ·split
   ·rename_i h1
    simp only [if_true]
    exact ⟨trivial,R61_mono hV l t u (r121_ok h1) (l.drop 1) 0 t u rfl ht.1 htu hu.2⟩
   ·exact ⟨rfl,Int.le_refl _⟩
 ·exact ⟨rfl,Int.le_refl _⟩
theorem R15_ok {h:Hs} (hF:r68 h=true) (a b way:Int) (back:Bool) (t0 u0:Int) (l:List Int) (h1:0≤min t0 u0∧max t0 u0≤1073741823):∀ (m:List Int) (k:Nat),(r106 h (r70 a (h.rooms.length:Int)) (min t0 u0)).drop k=m→R15_0 h a b way back t0 u0 l m k=.inr ():=by
 have hV:=(r68_ok hF).2
 have ha:=r70_room hF a; have hb:=r70_room hF b
 have ht:0≤min t0 u0∧min t0 u0≤1073741823:=⟨h1.1,by omega⟩
 have hu:0≤max t0 u0∧max t0 u0≤1073741823:=⟨by omega,h1.2⟩
 intro m
 induction m with
 | nil=>intro k _; rfl
 | cons x m ih =>
  intro k hd
  obtain ⟨hx,hd'⟩:=drop_unc hd
  have hk:k<h.rooms.length:=by have:=(List.getElem?_eq_some_iff.1 hx).1; rw [r106_len hV ht] at this; exact this
  have hlx:lget (r106 h (r70 a (h.rooms.length:Int)) (min t0 u0)) k=x:=lget_of hx
  rw [R15_0,r41_val hV ha hu,r43_val hV hb hu,r43_val hV hb ht]
  have m1:=r106_mono hV ha ht hu.2 (show min t0 u0≤max t0 u0 by omega) k hk
  have m2:=r112_mono hV hb ht hu.2 (show min t0 u0≤max t0 u0 by omega) k hk
  have m3:=r106_from hV ha ht k hk
  have m4:=r112_to hV hb ht k hk
  rw [hlx] at m1 m3
  show (if lget (r106 h (r70 a (h.rooms.length:Int)) (max t0 u0)) k<x then _ else if lget (r112 h (r70 b (h.rooms.length:Int)) (max t0 u0)) k<lget (r112 h (r70 b (h.rooms.length:Int)) (min t0 u0)) k then _ else if x<min t0 u0 then _ else if min t0 u0<lget (r112 h (r70 b (h.rooms.length:Int)) (min t0 u0)) k then _ else _)=_
  rw [if_neg (by omega),if_neg (by omega),if_neg (by omega),if_neg (by omega)]
  exact ih _ hd'
theorem r35_later {h:Hs} (hV:r59 h=0) {w:Int} {b:Bool} {t u:Int} (hw:0≤w∧w<(h.ways.length:Int)) (ht:0≤t∧t≤1073741823) (hu:0≤u∧u≤1073741823) (htu:t≤u) :
  (r35 h w b t).2=(r35 h w b u).2∧(r37 h w b t).2=(r37 h w b u).2∧(r35 h w b t).2=(r37 h w b t).2∧(r35 h w b t).1≤(r35 h w b u).1∧(r37 h w b t).1≤(r37 h w b u).1:=by
 have e:∀ s,0≤s∧s≤1073741823→r84 h (r88 s)=0:=fun s hs=>by rw [r84_eq,if_pos hV,if_pos (r88_iff.2 hs)]
 show (r96e h w b t h).2=(r96e h w b u h).2∧(r96d h w b t h).2=(r96d h w b u h).2∧(r96e h w b t h).2=(r96d h w b t h).2∧(r96e h w b t h).1≤(r96e h w b u h).1∧(r96d h w b t h).1≤(r96d h w b u h).1
 unfold r96e r96d
 rw [if_pos (r143_iff.2 hw),if_pos (r143_iff.2 hw),if_pos (r143_iff.2 hw),if_pos (r143_iff.2 hw),if_pos (e t ht),if_pos (e t ht),if_pos (e u hu),if_pos (e u hu)]
 have q:=r144_ok (b:=b) hV hw
 by_cases c:(r144 h w b).2=true
 ·simp only [if_pos c]
  refine ⟨trivial,trivial,trivial,?_,?_⟩
  ·exact r145_mono (p:=⟨(r144 h w b).1.1,(r144 h w b).1.2.1,(r144 h w b).1.2.2.1,(r144 h w b).1.2.2.2.1,(r144 h w b).1.2.2.2.2.1,(r144 h w b).1.2.2.2.2.2⟩) ⟨hV,⟨q.1,q.2.1⟩,q.2.2⟩ ht.1 htu
  ·exact r146_mono (p:=⟨(r144 h w b).1.1,(r144 h w b).1.2.1,(r144 h w b).1.2.2.1,(r144 h w b).1.2.2.2.1,(r144 h w b).1.2.2.2.2.1,(r144 h w b).1.2.2.2.2.2⟩) ⟨hV,⟨q.1,q.2.1⟩,q.2.2⟩ htu
 ·simp only [if_neg c]
  exact ⟨trivial,trivial,trivial,Int.le_refl _,Int.le_refl _⟩
theorem r15_true (h:Hs) (a b way:Int) (back:Bool) (t0 u0:Int) (l:List Int):r15 h a b way back t0 u0 l=true:=by
 unfold r15
 by_cases h1:r68 h=true
 case neg=>rw [if_neg h1]
 by_cases h2:r69 t0=true
 case neg=>rw [if_pos h1,if_neg h2]
 by_cases h3:r69 u0=true
 case neg=>rw [if_pos h1,if_pos h2,if_neg h3]
 by_cases h4:10<(l.length:Int)
 ·rw [if_pos h1,if_pos h2,if_pos h3,if_pos h4]
 rw [if_pos h1,if_pos h2,if_pos h3,if_neg h4]
 have hV:=(r68_ok h1).2
 have ha:=r70_room h1 a; have hb:=r70_room h1 b
 have hta:=r69_iff.1 h2; have htb:=r69_iff.1 h3
 have ht:0≤min t0 u0∧min t0 u0≤1073741823:=⟨by omega,by omega⟩
 have hu:0≤max t0 u0∧max t0 u0≤1073741823:=⟨by omega,by omega⟩
 have hk:=R15_ok h1 a b way back t0 u0 l ⟨ht.1,hu.2⟩ _ 0 rfl
 rw [List.drop_zero] at hk
 rw [r41_val hV ha ht,r41_val hV ha hu,r43_val hV hb ht,r43_val hV hb hu]
 simp only [r106_len hV ht,r106_len hV hu,r112_len,if_true]
 rw [hk]
 have tl:=r61_later hV l ht hu (by omega)
 simp only [onSum]
 by_cases hw:0<(h.ways.length:Int)
 ·rw [if_pos hw]
  have hw2:0≤r70 way (h.ways.length:Int)∧r70 way (h.ways.length:Int)<(h.ways.length:Int):=r70_ok ⟨by omega,by have:=(r68_ok h1).1.w; omega⟩
  have q:=r35_later (b:=back) hV hw2 ht hu (by omega)
  rw [if_pos q.1,if_pos q.2.1,if_pos q.2.2.1,if_neg (by omega),if_neg (by omega),if_pos tl.1,decide_eq_true tl.2]
 ·rw [if_neg hw,if_pos tl.1,decide_eq_true tl.2]
end House
end Go.Proofs
