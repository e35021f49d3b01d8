/-
  BAA: EvM19, EvM20.
-/
import Derived.Test.YtohfdkdjfoonjaaGreatDoorEvH36
import Derived.Test.YtohfdkdjfoonjaaGreatDoorBZ
import Derived.Test.YtohfdkdjfoonjaaGreatDoorBW
section
/-
  The house: what the law HouseWalked walks (math).
-/
set_option linter.unusedSimpArgs false
set_option linter.unusedVariables false
namespace Go.Proofs
namespace House
open Go Go.RowKit Go.Aev
set_option maxRecDepth 100000
theorem way_ne {h : Hs} (hV : r59 h = 0) {x : Wy} (hx : x ∈ h.ways) : x.a ≠ x.b := by
  have h1 := R23_3_ok h _ _ (valid_parts hV).2.1 x hx
  intro e
  unfold r83 at h1
  rw [if_pos e] at h1
  split at h1
  · split at h1 <;> simp at h1
  · simp at h1
theorem r28_d {h : Hs} (hV : r59 h = 0) {w : Int} (hw : 0 ≤ w ∧ w < (h.doors.length : Int)) {t : Int} (ht : 0 ≤ t ∧ t ≤ 1073741823) :
    (r28 h w t).2 = 0 ∧ t ≤ (r28 h w t).1 ∧ ((r28 h w t).1 ≤ 1073741823 → r89 (lget h.doors (Int.toNat w)) (r28 h w t).1 = (r28 h w t).1) := by
  have e : r28 h w t = (r89 (lget h.doors (Int.toNat w)) t, 0) := by
    unfold r28
    rw [if_pos (show r87 h w = true from r135_iff.2 hw), if_pos (by rw [r88_iff.2 ht, r84_true]; exact hV)]
  have hO := oko hV (List.mem_of_getElem? (lget_some (l := h.doors) (i := Int.toNat w) (by omega)))
  have g := r89_ge hO ht
  rw [e]
  refine ⟨rfl, g.1, fun hm => ?_⟩
  have hm : r89 (lget h.doors (Int.toNat w)) t ≤ 1073741823 := hm
  refine Nx.unique (r89_nx hO (by omega)) ?_
  rcases r89_nx hO ht.1 with ⟨n1, n2⟩ | ⟨n1, n2, n3, n4⟩
  · omega
  · exact .inr ⟨Int.le_refl _, n2, n3, fun n q1 q2 => by omega⟩
structure J (h : Hs) (A t0 cur tm : Int) (steps : List Stp) (iv : Nat) : Prop where
  n : steps.length ≤ iv ∧ iv ≤ 12
  c : 0 ≤ cur ∧ cur < (h.rooms.length : Int)
  t : 0 ≤ tm ∧ tm ≤ 1073741823
  w : ∀ L, R39_0 h A t0 L steps A t0 = .inr (cur, tm)
  e : lget (r106 h A t0) cur.toNat ≤ tm
theorem J.step {h : Hs} {A t0 cur tm : Int} {steps : List Stp} {iv : Nat} (hV : r59 h = 0) (ht0 : 0 ≤ t0 ∧ t0 ≤ 1073741823) (hJ : J h A t0 cur tm steps iv) (hi : iv < 12) {p : Pg} (hp : p ∈ psg h) (hf : p.fr = cur) {d : Int} (hd : tm ≤ d) (ho : 0 ≤ p.door → r89 (lget h.doors (Int.toNat p.door)) d = d) (he : ¬ 1073741823 < d + p.secs) :
    J h A t0 p.to (d + p.secs) (steps ++ [⟨p.way, p.back, d⟩]) (iv + 1) := by
  have q := psg_ok hV hp
  have qs := q.ok.s
  have tt := hJ.t
  subst hf
  have k := walk_one hV hp tt.1 ⟨hd, by omega⟩ ho (by omega)
  refine ⟨by rw [List.length_append, List.length_singleton]; have := hJ.n; omega, q.t, by omega, fun L => ?_, ?_⟩
  · rw [R39_app h A t0 L _ _ _ _ _ _ (hJ.w L), R39_0, R39_0, k.1]; rfl
  · have he' := hJ.e
    have c := r106_closed hV (fr := A) ht0 p hp (by omega)
    have hg : 0 ≤ lget (r106 h A t0) p.fr.toNat := by
      have := (r109_tm (rooms := h.rooms.length) (fr := A) ht0 (psg_hg hV)).1
      exact (this.at (lget_some (by have := this.len; have := q.f; omega))).1
    have mo := r145_mono q.ok hg he'
    omega
theorem J.more {h : Hs} {A t0 cur tm : Int} {steps : List Stp} {iv : Nat} (hJ : J h A t0 cur tm steps iv) (hi : iv < 12) : J h A t0 cur tm steps (iv + 1) := ⟨by have := hJ.n; omega, hJ.c, hJ.t, hJ.w, hJ.e⟩
theorem J.fwd {h : Hs} {A t0 cur tm : Int} {steps : List Stp} {iv : Nat} (hV : r59 h = 0) (ht0 : 0 ≤ t0 ∧ t0 ≤ 1073741823) (hJ : J h A t0 cur tm steps iv) (hi : iv < 12) {k : Int} (hk : 0 ≤ k ∧ k < (h.ways.length : Int)) (hf : (lget h.ways (Int.toNat k)).a = cur) {d : Int} (hd : tm ≤ d)
    (he : ¬ 1073741823 < d + (lget h.ways (Int.toNat k)).secs) (ho : 0 ≤ (lget h.ways (Int.toNat k)).door → r89 (lget h.doors (Int.toNat (lget h.ways (Int.toNat k)).door)) d = d) :
    J h A t0 (lget h.ways (Int.toNat k)).b (d + (lget h.ways (Int.toNat k)).secs) (steps ++ [⟨k, false, d⟩]) (iv + 1) :=
  J.step hV ht0 hJ hi (p := pgOf h k false) (psg_mem hk rfl) hf hd ho he
theorem J.bwd {h : Hs} {A t0 cur tm : Int} {steps : List Stp} {iv : Nat} (hV : r59 h = 0) (ht0 : 0 ≤ t0 ∧ t0 ≤ 1073741823) (hJ : J h A t0 cur tm steps iv) (hi : iv < 12) {k : Int} (hk : 0 ≤ k ∧ k < (h.ways.length : Int)) (hf : (lget h.ways (Int.toNat k)).b = cur) (hb : ¬ (lget h.ways (Int.toNat k)).back = 0) {d : Int} (hd : tm ≤ d)
    (he : ¬ 1073741823 < d + (lget h.ways (Int.toNat k)).back) (ho : 0 ≤ (lget h.ways (Int.toNat k)).door → r89 (lget h.doors (Int.toNat (lget h.ways (Int.toNat k)).door)) d = d) :
    J h A t0 (lget h.ways (Int.toNat k)).a (d + (lget h.ways (Int.toNat k)).back) (steps ++ [⟨k, true, d⟩]) (iv + 1) :=
  J.step hV ht0 hJ hi (p := pgOf h k true) (psg_mem hk (show decide (0 < (lget h.ways (Int.toNat k)).back) = true from decide_eq_true (by have := (okw_at hV hk).k; omega))) hf hd ho he
theorem R16_J {h : Hs} {a t0 A : Int} {l q : List Int} (hV : r59 h = 0) (hF : Few h) (ht0 : 0 ≤ t0 ∧ t0 ≤ 1073741823) (hr70 : ∀ n k : Int, 1 ≤ k ∧ k ≤ 1000000 → 0 ≤ r70 n k ∧ r70 n k < k) : ∀ (m : Nat) (cur tm : Int) (steps : List Stp) (iv : Nat), J h A t0 cur tm steps iv →
    ∃ cur' tm' steps' iv', R16_0 h a t0 l q m cur tm steps iv = .inr (cur', tm', steps') ∧ J h A t0 cur' tm' steps' iv' := by
  intro m
  induction m with
  | zero => intro cur tm steps iv hJ; exact ⟨_, _, _, _, rfl, hJ⟩
  | succ m ih =>
    intro cur tm steps iv hJ
    have tt := hJ.t
    have fw := hF.w
    rw [R16_0]
    by_cases g1 : ((iv : Int) < (l.length : Int)) ∧ ((iv : Int) < 12)
    case neg => rw [if_neg g1]; exact ⟨_, _, _, _, rfl, hJ⟩
    rw [if_pos g1]
    by_cases g3 : (h.ways.length : Int) = 0
    · rw [if_pos g3]; exact ⟨_, _, _, _, rfl, hJ⟩
    rw [if_neg g3]
    have hi : iv < 12 := by omega
    have hk := hr70 (lget l iv) (h.ways.length : Int) (by omega)
    have hq := hr70 (lget q iv) 3000 (by omega)
    generalize r70 (lget l iv) (h.ways.length : Int) = k at *
    generalize r70 (lget q iv) 3000 = e at *
    have ow := okw_at hV hk
    have os := ow.s; have ok := ow.k; have od := ow.d
    have hne := way_ne hV (List.mem_of_getElem? (lget_some (l := h.ways) (i := Int.toNat k) (by omega)))
    by_cases gt : (¬ ((lget h.ways (Int.toNat k)).a = cur)) ∧ ((¬ ((lget h.ways (Int.toNat k)).b = cur)) ∨ ((lget h.ways (Int.toNat k)).back = 0))
    · rw [if_pos gt]; exact ih _ _ _ _ (hJ.more hi)
    rw [if_neg gt]
    have hS : tm ≤ (if (iv : Int) < (q.length : Int) then tm + e else tm) := by split <;> omega
    generalize (if (iv : Int) < (q.length : Int) then tm + e else tm) = s at *
    by_cases gs : 1073741823 < s
    · rw [if_pos gs]; exact ⟨_, _, _, _, rfl, hJ⟩
    rw [if_neg gs]
    have R : 0 ≤ (lget h.ways (Int.toNat k)).door → (r28 h (lget h.ways (Int.toNat k)).door s).2 = 0 ∧ s ≤ (r28 h (lget h.ways (Int.toNat k)).door s).1 ∧ ((r28 h (lget h.ways (Int.toNat k)).door s).1 ≤ 1073741823 → r89 (lget h.doors (Int.toNat (lget h.ways (Int.toNat k)).door)) (r28 h (lget h.ways (Int.toNat k)).door s).1 = (r28 h (lget h.ways (Int.toNat k)).door s).1) :=
      fun h3 => r28_d hV ⟨h3, by omega⟩ (by omega)
    rw [if_pos (show (if 0 ≤ (lget h.ways (Int.toNat k)).door then (if (r28 h (lget h.ways (Int.toNat k)).door s).2 = 0 then true else false) else true) = true by
      split
      · rename_i c; rw [if_pos (R c).1]
      · rfl)]
    have hD : s ≤ (if 0 ≤ (lget h.ways (Int.toNat k)).door then (if (r28 h (lget h.ways (Int.toNat k)).door s).2 = 0 then (r28 h (lget h.ways (Int.toNat k)).door s).1 else 0) else s) ∧ (0 ≤ (lget h.ways (Int.toNat k)).door → (if 0 ≤ (lget h.ways (Int.toNat k)).door then (if (r28 h (lget h.ways (Int.toNat k)).door s).2 = 0 then (r28 h (lget h.ways (Int.toNat k)).door s).1 else 0) else s) ≤ 1073741823 →
        r89 (lget h.doors (Int.toNat (lget h.ways (Int.toNat k)).door)) (if 0 ≤ (lget h.ways (Int.toNat k)).door then (if (r28 h (lget h.ways (Int.toNat k)).door s).2 = 0 then (r28 h (lget h.ways (Int.toNat k)).door s).1 else 0) else s) = (if 0 ≤ (lget h.ways (Int.toNat k)).door then (if (r28 h (lget h.ways (Int.toNat k)).door s).2 = 0 then (r28 h (lget h.ways (Int.toNat k)).door s).1 else 0) else s)) := by
      by_cases c : 0 ≤ (lget h.ways (Int.toNat k)).door
      · rw [if_pos c, if_pos (R c).1]; exact ⟨(R c).2.1, fun _ => (R c).2.2⟩
      · rw [if_neg c]; exact ⟨Int.le_refl _, fun q => absurd q c⟩
    generalize (if 0 ≤ (lget h.ways (Int.toNat k)).door then (if (r28 h (lget h.ways (Int.toNat k)).door s).2 = 0 then (r28 h (lget h.ways (Int.toNat k)).door s).1 else 0) else s) = d at *
    by_cases cb : (lget h.ways (Int.toNat k)).b = cur
    · simp only [if_pos cb]
      have hb : ¬ (lget h.ways (Int.toNat k)).back = 0 := fun z => gt ⟨fun ca => hne (by omega), .inr z⟩
      by_cases gd : 1073741823 < d + (lget h.ways (Int.toNat k)).back
      · rw [if_pos gd]; exact ⟨_, _, _, _, rfl, hJ⟩
      rw [if_neg gd, decide_eq_true cb]
      exact ih _ _ _ _ (hJ.bwd hV ht0 hi hk cb hb (by omega) gd (fun c => hD.2 c (by omega)))
    · simp only [if_neg cb]
      have ca : (lget h.ways (Int.toNat k)).a = cur := Decidable.byContradiction fun z => gt ⟨z, .inl cb⟩
      by_cases gd : 1073741823 < d + (lget h.ways (Int.toNat k)).secs
      · rw [if_pos gd]; exact ⟨_, _, _, _, rfl, hJ⟩
      rw [if_neg gd, decide_eq_false cb]
      exact ih _ _ _ _ (hJ.fwd hV ht0 hi hk ca (by omega) gd (fun c => hD.2 c (by omega)))
end House
end Go.Proofs
end
section
/-
  The house: the law HouseWalked holds (math).
-/
set_option linter.unusedSimpArgs false
set_option linter.unusedVariables false
namespace Go.Proofs
namespace House
open Go Go.RowKit Go.Aev
set_option maxRecDepth 100000
theorem route_ok {h : Hs} {fr ti to_ : Int} (hV : r59 h = 0) (hF : Few h) (hf : 0 ≤ fr ∧ fr < (h.rooms.length : Int)) (ht : 0 ≤ ti ∧ ti ≤ 1073741823) (hto : 0 ≤ to_ ∧ to_ < (h.rooms.length : Int)) (hi : lget (r106 h fr ti) to_.toNat ≤ 1073741823) :
    (r48 h fr ti to_).2 = 0 ∧ r39 h fr ti (r48 h fr ti to_).1 = (to_, lget (r106 h fr ti) to_.toNat, 0) := by
  have hi : lget (r114 h fr ti).1.1 to_.toNat ≤ 1073741823 := hi
  have e48 : r48 h fr ti to_ = ((R48_0 h fr ti to_ (h.rooms.length + 1) [] to_).reverse, 0) := by
    unfold r48
    rw [if_pos (r102_iff.2 hf), if_pos (r88_iff.2 ht), if_pos (by rw [r102_iff.2 hto, r84_true]; exact hV), if_neg (by omega)]
  obtain ⟨rk, hT⟩ := trees h fr ti
  have hR := hT hV hf ht
  have hrl := hR.rl to_.toNat (by omega) (by omega)
  obtain ⟨pre, e1, e2⟩ := route_walks hV hR hf.1 ht.1 to_ (r48 h fr ti to_).1 (h.rooms.length + 1) [] to_ (by omega) hto hi
  have ep : (r48 h fr ti to_).1 = pre.reverse := by rw [e48, e1]; simp
  have hlen := r48_len h fr ti to_
  have hr := hF.r
  refine ⟨by rw [e48], ?_⟩
  unfold r39
  rw [if_pos (r102_iff.2 hf), if_pos (by rw [r88_iff.2 ht, r84_true]; exact hV), if_neg (by omega)]
  rw [ep] at e2 ⊢
  rw [e2]; rfl
theorem r16_true_of (hr70 : ∀ n k : Int, 1 ≤ k ∧ k ≤ 1000000 → 0 ≤ r70 n k ∧ r70 n k < k) (h : Hs) (a t0 : Int) (l q : List Int) : r16 h a t0 l q = true := by
  unfold r16
  by_cases cc : (¬ ((r68 h) = true)) ∨ (¬ ((r69 t0) = true))
  · rw [if_pos cc]
  rw [if_neg cc]
  have c : r68 h = true := Decidable.byContradiction fun q => cc (.inl q)
  have c2 : r69 t0 = true := Decidable.byContradiction fun q => cc (.inr q)
  have hF := (r68_ok c).1
  have hV := (r68_ok c).2
  have ht0 : 0 ≤ t0 ∧ t0 ≤ 1073741823 := r69_iff.1 c2
  have fr := hF.r
  have hA := hr70 a (h.rooms.length : Int) (by have := rooms_pos hV; omega)
  generalize r70 a (h.rooms.length : Int) = A at *
  have hJ0 : J h A t0 A t0 [] 0 := ⟨⟨by simp, by omega⟩, hA, ht0, fun L => rfl, start_le (crs hV) hA ht0⟩
  obtain ⟨cur, tm, steps, iv, e, hJ⟩ := R16_J (a := a) (l := l) (q := q) hV hF ht0 hr70 (l.length + 1) A t0 [] 0 hJ0
  rw [e]
  have hn := hJ.n; have hc := hJ.c; have ht := hJ.t
  have e39 : r39 h A t0 steps = (cur, tm, 0) := by
    unfold r39
    rw [if_pos (r102_iff.2 hA), if_pos (by rw [r88_iff.2 ht0, r84_true]; exact hV), if_neg (by omega), hJ.w]
    rfl
  have e41 : r41 h A t0 = (r106 h A t0, 0) := by
    unfold r41
    rw [if_pos (r102_iff.2 hA), if_pos (by rw [r88_iff.2 ht0, r84_true]; exact hV)]
  have e104 : ∀ k t, (0 ≤ k ∧ k < (h.rooms.length : Int)) → (0 ≤ t ∧ t ≤ 1073741823) → r104 h k t = 0 := fun k t h1 h2 => by
    rw [r104_cs, if_pos hV, if_pos ⟨r102_iff.2 h1, r88_iff.2 h2⟩]
  have e43 : r43 h cur tm = (r112 h cur tm, 0) := by
    rw [late_eq]; unfold r44
    rw [if_pos (e104 _ _ hc ht)]
  have e45 : r45 h A t0 cur tm = (true, 0) := by
    rw [can_eq]; unfold r46 r49
    rw [if_pos (e104 _ _ hA ht0), if_pos (e104 _ _ hc ht), ← arrivals_eq hV ht0, decide_eq_true hJ.e]
  have hb := (both_ways hV hA ht0 hc ht).1 hJ.e
  obtain ⟨q1, q2⟩ := route_ok hV hF hA ht0 hc (by have := hJ.e; omega)
  have l1 := r106_len hV (fr := A) ht0
  have l2 := r112_len h cur tm
  have he := hJ.e
  simp only [onSum, e39, e41, e43, e45, q1, q2]
  rw [if_neg (by rintro (w | w | w | w | w | w | w | w | w | w | w) <;> first | exact w rfl | omega | exact w trivial)]
  exact decide_eq_true ⟨trivial, trivial, trivial, trivial⟩
theorem r16_true (h : Hs) (a t0 : Int) (l q : List Int) : r16 h a t0 l q = true := r16_true_of (fun _ _ => r70_okw) h a t0 l q
end House
end Go.Proofs
end
