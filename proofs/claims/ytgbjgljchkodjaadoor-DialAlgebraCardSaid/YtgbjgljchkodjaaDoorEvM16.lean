/-
  The great seat of stage 1: what the law DialAlgebra asks of sets of angles.
-/
import Derived.Test.YtgbjgljchkodjaaDoorEvM15
import Derived.Test.YtgbjgljchkodjaaDoorEvM11
set_option linter.unusedSimpArgs false
set_option linter.unusedVariables false
namespace Go.Proofs
namespace Great
open Go Go.RowKit Go.Aev
set_option maxRecDepth 100000
/-! ### How many spans -/
theorem scan_count : ∀ (T : List Sp) (m : Int) (X : List Int), SCan m T → (∀ s ∈ T, s.lo ∈ X) → T.length ≤ X.length := by
  intro T
  induction T with
  | nil => intro m X _ _; simp
  | cons s T ih =>
    intro m X h hx
    have h1 := hx s (by simp)
    have h2 := ih _ (X.erase s.lo) h.2.2 fun t ht => by
      have a1 := (h.2.2.each t ht).1
      have a2 := h.2.1
      exact (List.mem_erase_of_ne (by omega)).2 (hx t (by simp [ht]))
    rw [List.length_erase_of_mem h1] at h2
    have := List.length_pos_of_mem h1
    rw [List.length_cons]; omega
theorem scan_first : ∀ (T : List Sp) (m : Int), SCan m T → ∀ s ∈ T, ¬ SMem T (s.lo - 1) := by
  intro T
  induction T with
  | nil => intro m _ s hs; simp at hs
  | cons t T ih =>
    intro m h s hs
    rw [smem_cons]
    rintro (h1 | h1)
    · rcases List.mem_cons.1 hs with rfl | hs
      · omega
      · have := (h.2.2.each s hs).1; omega
    · rcases List.mem_cons.1 hs with rfl | hs
      · have a1 := h.2.2.ge h1
        have := h.2.1; omega
      · exact ih _ h.2.2 s hs h1
theorem smem_lo {T : List Sp} {m : Int} (h : SCan m T) {s : Sp} (hs : s ∈ T) : SMem T s.lo := ⟨s, hs, Int.le_refl _, (h.each s hs).2⟩
theorem r88_few {l : List Ar} (hv : ∀ x ∈ l, ArcOk x.f x.l) : (r88 l).length ≤ l.length + 1 := by
  obtain ⟨h1, h2, h3⟩ := r88_ok hv
  have := scan_count (r88 l) 0 (0 :: l.map Ar.f) h1 fun s hs => by
    have a1 := smem_lo h1 hs
    have a2 := scan_first _ _ h1 s hs
    have b1 := (h1.each s hs).1
    rw [h3, mem_178 hv] at a1 a2
    obtain ⟨x, hx, a3⟩ := a1
    have a4 : ¬ InA x.f x.l (s.lo - 1) := fun h => a2 ⟨x, hx, h⟩
    have hok : (x.f = 0 ∧ x.l = 43199) ∨ (0 ≤ x.f ∧ x.f < 43200 ∧ 0 ≤ x.l ∧ x.l < 43199) := hv x hx
    unfold InA at a3 a4
    by_cases c : s.lo = 0
    · rw [c]; simp
    · have : s.lo = x.f := by omega
      rw [this]
      exact List.mem_cons_of_mem _ (List.mem_map.2 ⟨x, hx, rfl⟩)
  simpa using this
theorem r89_few {A B : List Sp} (ha : SCan 0 A) (hua : Up A) (hb : SCan 0 B) (hub : Up B) : (r89 A B).length ≤ A.length + B.length := by
  obtain ⟨h1, h2, h3⟩ := r89_ok ha hua hb hub
  have := scan_count (r89 A B) 0 (A.map Sp.lo ++ B.map Sp.lo) h1 fun s hs => by
    have a1 := smem_lo h1 hs
    have a2 := scan_first _ _ h1 s hs
    rw [h3] at a1 a2
    obtain ⟨⟨t, ht, t1, t2⟩, ⟨u, hu, u1, u2⟩⟩ := a1
    by_cases c : t.lo = s.lo
    · exact List.mem_append.2 (.inl (List.mem_map.2 ⟨t, ht, c⟩))
    · by_cases c2 : u.lo = s.lo
      · exact List.mem_append.2 (.inr (List.mem_map.2 ⟨u, hu, c2⟩))
      · exact absurd ⟨⟨t, ht, by omega, by omega⟩, ⟨u, hu, by omega, by omega⟩⟩ a2
  simpa using this
/-! ### Lists that are valid and of moderate length -/
def Vk (k : Nat) (l : List Ar) : Prop := (∀ x ∈ l, ArcOk x.f x.l) ∧ l.length ≤ k
theorem Vk.weak {k j : Nat} {l : List Ar} (h : Vk k l) (hj : k ≤ j) : Vk j l := ⟨h.1, Nat.le_trans h.2 hj⟩
theorem usual_vk {l : List Ar} (h : r75 l = true) : Vk 40 l := ⟨(r20_ok (usual_ok h)).1, usual_len h⟩
theorem r87_ok {T : List Sp} (h : SCan 0 T) (hu : Up T) : Vk T.length (r87 T) := by
  refine ⟨?_, r87_le h hu⟩
  rw [r87_wrapA h hu]
  exact (wrap_apt h hu).1
theorem r88_87 {T : List Sp} (h : SCan 0 T) (hu : Up T) : r88 (r87 T) = T := by
  have hv := (r87_ok h hu).1
  obtain ⟨h1, h2, h3⟩ := r88_ok hv
  refine scan_uniq _ _ 0 0 h1 h fun n => ?_
  rw [h3, mem_178 hv]
  have := wrap_mem h hu n
  rw [← r87_wrapA h hu] at this
  exact this
theorem vk_append {i j : Nat} {a b : List Ar} (ha : Vk i a) (hb : Vk j b) : Vk (i + j) ([] ++ a ++ b) := by
  refine ⟨fun x hx => ?_, ?_⟩
  · simp only [List.nil_append, List.mem_append] at hx
    rcases hx with hx | hx
    · exact ha.1 x hx
    · exact hb.1 x hx
  · have h1 := ha.2
    have h2 := hb.2
    simp only [List.nil_append, List.length_append]; omega
/-- The spans of a list that is made of two. -/
theorem uni_ok {i j : Nat} {a b : List Ar} (ha : Vk i a) (hb : Vk j b) : SCan 0 (r88 ([] ++ a ++ b)) ∧ Up (r88 ([] ++ a ++ b)) ∧ (∀ n, SMem (r88 ([] ++ a ++ b)) n ↔ SMem (r88 a) n ∨ SMem (r88 b) n) ∧ (r88 ([] ++ a ++ b)).length ≤ i + j + 1 := by
  have hv := vk_append ha hb
  obtain ⟨h1, h2, h3⟩ := r88_ok hv.1
  obtain ⟨_, _, a3⟩ := r88_ok ha.1
  obtain ⟨_, _, b3⟩ := r88_ok hb.1
  refine ⟨h1, h2, fun n => ?_, Nat.le_trans (r88_few hv.1) (Nat.succ_le_succ hv.2)⟩
  rw [h3, a3, b3, mem_178 hv.1, mem_178 ha.1, mem_178 hb.1]
  simp only [List.nil_append, List.mem_append, or_and_right, exists_or]
theorem r24_vk {i j : Nat} {a b : List Ar} (ha : Vk i a) (hb : Vk j b) : Vk (i + j + 1) (r24 a b) := by
  obtain ⟨h1, h2, _, h4⟩ := uni_ok ha hb
  exact (r87_ok h1 h2).weak h4
theorem meet_ok {i j : Nat} {a b : List Ar} (ha : Vk i a) (hb : Vk j b) : SCan 0 (r89 (r88 a) (r88 b)) ∧ Up (r89 (r88 a) (r88 b)) ∧ (∀ n, SMem (r89 (r88 a) (r88 b)) n ↔ SMem (r88 a) n ∧ SMem (r88 b) n) ∧ (r89 (r88 a) (r88 b)).length ≤ i + j + 2 := by
  obtain ⟨a1, a2, a3⟩ := r88_ok ha.1
  obtain ⟨b1, b2, b3⟩ := r88_ok hb.1
  obtain ⟨h1, h2, h3⟩ := r89_ok a1 a2 b1 b2
  refine ⟨h1, h2, h3, ?_⟩
  have c1 := r89_few a1 a2 b1 b2
  have c2 := r88_few ha.1
  have c3 := r88_few hb.1
  have c4 := ha.2
  have c5 := hb.2
  omega
theorem r25_vk {i j : Nat} {a b : List Ar} (ha : Vk i a) (hb : Vk j b) : Vk (i + j + 2) (r25 a b) := by
  obtain ⟨h1, h2, _, h4⟩ := meet_ok ha hb
  exact (r87_ok h1 h2).weak h4
theorem minus_ok {i j : Nat} {a b : List Ar} (ha : Vk i a) (hb : Vk j b) : SCan 0 (r89 (r88 a) (r90 (r88 b))) ∧ Up (r89 (r88 a) (r90 (r88 b))) ∧ (∀ n, SMem (r89 (r88 a) (r90 (r88 b))) n ↔ SMem (r88 a) n ∧ ¬ SMem (r88 b) n) ∧ (r89 (r88 a) (r90 (r88 b))).length ≤ i + j + 3 := by
  obtain ⟨a1, a2, a3⟩ := r88_ok ha.1
  obtain ⟨b1, b2, b3⟩ := r88_ok hb.1
  obtain ⟨d1, d2, d3⟩ := r90_ok b1 b2
  obtain ⟨h1, h2, h3⟩ := r89_ok a1 a2 d1 d2
  refine ⟨h1, h2, fun n => ?_, ?_⟩
  · rw [h3, d3]
    constructor
    · rintro ⟨e1, _, _, e2⟩; exact ⟨e1, e2⟩
    · rintro ⟨e1, e2⟩
      obtain ⟨s, hs, s1, s2⟩ := e1
      have := (a1.each s hs).1
      have := a2 s hs
      exact ⟨⟨s, hs, s1, s2⟩, by omega, by omega, e2⟩
  · have c1 := r89_few a1 a2 d1 d2
    have c2 := r88_few ha.1
    have c3 := r88_few hb.1
    have c4 := ha.2
    have c5 := hb.2
    have c6 := r90_len (r88 b)
    omega
theorem r26_vk {i j : Nat} {a b : List Ar} (ha : Vk i a) (hb : Vk j b) : Vk (i + j + 3) (r26 a b) := by
  obtain ⟨h1, h2, _, h4⟩ := minus_ok ha hb
  exact (r87_ok h1 h2).weak h4
/-! ### The laws of sets -/
theorem uni_comm {i j : Nat} {a b : List Ar} (ha : Vk i a) (hb : Vk j b) : r24 a b = r24 b a := by
  obtain ⟨h1, h2, h3, _⟩ := uni_ok ha hb
  obtain ⟨g1, g2, g3, _⟩ := uni_ok hb ha
  unfold r24
  exact congrArg r87 (scan_uniq _ _ 0 0 h1 g1 fun n => by rw [h3, g3]; exact Or.comm)
theorem uni_meet {i j k : Nat} {a b c : List Ar} (ha : Vk i a) (hb : Vk j b) (hc : Vk k c) : r25 (r24 a b) c = r24 (r25 a c) (r25 b c) := by
  obtain ⟨h1, h2, h3, _⟩ := uni_ok ha hb
  obtain ⟨g1, g2, g3, _⟩ := meet_ok (r24_vk ha hb) hc
  obtain ⟨e1, e2, e3, _⟩ := meet_ok ha hc
  obtain ⟨f1, f2, f3, _⟩ := meet_ok hb hc
  obtain ⟨k1, k2, k3, _⟩ := uni_ok (r25_vk ha hc) (r25_vk hb hc)
  have x1 : r88 (r24 a b) = r88 ([] ++ a ++ b) := r88_87 h1 h2
  have x2 : r88 (r25 a c) = r89 (r88 a) (r88 c) := r88_87 e1 e2
  have x3 : r88 (r25 b c) = r89 (r88 b) (r88 c) := r88_87 f1 f2
  show r87 (r89 (r88 (r24 a b)) (r88 c)) = r87 (r88 ([] ++ r25 a c ++ r25 b c))
  refine congrArg r87 (scan_uniq _ _ 0 0 g1 k1 fun n => ?_)
  rw [g3, k3, x1, x2, x3, h3, e3, f3]
  exact or_and_right
def whole : List Ar := [⟨0, 43199⟩]
theorem whole_vk : Vk 1 whole := ⟨fun x hx => by rw [whole, List.mem_singleton] at hx; subst hx; exact .inl ⟨rfl, rfl⟩, Nat.le_refl _⟩
theorem whole_mem (n : Int) : SMem (r88 whole) n ↔ 0 ≤ n ∧ n ≤ 43199 := by
  obtain ⟨_, _, h3⟩ := r88_ok whole_vk.1
  rw [h3, mem_178 whole_vk.1]
  constructor
  · rintro ⟨x, hx, h⟩
    rw [whole, List.mem_singleton] at hx
    subst hx
    have h : InA 0 43199 n := h
    unfold InA at h; omega
  · intro h
    refine ⟨_, List.mem_singleton.2 rfl, ?_⟩
    show InA 0 43199 n
    unfold InA; omega
theorem minus_back {i : Nat} {a : List Ar} (ha : Vk i a) : r26 whole (r26 whole a) = r87 (r88 a) := by
  obtain ⟨a1, a2, _⟩ := r88_ok ha.1
  obtain ⟨h1, h2, h3, _⟩ := minus_ok whole_vk ha
  obtain ⟨g1, g2, g3, _⟩ := minus_ok whole_vk (r26_vk whole_vk ha)
  have x1 : r88 (r26 whole a) = r89 (r88 whole) (r90 (r88 a)) := r88_87 h1 h2
  show r87 (r89 (r88 whole) (r90 (r88 (r26 whole a)))) = _
  refine congrArg r87 (scan_uniq _ _ 0 0 g1 a1 fun n => ?_)
  rw [g3, x1, h3, whole_mem]
  constructor
  · rintro ⟨e1, e2⟩
    exact Classical.byContradiction fun h => e2 ⟨e1, h⟩
  · intro h
    obtain ⟨s, hs, s1, s2⟩ := h
    have := (a1.each s hs).1
    have := a2 s hs
    exact ⟨by omega, fun e => e.2 ⟨s, hs, s1, s2⟩⟩
/-! ### How many angles -/
/-- How many of the k numbers from lo on are so. -/
def cntI (P : Int → Bool) : Int → Nat → Int
  | _, 0 => 0
  | lo, k + 1 => (if P lo then 1 else 0) + cntI P (lo + 1) k
theorem cntI_add (P : Int → Bool) : ∀ (j k : Nat) (lo : Int), cntI P lo (j + k) = cntI P lo j + cntI P (lo + j) k := by
  intro j
  induction j with
  | zero => intro k lo; rw [Nat.zero_add]; show _ = 0 + cntI P (lo + ((0 : Nat) : Int)) k; rw [show lo + ((0 : Nat) : Int) = lo by omega]; omega
  | succ j ih =>
    intro k lo
    rw [Nat.succ_add]
    show (if P lo then 1 else 0) + cntI P (lo + 1) (j + k) = (if P lo then 1 else 0) + cntI P (lo + 1) j + cntI P (lo + ((j + 1 : Nat) : Int)) k
    rw [ih, show lo + ((j + 1 : Nat) : Int) = lo + 1 + (j : Int) by omega]
    omega
theorem cntI_ext (P Q : Int → Bool) : ∀ (k : Nat) (lo : Int), (∀ n, lo ≤ n → n < lo + k → P n = Q n) → cntI P lo k = cntI Q lo k := by
  intro k
  induction k with
  | zero => intro lo _; rfl
  | succ k ih =>
    intro lo h
    show (if P lo then 1 else 0) + cntI P (lo + 1) k = (if Q lo then 1 else 0) + cntI Q (lo + 1) k
    rw [h lo (Int.le_refl _) (by omega), ih (lo + 1) fun n h1 h2 => h n (by omega) (by omega)]
theorem cntI_false : ∀ (k : Nat) (lo : Int), cntI (fun _ => false) lo k = 0 := by
  intro k
  induction k with
  | zero => intro lo; rfl
  | succ k ih => intro lo; show (0 : Int) + cntI (fun _ => false) (lo + 1) k = 0; rw [ih]; rfl
theorem cntI_true : ∀ (k : Nat) (lo : Int), cntI (fun _ => true) lo k = k := by
  intro k
  induction k with
  | zero => intro lo; rfl
  | succ k ih => intro lo; show (1 : Int) + cntI (fun _ => true) (lo + 1) k = _; rw [ih]; omega
theorem cntI_split (P Q R : Int → Bool) (h : ∀ n, (if P n then (1 : Int) else 0) = (if Q n then 1 else 0) + (if R n then 1 else 0)) : ∀ (k : Nat) (lo : Int), cntI P lo k = cntI Q lo k + cntI R lo k := by
  intro k
  induction k with
  | zero => intro lo; rfl
  | succ k ih =>
    intro lo
    show (if P lo then 1 else 0) + cntI P (lo + 1) k = (if Q lo then 1 else 0) + cntI Q (lo + 1) k + ((if R lo then 1 else 0) + cntI R (lo + 1) k)
    rw [h, ih]; omega
open Classical in
theorem cntI_span : ∀ (T : List Sp) (m : Int) (k : Nat), SCan m T → (∀ s ∈ T, s.hi < m + k) → cntI (fun n => decide (SMem T n)) m k = sumS T := by
  intro T
  induction T with
  | nil =>
    intro m k _ _
    rw [cntI_ext _ (fun _ => false) k m fun n _ _ => by simp [smem_nil], cntI_false]
    rfl
  | cons s T ih =>
    intro m k h hu
    have a1 := h.1
    have a2 := h.2.1
    have a3 := hu s (by simp)
    obtain ⟨j1, e1⟩ := Int.eq_ofNat_of_zero_le (show 0 ≤ s.lo - m by omega)
    obtain ⟨j2, e2⟩ := Int.eq_ofNat_of_zero_le (show 0 ≤ s.hi + 1 - s.lo by omega)
    obtain ⟨j3, e3⟩ := Int.eq_ofNat_of_zero_le (show 0 ≤ m + k - (s.hi + 1) by omega)
    have ek : k = j1 + (j2 + j3) := by omega
    rw [ek, cntI_add, cntI_add]
    rw [cntI_ext _ (fun _ => false) j1 m fun n h1 h2 => decide_eq_false fun hm => by
      rw [smem_cons] at hm
      rcases hm with hm | hm
      · omega
      · have := h.2.2.ge hm; omega]
    rw [cntI_ext _ (fun _ => true) j2 (m + j1) fun n h1 h2 => decide_eq_true (smem_cons.2 (.inl ⟨by omega, by omega⟩))]
    rw [cntI_ext _ (fun n => decide (SMem T n)) j3 (m + j1 + j2) fun n h1 h2 => decide_eq_decide.2 (by
      rw [smem_cons]
      exact ⟨fun hm => hm.resolve_left (by omega), .inr⟩)]
    rw [cntI_false, cntI_true, ih (m + j1 + j2) j3 (h.2.2.weak (by omega)) fun t ht => by have := hu t (by simp [ht]); omega]
    show (0 : Int) + (j2 + sumS T) = (s.hi - s.lo + 1) + sumS T
    omega
theorem sum_split {i j : Nat} {a b : List Ar} (ha : Vk i a) (hb : Vk j b) : sumS (r89 (r88 a) (r88 b)) + sumS (r89 (r88 a) (r90 (r88 b))) = sumS (r88 a) := by
  classical
  obtain ⟨a1, a2, _⟩ := r88_ok ha.1
  obtain ⟨h1, h2, h3, _⟩ := meet_ok ha hb
  obtain ⟨g1, g2, g3, _⟩ := minus_ok ha hb
  rw [← cntI_span _ 0 43200 h1 fun s hs => by have := h2 s hs; omega, ← cntI_span _ 0 43200 g1 fun s hs => by have := g2 s hs; omega, ← cntI_span _ 0 43200 a1 fun s hs => by have := a2 s hs; omega]
  symm
  refine cntI_split _ _ _ (fun n => ?_) 43200 0
  simp only [decide_eq_true_eq, h3, g3]
  by_cases p : SMem (r88 a) n <;> by_cases q : SMem (r88 b) n <;> simp [p, q]
/-! ### Growing -/
/-- How far apart two angles are. -/
def gap (u v : Int) : Int := min ((u - v) % 43200) ((v - u) % 43200)
theorem near_gap {f l w n : Int} (h : ArcOk f l) (hw : 0 ≤ w ∧ w ≤ 43200) (hn : 0 ≤ n ∧ n ≤ 43199) : InA (r94 f l w).1 (r94 f l w).2 n ↔ ∃ v, 0 ≤ v ∧ v ≤ 43199 ∧ InA f l v ∧ gap v n ≤ w := by
  have hx : (f = 0 ∧ l = 43199) ∨ (0 ≤ f ∧ f < 43200 ∧ 0 ≤ l ∧ l < 43199) := h
  have w2 : IntKind.i64.wrap (2 * w) = 2 * w := wr64 (by omega)
  have w3 : IntKind.i64.wrap (l + 2 * w) = l + 2 * w := wr64 (by omega)
  have w4 : IntKind.i64.wrap (f - w) = f - w := wr64 (by omega)
  have hd : 0 ≤ (n - f) % 43200 ∧ (n - f) % 43200 < 43200 := by omega
  have left : (n - f) % 43200 ≤ l ∨ (n - f) % 43200 - l ≤ w ∨ 43200 - (n - f) % 43200 ≤ w → ∃ v, 0 ≤ v ∧ v ≤ 43199 ∧ InA f l v ∧ gap v n ≤ w := by
    intro hh
    by_cases c1 : (n - f) % 43200 ≤ l
    · refine ⟨n, hn.1, hn.2, (inA_iff h hn).2 c1, ?_⟩
      unfold gap
      rw [show n - n = 0 by omega]; simp only [Int.zero_emod]; omega
    · by_cases c2 : (n - f) % 43200 - l ≤ w
      · refine ⟨(f + l) % 43200, by omega, by omega, (inA_iff h (by omega)).2 (by omega), ?_⟩
        unfold gap
        have : (n - (f + l) % 43200) % 43200 = (n - f) % 43200 - l := by omega
        omega
      · refine ⟨f, by omega, by omega, (inA_iff h (by omega)).2 (by omega), ?_⟩
        unfold gap
        have : (f - n) % 43200 = 43200 - (n - f) % 43200 := by omega
        omega
  have right : (∃ v, 0 ≤ v ∧ v ≤ 43199 ∧ InA f l v ∧ gap v n ≤ w) → ((n - f) % 43200 + w) % 43200 ≤ l + 2 * w := by
    rintro ⟨v, v1, v2, v3, v4⟩
    have v3 := (inA_iff h ⟨v1, v2⟩).1 v3
    have e1 : (v - n) % 43200 = ((v - f) % 43200 - (n - f) % 43200) % 43200 := by omega
    have e2 : (n - v) % 43200 = ((n - f) % 43200 - (v - f) % 43200) % 43200 := by omega
    have hv : 0 ≤ (v - f) % 43200 ∧ (v - f) % 43200 < 43200 := by omega
    unfold gap at v4
    rw [e1, e2] at v4
    generalize (v - f) % 43200 = e at *
    generalize (n - f) % 43200 = d at *
    clear e1 e2 left
    omega
  unfold r94
  rw [w2, w3, w4]
  by_cases c : 43199 ≤ l + 2 * w
  · rw [if_pos c]
    constructor
    · intro _
      refine left ?_
      clear right left
      omega
    · intro hh
      clear hh right left
      show InA 0 43199 n
      unfold InA; omega
  · rw [if_neg c]
    have ok : ArcOk (angle (f - w)) (l + 2 * w) := by
      clear left right
      have := angle_range (f - w)
      unfold ArcOk; omega
    show InA (angle (f - w)) (l + 2 * w) n ↔ _
    rw [inA_iff ok hn]
    have k3 : (n - angle (f - w)) % 43200 = ((n - f) % 43200 + w) % 43200 := by clear left right; unfold angle; omega
    rw [k3]
    refine ⟨fun hh => left ?_, right⟩
    clear right left
    omega
theorem mod_tri (u v n : Int) : (u - n) % 43200 ≤ (u - v) % 43200 + (v - n) % 43200 := by omega
theorem mod_opp (u v n : Int) : (u - n) % 43200 ≤ (u - v) % 43200 ∨ (n - u) % 43200 ≤ (n - v) % 43200 := by omega
theorem mod_opp2 (u v n : Int) : (u - n) % 43200 ≤ (v - n) % 43200 ∨ (n - u) % 43200 ≤ (v - u) % 43200 := by omega
theorem gap_tri {u v n x y : Int} (h1 : gap u v ≤ x) (h2 : gap v n ≤ y) : gap u n ≤ x + y := by
  unfold gap at *
  have a1 := mod_tri u v n
  have a2 := mod_tri n v u
  have a3 := mod_opp u v n
  have a4 := mod_opp2 u v n
  have b1 : 0 ≤ (u - v) % 43200 := by omega
  have b2 : 0 ≤ (v - u) % 43200 := by omega
  have b3 : 0 ≤ (v - n) % 43200 := by omega
  have b4 : 0 ≤ (n - v) % 43200 := by omega
  generalize (u - v) % 43200 = p at *
  generalize (v - u) % 43200 = p' at *
  generalize (v - n) % 43200 = q at *
  generalize (n - v) % 43200 = q' at *
  generalize (u - n) % 43200 = r at *
  generalize (n - u) % 43200 = r' at *
  omega
theorem gap_mid {u n x y : Int} (hu : 0 ≤ u ∧ u ≤ 43199) (hx : 0 ≤ x) (hy : 0 ≤ y) (h : gap u n ≤ x + y) : ∃ v, 0 ≤ v ∧ v ≤ 43199 ∧ gap u v ≤ x ∧ gap v n ≤ y := by
  have hd : 0 ≤ (n - u) % 43200 ∧ (n - u) % 43200 < 43200 := by omega
  have e0 : (u - n) % 43200 = (0 - (n - u) % 43200) % 43200 := by omega
  unfold gap at h
  rw [e0] at h
  by_cases c : (n - u) % 43200 ≤ x + y
  · by_cases c2 : (n - u) % 43200 ≤ x
    · refine ⟨n % 43200, by omega, by omega, ?_, ?_⟩
      · unfold gap
        have : (n % 43200 - u) % 43200 = (n - u) % 43200 := by omega
        omega
      · unfold gap
        have : (n % 43200 - n) % 43200 = 0 := by omega
        omega
    · refine ⟨(u + x) % 43200, by omega, by omega, ?_, ?_⟩
      · unfold gap
        have : ((u + x) % 43200 - u) % 43200 = x := by omega
        omega
      · unfold gap
        have : (n - (u + x) % 43200) % 43200 = (n - u) % 43200 - x := by omega
        omega
  · have c3 : 43200 - (n - u) % 43200 ≤ x + y := by
      generalize (n - u) % 43200 = d at *
      omega
    by_cases c2 : 43200 - (n - u) % 43200 ≤ x
    · refine ⟨n % 43200, by omega, by omega, ?_, ?_⟩
      · unfold gap
        have : (u - n % 43200) % 43200 ≤ x := by omega
        omega
      · unfold gap
        have : (n % 43200 - n) % 43200 = 0 := by omega
        omega
    · refine ⟨(u - x) % 43200, by omega, by omega, ?_, ?_⟩
      · unfold gap
        have : (u - (u - x) % 43200) % 43200 = x := by omega
        omega
      · unfold gap
        have : ((u - x) % 43200 - n) % 43200 = 43200 - (n - u) % 43200 - x := by omega
        omega
theorem R31_len (l : List Ar) (w : Int) : ∀ m o : List Ar, (R31_0 l w m o).length = m.length + o.length := by
  intro m o
  rw [← R27_31]; exact R27_len l w m o
/-- The spans of a list that is grown. -/
theorem grow_ok {i : Nat} {a : List Ar} {w : Int} (ha : Vk i a) (hw : 0 ≤ w ∧ w ≤ 43200) : Vk i (R31_0 a w a []) ∧ SCan 0 (r88 (R31_0 a w a [])) ∧ Up (r88 (R31_0 a w a [])) ∧ (∀ n, SMem (r88 (R31_0 a w a [])) n ↔ 0 ≤ n ∧ n ≤ 43199 ∧ ∃ v, SMem (r88 a) v ∧ gap v n ≤ w) := by
  have vg := R31_all a hw a [] ha.1 (fun x hx => by simp at hx)
  obtain ⟨g1, g2, g3⟩ := r88_ok vg
  obtain ⟨a1, a2, a3⟩ := r88_ok ha.1
  refine ⟨⟨vg, by rw [R31_len]; simpa using ha.2⟩, g1, g2, fun n => ?_⟩
  constructor
  · intro h
    have hb : 0 ≤ n ∧ n ≤ 43199 := by
      obtain ⟨s, hs, s1, s2⟩ := h
      have := (g1.each s hs).1
      have := g2 s hs
      omega
    refine ⟨hb.1, hb.2, ?_⟩
    rw [g3, mem_178 vg] at h
    obtain ⟨x, hx, h2⟩ := h
    rcases (R31_mem a w x a []).1 hx with hx | ⟨y, hy, rfl⟩
    · simp at hx
    · obtain ⟨v, v1, v2, v3, v4⟩ := (near_gap (ha.1 y hy) hw hb).1 h2
      exact ⟨v, by rw [a3, mem_178 ha.1]; exact ⟨y, hy, v3⟩, v4⟩
  · rintro ⟨n1, n2, v, v1, v2⟩
    have hv : 0 ≤ v ∧ v ≤ 43199 := by
      obtain ⟨s, hs, s1, s2⟩ := v1
      have := (a1.each s hs).1
      have := a2 s hs
      omega
    rw [a3, mem_178 ha.1] at v1
    obtain ⟨y, hy, v3⟩ := v1
    rw [g3, mem_178 vg]
    exact ⟨_, (R31_mem a w _ a []).2 (.inr ⟨y, hy, rfl⟩), (near_gap (ha.1 y hy) hw ⟨n1, n2⟩).2 ⟨v, hv.1, hv.2, v3, v2⟩⟩
theorem r31_vk {i : Nat} {a : List Ar} {w : Int} (ha : Vk i a) (hw : 0 ≤ w ∧ w ≤ 43200) : Vk (i + 1) (r31 a w) := by
  obtain ⟨g0, g1, g2, _⟩ := grow_ok ha hw
  exact (r87_ok g1 g2).weak (Nat.le_trans (r88_few g0.1) (Nat.succ_le_succ g0.2))
theorem grow_grow {i : Nat} {a : List Ar} {x y : Int} (ha : Vk i a) (hx : 0 ≤ x) (hy : 0 ≤ y) (hxy : x + y ≤ 43200) : r31 (r31 a x) y = r31 a (x + y) := by
  obtain ⟨_, g1, g2, g3⟩ := grow_ok ha (w := x) ⟨hx, by omega⟩
  obtain ⟨_, k1, k2, k3⟩ := grow_ok (r31_vk ha (w := x) ⟨hx, by omega⟩) (w := y) ⟨hy, by omega⟩
  obtain ⟨_, e1, e2, e3⟩ := grow_ok ha (w := x + y) ⟨by omega, hxy⟩
  have x1 : r88 (r31 a x) = r88 (R31_0 a x a []) := r88_87 g1 g2
  have ha2 := r88_ok ha.1
  show r87 (r88 (R31_0 (r31 a x) y (r31 a x) [])) = r87 (r88 (R31_0 a (x + y) a []))
  refine congrArg r87 (scan_uniq _ _ 0 0 k1 e1 fun n => ?_)
  rw [k3, e3, x1]
  constructor
  · rintro ⟨n1, n2, v, h1, h2⟩
    rw [g3] at h1
    obtain ⟨v1, v2, u, h3, h4⟩ := h1
    exact ⟨n1, n2, u, h3, gap_tri h4 h2⟩
  · rintro ⟨n1, n2, u, h1, h2⟩
    have hu : 0 ≤ u ∧ u ≤ 43199 := by
      obtain ⟨s, hs, s1, s2⟩ := h1
      have := (ha2.1.each s hs).1
      have := ha2.2.1 s hs
      omega
    obtain ⟨v, v1, v2, v3, v4⟩ := gap_mid hu hx hy h2
    exact ⟨n1, n2, v, (g3 v).2 ⟨v1, v2, u, h1, v3⟩, v4⟩
end Great
end Go.Proofs
