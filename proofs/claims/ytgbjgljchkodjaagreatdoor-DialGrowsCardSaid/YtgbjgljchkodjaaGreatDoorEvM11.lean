/-
  The great seat of stage 1: what Grow, Size and Covers return is what is asked.
-/
import Derived.Test.YtgbjgljchkodjaaGreatDoorEvC10
import Derived.Test.YtgbjgljchkodjaaGreatDoorBO
set_option linter.unusedSimpArgs false
set_option linter.unusedVariables false
namespace Go.Proofs
namespace Great
open Go Go.RowKit Go.Aev
set_option maxRecDepth 100000
theorem r20_zero {l : List Ar} (h : ∀ x ∈ l, ArcOk x.f x.l) (hn : l.length ≤ 200) : r20 l = 0 := by rw [← r91_20]; exact r91_ok h hn
/-! ### Grow -/
theorem R27_31 (l : List Ar) (w : Int) : ∀ m o : List Ar, R27_0 l w m o = R31_0 l w m o := by
  intro m
  induction m with
  | nil => intro o; rfl
  | cons x m ih => intro o; rw [R27_0, R31_0, ih]; rfl
theorem R31_all (l : List Ar) {w : Int} (hw : 0 ≤ w ∧ w ≤ 43200) : ∀ m o : List Ar, (∀ x ∈ m, ArcOk x.f x.l) → (∀ x ∈ o, ArcOk x.f x.l) → ∀ x ∈ R31_0 l w m o, ArcOk x.f x.l := by
  intro m
  induction m with
  | nil => intro o _ ho; exact ho
  | cons x m ih =>
    intro o hm ho
    rw [R31_0]
    refine ih _ (fun y hy => hm y (by simp [hy])) fun y hy => ?_
    rcases List.mem_append.1 hy with hy | hy
    · exact ho y hy
    · rw [List.mem_singleton] at hy
      subst hy
      exact r94_ok (hm x (by simp)) hw
theorem grow_eq {a : List Ar} {w : Int} (hf : r14 a = true) (h : r20 a = 0) (hw : 0 ≤ w ∧ w ≤ 43200) : r27 a w = (r31 a w, 0) := by
  have hl := few_ok hf h
  have hx : r20 (R31_0 a w a []) = 0 := by
    refine r20_zero (R31_all a hw a [] (r20_ok h).1 (fun x hx => by simp at hx)) ?_
    rw [← R27_31]
    have := R27_len a w a []
    simp only [List.length_nil] at this
    omega
  unfold r27
  rw [if_pos (by rw [r91_20]; exact h), if_neg (by omega), if_neg (by omega), R27_31, hx, nrm, if_pos hx]
  rfl
theorem grow_arg {a : List Ar} {w : Int} (h : r20 a = 0) (hw : ¬ (0 ≤ w ∧ w ≤ 43200)) : r27 a w = ([], 1) := by
  unfold r27
  rw [if_pos (by rw [r91_20]; exact h)]
  by_cases h1 : w < 0
  · rw [if_pos h1]
  · rw [if_neg h1, if_pos (by omega)]
theorem grow_bad {a : List Ar} {w : Int} (h : ¬ r20 a = 0) : r27 a w = ([], r20 a) := by
  unfold r27
  rw [r91_20, if_neg h]
theorem r27_le (a : List Ar) (w : Int) : (r27 a w).1.length ≤ 100000 := by
  unfold r27
  split
  · split
    · simp
    · split
      · simp
      · exact nrm_le _
  · simp
/-! ### Size -/
def sumA : List Ar → Int
  | [] => 0
  | x :: l => (x.l + 1) + sumA l
def sumS : List Sp → Int
  | [] => 0
  | s :: l => (s.hi - s.lo + 1) + sumS l
theorem sumA_nn : ∀ l : List Ar, (∀ x ∈ l, 0 ≤ x.l) → 0 ≤ sumA l := by
  intro l
  induction l with
  | nil => intro _; exact Int.le_refl _
  | cons x l ih =>
    intro h
    have h1 := h x (by simp)
    have h2 := ih fun y hy => h y (by simp [hy])
    show 0 ≤ (x.l + 1) + sumA l
    omega
theorem R28_sum (l0 : List Ar) : ∀ (l : List Ar) (n : Int), 0 ≤ n → (∀ x ∈ l, 0 ≤ x.l) → n + sumA l ≤ 1000000000 → R28_0f l0 l n = n + sumA l := by
  intro l
  induction l with
  | nil => intro n _ _ _; show n = n + 0; omega
  | cons x l ih =>
    intro n hn h hs
    have h1 := h x (by simp)
    have h2 := sumA_nn l fun y hy => h y (by simp [hy])
    have hs : n + ((x.l + 1) + sumA l) ≤ 1000000000 := hs
    have w1 : IntKind.i64.wrap (x.l + 1) = x.l + 1 := wr64 (by omega)
    have w2 : IntKind.i64.wrap (n + (x.l + 1)) = n + (x.l + 1) := wr64 (by omega)
    rw [R28_0f, w1, w2, ih _ (by omega) (fun y hy => h y (by simp [hy])) (by omega)]
    show n + (x.l + 1) + sumA l = n + ((x.l + 1) + sumA l)
    omega
theorem sumS_nn : ∀ (l : List Sp) (m : Int), SCan m l → 0 ≤ sumS l := by
  intro l
  induction l with
  | nil => intro m _; exact Int.le_refl _
  | cons s l ih =>
    intro m h
    have h1 := ih _ h.2.2
    have h2 := h.2.1
    show 0 ≤ (s.hi - s.lo + 1) + sumS l
    omega
theorem sumS_le : ∀ (l : List Sp) (m : Int), SCan m l → Up l → m ≤ 43201 → sumS l + m ≤ 43201 := by
  intro l
  induction l with
  | nil => intro m _ _ h; show 0 + m ≤ 43201; omega
  | cons s l ih =>
    intro m h hu hm
    have u1 := hu s (by simp)
    have h1 := ih _ h.2.2 (fun y hy => hu y (by simp [hy])) (by omega)
    have h2 := h.2.1
    have h3 := h.1
    show (s.hi - s.lo + 1) + sumS l + m ≤ 43201
    omega
theorem R32_sum (l0 : List Ar) : ∀ (l : List Sp) (m n : Int), 0 ≤ m → SCan m l → Up l → 0 ≤ n → n + sumS l ≤ 1000000000 → R32_0 l0 l n = n + sumS l := by
  intro l
  induction l with
  | nil => intro m n _ _ _ _ _; show n = n + 0; omega
  | cons s l ih =>
    intro m n hm h hu hn hs
    have u1 := hu s (by simp)
    have h2 := h.2.1
    have h3 := h.1
    have h4 := sumS_nn l _ h.2.2
    have hs : n + ((s.hi - s.lo + 1) + sumS l) ≤ 1000000000 := hs
    have w1 : IntKind.i64.wrap (n + s.hi) = n + s.hi := wr64 (by omega)
    have w2 : IntKind.i64.wrap (n + s.hi - s.lo) = n + s.hi - s.lo := wr64 (by omega)
    have w3 : IntKind.i64.wrap (n + s.hi - s.lo + 1) = n + s.hi - s.lo + 1 := wr64 (by omega)
    rw [R32_0, w1, w2, w3, ih (s.hi + 2) _ (by omega) h.2.2 (fun y hy => hu y (by simp [hy])) (by omega) (by omega)]
    show n + s.hi - s.lo + 1 + sumS l = n + ((s.hi - s.lo + 1) + sumS l)
    omega
theorem sumA_map : ∀ l : List Sp, sumA (l.map toAr) = sumS l := by
  intro l
  induction l with
  | nil => rfl
  | cons s l ih => show ((s.hi - s.lo) + 1) + sumA (l.map toAr) = (s.hi - s.lo + 1) + sumS l; rw [ih]
theorem sumA_set : ∀ (l : List Ar) (i : Nat) (y : Ar), i < l.length → sumA (l.set i y) = sumA l - (lget l i).l + y.l := by
  intro l
  induction l with
  | nil => intro i y h; simp at h
  | cons x l ih =>
    intro i y h
    cases i with
    | zero => show (y.l + 1) + sumA l = (x.l + 1) + sumA l - x.l + y.l; omega
    | succ i =>
      have := ih i y (by simpa using h)
      show (x.l + 1) + sumA (l.set i y) = (x.l + 1) + sumA l - (lget l i).l + y.l
      omega
theorem sumA_tail : ∀ (l : List Ar), 0 < l.length → sumA (l.drop 1) = sumA l - ((lget l 0).l + 1) := by
  intro l h
  match l, h with
  | x :: l, _ => show sumA l = (x.l + 1) + sumA l - (x.l + 1); omega
theorem lget_set0 : ∀ (l : List Ar) (i : Nat) (y : Ar), 0 < i → lget (l.set i y) 0 = lget l 0 := by
  intro l i y h
  match l, i, h with
  | [], _, _ => rfl
  | x :: l, i + 1, _ => rfl
theorem lget_map0 (l : List Sp) (i : Nat) (h : i < l.length) : ∃ s ∈ l, lget (l.map toAr) i = toAr s := by
  refine ⟨l[i], List.getElem_mem h, ?_⟩
  unfold lget
  simp [List.getElem?_eq_getElem h]
theorem sumA_wrap {l : List Sp} (h : SCan 0 l) (hu : Up l) : sumA (wrapA (l.map toAr)) = sumS l ∧ ∀ x ∈ wrapA (l.map toAr), 0 ≤ x.l := by
  have hall : ∀ x ∈ l.map toAr, 0 ≤ x.l := by
    intro x hx
    obtain ⟨s, hs, rfl⟩ := List.mem_map.1 hx
    have := h.each s hs
    show 0 ≤ s.hi - s.lo
    omega
  unfold wrapA
  split
  · next c =>
    have hl : 1 < l.length := by have := c.1; rwa [List.length_map] at this
    obtain ⟨s, hs, es⟩ := lget_map0 l 0 (by omega)
    obtain ⟨t, ht, et⟩ := lget_map0 l (l.length - 1) (by omega)
    have s1 := h.each s hs
    have s2 := hu s hs
    have t1 := h.each t ht
    have t2 := hu t ht
    rw [List.length_map, es, et]
    have w1 : IntKind.i64.wrap (1 + (toAr s).l) = 1 + (toAr s).l := wr64 (by show -9223372036854775808 ≤ 1 + (s.hi - s.lo) ∧ 1 + (s.hi - s.lo) ≤ 9223372036854775807; omega)
    have w2 : IntKind.i64.wrap ((toAr t).l + (1 + (toAr s).l)) = (toAr t).l + (1 + (toAr s).l) := wr64 (by show -9223372036854775808 ≤ (t.hi - t.lo) + (1 + (s.hi - s.lo)) ∧ (t.hi - t.lo) + (1 + (s.hi - s.lo)) ≤ 9223372036854775807; omega)
    rw [w1, w2]
    constructor
    · rw [sumA_tail _ (by rw [List.length_set, List.length_map]; omega), lget_set0 _ _ _ (by omega), es, sumA_set _ _ _ (by rw [List.length_map]; omega), et, sumA_map]
      show sumS l - (toAr t).l + ((toAr t).l + (1 + (toAr s).l)) - ((toAr s).l + 1) = sumS l
      omega
    · intro x hx
      have hx := List.mem_of_mem_drop hx
      rcases List.mem_or_eq_of_mem_set hx with hx | hx
      · exact hall x hx
      · subst hx
        show 0 ≤ (t.hi - t.lo) + (1 + (s.hi - s.lo))
        omega
  · exact ⟨sumA_map l, hall⟩
theorem size_eq {a : List Ar} (h : r20 a = 0) : (r28f a).1 = r32 a := by
  obtain ⟨c1, c2, _⟩ := r88_ok (r20_ok h).1
  obtain ⟨s1, s2⟩ := sumA_wrap c1 c2
  have b1 := sumS_le _ 0 c1 c2 (by omega)
  have e : nrm a = wrapA ((r88 a).map toAr) := by unfold nrm r23; rw [if_pos h, r87_wrapA c1 c2]
  show R28_0f a (nrm a) 0 = R32_0 a (r88 a) 0
  rw [e, R28_sum a _ 0 (Int.le_refl _) s2 (by omega), R32_sum a _ 0 0 (Int.le_refl _) c1 c2 (Int.le_refl _) (by omega), s1]
theorem size_bad {a : List Ar} (h : ¬ r20 a = 0) : (r28f a).1 = 0 := by
  show R28_0f a (nrm a) 0 = 0
  unfold nrm
  rw [if_neg h]
  rfl
/-! ### Covers -/
theorem r89_comm {a b : List Sp} (ha : SCan 0 a) (hua : Up a) (hb : SCan 0 b) (hub : Up b) : r89 a b = r89 b a := by
  obtain ⟨c1, _, c3⟩ := r89_ok ha hua hb hub
  obtain ⟨d1, _, d3⟩ := r89_ok hb hub ha hua
  refine scan_uniq _ _ 0 0 c1 d1 fun n => ?_
  rw [c3, d3]
  exact And.comm
theorem r87_zero {l : List Sp} (h : SCan 0 l) (hu : Up l) : ((r87 l).length : Int) = 0 ↔ (l.length : Int) = 0 := by
  rw [r87_wrapA h hu]
  unfold wrapA
  split
  · next c =>
    have := c.1
    rw [List.length_drop, List.length_set]
    rw [List.length_map] at *
    omega
  · rw [List.length_map]
theorem covers_ok {a b : List Ar} (h : r21 a b = 0) : cvr a b = r33 a b := by
  obtain ⟨h1, h2⟩ := both_ok h
  obtain ⟨a1, a2, _⟩ := r88_ok (r20_ok h1).1
  obtain ⟨b1, b2, _⟩ := r88_ok (r20_ok h2).1
  obtain ⟨r1, r2, _⟩ := r90_ok a1 a2
  obtain ⟨m1, m2, _⟩ := r89_ok r1 r2 b1 b2
  unfold cvr r33 r26
  rw [if_pos h, r89_comm b1 b2 r1 r2]
  exact decide_eq_decide.2 (r87_zero m1 m2)
theorem covers_bad {a b : List Ar} (h : ¬ r21 a b = 0) : cvr a b = false := if_neg h
end Great
end Go.Proofs
