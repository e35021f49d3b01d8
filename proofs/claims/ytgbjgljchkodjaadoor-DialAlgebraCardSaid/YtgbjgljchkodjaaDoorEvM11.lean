/-
  The great seat of stage 1: what Grow, Size and Covers return is what is asked.
-/
import Derived.Test.YtgbjgljchkodjaaDoorEvC10
import Derived.Test.YtgbjgljchkodjaaDoorEvM6
set_option linter.unusedSimpArgs false
set_option linter.unusedVariables false
namespace Go.Proofs
namespace Great
open Go Go.RowKit Go.Aev
set_option maxRecDepth 100000
/-! ### Grow -/
theorem R27_31 (l : List Ar) (w : Int) : ∀ m o : List Ar, R27_0 l w m o = R31_0 l w m o := by
  intro m
  induction m with
  | nil => intro o; rfl
  | cons x m ih => intro o; rw [R27_0, R31_0, ih]; rfl
theorem R31_all (l : List Ar) {w : Int} (hw : 0 ≤ w ∧ w ≤ 43200) : ∀ m o : List Ar, (∀ x ∈ m, ArcOk x.f x.l) → (∀ x ∈ o, ArcOk x.f x.l) → ∀ x ∈ R31_0 l w m o, ArcOk x.f x.l := by
  intro m
  induction m with
  | nil => intro o _ ho; exact ho
  | cons x m ih =>
    intro o hm ho
    rw [R31_0]
    refine ih _ (fun y hy => hm y (by simp [hy])) fun y hy => ?_
    rcases List.mem_append.1 hy with hy | hy
    · exact ho y hy
    · rw [List.mem_singleton] at hy
      subst hy
      exact r94_ok (hm x (by simp)) hw
/-! ### Size -/
def sumA : List Ar → Int
  | [] => 0
  | x :: l => (x.l + 1) + sumA l
def sumS : List Sp → Int
  | [] => 0
  | s :: l => (s.hi - s.lo + 1) + sumS l
theorem sumA_nn : ∀ l : List Ar, (∀ x ∈ l, 0 ≤ x.l) → 0 ≤ sumA l := by
  intro l
  induction l with
  | nil => intro _; exact Int.le_refl _
  | cons x l ih =>
    intro h
    have h1 := h x (by simp)
    have h2 := ih fun y hy => h y (by simp [hy])
    show 0 ≤ (x.l + 1) + sumA l
    omega
theorem R28_sum (l0 : List Ar) : ∀ (l : List Ar) (n : Int), 0 ≤ n → (∀ x ∈ l, 0 ≤ x.l) → n + sumA l ≤ 1000000000 → R28_0f l0 l n = n + sumA l := by
  intro l
  induction l with
  | nil => intro n _ _ _; show n = n + 0; omega
  | cons x l ih =>
    intro n hn h hs
    have h1 := h x (by simp)
    have h2 := sumA_nn l fun y hy => h y (by simp [hy])
    have hs : n + ((x.l + 1) + sumA l) ≤ 1000000000 := hs
    have w1 : IntKind.i64.wrap (x.l + 1) = x.l + 1 := wr64 (by omega)
    have w2 : IntKind.i64.wrap (n + (x.l + 1)) = n + (x.l + 1) := wr64 (by omega)
    rw [R28_0f, w1, w2, ih _ (by omega) (fun y hy => h y (by simp [hy])) (by omega)]
    show n + (x.l + 1) + sumA l = n + ((x.l + 1) + sumA l)
    omega
theorem sumS_nn : ∀ (l : List Sp) (m : Int), SCan m l → 0 ≤ sumS l := by
  intro l
  induction l with
  | nil => intro m _; exact Int.le_refl _
  | cons s l ih =>
    intro m h
    have h1 := ih _ h.2.2
    have h2 := h.2.1
    show 0 ≤ (s.hi - s.lo + 1) + sumS l
    omega
theorem sumS_le : ∀ (l : List Sp) (m : Int), SCan m l → Up l → m ≤ 43201 → sumS l + m ≤ 43201 := by
  intro l
  induction l with
  | nil => intro m _ _ h; show 0 + m ≤ 43201; omega
  | cons s l ih =>
    intro m h hu hm
    have u1 := hu s (by simp)
    have h1 := ih _ h.2.2 (fun y hy => hu y (by simp [hy])) (by omega)
    have h2 := h.2.1
    have h3 := h.1
    show (s.hi - s.lo + 1) + sumS l + m ≤ 43201
    omega
theorem sumA_map : ∀ l : List Sp, sumA (l.map toAr) = sumS l := by
  intro l
  induction l with
  | nil => rfl
  | cons s l ih => show ((s.hi - s.lo) + 1) + sumA (l.map toAr) = (s.hi - s.lo + 1) + sumS l; rw [ih]
theorem sumA_set : ∀ (l : List Ar) (i : Nat) (y : Ar), i < l.length → sumA (l.set i y) = sumA l - (lget l i).l + y.l := by
  intro l
  induction l with
  | nil => intro i y h; simp at h
  | cons x l ih =>
    intro i y h
    cases i with
    | zero => show (y.l + 1) + sumA l = (x.l + 1) + sumA l - x.l + y.l; omega
    | succ i =>
      have := ih i y (by simpa using h)
      show (x.l + 1) + sumA (l.set i y) = (x.l + 1) + sumA l - (lget l i).l + y.l
      omega
theorem sumA_tail : ∀ (l : List Ar), 0 < l.length → sumA (l.drop 1) = sumA l - ((lget l 0).l + 1) := by
  intro l h
  match l, h with
  | x :: l, _ => show sumA l = (x.l + 1) + sumA l - (x.l + 1); omega
theorem lget_set0 : ∀ (l : List Ar) (i : Nat) (y : Ar), 0 < i → lget (l.set i y) 0 = lget l 0 := by
  intro l i y h
  match l, i, h with
  | [], _, _ => rfl
  | x :: l, i + 1, _ => rfl
theorem lget_map0 (l : List Sp) (i : Nat) (h : i < l.length) : ∃ s ∈ l, lget (l.map toAr) i = toAr s := by
  refine ⟨l[i], List.getElem_mem h, ?_⟩
  unfold lget
  simp [List.getElem?_eq_getElem h]
theorem sumA_wrap {l : List Sp} (h : SCan 0 l) (hu : Up l) : sumA (wrapA (l.map toAr)) = sumS l ∧ ∀ x ∈ wrapA (l.map toAr), 0 ≤ x.l := by
  have hall : ∀ x ∈ l.map toAr, 0 ≤ x.l := by
    intro x hx
    obtain ⟨s, hs, rfl⟩ := List.mem_map.1 hx
    have := h.each s hs
    show 0 ≤ s.hi - s.lo
    omega
  unfold wrapA
  split
  · next c =>
    have hl : 1 < l.length := by have := c.1; rwa [List.length_map] at this
    obtain ⟨s, hs, es⟩ := lget_map0 l 0 (by omega)
    obtain ⟨t, ht, et⟩ := lget_map0 l (l.length - 1) (by omega)
    have s1 := h.each s hs
    have s2 := hu s hs
    have t1 := h.each t ht
    have t2 := hu t ht
    rw [List.length_map, es, et]
    have w1 : IntKind.i64.wrap (1 + (toAr s).l) = 1 + (toAr s).l := wr64 (by show -9223372036854775808 ≤ 1 + (s.hi - s.lo) ∧ 1 + (s.hi - s.lo) ≤ 9223372036854775807; omega)
    have w2 : IntKind.i64.wrap ((toAr t).l + (1 + (toAr s).l)) = (toAr t).l + (1 + (toAr s).l) := wr64 (by show -9223372036854775808 ≤ (t.hi - t.lo) + (1 + (s.hi - s.lo)) ∧ (t.hi - t.lo) + (1 + (s.hi - s.lo)) ≤ 9223372036854775807; omega)
    rw [w1, w2]
    constructor
    · rw [sumA_tail _ (by rw [List.length_set, List.length_map]; omega), lget_set0 _ _ _ (by omega), es, sumA_set _ _ _ (by rw [List.length_map]; omega), et, sumA_map]
      show sumS l - (toAr t).l + ((toAr t).l + (1 + (toAr s).l)) - ((toAr s).l + 1) = sumS l
      omega
    · intro x hx
      have hx := List.mem_of_mem_drop hx
      rcases List.mem_or_eq_of_mem_set hx with hx | hx
      · exact hall x hx
      · subst hx
        show 0 ≤ (t.hi - t.lo) + (1 + (s.hi - s.lo))
        omega
  · exact ⟨sumA_map l, hall⟩
end Great
end Go.Proofs
