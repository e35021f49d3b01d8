/-
  BM: EvM13, EvM14.
-/
import Derived.Test.YtgbjgljchkodjaaDoorEvC13
import Derived.Test.YtgbjgljchkodjaaDoorEvM6
section
/-
  The great seat of stage 1: which angles a list has, and what is near an arc.
-/
set_option linter.unusedSimpArgs false
set_option linter.unusedVariables false
namespace Go.Proofs
namespace Great
open Go Go.RowKit Go.Aev
set_option maxRecDepth 100000
theorem R178_mem (l0 : List Ar) (n : Int) : ∀ l : List Ar, (∀ x ∈ l, ArcOk x.f x.l) → (SMem (R178_0 l0 l) n ↔ ∃ x ∈ l, InA x.f x.l n) := by
  intro l
  induction l with
  | nil => intro _; simp [R178_0, SMem]
  | cons x l ih =>
    intro h
    have ih := ih fun y hy => h y (by simp [hy])
    have h1 := smem_one_arc (h x (by simp)) n
    have e : SMem (R178_0 l0 (x :: l)) n ↔ SMem (R178_0 [x] [x]) n ∨ SMem (R178_0 l0 l) n := by
      rw [R178_0, R178_0]
      try dsimp only
      split <;> simp only [R178_0, smem_cons, smem_nil, or_false, or_assoc]
    rw [e, ih]
    have h1 : SMem (R178_0 [x] [x]) n ↔ InA x.f x.l n := h1
    rw [h1]
    simp
theorem mem_178 {l : List Ar} (h : ∀ x ∈ l, ArcOk x.f x.l) (n : Int) : SMem (r178 l) n ↔ ∃ x ∈ l, InA x.f x.l n := R178_mem l n l h
end Great
end Go.Proofs
end
section
/-
  The great seat of stage 1: a normal list is one: valid arcs in order, no two of which touch.
-/
set_option linter.unusedSimpArgs false
set_option linter.unusedVariables false
namespace Go.Proofs
namespace Great
open Go Go.RowKit Go.Aev
set_option maxRecDepth 100000
/-- x stands before y, and neither touches the other. -/
def Far (x y : Ar) : Prop := x.f < y.f ∧ x.l + 1 < (y.f - x.f) % 43200 ∧ y.l + 1 < (x.f - y.f) % 43200
def Apt (l : List Ar) : Prop := (∀ x ∈ l, ArcOk x.f x.l) ∧ ∀ i j : Nat, i < j → j < l.length → Far (lget l i) (lget l j)
/-! ### The list that r87 makes -/
theorem scan_idx : ∀ (T : List Sp) (m : Int), SCan m T → ∀ i j : Nat, i < j → ∀ (hj : j < T.length) (hi : i < T.length), T[i].hi + 2 ≤ T[j].lo := by
  intro T
  induction T with
  | nil => intro m _ i j _ hj; simp at hj
  | cons s T ih =>
    intro m h i j hij hj hi
    match j, hij, hj with
    | j + 1, hij, hj =>
      match i, hi, hij with
      | 0, hi, hij =>
        show s.hi + 2 ≤ (T[j]'(by simpa using hj)).lo
        exact (h.2.2.each _ (List.getElem_mem _)).1
      | i + 1, hi, hij => exact ih _ h.2.2 i j (by omega) (by simpa using hj) (by simpa using hi)
theorem lget_toAr {T : List Sp} {i : Nat} (h : i < T.length) : lget (T.map toAr) i = toAr T[i] := by
  unfold lget; simp [List.getElem?_eq_getElem h]
theorem wrap_apt {T : List Sp} (h : SCan 0 T) (hu : Up T) : Apt (wrapA (T.map toAr)) := by
  have hb : ∀ (i : Nat) (hi : i < T.length), 0 ≤ T[i].lo ∧ T[i].lo ≤ T[i].hi ∧ T[i].hi ≤ 43199 := fun i hi =>
    ⟨(h.each _ (List.getElem_mem hi)).1, (h.each _ (List.getElem_mem hi)).2, hu _ (List.getElem_mem hi)⟩
  have hp := scan_idx T 0 h
  unfold wrapA
  rw [List.length_map]
  by_cases cz1 : 1 < T.length
  case neg =>
    rw [if_neg (fun c => cz1 c.1)]
    refine ⟨fun x hx => ?_, fun i j hij hj => ?_⟩
    · obtain ⟨s, hs, rfl⟩ := List.mem_map.1 hx
      have a1 := h.each s hs
      have a2 := hu s hs
      show ArcOk s.lo (s.hi - s.lo)
      unfold ArcOk; omega
    · rw [List.length_map] at hj; omega
  rw [lget_toAr (show 0 < T.length by omega), lget_toAr (show T.length - 1 < T.length by omega)]
  have b0 := hb 0 (by omega)
  have bn := hb (T.length - 1) (by omega)
  have p0 := hp 0 (T.length - 1) (by omega) (by omega) (by omega)
  have w1 : IntKind.i64.wrap ((toAr T[T.length - 1]).f + (toAr T[T.length - 1]).l) = T[T.length - 1].hi := by
    show IntKind.i64.wrap (T[T.length - 1].lo + (T[T.length - 1].hi - T[T.length - 1].lo)) = _
    rw [wr64 (by omega)]; omega
  have w2 : IntKind.i64.wrap ((1 : Int) + (toAr T[0]).l) = (1 : Int) + (T[0].hi - T[0].lo) := wr64 (by show -9223372036854775808 ≤ 1 + (T[0].hi - T[0].lo) ∧ 1 + (T[0].hi - T[0].lo) ≤ 9223372036854775807; omega)
  have w3 : IntKind.i64.wrap ((toAr T[T.length - 1]).l + ((1 : Int) + (T[0].hi - T[0].lo))) = (T[T.length - 1].hi - T[T.length - 1].lo) + ((1 : Int) + (T[0].hi - T[0].lo)) := wr64 (by show -9223372036854775808 ≤ (T[T.length - 1].hi - T[T.length - 1].lo) + ((1 : Int) + (T[0].hi - T[0].lo)) ∧ (T[T.length - 1].hi - T[T.length - 1].lo) + ((1 : Int) + (T[0].hi - T[0].lo)) ≤ 9223372036854775807; omega)
  rw [w1, w2, w3]
  by_cases c : 1 < T.length ∧ (toAr T[0]).f = 0 ∧ T[T.length - 1].hi = 43199
  · rw [if_pos c]
    have cz2 : T[0].lo = 0 := c.2.1
    have cz3 := c.2.2
    have hg : ∀ i, i < T.length - 1 → lget (((T.map toAr).set (T.length - 1) ⟨(toAr T[T.length - 1]).f, (T[T.length - 1].hi - T[T.length - 1].lo) + ((1 : Int) + (T[0].hi - T[0].lo))⟩).drop 1) i = if i = T.length - 2 then ⟨T[T.length - 1].lo, (T[T.length - 1].hi - T[T.length - 1].lo) + ((1 : Int) + (T[0].hi - T[0].lo))⟩ else toAr (T[i + 1]!) := by
      intro i hi
      unfold lget
      rw [List.getD_eq_getElem?_getD, List.getElem?_drop, List.getElem?_set]
      by_cases ci : i = T.length - 2
      · rw [if_pos ci, if_pos (by omega), if_pos (by rw [List.length_map]; omega)]; rfl
      · rw [if_neg ci, if_neg (by omega), List.getElem?_map, Nat.add_comm 1 i, List.getElem?_eq_getElem (show i + 1 < T.length by omega)]
        show toAr T[i + 1] = toAr (T[i + 1]!)
        rw [getElem!_pos T (i + 1) (by omega)]
    have hlen : (((T.map toAr).set (T.length - 1) ⟨(toAr T[T.length - 1]).f, (T[T.length - 1].hi - T[T.length - 1].lo) + ((1 : Int) + (T[0].hi - T[0].lo))⟩).drop 1).length = T.length - 1 := by rw [List.length_drop, List.length_set, List.length_map]
    generalize ((T.map toAr).set (T.length - 1) ⟨(toAr T[T.length - 1]).f, (T[T.length - 1].hi - T[T.length - 1].lo) + ((1 : Int) + (T[0].hi - T[0].lo))⟩).drop 1 = X at hg hlen
    refine ⟨fun x hx => ?_, fun i j hij hj => ?_⟩
    · obtain ⟨i, hi, rfl⟩ := List.getElem_of_mem hx
      have e : X[i] = lget X i := by unfold lget; simp [List.getElem?_eq_getElem hi]
      rw [e, hg i (by omega)]
      split
      · show ArcOk T[T.length - 1].lo ((T[T.length - 1].hi - T[T.length - 1].lo) + ((1 : Int) + (T[0].hi - T[0].lo)))
        unfold ArcOk; omega
      · have q := hb (i + 1) (by omega)
        have q0 := hp 0 (i + 1) (by omega) (by omega) (by omega)
        rw [getElem!_pos T (i + 1) (by omega)]
        show ArcOk T[i + 1].lo (T[i + 1].hi - T[i + 1].lo)
        unfold ArcOk; omega
    · rw [hlen] at hj
      have qi := hb (i + 1) (by omega)
      have q0 := hp 0 (i + 1) (by omega) (by omega) (by omega)
      have qj := hb (j + 1) (by omega)
      have qij := hp (i + 1) (j + 1) (by omega) (by omega) (by omega)
      rw [hg i (by omega), hg j (by omega), if_neg (by omega), getElem!_pos T (i + 1) (by omega)]
      split
      · next cj =>
        have ej : T[T.length - 1] = T[j + 1] := by congr 1; omega
        rw [ej] at cz3 ⊢
        show T[i + 1].lo < T[j + 1].lo ∧ (T[i + 1].hi - T[i + 1].lo) + 1 < (T[j + 1].lo - T[i + 1].lo) % 43200 ∧ (T[j + 1].hi - T[j + 1].lo) + ((1 : Int) + (T[0].hi - T[0].lo)) + 1 < (T[i + 1].lo - T[j + 1].lo) % 43200
        omega
      · rw [getElem!_pos T (j + 1) (by omega)]
        show T[i + 1].lo < T[j + 1].lo ∧ (T[i + 1].hi - T[i + 1].lo) + 1 < (T[j + 1].lo - T[i + 1].lo) % 43200 ∧ (T[j + 1].hi - T[j + 1].lo) + 1 < (T[i + 1].lo - T[j + 1].lo) % 43200
        omega
  · rw [if_neg c]
    refine ⟨fun x hx => ?_, fun i j hij hj => ?_⟩
    · obtain ⟨i, hi, rfl⟩ := List.getElem_of_mem hx
      rw [List.length_map] at hi
      have q := hb i hi
      have cz4 : ¬ (T[i].lo = 0 ∧ T[i].hi = 43199) := by
        intro hc
        rcases Nat.lt_or_ge 0 i with h1 | h1
        · have := hp 0 i h1 hi (by omega); omega
        · have := hp i (T.length - 1) (by omega) (by omega) hi; omega
      rw [List.getElem_map]
      show ArcOk T[i].lo (T[i].hi - T[i].lo)
      unfold ArcOk; omega
    · rw [List.length_map] at hj
      have qi := hb i (by omega)
      have qj := hb j hj
      have qij := hp i j hij hj (by omega)
      rw [lget_toAr (show i < T.length by omega), lget_toAr hj]
      have cz4 : ¬ (T[i].lo = 0 ∧ T[j].hi = 43199) := by
        intro hc
        have h1 : i = 0 := by
          rcases Nat.lt_or_ge 0 i with h1 | h1
          · have := hp 0 i h1 (by omega) (by omega); omega
          · omega
        have h2 : j = T.length - 1 := by
          rcases Nat.lt_or_ge j (T.length - 1) with h2 | h2
          · have := hp j (T.length - 1) h2 (by omega) (by omega); omega
          · omega
        subst h1 h2
        exact c ⟨cz1, hc.1, hc.2⟩
      show T[i].lo < T[j].lo ∧ (T[i].hi - T[i].lo) + 1 < (T[j].lo - T[i].lo) % 43200 ∧ (T[j].hi - T[j].lo) + 1 < (T[i].lo - T[j].lo) % 43200
      omega
end Great
end Go.Proofs
end
