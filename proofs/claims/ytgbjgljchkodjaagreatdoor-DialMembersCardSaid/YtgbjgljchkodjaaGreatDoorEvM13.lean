/-
  The great seat of stage 1: which angles a list has, and what is near an arc.
-/
import Derived.Test.YtgbjgljchkodjaaGreatDoorEvC13
import Derived.Test.YtgbjgljchkodjaaGreatDoorBO
set_option linter.unusedSimpArgs false
set_option linter.unusedVariables false
namespace Go.Proofs
namespace Great
open Go Go.RowKit Go.Aev
set_option maxRecDepth 100000
theorem ahead_eq (a b : Int) : r81 a b = (b - a) % 43200 := by
  unfold r81 angle
  rw [wr64 (by omega)]
  omega
theorem r79_in {x y : Int} (w : Int) (h : ArcOk x y) : r79 x y w = true ↔ InA x y (angle w) := by
  have hw := angle_range w
  unfold r79
  rw [if_pos h, decide_eq_true_eq, ahead_eq, inA_iff h (by omega)]
  have : (angle w - x) % 43200 = (w - x) % 43200 := by unfold angle; omega
  rw [this]
theorem R77_mem (l : List Ar) (w : Int) : ∀ k : List Ar, (onSum (R77_0 l w k) (fun (q4 : Bool) => q4) (fun (_ : Unit) => false)) = true ↔ ∃ x ∈ k, r79 x.f x.l w = true := by
  intro k
  induction k with
  | nil => simp [R77_0, onSum]
  | cons x k ih =>
    rw [R77_0]
    by_cases h : r79 x.f x.l w = true
    · rw [if_pos h]
      exact ⟨fun _ => ⟨x, by simp, h⟩, fun _ => rfl⟩
    · rw [if_neg h, ih]
      constructor
      · rintro ⟨y, hy, h2⟩; exact ⟨y, by simp [hy], h2⟩
      · rintro ⟨y, hy, h2⟩
        rcases List.mem_cons.1 hy with rfl | hy
        · exact absurd h2 h
        · exact ⟨y, hy, h2⟩
theorem has_iff {l : List Ar} (h : ∀ x ∈ l, ArcOk x.f x.l) (w : Int) : r77 l w = true ↔ ∃ x ∈ l, InA x.f x.l (angle w) := by
  unfold r77
  rw [R77_mem]
  constructor
  · rintro ⟨x, hx, h2⟩; exact ⟨x, hx, (r79_in w (h x hx)).1 h2⟩
  · rintro ⟨x, hx, h2⟩; exact ⟨x, hx, (r79_in w (h x hx)).2 h2⟩
theorem R178_mem (l0 : List Ar) (n : Int) : ∀ l : List Ar, (∀ x ∈ l, ArcOk x.f x.l) → (SMem (R178_0 l0 l) n ↔ ∃ x ∈ l, InA x.f x.l n) := by
  intro l
  induction l with
  | nil => intro _; simp [R178_0, SMem]
  | cons x l ih =>
    intro h
    have ih := ih fun y hy => h y (by simp [hy])
    have h1 := smem_one_arc (h x (by simp)) n
    have e : SMem (R178_0 l0 (x :: l)) n ↔ SMem (R178_0 [x] [x]) n ∨ SMem (R178_0 l0 l) n := by
      rw [R178_0, R178_0]
      try dsimp only
      split <;> simp only [R178_0, smem_cons, smem_nil, or_false, or_assoc]
    rw [e, ih]
    have h1 : SMem (R178_0 [x] [x]) n ↔ InA x.f x.l n := h1
    rw [h1]
    simp
theorem mem_178 {l : List Ar} (h : ∀ x ∈ l, ArcOk x.f x.l) (n : Int) : SMem (r178 l) n ↔ ∃ x ∈ l, InA x.f x.l n := R178_mem l n l h
/-! ### What is near an arc -/
theorem apart_eq (a b : Int) : r80 a b = min ((b - a) % 43200) ((a - b) % 43200) := by unfold r80; rw [ahead_eq, ahead_eq]
theorem near_arc {f l n : Int} (u : Int) (h : ArcOk f l) (hn : 0 ≤ n ∧ n ≤ 699) : InA (r92 f l n).1 (r92 f l n).2 (angle u) ↔ r79 f l u = true ∨ r80 u f ≤ n ∨ r80 u (angle (IntKind.i64.wrap (f + l))) ≤ n := by
  have hx : (f = 0 ∧ l = 43199) ∨ (0 ≤ f ∧ f < 43200 ∧ 0 ≤ l ∧ l < 43199) := h
  have hw := angle_range u
  have hd : 0 ≤ (u - f) % 43200 ∧ (u - f) % 43200 < 43200 := by omega
  have e1 : r79 f l u = true ↔ (u - f) % 43200 ≤ l := by
    unfold r79
    rw [if_pos h, decide_eq_true_eq, ahead_eq]
  have w1 : IntKind.i64.wrap (f + l) = f + l := wr64 (by omega)
  have w2 : IntKind.i64.wrap (2 * n) = 2 * n := wr64 (by omega)
  have w3 : IntKind.i64.wrap (l + 2 * n) = l + 2 * n := wr64 (by omega)
  have w4 : IntKind.i64.wrap (f - n) = f - n := wr64 (by omega)
  have e2 : r80 u f ≤ n ↔ (u - f) % 43200 ≤ n ∨ 43200 - (u - f) % 43200 ≤ n := by
    rw [apart_eq]
    have : (f - u) % 43200 = if (u - f) % 43200 = 0 then 0 else 43200 - (u - f) % 43200 := by split <;> omega
    rw [this]
    split <;> omega
  have e3 : r80 u (angle (IntKind.i64.wrap (f + l))) ≤ n ↔ (l - n ≤ (u - f) % 43200 ∧ (u - f) % 43200 ≤ l + n) ∨ (u - f) % 43200 + 43200 ≤ l + n ∨ l - n + 43200 ≤ (u - f) % 43200 := by
    rw [apart_eq, w1]
    have k1 : (angle (f + l) - u) % 43200 = (l - (u - f) % 43200) % 43200 := by unfold angle; omega
    have k2 : (u - angle (f + l)) % 43200 = ((u - f) % 43200 - l) % 43200 := by unfold angle; omega
    rw [k1, k2]
    generalize (u - f) % 43200 = d at *
    omega
  rw [e1, e2, e3]
  unfold r92
  rw [w2, w3, w4]
  by_cases c : 43199 ≤ l + 2 * n
  · rw [if_pos c]
    constructor
    · intro _
      generalize (u - f) % 43200 = d at *
      omega
    · intro _
      show InA 0 43199 (angle u)
      unfold InA
      omega
  · rw [if_neg c]
    have ok : ArcOk (angle (f - n)) (l + 2 * n) := by
      have := angle_range (f - n)
      unfold ArcOk; omega
    show InA (angle (f - n)) (l + 2 * n) (angle u) ↔ _
    rw [inA_iff ok (by omega)]
    have k3 : (angle u - angle (f - n)) % 43200 = ((u - f) % 43200 + n) % 43200 := by unfold angle; omega
    rw [k3]
    generalize (u - f) % 43200 = d at *
    omega
theorem R13_near (a b : List Ar) (w u : Int) : ∀ (k : List Ar) (near : Bool), (∀ x ∈ k, ArcOk x.f x.l) → (R13_0 a b w u k near = true ↔ near = true ∨ ∃ x ∈ k, InA (r92 x.f x.l (Int.tmod (angle w) 700)).1 (r92 x.f x.l (Int.tmod (angle w) 700)).2 (angle u)) := by
  have hw := angle_range w
  have hn : 0 ≤ Int.tmod (angle w) 700 ∧ Int.tmod (angle w) 700 ≤ 699 := by
    rw [Int.tmod_eq_emod_of_nonneg (by omega)]; omega
  intro k
  induction k with
  | nil => intro near _; simp [R13_0]
  | cons x k ih =>
    intro near h
    have hx := near_arc u (h x (by simp)) hn
    have h := fun (y : Ar) (hy : y ∈ k) => h y (by simp [hy])
    rw [R13_0]
    simp only [List.mem_cons, exists_eq_or_imp]
    rw [hx]
    by_cases h1 : near = true
    · rw [if_pos h1, ih _ h]; simp [h1]
    rw [if_neg h1]
    by_cases h2 : r79 x.f x.l u = true
    · rw [if_pos h2, ih _ h]; simp [h2]
    rw [if_neg h2]
    by_cases h3 : r80 u x.f ≤ Int.tmod (angle w) 700
    · rw [if_pos h3, ih _ h]; simp [h3]
    rw [if_neg h3, ih _ h]
    simp [h1, h2, h3]
end Great
end Go.Proofs
