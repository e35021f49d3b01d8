/-
  BT: EvT1, EvT2, EvM4.
-/
import Derived.Test.YtgbjgljchkodjaaDoorBJ
import Derived.Test.YtgbjgljchkodjaaDoorBZZ
import Derived.Test.YtgbjgljchkodjaaDoorBC
import Derived.Test.YtgbjgljchkodjaaDoorBN
import Derived.Test.YtgbjgljchkodjaaDoorBY
section
/-
  The great seat of stage 1: Strike and Twice in numbers; an index that a number picks.
-/
set_option linter.unusedSimpArgs false
set_option linter.unusedVariables false
namespace Go.Proofs
namespace Great
open Go Go.RowKit Go.Aev
set_option maxRecDepth 100000

end Great
end Go.Proofs
end
section
/-
  The great seat of stage 1: has, within, blurred, by the generator.
-/
set_option linter.unusedSimpArgs false
set_option linter.unusedVariables false
namespace Go.Proofs
namespace Great
open Go Go.RowKit Go.Aev
set_option maxRecDepth 100000
end Great
end Go.Proofs
end
section
/-
  The great seat of stage 1: pins as bits, arcs within arcs, makers of a mark.
-/
set_option linter.unusedSimpArgs false
set_option linter.unusedVariables false
namespace Go.Proofs
namespace Great
open Go Go.RowKit Go.Aev
set_option maxRecDepth 100000

theorem cb_le {u v : BitVec 12} (h : ∀ k, u.getLsbD k = true → v.getLsbD k = true) : ∀ k, cb u k ≤ cb v k := by
  intro k
  induction k with
  | zero => exact Nat.le_refl _
  | succ k ih =>
    have := h k
    simp only [cb]
    by_cases c : u.getLsbD k = true
    · rw [if_pos c, if_pos (this c)]; omega
    · rw [if_neg c]; split <;> omega
theorem cnt_le {u v : BitVec 12} (h : ∀ k, u.getLsbD k = true → v.getLsbD k = true) : cnt (val u) ≤ cnt (val v) := by
  rw [cnt_val, cnt_val]
  have := cb_le h 12
  omega
/-! ### Arcs -/
/-- The arc from f on has an angle. -/
def InA (f l n : Int) : Prop := (f ≤ n ∧ n ≤ f + l ∧ n ≤ 43199) ∨ (0 ≤ n ∧ n + 43200 ≤ f + l)
theorem smem_one_arc {f l : Int} (h : ArcOk f l) (n : Int) : SMem (r178 [⟨f, l⟩]) n ↔ InA f l n := by
  have hx : (f = 0 ∧ l = 43199) ∨ (0 ≤ f ∧ f < 43200 ∧ 0 ≤ l ∧ l < 43199) := h
  have w1 : IntKind.i64.wrap (f + l) = f + l := wr64 (by omega)
  have w2 : IntKind.i64.wrap (f + l - 43200) = f + l - 43200 := wr64 (by omega)
  show SMem (R178_0 _ [⟨f, l⟩]) n ↔ _
  rw [R178_0]
  dsimp only
  rw [w1, w2]
  unfold InA
  by_cases c : 43200 ≤ f + l
  · rw [if_pos c]
    simp only [R178_0, smem_cons, smem_nil, or_false]
    omega
  · rw [if_neg c]
    simp only [R178_0, smem_cons, smem_nil, or_false]
    omega
theorem inA_iff {f l : Int} (h : ArcOk f l) {n : Int} (hn : 0 ≤ n ∧ n ≤ 43199) : InA f l n ↔ (n - f) % 43200 ≤ l := by
  have hx : (f = 0 ∧ l = 43199) ∨ (0 ≤ f ∧ f < 43200 ∧ 0 ≤ l ∧ l < 43199) := h
  unfold InA
  omega
theorem inA_range {f l n : Int} (h : ArcOk f l) (hn : InA f l n) : 0 ≤ n ∧ n ≤ 43199 := by
  have hx : (f = 0 ∧ l = 43199) ∨ (0 ≤ f ∧ f < 43200 ∧ 0 ≤ l ∧ l < 43199) := h
  unfold InA at hn
  omega
end Great
end Go.Proofs
end
