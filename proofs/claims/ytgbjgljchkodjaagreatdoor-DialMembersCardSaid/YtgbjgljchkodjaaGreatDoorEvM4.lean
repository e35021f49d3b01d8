/-
  The great seat of stage 1: pins as bits, arcs within arcs, makers of a mark.
-/
import Derived.Test.YtgbjgljchkodjaaGreatDoorBT
import Derived.Test.YtgbjgljchkodjaaGreatDoorEvM1
import Derived.Test.YtgbjgljchkodjaaGreatDoorBN
import Derived.Test.YtgbjgljchkodjaaGreatDoorBZZ
set_option linter.unusedSimpArgs false
set_option linter.unusedVariables false
namespace Go.Proofs
namespace Great
open Go Go.RowKit Go.Aev
set_option maxRecDepth 100000

/-! ### Arcs -/
/-- The arc from f on has an angle. -/
def InA (f l n : Int) : Prop := (f ≤ n ∧ n ≤ f + l ∧ n ≤ 43199) ∨ (0 ≤ n ∧ n + 43200 ≤ f + l)
theorem smem_one_arc {f l : Int} (h : ArcOk f l) (n : Int) : SMem (r178 [⟨f, l⟩]) n ↔ InA f l n := by
  have hx : (f = 0 ∧ l = 43199) ∨ (0 ≤ f ∧ f < 43200 ∧ 0 ≤ l ∧ l < 43199) := h
  have w1 : IntKind.i64.wrap (f + l) = f + l := wr64 (by omega)
  have w2 : IntKind.i64.wrap (f + l - 43200) = f + l - 43200 := wr64 (by omega)
  show SMem (R178_0 _ [⟨f, l⟩]) n ↔ _
  rw [R178_0]
  dsimp only
  rw [w1, w2]
  unfold InA
  by_cases c : 43200 ≤ f + l
  · rw [if_pos c]
    simp only [R178_0, smem_cons, smem_nil, or_false]
    omega
  · rw [if_neg c]
    simp only [R178_0, smem_cons, smem_nil, or_false]
    omega
theorem inA_iff {f l : Int} (h : ArcOk f l) {n : Int} (hn : 0 ≤ n ∧ n ≤ 43199) : InA f l n ↔ (n - f) % 43200 ≤ l := by
  have hx : (f = 0 ∧ l = 43199) ∨ (0 ≤ f ∧ f < 43200 ∧ 0 ≤ l ∧ l < 43199) := h
  unfold InA
  omega
end Great
end Go.Proofs
