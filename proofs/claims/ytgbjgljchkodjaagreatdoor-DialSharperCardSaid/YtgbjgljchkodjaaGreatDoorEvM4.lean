/-
  The great seat of stage 1: pins as bits, arcs within arcs, makers of a mark.
-/
import Derived.Test.YtgbjgljchkodjaaGreatDoorBT
import Derived.Test.YtgbjgljchkodjaaGreatDoorEvM1
import Derived.Test.YtgbjgljchkodjaaGreatDoorBN
import Derived.Test.YtgbjgljchkodjaaGreatDoorBZZ
set_option linter.unusedSimpArgs false
set_option linter.unusedVariables false
namespace Go.Proofs
namespace Great
open Go Go.RowKit Go.Aev
set_option maxRecDepth 100000

theorem cb_le {u v : BitVec 12} (h : ∀ k, u.getLsbD k = true → v.getLsbD k = true) : ∀ k, cb u k ≤ cb v k := by
  intro k
  induction k with
  | zero => exact Nat.le_refl _
  | succ k ih =>
    have := h k
    simp only [cb]
    by_cases c : u.getLsbD k = true
    · rw [if_pos c, if_pos (this c)]; omega
    · rw [if_neg c]; split <;> omega
theorem cnt_le {u v : BitVec 12} (h : ∀ k, u.getLsbD k = true → v.getLsbD k = true) : cnt (val u) ≤ cnt (val v) := by
  rw [cnt_val, cnt_val]
  have := cb_le h 12
  omega
theorem and_less {s b : BitVec 12} (h : s &&& b = 0#12) (x y : BitVec 12) : (s &&& ~~~x) &&& (b &&& ~~~y) = 0#12 := by
  ext k hk
  have := congrArg (fun z : BitVec 12 => z.getLsbD k) h
  simp [hk] at this
  simp
  cases h1 : s[k] <;> cases h2 : b[k] <;> simp_all
/-! ### Arcs -/
/-- The arc from f on has an angle. -/
def InA (f l n : Int) : Prop := (f ≤ n ∧ n ≤ f + l ∧ n ≤ 43199) ∨ (0 ≤ n ∧ n + 43200 ≤ f + l)
theorem smem_one_arc {f l : Int} (h : ArcOk f l) (n : Int) : SMem (r178 [⟨f, l⟩]) n ↔ InA f l n := by
  have hx : (f = 0 ∧ l = 43199) ∨ (0 ≤ f ∧ f < 43200 ∧ 0 ≤ l ∧ l < 43199) := h
  have w1 : IntKind.i64.wrap (f + l) = f + l := wr64 (by omega)
  have w2 : IntKind.i64.wrap (f + l - 43200) = f + l - 43200 := wr64 (by omega)
  show SMem (R178_0 _ [⟨f, l⟩]) n ↔ _
  rw [R178_0]
  dsimp only
  rw [w1, w2]
  unfold InA
  by_cases c : 43200 ≤ f + l
  · rw [if_pos c]
    simp only [R178_0, smem_cons, smem_nil, or_false]
    omega
  · rw [if_neg c]
    simp only [R178_0, smem_cons, smem_nil, or_false]
    omega
theorem inA_iff {f l : Int} (h : ArcOk f l) {n : Int} (hn : 0 ≤ n ∧ n ≤ 43199) : InA f l n ↔ (n - f) % 43200 ≤ l := by
  have hx : (f = 0 ∧ l = 43199) ∨ (0 ≤ f ∧ f < 43200 ∧ 0 ≤ l ∧ l < 43199) := h
  unfold InA
  omega
theorem inA_range {f l n : Int} (h : ArcOk f l) (hn : InA f l n) : 0 ≤ n ∧ n ≤ 43199 := by
  have hx : (f = 0 ∧ l = 43199) ∨ (0 ≤ f ∧ f < 43200 ∧ 0 ≤ l ∧ l < 43199) := h
  unfold InA at hn
  omega
theorem R1045_mem {l0 : List Int} {w : Int} : ∀ {m : List Int}, w ∈ m → R1045_0 l0 w m = .inl true := by
  intro m
  induction m with
  | nil => intro h; simp at h
  | cons y m ih =>
    intro h
    rw [R1045_0]
    by_cases c : y = w
    · rw [if_pos c]
    · rw [if_neg c]
      rcases List.mem_cons.1 h with rfl | h
      · exact absurd rfl c
      · exact ih h
theorem r1045_mem {l : List Int} {w : Int} (h : w ∈ l) : r1045 l w = true := by
  unfold r1045
  rw [onSum_inl (R1045_mem h)]
end Great
end Go.Proofs
