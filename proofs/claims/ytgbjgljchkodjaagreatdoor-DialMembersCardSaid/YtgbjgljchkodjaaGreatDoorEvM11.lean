/-
  The great seat of stage 1: what Grow, Size and Covers return is what is asked.
-/
import Derived.Test.YtgbjgljchkodjaaGreatDoorEvC10
import Derived.Test.YtgbjgljchkodjaaGreatDoorBO
set_option linter.unusedSimpArgs false
set_option linter.unusedVariables false
namespace Go.Proofs
namespace Great
open Go Go.RowKit Go.Aev
set_option maxRecDepth 100000
theorem r20_zero {l : List Ar} (h : ∀ x ∈ l, ArcOk x.f x.l) (hn : l.length ≤ 200) : r20 l = 0 := by rw [← r91_20]; exact r91_ok h hn
/-! ### Grow -/
theorem R27_31 (l : List Ar) (w : Int) : ∀ m o : List Ar, R27_0 l w m o = R31_0 l w m o := by
  intro m
  induction m with
  | nil => intro o; rfl
  | cons x m ih => intro o; rw [R27_0, R31_0, ih]; rfl
theorem R31_all (l : List Ar) {w : Int} (hw : 0 ≤ w ∧ w ≤ 43200) : ∀ m o : List Ar, (∀ x ∈ m, ArcOk x.f x.l) → (∀ x ∈ o, ArcOk x.f x.l) → ∀ x ∈ R31_0 l w m o, ArcOk x.f x.l := by
  intro m
  induction m with
  | nil => intro o _ ho; exact ho
  | cons x m ih =>
    intro o hm ho
    rw [R31_0]
    refine ih _ (fun y hy => hm y (by simp [hy])) fun y hy => ?_
    rcases List.mem_append.1 hy with hy | hy
    · exact ho y hy
    · rw [List.mem_singleton] at hy
      subst hy
      exact r94_ok (hm x (by simp)) hw
theorem grow_eq {a : List Ar} {w : Int} (hf : r14 a = true) (h : r20 a = 0) (hw : 0 ≤ w ∧ w ≤ 43200) : r27 a w = (r31 a w, 0) := by
  have hl := few_ok hf h
  have hx : r20 (R31_0 a w a []) = 0 := by
    refine r20_zero (R31_all a hw a [] (r20_ok h).1 (fun x hx => by simp at hx)) ?_
    rw [← R27_31]
    have := R27_len a w a []
    simp only [List.length_nil] at this
    omega
  unfold r27
  rw [if_pos (by rw [r91_20]; exact h), if_neg (by omega), if_neg (by omega), R27_31, hx, nrm, if_pos hx]
  rfl
theorem r27_le (a : List Ar) (w : Int) : (r27 a w).1.length ≤ 100000 := by
  unfold r27
  split
  · split
    · simp
    · split
      · simp
      · exact nrm_le _
  · simp
end Great
end Go.Proofs
