/-
  BC: EvA5, EvA6, EvA7, EvM1.
-/
import Derived.Test.YtgbjgljchkodjaaDoorEvA4
section
/-
  The great seat of stage 1: Grow and Angles, by the generator.
-/
set_option linter.unusedSimpArgs false
set_option linter.unusedVariables false
namespace Go.Proofs
namespace Great
open Go Go.RowKit Go.Aev
set_option maxRecDepth 100000
theorem R88_0_len (l : List Ar) : ∀ (m : List Ar) (o : List Sp), (R88_0 l m o).length ≤ 2 * m.length + o.length := by
  intro m
  induction m with
  | nil => intro o; simp [R88_0]
  | cons x m ih =>
    intro o
    unfold R88_0
    split
    · refine Nat.le_trans (ih _) ?_
      have := r131_len o x.f (IntKind.i64.wrap (x.f + x.l))
      simp; omega
    · refine Nat.le_trans (ih _) ?_
      have h1 := r131_len o x.f 43199
      have h2 := r131_len (r131 o x.f 43199) 0 (IntKind.i64.wrap ((IntKind.i64.wrap (x.f + x.l)) - 43200))
      simp; omega
theorem r88_len (l : List Ar) : (r88 l).length ≤ 2 * l.length := by simpa [r88] using R88_0_len l l []

end Great
end Go.Proofs
end
section
/-
  The great seat of stage 1: DialMakers, by the generator.
-/
set_option linter.unusedSimpArgs false
set_option linter.unusedVariables false
namespace Go.Proofs
namespace Great
open Go Go.RowKit Go.Aev
set_option maxRecDepth 100000
theorem c15s (S : AS) : (evL Tryd.prog E0).call 6 #[] S = some (.bool true, S) := by rw [L_call]; rfl


theorem R59_0_len (ks : List K) (a b c d e f s l : Int) : ∀ (m : List K) (o : List Int), (R59_0 ks a b c d e f s l m o).length ≤ m.length + o.length := by
  intro m
  induction m with
  | nil => intro o; simp [R59_0]
  | cons x m ih =>
    intro o
    unfold R59_0
    split <;> (refine Nat.le_trans (ih _) ?_; simp; try omega)
theorem r59_len (ks : List K) (a b c d e f s l : Int) : (r59 ks a b c d e f s l).1.length ≤ ks.length := by
  unfold r59
  have := R59_0_len ks a b c d e f s l ks []
  split
  · split
    · split
      · simpa using this
      · simp
    · simp
  · simp
end Great
end Go.Proofs
end
section
/-
  The great seat of stage 1: Propose, by the generator.
-/
set_option linter.unusedSimpArgs false
set_option linter.unusedVariables false
namespace Go.Proofs
namespace Great
open Go Go.RowKit Go.Aev
set_option maxRecDepth 100000
end Great
end Go.Proofs
end
section
/-
  The great seat of stage 1: the makers of a mark: what the program's functions and the reference's are.
-/
set_option linter.unusedSimpArgs false
set_option linter.unusedVariables false
namespace Go.Proofs
namespace Great
open Go Go.RowKit Go.Aev
set_option maxRecDepth 100000
theorem errV_z {p : Prop} [Decidable p] : errV p = 0 ↔ p := by unfold errV; split <;> simp [*]
theorem wrapS {n : Int} (h : -9223372036854775808 ≤ n ∧ n ≤ 9223372036854775807) : IntKind.i64.wrap n = n := IntWalk.i64_in n h
/-! ### One arc -/
theorem r131_nil (lo hi : Int) : r131 [] lo hi = [⟨lo, hi⟩] := by simp [r131, R131_0, R131_1]
theorem r87_one (f l : Int) (h : -9223372036854775808 ≤ l - f ∧ l - f ≤ 9223372036854775807) : r87 [⟨f, l⟩] = [⟨f, l - f⟩] := by
  simp [r87, R87_2, wrapS h]
theorem spans_one {f l : Int} (h : ArcOk f l) : r87 (r88 [⟨f, l⟩]) = [⟨f, l⟩] := by
  have hw : IntKind.i64.wrap (f + l) = f + l := by apply wrapS; unfold ArcOk at h; omega
  unfold r88 R88_0 R88_0
  simp only [hw, r131_nil]
  by_cases h1 : f + l < 43200
  · rw [if_pos h1, r87_one _ _ (by unfold ArcOk at h; omega), show f + l - f = l by omega]
  · rw [if_neg h1]
    have h2 : 0 ≤ f ∧ f < 43200 ∧ 0 ≤ l ∧ l < 43199 := by unfold ArcOk at h; omega
    have w2 : IntKind.i64.wrap (f + l - 43200) = f + l - 43200 := by apply wrapS; omega
    have w3 : IntKind.i64.wrap (43199 + 1) = 43200 := by rw [wrapS] <;> omega
    have w4 : IntKind.i64.wrap (f + l - 43200 + 1) = f + l - 43199 := by rw [wrapS] <;> omega
    have w5 : IntKind.i64.wrap (43199 - f) = 43199 - f := by apply wrapS; omega
    have w6 : IntKind.i64.wrap (43199 - f + 1) = 43200 - f := by rw [wrapS] <;> omega
    have w7 : IntKind.i64.wrap (43200 - f + (f + l - 43200)) = l := by rw [wrapS] <;> omega
    have e1 : r131 [⟨f, 43199⟩] 0 (f + l - 43200) = [⟨0, f + l - 43200⟩, ⟨f, 43199⟩] := by
      have n1 : ¬ (43200 : Int) < 0 := by omega
      have n2 : f + l - 43199 < f := by omega
      have n3 : ¬ f < 0 := by omega
      simp [r131, R131_0, R131_1, w3, w4, n1, n2, n3]
    rw [w2, e1]
    simp [r87, R87_0, lget, w5, w6, w7]
theorem r94_ok {x y w : Int} (h : ArcOk x y) (hw : 0 ≤ w ∧ w ≤ 43200) : ArcOk (r94 x y w).1 (r94 x y w).2 := by
  have h0 : 0 ≤ y ∧ y ≤ 43199 := by unfold ArcOk at h; omega
  have w1 : IntKind.i64.wrap (2 * w) = 2 * w := by apply wrapS; omega
  have w2 : IntKind.i64.wrap (y + 2 * w) = y + 2 * w := by apply wrapS; omega
  unfold r94
  rw [w1, w2]
  split
  · left; exact ⟨rfl, rfl⟩
  · right
    have := angle_range (IntKind.i64.wrap (x - w))
    exact ⟨this.1, this.2, by omega, by omega⟩
end Great
end Go.Proofs
end
