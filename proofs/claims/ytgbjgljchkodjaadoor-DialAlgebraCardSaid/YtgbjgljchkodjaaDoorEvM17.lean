/-
  The great seat of stage 1: the law DialAlgebra is true.
-/
import Derived.Test.YtgbjgljchkodjaaDoorEvC14
set_option linter.unusedSimpArgs false
set_option linter.unusedVariables false
namespace Go.Proofs
namespace Great
open Go Go.RowKit Go.Aev
set_option maxRecDepth 100000
theorem R28_f (l0 : List Ar) : ∀ (l : List Ar) (n : Int), R28_0 l0 l n = R28_0f l0 l n := by
  intro l
  induction l with
  | nil => intro n; rfl
  | cons x l ih => intro n; rw [R28_0, R28_0f, ih]
theorem size_vk {i : Nat} {a : List Ar} (ha : Vk i a) : (r28 a).1 = sumS (r88 a) ∧ 0 ≤ sumS (r88 a) ∧ sumS (r88 a) ≤ 43201 := by
  obtain ⟨cz1, cz2, _⟩ := r88_ok ha.1
  obtain ⟨s1, s2⟩ := sumA_wrap cz1 cz2
  have h1 := sumS_le _ 0 cz1 cz2 (by omega)
  have h2 := sumS_nn _ 0 cz1
  refine ⟨?_, h2, by omega⟩
  show R28_0 a (r87 (r88 a)) 0 = _
  rw [R28_f, r87_wrapA cz1 cz2, R28_sum a _ 0 (Int.le_refl _) s2 (by rw [s1]; omega), s1]
  omega
theorem sizes_eq {i j : Nat} {a b : List Ar} (ha : Vk i a) (hb : Vk j b) : IntKind.i64.wrap ((r28 (r25 a b)).1 + (r28 (r26 a b)).1) = (r28 a).1 := by
  obtain ⟨a1, a2, a3⟩ := size_vk ha
  obtain ⟨m1, m2, m3⟩ := size_vk (r25_vk ha hb)
  obtain ⟨d1, d2, d3⟩ := size_vk (r26_vk ha hb)
  obtain ⟨e1, e2, _⟩ := meet_ok ha hb
  obtain ⟨f1, f2, _⟩ := minus_ok ha hb
  have x1 : r88 (r25 a b) = r89 (r88 a) (r88 b) := r88_87 e1 e2
  have x2 : r88 (r26 a b) = r89 (r88 a) (r90 (r88 b)) := r88_87 f1 f2
  have h := sum_split ha hb
  rw [x1] at m1 m2 m3
  rw [x2] at d1 d2 d3
  rw [m1, d1, a1, wr64 (by omega)]
  exact h
theorem r22_eq {x y : List Ar} (h : x = y) : r22 x y = true := by rw [h]; exact r22_refl y
theorem r1003_true (a b c : List Ar) (w u : Int) : r1003 a b c w u = true := by
  unfold r1003
  by_cases h1 : r75 a = true
  case neg => rw [if_neg h1]
  rw [if_pos h1]
  by_cases h2 : r75 b = true
  case neg => rw [if_neg h2]
  rw [if_pos h2]
  by_cases h3 : r75 c = true
  case neg => rw [if_neg h3]
  rw [if_pos h3]
  split
  · rfl
  have ha := usual_vk h1
  have hb := usual_vk h2
  have hc := usual_vk h3
  have hw := angle_range w
  have hu := angle_range u
  have e1 : r22 (r24 a b) (r24 b a) = true := r22_eq (uni_comm ha hb)
  have e2 : r22 (r25 (r24 a b) c) (r24 (r25 a c) (r25 b c)) = true := r22_eq (uni_meet ha hb hc)
  have e3 : r22 (r26 [(⟨0, 43199⟩ : Ar)] (r26 [(⟨0, 43199⟩ : Ar)] a)) (r87 (r88 a)) = true := r22_eq (minus_back ha)
  have e4 := sizes_eq ha hb
  rw [if_pos e1, if_pos e2, if_pos e3, if_pos e4, if_pos e1, if_pos e2, if_pos e3, if_pos e4]
  split
  · rw [wr64 (by omega)]
    exact r22_eq (grow_grow ha hw.1 (Int.le_refl _) (by omega))
  · next h =>
    rw [wr64 (by omega)] at h ⊢
    exact r22_eq (grow_grow ha hw.1 hu.1 (by omega))
end Great
end Go.Proofs
