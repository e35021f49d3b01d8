/-
  The great seat of stage 1: what is known more has fewer makers, pairs and angles.
-/
import Derived.Test.YtgbjgljchkodjaaDoorEvT7
import Derived.Test.YtgbjgljchkodjaaDoorBT
set_option linter.unusedSimpArgs false
set_option linter.unusedVariables false
set_option linter.unusedSectionVars false
namespace Go.Proofs
namespace Great
open Go Go.RowKit Go.Aev
set_option maxRecDepth 100000

theorem wordBit (E : BitVec 12) (i : Nat) (h : ¬ i < 12) : E.getLsbD i = false := BitVec.getLsbD_of_ge _ _ (by omega)
theorem and_any (p : Int) (E : BitVec 12) : andV p (val E) = val ((BitVec.ofInt 64 p).setWidth 12 &&& E) := by
  unfold andV
  apply wrap_val
  show BitVec.ofInt 64 p &&& BitVec.ofInt 64 (val E) = _
  rw [val_word]
  apply BitVec.eq_of_getLsbD_eq
  intro i hi
  simp only [BitVec.getLsbD_and, BitVec.getLsbD_setWidth]
  by_cases h : i < 12
  · simp [h, hi]
  · simp [wordBit E i h, h]
theorem not_any (D : BitVec 12) (p : Int) : notV (val D) p = val (D &&& ~~~((BitVec.ofInt 64 p).setWidth 12)) := by
  unfold notV
  apply wrap_val
  show BitVec.ofInt 64 (val D) &&& ~~~(BitVec.ofInt 64 p) = _
  rw [val_word]
  apply BitVec.eq_of_getLsbD_eq
  intro i hi
  simp only [BitVec.getLsbD_and, BitVec.getLsbD_setWidth, BitVec.getLsbD_not]
  by_cases h : i < 12
  · simp [h, hi]
  · simp [wordBit D i h, h]
/-- Of the second mark no more is known than of the first. -/
structure Shp (a b c d e aa ba ca da ea : Int) : Prop where
  ok1 : MarkOk a b c d e
  ok2 : MarkOk aa ba ca da ea
  tr : c = ca
  arc : ∀ n, InA a b n → InA aa ba n
  bits : ∃ D E D2 E2 : BitVec 12, d = val D ∧ e = val E ∧ da = val D2 ∧ ea = val E2 ∧ (∀ k, D2.getLsbD k = true → D.getLsbD k = true) ∧ ∀ k, E2.getLsbD k = true → E.getLsbD k = true
section
variable {a b c d e aa ba ca da ea : Int} (h : Shp a b c d e aa ba ca da ea) {f s l : Int}
include h
theorem Shp.shows (p : Int) (h1 : r118 a b c d e p f s l = true) : r118 aa ba ca da ea p f s l = true := by
  obtain ⟨D, E, D2, E2, rfl, rfl, rfl, rfl, hD, hE⟩ := h.bits
  unfold r118 at h1 ⊢
  rw [and_any, not_any] at h1 ⊢
  by_cases c1 : cnt (val ((BitVec.ofInt 64 p).setWidth 12 &&& E)) ≤ f
  case neg => rw [if_neg c1] at h1; simp at h1
  rw [if_pos c1, decide_eq_true_eq] at h1
  have l1 : cnt (val ((BitVec.ofInt 64 p).setWidth 12 &&& E2)) ≤ cnt (val ((BitVec.ofInt 64 p).setWidth 12 &&& E)) := cnt_le fun k hk => by
    simp only [BitVec.getLsbD_and, Bool.and_eq_true] at hk ⊢
    exact ⟨hk.1, hE k hk.2⟩
  have l2 : cnt (val (D2 &&& ~~~((BitVec.ofInt 64 p).setWidth 12))) ≤ cnt (val (D &&& ~~~((BitVec.ofInt 64 p).setWidth 12))) := cnt_le fun k hk => by
    simp only [BitVec.getLsbD_and, Bool.and_eq_true] at hk ⊢
    exact ⟨hD k hk.1, hk.2⟩
  rw [if_pos (by omega), decide_eq_true_eq]
  omega
theorem Shp.can (i t p : Int) (h1 : r117 a b c d e i t p f s l = true) : r117 aa ba ca da ea i t p f s l = true := by
  unfold r117 at h1 ⊢
  by_cases c1 : t = c
  case neg => rw [if_neg c1] at h1; simp at h1
  rw [if_pos c1] at h1
  rw [if_pos (c1.trans h.tr)]
  exact h.shows p h1
end

/-! ### Arcs within arcs, both wider -/
theorem arc_in {f l f2 l2 : Int} (h : ArcOk f l) (h2 : ArcOk f2 l2) (hs : ∀ n, InA f2 l2 n → InA f l n) : l = 43199 ∨ (f2 - f) % 43200 + l2 ≤ l := by
  have hx : (f = 0 ∧ l = 43199) ∨ (0 ≤ f ∧ f < 43200 ∧ 0 ≤ l ∧ l < 43199) := h
  have hx2 : (f2 = 0 ∧ l2 = 43199) ∨ (0 ≤ f2 ∧ f2 < 43200 ∧ 0 ≤ l2 ∧ l2 < 43199) := h2
  have h1 := hs f2 (by unfold InA; omega)
  have h3 := hs ((f + l + 1) % 43200)
  unfold InA at h1 h3
  omega
theorem widen_in {f l f2 l2 w : Int} (h : ArcOk f l) (h2 : ArcOk f2 l2) (hs : ∀ n, InA f2 l2 n → InA f l n) (hw : 0 ≤ w ∧ w ≤ 43200) : ∀ n, InA (r92 f2 l2 w).1 (r92 f2 l2 w).2 n → InA (r92 f l w).1 (r92 f l w).2 n := by
  have hx : (f = 0 ∧ l = 43199) ∨ (0 ≤ f ∧ f < 43200 ∧ 0 ≤ l ∧ l < 43199) := h
  have hx2 : (f2 = 0 ∧ l2 = 43199) ∨ (0 ≤ f2 ∧ f2 < 43200 ∧ 0 ≤ l2 ∧ l2 < 43199) := h2
  have hin := arc_in h h2 hs
  have ok2 : ArcOk (r92 f2 l2 w).1 (r92 f2 l2 w).2 := r94_ok h2 hw
  have ok1 : ArcOk (r92 f l w).1 (r92 f l w).2 := r94_ok h hw
  intro n hn
  have hr := inA_range ok2 hn
  rw [inA_iff ok2 hr] at hn
  rw [inA_iff ok1 hr]
  have w0 : IntKind.i64.wrap (2 * w) = 2 * w := wr64 (by omega)
  have w1 : IntKind.i64.wrap (l + 2 * w) = l + 2 * w := wr64 (by omega)
  have w2 : IntKind.i64.wrap (l2 + 2 * w) = l2 + 2 * w := wr64 (by omega)
  have w3 : IntKind.i64.wrap (f - w) = f - w := wr64 (by omega)
  have w4 : IntKind.i64.wrap (f2 - w) = f2 - w := wr64 (by omega)
  unfold r92 at hn ⊢
  rw [w0, w1, w3]
  rw [w0, w2, w4] at hn
  by_cases c : 43199 ≤ l + 2 * w
  · rw [if_pos c]; dsimp only; omega
  · rw [if_neg c]
    rw [if_neg (by omega)] at hn
    unfold angle at hn ⊢
    dsimp only at hn ⊢
    omega
theorem r87_nil : r87 [] = [] := by simp [r87, R87_2]
theorem minus_none {f l f2 l2 : Int} (h : ArcOk f l) (h2 : ArcOk f2 l2) (hs : ∀ n, InA f2 l2 n → InA f l n) : r26 [⟨f2, l2⟩] [⟨f, l⟩] = [] := by
  obtain ⟨a1, a2, a3⟩ := r88_ok (one_ok h2)
  obtain ⟨b1, b2, b3⟩ := r88_ok (one_ok h)
  obtain ⟨r1, r2, r3⟩ := r90_ok b1 b2
  obtain ⟨m1, m2, m3⟩ := r89_ok a1 a2 r1 r2
  have e : r89 (r88 [⟨f2, l2⟩]) (r90 (r88 [⟨f, l⟩])) = [] := by
    refine scan_uniq _ _ 0 0 m1 trivial fun n => ?_
    rw [m3, a3, r3, b3, smem_one_arc h2, smem_one_arc h]
    exact ⟨fun hh => absurd (hs n hh.1) hh.2.2.2, fun hh => absurd hh (smem_nil n)⟩
  unfold r26
  rw [e, r87_nil]
theorem minus_nil (b : List Ar) : r26 [] b = [] := by
  have : r88 [] = [] := rfl
  unfold r26
  rw [this]
  exact r87_nil
section
variable {a b c d e aa ba ca da ea : Int} (h : Shp a b c d e aa ba ca da ea) (ks : List K) {f s l : Int}
include h
theorem Shp.angles (i t p : Int) : (r61 i t p a b c d e f s l).2 = (r61 i t p aa ba ca da ea f s l).2 ∧ ((r61 i t p a b c d e f s l).2 = 0 → r26 (r61 i t p a b c d e f s l).1 (r61 i t p aa ba ca da ea f s l).1 = []) := by
  unfold r61
  rw [errV_pos h.ok1, errV_pos h.ok2]
  by_cases h1 : errV (KeyOk i t p) = 0
  case neg => rw [if_neg h1, if_neg h1]; exact ⟨rfl, fun _ => minus_nil _⟩
  rw [if_pos h1, if_pos h1, if_pos rfl, if_pos rfl]
  by_cases h3 : errV (InkOk f s l) = 0
  case neg => rw [if_neg h3, if_neg h3]; exact ⟨rfl, fun _ => minus_nil _⟩
  rw [if_pos h3, if_pos h3]
  have hI := errV_z.1 h3
  by_cases c1 : r117 a b c d e i t p f s l = true
  · rw [if_pos c1, if_pos (h.can i t p c1)]
    have hw : 0 ≤ l ∧ l ≤ 43200 := by unfold InkOk at hI; omega
    exact ⟨rfl, fun _ => minus_none (r94_ok h.ok2.1 hw) (r94_ok h.ok1.1 hw) (widen_in h.ok2.1 h.ok1.1 h.arc hw)⟩
  · rw [if_neg c1]
    refine ⟨?_, fun _ => minus_nil _⟩
    split <;> rfl
end
end Great
end Go.Proofs
