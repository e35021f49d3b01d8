/-
  The great seat of stage 1: a strike is read among the makers, at an angle that is told.
-/
import Derived.Test.YtgbjgljchkodjaaGreatDoorEvT3
import Derived.Test.YtgbjgljchkodjaaGreatDoorBT
set_option linter.unusedSimpArgs false
set_option linter.unusedVariables false
namespace Go.Proofs
namespace Great
open Go Go.RowKit Go.Aev
set_option maxRecDepth 100000

theorem r113_cases (set tr at_ lo mi di sh f s l : Int) : (HitOk set mi di sh f s l ∧ r113 set tr at_ lo mi di sh f s l = ((angle (angle at_ + sh), lo, tr, seenV set mi di, notV 4095 (seenV set mi di)), 0)) ∨ r113 set tr at_ lo mi di sh f s l = ((0, 0, 0, 0, 0), 3) := by
  unfold r113
  by_cases h : HitOk set mi di sh f s l
  · rw [if_pos h]; exact .inl ⟨h, rfl⟩
  · rw [if_neg h]; exact .inr rfl
theorem blur_is {a b c d e : Int} (h : MarkOk a b c d e) (hb : b ≤ 60) (bf af un : Int) : ∃ (x y : Int) (u v : BitVec 12), (0 ≤ x ∧ x < 500) ∧ (0 ≤ y ∧ y < 500) ∧ r1042 a b c d e bf af un = (angle (a - x), b + x + y, c, notV d (val u), notV e (val v)) := by
  have hx : (a = 0 ∧ b = 43199) ∨ (0 ≤ a ∧ a < 43200 ∧ 0 ≤ b ∧ b < 43199) := h.1
  obtain ⟨u, hu⟩ := mask_is un
  obtain ⟨v, hv⟩ := mask_is (Int.fdiv un 4096)
  have b1 := angle_range bf
  have b2 := angle_range af
  have t1 : Int.tmod (angle bf) 500 = angle bf % 500 := Int.tmod_eq_emod_of_nonneg b1.1
  have t2 : Int.tmod (angle af) 500 = angle af % 500 := Int.tmod_eq_emod_of_nonneg b2.1
  have w1 : IntKind.i64.wrap (a - angle bf % 500) = a - angle bf % 500 := wr64 (by omega)
  have w2 : IntKind.i64.wrap (b + angle bf % 500) = b + angle bf % 500 := wr64 (by omega)
  have w3 : IntKind.i64.wrap (b + angle bf % 500 + angle af % 500) = b + angle bf % 500 + angle af % 500 := wr64 (by omega)
  refine ⟨angle bf % 500, angle af % 500, u, v, by omega, by omega, ?_⟩
  unfold r1042
  rw [t1, t2, hu, hv, w1, w2, w3]
theorem blur_ok {a b c d e : Int} (h : MarkOk a b c d e) (hb : b ≤ 60) {x y : Int} (hx : 0 ≤ x ∧ x < 500) (hy : 0 ≤ y ∧ y < 500) (u v : BitVec 12) :
    MarkOk (angle (a - x)) (b + x + y) c (notV d (val u)) (notV e (val v)) ∧ r57 (angle (a - x)) (b + x + y) c (notV d (val u)) (notV e (val v)) a b c d e = ((a, b, c, d, e), 0) := by
  have hm2 := h
  obtain ⟨hA, h1, h2, h3, h4, h5, h6, h7⟩ := h
  have ha : 0 ≤ a ∧ a < 43200 ∧ 0 ≤ b := by
    have hA' : (a = 0 ∧ b = 43199) ∨ (0 ≤ a ∧ a < 43200 ∧ 0 ≤ b ∧ b < 43199) := hA
    omega
  obtain ⟨ds, rfl⟩ := val_of h3 h4
  obtain ⟨es, rfl⟩ := val_of h5 h6
  have hz : ds &&& es = 0#12 := val_inj (by rw [← and_val, h7]; rfl)
  have r1 := angle_range (a - x)
  have hm : MarkOk (angle (a - x)) (b + x + y) c (notV (val ds) (val u)) (notV (val es) (val v)) := by
    rw [not_val, not_val]
    refine ⟨.inr ⟨r1.1, r1.2, by omega, by omega⟩, h1, h2, (val_range _).1, (val_range _).2, (val_range _).1, (val_range _).2, ?_⟩
    rw [and_val, and_less hz]; rfl
  refine ⟨hm, ?_⟩
  have hmeet := meet_sub hm.1 hA (fun n hn => by
    unfold InA at hn ⊢
    unfold angle
    omega)
  have hv0 : val 0#12 = 0 := rfl
  unfold r57
  rw [errV_pos hm, errV_pos hm2, hmeet, not_val, not_val, or_val, or_val, or_less, or_less, and_val, hz, hv0]
  simp [lget]
theorem shows_hit {p mi di f s : Int} (hp : 0 ≤ p ∧ p ≤ 4095) (hm : 0 ≤ mi ∧ mi ≤ 4095) (hd : 0 ≤ di ∧ di ≤ 4095) (hH : cnt (andV p mi) ≤ f ∧ cnt (notV di p) ≤ s) (u v : BitVec 12) :
    cnt (andV p (notV (notV 4095 (seenV p mi di)) (val v))) ≤ f ∧ cnt (notV (notV (seenV p mi di) (val u)) p) ≤ s := by
  obtain ⟨P, rfl⟩ := val_of hp.1 hp.2
  obtain ⟨M, rfl⟩ := val_of hm.1 hm.2
  obtain ⟨D, rfl⟩ := val_of hd.1 hd.2
  unfold seenV
  rw [not_val, or_val, rest_is, not_val, and_val, not_val, not_val]
  rw [and_val, not_val] at hH
  refine ⟨Int.le_trans (cnt_le fun k hk => ?_) hH.1, Int.le_trans (cnt_le fun k hk => ?_) hH.2⟩
  · simp only [BitVec.getLsbD_and, BitVec.getLsbD_or, BitVec.getLsbD_not] at hk ⊢
    revert hk
    cases P.getLsbD k <;> cases M.getLsbD k <;> cases D.getLsbD k <;> by_cases h : k < 12 <;> simp [h]
  · simp only [BitVec.getLsbD_and, BitVec.getLsbD_or, BitVec.getLsbD_not] at hk ⊢
    revert hk
    cases P.getLsbD k <;> cases M.getLsbD k <;> cases D.getLsbD k <;> by_cases h : k < 12 <;> simp [h]
theorem hit_mark {id tr p mi di sh f s l at_ lo : Int} (hk : KeyOk id tr p) (hB : BlowOk mi di f s l) (hlo : 0 ≤ lo ∧ lo ≤ 60) : MarkOk (angle (angle at_ + sh)) lo tr (seenV p mi di) (notV 4095 (seenV p mi di)) := by
  obtain ⟨k1, k2, k3, k4, k5, k6⟩ := hk
  obtain ⟨_, b1, b2, b3, b4⟩ := hB
  obtain ⟨P, rfl⟩ := val_of (a := p) (by omega) k6
  obtain ⟨M, rfl⟩ := val_of b1 b2
  obtain ⟨D, rfl⟩ := val_of b3 b4
  have r1 := angle_range (angle at_ + sh)
  unfold seenV
  rw [not_val, or_val, rest_is]
  refine ⟨.inr ⟨r1.1, r1.2, hlo.1, by omega⟩, k3, k4, (val_range _).1, (val_range _).2, (val_range _).1, (val_range _).2, ?_⟩
  rw [and_val, and_rest]; rfl
end Great
end Go.Proofs
