/-
  The great seat of stage 1 at c2f8ee9: sets of pins as words of twelve bits.
-/
import Derived.Test.YtecfjfhcoffhfaaGreatDoorEvZ3
set_option linter.unusedSimpArgs false
set_option linter.unusedVariables false
namespace Go.Proofs
namespace Great
open Go Go.RowKit Go.Aev
set_option maxRecDepth 100000
def val (u : BitVec 12) : Int := (u.toNat : Int)
theorem val_range (u : BitVec 12) : 0 ≤ val u ∧ val u ≤ 4095 := by have := u.isLt; unfold val; omega
theorem val_of {a : Int} (h0 : 0 ≤ a) (h1 : a ≤ 4095) : ∃ u, a = val u := ⟨BitVec.ofNat 12 a.toNat, by unfold val; rw [BitVec.toNat_ofNat]; omega⟩
theorem val_inj {u v : BitVec 12} (h : val u = val v) : u = v := BitVec.eq_of_toNat_eq (by unfold val at h; omega)
theorem val_word (u : BitVec 12) : BitVec.ofInt 64 (val u) = u.setWidth 64 := by
  apply BitVec.eq_of_toNat_eq
  have := u.isLt
  rw [BitVec.toNat_ofInt, BitVec.toNat_setWidth]
  unfold val
  omega
theorem wrap_val (w : BitVec 64) (u : BitVec 12) (h : w = u.setWidth 64) : IntKind.i64.wrap (w.toNat : Int) = val u := by
  subst h
  have := u.isLt
  have e : (u.setWidth 64).toNat = u.toNat := by rw [BitVec.toNat_setWidth]; omega
  rw [e, IntWalk.i64_in]
  · rfl
  · constructor <;> omega
theorem and_val (u v : BitVec 12) : andV (val u) (val v) = val (u &&& v) := by
  show IntKind.i64.wrap ((BitVec.ofInt 64 (val u) &&& BitVec.ofInt 64 (val v)).toNat : Int) = _
  rw [val_word, val_word]
  exact wrap_val _ _ BitVec.setWidth_and.symm
theorem or_val (u v : BitVec 12) : orV (val u) (val v) = val (u ||| v) := by
  show IntKind.i64.wrap ((BitVec.ofInt 64 (val u) ||| BitVec.ofInt 64 (val v)).toNat : Int) = _
  rw [val_word, val_word]
  exact wrap_val _ _ BitVec.setWidth_or.symm
theorem not_val (u v : BitVec 12) : notV (val u) (val v) = val (u &&& ~~~v) := by
  show IntKind.i64.wrap ((BitVec.ofInt 64 (val u) &&& ~~~(BitVec.ofInt 64 (val v))).toNat : Int) = _
  rw [val_word, val_word]
  refine wrap_val _ _ (BitVec.eq_of_getLsbD_eq fun i hi => ?_)
  simp only [BitVec.getLsbD_and, BitVec.getLsbD_not, BitVec.getLsbD_setWidth]
  by_cases h : i < 12
  · simp [h, hi]
  · have : u.getLsbD i = false := BitVec.getLsbD_of_ge _ _ (by omega)
    simp [this]
theorem pin_val (u : BitVec 12) (k : Nat) (hk : k < 12) : pinV (val u) k = if u.getLsbD k then 1 else 0 := by
  have hm : min ((k : Int)).toNat IntKind.i64.bits = k := by show min k 64 = k; omega
  unfold pinV
  rw [hm]
  have hd : (val u).fdiv (2 ^ k) = ((u.toNat / 2 ^ k : Nat) : Int) := by
    unfold val
    rw [Int.fdiv_eq_ediv_of_nonneg _ (by have : (0 : Int) < 2 ^ k := Int.pow_pos (by omega); omega)]
    norm_cast
  rw [hd]
  have hlt : u.toNat / 2 ^ k < 4096 := Nat.lt_of_le_of_lt (Nat.div_le_self _ _) u.isLt
  have e1 : (BitVec.ofInt IntKind.i64.bits ((u.toNat / 2 ^ k : Nat) : Int)).toNat = u.toNat / 2 ^ k := by
    generalize u.toNat / 2 ^ k = m at hlt
    show (BitVec.ofInt 64 (m : Int)).toNat = m
    rw [BitVec.toNat_ofInt]
    omega
  have e2 : (BitVec.ofInt IntKind.i64.bits ((u.toNat / 2 ^ k : Nat) : Int) &&& BitVec.ofInt IntKind.i64.bits 1).toNat = u.toNat / 2 ^ k % 2 := by
    rw [BitVec.toNat_and, e1]
    show u.toNat / 2 ^ k &&& 1 = _
    rw [Nat.and_one_is_mod]
  rw [e2]
  have e3 : u.getLsbD k = decide (u.toNat / 2 ^ k % 2 = 1) := by
    show u.toNat.testBit k = _
    rw [Nat.testBit_eq_decide_div_mod_eq]
  rw [e3]
  rcases Nat.mod_two_eq_zero_or_one (u.toNat / 2 ^ k) with h | h <;> simp [h] <;> rw [IntWalk.i64_in] <;> omega
/-- How many of the first k bits are set. -/
def cb (u : BitVec 12) : Nat → Nat
  | 0 => 0
  | k + 1 => cb u k + if u.getLsbD k then 1 else 0
theorem cntTo_val (u : BitVec 12) : ∀ k, k ≤ 12 → cntTo (val u) k = (cb u k : Int)
  | 0, _ => rfl
  | k + 1, h => by
    simp only [cntTo, cb]
    rw [cntTo_val u k (by omega), pin_val u k (by omega)]
    split <;> simp
theorem cnt_val (u : BitVec 12) : cnt (val u) = (cb u 12 : Int) := cntTo_val u 12 (Nat.le_refl _)
/-- The first n bits of a word, and how many are still wanted. -/
def fb (u : BitVec 12) (n : Nat) : Nat → BitVec 12 × Nat
  | 0 => (0#12, n)
  | k + 1 => if 0 < (fb u n k).2 ∧ u.getLsbD k = true then ((fb u n k).1 ||| BitVec.twoPow 12 k, (fb u n k).2 - 1) else fb u n k
theorem fb_left (u : BitVec 12) (n : Nat) : ∀ k, (fb u n k).2 = n - cb u k
  | 0 => by simp [fb, cb]
  | k + 1 => by
    have := fb_left u n k
    unfold fb cb
    by_cases h : u.getLsbD k = true <;> by_cases h2 : 0 < (fb u n k).2 <;> simp [h, h2] <;> omega
theorem fb_bit (u : BitVec 12) (n : Nat) : ∀ k, k ≤ 12 → ∀ j, (fb u n k).1.getLsbD j = (decide (j < k) && u.getLsbD j && decide (cb u j < n))
  | 0, _, j => by simp [fb]
  | k + 1, hk, j => by
    have ih := fb_bit u n k (by omega) j
    have hl := fb_left u n k
    unfold fb
    by_cases h : u.getLsbD k = true
    · by_cases h2 : 0 < (fb u n k).2
      · rw [if_pos ⟨h2, h⟩]
        rw [BitVec.getLsbD_or, ih, BitVec.getLsbD_twoPow]
        rcases Nat.lt_trichotomy j k with hj | hj | hj
        · simp [hj, show j < k + 1 by omega, show k ≠ j by omega]
        · subst hj
          simp [h, show j < 12 by omega, show cb u j < n by omega]
        · simp [show ¬ j < k by omega, show ¬ j < k + 1 by omega, show k ≠ j by omega]
      · rw [if_neg (fun hh => h2 hh.1), ih]
        rcases Nat.lt_trichotomy j k with hj | hj | hj
        · simp [hj, show j < k + 1 by omega]
        · subst hj
          simp [show ¬ cb u j < n by omega]
        · simp [show ¬ j < k by omega, show ¬ j < k + 1 by omega]
    · rw [if_neg (fun hh => h hh.2), ih]
      rcases Nat.lt_trichotomy j k with hj | hj | hj
      · simp [hj, show j < k + 1 by omega]
      · subst hj
        simp [h]
      · simp [show ¬ j < k by omega, show ¬ j < k + 1 by omega]
def first (u : BitVec 12) (n : Nat) : BitVec 12 := (fb u n 12).1
theorem first_bit (u : BitVec 12) (n j : Nat) (hj : j < 12) : (first u n).getLsbD j = (u.getLsbD j && decide (cb u j < n)) := by
  unfold first
  rw [fb_bit u n 12 (Nat.le_refl _) j]
  simp [hj]
theorem cb_first (u : BitVec 12) (n : Nat) : ∀ k, k ≤ 12 → cb (first u n) k = min n (cb u k)
  | 0, _ => by simp [cb]
  | k + 1, hk => by
    have ih := cb_first u n k (by omega)
    unfold cb
    rw [first_bit u n k (by omega), ih]
    by_cases h : u.getLsbD k = true <;> by_cases h2 : cb u k < n <;> simp [h, h2] <;> omega
theorem cb_rest (u : BitVec 12) (n : Nat) : ∀ k, k ≤ 12 → cb (u &&& ~~~(first u n)) k = cb u k - min n (cb u k)
  | 0, _ => by simp [cb]
  | k + 1, hk => by
    have ih := cb_rest u n k (by omega)
    unfold cb
    rw [BitVec.getLsbD_and, BitVec.getLsbD_not, first_bit u n k (by omega), ih]
    by_cases h : u.getLsbD k = true <;> by_cases h2 : cb u k < n <;> simp only [h, h2, show k < 12 by omega, decide_true, decide_false, Bool.and_true, Bool.and_false, Bool.true_and, Bool.false_and, Bool.not_true, Bool.not_false, if_true, if_false, Bool.false_eq_true] <;> omega
theorem first_sub (u : BitVec 12) (n j : Nat) (h : (first u n).getLsbD j = true) : u.getLsbD j = true := by
  by_cases hj : j < 12
  · rw [first_bit u n j hj] at h
    simp at h
    exact h.1
  · rw [BitVec.getLsbD_of_ge _ _ (by omega)] at h
    simp at h
/-- What a witness shows: bit by bit. -/
theorem own_val (u v : BitVec 12) : u &&& ~~~(u &&& v) = u &&& ~~~v := by
  refine BitVec.eq_of_getLsbD_eq fun i hi => ?_
  simp only [BitVec.getLsbD_and, BitVec.getLsbD_not, hi, decide_true, Bool.true_and]
  cases u.getLsbD i <;> cases v.getLsbD i <;> rfl
def seenB (u v : BitVec 12) (n : Nat) : BitVec 12 := u &&& v ||| first (u &&& ~~~v) n ||| first (v &&& ~~~u) n
theorem blank_one (u v : BitVec 12) (n : Nat) : u &&& (4095#12 &&& ~~~(seenB u v n)) = (u &&& ~~~v) &&& ~~~(first (u &&& ~~~v) n) := by
  refine BitVec.eq_of_getLsbD_eq fun i hi => ?_
  have h1 := first_sub (u &&& ~~~v) n i
  have h2 := first_sub (v &&& ~~~u) n i
  have h0 : (4095#12).getLsbD i = true := by rw [show (4095#12) = BitVec.allOnes 12 from rfl, BitVec.getLsbD_allOnes]; simpa using hi
  simp only [seenB, BitVec.getLsbD_and, BitVec.getLsbD_or, BitVec.getLsbD_not, hi, decide_true, Bool.true_and, h0] at h1 h2 ⊢
  revert h1 h2
  cases u.getLsbD i <;> cases v.getLsbD i <;> cases (first (u &&& ~~~v) n).getLsbD i <;> cases (first (v &&& ~~~u) n).getLsbD i <;> simp
theorem blank_two (u v : BitVec 12) (n : Nat) : v &&& (4095#12 &&& ~~~(seenB u v n)) = (v &&& ~~~u) &&& ~~~(first (v &&& ~~~u) n) := by
  refine BitVec.eq_of_getLsbD_eq fun i hi => ?_
  have h1 := first_sub (u &&& ~~~v) n i
  have h2 := first_sub (v &&& ~~~u) n i
  have h0 : (4095#12).getLsbD i = true := by rw [show (4095#12) = BitVec.allOnes 12 from rfl, BitVec.getLsbD_allOnes]; simpa using hi
  simp only [seenB, BitVec.getLsbD_and, BitVec.getLsbD_or, BitVec.getLsbD_not, hi, decide_true, Bool.true_and, h0] at h1 h2 ⊢
  revert h1 h2
  cases u.getLsbD i <;> cases v.getLsbD i <;> cases (first (u &&& ~~~v) n).getLsbD i <;> cases (first (v &&& ~~~u) n).getLsbD i <;> simp
theorem seen_one (u v : BitVec 12) (n : Nat) : seenB u v n &&& ~~~u = first (v &&& ~~~u) n := by
  refine BitVec.eq_of_getLsbD_eq fun i hi => ?_
  have h1 := first_sub (u &&& ~~~v) n i
  have h2 := first_sub (v &&& ~~~u) n i
  simp only [seenB, BitVec.getLsbD_and, BitVec.getLsbD_or, BitVec.getLsbD_not, hi, decide_true, Bool.true_and] at h1 h2 ⊢
  revert h1 h2
  cases u.getLsbD i <;> cases v.getLsbD i <;> cases (first (u &&& ~~~v) n).getLsbD i <;> cases (first (v &&& ~~~u) n).getLsbD i <;> simp
theorem seen_two (u v : BitVec 12) (n : Nat) : seenB u v n &&& ~~~v = first (u &&& ~~~v) n := by
  refine BitVec.eq_of_getLsbD_eq fun i hi => ?_
  have h1 := first_sub (u &&& ~~~v) n i
  have h2 := first_sub (v &&& ~~~u) n i
  simp only [seenB, BitVec.getLsbD_and, BitVec.getLsbD_or, BitVec.getLsbD_not, hi, decide_true, Bool.true_and] at h1 h2 ⊢
  revert h1 h2
  cases u.getLsbD i <;> cases v.getLsbD i <;> cases (first (u &&& ~~~v) n).getLsbD i <;> cases (first (v &&& ~~~u) n).getLsbD i <;> simp
theorem all_blank (s : BitVec 12) : s &&& (4095#12 &&& ~~~s) = 0#12 ∧ (s ||| (4095#12 &&& ~~~s)) = 4095#12 := by
  constructor <;>
  · refine BitVec.eq_of_getLsbD_eq fun i hi => ?_
    have h0 : (4095#12).getLsbD i = true := by rw [show (4095#12) = BitVec.allOnes 12 from rfl, BitVec.getLsbD_allOnes]; simpa using hi
    simp only [BitVec.getLsbD_and, BitVec.getLsbD_or, BitVec.getLsbD_not, hi, decide_true, Bool.true_and, h0, BitVec.getLsbD_zero]
    cases s.getLsbD i <;> rfl
end Great
end Go.Proofs
