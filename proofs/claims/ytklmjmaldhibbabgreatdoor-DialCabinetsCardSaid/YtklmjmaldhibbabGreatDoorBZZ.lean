/-
  BZZ: EvZ8, EvZ9, EvZ10.
-/
import Derived.Test.YtklmjmaldhibbabGreatDoorBZ
section
/-
  The great seat of stage 1 at c2f8ee9: sets of pins as words of twelve bits.
-/
set_option linter.unusedSimpArgs false
set_option linter.unusedVariables false
namespace Go.Proofs
namespace Great
open Go Go.RowKit Go.Aev
set_option maxRecDepth 100000
def val (u : BitVec 12) : Int := (u.toNat : Int)
theorem val_range (u : BitVec 12) : 0 ≤ val u ∧ val u ≤ 4095 := by have := u.isLt; unfold val; omega
theorem val_of {a : Int} (h0 : 0 ≤ a) (h1 : a ≤ 4095) : ∃ u, a = val u := ⟨BitVec.ofNat 12 a.toNat, by unfold val; rw [BitVec.toNat_ofNat]; omega⟩
theorem val_inj {u v : BitVec 12} (h : val u = val v) : u = v := BitVec.eq_of_toNat_eq (by unfold val at h; omega)
theorem val_word (u : BitVec 12) : BitVec.ofInt 64 (val u) = u.setWidth 64 := by
  apply BitVec.eq_of_toNat_eq
  have := u.isLt
  rw [BitVec.toNat_ofInt, BitVec.toNat_setWidth]
  unfold val
  omega
theorem wrap_val (w : BitVec 64) (u : BitVec 12) (h : w = u.setWidth 64) : IntKind.i64.wrap (w.toNat : Int) = val u := by
  subst h
  have := u.isLt
  have e : (u.setWidth 64).toNat = u.toNat := by rw [BitVec.toNat_setWidth]; omega
  rw [e, IntWalk.i64_in]
  · rfl
  · constructor <;> omega
theorem and_val (u v : BitVec 12) : andV (val u) (val v) = val (u &&& v) := by
  show IntKind.i64.wrap ((BitVec.ofInt 64 (val u) &&& BitVec.ofInt 64 (val v)).toNat : Int) = _
  rw [val_word, val_word]
  exact wrap_val _ _ BitVec.setWidth_and.symm
theorem or_val (u v : BitVec 12) : orV (val u) (val v) = val (u ||| v) := by
  show IntKind.i64.wrap ((BitVec.ofInt 64 (val u) ||| BitVec.ofInt 64 (val v)).toNat : Int) = _
  rw [val_word, val_word]
  exact wrap_val _ _ BitVec.setWidth_or.symm
theorem not_val (u v : BitVec 12) : notV (val u) (val v) = val (u &&& ~~~v) := by
  show IntKind.i64.wrap ((BitVec.ofInt 64 (val u) &&& ~~~(BitVec.ofInt 64 (val v))).toNat : Int) = _
  rw [val_word, val_word]
  refine wrap_val _ _ (BitVec.eq_of_getLsbD_eq fun i hi => ?_)
  simp only [BitVec.getLsbD_and, BitVec.getLsbD_not, BitVec.getLsbD_setWidth]
  by_cases h : i < 12
  · simp [h, hi]
  · have : u.getLsbD i = false := BitVec.getLsbD_of_ge _ _ (by omega)
    simp [this]
theorem pin_val (u : BitVec 12) (k : Nat) (hk : k < 12) : pinV (val u) k = if u.getLsbD k then 1 else 0 := by
  have hm : min ((k : Int)).toNat IntKind.i64.bits = k := by show min k 64 = k; omega
  unfold pinV
  rw [hm]
  have hd : (val u).fdiv (2 ^ k) = ((u.toNat / 2 ^ k : Nat) : Int) := by
    unfold val
    rw [Int.fdiv_eq_ediv_of_nonneg _ (by have : (0 : Int) < 2 ^ k := Int.pow_pos (by omega); omega)]
    norm_cast
  rw [hd]
  have hlt : u.toNat / 2 ^ k < 4096 := Nat.lt_of_le_of_lt (Nat.div_le_self _ _) u.isLt
  have e1 : (BitVec.ofInt IntKind.i64.bits ((u.toNat / 2 ^ k : Nat) : Int)).toNat = u.toNat / 2 ^ k := by
    generalize u.toNat / 2 ^ k = m at hlt
    show (BitVec.ofInt 64 (m : Int)).toNat = m
    rw [BitVec.toNat_ofInt]
    omega
  have e2 : (BitVec.ofInt IntKind.i64.bits ((u.toNat / 2 ^ k : Nat) : Int) &&& BitVec.ofInt IntKind.i64.bits 1).toNat = u.toNat / 2 ^ k % 2 := by
    rw [BitVec.toNat_and, e1]
    show u.toNat / 2 ^ k &&& 1 = _
    rw [Nat.and_one_is_mod]
  rw [e2]
  have e3 : u.getLsbD k = decide (u.toNat / 2 ^ k % 2 = 1) := by
    show u.toNat.testBit k = _
    rw [Nat.testBit_eq_decide_div_mod_eq]
  rw [e3]
  rcases Nat.mod_two_eq_zero_or_one (u.toNat / 2 ^ k) with h | h <;> simp [h] <;> rw [IntWalk.i64_in] <;> omega
/-- How many of the first k bits are set. -/
def cb (u : BitVec 12) : Nat → Nat
  | 0 => 0
  | k + 1 => cb u k + if u.getLsbD k then 1 else 0
theorem cntTo_val (u : BitVec 12) : ∀ k, k ≤ 12 → cntTo (val u) k = (cb u k : Int)
  | 0, _ => rfl
  | k + 1, h => by
    simp only [cntTo, cb]
    rw [cntTo_val u k (by omega), pin_val u k (by omega)]
    split <;> simp
theorem cnt_val (u : BitVec 12) : cnt (val u) = (cb u 12 : Int) := cntTo_val u 12 (Nat.le_refl _)
/-- The first n bits of a word, and how many are still wanted. -/
def fb (u : BitVec 12) (n : Nat) : Nat → BitVec 12 × Nat
  | 0 => (0#12, n)
  | k + 1 => if 0 < (fb u n k).2 ∧ u.getLsbD k = true then ((fb u n k).1 ||| BitVec.twoPow 12 k, (fb u n k).2 - 1) else fb u n k
theorem fb_left (u : BitVec 12) (n : Nat) : ∀ k, (fb u n k).2 = n - cb u k
  | 0 => by simp [fb, cb]
  | k + 1 => by
    have := fb_left u n k
    unfold fb cb
    by_cases h : u.getLsbD k = true <;> by_cases h2 : 0 < (fb u n k).2 <;> simp [h, h2] <;> omega
theorem fb_bit (u : BitVec 12) (n : Nat) : ∀ k, k ≤ 12 → ∀ j, (fb u n k).1.getLsbD j = (decide (j < k) && u.getLsbD j && decide (cb u j < n))
  | 0, _, j => by simp [fb]
  | k + 1, hk, j => by
    have ih := fb_bit u n k (by omega) j
    have hl := fb_left u n k
    unfold fb
    by_cases h : u.getLsbD k = true
    · by_cases h2 : 0 < (fb u n k).2
      · rw [if_pos ⟨h2, h⟩]
        rw [BitVec.getLsbD_or, ih, BitVec.getLsbD_twoPow]
        rcases Nat.lt_trichotomy j k with hj | hj | hj
        · simp [hj, show j < k + 1 by omega, show k ≠ j by omega]
        · subst hj
          simp [h, show j < 12 by omega, show cb u j < n by omega]
        · simp [show ¬ j < k by omega, show ¬ j < k + 1 by omega, show k ≠ j by omega]
      · rw [if_neg (fun hh => h2 hh.1), ih]
        rcases Nat.lt_trichotomy j k with hj | hj | hj
        · simp [hj, show j < k + 1 by omega]
        · subst hj
          simp [show ¬ cb u j < n by omega]
        · simp [show ¬ j < k by omega, show ¬ j < k + 1 by omega]
    · rw [if_neg (fun hh => h hh.2), ih]
      rcases Nat.lt_trichotomy j k with hj | hj | hj
      · simp [hj, show j < k + 1 by omega]
      · subst hj
        simp [h]
      · simp [show ¬ j < k by omega, show ¬ j < k + 1 by omega]
def first (u : BitVec 12) (n : Nat) : BitVec 12 := (fb u n 12).1
theorem first_bit (u : BitVec 12) (n j : Nat) (hj : j < 12) : (first u n).getLsbD j = (u.getLsbD j && decide (cb u j < n)) := by
  unfold first
  rw [fb_bit u n 12 (Nat.le_refl _) j]
  simp [hj]
theorem cb_first (u : BitVec 12) (n : Nat) : ∀ k, k ≤ 12 → cb (first u n) k = min n (cb u k)
  | 0, _ => by simp [cb]
  | k + 1, hk => by
    have ih := cb_first u n k (by omega)
    unfold cb
    rw [first_bit u n k (by omega), ih]
    by_cases h : u.getLsbD k = true <;> by_cases h2 : cb u k < n <;> simp [h, h2] <;> omega
theorem cb_rest (u : BitVec 12) (n : Nat) : ∀ k, k ≤ 12 → cb (u &&& ~~~(first u n)) k = cb u k - min n (cb u k)
  | 0, _ => by simp [cb]
  | k + 1, hk => by
    have ih := cb_rest u n k (by omega)
    unfold cb
    rw [BitVec.getLsbD_and, BitVec.getLsbD_not, first_bit u n k (by omega), ih]
    by_cases h : u.getLsbD k = true <;> by_cases h2 : cb u k < n <;> simp only [h, h2, show k < 12 by omega, decide_true, decide_false, Bool.and_true, Bool.and_false, Bool.true_and, Bool.false_and, Bool.not_true, Bool.not_false, if_true, if_false, Bool.false_eq_true] <;> omega
theorem first_sub (u : BitVec 12) (n j : Nat) (h : (first u n).getLsbD j = true) : u.getLsbD j = true := by
  by_cases hj : j < 12
  · rw [first_bit u n j hj] at h
    simp at h
    exact h.1
  · rw [BitVec.getLsbD_of_ge _ _ (by omega)] at h
    simp at h
/-- What a witness shows: bit by bit. -/
theorem own_val (u v : BitVec 12) : u &&& ~~~(u &&& v) = u &&& ~~~v := by
  refine BitVec.eq_of_getLsbD_eq fun i hi => ?_
  simp only [BitVec.getLsbD_and, BitVec.getLsbD_not, hi, decide_true, Bool.true_and]
  cases u.getLsbD i <;> cases v.getLsbD i <;> rfl
def seenB (u v : BitVec 12) (n : Nat) : BitVec 12 := u &&& v ||| first (u &&& ~~~v) n ||| first (v &&& ~~~u) n
theorem blank_one (u v : BitVec 12) (n : Nat) : u &&& (4095#12 &&& ~~~(seenB u v n)) = (u &&& ~~~v) &&& ~~~(first (u &&& ~~~v) n) := by
  refine BitVec.eq_of_getLsbD_eq fun i hi => ?_
  have h1 := first_sub (u &&& ~~~v) n i
  have h2 := first_sub (v &&& ~~~u) n i
  have h0 : (4095#12).getLsbD i = true := by rw [show (4095#12) = BitVec.allOnes 12 from rfl, BitVec.getLsbD_allOnes]; simpa using hi
  simp only [seenB, BitVec.getLsbD_and, BitVec.getLsbD_or, BitVec.getLsbD_not, hi, decide_true, Bool.true_and, h0] at h1 h2 ⊢
  revert h1 h2
  cases u.getLsbD i <;> cases v.getLsbD i <;> cases (first (u &&& ~~~v) n).getLsbD i <;> cases (first (v &&& ~~~u) n).getLsbD i <;> simp
theorem blank_two (u v : BitVec 12) (n : Nat) : v &&& (4095#12 &&& ~~~(seenB u v n)) = (v &&& ~~~u) &&& ~~~(first (v &&& ~~~u) n) := by
  refine BitVec.eq_of_getLsbD_eq fun i hi => ?_
  have h1 := first_sub (u &&& ~~~v) n i
  have h2 := first_sub (v &&& ~~~u) n i
  have h0 : (4095#12).getLsbD i = true := by rw [show (4095#12) = BitVec.allOnes 12 from rfl, BitVec.getLsbD_allOnes]; simpa using hi
  simp only [seenB, BitVec.getLsbD_and, BitVec.getLsbD_or, BitVec.getLsbD_not, hi, decide_true, Bool.true_and, h0] at h1 h2 ⊢
  revert h1 h2
  cases u.getLsbD i <;> cases v.getLsbD i <;> cases (first (u &&& ~~~v) n).getLsbD i <;> cases (first (v &&& ~~~u) n).getLsbD i <;> simp
theorem seen_one (u v : BitVec 12) (n : Nat) : seenB u v n &&& ~~~u = first (v &&& ~~~u) n := by
  refine BitVec.eq_of_getLsbD_eq fun i hi => ?_
  have h1 := first_sub (u &&& ~~~v) n i
  have h2 := first_sub (v &&& ~~~u) n i
  simp only [seenB, BitVec.getLsbD_and, BitVec.getLsbD_or, BitVec.getLsbD_not, hi, decide_true, Bool.true_and] at h1 h2 ⊢
  revert h1 h2
  cases u.getLsbD i <;> cases v.getLsbD i <;> cases (first (u &&& ~~~v) n).getLsbD i <;> cases (first (v &&& ~~~u) n).getLsbD i <;> simp
theorem seen_two (u v : BitVec 12) (n : Nat) : seenB u v n &&& ~~~v = first (u &&& ~~~v) n := by
  refine BitVec.eq_of_getLsbD_eq fun i hi => ?_
  have h1 := first_sub (u &&& ~~~v) n i
  have h2 := first_sub (v &&& ~~~u) n i
  simp only [seenB, BitVec.getLsbD_and, BitVec.getLsbD_or, BitVec.getLsbD_not, hi, decide_true, Bool.true_and] at h1 h2 ⊢
  revert h1 h2
  cases u.getLsbD i <;> cases v.getLsbD i <;> cases (first (u &&& ~~~v) n).getLsbD i <;> cases (first (v &&& ~~~u) n).getLsbD i <;> simp
theorem all_blank (s : BitVec 12) : s &&& (4095#12 &&& ~~~s) = 0#12 ∧ (s ||| (4095#12 &&& ~~~s)) = 4095#12 := by
  constructor <;>
  · refine BitVec.eq_of_getLsbD_eq fun i hi => ?_
    have h0 : (4095#12).getLsbD i = true := by rw [show (4095#12) = BitVec.allOnes 12 from rfl, BitVec.getLsbD_allOnes]; simpa using hi
    simp only [BitVec.getLsbD_and, BitVec.getLsbD_or, BitVec.getLsbD_not, hi, decide_true, Bool.true_and, h0, BitVec.getLsbD_zero]
    cases s.getLsbD i <;> rfl
end Great
end Go.Proofs
end
section
/-
  The great seat of stage 1 at c2f8ee9: keys that can be confused.
-/
set_option linter.unusedSimpArgs false
set_option linter.unusedVariables false
namespace Go.Proofs
namespace Great
open Go Go.RowKit Go.Aev
set_option maxRecDepth 100000
theorem sz125 : szOf Tryz.prog 133 = some 6 := by kernel_rfl
theorem sz123 : szOf Tryz.prog 61 = some 2 := by kernel_rfl
theorem inTab125 : inTab Tryz.prog 133 = true := by kernel_rfl
theorem inTab123 : inTab Tryz.prog 61 = true := by kernel_rfl
theorem inTab52 : inTab Tryz.prog 38 = true := by kernel_rfl
theorem zero125 : zeroOf Tryz.prog 133 = some (.agg #[.int .i64 0, .int .i64 0, .int .i64 0, .int .i64 0, .int .i64 0, .int .i64 0]) := by kernel_rfl
theorem zero123 : zeroOf Tryz.prog 61 = some (.agg #[.int .i64 0, .int .i64 0]) := by kernel_rfl
theorem zero52 : zeroOf Tryz.prog 38 = some (.agg #[.int .i64 0, .int .i64 0, .int .i64 0]) := by kernel_rfl
theorem newPair (a b : Int) : aBuild Tryz.prog 61 [(0, .int .i64 a), (1, .int .i64 b)] = some (.agg #[.int .i64 a, .int .i64 b]) := by kernel_rfl
theorem newKeys (a b c a' b' c' : Int) : aBuild Tryz.prog 133 [(0, .agg #[.int .i64 a, .int .i64 b, .int .i64 c]), (1, .agg #[.int .i64 a', .int .i64 b', .int .i64 c'])] = some (.agg #[.int .i64 a, .int .i64 b, .int .i64 c, .int .i64 a', .int .i64 b', .int .i64 c']) := by kernel_rfl
theorem arc00 : aBuild Tryz.prog 41 [] = some (.agg #[.int .i64 0, .int .i64 0]) := by kernel_rfl
theorem ixA0 (b : Nat) : aIndexAddr Tryz.prog 133 (.pointer (some ⟨b, 0, none⟩)) (.int .i64 0) = some (.pointer (some ⟨b, 0, none⟩)) := by kernel_rfl
theorem ixA1 (b : Nat) : aIndexAddr Tryz.prog 133 (.pointer (some ⟨b, 0, none⟩)) (.int .i64 1) = some (.pointer (some ⟨b, 3, none⟩)) := by kernel_rfl
theorem ixV0 (a b : Int) : aIndexV Tryz.prog 61 (.agg #[.int .i64 a, .int .i64 b]) (.int .i64 0) = some (.int .i64 a) := by kernel_rfl
theorem ixV1 (a b : Int) : aIndexV Tryz.prog 61 (.agg #[.int .i64 a, .int .i64 b]) (.int .i64 1) = some (.int .i64 b) := by kernel_rfl
theorem ixK0 (a b c a' b' c' : Int) : aIndexV Tryz.prog 133 (.agg #[.int .i64 a, .int .i64 b, .int .i64 c, .int .i64 a', .int .i64 b', .int .i64 c']) (.int .i64 0) = some (.agg #[.int .i64 a, .int .i64 b, .int .i64 c]) := by kernel_rfl
theorem ixK1 (a b c a' b' c' : Int) : aIndexV Tryz.prog 133 (.agg #[.int .i64 a, .int .i64 b, .int .i64 c, .int .i64 a', .int .i64 b', .int .i64 c']) (.int .i64 1) = some (.agg #[.int .i64 a', .int .i64 b', .int .i64 c']) := by kernel_rfl
theorem w01 : IntKind.i64.wrap (0 + 1) = 1 := by kernel_rfl
theorem w12 : IntKind.i64.wrap (1 + 1) = 2 := by kernel_rfl
theorem own_eq {p q : Int} (hp : 0 ≤ p ∧ p ≤ 4095) (hq : 0 ≤ q ∧ q ≤ 4095) : notV p (andV p q) = notV p q := by
  obtain ⟨u, rfl⟩ := val_of hp.1 hp.2
  obtain ⟨v, rfl⟩ := val_of hq.1 hq.2
  rw [and_val, not_val, not_val, own_val]
theorem and_comm (p q : Int) : andV p q = andV q p := by unfold andV; rw [BitVec.and_comm]
theorem c102 (i1 t1 p1 i2 t2 p2 : Int) (S : AS) : ∃ S', (evL Tryz.prog E0).call 100 #[.agg #[.int .i64 i1, .int .i64 t1, .int .i64 p1, .int .i64 i2, .int .i64 t2, .int .i64 p2]] S = some (.agg #[.int .i64 (notV p1 (andV p1 p2)), .int .i64 (notV p2 (andV p1 p2))], S') ∧ Agree S S' := by
  obtain ⟨S1, e1, n1, b1, a1⟩ := push_open S (.cells [.int .i64 i1, .int .i64 t1, .int .i64 p1, .int .i64 i2, .int .i64 t2, .int .i64 p2] 133 0 true true)
  have g1 : Agree S S1 := a1
  obtain ⟨S2, e2, n2, b2, a2⟩ := push_open S1 (.cells [.int .i64 0, .int .i64 0] 61 0 true true)
  have vk_2 := (a2.2 S.next (by omega)).trans b1
  have g2 : Agree S S2 := g1.trans a2
  obtain ⟨S3, k3, n3, b3, o3⟩ := st_open (vs := [.int .i64 ((notV p1 (andV p1 p2))), .int .i64 ((notV p2 (andV p1 p2)))]) sz123 b2 rfl rfl rfl
  have vk_3 := (o3 S.next (by omega)).trans vk_2
  have g3 : Agree S S3 := ⟨by have := g2.1; omega, fun id hid => (o3 id (by omega)).trans (g2.2 id hid)⟩
  generalize hz : (evL Tryz.prog E0).call 100 _ _ = z
  rw [L_call, evCall_said rfl Tryz.func100 rfl (by decide) Tryz.ntmps100 Tryz.results100] at hz
  simp (disch := first | omega | assumption) only [E0_G, SY, setArgs, off, agreeKind, partVals, vals, allocV, boxed, ldA, rdCells, oneB, aggD, aField, aFieldV, aExtract, eq_self, ne_eq, if_true, if_false, not_false_eq_true, Nat.reduceAdd, Nat.reduceSub, Nat.reduceMul, Nat.reduceLT, Nat.reduceEqDiff, Nat.reduceBEq, reduceIte, Int.reduceEq, Int.reduceLT, Int.reduceLE, reduceCtorEq, aExtract, inTab125, inTab123, inTab52, inTab58, zero125, zero123, zero52, zero58, newPair, newKeys, arc00, noMark, ixA0, ixA1, ixV0, ixV1, ixK0, ixK1, w01, w12, and_fold, or_fold, not_fold, vk_2, b2, k3, b3, vk_3, e1, e2, Tryz.underlying38, Tryz.underlying43, Tryz.underlying35, Tryz.underlying24, Tryz.underlying4, Tryz.underlying3, Tryz.underlying133, Tryz.underlying61, sz52, sz58, sz45, sz3, sz125, sz123] at hz
  exact fin hz rfl g3
theorem shl_val (k : Nat) (hk : k < 12) : IntKind.i64.wrap (1 * 2 ^ (min ((k : Int)).toNat IntKind.i64.bits)) = val (BitVec.twoPow 12 k) := by
  have hm : min ((k : Int)).toNat IntKind.i64.bits = k := by show min k 64 = k; omega
  rw [hm]
  obtain rfl | rfl | rfl | rfl | rfl | rfl | rfl | rfl | rfl | rfl | rfl | rfl : k = 0 ∨ k = 1 ∨ k = 2 ∨ k = 3 ∨ k = 4 ∨ k = 5 ∨ k = 6 ∨ k = 7 ∨ k = 8 ∨ k = 9 ∨ k = 10 ∨ k = 11 := by omega
  all_goals rfl
/-- What two valid keys and a valid ink owe that a mark can be of both. -/
def ConfP (t1 p1 t2 p2 f s : Int) : Prop := cnt (notV p1 p2) ≤ f + s ∧ cnt (notV p2 p1) ≤ f + s ∧ t1 = t2
instance (t1 p1 t2 p2 f s : Int) : Decidable (ConfP t1 p1 t2 p2 f s) := by unfold ConfP; infer_instance
theorem c106 (i1 t1 p1 i2 t2 p2 f s l : Int) (S : AS) (h1 : 0 ≤ p1 ∧ p1 ≤ 4095) (h2 : 0 ≤ p2 ∧ p2 ≤ 4095) (hI : InkOk f s l) : ∃ S', (evL Tryz.prog E0).call 83 #[.agg #[.int .i64 i1, .int .i64 t1, .int .i64 p1, .int .i64 i2, .int .i64 t2, .int .i64 p2], .agg #[.int .i64 f, .int .i64 s, .int .i64 l]] S = some (.bool (decide (ConfP t1 p1 t2 p2 f s)), S') ∧ Agree S S' := by
  have hI2 := hI
  unfold InkOk at hI2
  have ws : IntKind.i64.wrap (f + s) = f + s := by rw [IntWalk.i64_in]; omega
  obtain ⟨S1, e1, n1, b1, a1⟩ := push_open S (.cells [.int .i64 i1, .int .i64 t1, .int .i64 p1, .int .i64 i2, .int .i64 t2, .int .i64 p2] 133 0 true true)
  have g1 : Agree S S1 := a1
  obtain ⟨S2, e2, n2, b2, a2⟩ := push_open S1 (.cells [.int .i64 f, .int .i64 s, .int .i64 l] 35 0 true true)
  have vk_2 := (a2.2 S.next (by omega)).trans b1
  have g2 : Agree S S2 := g1.trans a2
  obtain ⟨S3, k3, a3⟩ := c102 i1 t1 p1 i2 t2 p2 S2
  have l3 := a3.1
  have s3 : E0.same S2 S3 = true := symEnv_same a3
  have vk_3 := (a3.2 S.next (by omega)).trans vk_2
  have vi_3 := (a3.2 S1.next (by omega)).trans b2
  have g3 : Agree S S3 := g2.trans a3
  rw [own_eq h1 h2, and_comm p1 p2, own_eq h2 h1] at k3
  generalize hz : (evL Tryz.prog E0).call 83 _ _ = z
  rw [L_call, evCall_said rfl Tryz.func83 rfl (by decide) Tryz.ntmps83 Tryz.results83] at hz
  simp (disch := first | omega | assumption) only [E0_G, SY, setArgs, off, agreeKind, partVals, vals, allocV, boxed, ldA, rdCells, oneB, aggD, aField, aFieldV, aExtract, eq_self, ne_eq, if_true, if_false, not_false_eq_true, Nat.reduceAdd, Nat.reduceSub, Nat.reduceMul, Nat.reduceLT, Nat.reduceEqDiff, Nat.reduceBEq, reduceIte, Int.reduceEq, Int.reduceLT, Int.reduceLE, reduceCtorEq, aExtract, inTab125, inTab123, inTab52, inTab58, zero125, zero123, zero52, zero58, newPair, newKeys, arc00, noMark, ixA0, ixA1, ixV0, ixV1, ixK0, ixK1, w01, w12, and_fold, or_fold, not_fold, vk_2, b2, k3, vk_3, vi_3, e1, e2, ws, c136, store_refl E0_same, Tryz.underlying38, Tryz.underlying43, Tryz.underlying35, Tryz.underlying24, Tryz.underlying4, Tryz.underlying3, Tryz.underlying133, Tryz.underlying61, sz52, sz58, sz45, sz3, sz125, sz123] at hz
  rw [L_loop_step] at hz
  by_cases h3 : f + s < cnt (notV p1 p2)
  · simp (disch := first | omega | assumption) only [E0_G, SY, setArgs, off, agreeKind, partVals, vals, allocV, boxed, ldA, rdCells, oneB, aggD, aField, aFieldV, aExtract, eq_self, ne_eq, if_true, if_false, not_false_eq_true, Nat.reduceAdd, Nat.reduceSub, Nat.reduceMul, Nat.reduceLT, Nat.reduceEqDiff, Nat.reduceBEq, reduceIte, Int.reduceEq, Int.reduceLT, Int.reduceLE, reduceCtorEq, aExtract, inTab125, inTab123, inTab52, inTab58, zero125, zero123, zero52, zero58, newPair, newKeys, arc00, noMark, ixA0, ixA1, ixV0, ixV1, ixK0, ixK1, w01, w12, and_fold, or_fold, not_fold, h3, vk_2, b2, k3, vk_3, vi_3, e1, e2, ws, c136, store_refl E0_same, Tryz.underlying38, Tryz.underlying43, Tryz.underlying35, Tryz.underlying24, Tryz.underlying4, Tryz.underlying3, Tryz.underlying133, Tryz.underlying61, sz52, sz58, sz45, sz3, sz125, sz123] at hz
    rw [code_draws _ _ _ (by kernel_rfl)] at hz
    generalize needy _ = nd at hz
    simp (disch := first | omega | assumption) only [E0_G, SY, setArgs, off, agreeKind, partVals, vals, allocV, boxed, ldA, rdCells, oneB, aggD, aField, aFieldV, aExtract, eq_self, ne_eq, if_true, if_false, not_false_eq_true, Nat.reduceAdd, Nat.reduceSub, Nat.reduceMul, Nat.reduceLT, Nat.reduceEqDiff, Nat.reduceBEq, reduceIte, Int.reduceEq, Int.reduceLT, Int.reduceLE, reduceCtorEq, aExtract, inTab125, inTab123, inTab52, inTab58, zero125, zero123, zero52, zero58, newPair, newKeys, arc00, noMark, ixA0, ixA1, ixV0, ixV1, ixK0, ixK1, w01, w12, and_fold, or_fold, not_fold, h3, vk_2, b2, k3, vk_3, vi_3, e1, e2, ws, c136, store_refl E0_same, Tryz.underlying38, Tryz.underlying43, Tryz.underlying35, Tryz.underlying24, Tryz.underlying4, Tryz.underlying3, Tryz.underlying133, Tryz.underlying61, sz52, sz58, sz45, sz3, sz125, sz123] at hz
    exact fin hz (boolV (decide_eq_false (by unfold ConfP; omega)).symm) g3
  · simp (disch := first | omega | assumption) only [E0_G, SY, setArgs, off, agreeKind, partVals, vals, allocV, boxed, ldA, rdCells, oneB, aggD, aField, aFieldV, aExtract, eq_self, ne_eq, if_true, if_false, not_false_eq_true, Nat.reduceAdd, Nat.reduceSub, Nat.reduceMul, Nat.reduceLT, Nat.reduceEqDiff, Nat.reduceBEq, reduceIte, Int.reduceEq, Int.reduceLT, Int.reduceLE, reduceCtorEq, aExtract, inTab125, inTab123, inTab52, inTab58, zero125, zero123, zero52, zero58, newPair, newKeys, arc00, noMark, ixA0, ixA1, ixV0, ixV1, ixK0, ixK1, w01, w12, and_fold, or_fold, not_fold, h3, vk_2, b2, k3, vk_3, vi_3, e1, e2, ws, c136, store_refl E0_same, Tryz.underlying38, Tryz.underlying43, Tryz.underlying35, Tryz.underlying24, Tryz.underlying4, Tryz.underlying3, Tryz.underlying133, Tryz.underlying61, sz52, sz58, sz45, sz3, sz125, sz123] at hz
    rw [code_draws _ _ _ (by kernel_rfl)] at hz
    generalize needy _ = nd at hz
    simp (disch := first | omega | assumption) only [E0_G, SY, setArgs, off, agreeKind, partVals, vals, allocV, boxed, ldA, rdCells, oneB, aggD, aField, aFieldV, aExtract, eq_self, ne_eq, if_true, if_false, not_false_eq_true, Nat.reduceAdd, Nat.reduceSub, Nat.reduceMul, Nat.reduceLT, Nat.reduceEqDiff, Nat.reduceBEq, reduceIte, Int.reduceEq, Int.reduceLT, Int.reduceLE, reduceCtorEq, aExtract, inTab125, inTab123, inTab52, inTab58, zero125, zero123, zero52, zero58, newPair, newKeys, arc00, noMark, ixA0, ixA1, ixV0, ixV1, ixK0, ixK1, w01, w12, and_fold, or_fold, not_fold, h3, vk_2, b2, k3, vk_3, vi_3, e1, e2, ws, c136, store_refl E0_same, Tryz.underlying38, Tryz.underlying43, Tryz.underlying35, Tryz.underlying24, Tryz.underlying4, Tryz.underlying3, Tryz.underlying133, Tryz.underlying61, sz52, sz58, sz45, sz3, sz125, sz123] at hz
    rw [L_loop_step] at hz
    by_cases h4 : f + s < cnt (notV p2 p1)
    · simp (disch := first | omega | assumption) only [E0_G, SY, setArgs, off, agreeKind, partVals, vals, allocV, boxed, ldA, rdCells, oneB, aggD, aField, aFieldV, aExtract, eq_self, ne_eq, if_true, if_false, not_false_eq_true, Nat.reduceAdd, Nat.reduceSub, Nat.reduceMul, Nat.reduceLT, Nat.reduceEqDiff, Nat.reduceBEq, reduceIte, Int.reduceEq, Int.reduceLT, Int.reduceLE, reduceCtorEq, aExtract, inTab125, inTab123, inTab52, inTab58, zero125, zero123, zero52, zero58, newPair, newKeys, arc00, noMark, ixA0, ixA1, ixV0, ixV1, ixK0, ixK1, w01, w12, and_fold, or_fold, not_fold, h4, vk_2, b2, k3, vk_3, vi_3, e1, e2, ws, c136, store_refl E0_same, Tryz.underlying38, Tryz.underlying43, Tryz.underlying35, Tryz.underlying24, Tryz.underlying4, Tryz.underlying3, Tryz.underlying133, Tryz.underlying61, sz52, sz58, sz45, sz3, sz125, sz123] at hz
      rw [code_draws _ _ _ (by kernel_rfl)] at hz
      generalize needy _ = nd at hz
      simp (disch := first | omega | assumption) only [E0_G, SY, setArgs, off, agreeKind, partVals, vals, allocV, boxed, ldA, rdCells, oneB, aggD, aField, aFieldV, aExtract, eq_self, ne_eq, if_true, if_false, not_false_eq_true, Nat.reduceAdd, Nat.reduceSub, Nat.reduceMul, Nat.reduceLT, Nat.reduceEqDiff, Nat.reduceBEq, reduceIte, Int.reduceEq, Int.reduceLT, Int.reduceLE, reduceCtorEq, aExtract, inTab125, inTab123, inTab52, inTab58, zero125, zero123, zero52, zero58, newPair, newKeys, arc00, noMark, ixA0, ixA1, ixV0, ixV1, ixK0, ixK1, w01, w12, and_fold, or_fold, not_fold, h4, vk_2, b2, k3, vk_3, vi_3, e1, e2, ws, c136, store_refl E0_same, Tryz.underlying38, Tryz.underlying43, Tryz.underlying35, Tryz.underlying24, Tryz.underlying4, Tryz.underlying3, Tryz.underlying133, Tryz.underlying61, sz52, sz58, sz45, sz3, sz125, sz123] at hz
      exact fin hz (boolV (decide_eq_false (by unfold ConfP; omega)).symm) g3
    · simp (disch := first | omega | assumption) only [E0_G, SY, setArgs, off, agreeKind, partVals, vals, allocV, boxed, ldA, rdCells, oneB, aggD, aField, aFieldV, aExtract, eq_self, ne_eq, if_true, if_false, not_false_eq_true, Nat.reduceAdd, Nat.reduceSub, Nat.reduceMul, Nat.reduceLT, Nat.reduceEqDiff, Nat.reduceBEq, reduceIte, Int.reduceEq, Int.reduceLT, Int.reduceLE, reduceCtorEq, aExtract, inTab125, inTab123, inTab52, inTab58, zero125, zero123, zero52, zero58, newPair, newKeys, arc00, noMark, ixA0, ixA1, ixV0, ixV1, ixK0, ixK1, w01, w12, and_fold, or_fold, not_fold, h4, vk_2, b2, k3, vk_3, vi_3, e1, e2, ws, c136, store_refl E0_same, Tryz.underlying38, Tryz.underlying43, Tryz.underlying35, Tryz.underlying24, Tryz.underlying4, Tryz.underlying3, Tryz.underlying133, Tryz.underlying61, sz52, sz58, sz45, sz3, sz125, sz123] at hz
      rw [code_draws _ _ _ (by kernel_rfl)] at hz
      generalize needy _ = nd at hz
      simp (disch := first | omega | assumption) only [E0_G, SY, setArgs, off, agreeKind, partVals, vals, allocV, boxed, ldA, rdCells, oneB, aggD, aField, aFieldV, aExtract, eq_self, ne_eq, if_true, if_false, not_false_eq_true, Nat.reduceAdd, Nat.reduceSub, Nat.reduceMul, Nat.reduceLT, Nat.reduceEqDiff, Nat.reduceBEq, reduceIte, Int.reduceEq, Int.reduceLT, Int.reduceLE, reduceCtorEq, aExtract, inTab125, inTab123, inTab52, inTab58, zero125, zero123, zero52, zero58, newPair, newKeys, arc00, noMark, ixA0, ixA1, ixV0, ixV1, ixK0, ixK1, w01, w12, and_fold, or_fold, not_fold, h4, vk_2, b2, k3, vk_3, vi_3, e1, e2, ws, c136, store_refl E0_same, Tryz.underlying38, Tryz.underlying43, Tryz.underlying35, Tryz.underlying24, Tryz.underlying4, Tryz.underlying3, Tryz.underlying133, Tryz.underlying61, sz52, sz58, sz45, sz3, sz125, sz123] at hz
      rw [L_loop_step] at hz
      simp (disch := first | omega | assumption) only [E0_G, SY, setArgs, off, agreeKind, partVals, vals, allocV, boxed, ldA, rdCells, oneB, aggD, aField, aFieldV, aExtract, eq_self, ne_eq, if_true, if_false, not_false_eq_true, Nat.reduceAdd, Nat.reduceSub, Nat.reduceMul, Nat.reduceLT, Nat.reduceEqDiff, Nat.reduceBEq, reduceIte, Int.reduceEq, Int.reduceLT, Int.reduceLE, reduceCtorEq, aExtract, inTab125, inTab123, inTab52, inTab58, zero125, zero123, zero52, zero58, newPair, newKeys, arc00, noMark, ixA0, ixA1, ixV0, ixV1, ixK0, ixK1, w01, w12, and_fold, or_fold, not_fold, vk_2, b2, k3, vk_3, vi_3, e1, e2, ws, c136, store_refl E0_same, Tryz.underlying38, Tryz.underlying43, Tryz.underlying35, Tryz.underlying24, Tryz.underlying4, Tryz.underlying3, Tryz.underlying133, Tryz.underlying61, sz52, sz58, sz45, sz3, sz125, sz123] at hz
      rcases deq t1 t2 with ⟨h5, h6⟩ | ⟨h5, h6⟩
      · first | rw [h5] at hz | simp only [h5] at hz
        exact fin hz (boolV (decide_eq_true (by unfold ConfP; omega)).symm) g3
      · first | rw [h5] at hz | simp only [h5] at hz
        exact fin hz (boolV (decide_eq_false (by unfold ConfP; omega)).symm) g3
end Great
end Go.Proofs
end
section
/-
  The great seat of stage 1 at c2f8ee9: Confusable, Shows, Of.
-/
set_option linter.unusedSimpArgs false
set_option linter.unusedVariables false
namespace Go.Proofs
namespace Great
open Go Go.RowKit Go.Aev
set_option maxRecDepth 100000
def Conf (i1 t1 p1 i2 t2 p2 f s l : Int) : Prop := KeyOk i1 t1 p1 ∧ KeyOk i2 t2 p2 ∧ InkOk f s l ∧ ConfP t1 p1 t2 p2 f s
instance (i1 t1 p1 i2 t2 p2 f s l : Int) : Decidable (Conf i1 t1 p1 i2 t2 p2 f s l) := by unfold Conf; infer_instance
theorem KeyOk.set {i t p : Int} (h : KeyOk i t p) : 0 ≤ p ∧ p ≤ 4095 := by unfold KeyOk at h; omega
theorem InkOk.sum {f s l : Int} (h : InkOk f s l) : IntKind.i64.wrap (f + s) = f + s := by unfold InkOk at h; rw [IntWalk.i64_in]; omega
def ShowsP (d e set f s : Int) : Prop := cnt (andV set e) ≤ f ∧ cnt (notV d set) ≤ s
instance (d e set f s : Int) : Decidable (ShowsP d e set f s) := by unfold ShowsP; infer_instance
end Great
end Go.Proofs
end
