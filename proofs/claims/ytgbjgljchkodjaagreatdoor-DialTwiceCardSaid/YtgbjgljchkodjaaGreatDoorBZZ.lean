/-
  BZZ: EvZ8, EvZ9, EvZ10.
-/
import Derived.Test.YtgbjgljchkodjaaGreatDoorBZ
section
/-
  The great seat of stage 1 at c2f8ee9: sets of pins as words of twelve bits.
-/
set_option linter.unusedSimpArgs false
set_option linter.unusedVariables false
namespace Go.Proofs
namespace Great
open Go Go.RowKit Go.Aev
set_option maxRecDepth 100000
def val (u : BitVec 12) : Int := (u.toNat : Int)
theorem val_range (u : BitVec 12) : 0 ≤ val u ∧ val u ≤ 4095 := by have := u.isLt; unfold val; omega
theorem val_of {a : Int} (h0 : 0 ≤ a) (h1 : a ≤ 4095) : ∃ u, a = val u := ⟨BitVec.ofNat 12 a.toNat, by unfold val; rw [BitVec.toNat_ofNat]; omega⟩
theorem val_inj {u v : BitVec 12} (h : val u = val v) : u = v := BitVec.eq_of_toNat_eq (by unfold val at h; omega)
theorem val_word (u : BitVec 12) : BitVec.ofInt 64 (val u) = u.setWidth 64 := by
  apply BitVec.eq_of_toNat_eq
  have := u.isLt
  rw [BitVec.toNat_ofInt, BitVec.toNat_setWidth]
  unfold val
  omega
theorem wrap_val (w : BitVec 64) (u : BitVec 12) (h : w = u.setWidth 64) : IntKind.i64.wrap (w.toNat : Int) = val u := by
  subst h
  have := u.isLt
  have e : (u.setWidth 64).toNat = u.toNat := by rw [BitVec.toNat_setWidth]; omega
  rw [e, IntWalk.i64_in]
  · rfl
  · constructor <;> omega
theorem and_val (u v : BitVec 12) : andV (val u) (val v) = val (u &&& v) := by
  show IntKind.i64.wrap ((BitVec.ofInt 64 (val u) &&& BitVec.ofInt 64 (val v)).toNat : Int) = _
  rw [val_word, val_word]
  exact wrap_val _ _ BitVec.setWidth_and.symm
theorem or_val (u v : BitVec 12) : orV (val u) (val v) = val (u ||| v) := by
  show IntKind.i64.wrap ((BitVec.ofInt 64 (val u) ||| BitVec.ofInt 64 (val v)).toNat : Int) = _
  rw [val_word, val_word]
  exact wrap_val _ _ BitVec.setWidth_or.symm
theorem not_val (u v : BitVec 12) : notV (val u) (val v) = val (u &&& ~~~v) := by
  show IntKind.i64.wrap ((BitVec.ofInt 64 (val u) &&& ~~~(BitVec.ofInt 64 (val v))).toNat : Int) = _
  rw [val_word, val_word]
  refine wrap_val _ _ (BitVec.eq_of_getLsbD_eq fun i hi => ?_)
  simp only [BitVec.getLsbD_and, BitVec.getLsbD_not, BitVec.getLsbD_setWidth]
  by_cases h : i < 12
  · simp [h, hi]
  · have : u.getLsbD i = false := BitVec.getLsbD_of_ge _ _ (by omega)
    simp [this]
theorem pin_val (u : BitVec 12) (k : Nat) (hk : k < 12) : pinV (val u) k = if u.getLsbD k then 1 else 0 := by
  have hm : min ((k : Int)).toNat IntKind.i64.bits = k := by show min k 64 = k; omega
  unfold pinV
  rw [hm]
  have hd : (val u).fdiv (2 ^ k) = ((u.toNat / 2 ^ k : Nat) : Int) := by
    unfold val
    rw [Int.fdiv_eq_ediv_of_nonneg _ (by have : (0 : Int) < 2 ^ k := Int.pow_pos (by omega); omega)]
    norm_cast
  rw [hd]
  have hlt : u.toNat / 2 ^ k < 4096 := Nat.lt_of_le_of_lt (Nat.div_le_self _ _) u.isLt
  have e1 : (BitVec.ofInt IntKind.i64.bits ((u.toNat / 2 ^ k : Nat) : Int)).toNat = u.toNat / 2 ^ k := by
    generalize u.toNat / 2 ^ k = m at hlt
    show (BitVec.ofInt 64 (m : Int)).toNat = m
    rw [BitVec.toNat_ofInt]
    omega
  have e2 : (BitVec.ofInt IntKind.i64.bits ((u.toNat / 2 ^ k : Nat) : Int) &&& BitVec.ofInt IntKind.i64.bits 1).toNat = u.toNat / 2 ^ k % 2 := by
    rw [BitVec.toNat_and, e1]
    show u.toNat / 2 ^ k &&& 1 = _
    rw [Nat.and_one_is_mod]
  rw [e2]
  have e3 : u.getLsbD k = decide (u.toNat / 2 ^ k % 2 = 1) := by
    show u.toNat.testBit k = _
    rw [Nat.testBit_eq_decide_div_mod_eq]
  rw [e3]
  rcases Nat.mod_two_eq_zero_or_one (u.toNat / 2 ^ k) with h | h <;> simp [h] <;> rw [IntWalk.i64_in] <;> omega
/-- How many of the first k bits are set. -/
def cb (u : BitVec 12) : Nat → Nat
  | 0 => 0
  | k + 1 => cb u k + if u.getLsbD k then 1 else 0
theorem cntTo_val (u : BitVec 12) : ∀ k, k ≤ 12 → cntTo (val u) k = (cb u k : Int)
  | 0, _ => rfl
  | k + 1, h => by
    simp only [cntTo, cb]
    rw [cntTo_val u k (by omega), pin_val u k (by omega)]
    split <;> simp
theorem cnt_val (u : BitVec 12) : cnt (val u) = (cb u 12 : Int) := cntTo_val u 12 (Nat.le_refl _)
/-- The first n bits of a word, and how many are still wanted. -/
def fb (u : BitVec 12) (n : Nat) : Nat → BitVec 12 × Nat
  | 0 => (0#12, n)
  | k + 1 => if 0 < (fb u n k).2 ∧ u.getLsbD k = true then ((fb u n k).1 ||| BitVec.twoPow 12 k, (fb u n k).2 - 1) else fb u n k
def first (u : BitVec 12) (n : Nat) : BitVec 12 := (fb u n 12).1
end Great
end Go.Proofs
end
section
/-
  The great seat of stage 1 at c2f8ee9: keys that can be confused.
-/
set_option linter.unusedSimpArgs false
set_option linter.unusedVariables false
namespace Go.Proofs
namespace Great
open Go Go.RowKit Go.Aev
set_option maxRecDepth 100000
theorem inTab52 : inTab Tryz.prog 63 = true := by kernel_rfl
theorem zero52 : zeroOf Tryz.prog 63 = some (.agg #[.int .i64 0, .int .i64 0, .int .i64 0]) := by kernel_rfl
theorem w12 : IntKind.i64.wrap (1 + 1) = 2 := by kernel_rfl
/-- What two valid keys and a valid ink owe that a mark can be of both. -/
def ConfP (t1 p1 t2 p2 f s : Int) : Prop := cnt (notV p1 p2) ≤ f + s ∧ cnt (notV p2 p1) ≤ f + s ∧ t1 = t2
instance (t1 p1 t2 p2 f s : Int) : Decidable (ConfP t1 p1 t2 p2 f s) := by unfold ConfP; infer_instance
end Great
end Go.Proofs
end
section
/-
  The great seat of stage 1 at c2f8ee9: Confusable, Shows, Of.
-/
set_option linter.unusedSimpArgs false
set_option linter.unusedVariables false
namespace Go.Proofs
namespace Great
open Go Go.RowKit Go.Aev
set_option maxRecDepth 100000
def Conf (i1 t1 p1 i2 t2 p2 f s l : Int) : Prop := KeyOk i1 t1 p1 ∧ KeyOk i2 t2 p2 ∧ InkOk f s l ∧ ConfP t1 p1 t2 p2 f s
instance (i1 t1 p1 i2 t2 p2 f s l : Int) : Decidable (Conf i1 t1 p1 i2 t2 p2 f s l) := by unfold Conf; infer_instance
theorem KeyOk.set {i t p : Int} (h : KeyOk i t p) : 0 ≤ p ∧ p ≤ 4095 := by unfold KeyOk at h; omega
def ShowsP (d e set f s : Int) : Prop := cnt (andV set e) ≤ f ∧ cnt (notV d set) ≤ s
instance (d e set f s : Int) : Decidable (ShowsP d e set f s) := by unfold ShowsP; infer_instance
end Great
end Go.Proofs
end
