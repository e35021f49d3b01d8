/-
  BZ: EvZ, EvZ2, EvZ3.
-/
import Derived.Test.YtgbjgljchkodjaaDoorAE4
import Derived.Test.YtgbjgljchkodjaaDoorProg
import Derived.IntWalk
section
/-
  The great seat of stage 1 at c2f8ee9: small functions by the run without a bound.
-/
set_option linter.unusedSimpArgs false
set_option linter.unusedVariables false
namespace Go.Proofs
namespace Great
open Go Go.RowKit Go.Aev
set_option maxRecDepth 100000
noncomputable def E0 : Env := symEnv 5 (orcTrue 6 (mkEnv 5 65 83 5).orc)
theorem E0_G : E0.G = 5 := rfl
theorem E0_same : ∀ S, E0.same S S = true := fun S => symEnv_same (Agree.refl S)
theorem fin {v v' : Value} {S0 S' : AS} {z : Option (Value × AS)} (hz : some (v, S') = z) (hv : v = v') (ha : Agree S0 S') : ∃ S'', z = some (v', S'') ∧ Agree S0 S'' := ⟨S', by rw [← hz, hv], ha⟩
theorem sz3 : szOf Tryd.prog 3 = some 1 := by kernel_rfl
theorem sz56 : szOf Tryd.prog 30 = some 2 := by kernel_rfl

def angle (a : Int) : Int := a % 43200
theorem angle_range (a : Int) : 0 ≤ angle a ∧ angle a < 43200 := by unfold angle; omega
theorem angle_neg {a : Int} (h : a.tmod 43200 < 0) : IntKind.i64.wrap (a.tmod 43200 + 43200) = angle a := by
  have h0 := Int.tmod_eq_emod (a := a) (b := 43200)
  unfold angle
  split at h0 <;> rw [IntWalk.i64_in] <;> omega
theorem angle_pos {a : Int} (h : ¬ a.tmod 43200 < 0) : a.tmod 43200 = angle a := by
  have h0 := Int.tmod_eq_emod (a := a) (b := 43200)
  unfold angle
  split at h0 <;> omega
theorem c76 (a : Int) (S : AS) : (evL Tryd.prog E0).call 12 #[.int .i64 a] S = some (.int .i64 (angle a), S) := by
  rw [L_call, evCall_said rfl Tryd.func12 rfl (by decide) Tryd.ntmps12 Tryd.results12]
  by_cases h : a.tmod 43200 < 0
  · simp only [E0_G, SY, setArgs, off, agreeKind, partVals, vals, allocV, boxed, ldA, rdCells, oneB, aggD, aField, aFieldV, aExtract, eq_self, ne_eq, if_true, if_false, not_false_eq_true, Nat.reduceAdd, Nat.reduceSub, Nat.reduceMul, Nat.reduceLT, Nat.reduceEqDiff, Nat.reduceBEq, reduceIte, Int.reduceEq, Int.reduceLT, Int.reduceLE, reduceCtorEq, h, angle_neg h]
  · simp only [E0_G, SY, setArgs, off, agreeKind, partVals, vals, allocV, boxed, ldA, rdCells, oneB, aggD, aField, aFieldV, aExtract, eq_self, ne_eq, if_true, if_false, not_false_eq_true, Nat.reduceAdd, Nat.reduceSub, Nat.reduceMul, Nat.reduceLT, Nat.reduceEqDiff, Nat.reduceBEq, reduceIte, Int.reduceEq, Int.reduceLT, Int.reduceLE, reduceCtorEq, h]
    simp only [angle_pos h]
theorem c30 (n lo hi : Int) (S : AS) : (evL Tryd.prog E0).call 55 #[.int .i64 n, .int .i64 lo, .int .i64 hi] S = some (.bool (decide (lo ≤ n ∧ n ≤ hi)), S) := by
  rw [L_call, evCall_said rfl Tryd.func55 rfl (by decide) Tryd.ntmps55 Tryd.results55]
  by_cases h : lo ≤ n
  · simp only [E0_G, SY, setArgs, off, agreeKind, partVals, vals, allocV, boxed, ldA, rdCells, oneB, aggD, aField, aFieldV, aExtract, eq_self, ne_eq, if_true, if_false, not_false_eq_true, Nat.reduceAdd, Nat.reduceSub, Nat.reduceMul, Nat.reduceLT, Nat.reduceEqDiff, Nat.reduceBEq, reduceIte, Int.reduceEq, Int.reduceLT, Int.reduceLE, reduceCtorEq, h, true_and]
  · simp only [E0_G, SY, setArgs, off, agreeKind, partVals, vals, allocV, boxed, ldA, rdCells, oneB, aggD, aField, aFieldV, aExtract, eq_self, ne_eq, if_true, if_false, not_false_eq_true, Nat.reduceAdd, Nat.reduceSub, Nat.reduceMul, Nat.reduceLT, Nat.reduceEqDiff, Nat.reduceBEq, reduceIte, Int.reduceEq, Int.reduceLT, Int.reduceLE, reduceCtorEq, h, false_and]
/-! ### Inks and keys -/
def InkOk (f s l : Int) : Prop := 0 ≤ f ∧ f ≤ 4 ∧ 0 ≤ s ∧ s ≤ 4 ∧ 0 ≤ l ∧ l ≤ 600
instance (f s l : Int) : Decidable (InkOk f s l) := by unfold InkOk; infer_instance
def errV (p : Prop) [Decidable p] : Int := if p then 0 else 1
theorem errV_pos {p : Prop} [Decidable p] (h : p) : errV p = 0 := if_pos h
theorem boolV {a b : Bool} (h : a = b) : Value.bool a = .bool b := by rw [h]
theorem deq (a b : Int) : (decide (a = b) = true ∧ a = b) ∨ (decide (a = b) = false ∧ ¬ a = b) := by
  by_cases h : a = b
  · exact .inl ⟨decide_eq_true h, h⟩
  · exact .inr ⟨decide_eq_false h, h⟩
def KeyOk (i t p : Int) : Prop := 1 ≤ i ∧ i ≤ 1099511627776 ∧ 0 ≤ t ∧ t < 4 ∧ 1 ≤ p ∧ p ≤ 4095
instance (f s l : Int) : Decidable (KeyOk f s l) := by unfold KeyOk; infer_instance
/-! ### How many pins -/
/-- The pin k of a set, as 0 or 1. -/
def pinV (s : Int) (k : Nat) : Int := IntKind.i64.wrap (BitVec.ofInt IntKind.i64.bits (s.fdiv (2 ^ (min ((k : Int)).toNat IntKind.i64.bits))) &&& BitVec.ofInt IntKind.i64.bits 1).toNat
def cntTo (s : Int) : Nat → Int
  | 0 => 0
  | k + 1 => cntTo s k + pinV s k
def cnt (s : Int) : Int := cntTo s 12
end Great
end Go.Proofs
end
section
/-
  The great seat of stage 1 at c2f8ee9: marks.
-/
set_option linter.unusedSimpArgs false
set_option linter.unusedVariables false
namespace Go.Proofs
namespace Great
open Go Go.RowKit Go.Aev
set_option maxRecDepth 100000
/-- The circle's variable. -/
def Tab (S : AS) : Prop := 5 ≤ S.next ∧ S.heap.get 0 = some (.cells [.int .i64 0, .int .i64 43199] 0 0 false false)
theorem Tab.agree {S S2 : AS} (h : Tab S) (k : Agree S S2) : Tab S2 := ⟨Nat.le_trans h.1 k.1, by rw [k.2 0 (by have := h.1; omega)]; exact h.2⟩
theorem kept {S S2 : AS} {b : ABlk} (h : Agree (S.push b) S2) : S2.heap.get S.next = some b := by rw [h.2 S.next (by simp [next_push])]; exact push_eq _ _ rfl
theorem eqArc (a b c d : Int) : aEqAgg Tryd.prog 30 (.agg #[.int .i64 a, .int .i64 b]) (.agg #[.int .i64 c, .int .i64 d]) = some (decide (a = c) && (decide (b = d) && true)) := by kernel_rfl
def ArcOk (x y : Int) : Prop := (x = 0 ∧ y = 43199) ∨ (0 ≤ x ∧ x < 43200 ∧ 0 ≤ y ∧ y < 43199)
instance (x y : Int) : Decidable (ArcOk x y) := by unfold ArcOk; infer_instance
theorem c116 (x y : Int) (S : AS) (ht : Tab S) : ∃ S', (evL Tryd.prog E0).call 35 #[.agg #[.int .i64 x, .int .i64 y]] S = some (.bool (decide (ArcOk x y)), S') ∧ Agree S S' := by
  obtain ⟨S1, e1, n1, b1, a1⟩ := push_open S (.cells [.int .i64 x, .int .i64 y] 30 0 true true)
  have hc := (ht.agree a1).2
  generalize hz : (evL Tryd.prog E0).call 35 _ _ = z
  rw [L_call, evCall_said rfl Tryd.func35 rfl (by decide) Tryd.ntmps35 Tryd.results35] at hz
  by_cases h0 : x = 0 ∧ y = 43199
  · obtain ⟨rfl, rfl⟩ := h0
    simp (disch := first | omega | assumption) only [E0_G, SY, setArgs, off, agreeKind, partVals, vals, allocV, boxed, ldA, rdCells, oneB, aggD, aField, aFieldV, aExtract, eq_self, ne_eq, if_true, if_false, not_false_eq_true, Nat.reduceAdd, Nat.reduceSub, Nat.reduceMul, Nat.reduceLT, Nat.reduceEqDiff, Nat.reduceBEq, reduceIte, Int.reduceEq, Int.reduceLT, Int.reduceLE, reduceCtorEq, e1, b1, hc, eqArc, Tryd.underlying30, Tryd.underlying3, sz56, sz3] at hz
    exact fin hz (boolV (decide_eq_true (.inl ⟨rfl, rfl⟩)).symm) a1
  · have h1 : (decide (x = 0) && decide (y = 43199)) = false := by
      simp only [Bool.and_eq_false_iff, decide_eq_false_iff_not]; omega
    by_cases h2 : 0 ≤ x <;> by_cases h3 : x < 43200 <;> by_cases h4 : 0 ≤ y <;> by_cases h5 : y < 43199 <;>
      first
      | (exfalso; omega)
      | (simp (disch := first | omega | assumption) only [E0_G, SY, setArgs, off, agreeKind, partVals, vals, allocV, boxed, ldA, rdCells, oneB, aggD, aField, aFieldV, aExtract, eq_self, ne_eq, if_true, if_false, not_false_eq_true, Nat.reduceAdd, Nat.reduceSub, Nat.reduceMul, Nat.reduceLT, Nat.reduceEqDiff, Nat.reduceBEq, reduceIte, Int.reduceEq, Int.reduceLT, Int.reduceLE, reduceCtorEq, e1, b1, hc, eqArc, h1, h2, h3, h4, h5, Tryd.underlying30, Tryd.underlying3, sz56, sz3] at hz
         first
         | exact fin hz (boolV (decide_eq_true (by unfold ArcOk; omega)).symm) a1
         | exact fin hz (boolV (decide_eq_false (by unfold ArcOk; omega)).symm) a1)
theorem c86 (x y : Int) (S : AS) : ∃ S', (evL Tryd.prog E0).call 38 #[.agg #[.int .i64 x, .int .i64 y]] S = some (.bool (decide (ArcOk x y)), S') ∧ Agree S S' := by
  obtain ⟨S1, e1, n1, b1, a1⟩ := push_open S (.cells [.int .i64 x, .int .i64 y] 30 0 true true)
  generalize hz : (evL Tryd.prog E0).call 38 _ _ = z
  rw [L_call, evCall_said rfl Tryd.func38 rfl (by decide) Tryd.ntmps38 Tryd.results38] at hz
  by_cases h1 : 0 ≤ x ∧ x ≤ 43199 <;> by_cases h2 : 0 ≤ y ∧ y ≤ 43199 <;> by_cases h3 : y < 43199 <;> rcases deq x 0 with ⟨h4, h5⟩ | ⟨h4, h5⟩ <;>
    first
    | (exfalso; omega)
    | (simp (disch := first | omega | assumption) only [E0_G, SY, setArgs, off, agreeKind, partVals, vals, allocV, boxed, ldA, rdCells, oneB, aggD, aField, aFieldV, aExtract, eq_self, ne_eq, if_true, if_false, not_false_eq_true, Nat.reduceAdd, Nat.reduceSub, Nat.reduceMul, Nat.reduceLT, Nat.reduceEqDiff, Nat.reduceBEq, reduceIte, Int.reduceEq, Int.reduceLT, Int.reduceLE, reduceCtorEq, e1, b1, c30, h1, h2, h3, h4, and_self, Tryd.underlying30, Tryd.underlying3, sz56, sz3] at hz
       first
       | exact fin hz (boolV (decide_eq_true (by unfold ArcOk; omega)).symm) a1
       | exact fin hz (boolV (decide_eq_false (by unfold ArcOk; omega)).symm) a1)
end Great
end Go.Proofs
end
section
/-
  The great seat of stage 1 at c2f8ee9: strikes.
-/
set_option linter.unusedSimpArgs false
set_option linter.unusedVariables false
namespace Go.Proofs
namespace Great
open Go Go.RowKit Go.Aev
set_option maxRecDepth 100000
def andV (a b : Int) : Int := IntKind.i64.wrap (BitVec.ofInt IntKind.i64.bits a &&& BitVec.ofInt IntKind.i64.bits b).toNat
def orV (a b : Int) : Int := IntKind.i64.wrap (BitVec.ofInt IntKind.i64.bits a ||| BitVec.ofInt IntKind.i64.bits b).toNat
def notV (a b : Int) : Int := IntKind.i64.wrap (BitVec.ofInt IntKind.i64.bits a &&& ~~~(BitVec.ofInt IntKind.i64.bits b)).toNat
theorem and_fold (a b : Int) : IntKind.i64.wrap (BitVec.ofInt IntKind.i64.bits a &&& BitVec.ofInt IntKind.i64.bits b).toNat = andV a b := rfl
theorem or_fold (a b : Int) : IntKind.i64.wrap (BitVec.ofInt IntKind.i64.bits a ||| BitVec.ofInt IntKind.i64.bits b).toNat = orV a b := rfl
theorem not_fold (a b : Int) : IntKind.i64.wrap (BitVec.ofInt IntKind.i64.bits a &&& ~~~(BitVec.ofInt IntKind.i64.bits b)).toNat = notV a b := rfl
def MarkOk (f l t s b : Int) : Prop := ArcOk f l ∧ 0 ≤ t ∧ t < 4 ∧ 0 ≤ s ∧ s ≤ 4095 ∧ 0 ≤ b ∧ b ≤ 4095 ∧ andV s b = 0
instance (f l t s b : Int) : Decidable (MarkOk f l t s b) := by unfold MarkOk; infer_instance
/-! ### Blows -/
def BlowOk (mi di f s l : Int) : Prop := InkOk f s l ∧ 0 ≤ mi ∧ mi ≤ 4095 ∧ 0 ≤ di ∧ di ≤ 4095
instance (mi di f s l : Int) : Decidable (BlowOk mi di f s l) := by unfold BlowOk; infer_instance
end Great
end Go.Proofs
end
