/-
  BZ: EvZ, EvZ2, EvZ3.
-/
import Derived.Test.YtgbjgljchkodjaaGreatDoorAE4
import Derived.Test.YtgbjgljchkodjaaGreatDoorProg
import Derived.IntWalk
section
/-
  The great seat of stage 1 at c2f8ee9: small functions by the run without a bound.
-/
set_option linter.unusedSimpArgs false
set_option linter.unusedVariables false
namespace Go.Proofs
namespace Great
open Go Go.RowKit Go.Aev
set_option maxRecDepth 100000
noncomputable def E0 : Env := symEnv 5 (orcTrue 11 (mkEnv 5 102 120 5).orc)
theorem E0_G : E0.G = 5 := rfl
theorem E0_same : ∀ S, E0.same S S = true := fun S => symEnv_same (Agree.refl S)
theorem fin {v v' : Value} {S0 S' : AS} {z : Option (Value × AS)} (hz : some (v, S') = z) (hv : v = v') (ha : Agree S0 S') : ∃ S'', z = some (v', S'') ∧ Agree S0 S'' := ⟨S', by rw [← hz, hv], ha⟩
theorem sz3 : szOf Tryz.prog 3 = some 1 := by kernel_rfl
theorem sz45 : szOf Tryz.prog 60 = some 3 := by kernel_rfl
theorem sz52 : szOf Tryz.prog 63 = some 3 := by kernel_rfl
theorem sz58 : szOf Tryz.prog 46 = some 5 := by kernel_rfl
theorem sz68 : szOf Tryz.prog 58 = some 3 := by kernel_rfl
theorem sz56 : szOf Tryz.prog 44 = some 2 := by kernel_rfl

def angle (a : Int) : Int := a % 43200
theorem angle_range (a : Int) : 0 ≤ angle a ∧ angle a < 43200 := by unfold angle; omega
theorem angle_neg {a : Int} (h : a.tmod 43200 < 0) : IntKind.i64.wrap (a.tmod 43200 + 43200) = angle a := by
  have h0 := Int.tmod_eq_emod (a := a) (b := 43200)
  unfold angle
  split at h0 <;> rw [IntWalk.i64_in] <;> omega
theorem angle_pos {a : Int} (h : ¬ a.tmod 43200 < 0) : a.tmod 43200 = angle a := by
  have h0 := Int.tmod_eq_emod (a := a) (b := 43200)
  unfold angle
  split at h0 <;> omega
theorem c76 (a : Int) (S : AS) : (evL Tryz.prog E0).call 35 #[.int .i64 a] S = some (.int .i64 (angle a), S) := by
  rw [L_call, evCall_said rfl Tryz.func35 rfl (by decide) Tryz.ntmps35 Tryz.results35]
  by_cases h : a.tmod 43200 < 0
  · simp only [E0_G, SY, setArgs, off, agreeKind, partVals, vals, allocV, boxed, ldA, rdCells, oneB, aggD, aField, aFieldV, aExtract, eq_self, ne_eq, if_true, if_false, not_false_eq_true, Nat.reduceAdd, Nat.reduceSub, Nat.reduceMul, Nat.reduceLT, Nat.reduceEqDiff, Nat.reduceBEq, reduceIte, Int.reduceEq, Int.reduceLT, Int.reduceLE, reduceCtorEq, h, angle_neg h]
  · simp only [E0_G, SY, setArgs, off, agreeKind, partVals, vals, allocV, boxed, ldA, rdCells, oneB, aggD, aField, aFieldV, aExtract, eq_self, ne_eq, if_true, if_false, not_false_eq_true, Nat.reduceAdd, Nat.reduceSub, Nat.reduceMul, Nat.reduceLT, Nat.reduceEqDiff, Nat.reduceBEq, reduceIte, Int.reduceEq, Int.reduceLT, Int.reduceLE, reduceCtorEq, h]
    simp only [angle_pos h]
theorem c30 (n lo hi : Int) (S : AS) : (evL Tryz.prog E0).call 26 #[.int .i64 n, .int .i64 lo, .int .i64 hi] S = some (.bool (decide (lo ≤ n ∧ n ≤ hi)), S) := by
  rw [L_call, evCall_said rfl Tryz.func26 rfl (by decide) Tryz.ntmps26 Tryz.results26]
  by_cases h : lo ≤ n
  · simp only [E0_G, SY, setArgs, off, agreeKind, partVals, vals, allocV, boxed, ldA, rdCells, oneB, aggD, aField, aFieldV, aExtract, eq_self, ne_eq, if_true, if_false, not_false_eq_true, Nat.reduceAdd, Nat.reduceSub, Nat.reduceMul, Nat.reduceLT, Nat.reduceEqDiff, Nat.reduceBEq, reduceIte, Int.reduceEq, Int.reduceLT, Int.reduceLE, reduceCtorEq, h, true_and]
  · simp only [E0_G, SY, setArgs, off, agreeKind, partVals, vals, allocV, boxed, ldA, rdCells, oneB, aggD, aField, aFieldV, aExtract, eq_self, ne_eq, if_true, if_false, not_false_eq_true, Nat.reduceAdd, Nat.reduceSub, Nat.reduceMul, Nat.reduceLT, Nat.reduceEqDiff, Nat.reduceBEq, reduceIte, Int.reduceEq, Int.reduceLT, Int.reduceLE, reduceCtorEq, h, false_and]
theorem c100 (n : Int) (S : AS) : (evL Tryz.prog E0).call 87 #[.int .i64 n] S = some (.bool (decide (0 ≤ n ∧ n < 4)), S) := by
  rw [L_call, evCall_said rfl Tryz.func87 rfl (by decide) Tryz.ntmps87 Tryz.results87]
  by_cases h : 0 ≤ n
  · simp only [E0_G, SY, setArgs, off, agreeKind, partVals, vals, allocV, boxed, ldA, rdCells, oneB, aggD, aField, aFieldV, aExtract, eq_self, ne_eq, if_true, if_false, not_false_eq_true, Nat.reduceAdd, Nat.reduceSub, Nat.reduceMul, Nat.reduceLT, Nat.reduceEqDiff, Nat.reduceBEq, reduceIte, Int.reduceEq, Int.reduceLT, Int.reduceLE, reduceCtorEq, h, true_and]
  · simp only [E0_G, SY, setArgs, off, agreeKind, partVals, vals, allocV, boxed, ldA, rdCells, oneB, aggD, aField, aFieldV, aExtract, eq_self, ne_eq, if_true, if_false, not_false_eq_true, Nat.reduceAdd, Nat.reduceSub, Nat.reduceMul, Nat.reduceLT, Nat.reduceEqDiff, Nat.reduceBEq, reduceIte, Int.reduceEq, Int.reduceLT, Int.reduceLE, reduceCtorEq, h, false_and]
theorem c101 (n : Int) (S : AS) : (evL Tryz.prog E0).call 65 #[.int .i64 n] S = some (.bool (decide (0 ≤ n ∧ n ≤ 4095)), S) := by
  rw [L_call, evCall_said rfl Tryz.func65 rfl (by decide) Tryz.ntmps65 Tryz.results65]
  by_cases h : 0 ≤ n
  · simp only [E0_G, SY, setArgs, off, agreeKind, partVals, vals, allocV, boxed, ldA, rdCells, oneB, aggD, aField, aFieldV, aExtract, eq_self, ne_eq, if_true, if_false, not_false_eq_true, Nat.reduceAdd, Nat.reduceSub, Nat.reduceMul, Nat.reduceLT, Nat.reduceEqDiff, Nat.reduceBEq, reduceIte, Int.reduceEq, Int.reduceLT, Int.reduceLE, reduceCtorEq, h, true_and]
  · simp only [E0_G, SY, setArgs, off, agreeKind, partVals, vals, allocV, boxed, ldA, rdCells, oneB, aggD, aField, aFieldV, aExtract, eq_self, ne_eq, if_true, if_false, not_false_eq_true, Nat.reduceAdd, Nat.reduceSub, Nat.reduceMul, Nat.reduceLT, Nat.reduceEqDiff, Nat.reduceBEq, reduceIte, Int.reduceEq, Int.reduceLT, Int.reduceLE, reduceCtorEq, h, false_and]
/-! ### Inks and keys -/
def InkOk (f s l : Int) : Prop := 0 ≤ f ∧ f ≤ 4 ∧ 0 ≤ s ∧ s ≤ 4 ∧ 0 ≤ l ∧ l ≤ 600
instance (f s l : Int) : Decidable (InkOk f s l) := by unfold InkOk; infer_instance
def errV (p : Prop) [Decidable p] : Int := if p then 0 else 1
theorem errV_pos {p : Prop} [Decidable p] (h : p) : errV p = 0 := if_pos h
theorem errV_neg {p : Prop} [Decidable p] (h : ¬ p) : errV p = 1 := if_neg h
theorem intV {k : IntKind} {a b : Int} (h : a = b) : Value.int k a = .int k b := by rw [h]
theorem boolV {a b : Bool} (h : a = b) : Value.bool a = .bool b := by rw [h]
theorem deq (a b : Int) : (decide (a = b) = true ∧ a = b) ∨ (decide (a = b) = false ∧ ¬ a = b) := by
  by_cases h : a = b
  · exact .inl ⟨decide_eq_true h, h⟩
  · exact .inr ⟨decide_eq_false h, h⟩
theorem c36 (f s l : Int) (S : AS) : ∃ S', (evL Tryz.prog E0).call 74 #[.agg #[.int .i64 f, .int .i64 s, .int .i64 l]] S = some (.int .i64 (errV (InkOk f s l)), S') ∧ Agree S S' := by
  obtain ⟨S1, e1, n1, b1, a1⟩ := push_open S (.cells [.int .i64 f, .int .i64 s, .int .i64 l] 60 0 true true)
  generalize hz : (evL Tryz.prog E0).call 74 _ _ = z
  rw [L_call, evCall_said rfl Tryz.func74 rfl (by decide) Tryz.ntmps74 Tryz.results74] at hz
  by_cases h1 : min (min f s) l < 0 <;> by_cases h2 : 4 < max f s <;> by_cases h3 : 600 < l <;>
    first
    | (exfalso; omega)
    | (simp (disch := first | omega | assumption) only [E0_G, SY, setArgs, off, agreeKind, partVals, vals, allocV, boxed, ldA, rdCells, oneB, aggD, aField, aFieldV, aExtract, eq_self, ne_eq, if_true, if_false, not_false_eq_true, Nat.reduceAdd, Nat.reduceSub, Nat.reduceMul, Nat.reduceLT, Nat.reduceEqDiff, Nat.reduceBEq, reduceIte, Int.reduceEq, Int.reduceLT, Int.reduceLE, reduceCtorEq, e1, b1, h1, h2, h3, Tryz.underlying60, Tryz.underlying3, sz45, sz3] at hz
       first
       | exact fin hz (intV (errV_pos (by unfold InkOk; omega)).symm) a1
       | exact fin hz (intV (errV_neg (by unfold InkOk; omega)).symm) a1)
def KeyOk (i t p : Int) : Prop := 1 ≤ i ∧ i ≤ 1099511627776 ∧ 0 ≤ t ∧ t < 4 ∧ 1 ≤ p ∧ p ≤ 4095
instance (f s l : Int) : Decidable (KeyOk f s l) := by unfold KeyOk; infer_instance
theorem c38 (i t p : Int) (S : AS) : ∃ S', (evL Tryz.prog E0).call 70 #[.agg #[.int .i64 i, .int .i64 t, .int .i64 p]] S = some (.int .i64 (errV (KeyOk i t p)), S') ∧ Agree S S' := by
  obtain ⟨S1, e1, n1, b1, a1⟩ := push_open S (.cells [.int .i64 i, .int .i64 t, .int .i64 p] 63 0 true true)
  generalize hz : (evL Tryz.prog E0).call 70 _ _ = z
  rw [L_call, evCall_said rfl Tryz.func70 rfl (by decide) Tryz.ntmps70 Tryz.results70] at hz
  by_cases h1 : i < 1 <;> by_cases h2 : 1099511627776 < i <;> by_cases h3 : 0 ≤ t ∧ t < 4 <;> by_cases h4 : 0 ≤ p ∧ p ≤ 4095 <;> rcases deq p 0 with ⟨h5, h6⟩ | ⟨h5, h6⟩ <;>
    first
    | (exfalso; omega)
    | (simp (disch := first | omega | assumption) only [E0_G, SY, setArgs, off, agreeKind, partVals, vals, allocV, boxed, ldA, rdCells, oneB, aggD, aField, aFieldV, aExtract, eq_self, ne_eq, if_true, if_false, not_false_eq_true, Nat.reduceAdd, Nat.reduceSub, Nat.reduceMul, Nat.reduceLT, Nat.reduceEqDiff, Nat.reduceBEq, reduceIte, Int.reduceEq, Int.reduceLT, Int.reduceLE, reduceCtorEq, e1, b1, c100, c101, h1, h2, h3, h4, h5, and_self, Tryz.underlying63, Tryz.underlying3, sz52, sz3] at hz
       first
       | exact fin hz (intV (errV_pos (by unfold KeyOk; omega)).symm) a1
       | exact fin hz (intV (errV_neg (by unfold KeyOk; omega)).symm) a1)
theorem c39 (i t p : Int) (S : AS) : ∃ S', (evL Tryz.prog E0).call 69 #[.agg #[.int .i64 i, .int .i64 t, .int .i64 p]] S = some (.bool (decide (KeyOk i t p)), S') ∧ Agree S S' := by
  obtain ⟨S1, e1, n1, b1, a1⟩ := push_open S (.cells [.int .i64 i, .int .i64 t, .int .i64 p] 63 0 true true)
  generalize hz : (evL Tryz.prog E0).call 69 _ _ = z
  rw [L_call, evCall_said rfl Tryz.func69 rfl (by decide) Tryz.ntmps69 Tryz.results69] at hz
  by_cases h1 : 1 ≤ i ∧ i ≤ 1099511627776 <;> by_cases h2 : 0 ≤ t ∧ t ≤ 3 <;> by_cases h3 : 1 ≤ p ∧ p ≤ 4095 <;>
    first
    | (exfalso; omega)
    | (simp (disch := first | omega | assumption) only [E0_G, SY, setArgs, off, agreeKind, partVals, vals, allocV, boxed, ldA, rdCells, oneB, aggD, aField, aFieldV, aExtract, eq_self, ne_eq, if_true, if_false, not_false_eq_true, Nat.reduceAdd, Nat.reduceSub, Nat.reduceMul, Nat.reduceLT, Nat.reduceEqDiff, Nat.reduceBEq, reduceIte, Int.reduceEq, Int.reduceLT, Int.reduceLE, reduceCtorEq, e1, b1, c30, h1, h2, h3, and_self, Tryz.underlying63, Tryz.underlying3, sz52, sz3] at hz
       first
       | exact fin hz (boolV (decide_eq_true (by unfold KeyOk; omega)).symm) a1
       | exact fin hz (boolV (decide_eq_false (by unfold KeyOk; omega)).symm) a1)

/-! ### How many pins -/
/-- The pin k of a set, as 0 or 1. -/
def pinV (s : Int) (k : Nat) : Int := IntKind.i64.wrap (BitVec.ofInt IntKind.i64.bits (s.fdiv (2 ^ (min ((k : Int)).toNat IntKind.i64.bits))) &&& BitVec.ofInt IntKind.i64.bits 1).toNat
def cntTo (s : Int) : Nat → Int
  | 0 => 0
  | k + 1 => cntTo s k + pinV s k
def cnt (s : Int) : Int := cntTo s 12
theorem pinV_01 (s : Int) (k : Nat) : pinV s k = 0 ∨ pinV s k = 1 := by
  unfold pinV
  have h : ∀ x : BitVec 64, (x &&& 1#64).toNat = 0 ∨ (x &&& 1#64).toNat = 1 := fun x => by
    rw [BitVec.toNat_and]
    have := Nat.and_two_pow_sub_one_eq_mod x.toNat 1
    simp at this ⊢
    omega
  have e : (BitVec.ofInt IntKind.i64.bits 1) = 1#64 := rfl
  rcases h (BitVec.ofInt IntKind.i64.bits (s.fdiv (2 ^ (min ((k : Int)).toNat IntKind.i64.bits)))) with h | h
  · left; rw [e]; exact (congrArg (fun n : Nat => IntKind.i64.wrap n) h).trans rfl
  · right; rw [e]; exact (congrArg (fun n : Nat => IntKind.i64.wrap n) h).trans rfl
theorem cntTo_range (s : Int) : ∀ k : Nat, 0 ≤ cntTo s k ∧ cntTo s k ≤ k
  | 0 => ⟨Int.le_refl _, Int.le_refl _⟩
  | k + 1 => by
    have := cntTo_range s k
    rcases pinV_01 s k with h | h <;> simp only [cntTo, h] <;> omega
theorem pin_fold (s : Int) (k : Nat) : IntKind.i64.wrap (BitVec.ofInt IntKind.i64.bits (s.fdiv (2 ^ (min ((k : Int)).toNat IntKind.i64.bits))) &&& BitVec.ofInt IntKind.i64.bits 1).toNat = pinV s k := rfl
theorem c135 (s : Int) (k : Nat) (S : AS) : (evL Tryz.prog E0).call 101 #[.int .i64 s, .int .i64 k] S = some (.bool (decide (pinV s k = 1)), S) := by
  have h0 : ¬ (k : Int) < 0 := by omega
  rw [L_call, evCall_said rfl Tryz.func101 rfl (by decide) Tryz.ntmps101 Tryz.results101]
  simp only [E0_G, SY, setArgs, off, agreeKind, partVals, vals, allocV, boxed, ldA, rdCells, oneB, aggD, aField, aFieldV, aExtract, eq_self, ne_eq, if_true, if_false, not_false_eq_true, Nat.reduceAdd, Nat.reduceSub, Nat.reduceMul, Nat.reduceLT, Nat.reduceEqDiff, Nat.reduceBEq, reduceIte, Int.reduceEq, Int.reduceLT, Int.reduceLE, reduceCtorEq, h0, pin_fold]
theorem c136 (s : Int) (S : AS) : (evL Tryz.prog E0).call 88 #[.int .i64 s] S = some (.int .i64 (cnt s), S) := by
  generalize hz : (evL Tryz.prog E0).call 88 _ _ = z
  rw [L_call, evCall_said rfl Tryz.func88 rfl (by decide) Tryz.ntmps88 Tryz.results88] at hz
  simp only [E0_G, SY, setArgs, off, agreeKind, partVals, vals, allocV, boxed, ldA, rdCells, oneB, aggD, aField, aFieldV, aExtract, eq_self, ne_eq, if_true, if_false, not_false_eq_true, Nat.reduceAdd, Nat.reduceSub, Nat.reduceMul, Nat.reduceLT, Nat.reduceEqDiff, Nat.reduceBEq, reduceIte, Int.reduceEq, Int.reduceLT, Int.reduceLE, reduceCtorEq, code_loop] at hz
  generalize hL : Rec.loop _ _ _ _ = L at hz
  obtain ⟨x, t', S', rfl, rfl, hq, rfl⟩ := loop_met hL (fun n t S' => ∃ k : Nat, n + k = 12 ∧ t.get 0 = some (.int .i64 s) ∧ t.get 3 = some (.int .i64 (cntTo s k)) ∧ t.get 5 = some (.int .i64 k) ∧ S' = S)
    (fun x t S' => x = .exit 0 ∧ t.get 3 = some (.int .i64 (cnt s)) ∧ S' = S) 12 ⟨0, rfl, by simp only [get_sel, Nat.reduceBEq, sel_true, sel_false], by simp only [get_sel, Nat.reduceBEq, sel_true, sel_false]; rfl, by simp only [get_sel, Nat.reduceBEq, sel_true, sel_false]; rfl, rfl⟩ (by
      rintro n t S' ⟨k, hk, g0, g3, g5, rfl⟩
      have hr := cntTo_range s k
      have hp := pinV_01 s k
      refine .run fun z he => ?_
      by_cases h : (k : Int) < 12
      · have w1 : IntKind.i64.wrap ((k : Int) + 1) = ((k + 1 : Nat) : Int) := by rw [IntWalk.i64_in] <;> omega
        have w2 : IntKind.i64.wrap (cntTo s k + 1) = cntTo s k + 1 := by rw [IntWalk.i64_in]; omega
        by_cases h1 : pinV s k = 1
        · simp only [E0_G, SY, setArgs, off, agreeKind, partVals, vals, allocV, boxed, ldA, rdCells, oneB, aggD, aField, aFieldV, aExtract, eq_self, ne_eq, if_true, if_false, not_false_eq_true, Nat.reduceAdd, Nat.reduceSub, Nat.reduceMul, Nat.reduceLT, Nat.reduceEqDiff, Nat.reduceBEq, reduceIte, Int.reduceEq, Int.reduceLT, Int.reduceLE, reduceCtorEq, g0, g3, g5, h, c135, h1, w1, w2] at he
          exact .next he (n - 1) (by omega) ⟨k + 1, by omega, by simp only [SY, setArgs, off, agreeKind, partVals, vals, allocV, boxed, ldA, rdCells, oneB, aggD, aField, aFieldV, aExtract, eq_self, ne_eq, if_true, if_false, not_false_eq_true, Nat.reduceAdd, Nat.reduceSub, Nat.reduceMul, Nat.reduceLT, Nat.reduceEqDiff, Nat.reduceBEq, reduceIte, Int.reduceEq, Int.reduceLT, Int.reduceLE, reduceCtorEq, g0], by simp only [SY, setArgs, off, agreeKind, partVals, vals, allocV, boxed, ldA, rdCells, oneB, aggD, aField, aFieldV, aExtract, eq_self, ne_eq, if_true, if_false, not_false_eq_true, Nat.reduceAdd, Nat.reduceSub, Nat.reduceMul, Nat.reduceLT, Nat.reduceEqDiff, Nat.reduceBEq, reduceIte, Int.reduceEq, Int.reduceLT, Int.reduceLE, reduceCtorEq, cntTo, h1], by simp only [SY, setArgs, off, agreeKind, partVals, vals, allocV, boxed, ldA, rdCells, oneB, aggD, aField, aFieldV, aExtract, eq_self, ne_eq, if_true, if_false, not_false_eq_true, Nat.reduceAdd, Nat.reduceSub, Nat.reduceMul, Nat.reduceLT, Nat.reduceEqDiff, Nat.reduceBEq, reduceIte, Int.reduceEq, Int.reduceLT, Int.reduceLE, reduceCtorEq], rfl⟩
        · simp only [E0_G, SY, setArgs, off, agreeKind, partVals, vals, allocV, boxed, ldA, rdCells, oneB, aggD, aField, aFieldV, aExtract, eq_self, ne_eq, if_true, if_false, not_false_eq_true, Nat.reduceAdd, Nat.reduceSub, Nat.reduceMul, Nat.reduceLT, Nat.reduceEqDiff, Nat.reduceBEq, reduceIte, Int.reduceEq, Int.reduceLT, Int.reduceLE, reduceCtorEq, g0, g3, g5, h, c135, h1, w1, w2] at he
          exact .next he (n - 1) (by omega) ⟨k + 1, by omega, by simp only [SY, setArgs, off, agreeKind, partVals, vals, allocV, boxed, ldA, rdCells, oneB, aggD, aField, aFieldV, aExtract, eq_self, ne_eq, if_true, if_false, not_false_eq_true, Nat.reduceAdd, Nat.reduceSub, Nat.reduceMul, Nat.reduceLT, Nat.reduceEqDiff, Nat.reduceBEq, reduceIte, Int.reduceEq, Int.reduceLT, Int.reduceLE, reduceCtorEq, g0], by simp only [SY, setArgs, off, agreeKind, partVals, vals, allocV, boxed, ldA, rdCells, oneB, aggD, aField, aFieldV, aExtract, eq_self, ne_eq, if_true, if_false, not_false_eq_true, Nat.reduceAdd, Nat.reduceSub, Nat.reduceMul, Nat.reduceLT, Nat.reduceEqDiff, Nat.reduceBEq, reduceIte, Int.reduceEq, Int.reduceLT, Int.reduceLE, reduceCtorEq, g3, cntTo, hp.resolve_right h1, Int.add_zero], by simp only [SY, setArgs, off, agreeKind, partVals, vals, allocV, boxed, ldA, rdCells, oneB, aggD, aField, aFieldV, aExtract, eq_self, ne_eq, if_true, if_false, not_false_eq_true, Nat.reduceAdd, Nat.reduceSub, Nat.reduceMul, Nat.reduceLT, Nat.reduceEqDiff, Nat.reduceBEq, reduceIte, Int.reduceEq, Int.reduceLT, Int.reduceLE, reduceCtorEq], rfl⟩
      · obtain rfl : k = 12 := by omega
        simp only [E0_G, SY, setArgs, off, agreeKind, partVals, vals, allocV, boxed, ldA, rdCells, oneB, aggD, aField, aFieldV, aExtract, eq_self, ne_eq, if_true, if_false, not_false_eq_true, Nat.reduceAdd, Nat.reduceSub, Nat.reduceMul, Nat.reduceLT, Nat.reduceEqDiff, Nat.reduceBEq, reduceIte, Int.reduceEq, Int.reduceLT, Int.reduceLE, reduceCtorEq, g0, g3, g5, h] at he
        exact .exit he ⟨rfl, by simp only [SY, setArgs, off, agreeKind, partVals, vals, allocV, boxed, ldA, rdCells, oneB, aggD, aField, aFieldV, aExtract, eq_self, ne_eq, if_true, if_false, not_false_eq_true, Nat.reduceAdd, Nat.reduceSub, Nat.reduceMul, Nat.reduceLT, Nat.reduceEqDiff, Nat.reduceBEq, reduceIte, Int.reduceEq, Int.reduceLT, Int.reduceLE, reduceCtorEq, g3]; rfl, rfl⟩)
  simp only [E0_G, SY, setArgs, off, agreeKind, partVals, vals, allocV, boxed, ldA, rdCells, oneB, aggD, aField, aFieldV, aExtract, eq_self, ne_eq, if_true, if_false, not_false_eq_true, Nat.reduceAdd, Nat.reduceSub, Nat.reduceMul, Nat.reduceLT, Nat.reduceEqDiff, Nat.reduceBEq, reduceIte, Int.reduceEq, Int.reduceLT, Int.reduceLE, reduceCtorEq, hq] at hz
  exact hz.symm
end Great
end Go.Proofs
end
section
/-
  The great seat of stage 1 at c2f8ee9: marks.
-/
set_option linter.unusedSimpArgs false
set_option linter.unusedVariables false
namespace Go.Proofs
namespace Great
open Go Go.RowKit Go.Aev
set_option maxRecDepth 100000
/-- The circle's variable. -/
def Tab (S : AS) : Prop := 5 ≤ S.next ∧ S.heap.get 0 = some (.cells [.int .i64 0, .int .i64 43199] 0 0 false false)
theorem Tab.agree {S S2 : AS} (h : Tab S) (k : Agree S S2) : Tab S2 := ⟨Nat.le_trans h.1 k.1, by rw [k.2 0 (by have := h.1; omega)]; exact h.2⟩
theorem kept {S S2 : AS} {b : ABlk} (h : Agree (S.push b) S2) : S2.heap.get S.next = some b := by rw [h.2 S.next (by simp [next_push])]; exact push_eq _ _ rfl
theorem eqArc (a b c d : Int) : aEqAgg Tryz.prog 44 (.agg #[.int .i64 a, .int .i64 b]) (.agg #[.int .i64 c, .int .i64 d]) = some (decide (a = c) && (decide (b = d) && true)) := by kernel_rfl
def ArcOk (x y : Int) : Prop := (x = 0 ∧ y = 43199) ∨ (0 ≤ x ∧ x < 43200 ∧ 0 ≤ y ∧ y < 43199)
instance (x y : Int) : Decidable (ArcOk x y) := by unfold ArcOk; infer_instance
theorem c116 (x y : Int) (S : AS) (ht : Tab S) : ∃ S', (evL Tryz.prog E0).call 68 #[.agg #[.int .i64 x, .int .i64 y]] S = some (.bool (decide (ArcOk x y)), S') ∧ Agree S S' := by
  obtain ⟨S1, e1, n1, b1, a1⟩ := push_open S (.cells [.int .i64 x, .int .i64 y] 44 0 true true)
  have hc := (ht.agree a1).2
  generalize hz : (evL Tryz.prog E0).call 68 _ _ = z
  rw [L_call, evCall_said rfl Tryz.func68 rfl (by decide) Tryz.ntmps68 Tryz.results68] at hz
  by_cases h0 : x = 0 ∧ y = 43199
  · obtain ⟨rfl, rfl⟩ := h0
    simp (disch := first | omega | assumption) only [E0_G, SY, setArgs, off, agreeKind, partVals, vals, allocV, boxed, ldA, rdCells, oneB, aggD, aField, aFieldV, aExtract, eq_self, ne_eq, if_true, if_false, not_false_eq_true, Nat.reduceAdd, Nat.reduceSub, Nat.reduceMul, Nat.reduceLT, Nat.reduceEqDiff, Nat.reduceBEq, reduceIte, Int.reduceEq, Int.reduceLT, Int.reduceLE, reduceCtorEq, e1, b1, hc, eqArc, Tryz.underlying44, Tryz.underlying3, sz56, sz3] at hz
    exact fin hz (boolV (decide_eq_true (.inl ⟨rfl, rfl⟩)).symm) a1
  · have h1 : (decide (x = 0) && decide (y = 43199)) = false := by
      simp only [Bool.and_eq_false_iff, decide_eq_false_iff_not]; omega
    by_cases h2 : 0 ≤ x <;> by_cases h3 : x < 43200 <;> by_cases h4 : 0 ≤ y <;> by_cases h5 : y < 43199 <;>
      first
      | (exfalso; omega)
      | (simp (disch := first | omega | assumption) only [E0_G, SY, setArgs, off, agreeKind, partVals, vals, allocV, boxed, ldA, rdCells, oneB, aggD, aField, aFieldV, aExtract, eq_self, ne_eq, if_true, if_false, not_false_eq_true, Nat.reduceAdd, Nat.reduceSub, Nat.reduceMul, Nat.reduceLT, Nat.reduceEqDiff, Nat.reduceBEq, reduceIte, Int.reduceEq, Int.reduceLT, Int.reduceLE, reduceCtorEq, e1, b1, hc, eqArc, h1, h2, h3, h4, h5, Tryz.underlying44, Tryz.underlying3, sz56, sz3] at hz
         first
         | exact fin hz (boolV (decide_eq_true (by unfold ArcOk; omega)).symm) a1
         | exact fin hz (boolV (decide_eq_false (by unfold ArcOk; omega)).symm) a1)
end Great
end Go.Proofs
end
section
/-
  The great seat of stage 1 at c2f8ee9: strikes.
-/
set_option linter.unusedSimpArgs false
set_option linter.unusedVariables false
namespace Go.Proofs
namespace Great
open Go Go.RowKit Go.Aev
set_option maxRecDepth 100000
def andV (a b : Int) : Int := IntKind.i64.wrap (BitVec.ofInt IntKind.i64.bits a &&& BitVec.ofInt IntKind.i64.bits b).toNat
def orV (a b : Int) : Int := IntKind.i64.wrap (BitVec.ofInt IntKind.i64.bits a ||| BitVec.ofInt IntKind.i64.bits b).toNat
def notV (a b : Int) : Int := IntKind.i64.wrap (BitVec.ofInt IntKind.i64.bits a &&& ~~~(BitVec.ofInt IntKind.i64.bits b)).toNat
theorem and_fold (a b : Int) : IntKind.i64.wrap (BitVec.ofInt IntKind.i64.bits a &&& BitVec.ofInt IntKind.i64.bits b).toNat = andV a b := rfl
theorem or_fold (a b : Int) : IntKind.i64.wrap (BitVec.ofInt IntKind.i64.bits a ||| BitVec.ofInt IntKind.i64.bits b).toNat = orV a b := rfl
theorem not_fold (a b : Int) : IntKind.i64.wrap (BitVec.ofInt IntKind.i64.bits a &&& ~~~(BitVec.ofInt IntKind.i64.bits b)).toNat = notV a b := rfl
theorem inTab58 : inTab Tryz.prog 46 = true := by kernel_rfl
theorem zero58 : zeroOf Tryz.prog 46 = some (.agg #[.int .i64 0, .int .i64 0, .int .i64 0, .int .i64 0, .int .i64 0]) := by kernel_rfl
theorem newArc (a b : Int) : aBuild Tryz.prog 44 [(0, .int .i64 a), (1, .int .i64 b)] = some (.agg #[.int .i64 a, .int .i64 b]) := by kernel_rfl
theorem newMark (a b c d e : Int) : aBuild Tryz.prog 46 [(0, .agg #[.int .i64 a, .int .i64 b]), (1, .int .i64 c), (2, .int .i64 d), (3, .int .i64 e)] = some (.agg #[.int .i64 a, .int .i64 b, .int .i64 c, .int .i64 d, .int .i64 e]) := by kernel_rfl
theorem noMark : aBuild Tryz.prog 46 [] = some (.agg #[.int .i64 0, .int .i64 0, .int .i64 0, .int .i64 0, .int .i64 0]) := by kernel_rfl
def MarkOk (f l t s b : Int) : Prop := ArcOk f l ∧ 0 ≤ t ∧ t < 4 ∧ 0 ≤ s ∧ s ≤ 4095 ∧ 0 ≤ b ∧ b ≤ 4095 ∧ andV s b = 0
instance (f l t s b : Int) : Decidable (MarkOk f l t s b) := by unfold MarkOk; infer_instance
theorem c54 (f l t s b : Int) (S : AS) (ht : Tab S) : ∃ S', (evL Tryz.prog E0).call 64 #[.agg #[.int .i64 f, .int .i64 l, .int .i64 t, .int .i64 s, .int .i64 b]] S = some (.int .i64 (errV (MarkOk f l t s b)), S') ∧ Agree S S' := by
  obtain ⟨S1, e1, n1, b1, a1⟩ := push_open S (.cells [.int .i64 f, .int .i64 l, .int .i64 t, .int .i64 s, .int .i64 b] 46 0 true true)
  obtain ⟨S2, k2, a2⟩ := c116 f l S1 (ht.agree a1)
  have b2 := (a2.2 S.next (by omega)).trans b1
  generalize hz : (evL Tryz.prog E0).call 64 _ _ = z
  rw [L_call, evCall_said rfl Tryz.func64 rfl (by decide) Tryz.ntmps64 Tryz.results64] at hz
  by_cases h1 : ArcOk f l <;> by_cases h2 : 0 ≤ t ∧ t < 4 <;> by_cases h3 : 0 ≤ s ∧ s ≤ 4095 <;> by_cases h4 : 0 ≤ b ∧ b ≤ 4095 <;> rcases deq (andV s b) 0 with ⟨h5, h6⟩ | ⟨h5, h6⟩ <;>
    first
    | (simp (disch := first | omega | assumption) only [E0_G, SY, setArgs, off, agreeKind, partVals, vals, allocV, boxed, ldA, rdCells, oneB, aggD, aField, aFieldV, aExtract, eq_self, ne_eq, if_true, if_false, not_false_eq_true, Nat.reduceAdd, Nat.reduceSub, Nat.reduceMul, Nat.reduceLT, Nat.reduceEqDiff, Nat.reduceBEq, reduceIte, Int.reduceEq, Int.reduceLT, Int.reduceLE, reduceCtorEq, e1, b1, k2, b2, c100, c101, and_fold, h1, h2, h3, h4, h5, and_self, Tryz.underlying46, Tryz.underlying44, Tryz.underlying3, sz58, sz56, sz3] at hz
       first
       | exact fin hz (intV (errV_pos ⟨h1, h2.1, h2.2, h3.1, h3.2, h4.1, h4.2, h6⟩).symm) (a1.trans a2)
       | exact fin hz (intV (errV_neg (fun hh => by unfold MarkOk at hh; obtain ⟨g1, g2, g3, g4, g5, g6, g7, g8⟩ := hh; first | exact h1 g1 | exact h2 ⟨g2, g3⟩ | exact h3 ⟨g4, g5⟩ | exact h4 ⟨g6, g7⟩ | exact h6 g8)).symm) (a1.trans a2))
/-! ### Blows -/
def BlowOk (mi di f s l : Int) : Prop := InkOk f s l ∧ 0 ≤ mi ∧ mi ≤ 4095 ∧ 0 ≤ di ∧ di ≤ 4095
instance (mi di f s l : Int) : Decidable (BlowOk mi di f s l) := by unfold BlowOk; infer_instance
theorem c112 (mi di sh f s l : Int) (S : AS) : ∃ S', (evL Tryz.prog E0).call 71 #[.agg #[.int .i64 mi, .int .i64 di, .int .i64 sh], .agg #[.int .i64 f, .int .i64 s, .int .i64 l]] S = some (.int .i64 (errV (BlowOk mi di f s l)), S') ∧ Agree S S' := by
  obtain ⟨S1, e1, n1, b1, a1⟩ := push_open S (.cells [.int .i64 mi, .int .i64 di, .int .i64 sh] 58 0 true true)
  obtain ⟨S2, e2, n2, b2, a2⟩ := push_open S1 (.cells [.int .i64 f, .int .i64 s, .int .i64 l] 60 0 true true)
  obtain ⟨S3, k3, a3⟩ := c36 f s l S2
  have x2 := (a2.2 S.next (by omega)).trans b1
  have x3 := (a3.2 S.next (by omega)).trans x2
  generalize hz : (evL Tryz.prog E0).call 71 _ _ = z
  rw [L_call, evCall_said rfl Tryz.func71 rfl (by decide) Tryz.ntmps71 Tryz.results71] at hz
  by_cases h1 : InkOk f s l
  · rw [errV_pos h1] at k3
    by_cases h2 : 0 ≤ mi ∧ mi ≤ 4095 <;> by_cases h3 : 0 ≤ di ∧ di ≤ 4095 <;>
      first
      | (simp (disch := first | omega | assumption) only [E0_G, SY, setArgs, off, agreeKind, partVals, vals, allocV, boxed, ldA, rdCells, oneB, aggD, aField, aFieldV, aExtract, eq_self, ne_eq, if_true, if_false, not_false_eq_true, Nat.reduceAdd, Nat.reduceSub, Nat.reduceMul, Nat.reduceLT, Nat.reduceEqDiff, Nat.reduceBEq, reduceIte, Int.reduceEq, Int.reduceLT, Int.reduceLE, reduceCtorEq, e1, b1, e2, b2, x2, x3, k3, c101, h2, h3, and_self, Tryz.underlying58, Tryz.underlying60, Tryz.underlying3, sz68, sz45, sz3] at hz
         first
         | exact fin hz (intV (errV_pos ⟨h1, h2.1, h2.2, h3.1, h3.2⟩).symm) ((a1.trans a2).trans a3)
         | exact fin hz (intV (errV_neg (fun hh => by obtain ⟨g1, g2, g3, g4, g5⟩ := hh; first | exact h2 ⟨g2, g3⟩ | exact h3 ⟨g4, g5⟩)).symm) ((a1.trans a2).trans a3))
  · rw [errV_neg h1] at k3
    simp (disch := first | omega | assumption) only [E0_G, SY, setArgs, off, agreeKind, partVals, vals, allocV, boxed, ldA, rdCells, oneB, aggD, aField, aFieldV, aExtract, eq_self, ne_eq, if_true, if_false, not_false_eq_true, Nat.reduceAdd, Nat.reduceSub, Nat.reduceMul, Nat.reduceLT, Nat.reduceEqDiff, Nat.reduceBEq, reduceIte, Int.reduceEq, Int.reduceLT, Int.reduceLE, reduceCtorEq, e1, b1, e2, b2, x2, x3, k3, Tryz.underlying58, Tryz.underlying60, Tryz.underlying3, sz68, sz45, sz3] at hz
    exact fin hz (intV (errV_neg (fun hh => h1 hh.1)).symm) ((a1.trans a2).trans a3)

theorem c104 (a b tr s : Int) (S : AS) : ∃ S', (evL Tryz.prog E0).call 89 #[.agg #[.int .i64 a, .int .i64 b], .int .i64 tr, .int .i64 s] S = some (.agg #[.int .i64 a, .int .i64 b, .int .i64 tr, .int .i64 s, .int .i64 (notV 4095 s)], S') ∧ Agree S S' := by
  obtain ⟨S1, e1, n1, b1, a1⟩ := push_open S (.cells [.int .i64 a, .int .i64 b] 44 0 true true)
  obtain ⟨S2, e2, n2, b2, a2⟩ := push_open S1 (.cells [.int .i64 0, .int .i64 0, .int .i64 0, .int .i64 0, .int .i64 0] 46 0 true true)
  have x2 := (a2.2 S.next (by omega)).trans b1
  obtain ⟨S3, k3, n3, b3, o3⟩ := st_open (vs := [.int .i64 a, .int .i64 b, .int .i64 tr, .int .i64 s, .int .i64 (notV 4095 s)]) sz58 b2 rfl rfl rfl
  have ag : Agree S S3 := ⟨by omega, fun id hid => (o3 id (by omega)).trans ((a1.trans a2).2 id hid)⟩
  generalize hz : (evL Tryz.prog E0).call 89 _ _ = z
  rw [L_call, evCall_said rfl Tryz.func89 rfl (by decide) Tryz.ntmps89 Tryz.results89] at hz
  simp (disch := first | omega | assumption) only [E0_G, SY, setArgs, off, agreeKind, partVals, vals, allocV, boxed, ldA, rdCells, oneB, aggD, aField, aFieldV, aExtract, eq_self, ne_eq, if_true, if_false, not_false_eq_true, Nat.reduceAdd, Nat.reduceSub, Nat.reduceMul, Nat.reduceLT, Nat.reduceEqDiff, Nat.reduceBEq, reduceIte, Int.reduceEq, Int.reduceLT, Int.reduceLE, reduceCtorEq, e1, b1, e2, b2, x2, k3, b3, newMark, not_fold, inTab58, zero58, Tryz.underlying46, Tryz.underlying44, Tryz.underlying3, sz58, sz56, sz3] at hz
  exact fin hz rfl ag
end Great
end Go.Proofs
end
