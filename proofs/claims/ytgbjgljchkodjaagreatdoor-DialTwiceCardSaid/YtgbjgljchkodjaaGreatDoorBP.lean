/-
  BP: EvP, EvP2, EvP3, EvP4.
-/
import Derived.Test.YtgbjgljchkodjaaGreatDoorBK
section
/-
  The great seat of stage 1 at c2f8ee9: bunches.
-/
set_option linter.unusedSimpArgs false
set_option linter.unusedVariables false
namespace Go.Proofs
namespace Great
open Go Go.RowKit Go.Aev
set_option maxRecDepth 100000
def exG (ks : List K) (e : Nat → Int) : Int × Int := if 40 < (ks.length : Int) then (2, -1) else exFrom e ks.length 0
set_option maxHeartbeats 2000000 in
/-- 'examine', whatever function it is given. -/
theorem c95g (ks : List K) (hn : ks.length ≤ 1000) (e : Nat → Int) (g : FuncId) (ds : Array Value) (S : AS) (v : Value) (hv : Keys S v ks)
    (hcl : ∀ (i : Nat) (x : K), ks[i]? = some x → (∀ j, j < i → e j = 0) → ∀ S', Agree S S' → ∃ S'', (evL Tryz.prog E0).call g (#[.int .i64 (i : Int), .agg #[.int .i64 x.i, .int .i64 x.t, .int .i64 x.p]] ++ ds) S' = some (.int .i64 (e i), S'') ∧ Agree S' S'') :
    ∃ S', (evL Tryz.prog E0).call 90 #[v, .int .i64 40, .func (.func g) #[] ds] S = some (.tuple #[.int .i64 (exG ks e).1, .int .i64 (exG ks e).2], S') ∧ Agree S S' := by
  have hlen := keys_len hv
  generalize hz : (evL Tryz.prog E0).call 90 _ _ = z
  rw [L_call, evCall_said rfl Tryz.func90 rfl (by decide) Tryz.ntmps90 Tryz.results90] at hz
  by_cases h40 : 40 < (ks.length : Int)
  · have hE : exG ks e = (2, -1) := if_pos h40
    simp only [E0_G, SY, setArgs, off, agreeKind, partVals, vals, allocV, boxed, ldA, rdCells, oneB, aggD, aField, aFieldV, aExtract, eq_self, ne_eq, if_true, if_false, not_false_eq_true, Nat.reduceAdd, Nat.reduceSub, Nat.reduceMul, Nat.reduceLT, Nat.reduceEqDiff, Nat.reduceBEq, reduceIte, Int.reduceEq, Int.reduceLT, Int.reduceLE, reduceCtorEq, op_len, hlen, h40] at hz
    exact fin hz (by rw [hE]) (Agree.refl S)
  have hE : exG ks e = exFrom e ks.length 0 := if_neg h40
  rw [hE]
  simp only [E0_G, SY, setArgs, off, agreeKind, partVals, vals, allocV, boxed, ldA, rdCells, oneB, aggD, aField, aFieldV, aExtract, eq_self, ne_eq, if_true, if_false, not_false_eq_true, Nat.reduceAdd, Nat.reduceSub, Nat.reduceMul, Nat.reduceLT, Nat.reduceEqDiff, Nat.reduceBEq, reduceIte, Int.reduceEq, Int.reduceLT, Int.reduceLE, reduceCtorEq, op_len, hlen, h40, code_loop] at hz
  generalize hL : Rec.loop _ _ _ _ = L at hz
  obtain ⟨x, t', S', rfl, ha, hx⟩ := loop_met hL (fun m t S' => ∃ j : Nat, m + j = ks.length ∧ t.get 15 = some v ∧ t.get 2 = some (.func (.func g) #[] ds) ∧ t.get 16 = some (.int .i64 (ks.length : Int)) ∧ t.get 17 = some (.int .i64 (j : Int)) ∧ Agree S S' ∧ (∀ i, i < j → e i = 0) ∧ exFrom e m j = exFrom e ks.length 0)
    (fun x t S' => Agree S S' ∧ ((x = .exit 0 ∧ exFrom e ks.length 0 = (0, -1)) ∨ (x = .ret ∧ t.get 6 = some (.int .i64 (exFrom e ks.length 0).1) ∧ t.get 7 = some (.int .i64 (exFrom e ks.length 0).2)))) ks.length ⟨0, rfl, by simp only [get_sel, Nat.reduceBEq, sel_true, sel_false], by simp only [get_sel, Nat.reduceBEq, sel_true, sel_false], by simp only [get_sel, Nat.reduceBEq, sel_true, sel_false], by simp only [get_sel, Nat.reduceBEq, sel_true, sel_false]; rfl, Agree.refl S, fun i hi => absurd hi (Nat.not_lt_zero i), rfl⟩ (by
      rintro m t S' ⟨j, hj, g15, g2, g16, g17, ha, hb, hd⟩
      refine .run fun z he => ?_
      by_cases h : (j : Int) < (ks.length : Int)
      · have w1 : IntKind.i64.wrap ((j : Int) + 1) = ((j + 1 : Nat) : Int) := by rw [IntWalk.i64_in] <;> omega
        have hjl : j < ks.length := by omega
        have hx : ks[j]? = some ks[j] := List.getElem?_eq_getElem hjl
        generalize ks[j] = x at hx
        obtain ⟨id, o, c, ty, wr, ex, i1, i2, i3, i4, i5, i6⟩ := keys_at (hv.agree ha) hx
        have lnx := ha.1
        obtain ⟨S1, e1, n1, b1, a1⟩ := push_open S' (.cells [.int .i64 0, .int .i64 0, .int .i64 0] 63 0 true true)
        obtain ⟨S2, k2, n2, b2, o2⟩ := st_open (vs := [.int .i64 x.i, .int .i64 x.t, .int .i64 x.p]) sz52 b1 rfl rfl rfl
        have a2 : Agree S S2 := ⟨by omega, fun q hq => (o2 q (by omega)).trans ((a1.2 q (by omega)).trans (ha.2 q hq))⟩
        obtain ⟨S3, k3, a3⟩ := hcl j x hx hb S2 a2
        obtain ⟨m, rfl⟩ : ∃ m', m = m' + 1 := ⟨m - 1, by omega⟩
        rw [exFrom_step] at hd
        rcases deq (e j) 0 with ⟨h1, h2⟩ | ⟨h1, h2⟩
        · rw [if_pos h2] at hd
          simp (disch := first | omega | assumption) only [E0_G, SY, setArgs, off, agreeKind, partVals, vals, allocV, boxed, ldA, rdCells, oneB, aggD, aField, aFieldV, aExtract, eq_self, ne_eq, if_true, if_false, not_false_eq_true, Nat.reduceAdd, Nat.reduceSub, Nat.reduceMul, Nat.reduceLT, Nat.reduceEqDiff, Nat.reduceBEq, reduceIte, Int.reduceEq, Int.reduceLT, Int.reduceLE, reduceCtorEq, op_callV, calledV_some, Array.empty_append, g15, g2, g16, g17, h, i1, i2, i4, i5, i6, inTab52, zero52, e1, b1, k2, b2, k3, h1, w1, und43, Tryz.underlying63, Tryz.underlying25, Tryz.underlying3, sz52, sz3] at he
          exact .next he m (by omega) ⟨j + 1, by omega, by simp only [SY, setArgs, off, agreeKind, partVals, vals, allocV, boxed, ldA, rdCells, oneB, aggD, aField, aFieldV, aExtract, eq_self, ne_eq, if_true, if_false, not_false_eq_true, Nat.reduceAdd, Nat.reduceSub, Nat.reduceMul, Nat.reduceLT, Nat.reduceEqDiff, Nat.reduceBEq, reduceIte, Int.reduceEq, Int.reduceLT, Int.reduceLE, reduceCtorEq, g15], by simp only [SY, setArgs, off, agreeKind, partVals, vals, allocV, boxed, ldA, rdCells, oneB, aggD, aField, aFieldV, aExtract, eq_self, ne_eq, if_true, if_false, not_false_eq_true, Nat.reduceAdd, Nat.reduceSub, Nat.reduceMul, Nat.reduceLT, Nat.reduceEqDiff, Nat.reduceBEq, reduceIte, Int.reduceEq, Int.reduceLT, Int.reduceLE, reduceCtorEq, g2], by simp only [SY, setArgs, off, agreeKind, partVals, vals, allocV, boxed, ldA, rdCells, oneB, aggD, aField, aFieldV, aExtract, eq_self, ne_eq, if_true, if_false, not_false_eq_true, Nat.reduceAdd, Nat.reduceSub, Nat.reduceMul, Nat.reduceLT, Nat.reduceEqDiff, Nat.reduceBEq, reduceIte, Int.reduceEq, Int.reduceLT, Int.reduceLE, reduceCtorEq, g16], by simp only [SY, setArgs, off, agreeKind, partVals, vals, allocV, boxed, ldA, rdCells, oneB, aggD, aField, aFieldV, aExtract, eq_self, ne_eq, if_true, if_false, not_false_eq_true, Nat.reduceAdd, Nat.reduceSub, Nat.reduceMul, Nat.reduceLT, Nat.reduceEqDiff, Nat.reduceBEq, reduceIte, Int.reduceEq, Int.reduceLT, Int.reduceLE, reduceCtorEq], a2.trans a3, fun i hi => by
            rcases Nat.lt_succ_iff_lt_or_eq.1 hi with h | rfl
            · exact hb i h
            · exact h2, hd⟩
        · rw [if_neg h2] at hd
          simp (disch := first | omega | assumption) only [E0_G, SY, setArgs, off, agreeKind, partVals, vals, allocV, boxed, ldA, rdCells, oneB, aggD, aField, aFieldV, aExtract, eq_self, ne_eq, if_true, if_false, not_false_eq_true, Nat.reduceAdd, Nat.reduceSub, Nat.reduceMul, Nat.reduceLT, Nat.reduceEqDiff, Nat.reduceBEq, reduceIte, Int.reduceEq, Int.reduceLT, Int.reduceLE, reduceCtorEq, op_callV, calledV_some, Array.empty_append, g15, g2, g16, g17, h, i1, i2, i4, i5, i6, inTab52, zero52, e1, b1, k2, b2, k3, h1, w1, und43, Tryz.underlying63, Tryz.underlying25, Tryz.underlying3, sz52, sz3] at he
          exact .ret he ⟨a2.trans a3, .inr ⟨rfl, by simp only [SY, setArgs, off, agreeKind, partVals, vals, allocV, boxed, ldA, rdCells, oneB, aggD, aField, aFieldV, aExtract, eq_self, ne_eq, if_true, if_false, not_false_eq_true, Nat.reduceAdd, Nat.reduceSub, Nat.reduceMul, Nat.reduceLT, Nat.reduceEqDiff, Nat.reduceBEq, reduceIte, Int.reduceEq, Int.reduceLT, Int.reduceLE, reduceCtorEq, ← hd], by simp only [SY, setArgs, off, agreeKind, partVals, vals, allocV, boxed, ldA, rdCells, oneB, aggD, aField, aFieldV, aExtract, eq_self, ne_eq, if_true, if_false, not_false_eq_true, Nat.reduceAdd, Nat.reduceSub, Nat.reduceMul, Nat.reduceLT, Nat.reduceEqDiff, Nat.reduceBEq, reduceIte, Int.reduceEq, Int.reduceLT, Int.reduceLE, reduceCtorEq, ← hd]⟩⟩
      · obtain rfl : m = 0 := by omega
        simp only [E0_G, SY, setArgs, off, agreeKind, partVals, vals, allocV, boxed, ldA, rdCells, oneB, aggD, aField, aFieldV, aExtract, eq_self, ne_eq, if_true, if_false, not_false_eq_true, Nat.reduceAdd, Nat.reduceSub, Nat.reduceMul, Nat.reduceLT, Nat.reduceEqDiff, Nat.reduceBEq, reduceIte, Int.reduceEq, Int.reduceLT, Int.reduceLE, reduceCtorEq, g15, g2, g16, g17, h] at he
        exact .exit he ⟨ha, .inl ⟨rfl, hd.symm⟩⟩)
  rcases hx with ⟨rfl, hx⟩ | ⟨rfl, hx, hx2⟩
  · simp only [E0_G, SY, setArgs, off, agreeKind, partVals, vals, allocV, boxed, ldA, rdCells, oneB, aggD, aField, aFieldV, aExtract, eq_self, ne_eq, if_true, if_false, not_false_eq_true, Nat.reduceAdd, Nat.reduceSub, Nat.reduceMul, Nat.reduceLT, Nat.reduceEqDiff, Nat.reduceBEq, reduceIte, Int.reduceEq, Int.reduceLT, Int.reduceLE, reduceCtorEq, hx] at hz
    exact fin hz (by rw [hx]) ha
  · simp only [E0_G, SY, setArgs, off, agreeKind, partVals, vals, allocV, boxed, ldA, rdCells, oneB, aggD, aField, aFieldV, aExtract, eq_self, ne_eq, if_true, if_false, not_false_eq_true, Nat.reduceAdd, Nat.reduceSub, Nat.reduceMul, Nat.reduceLT, Nat.reduceEqDiff, Nat.reduceBEq, reduceIte, Int.reduceEq, Int.reduceLT, Int.reduceLE, reduceCtorEq, hx, hx2] at hz
    exact fin hz rfl ha
theorem c137 (ks : List K) (i : Nat) (x : K) (hx : ks[i]? = some x) (hn : ks.length ≤ 1000) (S : AS) (v : Value) (hv : Keys S v ks) (px : Nat) (gx : S.heap.get px = some (.cells [v] 56 0 true true)) (lx : px < S.next) :
    ∃ S', (evL Tryz.prog E0).call 91 #[.int .i64 (i : Int), .agg #[.int .i64 x.i, .int .i64 x.t, .int .i64 x.p], .pointer (some ⟨px, 0, none⟩)] S = some (.int .i64 (placeE ks i), S') ∧ Agree S S' := by
  have hi := (List.getElem?_eq_some_iff.1 hx).1
  obtain ⟨hc1, hc2⟩ := keys_one hv
  obtain ⟨S1, e1, n1, b1, a1⟩ := push_open S (.cells [.int .i64 x.i, .int .i64 x.t, .int .i64 x.p] 63 0 true true)
  obtain ⟨S2, k2, a2⟩ := c97 ks i hi hn S1 v (hv.agree a1)
  have gx1 := (a1.2 px lx).trans gx
  generalize hz : (evL Tryz.prog E0).call 91 _ _ = z
  rw [L_call, evCall_said rfl Tryz.func91 rfl (by decide) Tryz.ntmps91 Tryz.results91] at hz
  simp (disch := first | omega | assumption) only [E0_G, SY, setArgs, off, agreeKind, partVals, vals, allocV, boxed, ldA, rdCells, oneB, aggD, aField, aFieldV, aExtract, eq_self, ne_eq, if_true, if_false, not_false_eq_true, Nat.reduceAdd, Nat.reduceSub, Nat.reduceMul, Nat.reduceLT, Nat.reduceEqDiff, Nat.reduceBEq, reduceIte, Int.reduceEq, Int.reduceLT, Int.reduceLE, reduceCtorEq, e1, gx1, hc1, k2, und43, Tryz.underlying63, Tryz.underlying3, Tryz.underlying25, sz52, sz3] at hz
  exact fin hz rfl (a1.trans a2)
/-- Keys are a bunch. -/
def bunch (ks : List K) : Bool := decide ((exG ks (placeE ks)).1 = 0)
theorem c109 (ks : List K) (hn : ks.length ≤ 1000) (S : AS) (v : Value) (hv : Keys S v ks) : ∃ S', (evL Tryz.prog E0).call 73 #[v] S = some (.bool (bunch ks), S') ∧ Agree S S' := by
  obtain ⟨hc1, hc2⟩ := keys_one hv
  obtain ⟨S1, e1, n1, b1, a1⟩ := push_open S (.cells [v] 56 0 true true)
  obtain ⟨S2, k2, a2⟩ := c95g ks hn (placeE ks) 91 #[.pointer (some ⟨S.next, 0, none⟩)] S1 v (hv.agree a1) (fun i x hx _ S' ha => c137 ks i x hx hn S' v (hv.agree (a1.trans ha)) S.next ((ha.2 S.next (by omega)).trans b1) (by have := ha.1; omega))
  generalize hz : (evL Tryz.prog E0).call 73 _ _ = z
  rw [L_call, evCall_said rfl Tryz.func73 rfl (by decide) Tryz.ntmps73 Tryz.results73] at hz
  rcases deq (exG ks (placeE ks)).1 0 with ⟨h1, h2⟩ | ⟨h1, h2⟩ <;>
  · simp (disch := first | omega | assumption) only [E0_G, SY, setArgs, off, agreeKind, partVals, vals, allocV, boxed, ldA, rdCells, oneB, aggD, aField, aFieldV, aExtract, eq_self, ne_eq, if_true, if_false, not_false_eq_true, Nat.reduceAdd, Nat.reduceSub, Nat.reduceMul, Nat.reduceLT, Nat.reduceEqDiff, Nat.reduceBEq, reduceIte, Int.reduceEq, Int.reduceLT, Int.reduceLE, reduceCtorEq, e1, b1, hc1, k2, h1, aExtract, op_makeFunc, Op.operands, List.map_toArray, List.append_toArray, List.append_nil, List.nil_append, Option.getD_some, und43, Tryz.underlying25] at hz
    exact fin hz (boolV (by unfold bunch; rw [h1])) (a1.trans a2)
end Great
end Go.Proofs
end
section
/-
  The great seat of stage 1 at c2f8ee9: the reference's bunches, and rivals.
-/
set_option linter.unusedSimpArgs false
set_option linter.unusedVariables false
namespace Go.Proofs
namespace Great
open Go Go.RowKit Go.Aev
set_option maxRecDepth 100000
theorem bunch_len {ks : List K} (h : 40 < (ks.length : Int)) : bunch ks = false := by unfold bunch exG; rw [if_pos h]; rfl
theorem bunch_run {ks : List K} (h : ¬ 40 < (ks.length : Int)) : bunch ks = decide ((exFrom (placeE ks) ks.length 0).1 = 0) := by unfold bunch exG; rw [if_neg h]
theorem place_cases {ks : List K} {j : Nat} {x : K} (hx : ks[j]? = some x) (hK : KeyOk x.i x.t x.p) : (placeE ks j = 6 ∧ ∃ x0 : K, ∃ j0 : Nat, j = j0 + 1 ∧ ks[j0]? = some x0 ∧ x.i ≤ x0.i) ∨ (placeE ks j = 0 ∧ (j = 0 ∨ ∃ x0 : K, ∃ j0 : Nat, j = j0 + 1 ∧ ks[j0]? = some x0 ∧ ¬ x.i ≤ x0.i)) := by
  have hjl := (List.getElem?_eq_some_iff.1 hx).1
  cases j with
  | zero => right; exact ⟨by unfold placeE; simp [hx, hK], .inl rfl⟩
  | succ j0 =>
    have hx0 : ks[j0]? = some ks[j0] := List.getElem?_eq_getElem (by omega)
    generalize ks[j0] = x0 at hx0
    by_cases h1 : x.i ≤ x0.i
    · left; exact ⟨by unfold placeE; simp [hx, hK, hx0, h1], x0, j0, rfl, hx0, h1⟩
    · right; exact ⟨by unfold placeE; simp [hx, hK, hx0, h1], .inr ⟨x0, j0, rfl, hx0, h1⟩⟩
set_option maxHeartbeats 4000000 in
theorem c63 (ks : List K) (hn : ks.length ≤ 1000) (S : AS) (v : Value) (hv : Keys S v ks) :
    ∃ S', (evL Tryz.prog E0).call 40 #[v] S = some (.bool (bunch ks), S') ∧ Agree S S' := by
  have hlen := keys_len hv
  generalize hz : (evL Tryz.prog E0).call 40 _ _ = z
  rw [L_call, evCall_said rfl Tryz.func40 rfl (by decide) Tryz.ntmps40 Tryz.results40] at hz
  by_cases h40 : 40 < (ks.length : Int)
  · simp (disch := first | omega | assumption) only [E0_G, SY, setArgs, off, agreeKind, partVals, vals, allocV, boxed, ldA, rdCells, oneB, aggD, aField, aFieldV, aExtract, eq_self, ne_eq, if_true, if_false, not_false_eq_true, Nat.reduceAdd, Nat.reduceSub, Nat.reduceMul, Nat.reduceLT, Nat.reduceEqDiff, Nat.reduceBEq, reduceIte, Int.reduceEq, Int.reduceLT, Int.reduceLE, reduceCtorEq, op_len, hlen, h40] at hz
    exact fin hz (boolV (bunch_len h40).symm) (Agree.refl S)
  rw [bunch_run h40]
  simp (disch := first | omega | assumption) only [E0_G, SY, setArgs, off, agreeKind, partVals, vals, allocV, boxed, ldA, rdCells, oneB, aggD, aField, aFieldV, aExtract, eq_self, ne_eq, if_true, if_false, not_false_eq_true, Nat.reduceAdd, Nat.reduceSub, Nat.reduceMul, Nat.reduceLT, Nat.reduceEqDiff, Nat.reduceBEq, reduceIte, Int.reduceEq, Int.reduceLT, Int.reduceLE, reduceCtorEq, op_len, hlen, h40, code_loop] at hz
  generalize hL : Rec.loop _ _ _ _ = L at hz
  obtain ⟨x, t', S', rfl, ha, hx⟩ := loop_met hL (fun m t S' => ∃ j : Nat, m + j = ks.length ∧ t.get 0 = some v ∧ t.get 3 = some (.int .i64 (j : Int)) ∧ Agree S S' ∧ exFrom (placeE ks) m j = exFrom (placeE ks) ks.length 0)
    (fun x t S' => Agree S S' ∧ ((x = .exit 0 ∧ (exFrom (placeE ks) ks.length 0).1 = 0) ∨ (x = .ret ∧ t.get 2 = some (.bool false) ∧ (exFrom (placeE ks) ks.length 0).1 ≠ 0))) ks.length ⟨0, rfl, by simp only [get_sel, Nat.reduceBEq, sel_true, sel_false], by simp only [get_sel, Nat.reduceBEq, sel_true, sel_false]; rfl, Agree.refl S, rfl⟩ (by
      rintro m t S' ⟨j, hj, g0, g3, ha, hd⟩
      refine .run fun z he => ?_
      by_cases h : (j : Int) < (ks.length : Int)
      case neg =>
        obtain rfl : m = 0 := by omega
        simp only [E0_G, SY, setArgs, off, agreeKind, partVals, vals, allocV, boxed, ldA, rdCells, oneB, aggD, aField, aFieldV, aExtract, eq_self, ne_eq, if_true, if_false, not_false_eq_true, Nat.reduceAdd, Nat.reduceSub, Nat.reduceMul, Nat.reduceLT, Nat.reduceEqDiff, Nat.reduceBEq, reduceIte, Int.reduceEq, Int.reduceLT, Int.reduceLE, reduceCtorEq, op_len, hlen, g0, g3, h] at he
        exact .exit he ⟨ha, .inl ⟨rfl, by rw [← hd]; rfl⟩⟩
      have w1 : IntKind.i64.wrap ((j : Int) + 1) = ((j + 1 : Nat) : Int) := by rw [IntWalk.i64_in] <;> omega
      have hjl : j < ks.length := by omega
      have hx : ks[j]? = some ks[j] := List.getElem?_eq_getElem hjl
      generalize ks[j] = x at hx
      have hvS := hv.agree ha
      obtain ⟨id, o, c, ty, wr, ex, i1, i2, i3, i4, i5, i6⟩ := keys_at hvS hx
      obtain ⟨S4, k4, a4⟩ := c39 x.i x.t x.p S'
      have j2 := (a4.2 id i3).trans i2
      obtain ⟨m, rfl⟩ : ∃ m', m = m' + 1 := ⟨m - 1, by omega⟩
      rw [exFrom_step] at hd
      by_cases hK : KeyOk x.i x.t x.p
      case neg =>
        rw [decide_eq_false hK] at k4
        have hp : placeE ks j = 1 := by unfold placeE; simp [hx, hK]
        rw [hp, if_neg (by decide)] at hd
        simp (disch := first | omega | assumption) only [E0_G, SY, setArgs, off, agreeKind, partVals, vals, allocV, boxed, ldA, rdCells, oneB, aggD, aField, aFieldV, aExtract, eq_self, ne_eq, if_true, if_false, not_false_eq_true, Nat.reduceAdd, Nat.reduceSub, Nat.reduceMul, Nat.reduceLT, Nat.reduceEqDiff, Nat.reduceBEq, reduceIte, Int.reduceEq, Int.reduceLT, Int.reduceLE, reduceCtorEq, op_len, hlen, g0, g3, h, i1, i2, i4, i5, i6, k4, Tryz.underlying63, Tryz.underlying60, Tryz.underlying3, sz52, sz45, sz3] at he
        rw [code_draws _ _ _ (by kernel_rfl)] at he
        generalize needy _ = nd at he
        simp (disch := first | omega | assumption) only [E0_G, SY, setArgs, off, agreeKind, partVals, vals, allocV, boxed, ldA, rdCells, oneB, aggD, aField, aFieldV, aExtract, eq_self, ne_eq, if_true, if_false, not_false_eq_true, Nat.reduceAdd, Nat.reduceSub, Nat.reduceMul, Nat.reduceLT, Nat.reduceEqDiff, Nat.reduceBEq, reduceIte, Int.reduceEq, Int.reduceLT, Int.reduceLE, reduceCtorEq, op_len, hlen, g0, g3, h, i1, i2, i4, i5, i6, j2, k4, store_refl E0_same, Tryz.underlying63, Tryz.underlying60, Tryz.underlying3, sz52, sz45, sz3] at he
        exact .ret he ⟨ha.trans a4, .inr ⟨rfl, by simp only [SY, setArgs, off, agreeKind, partVals, vals, allocV, boxed, ldA, rdCells, oneB, aggD, aField, aFieldV, aExtract, eq_self, ne_eq, if_true, if_false, not_false_eq_true, Nat.reduceAdd, Nat.reduceSub, Nat.reduceMul, Nat.reduceLT, Nat.reduceEqDiff, Nat.reduceBEq, reduceIte, Int.reduceEq, Int.reduceLT, Int.reduceLE, reduceCtorEq], by rw [← hd]; simp⟩⟩
      rw [decide_eq_true hK] at k4
      rcases place_cases hx hK with ⟨hp, x0, j0, hjj, hx0, h1⟩ | ⟨hp, hj0⟩
      · obtain ⟨id0, o0, c0, ty0, wr0, ex0, u1, u2, u3, u4, u5, u6⟩ := keys_at hvS hx0
        have v2 := (a4.2 id0 u3).trans u2
        have wj : IntKind.i64.wrap ((j : Int) - 1) = (j0 : Int) := by rw [IntWalk.i64_in] <;> omega
        have h0 : (0 : Int) < (j : Int) := by omega
        rw [hp, if_neg (by decide)] at hd
        simp (disch := first | omega | assumption) only [E0_G, SY, setArgs, off, agreeKind, partVals, vals, allocV, boxed, ldA, rdCells, oneB, aggD, aField, aFieldV, aExtract, eq_self, ne_eq, if_true, if_false, not_false_eq_true, Nat.reduceAdd, Nat.reduceSub, Nat.reduceMul, Nat.reduceLT, Nat.reduceEqDiff, Nat.reduceBEq, reduceIte, Int.reduceEq, Int.reduceLT, Int.reduceLE, reduceCtorEq, op_len, hlen, g0, g3, h, i1, i2, i4, i5, i6, k4, Tryz.underlying63, Tryz.underlying60, Tryz.underlying3, sz52, sz45, sz3] at he
        rw [code_draws _ _ _ (by kernel_rfl)] at he
        generalize needy _ = nd at he
        simp (disch := first | omega | assumption) only [E0_G, SY, setArgs, off, agreeKind, partVals, vals, allocV, boxed, ldA, rdCells, oneB, aggD, aField, aFieldV, aExtract, eq_self, ne_eq, if_true, if_false, not_false_eq_true, Nat.reduceAdd, Nat.reduceSub, Nat.reduceMul, Nat.reduceLT, Nat.reduceEqDiff, Nat.reduceBEq, reduceIte, Int.reduceEq, Int.reduceLT, Int.reduceLE, reduceCtorEq, u1, u2, u4, u5, u6, v2, wj, h0, h1, op_len, hlen, g0, g3, h, i1, i2, i4, i5, i6, j2, k4, store_refl E0_same, Tryz.underlying63, Tryz.underlying60, Tryz.underlying3, sz52, sz45, sz3] at he
        exact .ret he ⟨ha.trans a4, .inr ⟨rfl, by simp only [SY, setArgs, off, agreeKind, partVals, vals, allocV, boxed, ldA, rdCells, oneB, aggD, aField, aFieldV, aExtract, eq_self, ne_eq, if_true, if_false, not_false_eq_true, Nat.reduceAdd, Nat.reduceSub, Nat.reduceMul, Nat.reduceLT, Nat.reduceEqDiff, Nat.reduceBEq, reduceIte, Int.reduceEq, Int.reduceLT, Int.reduceLE, reduceCtorEq], by rw [← hd]; simp⟩⟩
      · rw [if_pos hp] at hd
        rcases hj0 with hj0 | ⟨x0, j0, hjj, hx0, h1⟩
        · have h0 : ¬ (0 : Int) < (j : Int) := by omega
          simp (disch := first | omega | assumption) only [E0_G, SY, setArgs, off, agreeKind, partVals, vals, allocV, boxed, ldA, rdCells, oneB, aggD, aField, aFieldV, aExtract, eq_self, ne_eq, if_true, if_false, not_false_eq_true, Nat.reduceAdd, Nat.reduceSub, Nat.reduceMul, Nat.reduceLT, Nat.reduceEqDiff, Nat.reduceBEq, reduceIte, Int.reduceEq, Int.reduceLT, Int.reduceLE, reduceCtorEq, op_len, hlen, g0, g3, h, i1, i2, i4, i5, i6, k4, Tryz.underlying63, Tryz.underlying60, Tryz.underlying3, sz52, sz45, sz3] at he
          rw [code_draws _ _ _ (by kernel_rfl)] at he
          generalize needy _ = nd at he
          simp (disch := first | omega | assumption) only [E0_G, SY, setArgs, off, agreeKind, partVals, vals, allocV, boxed, ldA, rdCells, oneB, aggD, aField, aFieldV, aExtract, eq_self, ne_eq, if_true, if_false, not_false_eq_true, Nat.reduceAdd, Nat.reduceSub, Nat.reduceMul, Nat.reduceLT, Nat.reduceEqDiff, Nat.reduceBEq, reduceIte, Int.reduceEq, Int.reduceLT, Int.reduceLE, reduceCtorEq, h0, w1, op_len, hlen, g0, g3, h, i1, i2, i4, i5, i6, j2, k4, store_refl E0_same, Tryz.underlying63, Tryz.underlying60, Tryz.underlying3, sz52, sz45, sz3] at he
          exact .next he m (by omega) ⟨j + 1, by omega, by simp only [SY, setArgs, off, agreeKind, partVals, vals, allocV, boxed, ldA, rdCells, oneB, aggD, aField, aFieldV, aExtract, eq_self, ne_eq, if_true, if_false, not_false_eq_true, Nat.reduceAdd, Nat.reduceSub, Nat.reduceMul, Nat.reduceLT, Nat.reduceEqDiff, Nat.reduceBEq, reduceIte, Int.reduceEq, Int.reduceLT, Int.reduceLE, reduceCtorEq, g0], by simp only [SY, setArgs, off, agreeKind, partVals, vals, allocV, boxed, ldA, rdCells, oneB, aggD, aField, aFieldV, aExtract, eq_self, ne_eq, if_true, if_false, not_false_eq_true, Nat.reduceAdd, Nat.reduceSub, Nat.reduceMul, Nat.reduceLT, Nat.reduceEqDiff, Nat.reduceBEq, reduceIte, Int.reduceEq, Int.reduceLT, Int.reduceLE, reduceCtorEq], ha.trans a4, hd⟩
        · obtain ⟨id0, o0, c0, ty0, wr0, ex0, u1, u2, u3, u4, u5, u6⟩ := keys_at hvS hx0
          have v2 := (a4.2 id0 u3).trans u2
          have wj : IntKind.i64.wrap ((j : Int) - 1) = (j0 : Int) := by rw [IntWalk.i64_in] <;> omega
          have h0 : (0 : Int) < (j : Int) := by omega
          simp (disch := first | omega | assumption) only [E0_G, SY, setArgs, off, agreeKind, partVals, vals, allocV, boxed, ldA, rdCells, oneB, aggD, aField, aFieldV, aExtract, eq_self, ne_eq, if_true, if_false, not_false_eq_true, Nat.reduceAdd, Nat.reduceSub, Nat.reduceMul, Nat.reduceLT, Nat.reduceEqDiff, Nat.reduceBEq, reduceIte, Int.reduceEq, Int.reduceLT, Int.reduceLE, reduceCtorEq, op_len, hlen, g0, g3, h, i1, i2, i4, i5, i6, k4, Tryz.underlying63, Tryz.underlying60, Tryz.underlying3, sz52, sz45, sz3] at he
          rw [code_draws _ _ _ (by kernel_rfl)] at he
          generalize needy _ = nd at he
          simp (disch := first | omega | assumption) only [E0_G, SY, setArgs, off, agreeKind, partVals, vals, allocV, boxed, ldA, rdCells, oneB, aggD, aField, aFieldV, aExtract, eq_self, ne_eq, if_true, if_false, not_false_eq_true, Nat.reduceAdd, Nat.reduceSub, Nat.reduceMul, Nat.reduceLT, Nat.reduceEqDiff, Nat.reduceBEq, reduceIte, Int.reduceEq, Int.reduceLT, Int.reduceLE, reduceCtorEq, u1, u2, u4, u5, u6, v2, wj, h0, h1, w1, op_len, hlen, g0, g3, h, i1, i2, i4, i5, i6, j2, k4, store_refl E0_same, Tryz.underlying63, Tryz.underlying60, Tryz.underlying3, sz52, sz45, sz3] at he
          exact .next he m (by omega) ⟨j + 1, by omega, by simp only [SY, setArgs, off, agreeKind, partVals, vals, allocV, boxed, ldA, rdCells, oneB, aggD, aField, aFieldV, aExtract, eq_self, ne_eq, if_true, if_false, not_false_eq_true, Nat.reduceAdd, Nat.reduceSub, Nat.reduceMul, Nat.reduceLT, Nat.reduceEqDiff, Nat.reduceBEq, reduceIte, Int.reduceEq, Int.reduceLT, Int.reduceLE, reduceCtorEq, g0], by simp only [SY, setArgs, off, agreeKind, partVals, vals, allocV, boxed, ldA, rdCells, oneB, aggD, aField, aFieldV, aExtract, eq_self, ne_eq, if_true, if_false, not_false_eq_true, Nat.reduceAdd, Nat.reduceSub, Nat.reduceMul, Nat.reduceLT, Nat.reduceEqDiff, Nat.reduceBEq, reduceIte, Int.reduceEq, Int.reduceLT, Int.reduceLE, reduceCtorEq], ha.trans a4, hd⟩)
  rcases hx with ⟨rfl, hx⟩ | ⟨rfl, hx, hx2⟩
  · simp only [E0_G, SY, setArgs, off, agreeKind, partVals, vals, allocV, boxed, ldA, rdCells, oneB, aggD, aField, aFieldV, aExtract, eq_self, ne_eq, if_true, if_false, not_false_eq_true, Nat.reduceAdd, Nat.reduceSub, Nat.reduceMul, Nat.reduceLT, Nat.reduceEqDiff, Nat.reduceBEq, reduceIte, Int.reduceEq, Int.reduceLT, Int.reduceLE, reduceCtorEq, hx] at hz
    exact fin hz (boolV (decide_eq_true hx).symm) ha
  · simp only [E0_G, SY, setArgs, off, agreeKind, partVals, vals, allocV, boxed, ldA, rdCells, oneB, aggD, aField, aFieldV, aExtract, eq_self, ne_eq, if_true, if_false, not_false_eq_true, Nat.reduceAdd, Nat.reduceSub, Nat.reduceMul, Nat.reduceLT, Nat.reduceEqDiff, Nat.reduceBEq, reduceIte, Int.reduceEq, Int.reduceLT, Int.reduceLE, reduceCtorEq, hx] at hz
    exact fin hz (boolV (decide_eq_false hx2).symm) ha
end Great
end Go.Proofs
end
section
/-
  The great seat of stage 1 at c2f8ee9: rivals.
-/
set_option linter.unusedSimpArgs false
set_option linter.unusedVariables false
namespace Go.Proofs
namespace Great
open Go Go.RowKit Go.Aev
set_option maxRecDepth 100000
theorem exFrom_zero (e : Nat → Int) : ∀ (m k : Nat), (exFrom e m k).1 = 0 → ∀ i, k ≤ i → i < k + m → e i = 0
  | 0, k, _, i, h1, h2 => by omega
  | m + 1, k, h, i, h1, h2 => by
    rw [exFrom_step] at h
    by_cases hk : e k = 0
    · rw [if_pos hk] at h
      rcases Nat.eq_or_lt_of_le h1 with rfl | h3
      · exact hk
      · exact exFrom_zero e m (k + 1) h i h3 (by omega)
    · rw [if_neg hk] at h; exact absurd h hk
end Great
end Go.Proofs
end
section
/-
  The great seat of stage 1 at c2f8ee9: Rival.
-/
set_option linter.unusedSimpArgs false
set_option linter.unusedVariables false
namespace Go.Proofs
namespace Great
open Go Go.RowKit Go.Aev
set_option maxRecDepth 100000
end Great
end Go.Proofs
end
