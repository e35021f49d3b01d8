/-
  BK: EvK, EvK2, EvK3.
-/
import Derived.Test.YtgbjgljchkodjaaGreatDoorBZZ
import Derived.Test.YtgbjgljchkodjaaGreatDoorAE4
section
/-
  The great seat of stage 1 at c2f8ee9: lists of keys.
-/
set_option linter.unusedSimpArgs false
set_option linter.unusedVariables false
namespace Go.Proofs
namespace Great
open Go Go.RowKit Go.Aev
set_option maxRecDepth 100000
structure K where
  i : Int
  t : Int
  p : Int
def K.row (k : K) : List Int := [k.i, k.t, k.p]
def K.val (k : K) : Value := .agg #[.int .i64 k.i, .int .i64 k.t, .int .i64 k.p]
def Keys (S : AS) (v : Value) (ks : List K) : Prop := Row [.i64, .i64, .i64] S v (ks.map K.row)
theorem Keys.agree {S S' : AS} {v : Value} {ks : List K} (h : Keys S v ks) (ha : Agree S S') : Keys S' v ks := Row.agree h ha
theorem und43 : Tryz.prog.underlying 56 = some (.slice 63) := by kernel_rfl
theorem keys_len {S : AS} {v : Value} {ks : List K} (h : Keys S v ks) : lenV Tryz.prog 56 v = some (.int .i64 (ks.length : Int)) := by
  rcases h with ⟨h1, rfl | rfl⟩ | ⟨id, off, c, ty, cap, wr, ex, rfl, h⟩
  · have : ks = [] := by simpa using h1
    subst this
    simp [lenV, und43]
  · have : ks = [] := by simpa using h1
    subst this
    simp [lenV, und43]
  · simp [lenV, und43]
theorem inB_of {i n : Nat} (h : i < n) : inB (i : Int) n = true := by
  unfold inB
  simp <;> omega
theorem keys_at {S : AS} {v : Value} {ks : List K} (h : Keys S v ks) {i : Nat} {k : K} (hk : ks[i]? = some k) :
    ∃ id o c ty wr ex, aIndexAddr Tryz.prog 56 v (.int .i64 (i : Int)) = some (.pointer (some ⟨id, o, none⟩)) ∧ S.heap.get id = some (.cells c ty 3 wr ex) ∧ id < S.next ∧
      c[o]? = some (.int .i64 k.i) ∧ c[o + 1]? = some (.int .i64 k.t) ∧ c[o + 2]? = some (.int .i64 k.p) := by
  have hi : i < ks.length := (List.getElem?_eq_some_iff.1 hk).1
  rcases h with ⟨h1, _⟩ | ⟨id, off, c, ty, cap, wr, ex, rfl, _, h2, h3, h4⟩
  · have : ks = [] := by simpa using h1
    subst this
    simp at hi
  · have h5 := h4 i k.row (by simp [hk])
    refine ⟨id, off + i * 3, c, ty, wr, ex, ?_, h2, h3, ?_, ?_, ?_⟩
    · have hb : inB (i : Int) ks.length = true := inB_of hi
      simp [aIndexAddr, und43, sz52, hb, addr_add]
    · simpa [ints, K.row] using h5 0 (by simp)
    · simpa [ints, K.row] using h5 1 (by simp)
    · simpa [ints, K.row] using h5 2 (by simp)
/-- The error of a key of a list by itself and by the key before. -/
def placeE (ks : List K) (i : Nat) : Int :=
  match ks[i]? with
  | none => 0
  | some k => if ¬ KeyOk k.i k.t k.p then 1 else match i with
    | 0 => 0
    | j + 1 => match ks[j]? with
      | none => 0
      | some k0 => if k.i ≤ k0.i then 6 else 0
set_option maxHeartbeats 1000000 in
theorem c97 (ks : List K) (i : Nat) (hi : i < ks.length) (hn : ks.length ≤ 1000) (S : AS) (v : Value) (hv : Keys S v ks) : ∃ S', (evL Tryz.prog E0).call 92 #[v, .int .i64 (i : Int)] S = some (.int .i64 (placeE ks i), S') ∧ Agree S S' := by
  have hx : ks[i]? = some ks[i] := List.getElem?_eq_getElem hi
  generalize ks[i] = x at hx
  obtain ⟨id, o, c, ty, wr, ex, i1, i2, i3, i4, i5, i6⟩ := keys_at hv hx
  obtain ⟨S1, k1, a1⟩ := c38 x.i x.t x.p S
  have j2 := (a1.2 id i3).trans i2
  generalize hz : (evL Tryz.prog E0).call 92 _ _ = z
  rw [L_call, evCall_said rfl Tryz.func92 rfl (by decide) Tryz.ntmps92 Tryz.results92] at hz
  by_cases hK : KeyOk x.i x.t x.p
  · rw [errV_pos hK] at k1
    cases i with
    | zero =>
      have i1 : aIndexAddr Tryz.prog 56 v (.int .i64 0) = some (.pointer (some ⟨id, o, none⟩)) := i1
      simp (disch := first | omega | assumption) only [E0_G, SY, setArgs, off, agreeKind, partVals, vals, allocV, boxed, ldA, rdCells, oneB, aggD, aField, aFieldV, aExtract, eq_self, ne_eq, if_true, if_false, not_false_eq_true, Nat.reduceAdd, Nat.reduceSub, Nat.reduceMul, Nat.reduceLT, Nat.reduceEqDiff, Nat.reduceBEq, reduceIte, Int.reduceEq, Int.reduceLT, Int.reduceLE, reduceCtorEq, i1, i2, i4, i5, i6, k1, Int.ofNat_zero, Int.natCast_zero, Tryz.underlying63, Tryz.underlying3, sz52, sz3] at hz
      rw [code_draws _ _ _ (by kernel_rfl)] at hz
      generalize needy _ = nd at hz
      simp (disch := first | omega | assumption) only [E0_G, SY, setArgs, off, agreeKind, partVals, vals, allocV, boxed, ldA, rdCells, oneB, aggD, aField, aFieldV, aExtract, eq_self, ne_eq, if_true, if_false, not_false_eq_true, Nat.reduceAdd, Nat.reduceSub, Nat.reduceMul, Nat.reduceLT, Nat.reduceEqDiff, Nat.reduceBEq, reduceIte, Int.reduceEq, Int.reduceLT, Int.reduceLE, reduceCtorEq, i1, i2, i4, i5, i6, j2, k1, Int.lt_irrefl, store_refl E0_same, Tryz.underlying63, Tryz.underlying3, sz52, sz3] at hz
      refine fin hz (intV ?_) a1
      unfold placeE
      simp [hx, hK]
    | succ j =>
      have hx0 : ks[j]? = some ks[j] := List.getElem?_eq_getElem (by omega)
      generalize ks[j] = x0 at hx0
      obtain ⟨id0, o0, c0, ty0, wr0, ex0, u1, u2, u3, u4, u5, u6⟩ := keys_at hv hx0
      have w2 := (a1.2 id0 u3).trans u2
      have wj : IntKind.i64.wrap (((j + 1 : Nat) : Int) - 1) = (j : Int) := by rw [IntWalk.i64_in] <;> omega
      have h0 : (0 : Int) < ((j + 1 : Nat) : Int) := by omega
      simp (disch := first | omega | assumption) only [E0_G, SY, setArgs, off, agreeKind, partVals, vals, allocV, boxed, ldA, rdCells, oneB, aggD, aField, aFieldV, aExtract, eq_self, ne_eq, if_true, if_false, not_false_eq_true, Nat.reduceAdd, Nat.reduceSub, Nat.reduceMul, Nat.reduceLT, Nat.reduceEqDiff, Nat.reduceBEq, reduceIte, Int.reduceEq, Int.reduceLT, Int.reduceLE, reduceCtorEq, i1, i2, i4, i5, i6, k1, Tryz.underlying63, Tryz.underlying3, sz52, sz3] at hz
      rw [code_draws _ _ _ (by kernel_rfl)] at hz
      generalize needy _ = nd at hz
      by_cases h1 : x.i ≤ x0.i
      · simp (disch := first | omega | assumption) only [E0_G, SY, setArgs, off, agreeKind, partVals, vals, allocV, boxed, ldA, rdCells, oneB, aggD, aField, aFieldV, aExtract, eq_self, ne_eq, if_true, if_false, not_false_eq_true, Nat.reduceAdd, Nat.reduceSub, Nat.reduceMul, Nat.reduceLT, Nat.reduceEqDiff, Nat.reduceBEq, reduceIte, Int.reduceEq, Int.reduceLT, Int.reduceLE, reduceCtorEq, i1, i2, i4, i5, i6, j2, k1, u1, u2, u4, u5, u6, w2, wj, h0, h1, store_refl E0_same, Tryz.underlying63, Tryz.underlying3, sz52, sz3] at hz
        refine fin hz (intV ?_) a1
        unfold placeE
        simp [hx, hK, hx0, h1]
      · simp (disch := first | omega | assumption) only [E0_G, SY, setArgs, off, agreeKind, partVals, vals, allocV, boxed, ldA, rdCells, oneB, aggD, aField, aFieldV, aExtract, eq_self, ne_eq, if_true, if_false, not_false_eq_true, Nat.reduceAdd, Nat.reduceSub, Nat.reduceMul, Nat.reduceLT, Nat.reduceEqDiff, Nat.reduceBEq, reduceIte, Int.reduceEq, Int.reduceLT, Int.reduceLE, reduceCtorEq, i1, i2, i4, i5, i6, j2, k1, u1, u2, u4, u5, u6, w2, wj, h0, h1, store_refl E0_same, Tryz.underlying63, Tryz.underlying3, sz52, sz3] at hz
        refine fin hz (intV ?_) a1
        unfold placeE
        simp [hx, hK, hx0, h1]
  · rw [errV_neg hK] at k1
    simp (disch := first | omega | assumption) only [E0_G, SY, setArgs, off, agreeKind, partVals, vals, allocV, boxed, ldA, rdCells, oneB, aggD, aField, aFieldV, aExtract, eq_self, ne_eq, if_true, if_false, not_false_eq_true, Nat.reduceAdd, Nat.reduceSub, Nat.reduceMul, Nat.reduceLT, Nat.reduceEqDiff, Nat.reduceBEq, reduceIte, Int.reduceEq, Int.reduceLT, Int.reduceLE, reduceCtorEq, i1, i2, i4, i5, i6, k1, Tryz.underlying63, Tryz.underlying3, sz52, sz3] at hz
    refine fin hz (intV ?_) a1
    unfold placeE
    simp [hx, hK]
theorem keys_one {S : AS} {v : Value} {ks : List K} (h : Keys S v ks) : v.cells = #[v] ∧ oneB v = true := by
  rcases h with ⟨_, rfl | rfl⟩ | ⟨id, off, c, ty, cap, wr, ex, rfl, h⟩ <;> exact ⟨rfl, rfl⟩
end Great
end Go.Proofs
end
section
/-
  The great seat of stage 1 at c2f8ee9: CheckKeys.
-/
set_option linter.unusedSimpArgs false
set_option linter.unusedVariables false
namespace Go.Proofs
namespace Great
open Go Go.RowKit Go.Aev
set_option maxRecDepth 100000
/-- The first error that is not 0, and its place. -/
def exFrom (e : Nat → Int) : Nat → Nat → Int × Int
  | 0, _ => (0, -1)
  | m + 1, k => if e k = 0 then exFrom e m (k + 1) else (e k, (k : Int))
theorem exFrom_step (e : Nat → Int) (m k : Nat) : exFrom e (m + 1) k = if e k = 0 then exFrom e m (k + 1) else (e k, (k : Int)) := rfl
end Great
end Go.Proofs
end
section
/-
  The great seat of stage 1 at c2f8ee9: the reference's CheckKeys.
-/
set_option linter.unusedSimpArgs false
set_option linter.unusedVariables false
namespace Go.Proofs
namespace Great
open Go Go.RowKit Go.Aev
set_option maxRecDepth 100000
end Great
end Go.Proofs
end
