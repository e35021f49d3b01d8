/-
  BK: EvK, EvK2, EvK3.
-/
import Derived.Test.YtklmjmaldhibbabGreatDoorBZZ
import Derived.Test.YtklmjmaldhibbabGreatDoorAE4
section
/-
  The great seat of stage 1 at c2f8ee9: lists of keys.
-/
set_option linter.unusedSimpArgs false
set_option linter.unusedVariables false
namespace Go.Proofs
namespace Great
open Go Go.RowKit Go.Aev
set_option maxRecDepth 100000
structure K where
  i : Int
  t : Int
  p : Int
def K.row (k : K) : List Int := [k.i, k.t, k.p]
def K.val (k : K) : Value := .agg #[.int .i64 k.i, .int .i64 k.t, .int .i64 k.p]
def Keys (S : AS) (v : Value) (ks : List K) : Prop := Row [.i64, .i64, .i64] S v (ks.map K.row)
theorem Keys.agree {S S' : AS} {v : Value} {ks : List K} (h : Keys S v ks) (ha : Agree S S') : Keys S' v ks := Row.agree h ha
theorem keys_of {nss : List (List Int)} (h : ∀ ns ∈ nss, Fits [.i64, .i64, .i64] ns) : ∃ ks : List K, nss = ks.map K.row := by
  induction nss with
  | nil => exact ⟨[], rfl⟩
  | cons ns l ih =>
    obtain ⟨ks, rfl⟩ := ih (fun x hx => h x (by simp [hx]))
    have hl := (h ns (by simp)).1
    match ns, hl with
    | [a, b, c], _ => exact ⟨⟨a, b, c⟩ :: ks, rfl⟩
theorem und43 : Tryz.prog.underlying 31 = some (.slice 38) := by kernel_rfl
theorem keys_len {S : AS} {v : Value} {ks : List K} (h : Keys S v ks) : lenV Tryz.prog 31 v = some (.int .i64 (ks.length : Int)) := by
  rcases h with ⟨h1, rfl | rfl⟩ | ⟨id, off, c, ty, cap, wr, ex, rfl, h⟩
  · have : ks = [] := by simpa using h1
    subst this
    simp [lenV, und43]
  · have : ks = [] := by simpa using h1
    subst this
    simp [lenV, und43]
  · simp [lenV, und43]
theorem inB_of {i n : Nat} (h : i < n) : inB (i : Int) n = true := by
  unfold inB
  simp <;> omega
theorem keys_at {S : AS} {v : Value} {ks : List K} (h : Keys S v ks) {i : Nat} {k : K} (hk : ks[i]? = some k) :
    ∃ id o c ty wr ex, aIndexAddr Tryz.prog 31 v (.int .i64 (i : Int)) = some (.pointer (some ⟨id, o, none⟩)) ∧ S.heap.get id = some (.cells c ty 3 wr ex) ∧ id < S.next ∧
      c[o]? = some (.int .i64 k.i) ∧ c[o + 1]? = some (.int .i64 k.t) ∧ c[o + 2]? = some (.int .i64 k.p) := by
  have hi : i < ks.length := (List.getElem?_eq_some_iff.1 hk).1
  rcases h with ⟨h1, _⟩ | ⟨id, off, c, ty, cap, wr, ex, rfl, _, h2, h3, h4⟩
  · have : ks = [] := by simpa using h1
    subst this
    simp at hi
  · have h5 := h4 i k.row (by simp [hk])
    refine ⟨id, off + i * 3, c, ty, wr, ex, ?_, h2, h3, ?_, ?_, ?_⟩
    · have hb : inB (i : Int) ks.length = true := inB_of hi
      simp [aIndexAddr, und43, sz52, hb, addr_add]
    · simpa [ints, K.row] using h5 0 (by simp)
    · simpa [ints, K.row] using h5 1 (by simp)
    · simpa [ints, K.row] using h5 2 (by simp)
theorem c99 (k : K) (f s l : Int) (S : AS) : ∃ S' x y, (evL Tryz.prog E0).call 56 #[.agg #[.int .i64 k.i, .int .i64 k.t, .int .i64 k.p], .agg #[.int .i64 f, .int .i64 s, .int .i64 l]] S = some (.func (.func 82) #[] #[.pointer (some ⟨x, 0, none⟩), .pointer (some ⟨y, 0, none⟩)], S') ∧ Agree S S' ∧
    S'.heap.get x = some (.cells [.int .i64 k.i, .int .i64 k.t, .int .i64 k.p] 38 0 true true) ∧ S'.heap.get y = some (.cells [.int .i64 f, .int .i64 s, .int .i64 l] 35 0 true true) ∧ x < S'.next ∧ y < S'.next := by
  obtain ⟨S1, e1, n1, b1, a1⟩ := push_open S (.cells [.int .i64 k.i, .int .i64 k.t, .int .i64 k.p] 38 0 true true)
  obtain ⟨S2, e2, n2, b2, a2⟩ := push_open S1 (.cells [.int .i64 f, .int .i64 s, .int .i64 l] 35 0 true true)
  refine ⟨S2, S.next, S1.next, ?_, a1.trans a2, (a2.2 S.next (by omega)).trans b1, b2, by omega, by omega⟩
  rw [L_call, evCall_said rfl Tryz.func56 rfl (by decide) Tryz.ntmps56 Tryz.results56]
  simp (disch := first | omega | assumption) only [E0_G, SY, setArgs, off, agreeKind, partVals, vals, allocV, boxed, ldA, rdCells, oneB, aggD, aField, aFieldV, aExtract, eq_self, ne_eq, if_true, if_false, not_false_eq_true, Nat.reduceAdd, Nat.reduceSub, Nat.reduceMul, Nat.reduceLT, Nat.reduceEqDiff, Nat.reduceBEq, reduceIte, Int.reduceEq, Int.reduceLT, Int.reduceLE, reduceCtorEq, e1, e2, op_makeFunc, Op.operands, List.map_toArray, List.append_toArray, List.append_nil, List.nil_append, Option.getD_some, sz52, sz45, Tryz.underlying38, Tryz.underlying35, Tryz.underlying93]

/-- Whether a key of a list can be confused with k. -/
def confK (k : K) (f s : Int) (x : K) : Bool := decide (ConfP k.t k.p x.t x.p f s)
def KeySet (k : K) : Prop := 0 ≤ k.p ∧ k.p ≤ 4095
theorem c134 (k x : K) (f s l : Int) (hk : KeySet k) (hx : KeySet x) (hI : InkOk f s l) (S : AS) (px py : Nat) (gx : S.heap.get px = some (.cells [.int .i64 k.i, .int .i64 k.t, .int .i64 k.p] 38 0 true true)) (gy : S.heap.get py = some (.cells [.int .i64 f, .int .i64 s, .int .i64 l] 35 0 true true)) (lx : px < S.next) (ly : py < S.next) :
    ∃ S', (evL Tryz.prog E0).call 82 #[.agg #[.int .i64 x.i, .int .i64 x.t, .int .i64 x.p], .pointer (some ⟨px, 0, none⟩), .pointer (some ⟨py, 0, none⟩)] S = some (.bool (confK k f s x), S') ∧ Agree S S' := by
  obtain ⟨S1, e1, n1, b1, a1⟩ := push_open S (.cells [.int .i64 x.i, .int .i64 x.t, .int .i64 x.p] 38 0 true true)
  have gx1 := (a1.2 px lx).trans gx
  have gy1 := (a1.2 py ly).trans gy
  obtain ⟨S2, k2, a2⟩ := c106 k.i k.t k.p x.i x.t x.p f s l S1 hk hx hI
  generalize hz : (evL Tryz.prog E0).call 82 _ _ = z
  rw [L_call, evCall_said rfl Tryz.func82 rfl (by decide) Tryz.ntmps82 Tryz.results82] at hz
  simp (disch := first | omega | assumption) only [E0_G, SY, setArgs, off, agreeKind, partVals, vals, allocV, boxed, ldA, rdCells, oneB, aggD, aField, aFieldV, aExtract, eq_self, ne_eq, if_true, if_false, not_false_eq_true, Nat.reduceAdd, Nat.reduceSub, Nat.reduceMul, Nat.reduceLT, Nat.reduceEqDiff, Nat.reduceBEq, reduceIte, Int.reduceEq, Int.reduceLT, Int.reduceLE, reduceCtorEq, e1, b1, gx1, gy1, newKeys, k2, sz52, sz45, Tryz.underlying38, Tryz.underlying35] at hz
  exact fin hz rfl (a1.trans a2)
/-- The place of the first key that can be confused with k, or -1. -/
def firstIx (q : K → Bool) : List K → Nat → Int
  | [], _ => -1
  | k :: l, n => if q k = true then (n : Int) else firstIx q l (n + 1)
theorem firstIx_cons (q : K → Bool) (k : K) (l : List K) (n : Nat) : firstIx q (k :: l) n = if q k = true then (n : Int) else firstIx q l (n + 1) := rfl
theorem firstIx_any (q : K → Bool) : ∀ (l : List K) (n : Nat), decide (firstIx q l n < 0) = !(l.any q)
  | [], _ => rfl
  | k :: l, n => by
    unfold firstIx
    by_cases h : q k = true
    · simp [h]
    · simp only [h, List.any_cons]
      rw [if_neg (by simp)]
      simpa using firstIx_any q l (n + 1)
theorem drop_cons {ks : List K} {j : Nat} {x : K} (h : ks[j]? = some x) : ks.drop j = x :: ks.drop (j + 1) := by
  obtain ⟨hj, rfl⟩ := List.getElem?_eq_some_iff.1 h
  exact List.drop_eq_getElem_cons hj
theorem drop_len {ks : List K} {j : Nat} (h : ks.length ≤ j) : ks.drop j = [] := List.drop_eq_nil_of_le h
set_option maxHeartbeats 1000000 in
theorem c110 (k : K) (ks : List K) (f s l : Int) (hk : KeySet k) (hks : ∀ x ∈ ks, KeySet x) (hn : ks.length ≤ 1000) (hI : InkOk f s l) (S : AS) (v : Value) (hv : Keys S v ks) (px py : Nat) (gx : S.heap.get px = some (.cells [.int .i64 k.i, .int .i64 k.t, .int .i64 k.p] 38 0 true true)) (gy : S.heap.get py = some (.cells [.int .i64 f, .int .i64 s, .int .i64 l] 35 0 true true)) (lx : px < S.next) (ly : py < S.next) :
    ∃ S', (evL Tryz.prog E0).call 81 #[v, .func (.func 82) #[] #[.pointer (some ⟨px, 0, none⟩), .pointer (some ⟨py, 0, none⟩)]] S = some (.int .i64 (firstIx (confK k f s) ks 0), S') ∧ Agree S S' := by
  have hlen := keys_len hv
  generalize hz : (evL Tryz.prog E0).call 81 _ _ = z
  rw [L_call, evCall_said rfl Tryz.func81 rfl (by decide) Tryz.ntmps81 Tryz.results81] at hz
  simp only [E0_G, SY, setArgs, off, agreeKind, partVals, vals, allocV, boxed, ldA, rdCells, oneB, aggD, aField, aFieldV, aExtract, eq_self, ne_eq, if_true, if_false, not_false_eq_true, Nat.reduceAdd, Nat.reduceSub, Nat.reduceMul, Nat.reduceLT, Nat.reduceEqDiff, Nat.reduceBEq, reduceIte, Int.reduceEq, Int.reduceLT, Int.reduceLE, reduceCtorEq, op_len, hlen, code_loop] at hz
  generalize hL : Rec.loop _ _ _ _ = L at hz
  obtain ⟨x, t', S', rfl, ha, hx⟩ := loop_met hL (fun m t S' => ∃ j : Nat, m + j = ks.length ∧ t.get 0 = some v ∧ t.get 1 = some (.func (.func 82) #[] #[.pointer (some ⟨px, 0, none⟩), .pointer (some ⟨py, 0, none⟩)]) ∧ t.get 7 = some (.int .i64 (ks.length : Int)) ∧ t.get 8 = some (.int .i64 (j : Int)) ∧ Agree S S' ∧ firstIx (confK k f s) (ks.drop j) j = firstIx (confK k f s) ks 0)
    (fun x t S' => Agree S S' ∧ ((x = .exit 0 ∧ firstIx (confK k f s) ks 0 = -1) ∨ (x = .ret ∧ t.get 4 = some (.int .i64 (firstIx (confK k f s) ks 0))))) ks.length ⟨0, rfl, by simp only [get_sel, Nat.reduceBEq, sel_true, sel_false], by simp only [get_sel, Nat.reduceBEq, sel_true, sel_false], by simp only [get_sel, Nat.reduceBEq, sel_true, sel_false], by simp only [get_sel, Nat.reduceBEq, sel_true, sel_false]; rfl, Agree.refl S, rfl⟩ (by
      rintro m t S' ⟨j, hj, g0, g1, g7, g8, ha, hd⟩
      refine .run fun z he => ?_
      by_cases h : (j : Int) < (ks.length : Int)
      · have w1 : IntKind.i64.wrap ((j : Int) + 1) = ((j + 1 : Nat) : Int) := by rw [IntWalk.i64_in] <;> omega
        have hjl : j < ks.length := by omega
        have hx : ks[j]? = some ks[j] := List.getElem?_eq_getElem hjl
        generalize ks[j] = x at hx
        obtain ⟨id, o, c, ty, wr, ex, i1, i2, i3, i4, i5, i6⟩ := keys_at (hv.agree ha) hx
        have lnx := ha.1
        obtain ⟨S2, k2, a2⟩ := c134 k x f s l hk (hks x (List.mem_of_getElem? hx)) hI S' px py ((ha.2 px lx).trans gx) ((ha.2 py ly).trans gy) (by omega) (by omega)
        rw [drop_cons hx, firstIx_cons] at hd
        by_cases h1 : confK k f s x = true
        · rw [if_pos h1] at hd
          rw [h1] at k2
          simp (disch := first | omega | assumption) only [E0_G, SY, setArgs, off, agreeKind, partVals, vals, allocV, boxed, ldA, rdCells, oneB, aggD, aField, aFieldV, aExtract, eq_self, ne_eq, if_true, if_false, not_false_eq_true, Nat.reduceAdd, Nat.reduceSub, Nat.reduceMul, Nat.reduceLT, Nat.reduceEqDiff, Nat.reduceBEq, reduceIte, Int.reduceEq, Int.reduceLT, Int.reduceLE, reduceCtorEq, op_callV, calledV_some, List.nil_append, Array.empty_append, List.append_toArray, List.cons_append, g0, g1, g7, g8, h, i1, i2, i4, i5, i6, k2, w1, Tryz.underlying38, Tryz.underlying3, sz52, sz3] at he
          exact .ret he ⟨ha.trans a2, .inr ⟨rfl, by simp only [SY, setArgs, off, agreeKind, partVals, vals, allocV, boxed, ldA, rdCells, oneB, aggD, aField, aFieldV, aExtract, eq_self, ne_eq, if_true, if_false, not_false_eq_true, Nat.reduceAdd, Nat.reduceSub, Nat.reduceMul, Nat.reduceLT, Nat.reduceEqDiff, Nat.reduceBEq, reduceIte, Int.reduceEq, Int.reduceLT, Int.reduceLE, reduceCtorEq, hd]⟩⟩
        · rw [if_neg h1] at hd
          rw [Bool.eq_false_iff.2 h1] at k2
          simp (disch := first | omega | assumption) only [E0_G, SY, setArgs, off, agreeKind, partVals, vals, allocV, boxed, ldA, rdCells, oneB, aggD, aField, aFieldV, aExtract, eq_self, ne_eq, if_true, if_false, not_false_eq_true, Nat.reduceAdd, Nat.reduceSub, Nat.reduceMul, Nat.reduceLT, Nat.reduceEqDiff, Nat.reduceBEq, reduceIte, Int.reduceEq, Int.reduceLT, Int.reduceLE, reduceCtorEq, op_callV, calledV_some, List.nil_append, Array.empty_append, List.append_toArray, List.cons_append, g0, g1, g7, g8, h, i1, i2, i4, i5, i6, k2, w1, Tryz.underlying38, Tryz.underlying3, sz52, sz3] at he
          exact .next he (m - 1) (by omega) ⟨j + 1, by omega, by simp only [SY, setArgs, off, agreeKind, partVals, vals, allocV, boxed, ldA, rdCells, oneB, aggD, aField, aFieldV, aExtract, eq_self, ne_eq, if_true, if_false, not_false_eq_true, Nat.reduceAdd, Nat.reduceSub, Nat.reduceMul, Nat.reduceLT, Nat.reduceEqDiff, Nat.reduceBEq, reduceIte, Int.reduceEq, Int.reduceLT, Int.reduceLE, reduceCtorEq, g0], by simp only [SY, setArgs, off, agreeKind, partVals, vals, allocV, boxed, ldA, rdCells, oneB, aggD, aField, aFieldV, aExtract, eq_self, ne_eq, if_true, if_false, not_false_eq_true, Nat.reduceAdd, Nat.reduceSub, Nat.reduceMul, Nat.reduceLT, Nat.reduceEqDiff, Nat.reduceBEq, reduceIte, Int.reduceEq, Int.reduceLT, Int.reduceLE, reduceCtorEq, g1], by simp only [SY, setArgs, off, agreeKind, partVals, vals, allocV, boxed, ldA, rdCells, oneB, aggD, aField, aFieldV, aExtract, eq_self, ne_eq, if_true, if_false, not_false_eq_true, Nat.reduceAdd, Nat.reduceSub, Nat.reduceMul, Nat.reduceLT, Nat.reduceEqDiff, Nat.reduceBEq, reduceIte, Int.reduceEq, Int.reduceLT, Int.reduceLE, reduceCtorEq, g7], by simp only [SY, setArgs, off, agreeKind, partVals, vals, allocV, boxed, ldA, rdCells, oneB, aggD, aField, aFieldV, aExtract, eq_self, ne_eq, if_true, if_false, not_false_eq_true, Nat.reduceAdd, Nat.reduceSub, Nat.reduceMul, Nat.reduceLT, Nat.reduceEqDiff, Nat.reduceBEq, reduceIte, Int.reduceEq, Int.reduceLT, Int.reduceLE, reduceCtorEq], ha.trans a2, hd⟩
      · have hd2 : firstIx (confK k f s) ks 0 = -1 := by rw [← hd, drop_len (by omega)]; rfl
        simp only [E0_G, SY, setArgs, off, agreeKind, partVals, vals, allocV, boxed, ldA, rdCells, oneB, aggD, aField, aFieldV, aExtract, eq_self, ne_eq, if_true, if_false, not_false_eq_true, Nat.reduceAdd, Nat.reduceSub, Nat.reduceMul, Nat.reduceLT, Nat.reduceEqDiff, Nat.reduceBEq, reduceIte, Int.reduceEq, Int.reduceLT, Int.reduceLE, reduceCtorEq, g0, g1, g7, g8, h] at he
        exact .exit he ⟨ha, .inl ⟨rfl, hd2⟩⟩)
  rcases hx with ⟨rfl, hx⟩ | ⟨rfl, hx⟩
  · simp only [E0_G, SY, setArgs, off, agreeKind, partVals, vals, allocV, boxed, ldA, rdCells, oneB, aggD, aField, aFieldV, aExtract, eq_self, ne_eq, if_true, if_false, not_false_eq_true, Nat.reduceAdd, Nat.reduceSub, Nat.reduceMul, Nat.reduceLT, Nat.reduceEqDiff, Nat.reduceBEq, reduceIte, Int.reduceEq, Int.reduceLT, Int.reduceLE, reduceCtorEq, hx] at hz
    exact fin hz (intV hx.symm) ha
  · simp only [E0_G, SY, setArgs, off, agreeKind, partVals, vals, allocV, boxed, ldA, rdCells, oneB, aggD, aField, aFieldV, aExtract, eq_self, ne_eq, if_true, if_false, not_false_eq_true, Nat.reduceAdd, Nat.reduceSub, Nat.reduceMul, Nat.reduceLT, Nat.reduceEqDiff, Nat.reduceBEq, reduceIte, Int.reduceEq, Int.reduceLT, Int.reduceLE, reduceCtorEq, hx] at hz
    exact fin hz rfl ha
theorem c98 (k : K) (ks : List K) (f s l : Int) (hk : KeySet k) (hks : ∀ x ∈ ks, KeySet x) (hn : ks.length ≤ 1000) (hI : InkOk f s l) (S : AS) (v : Value) (hv : Keys S v ks) (px py : Nat) (gx : S.heap.get px = some (.cells [.int .i64 k.i, .int .i64 k.t, .int .i64 k.p] 38 0 true true)) (gy : S.heap.get py = some (.cells [.int .i64 f, .int .i64 s, .int .i64 l] 35 0 true true)) (lx : px < S.next) (ly : py < S.next) :
    ∃ S', (evL Tryz.prog E0).call 55 #[v, .func (.func 82) #[] #[.pointer (some ⟨px, 0, none⟩), .pointer (some ⟨py, 0, none⟩)]] S = some (.bool (ks.any (confK k f s)), S') ∧ Agree S S' := by
  obtain ⟨S1, k1, a1⟩ := c110 k ks f s l hk hks hn hI S v hv px py gx gy lx ly
  have hany := firstIx_any (confK k f s) ks 0
  generalize hz : (evL Tryz.prog E0).call 55 _ _ = z
  rw [L_call, evCall_said rfl Tryz.func55 rfl (by decide) Tryz.ntmps55 Tryz.results55] at hz
  simp only [E0_G, SY, setArgs, off, agreeKind, partVals, vals, allocV, boxed, ldA, rdCells, oneB, aggD, aField, aFieldV, aExtract, eq_self, ne_eq, if_true, if_false, not_false_eq_true, Nat.reduceAdd, Nat.reduceSub, Nat.reduceMul, Nat.reduceLT, Nat.reduceEqDiff, Nat.reduceBEq, reduceIte, Int.reduceEq, Int.reduceLT, Int.reduceLE, reduceCtorEq, k1] at hz
  refine fin hz (boolV ?_) a1
  cases h : ks.any (confK k f s) with
  | true => rw [h] at hany; simp at hany; simp; omega
  | false => rw [h] at hany; simp at hany; simp; omega
/-- The error of a key of a list by itself and by the key before. -/
def placeE (ks : List K) (i : Nat) : Int :=
  match ks[i]? with
  | none => 0
  | some k => if ¬ KeyOk k.i k.t k.p then 1 else match i with
    | 0 => 0
    | j + 1 => match ks[j]? with
      | none => 0
      | some k0 => if k.i ≤ k0.i then 6 else 0
set_option maxHeartbeats 1000000 in
theorem c97 (ks : List K) (i : Nat) (hi : i < ks.length) (hn : ks.length ≤ 1000) (S : AS) (v : Value) (hv : Keys S v ks) : ∃ S', (evL Tryz.prog E0).call 54 #[v, .int .i64 (i : Int)] S = some (.int .i64 (placeE ks i), S') ∧ Agree S S' := by
  have hx : ks[i]? = some ks[i] := List.getElem?_eq_getElem hi
  generalize ks[i] = x at hx
  obtain ⟨id, o, c, ty, wr, ex, i1, i2, i3, i4, i5, i6⟩ := keys_at hv hx
  obtain ⟨S1, k1, a1⟩ := c38 x.i x.t x.p S
  have j2 := (a1.2 id i3).trans i2
  generalize hz : (evL Tryz.prog E0).call 54 _ _ = z
  rw [L_call, evCall_said rfl Tryz.func54 rfl (by decide) Tryz.ntmps54 Tryz.results54] at hz
  by_cases hK : KeyOk x.i x.t x.p
  · rw [errV_pos hK] at k1
    cases i with
    | zero =>
      have i1 : aIndexAddr Tryz.prog 31 v (.int .i64 0) = some (.pointer (some ⟨id, o, none⟩)) := i1
      simp (disch := first | omega | assumption) only [E0_G, SY, setArgs, off, agreeKind, partVals, vals, allocV, boxed, ldA, rdCells, oneB, aggD, aField, aFieldV, aExtract, eq_self, ne_eq, if_true, if_false, not_false_eq_true, Nat.reduceAdd, Nat.reduceSub, Nat.reduceMul, Nat.reduceLT, Nat.reduceEqDiff, Nat.reduceBEq, reduceIte, Int.reduceEq, Int.reduceLT, Int.reduceLE, reduceCtorEq, i1, i2, i4, i5, i6, k1, Int.ofNat_zero, Int.natCast_zero, Tryz.underlying38, Tryz.underlying3, sz52, sz3] at hz
      rw [code_draws _ _ _ (by kernel_rfl)] at hz
      generalize needy _ = nd at hz
      simp (disch := first | omega | assumption) only [E0_G, SY, setArgs, off, agreeKind, partVals, vals, allocV, boxed, ldA, rdCells, oneB, aggD, aField, aFieldV, aExtract, eq_self, ne_eq, if_true, if_false, not_false_eq_true, Nat.reduceAdd, Nat.reduceSub, Nat.reduceMul, Nat.reduceLT, Nat.reduceEqDiff, Nat.reduceBEq, reduceIte, Int.reduceEq, Int.reduceLT, Int.reduceLE, reduceCtorEq, i1, i2, i4, i5, i6, j2, k1, Int.lt_irrefl, store_refl E0_same, Tryz.underlying38, Tryz.underlying3, sz52, sz3] at hz
      refine fin hz (intV ?_) a1
      unfold placeE
      simp [hx, hK]
    | succ j =>
      have hx0 : ks[j]? = some ks[j] := List.getElem?_eq_getElem (by omega)
      generalize ks[j] = x0 at hx0
      obtain ⟨id0, o0, c0, ty0, wr0, ex0, u1, u2, u3, u4, u5, u6⟩ := keys_at hv hx0
      have w2 := (a1.2 id0 u3).trans u2
      have wj : IntKind.i64.wrap (((j + 1 : Nat) : Int) - 1) = (j : Int) := by rw [IntWalk.i64_in] <;> omega
      have h0 : (0 : Int) < ((j + 1 : Nat) : Int) := by omega
      simp (disch := first | omega | assumption) only [E0_G, SY, setArgs, off, agreeKind, partVals, vals, allocV, boxed, ldA, rdCells, oneB, aggD, aField, aFieldV, aExtract, eq_self, ne_eq, if_true, if_false, not_false_eq_true, Nat.reduceAdd, Nat.reduceSub, Nat.reduceMul, Nat.reduceLT, Nat.reduceEqDiff, Nat.reduceBEq, reduceIte, Int.reduceEq, Int.reduceLT, Int.reduceLE, reduceCtorEq, i1, i2, i4, i5, i6, k1, Tryz.underlying38, Tryz.underlying3, sz52, sz3] at hz
      rw [code_draws _ _ _ (by kernel_rfl)] at hz
      generalize needy _ = nd at hz
      by_cases h1 : x.i ≤ x0.i
      · simp (disch := first | omega | assumption) only [E0_G, SY, setArgs, off, agreeKind, partVals, vals, allocV, boxed, ldA, rdCells, oneB, aggD, aField, aFieldV, aExtract, eq_self, ne_eq, if_true, if_false, not_false_eq_true, Nat.reduceAdd, Nat.reduceSub, Nat.reduceMul, Nat.reduceLT, Nat.reduceEqDiff, Nat.reduceBEq, reduceIte, Int.reduceEq, Int.reduceLT, Int.reduceLE, reduceCtorEq, i1, i2, i4, i5, i6, j2, k1, u1, u2, u4, u5, u6, w2, wj, h0, h1, store_refl E0_same, Tryz.underlying38, Tryz.underlying3, sz52, sz3] at hz
        refine fin hz (intV ?_) a1
        unfold placeE
        simp [hx, hK, hx0, h1]
      · simp (disch := first | omega | assumption) only [E0_G, SY, setArgs, off, agreeKind, partVals, vals, allocV, boxed, ldA, rdCells, oneB, aggD, aField, aFieldV, aExtract, eq_self, ne_eq, if_true, if_false, not_false_eq_true, Nat.reduceAdd, Nat.reduceSub, Nat.reduceMul, Nat.reduceLT, Nat.reduceEqDiff, Nat.reduceBEq, reduceIte, Int.reduceEq, Int.reduceLT, Int.reduceLE, reduceCtorEq, i1, i2, i4, i5, i6, j2, k1, u1, u2, u4, u5, u6, w2, wj, h0, h1, store_refl E0_same, Tryz.underlying38, Tryz.underlying3, sz52, sz3] at hz
        refine fin hz (intV ?_) a1
        unfold placeE
        simp [hx, hK, hx0, h1]
  · rw [errV_neg hK] at k1
    simp (disch := first | omega | assumption) only [E0_G, SY, setArgs, off, agreeKind, partVals, vals, allocV, boxed, ldA, rdCells, oneB, aggD, aField, aFieldV, aExtract, eq_self, ne_eq, if_true, if_false, not_false_eq_true, Nat.reduceAdd, Nat.reduceSub, Nat.reduceMul, Nat.reduceLT, Nat.reduceEqDiff, Nat.reduceBEq, reduceIte, Int.reduceEq, Int.reduceLT, Int.reduceLE, reduceCtorEq, i1, i2, i4, i5, i6, k1, Tryz.underlying38, Tryz.underlying3, sz52, sz3] at hz
    refine fin hz (intV ?_) a1
    unfold placeE
    simp [hx, hK]
theorem keys_one {S : AS} {v : Value} {ks : List K} (h : Keys S v ks) : v.cells = #[v] ∧ oneB v = true := by
  rcases h with ⟨_, rfl | rfl⟩ | ⟨id, off, c, ty, cap, wr, ex, rfl, h⟩ <;> exact ⟨rfl, rfl⟩
theorem keys_take {S : AS} {v : Value} {ks : List K} (h : Keys S v ks) {i : Nat} (hi : i < ks.length) : ∃ v', aSlice Tryz.prog 31 v none (some (.int .i64 (i : Int))) S = some v' ∧ Keys S v' (ks.take i) := by
  rcases h with ⟨h1, _⟩ | ⟨id, off, c, ty, cap, wr, ex, rfl, h1, h2, h3, h4⟩
  · have : ks = [] := by simpa using h1
    subst this
    simp at hi
  · have hl : (ks.map K.row).length = ks.length := by simp
    rw [hl] at h1
    have b0 : Nat.ble 0 i = true := Nat.ble_eq_true_of_le (Nat.zero_le _)
    have b1 : Nat.ble i cap = true := Nat.ble_eq_true_of_le (by omega)
    have b2 : Nat.beq cap 0 = false := by
      cases cap with
      | zero => omega
      | succ n => rfl
    refine ⟨.slice (some ⟨id, off, none⟩) i cap, ?_, .inr ⟨id, off, c, ty, cap, wr, ex, by simp; omega, by simp; omega, h2, h3, fun m ns hm j hj => ?_⟩⟩
    · have e3 : Nat.beq ([IntKind.i64, .i64, .i64] : List IntKind).length 3 = true := rfl
      simp [aSlice, und43, h2, sz52, natOr, b0, b1, b2, Addr.add]
    · refine h4 m ns ?_ j hj
      rw [List.map_take, List.getElem?_take] at hm
      split at hm
      · exact hm
      · simp at hm
/-- The error of a key of a list. -/
def keyE (ks : List K) (f s : Int) (i : Nat) : Int := if placeE ks i ≠ 0 then placeE ks i else match ks[i]? with
  | none => 0
  | some k => if (ks.take i).any (confK k f s) = true then 9 else 0
theorem place_ok {ks : List K} {i : Nat} {k : K} (hk : ks[i]? = some k) (h : placeE ks i = 0) : KeyOk k.i k.t k.p := by
  unfold placeE at h
  rw [hk] at h
  simp only at h
  by_cases hK : KeyOk k.i k.t k.p
  · exact hK
  · rw [if_pos hK] at h
    simp at h
theorem keyE_place {ks : List K} {f s : Int} {i : Nat} (h : keyE ks f s i = 0) : placeE ks i = 0 := by
  unfold keyE at h
  by_cases hp : placeE ks i = 0
  · exact hp
  · rw [if_pos hp] at h; exact absurd h hp
theorem take_ok {ks : List K} {f s : Int} {i : Nat} (h : ∀ j, j < i → keyE ks f s j = 0) : ∀ x ∈ ks.take i, KeySet x := by
  intro x hx
  obtain ⟨j, hj⟩ := List.getElem?_of_mem hx
  rw [List.getElem?_take] at hj
  split at hj
  · exact (place_ok hj (keyE_place (h j (by assumption)))).set
  · simp at hj
set_option maxHeartbeats 2000000 in
theorem c96 (k : K) (ks : List K) (i : Nat) (hx : ks[i]? = some k) (hn : ks.length ≤ 1000) (f s l : Int) (hI : InkOk f s l) (hb : ∀ j, j < i → keyE ks f s j = 0) (S : AS) (v : Value) (hv : Keys S v ks) (px py : Nat) (gx : S.heap.get px = some (.cells [v] 31 0 true true)) (gy : S.heap.get py = some (.cells [.int .i64 f, .int .i64 s, .int .i64 l] 35 0 true true)) (lx : px < S.next) (ly : py < S.next) :
    ∃ S', (evL Tryz.prog E0).call 53 #[.int .i64 (i : Int), .agg #[.int .i64 k.i, .int .i64 k.t, .int .i64 k.p], .pointer (some ⟨px, 0, none⟩), .pointer (some ⟨py, 0, none⟩)] S = some (.int .i64 (keyE ks f s i), S') ∧ Agree S S' := by
  have hi := (List.getElem?_eq_some_iff.1 hx).1
  obtain ⟨hc1, hc2⟩ := keys_one hv
  obtain ⟨S1, e1, n1, b1, a1⟩ := push_open S (.cells [.int .i64 k.i, .int .i64 k.t, .int .i64 k.p] 38 0 true true)
  obtain ⟨S2, k2, a2⟩ := c97 ks i hi hn S1 v (hv.agree a1)
  have gx1 := (a1.2 px lx).trans gx
  have gy1 := (a1.2 py ly).trans gy
  have gx2 := (a2.2 px (by omega)).trans gx1
  have gy2 := (a2.2 py (by omega)).trans gy1
  have b2 := (a2.2 S.next (by omega)).trans b1
  have l2 := a2.1
  generalize hz : (evL Tryz.prog E0).call 53 _ _ = z
  rw [L_call, evCall_said rfl Tryz.func53 rfl (by decide) Tryz.ntmps53 Tryz.results53] at hz
  rcases deq (placeE ks i) 0 with ⟨h1, h2⟩ | ⟨h1, h2⟩
  · have hK := place_ok hx h2
    obtain ⟨v', t1, t2⟩ := keys_take (hv.agree (a1.trans a2)) hi
    obtain ⟨S3, x, y, k3, a3, g3, g4, l3, l4⟩ := c99 k f s l S2
    obtain ⟨S4, k4, a4⟩ := c98 k (ks.take i) f s l hK.set (take_ok hb) (by rw [List.length_take]; omega) hI S3 v' (t2.agree a3) x y g3 g4 l3 l4
    have s3 : E0.same S2 S3 = true := symEnv_same a3
    have s4 : E0.same S3 S4 = true := symEnv_same a4
    simp (disch := first | omega | assumption) only [E0_G, SY, setArgs, off, agreeKind, partVals, vals, allocV, boxed, ldA, rdCells, oneB, aggD, aField, aFieldV, aExtract, eq_self, ne_eq, if_true, if_false, not_false_eq_true, Nat.reduceAdd, Nat.reduceSub, Nat.reduceMul, Nat.reduceLT, Nat.reduceEqDiff, Nat.reduceBEq, reduceIte, Int.reduceEq, Int.reduceLT, Int.reduceLE, reduceCtorEq, e1, gx1, hc1, k2, h1, und43, Tryz.underlying38, Tryz.underlying3, Tryz.underlying24, sz52, sz3] at hz
    rw [code_draws _ _ _ (by kernel_rfl)] at hz
    generalize needy _ = nd at hz
    have hE : keyE ks f s i = if (ks.take i).any (confK k f s) = true then 9 else 0 := by unfold keyE; rw [if_neg (by simpa using h2), hx]
    by_cases h3 : (ks.take i).any (confK k f s) = true
    · rw [h3] at k4
      rw [if_pos h3] at hE
      simp (disch := first | omega | assumption) only [E0_G, SY, setArgs, off, agreeKind, partVals, vals, allocV, boxed, ldA, rdCells, oneB, aggD, aField, aFieldV, aExtract, eq_self, ne_eq, if_true, if_false, not_false_eq_true, Nat.reduceAdd, Nat.reduceSub, Nat.reduceMul, Nat.reduceLT, Nat.reduceEqDiff, Nat.reduceBEq, reduceIte, Int.reduceEq, Int.reduceLT, Int.reduceLE, reduceCtorEq, op_sliceHi, gx2, gy2, b2, t1, k3, k4, s3, s4, store_agree, store_refl E0_same, und43, Tryz.underlying38, Tryz.underlying35, Tryz.underlying3, Tryz.underlying24, sz52, sz45, sz3] at hz
      exact fin hz (intV hE.symm) (((a1.trans a2).trans a3).trans a4)
    · rw [Bool.eq_false_iff.2 h3] at k4
      rw [if_neg h3] at hE
      simp (disch := first | omega | assumption) only [E0_G, SY, setArgs, off, agreeKind, partVals, vals, allocV, boxed, ldA, rdCells, oneB, aggD, aField, aFieldV, aExtract, eq_self, ne_eq, if_true, if_false, not_false_eq_true, Nat.reduceAdd, Nat.reduceSub, Nat.reduceMul, Nat.reduceLT, Nat.reduceEqDiff, Nat.reduceBEq, reduceIte, Int.reduceEq, Int.reduceLT, Int.reduceLE, reduceCtorEq, op_sliceHi, gx2, gy2, b2, t1, k3, k4, s3, s4, store_agree, store_refl E0_same, und43, Tryz.underlying38, Tryz.underlying35, Tryz.underlying3, Tryz.underlying24, sz52, sz45, sz3] at hz
      exact fin hz (intV hE.symm) (((a1.trans a2).trans a3).trans a4)
  · have hE : keyE ks f s i = placeE ks i := by unfold keyE; rw [if_pos h2]
    simp (disch := first | omega | assumption) only [E0_G, SY, setArgs, off, agreeKind, partVals, vals, allocV, boxed, ldA, rdCells, oneB, aggD, aField, aFieldV, aExtract, eq_self, ne_eq, if_true, if_false, not_false_eq_true, Nat.reduceAdd, Nat.reduceSub, Nat.reduceMul, Nat.reduceLT, Nat.reduceEqDiff, Nat.reduceBEq, reduceIte, Int.reduceEq, Int.reduceLT, Int.reduceLE, reduceCtorEq, e1, gx1, hc1, k2, h1, und43, Tryz.underlying38, Tryz.underlying3, Tryz.underlying24, sz52, sz3] at hz
    exact fin hz (intV hE.symm) (a1.trans a2)
end Great
end Go.Proofs
end
section
/-
  The great seat of stage 1 at c2f8ee9: CheckKeys.
-/
set_option linter.unusedSimpArgs false
set_option linter.unusedVariables false
namespace Go.Proofs
namespace Great
open Go Go.RowKit Go.Aev
set_option maxRecDepth 100000
/-- The first error that is not 0, and its place. -/
def exFrom (e : Nat → Int) : Nat → Nat → Int × Int
  | 0, _ => (0, -1)
  | m + 1, k => if e k = 0 then exFrom e m (k + 1) else (e k, (k : Int))
theorem exFrom_step (e : Nat → Int) (m k : Nat) : exFrom e (m + 1) k = if e k = 0 then exFrom e m (k + 1) else (e k, (k : Int)) := rfl
def exV (ks : List K) (f s : Int) : Int × Int := if 40 < (ks.length : Int) then (2, -1) else exFrom (keyE ks f s) ks.length 0
set_option maxHeartbeats 2000000 in
theorem c95 (ks : List K) (hn : ks.length ≤ 1000) (f s l : Int) (hI : InkOk f s l) (S : AS) (v : Value) (hv : Keys S v ks) (px py : Nat) (gx : S.heap.get px = some (.cells [v] 31 0 true true)) (gy : S.heap.get py = some (.cells [.int .i64 f, .int .i64 s, .int .i64 l] 35 0 true true)) (lx : px < S.next) (ly : py < S.next) :
    ∃ S', (evL Tryz.prog E0).call 52 #[v, .int .i64 40, .func (.func 53) #[] #[.pointer (some ⟨px, 0, none⟩), .pointer (some ⟨py, 0, none⟩)]] S = some (.tuple #[.int .i64 (exV ks f s).1, .int .i64 (exV ks f s).2], S') ∧ Agree S S' := by
  have hlen := keys_len hv
  generalize hz : (evL Tryz.prog E0).call 52 _ _ = z
  rw [L_call, evCall_said rfl Tryz.func52 rfl (by decide) Tryz.ntmps52 Tryz.results52] at hz
  by_cases h40 : 40 < (ks.length : Int)
  · have hE : exV ks f s = (2, -1) := if_pos h40
    simp only [E0_G, SY, setArgs, off, agreeKind, partVals, vals, allocV, boxed, ldA, rdCells, oneB, aggD, aField, aFieldV, aExtract, eq_self, ne_eq, if_true, if_false, not_false_eq_true, Nat.reduceAdd, Nat.reduceSub, Nat.reduceMul, Nat.reduceLT, Nat.reduceEqDiff, Nat.reduceBEq, reduceIte, Int.reduceEq, Int.reduceLT, Int.reduceLE, reduceCtorEq, op_len, hlen, h40] at hz
    exact fin hz (by rw [hE]) (Agree.refl S)
  have hE : exV ks f s = exFrom (keyE ks f s) ks.length 0 := if_neg h40
  rw [hE]
  simp only [E0_G, SY, setArgs, off, agreeKind, partVals, vals, allocV, boxed, ldA, rdCells, oneB, aggD, aField, aFieldV, aExtract, eq_self, ne_eq, if_true, if_false, not_false_eq_true, Nat.reduceAdd, Nat.reduceSub, Nat.reduceMul, Nat.reduceLT, Nat.reduceEqDiff, Nat.reduceBEq, reduceIte, Int.reduceEq, Int.reduceLT, Int.reduceLE, reduceCtorEq, op_len, hlen, h40, code_loop] at hz
  generalize hL : Rec.loop _ _ _ _ = L at hz
  obtain ⟨x, t', S', rfl, ha, hx⟩ := loop_met hL (fun m t S' => ∃ j : Nat, m + j = ks.length ∧ t.get 15 = some v ∧ t.get 2 = some (.func (.func 53) #[] #[.pointer (some ⟨px, 0, none⟩), .pointer (some ⟨py, 0, none⟩)]) ∧ t.get 16 = some (.int .i64 (ks.length : Int)) ∧ t.get 17 = some (.int .i64 (j : Int)) ∧ Agree S S' ∧ (∀ i, i < j → keyE ks f s i = 0) ∧ exFrom (keyE ks f s) m j = exFrom (keyE ks f s) ks.length 0)
    (fun x t S' => Agree S S' ∧ ((x = .exit 0 ∧ exFrom (keyE ks f s) ks.length 0 = (0, -1)) ∨ (x = .ret ∧ t.get 6 = some (.int .i64 (exFrom (keyE ks f s) ks.length 0).1) ∧ t.get 7 = some (.int .i64 (exFrom (keyE ks f s) ks.length 0).2)))) ks.length ⟨0, rfl, by simp only [get_sel, Nat.reduceBEq, sel_true, sel_false], by simp only [get_sel, Nat.reduceBEq, sel_true, sel_false], by simp only [get_sel, Nat.reduceBEq, sel_true, sel_false], by simp only [get_sel, Nat.reduceBEq, sel_true, sel_false]; rfl, Agree.refl S, fun i hi => absurd hi (Nat.not_lt_zero i), rfl⟩ (by
      rintro m t S' ⟨j, hj, g15, g2, g16, g17, ha, hb, hd⟩
      refine .run fun z he => ?_
      by_cases h : (j : Int) < (ks.length : Int)
      · have w1 : IntKind.i64.wrap ((j : Int) + 1) = ((j + 1 : Nat) : Int) := by rw [IntWalk.i64_in] <;> omega
        have hjl : j < ks.length := by omega
        have hx : ks[j]? = some ks[j] := List.getElem?_eq_getElem hjl
        generalize ks[j] = x at hx
        obtain ⟨id, o, c, ty, wr, ex, i1, i2, i3, i4, i5, i6⟩ := keys_at (hv.agree ha) hx
        have lnx := ha.1
        obtain ⟨S1, e1, n1, b1, a1⟩ := push_open S' (.cells [.int .i64 0, .int .i64 0, .int .i64 0] 38 0 true true)
        obtain ⟨S2, k2, n2, b2, o2⟩ := st_open (vs := [.int .i64 x.i, .int .i64 x.t, .int .i64 x.p]) sz52 b1 rfl rfl rfl
        have a2 : Agree S S2 := ⟨by omega, fun q hq => (o2 q (by omega)).trans ((a1.2 q (by omega)).trans (ha.2 q hq))⟩
        obtain ⟨S3, k3, a3⟩ := c96 x ks j hx hn f s l hI hb S2 v (hv.agree a2) px py ((a2.2 px lx).trans gx) ((a2.2 py ly).trans gy) (by omega) (by omega)
        obtain ⟨m, rfl⟩ : ∃ m', m = m' + 1 := ⟨m - 1, by omega⟩
        rw [exFrom_step] at hd
        rcases deq (keyE ks f s j) 0 with ⟨h1, h2⟩ | ⟨h1, h2⟩
        · rw [if_pos h2] at hd
          simp (disch := first | omega | assumption) only [E0_G, SY, setArgs, off, agreeKind, partVals, vals, allocV, boxed, ldA, rdCells, oneB, aggD, aField, aFieldV, aExtract, eq_self, ne_eq, if_true, if_false, not_false_eq_true, Nat.reduceAdd, Nat.reduceSub, Nat.reduceMul, Nat.reduceLT, Nat.reduceEqDiff, Nat.reduceBEq, reduceIte, Int.reduceEq, Int.reduceLT, Int.reduceLE, reduceCtorEq, op_callV, calledV_some, List.nil_append, Array.empty_append, List.append_toArray, List.cons_append, g15, g2, g16, g17, h, i1, i2, i4, i5, i6, inTab52, zero52, e1, b1, k2, b2, k3, h1, w1, und43, Tryz.underlying38, Tryz.underlying24, Tryz.underlying3, sz52, sz3] at he
          exact .next he m (by omega) ⟨j + 1, by omega, by simp only [SY, setArgs, off, agreeKind, partVals, vals, allocV, boxed, ldA, rdCells, oneB, aggD, aField, aFieldV, aExtract, eq_self, ne_eq, if_true, if_false, not_false_eq_true, Nat.reduceAdd, Nat.reduceSub, Nat.reduceMul, Nat.reduceLT, Nat.reduceEqDiff, Nat.reduceBEq, reduceIte, Int.reduceEq, Int.reduceLT, Int.reduceLE, reduceCtorEq, g15], by simp only [SY, setArgs, off, agreeKind, partVals, vals, allocV, boxed, ldA, rdCells, oneB, aggD, aField, aFieldV, aExtract, eq_self, ne_eq, if_true, if_false, not_false_eq_true, Nat.reduceAdd, Nat.reduceSub, Nat.reduceMul, Nat.reduceLT, Nat.reduceEqDiff, Nat.reduceBEq, reduceIte, Int.reduceEq, Int.reduceLT, Int.reduceLE, reduceCtorEq, g2], by simp only [SY, setArgs, off, agreeKind, partVals, vals, allocV, boxed, ldA, rdCells, oneB, aggD, aField, aFieldV, aExtract, eq_self, ne_eq, if_true, if_false, not_false_eq_true, Nat.reduceAdd, Nat.reduceSub, Nat.reduceMul, Nat.reduceLT, Nat.reduceEqDiff, Nat.reduceBEq, reduceIte, Int.reduceEq, Int.reduceLT, Int.reduceLE, reduceCtorEq, g16], by simp only [SY, setArgs, off, agreeKind, partVals, vals, allocV, boxed, ldA, rdCells, oneB, aggD, aField, aFieldV, aExtract, eq_self, ne_eq, if_true, if_false, not_false_eq_true, Nat.reduceAdd, Nat.reduceSub, Nat.reduceMul, Nat.reduceLT, Nat.reduceEqDiff, Nat.reduceBEq, reduceIte, Int.reduceEq, Int.reduceLT, Int.reduceLE, reduceCtorEq], a2.trans a3, fun i hi => by
            rcases Nat.lt_succ_iff_lt_or_eq.1 hi with h | rfl
            · exact hb i h
            · exact h2, hd⟩
        · rw [if_neg h2] at hd
          simp (disch := first | omega | assumption) only [E0_G, SY, setArgs, off, agreeKind, partVals, vals, allocV, boxed, ldA, rdCells, oneB, aggD, aField, aFieldV, aExtract, eq_self, ne_eq, if_true, if_false, not_false_eq_true, Nat.reduceAdd, Nat.reduceSub, Nat.reduceMul, Nat.reduceLT, Nat.reduceEqDiff, Nat.reduceBEq, reduceIte, Int.reduceEq, Int.reduceLT, Int.reduceLE, reduceCtorEq, op_callV, calledV_some, List.nil_append, Array.empty_append, List.append_toArray, List.cons_append, g15, g2, g16, g17, h, i1, i2, i4, i5, i6, inTab52, zero52, e1, b1, k2, b2, k3, h1, w1, und43, Tryz.underlying38, Tryz.underlying24, Tryz.underlying3, sz52, sz3] at he
          exact .ret he ⟨a2.trans a3, .inr ⟨rfl, by simp only [SY, setArgs, off, agreeKind, partVals, vals, allocV, boxed, ldA, rdCells, oneB, aggD, aField, aFieldV, aExtract, eq_self, ne_eq, if_true, if_false, not_false_eq_true, Nat.reduceAdd, Nat.reduceSub, Nat.reduceMul, Nat.reduceLT, Nat.reduceEqDiff, Nat.reduceBEq, reduceIte, Int.reduceEq, Int.reduceLT, Int.reduceLE, reduceCtorEq, ← hd], by simp only [SY, setArgs, off, agreeKind, partVals, vals, allocV, boxed, ldA, rdCells, oneB, aggD, aField, aFieldV, aExtract, eq_self, ne_eq, if_true, if_false, not_false_eq_true, Nat.reduceAdd, Nat.reduceSub, Nat.reduceMul, Nat.reduceLT, Nat.reduceEqDiff, Nat.reduceBEq, reduceIte, Int.reduceEq, Int.reduceLT, Int.reduceLE, reduceCtorEq, ← hd]⟩⟩
      · obtain rfl : m = 0 := by omega
        simp only [E0_G, SY, setArgs, off, agreeKind, partVals, vals, allocV, boxed, ldA, rdCells, oneB, aggD, aField, aFieldV, aExtract, eq_self, ne_eq, if_true, if_false, not_false_eq_true, Nat.reduceAdd, Nat.reduceSub, Nat.reduceMul, Nat.reduceLT, Nat.reduceEqDiff, Nat.reduceBEq, reduceIte, Int.reduceEq, Int.reduceLT, Int.reduceLE, reduceCtorEq, g15, g2, g16, g17, h] at he
        exact .exit he ⟨ha, .inl ⟨rfl, hd.symm⟩⟩)
  rcases hx with ⟨rfl, hx⟩ | ⟨rfl, hx, hx2⟩
  · simp only [E0_G, SY, setArgs, off, agreeKind, partVals, vals, allocV, boxed, ldA, rdCells, oneB, aggD, aField, aFieldV, aExtract, eq_self, ne_eq, if_true, if_false, not_false_eq_true, Nat.reduceAdd, Nat.reduceSub, Nat.reduceMul, Nat.reduceLT, Nat.reduceEqDiff, Nat.reduceBEq, reduceIte, Int.reduceEq, Int.reduceLT, Int.reduceLE, reduceCtorEq, hx] at hz
    exact fin hz (by rw [hx]) ha
  · simp only [E0_G, SY, setArgs, off, agreeKind, partVals, vals, allocV, boxed, ldA, rdCells, oneB, aggD, aField, aFieldV, aExtract, eq_self, ne_eq, if_true, if_false, not_false_eq_true, Nat.reduceAdd, Nat.reduceSub, Nat.reduceMul, Nat.reduceLT, Nat.reduceEqDiff, Nat.reduceBEq, reduceIte, Int.reduceEq, Int.reduceLT, Int.reduceLE, reduceCtorEq, hx, hx2] at hz
    exact fin hz rfl ha
def chk (ks : List K) (f s l : Int) : Int × Int := if InkOk f s l then exV ks f s else (1, -1)
set_option maxHeartbeats 1000000 in
theorem c34 (ks : List K) (hn : ks.length ≤ 1000) (f s l : Int) (S : AS) (v : Value) (hv : Keys S v ks) :
    ∃ S', (evL Tryz.prog E0).call 23 #[v, .agg #[.int .i64 f, .int .i64 s, .int .i64 l]] S = some (.tuple #[.int .i64 (chk ks f s l).1, .int .i64 (chk ks f s l).2], S') ∧ Agree S S' := by
  obtain ⟨hc1, hc2⟩ := keys_one hv
  obtain ⟨S1, e1, n1, b1, a1⟩ := push_open S (.cells [v] 31 0 true true)
  obtain ⟨S2, e2, n2, b2, a2⟩ := push_open S1 (.cells [.int .i64 f, .int .i64 s, .int .i64 l] 35 0 true true)
  obtain ⟨S3, k3, a3⟩ := c36 f s l S2
  have x2 := (a2.2 S.next (by omega)).trans b1
  have x3 := (a3.2 S.next (by omega)).trans x2
  have y3 := (a3.2 S1.next (by omega)).trans b2
  have l3 := a3.1
  generalize hz : (evL Tryz.prog E0).call 23 _ _ = z
  rw [L_call, evCall_said rfl Tryz.func23 rfl (by decide) Tryz.ntmps23 Tryz.results23] at hz
  by_cases hI : InkOk f s l
  · rw [errV_pos hI] at k3
    obtain ⟨S4, k4, a4⟩ := c95 ks hn f s l hI S3 v (hv.agree ((a1.trans a2).trans a3)) S.next S1.next x3 y3 (by omega) (by omega)
    simp (disch := first | omega | assumption) only [E0_G, SY, setArgs, off, agreeKind, partVals, vals, allocV, boxed, ldA, rdCells, oneB, aggD, aField, aFieldV, aExtract, eq_self, ne_eq, if_true, if_false, not_false_eq_true, Nat.reduceAdd, Nat.reduceSub, Nat.reduceMul, Nat.reduceLT, Nat.reduceEqDiff, Nat.reduceBEq, reduceIte, Int.reduceEq, Int.reduceLT, Int.reduceLE, reduceCtorEq, e1, e2, hc1, x2, b2, k3, x3, y3, op_makeFunc, Op.operands, List.map_toArray, List.append_toArray, List.append_nil, List.nil_append, Option.getD_some, k4, aExtract, und43, Tryz.underlying35, Tryz.underlying24, sz45] at hz
    exact fin hz (by unfold chk; rw [if_pos hI]) (((a1.trans a2).trans a3).trans a4)
  · rw [errV_neg hI] at k3
    simp (disch := first | omega | assumption) only [E0_G, SY, setArgs, off, agreeKind, partVals, vals, allocV, boxed, ldA, rdCells, oneB, aggD, aField, aFieldV, aExtract, eq_self, ne_eq, if_true, if_false, not_false_eq_true, Nat.reduceAdd, Nat.reduceSub, Nat.reduceMul, Nat.reduceLT, Nat.reduceEqDiff, Nat.reduceBEq, reduceIte, Int.reduceEq, Int.reduceLT, Int.reduceLE, reduceCtorEq, e1, e2, hc1, x2, b2, k3, x3, y3, und43, Tryz.underlying35, Tryz.underlying24, sz45] at hz
    exact fin hz (by unfold chk; rw [if_neg hI]) ((a1.trans a2).trans a3)
end Great
end Go.Proofs
end
section
/-
  The great seat of stage 1 at c2f8ee9: the reference's CheckKeys.
-/
set_option linter.unusedSimpArgs false
set_option linter.unusedVariables false
namespace Go.Proofs
namespace Great
open Go Go.RowKit Go.Aev
set_option maxRecDepth 100000
theorem zc : ((0 : Nat) : Int) = 0 := rfl
theorem conf_is {x k : K} {f s l : Int} (hx : KeyOk x.i x.t x.p) (hk : KeyOk k.i k.t k.p) (hI : InkOk f s l) : decide (Conf x.i x.t x.p k.i k.t k.p f s l) = confK k f s x := by
  unfold confK Conf ConfP
  simp only [hx, hk, hI, true_and]
  exact decide_eq_decide.2 ⟨fun ⟨a, b, c⟩ => ⟨b, a, c.symm⟩, fun ⟨a, b, c⟩ => ⟨b, a, c.symm⟩⟩
theorem take_any {ks : List K} {q : K → Bool} {j : Nat} {x : K} (hx : ks[j]? = some x) : (ks.take (j + 1)).any q = ((ks.take j).any q || q x) := by
  rw [List.take_add_one, hx]
  simp
theorem any_more {ks : List K} {q : K → Bool} {j k : Nat} {x : K} (hx : ks[j]? = some x) (hj : j < k) (h : q x = true) : (ks.take k).any q = true := by
  refine List.any_eq_true.2 ⟨x, ?_, h⟩
  exact List.mem_of_getElem? (i := j) (by rw [List.getElem?_take, if_pos hj]; exact hx)
end Great
end Go.Proofs
end
