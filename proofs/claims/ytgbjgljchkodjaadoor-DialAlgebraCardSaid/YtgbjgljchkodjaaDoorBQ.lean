/-
  BQ: EvQ1, EvQ2, EvQ3, EvQ4.
-/
import Derived.Test.YtgbjgljchkodjaaDoorBS
import Derived.Test.YtgbjgljchkodjaaDoorBN
section
/-
  The great seat of stage 1: cuts in place: two elements change their places.
-/
set_option linter.unusedSimpArgs false
set_option linter.unusedVariables false
namespace Go.Proofs
namespace Great
open Go Go.RowKit Go.Aev
set_option maxRecDepth 100000

/-- Two elements change their places (the first one is written first). -/
def swp (l : List Ct) (i j : Nat) : List Ct := (l.set i (lget l j)).set j (lget l i)
theorem swp_len (l : List Ct) (i j : Nat) : (swp l i j).length = l.length := by unfold swp; rw [List.length_set, List.length_set]
theorem lget_set' (l : List Ct) (i j : Nat) (x : Ct) (h : i < l.length) : lget (l.set i x) j = if i = j then x else lget l j := by
  unfold lget
  rw [List.getD_eq_getElem?_getD, List.getD_eq_getElem?_getD, List.getElem?_set]
  by_cases c : i = j
  · subst c; simp [h]
  · simp [c]
theorem lget_swp (l : List Ct) (i j q : Nat) (hi : i < l.length) (hj : j < l.length) : lget (swp l i j) q = if j = q then lget l i else if i = q then lget l j else lget l q := by
  unfold swp
  rw [lget_set' _ _ _ _ (by rw [List.length_set]; exact hj), lget_set' _ _ _ _ hi]
theorem list_lget {a b : List Ct} (hl : a.length = b.length) (h : ∀ i, i < a.length → lget a i = lget b i) : a = b := by
  apply List.ext_getElem hl
  intro i h1 h2
  have := h i h1
  unfold lget at this
  rw [List.getD_eq_getElem?_getD, List.getD_eq_getElem?_getD, List.getElem?_eq_getElem h1, List.getElem?_eq_getElem h2] at this
  exact this
/-- What stands in a list is permuted by what permutes places: here by two of them. -/
theorem swp_perm (l : List Ct) (i j : Nat) (hi : i < l.length) (hj : j < l.length) : (swp l i j).Perm l := by
  -- by steps of one place
  have one : ∀ (l : List Ct) (i : Nat), i + 1 < l.length → (swp l i (i + 1)).Perm l := by
    intro l
    induction l with
    | nil => intro i h; simp at h
    | cons x l ih =>
      intro i h
      cases i with
      | zero =>
        cases l with
        | nil => simp at h
        | cons y l => exact List.Perm.swap x y l
      | succ i =>
        have := ih i (by simp only [List.length_cons] at h; omega)
        show (x :: swp l i (i + 1)).Perm (x :: l)
        exact List.Perm.cons x this
  have far : ∀ (d : Nat) (l : List Ct) (i : Nat), i + d + 1 < l.length → (swp l i (i + d + 1)).Perm l := by
    intro d
    induction d with
    | zero => intro l i h; exact one l i h
    | succ d ih =>
      intro l i h
      have e : swp l i (i + (d + 1) + 1) = swp (swp (swp l i (i + 1)) (i + 1) (i + 1 + d + 1)) i (i + 1) := by
        apply list_lget
        · rw [swp_len, swp_len, swp_len, swp_len]
        · intro q hq
          rw [swp_len] at hq
          have L1 : (swp l i (i + 1)).length = l.length := swp_len _ _ _
          have L2 : (swp (swp l i (i + 1)) (i + 1) (i + 1 + d + 1)).length = l.length := by rw [swp_len, L1]
          have e3 := fun q => lget_swp (swp (swp l i (i + 1)) (i + 1) (i + 1 + d + 1)) i (i + 1) q (by omega) (by omega)
          have e2 := fun q => lget_swp (swp l i (i + 1)) (i + 1) (i + 1 + d + 1) q (by omega) (by omega)
          have e1 := fun q => lget_swp l i (i + 1) q (by omega) (by omega)
          have e0 := fun q => lget_swp l i (i + (d + 1) + 1) q (by omega) (by omega)
          rw [show i + (d + 1) + 1 = i + 1 + d + 1 by omega] at e0 ⊢
          simp only [e0, e3, e2, e1]
          clear e0 e1 e2 e3 L1 L2 ih one hi hj
          repeat' split
          all_goals first | rfl | exact absurd trivial (by assumption) | omega | (congr 1; omega)
      rw [e]
      have h1 := ih (swp l i (i + 1)) (i + 1) (by rw [swp_len]; omega)
      have h2 := one (swp (swp l i (i + 1)) (i + 1) (i + 1 + d + 1)) i (by rw [swp_len, swp_len]; omega)
      exact h2.trans (h1.trans (one l i (by omega)))
  rcases Nat.lt_trichotomy i j with c | c | c
  · have := far (j - i - 1) l i (by omega)
    rw [show i + (j - i - 1) + 1 = j by omega] at this
    exact this
  · subst c
    have : swp l i i = l := by
      apply list_lget (swp_len _ _ _)
      intro q hq
      rw [lget_swp _ _ _ _ hi hi]
      split
      · rename_i h; rw [h]
      · rfl
    rw [this]
  · have e : swp l i j = swp l j i := by
      apply list_lget (by rw [swp_len, swp_len])
      intro q hq
      rw [lget_swp _ _ _ _ hi hj, lget_swp _ _ _ _ hj hi]
      repeat' split
      all_goals first | rfl | omega
    rw [e]
    have := far (i - j - 1) l j (by omega)
    rw [show j + (i - j - 1) + 1 = i by omega] at this
    exact this

/-- By exchanges within [a, b). -/
inductive Sw (a b : Nat) (l : List Ct) : List Ct → Prop
  | refl : Sw a b l l
  | step {l' : List Ct} (i j : Nat) : Sw a b l l' → a ≤ i → i < b → a ≤ j → j < b → b ≤ l.length → Sw a b l (swp l' i j)
theorem Sw.len {a b : Nat} {l l' : List Ct} (h : Sw a b l l') : l'.length = l.length := by
  induction h with
  | refl => rfl
  | step i j _ _ _ _ _ _ ih => rw [swp_len, ih]
theorem Sw.perm {a b : Nat} {l l' : List Ct} (h : Sw a b l l') : l'.Perm l := by
  induction h with
  | refl => exact List.Perm.refl _
  | step i j hs h1 h2 h3 h4 h5 ih => exact (swp_perm _ i j (by rw [hs.len]; omega) (by rw [hs.len]; omega)).trans ih
theorem Sw.trans {a b : Nat} {l l' l2 : List Ct} (h : Sw a b l l') (h' : Sw a b l' l2) : Sw a b l l2 := by
  induction h' with
  | refl => exact h
  | step i j hs h1 h2 h3 h4 h5 ih => exact Sw.step i j ih h1 h2 h3 h4 (by rw [← h.len]; exact h5)
theorem Sw.mono {a b a' b' : Nat} {l l' : List Ct} (h : Sw a b l l') (ha : a' ≤ a) (hb : b ≤ b') (hl : b' ≤ l.length) : Sw a' b' l l' := by
  induction h with
  | refl => exact Sw.refl
  | step i j hs h1 h2 h3 h4 h5 ih => exact Sw.step i j ih (by omega) (by omega) (by omega) (by omega) hl
theorem Sw.out {a b : Nat} {l l' : List Ct} (h : Sw a b l l') : ∀ q, q < a ∨ b ≤ q → lget l' q = lget l q := by
  induction h with
  | refl => intro q _; rfl
  | step i j hs h1 h2 h3 h4 h5 ih =>
    intro q hq
    rw [lget_swp _ _ _ _ (by rw [hs.len]; omega) (by rw [hs.len]; omega), if_neg (by omega), if_neg (by omega)]
    exact ih q hq
/-- What holds of all elements in a range holds of them still. -/
theorem Sw.all {a b : Nat} {l l' : List Ct} (h : Sw a b l l') {P : Ct → Prop} (hP : ∀ q, a ≤ q → q < b → P (lget l q)) : ∀ q, a ≤ q → q < b → P (lget l' q) := by
  induction h with
  | refl => exact hP
  | step i j hs h1 h2 h3 h4 h5 ih =>
    intro q hq1 hq2
    rw [lget_swp _ _ _ _ (by rw [hs.len]; omega) (by rw [hs.len]; omega)]
    split
    · exact ih i h1 h2
    · split
      · exact ih j h3 h4
      · exact ih q hq1 hq2
/-- .. also in a range around it. -/
theorem Sw.all' {a b a' b' : Nat} {l l' : List Ct} (h : Sw a b l l') (ha : a' ≤ a) (hb : b ≤ b') {P : Ct → Prop} (hP : ∀ q, a' ≤ q → q < b' → P (lget l q)) : ∀ q, a' ≤ q → q < b' → P (lget l' q) := by
  intro q h1 h2
  by_cases c : a ≤ q ∧ q < b
  · exact h.all (fun q h1 h2 => hP q (by omega) (by omega)) q c.1 c.2
  · rw [h.out q (by omega)]; exact hP q h1 h2
def Srt (a b : Nat) (l : List Ct) : Prop := ∀ u v : Nat, a ≤ u → u < v → v < b → (lget l u).at_ ≤ (lget l v).at_
theorem Srt.small {a b : Nat} {l : List Ct} (h : b ≤ a + 1) : Srt a b l := fun u v h1 h2 h3 => by omega

/-- An exchange, as a run makes it. -/
theorem own_swp {lo : Nat} {S : AS} {v : Value} {l : List Ct} (ho : Own 111 lo S v l) {id : Nat} (hb : blkOf v = some id) {i j : Nat} (hi : i < l.length) (hj : j < l.length) {oi oj : Nat} (hoi : oi = i * 3) (hoj : oj = j * 3) :
    ∃ S1 S2, stA Tryd.prog 111 ⟨id, oi, none⟩ (.agg #[.int .i64 (lget l j).at_, .int .i64 (lget l j).li, .int .i64 (lget l j).by_]) S = some S1 ∧
      stA Tryd.prog 111 ⟨id, oj, none⟩ (.agg #[.int .i64 (lget l i).at_, .int .i64 (lget l i).li, .int .i64 (lget l i).by_]) S1 = some S2 ∧ Own 111 lo S2 v (swp l i j) ∧ Keep v S S2 ∧ S2.next = S.next := by
  subst hoi hoj
  obtain ⟨S1, e1, n1, o1, f1⟩ := ho.put (P := Tryd.prog) (u := .agg #[.int .i64 (lget l j).at_, .int .i64 (lget l j).li, .int .i64 (lget l j).by_]) (by decide +kernel) hi (x := lget l j) rfl hb
  obtain ⟨S2, e2, n2, o2, f2⟩ := o1.put (P := Tryd.prog) (u := .agg #[.int .i64 (lget l i).at_, .int .i64 (lget l i).li, .int .i64 (lget l i).by_]) (by decide +kernel) (i := j) (by rw [List.length_set]; exact hj) (x := lget l i) rfl hb
  exact ⟨S1, S2, e1, e2, o2, (Keep.put n1 hb f1).trans (Keep.put n2 hb f2), by omega⟩
end Great
end Go.Proofs
end
section
/-
  The great seat of stage 1: cuts in place: a range is turned round.
-/
set_option linter.unusedSimpArgs false
set_option linter.unusedVariables false
namespace Go.Proofs
namespace Great
open Go Go.RowKit Go.Aev
set_option maxRecDepth 100000
set_option maxHeartbeats 4000000 in
theorem c198 (l : List Ct) (hn : l.length ≤ 1000) (lo : Nat) (S : AS) (v : Value) (ho : Own 111 lo S v l) (id : Nat) (hb : blkOf v = some id) (a b : Nat) (hab : a < b) (hbl : b ≤ l.length) :
    ∃ S' l', (evL Tryd.prog E0).call 88 #[v, .int .i64 (a : Int), .int .i64 (b : Int), .func (.func 71) #[] #[]] S = some (.tuple #[], S') ∧ Keep v S S' ∧ Own 111 lo S' v l' ∧ Sw a b l l' := by
  generalize hz : (evL Tryd.prog E0).call 88 _ _ = z
  rw [L_call, evCall_said rfl Tryd.func88 rfl (by decide) Tryd.ntmps88 Tryd.results88] at hz
  have w0 : IntKind.i64.wrap ((b : Int) - 1) = ((b - 1 : Nat) : Int) := by rw [IntWalk.i64_in] <;> omega
  simp (disch := first | omega | assumption) only [E0_G, SY, setArgs, off, agreeKind, partVals, vals, allocV, boxed, ldA, rdCells, oneB, aggD, aField, aFieldV, aExtract, eq_self, ne_eq, if_true, if_false, not_false_eq_true, Nat.reduceAdd, Nat.reduceSub, Nat.reduceMul, Nat.reduceLT, Nat.reduceEqDiff, Nat.reduceBEq, reduceIte, Int.reduceEq, Int.reduceLT, Int.reduceLE, reduceCtorEq, TY_EvA14, op_callV, calledV_some, Array.empty_append, and_fold, or_fold, not_fold, store_agree, store_refl E0_same, w0] at hz
  generalize hL1 : Rec.loop _ _ _ _ = L1 at hz
  obtain ⟨x1, t1, S1e, rfl, hQ1⟩ := loop_met hL1 (fun m t S' => ∃ (i j : Nat) (o : List Ct), m + i = j + 1 ∧ a ≤ i ∧ j < b ∧ Sw a b l o ∧ t.get 0 = some (v) ∧ t.get 1 = some (.int .i64 (a : Int)) ∧ t.get 2 = some (.int .i64 (b : Int)) ∧ t.get 3 = some (.func (.func 71) #[] #[]) ∧ t.get 8 = some (.int .i64 (i : Int)) ∧ t.get 9 = some (.int .i64 (j : Int)) ∧ Keep v S S' ∧ Own 111 lo S' v o)
    (fun x t S' => x = .exit 0 ∧ ∃ (o : List Ct), Sw a b l o ∧ Keep v S S' ∧ Own 111 lo S' v o) (b - 1 + 1 - a)
    ⟨a, b - 1, l, by omega, by omega, by omega, Sw.refl, by simp only [SY, setArgs, off, agreeKind, partVals, vals, allocV, boxed, ldA, rdCells, oneB, aggD, aField, aFieldV, aExtract, eq_self, ne_eq, if_true, if_false, not_false_eq_true, Nat.reduceAdd, Nat.reduceSub, Nat.reduceMul, Nat.reduceLT, Nat.reduceEqDiff, Nat.reduceBEq, reduceIte, Int.reduceEq, Int.reduceLT, Int.reduceLE, reduceCtorEq, w0] <;> rfl, by simp only [SY, setArgs, off, agreeKind, partVals, vals, allocV, boxed, ldA, rdCells, oneB, aggD, aField, aFieldV, aExtract, eq_self, ne_eq, if_true, if_false, not_false_eq_true, Nat.reduceAdd, Nat.reduceSub, Nat.reduceMul, Nat.reduceLT, Nat.reduceEqDiff, Nat.reduceBEq, reduceIte, Int.reduceEq, Int.reduceLT, Int.reduceLE, reduceCtorEq, w0] <;> rfl, by simp only [SY, setArgs, off, agreeKind, partVals, vals, allocV, boxed, ldA, rdCells, oneB, aggD, aField, aFieldV, aExtract, eq_self, ne_eq, if_true, if_false, not_false_eq_true, Nat.reduceAdd, Nat.reduceSub, Nat.reduceMul, Nat.reduceLT, Nat.reduceEqDiff, Nat.reduceBEq, reduceIte, Int.reduceEq, Int.reduceLT, Int.reduceLE, reduceCtorEq, w0] <;> rfl, by simp only [SY, setArgs, off, agreeKind, partVals, vals, allocV, boxed, ldA, rdCells, oneB, aggD, aField, aFieldV, aExtract, eq_self, ne_eq, if_true, if_false, not_false_eq_true, Nat.reduceAdd, Nat.reduceSub, Nat.reduceMul, Nat.reduceLT, Nat.reduceEqDiff, Nat.reduceBEq, reduceIte, Int.reduceEq, Int.reduceLT, Int.reduceLE, reduceCtorEq, w0] <;> rfl, by simp only [SY, setArgs, off, agreeKind, partVals, vals, allocV, boxed, ldA, rdCells, oneB, aggD, aField, aFieldV, aExtract, eq_self, ne_eq, if_true, if_false, not_false_eq_true, Nat.reduceAdd, Nat.reduceSub, Nat.reduceMul, Nat.reduceLT, Nat.reduceEqDiff, Nat.reduceBEq, reduceIte, Int.reduceEq, Int.reduceLT, Int.reduceLE, reduceCtorEq, w0] <;> rfl, by simp only [SY, setArgs, off, agreeKind, partVals, vals, allocV, boxed, ldA, rdCells, oneB, aggD, aField, aFieldV, aExtract, eq_self, ne_eq, if_true, if_false, not_false_eq_true, Nat.reduceAdd, Nat.reduceSub, Nat.reduceMul, Nat.reduceLT, Nat.reduceEqDiff, Nat.reduceBEq, reduceIte, Int.reduceEq, Int.reduceLT, Int.reduceLE, reduceCtorEq, w0] <;> rfl, Keep.refl v S, ho⟩ (by
      rintro m t S1 ⟨i, j, o, hm, hi, hj, hs, g0, g1, g2, g3, g8, g9, kp, ow⟩
      refine .run fun z he => ?_
      have hlo := hs.len
      simp (disch := first | omega | assumption) only [E0_G, SY, setArgs, off, agreeKind, partVals, vals, allocV, boxed, ldA, rdCells, oneB, aggD, aField, aFieldV, aExtract, eq_self, ne_eq, if_true, if_false, not_false_eq_true, Nat.reduceAdd, Nat.reduceSub, Nat.reduceMul, Nat.reduceLT, Nat.reduceEqDiff, Nat.reduceBEq, reduceIte, Int.reduceEq, Int.reduceLT, Int.reduceLE, reduceCtorEq, TY_EvA14, op_callV, calledV_some, Array.empty_append, and_fold, or_fold, not_fold, store_agree, store_refl E0_same, g0, g1, g2, g3, g8, g9] at he
      rcases dP ((i : Int) < (j : Int)) with ⟨h3a, h3⟩ | ⟨h3a, h3⟩
      · skip
        simp (disch := first | omega | assumption) only [E0_G, SY, setArgs, off, agreeKind, partVals, vals, allocV, boxed, ldA, rdCells, oneB, aggD, aField, aFieldV, aExtract, eq_self, ne_eq, if_true, if_false, not_false_eq_true, Nat.reduceAdd, Nat.reduceSub, Nat.reduceMul, Nat.reduceLT, Nat.reduceEqDiff, Nat.reduceBEq, reduceIte, Int.reduceEq, Int.reduceLT, Int.reduceLE, reduceCtorEq, TY_EvA14, op_callV, calledV_some, Array.empty_append, and_fold, or_fold, not_fold, store_agree, store_refl E0_same, g0, g1, g2, g3, g8, g9, h3a] at he
        have w1 : IntKind.i64.wrap ((i : Int) + 1) = ((i + 1 : Nat) : Int) := by rw [IntWalk.i64_in] <;> omega
        have w2 : IntKind.i64.wrap ((j : Int) - 1) = ((j - 1 : Nat) : Int) := by rw [IntWalk.i64_in] <;> omega
        rw [code_draws _ _ _ (by kernel_rfl)] at he
        generalize hnd1 : needy _ = nd1 at he
        obtain ⟨loA, ltA, ccA, exA, hxA, hcA⟩ := own_cut ow hb
        obtain ⟨ofAj, hoAj, iaAj, pAj0, pAj1, pAj2⟩ := hcA (j) (by omega)
        obtain ⟨ofAi, hoAi, iaAi, pAi0, pAi1, pAi2⟩ := hcA (i) (by omega)
        obtain ⟨SxA, SyA, exA, eyA, owA, kpA, nxA⟩ := own_swp ow hb (i := i) (j := j) (by omega) (by omega) hoAi hoAj
        simp (disch := first | omega | assumption) only [E0_G, SY, setArgs, off, agreeKind, partVals, vals, allocV, boxed, ldA, rdCells, oneB, aggD, aField, aFieldV, aExtract, eq_self, ne_eq, if_true, if_false, not_false_eq_true, Nat.reduceAdd, Nat.reduceSub, Nat.reduceMul, Nat.reduceLT, Nat.reduceEqDiff, Nat.reduceBEq, reduceIte, Int.reduceEq, Int.reduceLT, Int.reduceLE, reduceCtorEq, TY_EvA14, op_callV, calledV_some, Array.empty_append, and_fold, or_fold, not_fold, store_agree, store_refl E0_same, g0, g1, g2, g3, g8, g9, w1, w2, hxA, iaAj, pAj0, pAj1, pAj2, iaAi, pAi0, pAi1, pAi2, exA, eyA] at he
        exact .next he (m - 2) (by omega) ⟨i + 1, j - 1, _, by omega, by omega, by omega, Sw.step i j hs (by omega) (by omega) (by omega) (by omega) hbl, by simp only [SY, setArgs, off, agreeKind, partVals, vals, allocV, boxed, ldA, rdCells, oneB, aggD, aField, aFieldV, aExtract, eq_self, ne_eq, if_true, if_false, not_false_eq_true, Nat.reduceAdd, Nat.reduceSub, Nat.reduceMul, Nat.reduceLT, Nat.reduceEqDiff, Nat.reduceBEq, reduceIte, Int.reduceEq, Int.reduceLT, Int.reduceLE, reduceCtorEq, g0, g1, g2, g3, g8, g9] <;> rfl, by simp only [SY, setArgs, off, agreeKind, partVals, vals, allocV, boxed, ldA, rdCells, oneB, aggD, aField, aFieldV, aExtract, eq_self, ne_eq, if_true, if_false, not_false_eq_true, Nat.reduceAdd, Nat.reduceSub, Nat.reduceMul, Nat.reduceLT, Nat.reduceEqDiff, Nat.reduceBEq, reduceIte, Int.reduceEq, Int.reduceLT, Int.reduceLE, reduceCtorEq, g0, g1, g2, g3, g8, g9] <;> rfl, by simp only [SY, setArgs, off, agreeKind, partVals, vals, allocV, boxed, ldA, rdCells, oneB, aggD, aField, aFieldV, aExtract, eq_self, ne_eq, if_true, if_false, not_false_eq_true, Nat.reduceAdd, Nat.reduceSub, Nat.reduceMul, Nat.reduceLT, Nat.reduceEqDiff, Nat.reduceBEq, reduceIte, Int.reduceEq, Int.reduceLT, Int.reduceLE, reduceCtorEq, g0, g1, g2, g3, g8, g9] <;> rfl, by simp only [SY, setArgs, off, agreeKind, partVals, vals, allocV, boxed, ldA, rdCells, oneB, aggD, aField, aFieldV, aExtract, eq_self, ne_eq, if_true, if_false, not_false_eq_true, Nat.reduceAdd, Nat.reduceSub, Nat.reduceMul, Nat.reduceLT, Nat.reduceEqDiff, Nat.reduceBEq, reduceIte, Int.reduceEq, Int.reduceLT, Int.reduceLE, reduceCtorEq, g0, g1, g2, g3, g8, g9] <;> rfl, by simp only [SY, setArgs, off, agreeKind, partVals, vals, allocV, boxed, ldA, rdCells, oneB, aggD, aField, aFieldV, aExtract, eq_self, ne_eq, if_true, if_false, not_false_eq_true, Nat.reduceAdd, Nat.reduceSub, Nat.reduceMul, Nat.reduceLT, Nat.reduceEqDiff, Nat.reduceBEq, reduceIte, Int.reduceEq, Int.reduceLT, Int.reduceLE, reduceCtorEq, g0, g1, g2, g3, g8, g9] <;> rfl, by simp only [SY, setArgs, off, agreeKind, partVals, vals, allocV, boxed, ldA, rdCells, oneB, aggD, aField, aFieldV, aExtract, eq_self, ne_eq, if_true, if_false, not_false_eq_true, Nat.reduceAdd, Nat.reduceSub, Nat.reduceMul, Nat.reduceLT, Nat.reduceEqDiff, Nat.reduceBEq, reduceIte, Int.reduceEq, Int.reduceLT, Int.reduceLE, reduceCtorEq, g0, g1, g2, g3, g8, g9] <;> rfl, kp.trans kpA, owA⟩
      · skip
        simp (disch := first | omega | assumption) only [E0_G, SY, setArgs, off, agreeKind, partVals, vals, allocV, boxed, ldA, rdCells, oneB, aggD, aField, aFieldV, aExtract, eq_self, ne_eq, if_true, if_false, not_false_eq_true, Nat.reduceAdd, Nat.reduceSub, Nat.reduceMul, Nat.reduceLT, Nat.reduceEqDiff, Nat.reduceBEq, reduceIte, Int.reduceEq, Int.reduceLT, Int.reduceLE, reduceCtorEq, TY_EvA14, op_callV, calledV_some, Array.empty_append, and_fold, or_fold, not_fold, store_agree, store_refl E0_same, g0, g1, g2, g3, g8, g9, h3a] at he
        exact .exit he ⟨rfl, o, hs, kp, ow⟩)
  obtain ⟨rfl, o, hs, kp, ow⟩ := hQ1
  simp (disch := first | omega | assumption) only [E0_G, SY, setArgs, off, agreeKind, partVals, vals, allocV, boxed, ldA, rdCells, oneB, aggD, aField, aFieldV, aExtract, eq_self, ne_eq, if_true, if_false, not_false_eq_true, Nat.reduceAdd, Nat.reduceSub, Nat.reduceMul, Nat.reduceLT, Nat.reduceEqDiff, Nat.reduceBEq, reduceIte, Int.reduceEq, Int.reduceLT, Int.reduceLE, reduceCtorEq, TY_EvA14, op_callV, calledV_some, Array.empty_append, and_fold, or_fold, not_fold, store_agree, store_refl E0_same, hs] at hz
  exact ⟨_, o, hz.symm, kp, ow, hs⟩
end Great
end Go.Proofs
end
section
/-
  The great seat of stage 1: cuts in place: insertion.
-/
set_option linter.unusedSimpArgs false
set_option linter.unusedVariables false
namespace Go.Proofs
namespace Great
open Go Go.RowKit Go.Aev
set_option maxRecDepth 100000
theorem ins_step {a i j : Nat} {o : List Ct} (hj : a < j) (hji : j ≤ i) (hi : i < o.length) (P : ∀ u v : Nat, a ≤ u → u < v → v ≤ i → v ≠ j → (lget o u).at_ ≤ (lget o v).at_) (c : (lget o j).at_ < (lget o (j - 1)).at_) :
    ∀ u v : Nat, a ≤ u → u < v → v ≤ i → v ≠ j - 1 → (lget (swp o j (j - 1)) u).at_ ≤ (lget (swp o j (j - 1)) v).at_ := by
  intro u v h1 h2 h3 h4
  rw [lget_swp _ _ _ _ (by omega) (by omega), lget_swp _ _ _ _ (by omega) (by omega), if_neg (Ne.symm h4)]
  by_cases c1 : j = v
  · rw [if_pos c1]
    by_cases c2 : j - 1 = u
    · rw [if_pos c2]; omega
    · rw [if_neg c2, if_neg (by omega)]
      exact P u (j - 1) h1 (by omega) (by omega) (by omega)
  · rw [if_neg c1]
    by_cases c2 : j - 1 = u
    · rw [if_pos c2]; exact P j v (by omega) (by omega) h3 (Ne.symm c1)
    · rw [if_neg c2]
      by_cases c3 : j = u
      · rw [if_pos c3]; exact P (j - 1) v (by omega) (by omega) h3 (Ne.symm c1)
      · rw [if_neg c3]; exact P u v h1 h2 h3 (Ne.symm c1)
theorem ins_stop {a i j : Nat} {o : List Ct} (hji : j ≤ i) (P : ∀ u v : Nat, a ≤ u → u < v → v ≤ i → v ≠ j → (lget o u).at_ ≤ (lget o v).at_) (c : ¬ a < j ∨ ¬ (lget o j).at_ < (lget o (j - 1)).at_) : Srt a (i + 1) o := by
  intro u v h1 h2 h3
  by_cases c1 : v = j
  · subst c1
    by_cases c2 : u = v - 1
    · subst c2; omega
    · have := P u (v - 1) h1 (by omega) (by omega) (by omega)
      omega
  · exact P u v h1 h2 (by omega) c1
set_option maxHeartbeats 4000000 in
theorem c194g (l : List Ct) (hn : l.length ≤ 1000) (lo : Nat) (S : AS) (v : Value) (ho : Own 111 lo S v l) (id : Nat) (hb : blkOf v = some id) (a b : Nat) (hab : a ≤ b) (hbl : b ≤ l.length) :
    ∃ S' l', (evL Tryd.prog E0).call 84 #[v, .int .i64 (a : Int), .int .i64 (b : Int), .func (.func 71) #[] #[]] S = some (.tuple #[], S') ∧ Keep v S S' ∧ Own 111 lo S' v l' ∧ Sw a b l l' ∧ Srt a b l' := by
  generalize hz : (evL Tryd.prog E0).call 84 _ _ = z
  rw [L_call, evCall_said rfl Tryd.func84 rfl (by decide) Tryd.ntmps84 Tryd.results84] at hz
  have w0 : IntKind.i64.wrap ((a : Int) + 1) = ((a + 1 : Nat) : Int) := by rw [IntWalk.i64_in] <;> omega
  simp (disch := first | omega | assumption) only [E0_G, SY, setArgs, off, agreeKind, Nat.reduceAdd, Nat.reduceSub, Nat.reduceLT, Nat.reduceBEq, store_refl E0_same, w0] at hz
  generalize hL1 : Rec.loop _ _ _ _ = L1 at hz
  obtain ⟨x1, t1, S1e, rfl, hQ1⟩ := loop_met hL1 (fun m t S' => ∃ (i : Nat) (o : List Ct), m + i = max b (a + 1) ∧ a + 1 ≤ i ∧ Sw a b l o ∧ Srt a i o ∧ t.get 0 = some (v) ∧ t.get 1 = some (.int .i64 (a : Int)) ∧ t.get 2 = some (.int .i64 (b : Int)) ∧ t.get 3 = some (.func (.func 71) #[] #[]) ∧ t.get 8 = some (.int .i64 (i : Int)) ∧ Keep v S S' ∧ Own 111 lo S' v o)
    (fun x t S' => x = .exit 0 ∧ ∃ (o : List Ct), Sw a b l o ∧ Srt a b o ∧ Keep v S S' ∧ Own 111 lo S' v o) (max b (a + 1) - (a + 1))
    ⟨a + 1, l, by omega, by omega, Sw.refl, Srt.small (Nat.le_refl _), by simp only [SY, eq_self, Nat.reduceBEq] <;> rfl, by simp only [SY, eq_self, Nat.reduceBEq] <;> rfl, by simp only [SY, eq_self, Nat.reduceBEq] <;> rfl, by simp only [SY, eq_self, Nat.reduceBEq] <;> rfl, by simp only [SY, eq_self, Nat.reduceBEq] <;> rfl, Keep.refl v S, ho⟩ (by
      rintro m t S1 ⟨i, o, hm, hi, hs, hr, g0, g1, g2, g3, g8, kp, ow⟩
      refine .run fun z he => ?_
      have hlo := hs.len
      simp (disch := first | omega | assumption) only [E0_G, SY, off, agreeKind, Nat.reduceAdd, Nat.reduceLT, Nat.reduceBEq, store_refl E0_same, g2, g8] at he
      rcases dP ((i : Int) < (b : Int)) with ⟨h3a, h3⟩ | ⟨h3a, h3⟩
      · skip
        simp (disch := first | omega | assumption) only [E0_G, SY, off, agreeKind, Nat.reduceAdd, Nat.reduceLT, Nat.reduceBEq, store_refl E0_same, g8, h3a] at he
        generalize hL2 : Rec.loop _ _ _ _ = L2 at he
        obtain ⟨x2, t2, S2e, rfl, hQ2⟩ := loop_met hL2 (fun m t S' => ∃ (j : Nat) (o' : List Ct), m + a = j ∧ j ≤ i ∧ Sw a b l o' ∧ (∀ u v : Nat, a ≤ u → u < v → v ≤ i → v ≠ j → (lget o' u).at_ ≤ (lget o' v).at_) ∧ t.get 0 = some (v) ∧ t.get 1 = some (.int .i64 (a : Int)) ∧ t.get 2 = some (.int .i64 (b : Int)) ∧ t.get 3 = some (.func (.func 71) #[] #[]) ∧ t.get 8 = some (.int .i64 (i : Int)) ∧ t.get 9 = some (.int .i64 (j : Int)) ∧ Keep v S S' ∧ Own 111 lo S' v o')
          (fun x t S' => x = .exit 2 ∧ ∃ (o' : List Ct), Sw a b l o' ∧ Srt a (i + 1) o' ∧ t.get 0 = some (v) ∧ t.get 1 = some (.int .i64 (a : Int)) ∧ t.get 2 = some (.int .i64 (b : Int)) ∧ t.get 3 = some (.func (.func 71) #[] #[]) ∧ t.get 8 = some (.int .i64 (i : Int)) ∧ Keep v S S' ∧ Own 111 lo S' v o') (i - a)
          ⟨i, o, by omega, by omega, hs, (fun u w h1 h2 h3 h4 => hr u w h1 h2 (by omega)), by simp only [SY, eq_self, Nat.reduceBEq, g0] <;> rfl, by simp only [SY, eq_self, Nat.reduceBEq, g1] <;> rfl, by simp only [SY, eq_self, Nat.reduceBEq, g2] <;> rfl, by simp only [SY, eq_self, Nat.reduceBEq, g3] <;> rfl, by simp only [SY, eq_self, Nat.reduceBEq, g8] <;> rfl, by simp only [SY, eq_self, Nat.reduceBEq] <;> rfl, kp, ow⟩ (by
            clear he hL2 hL1 hz
            rintro m t S2 ⟨j, o', hm2, hji, hs2, hP, f0, f1, f2, f3, f8, f9, kp2, ow2⟩
            refine .run fun z he => ?_
            have hlo2 := hs2.len
            simp (disch := first | omega | assumption) only [SY, store_refl E0_same] at he
            rw [code_draws _ _ _ (by kernel_rfl)] at he
            generalize hnd1 : needy _ = nd1 at he
            rcases dP ((a : Int) < (j : Int)) with ⟨h4a, h4⟩ | ⟨h4a, h4⟩
            · skip
              have w1 : IntKind.i64.wrap ((j : Int) - 1) = ((j - 1 : Nat) : Int) := by rw [IntWalk.i64_in] <;> omega
              obtain ⟨loB, ltB, ccB, exB, hxB, hcB⟩ := own_cut ow2 hb
              obtain ⟨ofBx, hoBx, iaBx, pBx0, pBx1, pBx2⟩ := hcB (j) (by omega)
              obtain ⟨ofBy, hoBy, iaBy, pBy0, pBy1, pBy2⟩ := hcB (j - 1) (by omega)
              obtain ⟨SC, kC, aC⟩ := c164 (lget o' j).at_ (lget o' j).li (lget o' j).by_ (lget o' (j - 1)).at_ (lget o' (j - 1)).li (lget o' (j - 1)).by_ S2
              have sC : E0.same S2 SC = true := symEnv_same aC
              simp (disch := first | omega | assumption) only [E0_G, SY, agreeKind, vals, ldA, rdCells, aggD, Nat.reduceAdd, Nat.reduceLT, Nat.reduceBEq, TY_EvA14, store_agree, store_refl E0_same, f0, f1, f3, f9, h4a, w1, hxB, iaBx, pBx0, pBx1, pBx2, iaBy, pBy0, pBy1, pBy2, kC] at he
              rcases dP (r164 (lget o' j).at_ (lget o' j).li (lget o' j).by_ (lget o' (j - 1)).at_ (lget o' (j - 1)).li (lget o' (j - 1)).by_ < 0) with ⟨h5a, h5⟩ | ⟨h5a, h5⟩
              · skip
                simp (disch := first | omega | assumption) only [SY, store_refl E0_same, h5a] at he
                have ow3 := ow2.agree aC
                rw [code_draws _ _ _ (by kernel_rfl)] at he
                generalize hnd2 : needy _ = nd2 at he
                obtain ⟨loD, ltD, ccD, exD, hxD, hcD⟩ := own_cut ow3 hb
                obtain ⟨ofDj, hoDj, iaDj, pDj0, pDj1, pDj2⟩ := hcD ((j - 1)) (by omega)
                obtain ⟨ofDi, hoDi, iaDi, pDi0, pDi1, pDi2⟩ := hcD (j) (by omega)
                obtain ⟨SxD, SyD, exD, eyD, owD, kpD, nxD⟩ := own_swp ow3 hb (i := j) (j := (j - 1)) (by omega) (by omega) hoDi hoDj
                simp (disch := first | omega | assumption) only [E0_G, SY, off, agreeKind, ldA, rdCells, aggD, Nat.reduceAdd, Nat.reduceLT, Nat.reduceBEq, TY_EvA14, store_refl E0_same, f0, f9, w1, hxD, iaDj, pDj0, pDj1, pDj2, iaDi, pDi0, pDi1, pDi2, exD, eyD] at he
                rw [r164_lt] at h5
                exact .next he (m - 1) (by omega) ⟨j - 1, _, by omega, by omega, Sw.step j (j - 1) hs2 (by omega) (by omega) (by omega) (by omega) hbl, ins_step (by omega) hji (by omega) hP h5, by simp only [SY, eq_self, Nat.reduceBEq, f0] <;> rfl, by simp only [SY, eq_self, Nat.reduceBEq, f1] <;> rfl, by simp only [SY, eq_self, Nat.reduceBEq, f2] <;> rfl, by simp only [SY, eq_self, Nat.reduceBEq, f3] <;> rfl, by simp only [SY, eq_self, Nat.reduceBEq, f8] <;> rfl, by simp only [SY, eq_self, Nat.reduceBEq, f9] <;> rfl, (kp2.trans (Keep.of aC)).trans kpD, owD⟩
              · skip
                simp (disch := first | omega | assumption) only [SY, store_refl E0_same, h5a] at he
                rw [r164_lt] at h5
                exact .exit he ⟨rfl, o', hs2, ins_stop hji hP (.inr h5), by simp only [SY, eq_self, Nat.reduceBEq, f0] <;> rfl, by simp only [SY, eq_self, Nat.reduceBEq, f1] <;> rfl, by simp only [SY, eq_self, Nat.reduceBEq, f2] <;> rfl, by simp only [SY, eq_self, Nat.reduceBEq, f3] <;> rfl, by simp only [SY, eq_self, Nat.reduceBEq, f8] <;> rfl, kp2.trans (Keep.of aC), ow2.agree aC⟩
            · skip
              simp (disch := first | omega | assumption) only [E0_G, SY, agreeKind, Nat.reduceAdd, Nat.reduceLT, Nat.reduceBEq, store_refl E0_same, f1, f9, h4a] at he
              exact .exit he ⟨rfl, o', hs2, ins_stop hji hP (.inl (by omega)), by simp only [SY, eq_self, Nat.reduceBEq, f0] <;> rfl, by simp only [SY, eq_self, Nat.reduceBEq, f1] <;> rfl, by simp only [SY, eq_self, Nat.reduceBEq, f2] <;> rfl, by simp only [SY, eq_self, Nat.reduceBEq, f3] <;> rfl, by simp only [SY, eq_self, Nat.reduceBEq, f8] <;> rfl, kp2, ow2⟩)
        obtain ⟨rfl, o', hs2, hr2, f0, f1, f2, f3, f8, kp2, ow2⟩ := hQ2
        have w5 : IntKind.i64.wrap ((i : Int) + 1) = ((i + 1 : Nat) : Int) := by rw [IntWalk.i64_in] <;> omega
        simp (disch := first | omega | assumption) only [E0_G, SY, off, agreeKind, eq_self, if_true, Nat.reduceAdd, Nat.reduceLT, Nat.reduceBEq, store_refl E0_same, f8, w5] at he
        exact .next he (m - 1) (by omega) ⟨i + 1, o', by omega, by omega, hs2, hr2, by simp only [SY, eq_self, Nat.reduceBEq, f0] <;> rfl, by simp only [SY, eq_self, Nat.reduceBEq, f1] <;> rfl, by simp only [SY, eq_self, Nat.reduceBEq, f2] <;> rfl, by simp only [SY, eq_self, Nat.reduceBEq, f3] <;> rfl, by simp only [SY, eq_self, Nat.reduceBEq, f8] <;> rfl, kp2, ow2⟩
      · skip
        simp (disch := first | omega | assumption) only [SY, store_refl E0_same, h3a] at he
        exact .exit he ⟨rfl, o, hs, fun u w h1 h2 h3' => hr u w h1 h2 (by omega), kp, ow⟩)
  obtain ⟨rfl, o, hs, hr, kp, ow⟩ := hQ1
  simp (disch := first | omega | assumption) only [SY, eq_self, if_true, store_refl E0_same] at hz
  exact ⟨_, o, hz.symm, kp, ow, hs, hr⟩
end Great
end Go.Proofs
end
section
/-
  The great seat of stage 1: cuts in place: a heap's node sinks.
-/
set_option linter.unusedSimpArgs false
set_option linter.unusedVariables false
namespace Go.Proofs
namespace Great
open Go Go.RowKit Go.Aev
set_option maxRecDepth 100000
/-- The node k is no less than its children. -/
def Hp (f n hi : Nat) (l : List Ct) : Prop := ∀ k c : Nat, n ≤ k → (c = 2 * k + 1 ∨ c = 2 * k + 2) → c < hi → (lget l (f + c)).at_ ≤ (lget l (f + k)).at_
/-- All nodes but r are, and what is above r is no less than what is below it. -/
structure Hr (f n hi r : Nat) (l : List Ct) : Prop where
  heap : ∀ k c : Nat, n ≤ k → k ≠ r → (c = 2 * k + 1 ∨ c = 2 * k + 2) → c < hi → (lget l (f + c)).at_ ≤ (lget l (f + k)).at_
  up : ∀ p c : Nat, n ≤ p → (r = 2 * p + 1 ∨ r = 2 * p + 2) → (c = 2 * r + 1 ∨ c = 2 * r + 2) → c < hi → (lget l (f + c)).at_ ≤ (lget l (f + p)).at_
theorem Hr.init {f n hi : Nat} {l : List Ct} (h : Hp f (n + 1) hi l) : Hr f n hi n l :=
  ⟨fun k c h1 h2 h3 h4 => h k c (by omega) h3 h4, fun p c h1 h2 => by omega⟩
theorem Hr.stop {f n hi r : Nat} {l : List Ct} (h : Hr f n hi r l) (hr : ∀ c : Nat, (c = 2 * r + 1 ∨ c = 2 * r + 2) → c < hi → (lget l (f + c)).at_ ≤ (lget l (f + r)).at_) : Hp f n hi l := by
  intro k c h1 h2 h3
  by_cases e : k = r
  · subst e; exact hr c h2 h3
  · exact h.heap k c h1 e h2 h3
theorem Hr.go {f n hi r d : Nat} {l : List Ct} (h : Hr f n hi r l) (hn : n ≤ r) (hd : d = 2 * r + 1 ∨ d = 2 * r + 2) (hdh : d < hi) (hl : f + hi ≤ l.length) (hlt : (lget l (f + r)).at_ < (lget l (f + d)).at_)
    (hmax : ∀ c : Nat, (c = 2 * r + 1 ∨ c = 2 * r + 2) → c < hi → (lget l (f + c)).at_ ≤ (lget l (f + d)).at_) : Hr f n hi d (swp l (f + r) (f + d)) := by
  have g := fun q => lget_swp l (f + r) (f + d) q (by omega) (by omega)
  constructor
  · intro k c h1 h2 h3 h4
    rw [g, g, if_neg (show ¬ f + d = f + k by omega)]
    by_cases e1 : f + r = f + k
    · rw [if_pos e1]
      by_cases e2 : f + d = f + c
      · rw [if_pos e2]; omega
      · rw [if_neg e2, if_neg (by omega)]
        exact hmax c (by omega) h4
    · rw [if_neg e1, if_neg (show ¬ f + d = f + c by omega)]
      by_cases e2 : f + r = f + c
      · rw [if_pos e2]; exact h.up k d h1 (by omega) hd hdh
      · rw [if_neg e2]; exact h.heap k c h1 (by omega) h3 h4
  · intro p c h1 h2 h3 h4
    have hp : p = r := by omega
    subst hp
    rw [g, g, if_neg (show ¬ f + d = f + c by omega), if_neg (show ¬ f + p = f + c by omega), if_neg (show ¬ f + d = f + p by omega), if_pos rfl]
    exact h.heap d c (by omega) (by omega) h3 h4
set_option maxHeartbeats 8000000 in
theorem c214 (l : List Ct) (hn : l.length ≤ 1000) (lo : Nat) (S : AS) (v : Value) (ho : Own 111 lo S v l) (id : Nat) (hb : blkOf v = some id) (n hi f : Nat) (hfl : f + hi ≤ l.length) (hnh : n ≤ 1000) (hH : Hp f (n + 1) hi l) :
    ∃ S' l', (evL Tryd.prog E0).call 98 #[v, .int .i64 (n : Int), .int .i64 (hi : Int), .int .i64 (f : Int), .func (.func 71) #[] #[]] S = some (.tuple #[], S') ∧ Keep v S S' ∧ Own 111 lo S' v l' ∧ Sw f (f + hi) l l' ∧ Hp f n hi l' := by
  generalize hz : (evL Tryd.prog E0).call 98 _ _ = z
  rw [L_call, evCall_said rfl Tryd.func98 rfl (by decide) Tryd.ntmps98 Tryd.results98] at hz
  simp (disch := first | omega | assumption) only [E0_G, SY, setArgs, off, agreeKind, Nat.reduceAdd, Nat.reduceSub, Nat.reduceLT, Nat.reduceBEq] at hz
  generalize hL1 : Rec.loop _ _ _ _ = L1 at hz
  obtain ⟨x1, t1, S1e, rfl, hQ1⟩ := loop_met hL1 (fun m t S' => ∃ (r : Nat) (o : List Ct), m + r = n + hi + 1 ∧ n ≤ r ∧ (r = n ∨ r < hi) ∧ Sw f (f + hi) l o ∧ Hr f n hi r o ∧ t.get 0 = some (v) ∧ t.get 1 = some (.int .i64 (n : Int)) ∧ t.get 2 = some (.int .i64 (hi : Int)) ∧ t.get 3 = some (.int .i64 (f : Int)) ∧ t.get 4 = some (.func (.func 71) #[] #[]) ∧ t.get 10 = some (.int .i64 (r : Int)) ∧ Keep v S S' ∧ Own 111 lo S' v o)
    (fun x t S' => (x = .exit 0 ∨ x = .ret) ∧ ∃ (o : List Ct), Sw f (f + hi) l o ∧ Hp f n hi o ∧ Keep v S S' ∧ Own 111 lo S' v o) (hi + 1)
    ⟨n, l, by omega, by omega, by omega, Sw.refl, Hr.init hH, by simp only [SY, eq_self, Nat.reduceBEq] <;> rfl, by simp only [SY, eq_self, Nat.reduceBEq] <;> rfl, by simp only [SY, eq_self, Nat.reduceBEq] <;> rfl, by simp only [SY, eq_self, Nat.reduceBEq] <;> rfl, by simp only [SY, eq_self, Nat.reduceBEq] <;> rfl, by simp only [SY, eq_self, Nat.reduceBEq] <;> rfl, Keep.refl v S, ho⟩ (by
      rintro m t S1 ⟨r, o, hm, hnr, hrr, hs, hr, g0, g1, g2, g3, g4, g10, kp, ow⟩
      refine .run fun z he => ?_
      have hlo := hs.len
      have w1 : IntKind.i64.wrap ((2 : Int) * (r : Int)) = ((2 * r : Nat) : Int) := by rw [IntWalk.i64_in] <;> omega
      have w2 : IntKind.i64.wrap (((2 * r : Nat) : Int) + 1) = ((2 * r + 1 : Nat) : Int) := by rw [IntWalk.i64_in] <;> omega
      simp (disch := first | omega | assumption) only [E0_G, SY, off, agreeKind, Nat.reduceAdd, Nat.reduceLT, Nat.reduceBEq, store_refl E0_same, g2, g10, w1, w2] at he
      rcases dP ((hi : Int) ≤ ((2 * r + 1 : Nat) : Int)) with ⟨h3a, h3⟩ | ⟨h3a, h3⟩
      · skip
        simp (disch := first | omega | assumption) only [SY, if_false, reduceCtorEq, store_refl E0_same, h3a] at he
        exact .exit he ⟨.inl rfl, o, hs, hr.stop (fun c h1 h2 => by omega), kp, ow⟩
      · skip
        simp (disch := first | omega | assumption) only [SY, store_refl E0_same, h3a] at he
        rw [code_draws _ _ _ (by kernel_rfl)] at he
        generalize hnd1 : needy _ = nd1 at he
        have w3 : IntKind.i64.wrap (((2 * r + 1 : Nat) : Int) + 1) = ((2 * r + 2 : Nat) : Int) := by rw [IntWalk.i64_in] <;> omega
        rcases dP (((2 * r + 2 : Nat) : Int) < (hi : Int)) with ⟨h4a, h4⟩ | ⟨h4a, h4⟩
        · skip
          have u1 : IntKind.i64.wrap ((f : Int) + ((2 * r + 1 : Nat) : Int)) = ((f + (2 * r + 1) : Nat) : Int) := by rw [IntWalk.i64_in] <;> omega
          have u2 : IntKind.i64.wrap (((f + (2 * r + 1) : Nat) : Int) + 1) = ((f + (2 * r + 2) : Nat) : Int) := by rw [IntWalk.i64_in] <;> omega
          obtain ⟨loB, ltB, ccB, exB, hxB, hcB⟩ := own_cut ow hb
          obtain ⟨ofBx, hoBx, iaBx, pBx0, pBx1, pBx2⟩ := hcB (f + (2 * r + 1)) (by omega)
          obtain ⟨ofBy, hoBy, iaBy, pBy0, pBy1, pBy2⟩ := hcB (f + (2 * r + 2)) (by omega)
          obtain ⟨SC, kC, aC⟩ := c164 (lget o (f + (2 * r + 1))).at_ (lget o (f + (2 * r + 1))).li (lget o (f + (2 * r + 1))).by_ (lget o (f + (2 * r + 2))).at_ (lget o (f + (2 * r + 2))).li (lget o (f + (2 * r + 2))).by_ S1
          have sC : E0.same S1 SC = true := symEnv_same aC
          simp (disch := first | omega | assumption) only [E0_G, SY, agreeKind, vals, ldA, rdCells, aggD, Nat.reduceAdd, Nat.reduceLT, Nat.reduceBEq, TY_EvA14, store_agree, store_refl E0_same, g0, g2, g3, g4, w3, h4a, u1, u2, hxB, iaBx, pBx0, pBx1, pBx2, iaBy, pBy0, pBy1, pBy2, kC] at he
          rcases dP (r164 (lget o (f + (2 * r + 1))).at_ (lget o (f + (2 * r + 1))).li (lget o (f + (2 * r + 1))).by_ (lget o (f + (2 * r + 2))).at_ (lget o (f + (2 * r + 2))).li (lget o (f + (2 * r + 2))).by_ < 0) with ⟨h5a, h5⟩ | ⟨h5a, h5⟩
          · skip
            simp (disch := first | omega | assumption) only [E0_G, SY, off, agreeKind, Nat.reduceAdd, Nat.reduceLT, Nat.reduceBEq, store_refl E0_same, w3, h5a] at he
            rw [r164_lt] at h5
            have owC := ow.agree aC
            have kpC := kp.trans (Keep.of aC)
            have v1 : IntKind.i64.wrap ((f : Int) + (r : Int)) = ((f + r : Nat) : Int) := by rw [IntWalk.i64_in] <;> omega
            have v2 : IntKind.i64.wrap ((f : Int) + ((2 * r + 2 : Nat) : Int)) = ((f + (2 * r + 2) : Nat) : Int) := by rw [IntWalk.i64_in] <;> omega
            have hmx : ∀ c : Nat, (c = 2 * r + 1 ∨ c = 2 * r + 2) → c < hi → (lget o (f + c)).at_ ≤ (lget o (f + (2 * r + 2))).at_ := (fun c h1 h2 => by rcases h1 with h1 | h1 <;> subst h1 <;> omega)
            rw [code_draws _ _ _ (by kernel_rfl)] at he
            generalize hnd2 : needy _ = nd2 at he
            obtain ⟨loP, ltP, ccP, exP, hxP, hcP⟩ := own_cut owC hb
            obtain ⟨ofPx, hoPx, iaPx, pPx0, pPx1, pPx2⟩ := hcP (f + r) (by omega)
            obtain ⟨ofPy, hoPy, iaPy, pPy0, pPy1, pPy2⟩ := hcP (f + (2 * r + 2)) (by omega)
            obtain ⟨SQ, kQ, aQ⟩ := c164 (lget o (f + r)).at_ (lget o (f + r)).li (lget o (f + r)).by_ (lget o (f + (2 * r + 2))).at_ (lget o (f + (2 * r + 2))).li (lget o (f + (2 * r + 2))).by_ SC
            have sQ : E0.same SC SQ = true := symEnv_same aQ
            simp (disch := first | omega | assumption) only [E0_G, SY, agreeKind, vals, ldA, rdCells, aggD, Nat.reduceAdd, Nat.reduceLT, Nat.reduceBEq, TY_EvA14, store_agree, store_refl E0_same, g0, g3, g4, g10, v1, v2, hxP, iaPx, pPx0, pPx1, pPx2, iaPy, pPy0, pPy1, pPy2, kQ] at he
            rcases dP (r164 (lget o (f + r)).at_ (lget o (f + r)).li (lget o (f + r)).by_ (lget o (f + (2 * r + 2))).at_ (lget o (f + (2 * r + 2))).li (lget o (f + (2 * r + 2))).by_ < 0) with ⟨h7a, h7⟩ | ⟨h7a, h7⟩
            · skip
              simp (disch := first | omega | assumption) only [SY, store_refl E0_same, h7a] at he
              have ow3 := owC.agree aQ
              rw [code_draws _ _ _ (by kernel_rfl)] at he
              generalize hnd3 : needy _ = nd3 at he
              obtain ⟨loD, ltD, ccD, exD, hxD, hcD⟩ := own_cut ow3 hb
              obtain ⟨ofDj, hoDj, iaDj, pDj0, pDj1, pDj2⟩ := hcD ((f + (2 * r + 2))) (by omega)
              obtain ⟨ofDi, hoDi, iaDi, pDi0, pDi1, pDi2⟩ := hcD ((f + r)) (by omega)
              obtain ⟨SxD, SyD, exD, eyD, owD, kpD, nxD⟩ := own_swp ow3 hb (i := (f + r)) (j := (f + (2 * r + 2))) (by omega) (by omega) hoDi hoDj
              simp (disch := first | omega | assumption) only [E0_G, SY, off, agreeKind, ldA, rdCells, aggD, Nat.reduceAdd, Nat.reduceLT, Nat.reduceBEq, TY_EvA14, store_refl E0_same, g0, g3, g10, v1, v2, hxD, iaDj, pDj0, pDj1, pDj2, iaDi, pDi0, pDi1, pDi2, exD, eyD] at he
              rw [r164_lt] at h7
              exact .next he (n + hi + 1 - (2 * r + 2)) (by omega) ⟨2 * r + 2, _, by omega, by omega, by omega, Sw.step (f + r) (f + (2 * r + 2)) hs (by omega) (by omega) (by omega) (by omega) hfl, hr.go hnr (by omega) (by omega) (by omega) h7 hmx, by simp only [SY, eq_self, Nat.reduceBEq, g0] <;> rfl, by simp only [SY, eq_self, Nat.reduceBEq, g1] <;> rfl, by simp only [SY, eq_self, Nat.reduceBEq, g2] <;> rfl, by simp only [SY, eq_self, Nat.reduceBEq, g3] <;> rfl, by simp only [SY, eq_self, Nat.reduceBEq, g4] <;> rfl, by simp only [SY, eq_self, Nat.reduceBEq, g10] <;> rfl, (kpC.trans (Keep.of aQ)).trans kpD, owD⟩
            · skip
              simp (disch := first | omega | assumption) only [SY, store_refl E0_same, h7a] at he
              rw [r164_lt] at h7
              exact .ret he ⟨.inr rfl, o, hs, hr.stop (fun c h1 h2 => by have := hmx c h1 h2; omega), kpC.trans (Keep.of aQ), owC.agree aQ⟩
          · skip
            simp (disch := first | omega | assumption) only [SY, store_refl E0_same, h5a] at he
            rw [r164_lt] at h5
            have owC := ow.agree aC
            have kpC := kp.trans (Keep.of aC)
            have v1 : IntKind.i64.wrap ((f : Int) + (r : Int)) = ((f + r : Nat) : Int) := by rw [IntWalk.i64_in] <;> omega
            have v2 : IntKind.i64.wrap ((f : Int) + ((2 * r + 1 : Nat) : Int)) = ((f + (2 * r + 1) : Nat) : Int) := by rw [IntWalk.i64_in] <;> omega
            have hmx : ∀ c : Nat, (c = 2 * r + 1 ∨ c = 2 * r + 2) → c < hi → (lget o (f + c)).at_ ≤ (lget o (f + (2 * r + 1))).at_ := (fun c h1 h2 => by rcases h1 with h1 | h1 <;> subst h1 <;> omega)
            rw [code_draws _ _ _ (by kernel_rfl)] at he
            generalize hnd4 : needy _ = nd4 at he
            obtain ⟨loP, ltP, ccP, exP, hxP, hcP⟩ := own_cut owC hb
            obtain ⟨ofPx, hoPx, iaPx, pPx0, pPx1, pPx2⟩ := hcP (f + r) (by omega)
            obtain ⟨ofPy, hoPy, iaPy, pPy0, pPy1, pPy2⟩ := hcP (f + (2 * r + 1)) (by omega)
            obtain ⟨SQ, kQ, aQ⟩ := c164 (lget o (f + r)).at_ (lget o (f + r)).li (lget o (f + r)).by_ (lget o (f + (2 * r + 1))).at_ (lget o (f + (2 * r + 1))).li (lget o (f + (2 * r + 1))).by_ SC
            have sQ : E0.same SC SQ = true := symEnv_same aQ
            simp (disch := first | omega | assumption) only [E0_G, SY, agreeKind, vals, ldA, rdCells, aggD, Nat.reduceAdd, Nat.reduceLT, Nat.reduceBEq, TY_EvA14, store_agree, store_refl E0_same, g0, g3, g4, g10, v1, v2, hxP, iaPx, pPx0, pPx1, pPx2, iaPy, pPy0, pPy1, pPy2, kQ] at he
            rcases dP (r164 (lget o (f + r)).at_ (lget o (f + r)).li (lget o (f + r)).by_ (lget o (f + (2 * r + 1))).at_ (lget o (f + (2 * r + 1))).li (lget o (f + (2 * r + 1))).by_ < 0) with ⟨h7a, h7⟩ | ⟨h7a, h7⟩
            · skip
              simp (disch := first | omega | assumption) only [SY, store_refl E0_same, h7a] at he
              have ow3 := owC.agree aQ
              rw [code_draws _ _ _ (by kernel_rfl)] at he
              generalize hnd5 : needy _ = nd5 at he
              obtain ⟨loD, ltD, ccD, exD, hxD, hcD⟩ := own_cut ow3 hb
              obtain ⟨ofDj, hoDj, iaDj, pDj0, pDj1, pDj2⟩ := hcD ((f + (2 * r + 1))) (by omega)
              obtain ⟨ofDi, hoDi, iaDi, pDi0, pDi1, pDi2⟩ := hcD ((f + r)) (by omega)
              obtain ⟨SxD, SyD, exD, eyD, owD, kpD, nxD⟩ := own_swp ow3 hb (i := (f + r)) (j := (f + (2 * r + 1))) (by omega) (by omega) hoDi hoDj
              simp (disch := first | omega | assumption) only [E0_G, SY, off, agreeKind, ldA, rdCells, aggD, Nat.reduceAdd, Nat.reduceLT, Nat.reduceBEq, TY_EvA14, store_refl E0_same, g0, g3, g10, v1, v2, hxD, iaDj, pDj0, pDj1, pDj2, iaDi, pDi0, pDi1, pDi2, exD, eyD] at he
              rw [r164_lt] at h7
              exact .next he (n + hi + 1 - (2 * r + 1)) (by omega) ⟨2 * r + 1, _, by omega, by omega, by omega, Sw.step (f + r) (f + (2 * r + 1)) hs (by omega) (by omega) (by omega) (by omega) hfl, hr.go hnr (by omega) (by omega) (by omega) h7 hmx, by simp only [SY, eq_self, Nat.reduceBEq, g0] <;> rfl, by simp only [SY, eq_self, Nat.reduceBEq, g1] <;> rfl, by simp only [SY, eq_self, Nat.reduceBEq, g2] <;> rfl, by simp only [SY, eq_self, Nat.reduceBEq, g3] <;> rfl, by simp only [SY, eq_self, Nat.reduceBEq, g4] <;> rfl, by simp only [SY, eq_self, Nat.reduceBEq, g10] <;> rfl, (kpC.trans (Keep.of aQ)).trans kpD, owD⟩
            · skip
              simp (disch := first | omega | assumption) only [SY, store_refl E0_same, h7a] at he
              rw [r164_lt] at h7
              exact .ret he ⟨.inr rfl, o, hs, hr.stop (fun c h1 h2 => by have := hmx c h1 h2; omega), kpC.trans (Keep.of aQ), owC.agree aQ⟩
        · skip
          simp (disch := first | omega | assumption) only [E0_G, SY, agreeKind, Nat.reduceAdd, Nat.reduceLT, Nat.reduceBEq, store_refl E0_same, g2, w3, h4a] at he
          have v1 : IntKind.i64.wrap ((f : Int) + (r : Int)) = ((f + r : Nat) : Int) := by rw [IntWalk.i64_in] <;> omega
          have v2 : IntKind.i64.wrap ((f : Int) + ((2 * r + 1 : Nat) : Int)) = ((f + (2 * r + 1) : Nat) : Int) := by rw [IntWalk.i64_in] <;> omega
          have hmx : ∀ c : Nat, (c = 2 * r + 1 ∨ c = 2 * r + 2) → c < hi → (lget o (f + c)).at_ ≤ (lget o (f + (2 * r + 1))).at_ := (fun c h1 h2 => by rcases h1 with h1 | h1 <;> subst h1 <;> omega)
          rw [code_draws _ _ _ (by kernel_rfl)] at he
          generalize hnd6 : needy _ = nd6 at he
          obtain ⟨loP, ltP, ccP, exP, hxP, hcP⟩ := own_cut ow hb
          obtain ⟨ofPx, hoPx, iaPx, pPx0, pPx1, pPx2⟩ := hcP (f + r) (by omega)
          obtain ⟨ofPy, hoPy, iaPy, pPy0, pPy1, pPy2⟩ := hcP (f + (2 * r + 1)) (by omega)
          obtain ⟨SQ, kQ, aQ⟩ := c164 (lget o (f + r)).at_ (lget o (f + r)).li (lget o (f + r)).by_ (lget o (f + (2 * r + 1))).at_ (lget o (f + (2 * r + 1))).li (lget o (f + (2 * r + 1))).by_ S1
          have sQ : E0.same S1 SQ = true := symEnv_same aQ
          simp (disch := first | omega | assumption) only [E0_G, SY, agreeKind, vals, ldA, rdCells, aggD, Nat.reduceAdd, Nat.reduceLT, Nat.reduceBEq, TY_EvA14, store_agree, store_refl E0_same, g0, g3, g4, g10, v1, v2, hxP, iaPx, pPx0, pPx1, pPx2, iaPy, pPy0, pPy1, pPy2, kQ] at he
          rcases dP (r164 (lget o (f + r)).at_ (lget o (f + r)).li (lget o (f + r)).by_ (lget o (f + (2 * r + 1))).at_ (lget o (f + (2 * r + 1))).li (lget o (f + (2 * r + 1))).by_ < 0) with ⟨h7a, h7⟩ | ⟨h7a, h7⟩
          · skip
            simp (disch := first | omega | assumption) only [SY, store_refl E0_same, h7a] at he
            have ow3 := ow.agree aQ
            rw [code_draws _ _ _ (by kernel_rfl)] at he
            generalize hnd7 : needy _ = nd7 at he
            obtain ⟨loD, ltD, ccD, exD, hxD, hcD⟩ := own_cut ow3 hb
            obtain ⟨ofDj, hoDj, iaDj, pDj0, pDj1, pDj2⟩ := hcD ((f + (2 * r + 1))) (by omega)
            obtain ⟨ofDi, hoDi, iaDi, pDi0, pDi1, pDi2⟩ := hcD ((f + r)) (by omega)
            obtain ⟨SxD, SyD, exD, eyD, owD, kpD, nxD⟩ := own_swp ow3 hb (i := (f + r)) (j := (f + (2 * r + 1))) (by omega) (by omega) hoDi hoDj
            simp (disch := first | omega | assumption) only [E0_G, SY, off, agreeKind, ldA, rdCells, aggD, Nat.reduceAdd, Nat.reduceLT, Nat.reduceBEq, TY_EvA14, store_refl E0_same, g0, g3, g10, v1, v2, hxD, iaDj, pDj0, pDj1, pDj2, iaDi, pDi0, pDi1, pDi2, exD, eyD] at he
            rw [r164_lt] at h7
            exact .next he (n + hi + 1 - (2 * r + 1)) (by omega) ⟨2 * r + 1, _, by omega, by omega, by omega, Sw.step (f + r) (f + (2 * r + 1)) hs (by omega) (by omega) (by omega) (by omega) hfl, hr.go hnr (by omega) (by omega) (by omega) h7 hmx, by simp only [SY, eq_self, Nat.reduceBEq, g0] <;> rfl, by simp only [SY, eq_self, Nat.reduceBEq, g1] <;> rfl, by simp only [SY, eq_self, Nat.reduceBEq, g2] <;> rfl, by simp only [SY, eq_self, Nat.reduceBEq, g3] <;> rfl, by simp only [SY, eq_self, Nat.reduceBEq, g4] <;> rfl, by simp only [SY, eq_self, Nat.reduceBEq, g10] <;> rfl, (kp.trans (Keep.of aQ)).trans kpD, owD⟩
          · skip
            simp (disch := first | omega | assumption) only [SY, store_refl E0_same, h7a] at he
            rw [r164_lt] at h7
            exact .ret he ⟨.inr rfl, o, hs, hr.stop (fun c h1 h2 => by have := hmx c h1 h2; omega), kp.trans (Keep.of aQ), ow.agree aQ⟩)
  obtain ⟨hx, o, hs, hr, kp, ow⟩ := hQ1
  rcases hx with rfl | rfl
  · skip
    simp (disch := first | omega | assumption) only [SY, eq_self, if_true, store_refl E0_same] at hz
    exact ⟨_, o, hz.symm, kp, ow, hs, hr⟩
  · skip
    simp (disch := first | omega | assumption) only [SY, store_refl E0_same] at hz
    exact ⟨_, o, hz.symm, kp, ow, hs, hr⟩
end Great
end Go.Proofs
end
