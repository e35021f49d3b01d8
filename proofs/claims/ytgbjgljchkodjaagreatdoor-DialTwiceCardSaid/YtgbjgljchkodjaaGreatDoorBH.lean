/-
  BH: EvC3, EvC4.
-/
import Derived.Test.YtgbjgljchkodjaaGreatDoorBG
section
/-
  The great seat of stage 1: the pieces that are kept, yielded.
-/
set_option linter.unusedSimpArgs false
set_option linter.unusedVariables false
namespace Go.Proofs
namespace Great
open Go Go.RowKit Go.Aev
set_option maxRecDepth 100000

theorem tz4 : szOf Tryz.prog 4 = some 1 := by kernel_rfl
theorem tz106 : szOf Tryz.prog 85 = some 2 := by kernel_rfl
theorem tt106 : inTab Tryz.prog 85 = true := by kernel_rfl
theorem t0_106 : zeroOf Tryz.prog 85 = some (.agg #[.bool false, .bool false]) := by kernel_rfl

theorem open_step {S : AS} {b : Nat} {x : Ct} {p q : Int} (hx : x.li = 0 ∨ x.li = 1) (hg : S.heap.get b = some (.cells [.int .i64 p, .int .i64 q] 76 0 true true)) :
    ∃ (oi : Nat) (pv : Int) (S' : AS), aIndexAddr Tryz.prog 76 (.pointer (some ⟨b, 0, none⟩)) (.int .i64 x.li) = some (.pointer (some ⟨b, oi, none⟩)) ∧ ([.int .i64 p, .int .i64 q] : List Value)[oi]? = some (.int .i64 pv) ∧
      stA Tryz.prog 3 ⟨b, oi, none⟩ (.int .i64 (IntKind.i64.wrap (pv + x.by_))) S = some S' ∧ S'.next = S.next ∧ S'.heap.get b = some (.cells [.int .i64 (stepC x p q).1, .int .i64 (stepC x p q).2] 76 0 true true) ∧ ∀ j, j ≠ b → S'.heap.get j = S.heap.get j := by
  rcases hx with h | h
  · obtain ⟨S', k, n, g, f⟩ := st_at (P := Tryz.prog) (o := 0) (c' := [.int .i64 (IntKind.i64.wrap (p + x.by_)), .int .i64 q]) (v := .int .i64 (IntKind.i64.wrap (p + x.by_))) tz3 hg rfl rfl (show 0 + 1 ≤ 2 by decide) rfl
    refine ⟨0, p, S', ?_, rfl, k, n, ?_, f⟩
    · rw [h]; kernel_rfl
    · rw [g]; simp [stepC, h]
  · obtain ⟨S', k, n, g, f⟩ := st_at (P := Tryz.prog) (o := 1) (c' := [.int .i64 p, .int .i64 (IntKind.i64.wrap (q + x.by_))]) (v := .int .i64 (IntKind.i64.wrap (q + x.by_))) tz3 hg rfl rfl (show 1 + 1 ≤ 2 by decide) rfl
    refine ⟨1, q, S', ?_, rfl, k, n, ?_, f⟩
    · rw [h]; kernel_rfl
    · rw [g]; simp [stepC, h]

/-- What a test of two bools answers. -/
def KeepOk (kf : FuncId) (keep : Bool → Bool → Bool) : Prop := ∀ (u w : Bool) (S : AS), ∃ S', (evL Tryz.prog E0).call kf #[.agg #[.bool u, .bool w]] S = some (.bool (keep u w), S') ∧ Agree S S'

set_option maxHeartbeats 8000000 in
theorem it152 (ks : List Ct) (hn : ks.length ≤ 1000) (hli : ∀ x ∈ ks, x.li = 0 ∨ x.li = 1) (kf : FuncId) (keep : Bool → Bool → Bool) (hk : KeepOk kf keep) (S : AS) (y : Nat) (I : Nat → (Nat → Prop) → AS → Prop) (T0 : Nat → Prop)
    (hy : YieldOk Tryz.prog E0 S y (fun b : Sp => Value.agg (cellsOf b).toArray) (R152 keep ks 0 0) I) (h0 : I 0 T0 S) (po : Option Addr) (no co : Nat) (hv : Lst S (.slice po no co) ks) (nv : ∀ b, blkOf (.slice po no co) = some b → ¬ T0 b)
    (px pk : Nat) (gx : S.heap.get px = some (.cells [.slice po no co] 138 0 true true)) (lx : px < S.next) (nx : ¬ T0 px) (gk : S.heap.get pk = some (.cells [.func (.func kf) #[] #[]] 86 0 true true)) (lk : pk < S.next) (nk : ¬ T0 pk) :
    ∃ S' T', (evL Tryz.prog E0).call 100 #[.func (.yield y) #[] #[], .pointer (some ⟨px, 0, none⟩), .pointer (some ⟨pk, 0, none⟩)] S = some (.tuple #[], S') ∧ I (R152 keep ks 0 0).length T' S' ∧ Off T0 S S' ∧ Wider T0 S T' := by
  generalize hys : R152 keep ks 0 0 = ys at *
  have hbeg : ys.drop 0 = R152 keep (ks.drop 0) 0 0 := hys.symm
  generalize hz : (evL Tryz.prog E0).call 100 _ _ = z
  rw [L_call, evCall_said rfl Tryz.func100 rfl (by decide) Tryz.ntmps100 Tryz.results100] at hz
  obtain ⟨S1, e1, n1, b1, a1⟩ := push_open S (.cells [.int .i64 0, .int .i64 0] 76 0 true true)
  have gx1 := (a1.2 px lx).trans gx
  have w1 := (hv.agree a1).len (P := Tryz.prog) (t := 138) Tryz.underlying138
  have nb0 : ¬ T0 S.next := fun h => by have := hy.low _ _ _ h0 _ h; omega
  have hI1 := hy.keep _ _ _ _ h0 a1.1 (fun id hid _ => a1.2 id hid)
  simp (disch := first | omega | assumption) only [E0_G, SY, setArgs, off, agreeKind, partVals, vals, allocV, boxed, ldA, rdCells, oneB, aggD, aField, aFieldV, aExtract, eq_self, ne_eq, if_true, if_false, not_false_eq_true, Nat.reduceAdd, Nat.reduceSub, Nat.reduceMul, Nat.reduceLT, Nat.reduceEqDiff, Nat.reduceBEq, reduceIte, Int.reduceEq, Int.reduceLT, Int.reduceLE, reduceCtorEq, TY_EvA14, and_fold, or_fold, not_fold, e1, gx1, w1, tz179, Tryz.underlying138, Tryz.underlying76, tz123, tt123, t0_123] at hz
  generalize hL2 : Rec.loop _ _ _ _ = L2 at hz
  obtain ⟨x2, t2, S2e, rfl, hQ2⟩ := loop_met hL2 (fun m t S' => ∃ (cI : Nat) (TI : Nat → Prop) (j : Nat) (p q : Int), m + j = ks.length ∧ cI ≤ ys.length ∧ t.get 0 = some (.func (.yield y) #[] #[]) ∧ t.get 1 = some (.pointer (some ⟨px, 0, none⟩)) ∧ t.get 2 = some (.pointer (some ⟨pk, 0, none⟩)) ∧
      t.get 4 = some (.pointer (some ⟨S.next, 0, none⟩)) ∧ t.get 8 = some (.slice po no co) ∧ t.get 9 = some (.int .i64 (ks.length : Int)) ∧ t.get 10 = some (.int .i64 (j : Int)) ∧ S'.heap.get S.next = some (.cells [.int .i64 p, .int .i64 q] 76 0 true true) ∧ Off T0 S S' ∧ S1.next ≤ S'.next ∧ I cI TI S' ∧ Wider T0 S1 TI ∧ ys.drop cI = R152 keep (ks.drop j) p q)
    (fun x t S' => x = .exit 0 ∧ ∃ (cI : Nat) (TI : Nat → Prop), Off T0 S S' ∧ I cI TI S' ∧ Wider T0 S1 TI ∧ cI ≤ ys.length ∧ ys.drop cI = []) (ks.length - 0)
    ⟨0, T0, 0, 0, 0, by omega, by omega, by simp only [SY, setArgs, off, agreeKind, partVals, vals, allocV, boxed, ldA, rdCells, oneB, aggD, aField, aFieldV, aExtract, eq_self, ne_eq, if_true, if_false, not_false_eq_true, Nat.reduceAdd, Nat.reduceSub, Nat.reduceMul, Nat.reduceLT, Nat.reduceEqDiff, Nat.reduceBEq, reduceIte, Int.reduceEq, Int.reduceLT, Int.reduceLE, reduceCtorEq] <;> rfl, by simp only [SY, setArgs, off, agreeKind, partVals, vals, allocV, boxed, ldA, rdCells, oneB, aggD, aField, aFieldV, aExtract, eq_self, ne_eq, if_true, if_false, not_false_eq_true, Nat.reduceAdd, Nat.reduceSub, Nat.reduceMul, Nat.reduceLT, Nat.reduceEqDiff, Nat.reduceBEq, reduceIte, Int.reduceEq, Int.reduceLT, Int.reduceLE, reduceCtorEq] <;> rfl, by simp only [SY, setArgs, off, agreeKind, partVals, vals, allocV, boxed, ldA, rdCells, oneB, aggD, aField, aFieldV, aExtract, eq_self, ne_eq, if_true, if_false, not_false_eq_true, Nat.reduceAdd, Nat.reduceSub, Nat.reduceMul, Nat.reduceLT, Nat.reduceEqDiff, Nat.reduceBEq, reduceIte, Int.reduceEq, Int.reduceLT, Int.reduceLE, reduceCtorEq] <;> rfl, by simp only [SY, setArgs, off, agreeKind, partVals, vals, allocV, boxed, ldA, rdCells, oneB, aggD, aField, aFieldV, aExtract, eq_self, ne_eq, if_true, if_false, not_false_eq_true, Nat.reduceAdd, Nat.reduceSub, Nat.reduceMul, Nat.reduceLT, Nat.reduceEqDiff, Nat.reduceBEq, reduceIte, Int.reduceEq, Int.reduceLT, Int.reduceLE, reduceCtorEq] <;> rfl, by simp only [SY, setArgs, off, agreeKind, partVals, vals, allocV, boxed, ldA, rdCells, oneB, aggD, aField, aFieldV, aExtract, eq_self, ne_eq, if_true, if_false, not_false_eq_true, Nat.reduceAdd, Nat.reduceSub, Nat.reduceMul, Nat.reduceLT, Nat.reduceEqDiff, Nat.reduceBEq, reduceIte, Int.reduceEq, Int.reduceLT, Int.reduceLE, reduceCtorEq] <;> rfl, by simp only [SY, setArgs, off, agreeKind, partVals, vals, allocV, boxed, ldA, rdCells, oneB, aggD, aField, aFieldV, aExtract, eq_self, ne_eq, if_true, if_false, not_false_eq_true, Nat.reduceAdd, Nat.reduceSub, Nat.reduceMul, Nat.reduceLT, Nat.reduceEqDiff, Nat.reduceBEq, reduceIte, Int.reduceEq, Int.reduceLT, Int.reduceLE, reduceCtorEq] <;> rfl, by simp only [SY, setArgs, off, agreeKind, partVals, vals, allocV, boxed, ldA, rdCells, oneB, aggD, aField, aFieldV, aExtract, eq_self, ne_eq, if_true, if_false, not_false_eq_true, Nat.reduceAdd, Nat.reduceSub, Nat.reduceMul, Nat.reduceLT, Nat.reduceEqDiff, Nat.reduceBEq, reduceIte, Int.reduceEq, Int.reduceLT, Int.reduceLE, reduceCtorEq] <;> rfl, b1, Off.agree (Off.refl T0 S) a1, Nat.le_refl _, hI1, Wider.refl T0 S1, hbeg⟩ (by
      rintro m t S2 ⟨cI, TI, j, p, q, hm, hcI, g0, g1, g2, g4, g8, g9, g10, bo, off2, gn2, hI2, ww2, hd⟩
      refine .run fun z he => ?_
      simp (disch := first | omega | assumption) only [E0_G, SY, setArgs, off, agreeKind, partVals, vals, allocV, boxed, ldA, rdCells, oneB, aggD, aField, aFieldV, aExtract, eq_self, ne_eq, if_true, if_false, not_false_eq_true, Nat.reduceAdd, Nat.reduceSub, Nat.reduceMul, Nat.reduceLT, Nat.reduceEqDiff, Nat.reduceBEq, reduceIte, Int.reduceEq, Int.reduceLT, Int.reduceLE, reduceCtorEq, TY_EvA14, and_fold, or_fold, not_fold, g0, g1, g2, g4, g8, g9, g10] at he
      rcases dP ((j : Int) < (ks.length : Int)) with ⟨h3a, h3⟩ | ⟨h3a, h3⟩
      · have hx : ks[j]? = some (ks[j]'(by omega)) := List.getElem?_eq_getElem _
        have hmem : ks[j]'(by omega) ∈ ks := List.getElem_mem _
        generalize ks[j]'_ = x at hx hmem
        obtain ⟨id4, of4, cc4, ty4, wr4, ex4, i4, j4, l4, q4, bb4⟩ := hv.at2 (P := Tryz.prog) (t := 138) Tryz.underlying138 tz183 hx
        have j4 := (off2.2 id4 l4 (nv _ bb4)).trans j4
        have m4_0 : cc4[of4]? = some (.int .i64 x.at_) := q4 0 (show 0 < 3 by decide)
        have m4_1 : cc4[of4 + 1]? = some (.int .i64 x.li) := q4 1 (show 1 < 3 by decide)
        have m4_2 : cc4[of4 + 2]? = some (.int .i64 x.by_) := q4 2 (show 2 < 3 by decide)
        obtain ⟨S3, e3, n3, b3, a3⟩ := push_open S2 (.cells [.int .i64 0, .int .i64 0, .int .i64 0] 142 0 true true)
        obtain ⟨S4, e4, n4, b4, f4⟩ := st_at (P := Tryz.prog) (o := 0) (c' := [.int .i64 x.at_, .int .i64 x.li, .int .i64 x.by_]) (v := .agg #[.int .i64 x.at_, .int .i64 x.li, .int .i64 x.by_]) tz183 b3 rfl rfl (show 0 + 3 ≤ 3 by decide) rfl
        have bo4 := (f4 S.next (by omega)).trans ((a3.2 S.next (by omega)).trans bo)
        obtain ⟨oi, pv, S5, i5, c5, e5, n5, b5, f5⟩ := open_step (hli x hmem) bo4
        simp (disch := first | omega | assumption) only [E0_G, SY, setArgs, off, agreeKind, partVals, vals, allocV, boxed, ldA, rdCells, oneB, aggD, aField, aFieldV, aExtract, eq_self, ne_eq, if_true, if_false, not_false_eq_true, Nat.reduceAdd, Nat.reduceSub, Nat.reduceMul, Nat.reduceLT, Nat.reduceEqDiff, Nat.reduceBEq, reduceIte, Int.reduceEq, Int.reduceLT, Int.reduceLE, reduceCtorEq, TY_EvA14, and_fold, or_fold, not_fold, g0, g1, g2, g4, g8, g9, g10, h3a, i4, j4, m4_0, m4_1, m4_2, e3, e4] at he
        rw [code_draws _ _ _ (by kernel_rfl)] at he
        generalize hnd4 : needy _ = nd4 at he
        simp (disch := first | omega | assumption) only [E0_G, SY, setArgs, off, agreeKind, partVals, vals, allocV, boxed, ldA, rdCells, oneB, aggD, aField, aFieldV, aExtract, eq_self, ne_eq, if_true, if_false, not_false_eq_true, Nat.reduceAdd, Nat.reduceSub, Nat.reduceMul, Nat.reduceLT, Nat.reduceEqDiff, Nat.reduceBEq, reduceIte, Int.reduceEq, Int.reduceLT, Int.reduceLE, reduceCtorEq, TY_EvA14, and_fold, or_fold, not_fold, g0, g1, g2, g4, g8, g9, g10, store_agree, store_refl E0_same, b4, bo4, i5, c5, e5] at he
        have ntb : ¬ TI S.next := ww2.not (by omega) nb0
        have wwS : Wider T0 S TI := fun id h => (ww2 id h).imp (fun h => h) (by omega)
        have off5 : Off T0 S S5 := ((off2.agree a3).put (by omega) n4 f4).put (Nat.le_refl _) n5 f5
        have hI5 := hy.keep _ _ _ _ hI2 (show S2.next ≤ S5.next by omega) (fun id hid hh => (f5 id (fun e => hh.elim (fun h' => ntb (e ▸ h')) (fun h' => by omega))).trans ((f4 id (by omega)).trans (a3.2 id hid)))
        have fx5 := (off5.2 px lx nx).trans gx
        have b65 := (f5 S2.next (by omega)).trans b4
        have w25 : IntKind.i64.wrap ((j : Int) + 1) = ((j + 1 : Nat) : Int) := by rw [IntWalk.i64_in] <;> omega
        rw [drop_cons' hx] at hd
        rw [code_draws _ _ _ (by kernel_rfl)] at he
        generalize hnd5 : needy _ = nd5 at he
        rcases dP (((j + 1 : Nat) : Int) = (ks.length : Int)) with ⟨h6a, h6⟩ | ⟨h6a, h6⟩
        · simp (disch := first | omega | assumption) only [E0_G, SY, setArgs, off, agreeKind, partVals, vals, allocV, boxed, ldA, rdCells, oneB, aggD, aField, aFieldV, aExtract, eq_self, ne_eq, if_true, if_false, not_false_eq_true, Nat.reduceAdd, Nat.reduceSub, Nat.reduceMul, Nat.reduceLT, Nat.reduceEqDiff, Nat.reduceBEq, reduceIte, Int.reduceEq, Int.reduceLT, Int.reduceLE, reduceCtorEq, TY_EvA14, and_fold, or_fold, not_fold, g0, g1, g2, g4, g8, g9, g10, store_agree, store_refl E0_same, tz179, Tryz.underlying138, fx5, w1, w25, h6a] at he
          have hdr : ks.drop (j + 1) = [] := List.drop_eq_nil_of_le (by omega)
          rw [hdr] at hd
          exact .next he (m - 1) (by omega) ⟨cI, TI, j + 1, _, _, by omega, hcI, by simp only [SY, setArgs, off, agreeKind, partVals, vals, allocV, boxed, ldA, rdCells, oneB, aggD, aField, aFieldV, aExtract, eq_self, ne_eq, if_true, if_false, not_false_eq_true, Nat.reduceAdd, Nat.reduceSub, Nat.reduceMul, Nat.reduceLT, Nat.reduceEqDiff, Nat.reduceBEq, reduceIte, Int.reduceEq, Int.reduceLT, Int.reduceLE, reduceCtorEq, g0, g1, g2, g4, g8, g9, g10] <;> rfl, by simp only [SY, setArgs, off, agreeKind, partVals, vals, allocV, boxed, ldA, rdCells, oneB, aggD, aField, aFieldV, aExtract, eq_self, ne_eq, if_true, if_false, not_false_eq_true, Nat.reduceAdd, Nat.reduceSub, Nat.reduceMul, Nat.reduceLT, Nat.reduceEqDiff, Nat.reduceBEq, reduceIte, Int.reduceEq, Int.reduceLT, Int.reduceLE, reduceCtorEq, g0, g1, g2, g4, g8, g9, g10] <;> rfl, by simp only [SY, setArgs, off, agreeKind, partVals, vals, allocV, boxed, ldA, rdCells, oneB, aggD, aField, aFieldV, aExtract, eq_self, ne_eq, if_true, if_false, not_false_eq_true, Nat.reduceAdd, Nat.reduceSub, Nat.reduceMul, Nat.reduceLT, Nat.reduceEqDiff, Nat.reduceBEq, reduceIte, Int.reduceEq, Int.reduceLT, Int.reduceLE, reduceCtorEq, g0, g1, g2, g4, g8, g9, g10] <;> rfl, by simp only [SY, setArgs, off, agreeKind, partVals, vals, allocV, boxed, ldA, rdCells, oneB, aggD, aField, aFieldV, aExtract, eq_self, ne_eq, if_true, if_false, not_false_eq_true, Nat.reduceAdd, Nat.reduceSub, Nat.reduceMul, Nat.reduceLT, Nat.reduceEqDiff, Nat.reduceBEq, reduceIte, Int.reduceEq, Int.reduceLT, Int.reduceLE, reduceCtorEq, g0, g1, g2, g4, g8, g9, g10] <;> rfl, by simp only [SY, setArgs, off, agreeKind, partVals, vals, allocV, boxed, ldA, rdCells, oneB, aggD, aField, aFieldV, aExtract, eq_self, ne_eq, if_true, if_false, not_false_eq_true, Nat.reduceAdd, Nat.reduceSub, Nat.reduceMul, Nat.reduceLT, Nat.reduceEqDiff, Nat.reduceBEq, reduceIte, Int.reduceEq, Int.reduceLT, Int.reduceLE, reduceCtorEq, g0, g1, g2, g4, g8, g9, g10] <;> rfl, by simp only [SY, setArgs, off, agreeKind, partVals, vals, allocV, boxed, ldA, rdCells, oneB, aggD, aField, aFieldV, aExtract, eq_self, ne_eq, if_true, if_false, not_false_eq_true, Nat.reduceAdd, Nat.reduceSub, Nat.reduceMul, Nat.reduceLT, Nat.reduceEqDiff, Nat.reduceBEq, reduceIte, Int.reduceEq, Int.reduceLT, Int.reduceLE, reduceCtorEq, g0, g1, g2, g4, g8, g9, g10] <;> rfl, by simp only [SY, setArgs, off, agreeKind, partVals, vals, allocV, boxed, ldA, rdCells, oneB, aggD, aField, aFieldV, aExtract, eq_self, ne_eq, if_true, if_false, not_false_eq_true, Nat.reduceAdd, Nat.reduceSub, Nat.reduceMul, Nat.reduceLT, Nat.reduceEqDiff, Nat.reduceBEq, reduceIte, Int.reduceEq, Int.reduceLT, Int.reduceLE, reduceCtorEq, g0, g1, g2, g4, g8, g9, g10] <;> rfl, b5, off5, by omega, hI5, ww2, by rw [hdr]; exact hd⟩
        · have hx2 : ks[j + 1]? = some (ks[j + 1]'(by omega)) := List.getElem?_eq_getElem _
          generalize ks[j + 1]'_ = x2 at hx2
          have hdr := drop_cons' hx2
          rw [hdr] at hd
          obtain ⟨id6, of6, cc6, ty6, wr6, ex6, i6, j6r, l6, q6, bb6⟩ := hv.at2 (P := Tryz.prog) (t := 138) Tryz.underlying138 tz183 hx2
          have j6 := (off5.2 id6 l6 (nv _ bb6)).trans j6r
          have m6_0 : cc6[of6]? = some (.int .i64 x2.at_) := q6 0 (show 0 < 3 by decide)
          rcases dP (x2.at_ = x.at_) with ⟨h9a, h9⟩ | ⟨h9a, h9⟩
          · simp (disch := first | omega | assumption) only [E0_G, SY, setArgs, off, agreeKind, partVals, vals, allocV, boxed, ldA, rdCells, oneB, aggD, aField, aFieldV, aExtract, eq_self, ne_eq, if_true, if_false, not_false_eq_true, Nat.reduceAdd, Nat.reduceSub, Nat.reduceMul, Nat.reduceLT, Nat.reduceEqDiff, Nat.reduceBEq, reduceIte, Int.reduceEq, Int.reduceLT, Int.reduceLE, reduceCtorEq, TY_EvA14, and_fold, or_fold, not_fold, g0, g1, g2, g4, g8, g9, g10, store_agree, store_refl E0_same, tz179, Tryz.underlying138, fx5, w1, w25, h6a, i6, j6, m6_0, b65, h9a] at he
            exact .next he (m - 1) (by omega) ⟨cI, TI, j + 1, (stepC x p q).1, (stepC x p q).2, by omega, hcI, by simp only [SY, setArgs, off, agreeKind, partVals, vals, allocV, boxed, ldA, rdCells, oneB, aggD, aField, aFieldV, aExtract, eq_self, ne_eq, if_true, if_false, not_false_eq_true, Nat.reduceAdd, Nat.reduceSub, Nat.reduceMul, Nat.reduceLT, Nat.reduceEqDiff, Nat.reduceBEq, reduceIte, Int.reduceEq, Int.reduceLT, Int.reduceLE, reduceCtorEq, g0, g1, g2, g4, g8, g9, g10] <;> rfl, by simp only [SY, setArgs, off, agreeKind, partVals, vals, allocV, boxed, ldA, rdCells, oneB, aggD, aField, aFieldV, aExtract, eq_self, ne_eq, if_true, if_false, not_false_eq_true, Nat.reduceAdd, Nat.reduceSub, Nat.reduceMul, Nat.reduceLT, Nat.reduceEqDiff, Nat.reduceBEq, reduceIte, Int.reduceEq, Int.reduceLT, Int.reduceLE, reduceCtorEq, g0, g1, g2, g4, g8, g9, g10] <;> rfl, by simp only [SY, setArgs, off, agreeKind, partVals, vals, allocV, boxed, ldA, rdCells, oneB, aggD, aField, aFieldV, aExtract, eq_self, ne_eq, if_true, if_false, not_false_eq_true, Nat.reduceAdd, Nat.reduceSub, Nat.reduceMul, Nat.reduceLT, Nat.reduceEqDiff, Nat.reduceBEq, reduceIte, Int.reduceEq, Int.reduceLT, Int.reduceLE, reduceCtorEq, g0, g1, g2, g4, g8, g9, g10] <;> rfl, by simp only [SY, setArgs, off, agreeKind, partVals, vals, allocV, boxed, ldA, rdCells, oneB, aggD, aField, aFieldV, aExtract, eq_self, ne_eq, if_true, if_false, not_false_eq_true, Nat.reduceAdd, Nat.reduceSub, Nat.reduceMul, Nat.reduceLT, Nat.reduceEqDiff, Nat.reduceBEq, reduceIte, Int.reduceEq, Int.reduceLT, Int.reduceLE, reduceCtorEq, g0, g1, g2, g4, g8, g9, g10] <;> rfl, by simp only [SY, setArgs, off, agreeKind, partVals, vals, allocV, boxed, ldA, rdCells, oneB, aggD, aField, aFieldV, aExtract, eq_self, ne_eq, if_true, if_false, not_false_eq_true, Nat.reduceAdd, Nat.reduceSub, Nat.reduceMul, Nat.reduceLT, Nat.reduceEqDiff, Nat.reduceBEq, reduceIte, Int.reduceEq, Int.reduceLT, Int.reduceLE, reduceCtorEq, g0, g1, g2, g4, g8, g9, g10] <;> rfl, by simp only [SY, setArgs, off, agreeKind, partVals, vals, allocV, boxed, ldA, rdCells, oneB, aggD, aField, aFieldV, aExtract, eq_self, ne_eq, if_true, if_false, not_false_eq_true, Nat.reduceAdd, Nat.reduceSub, Nat.reduceMul, Nat.reduceLT, Nat.reduceEqDiff, Nat.reduceBEq, reduceIte, Int.reduceEq, Int.reduceLT, Int.reduceLE, reduceCtorEq, g0, g1, g2, g4, g8, g9, g10] <;> rfl, by simp only [SY, setArgs, off, agreeKind, partVals, vals, allocV, boxed, ldA, rdCells, oneB, aggD, aField, aFieldV, aExtract, eq_self, ne_eq, if_true, if_false, not_false_eq_true, Nat.reduceAdd, Nat.reduceSub, Nat.reduceMul, Nat.reduceLT, Nat.reduceEqDiff, Nat.reduceBEq, reduceIte, Int.reduceEq, Int.reduceLT, Int.reduceLE, reduceCtorEq, g0, g1, g2, g4, g8, g9, g10] <;> rfl, b5, off5, by omega, hI5, ww2, by rw [hdr]; exact hd.trans (if_pos h9)⟩
          · obtain ⟨S6, e6, n6, b6, a6⟩ := push_open S5 (.cells [.bool false, .bool false] 85 0 true true)
            obtain ⟨S7, e7, n7, b77, f7⟩ := st_at (P := Tryz.prog) (o := 0) (c' := [.bool (decide (0 < (stepC x p q).1)), .bool (decide (0 < (stepC x p q).2))]) (v := .agg #[.bool (decide (0 < (stepC x p q).1)), .bool (decide (0 < (stepC x p q).2))]) tz106 b6 rfl rfl (show 0 + 2 ≤ 2 by decide) rfl
            have i60 : aIndexAddr Tryz.prog 76 (.pointer (some ⟨S.next, 0, none⟩)) (.int .i64 0) = some (.pointer (some ⟨S.next, 0, none⟩)) := by kernel_rfl
            have i61 : aIndexAddr Tryz.prog 76 (.pointer (some ⟨S.next, 0, none⟩)) (.int .i64 1) = some (.pointer (some ⟨S.next, 1, none⟩)) := by kernel_rfl
            have i80 : aIndexAddr Tryz.prog 85 (.pointer (some ⟨S5.next, 0, none⟩)) (.int .i64 0) = some (.pointer (some ⟨S5.next, 0, none⟩)) := by kernel_rfl
            have i81 : aIndexAddr Tryz.prog 85 (.pointer (some ⟨S5.next, 0, none⟩)) (.int .i64 1) = some (.pointer (some ⟨S5.next, 1, none⟩)) := by kernel_rfl
            have y6 : aBuild Tryz.prog 85 [(0, .bool (decide (0 < (stepC x p q).1))), (1, .bool (decide (0 < (stepC x p q).2)))] = some (.agg #[.bool (decide (0 < (stepC x p q).1)), .bool (decide (0 < (stepC x p q).2))]) := by kernel_rfl
            have y9 : aBuild Tryz.prog 137 [(0, .int .i64 x.at_), (1, .int .i64 (IntKind.i64.wrap (x2.at_ - 1)))] = some (.agg #[.int .i64 x.at_, .int .i64 (IntKind.i64.wrap (x2.at_ - 1))]) := by kernel_rfl
            simp (disch := first | omega | assumption) only [E0_G, SY, setArgs, off, agreeKind, partVals, vals, allocV, boxed, ldA, rdCells, oneB, aggD, aField, aFieldV, aExtract, eq_self, ne_eq, if_true, if_false, not_false_eq_true, Nat.reduceAdd, Nat.reduceSub, Nat.reduceMul, Nat.reduceLT, Nat.reduceEqDiff, Nat.reduceBEq, reduceIte, Int.reduceEq, Int.reduceLT, Int.reduceLE, reduceCtorEq, TY_EvA14, and_fold, or_fold, not_fold, g0, g1, g2, g4, g8, g9, g10, store_agree, store_refl E0_same, tz179, Tryz.underlying138, fx5, w1, w25, h6a, i6, j6, m6_0, b65, h9a, b5, i60, i61, y6, tz106, tt106, t0_106, Tryz.underlying85, e6, e7] at he
            rw [code_draws _ _ _ (by kernel_rfl)] at he
            generalize hnd7 : needy _ = nd7 at he
            have nq9 : nd7 23 = false := by rw [← hnd7]; kernel_rfl
            have off7 : Off T0 S S7 := (off5.agree a6).put (by omega) n7 f7
            have hI7 := hy.keep _ _ _ _ hI5 (show S5.next ≤ S7.next by omega) (fun id hid hh => (f7 id (by omega)).trans (a6.2 id hid))
            have bo7 := (f7 S.next (by omega)).trans ((a6.2 S.next (by omega)).trans b5)
            have b67 := (f7 S2.next (by omega)).trans ((a6.2 S2.next (by omega)).trans b65)
            have fk7 := (off7.2 pk lk nk).trans gk
            rcases dP (0 < (stepC x p q).1) with ⟨hua, hu⟩ | ⟨hua, hu⟩
            · obtain ⟨w, hwa⟩ : ∃ w, decide (0 < (stepC x p q).2) = w := ⟨_, rfl⟩
              obtain ⟨S8, k8, a8⟩ := hk true w S7
              have s8 : E0.same S7 S8 = true := symEnv_same a8
              have m8 := a8.1
              have hI8 := hy.keep _ _ _ _ hI7 a8.1 (fun id hid _ => a8.2 id hid)
              have off8 := off7.agree a8
              have bo8 := (a8.2 S.next (by omega)).trans bo7
              have b68 := (a8.2 S2.next (by omega)).trans b67
              have fx8 := (off8.2 px lx nx).trans gx
              have j8 := (off8.2 id6 l6 (nv _ bb6)).trans (j6r)
              rcases Bool.eq_false_or_eq_true (keep true w) with hkk | hkk
              · have hcond : (0 < (stepC x p q).1 ∨ 0 < (stepC x p q).2) ∧ keep (decide (0 < (stepC x p q).1)) (decide (0 < (stepC x p q).2)) = true := ⟨.inl hu, by rw [hua, hwa]; exact hkk⟩
                have yy := drop_unc (x := (⟨x.at_, IntKind.i64.wrap (x2.at_ - 1)⟩ : Sp)) (hd.trans ((if_neg h9).trans (if_pos hcond)))
                obtain ⟨S9, T9, k9, hI9, f9, w9⟩ := hy.step _ _ _ _ yy.1 hI8
                replace k9 : (evL Tryz.prog E0).round y #[.agg #[.int .i64 x.at_, .int .i64 (IntKind.i64.wrap (x2.at_ - 1))]] S8 = some (.bool true, S9) := k9
                have cl9 := (List.getElem?_eq_some_iff.1 yy.1).1
                have m9 := f9.1
                simp (disch := first | omega | assumption) only [E0_G, SY, setArgs, off, agreeKind, partVals, vals, allocV, boxed, ldA, rdCells, oneB, aggD, aField, aFieldV, aExtract, eq_self, ne_eq, if_true, if_false, not_false_eq_true, Nat.reduceAdd, Nat.reduceSub, Nat.reduceMul, Nat.reduceLT, Nat.reduceEqDiff, Nat.reduceBEq, reduceIte, Int.reduceEq, Int.reduceLT, Int.reduceLE, reduceCtorEq, TY_EvA14, and_fold, or_fold, not_fold, g0, g1, g2, g4, g8, g9, g10, op_callV, calledV_some, Array.empty_append, calledV_yield, firstOf_none, op_round, roundV_some, nq9, store_agree, store_refl E0_same, hua, hwa, b77, tz4, tz106, tz107, Tryz.underlying86, Tryz.underlying85, Tryz.underlying4, fk7, i80, i81, k8, s8, hkk, b68, fx8, tz179, Tryz.underlying138, tz183, w25, i6, j8, m6_0, y9, k9, Bool.false_and, store_off, w25] at he
                exact .next he (m - 1) (by omega) ⟨cI + 1, T9, j + 1, (stepC x p q).1, (stepC x p q).2, by omega, by omega, by simp only [SY, setArgs, off, agreeKind, partVals, vals, allocV, boxed, ldA, rdCells, oneB, aggD, aField, aFieldV, aExtract, eq_self, ne_eq, if_true, if_false, not_false_eq_true, Nat.reduceAdd, Nat.reduceSub, Nat.reduceMul, Nat.reduceLT, Nat.reduceEqDiff, Nat.reduceBEq, reduceIte, Int.reduceEq, Int.reduceLT, Int.reduceLE, reduceCtorEq, g0, g1, g2, g4, g8, g9, g10] <;> rfl, by simp only [SY, setArgs, off, agreeKind, partVals, vals, allocV, boxed, ldA, rdCells, oneB, aggD, aField, aFieldV, aExtract, eq_self, ne_eq, if_true, if_false, not_false_eq_true, Nat.reduceAdd, Nat.reduceSub, Nat.reduceMul, Nat.reduceLT, Nat.reduceEqDiff, Nat.reduceBEq, reduceIte, Int.reduceEq, Int.reduceLT, Int.reduceLE, reduceCtorEq, g0, g1, g2, g4, g8, g9, g10] <;> rfl, by simp only [SY, setArgs, off, agreeKind, partVals, vals, allocV, boxed, ldA, rdCells, oneB, aggD, aField, aFieldV, aExtract, eq_self, ne_eq, if_true, if_false, not_false_eq_true, Nat.reduceAdd, Nat.reduceSub, Nat.reduceMul, Nat.reduceLT, Nat.reduceEqDiff, Nat.reduceBEq, reduceIte, Int.reduceEq, Int.reduceLT, Int.reduceLE, reduceCtorEq, g0, g1, g2, g4, g8, g9, g10] <;> rfl, by simp only [SY, setArgs, off, agreeKind, partVals, vals, allocV, boxed, ldA, rdCells, oneB, aggD, aField, aFieldV, aExtract, eq_self, ne_eq, if_true, if_false, not_false_eq_true, Nat.reduceAdd, Nat.reduceSub, Nat.reduceMul, Nat.reduceLT, Nat.reduceEqDiff, Nat.reduceBEq, reduceIte, Int.reduceEq, Int.reduceLT, Int.reduceLE, reduceCtorEq, g0, g1, g2, g4, g8, g9, g10] <;> rfl, by simp only [SY, setArgs, off, agreeKind, partVals, vals, allocV, boxed, ldA, rdCells, oneB, aggD, aField, aFieldV, aExtract, eq_self, ne_eq, if_true, if_false, not_false_eq_true, Nat.reduceAdd, Nat.reduceSub, Nat.reduceMul, Nat.reduceLT, Nat.reduceEqDiff, Nat.reduceBEq, reduceIte, Int.reduceEq, Int.reduceLT, Int.reduceLE, reduceCtorEq, g0, g1, g2, g4, g8, g9, g10] <;> rfl, by simp only [SY, setArgs, off, agreeKind, partVals, vals, allocV, boxed, ldA, rdCells, oneB, aggD, aField, aFieldV, aExtract, eq_self, ne_eq, if_true, if_false, not_false_eq_true, Nat.reduceAdd, Nat.reduceSub, Nat.reduceMul, Nat.reduceLT, Nat.reduceEqDiff, Nat.reduceBEq, reduceIte, Int.reduceEq, Int.reduceLT, Int.reduceLE, reduceCtorEq, g0, g1, g2, g4, g8, g9, g10] <;> rfl, by simp only [SY, setArgs, off, agreeKind, partVals, vals, allocV, boxed, ldA, rdCells, oneB, aggD, aField, aFieldV, aExtract, eq_self, ne_eq, if_true, if_false, not_false_eq_true, Nat.reduceAdd, Nat.reduceSub, Nat.reduceMul, Nat.reduceLT, Nat.reduceEqDiff, Nat.reduceBEq, reduceIte, Int.reduceEq, Int.reduceLT, Int.reduceLE, reduceCtorEq, g0, g1, g2, g4, g8, g9, g10] <;> rfl, (f9.2 S.next (by omega) ntb).trans bo8, Off.trans off8 wwS f9, by omega, hI9, Wider.trans ww2 w9 (by omega), by rw [hdr]; exact yy.2⟩
              · have hcond : ¬((0 < (stepC x p q).1 ∨ 0 < (stepC x p q).2) ∧ keep (decide (0 < (stepC x p q).1)) (decide (0 < (stepC x p q).2)) = true) := fun h => by have := h.2; rw [hua, hwa, hkk] at this; exact absurd this (by simp)
                simp (disch := first | omega | assumption) only [E0_G, SY, setArgs, off, agreeKind, partVals, vals, allocV, boxed, ldA, rdCells, oneB, aggD, aField, aFieldV, aExtract, eq_self, ne_eq, if_true, if_false, not_false_eq_true, Nat.reduceAdd, Nat.reduceSub, Nat.reduceMul, Nat.reduceLT, Nat.reduceEqDiff, Nat.reduceBEq, reduceIte, Int.reduceEq, Int.reduceLT, Int.reduceLE, reduceCtorEq, TY_EvA14, and_fold, or_fold, not_fold, g0, g1, g2, g4, g8, g9, g10, op_callV, calledV_some, Array.empty_append, nq9, store_agree, store_refl E0_same, hua, hwa, b77, tz4, tz106, tz107, Tryz.underlying86, Tryz.underlying85, Tryz.underlying4, fk7, i80, i81, k8, s8, hkk, Bool.false_and, store_off, w25] at he
                exact .next he (m - 1) (by omega) ⟨cI, TI, j + 1, (stepC x p q).1, (stepC x p q).2, by omega, by omega, by simp only [SY, setArgs, off, agreeKind, partVals, vals, allocV, boxed, ldA, rdCells, oneB, aggD, aField, aFieldV, aExtract, eq_self, ne_eq, if_true, if_false, not_false_eq_true, Nat.reduceAdd, Nat.reduceSub, Nat.reduceMul, Nat.reduceLT, Nat.reduceEqDiff, Nat.reduceBEq, reduceIte, Int.reduceEq, Int.reduceLT, Int.reduceLE, reduceCtorEq, g0, g1, g2, g4, g8, g9, g10] <;> rfl, by simp only [SY, setArgs, off, agreeKind, partVals, vals, allocV, boxed, ldA, rdCells, oneB, aggD, aField, aFieldV, aExtract, eq_self, ne_eq, if_true, if_false, not_false_eq_true, Nat.reduceAdd, Nat.reduceSub, Nat.reduceMul, Nat.reduceLT, Nat.reduceEqDiff, Nat.reduceBEq, reduceIte, Int.reduceEq, Int.reduceLT, Int.reduceLE, reduceCtorEq, g0, g1, g2, g4, g8, g9, g10] <;> rfl, by simp only [SY, setArgs, off, agreeKind, partVals, vals, allocV, boxed, ldA, rdCells, oneB, aggD, aField, aFieldV, aExtract, eq_self, ne_eq, if_true, if_false, not_false_eq_true, Nat.reduceAdd, Nat.reduceSub, Nat.reduceMul, Nat.reduceLT, Nat.reduceEqDiff, Nat.reduceBEq, reduceIte, Int.reduceEq, Int.reduceLT, Int.reduceLE, reduceCtorEq, g0, g1, g2, g4, g8, g9, g10] <;> rfl, by simp only [SY, setArgs, off, agreeKind, partVals, vals, allocV, boxed, ldA, rdCells, oneB, aggD, aField, aFieldV, aExtract, eq_self, ne_eq, if_true, if_false, not_false_eq_true, Nat.reduceAdd, Nat.reduceSub, Nat.reduceMul, Nat.reduceLT, Nat.reduceEqDiff, Nat.reduceBEq, reduceIte, Int.reduceEq, Int.reduceLT, Int.reduceLE, reduceCtorEq, g0, g1, g2, g4, g8, g9, g10] <;> rfl, by simp only [SY, setArgs, off, agreeKind, partVals, vals, allocV, boxed, ldA, rdCells, oneB, aggD, aField, aFieldV, aExtract, eq_self, ne_eq, if_true, if_false, not_false_eq_true, Nat.reduceAdd, Nat.reduceSub, Nat.reduceMul, Nat.reduceLT, Nat.reduceEqDiff, Nat.reduceBEq, reduceIte, Int.reduceEq, Int.reduceLT, Int.reduceLE, reduceCtorEq, g0, g1, g2, g4, g8, g9, g10] <;> rfl, by simp only [SY, setArgs, off, agreeKind, partVals, vals, allocV, boxed, ldA, rdCells, oneB, aggD, aField, aFieldV, aExtract, eq_self, ne_eq, if_true, if_false, not_false_eq_true, Nat.reduceAdd, Nat.reduceSub, Nat.reduceMul, Nat.reduceLT, Nat.reduceEqDiff, Nat.reduceBEq, reduceIte, Int.reduceEq, Int.reduceLT, Int.reduceLE, reduceCtorEq, g0, g1, g2, g4, g8, g9, g10] <;> rfl, by simp only [SY, setArgs, off, agreeKind, partVals, vals, allocV, boxed, ldA, rdCells, oneB, aggD, aField, aFieldV, aExtract, eq_self, ne_eq, if_true, if_false, not_false_eq_true, Nat.reduceAdd, Nat.reduceSub, Nat.reduceMul, Nat.reduceLT, Nat.reduceEqDiff, Nat.reduceBEq, reduceIte, Int.reduceEq, Int.reduceLT, Int.reduceLE, reduceCtorEq, g0, g1, g2, g4, g8, g9, g10] <;> rfl, bo8, off8, by omega, hI8, ww2, by rw [hdr]; exact hd.trans ((if_neg h9).trans (if_neg hcond))⟩
            · rcases dP (0 < (stepC x p q).2) with ⟨hwa, hw⟩ | ⟨hwa, hw⟩
              · skip
                obtain ⟨S8, k8, a8⟩ := hk false true S7
                have s8 : E0.same S7 S8 = true := symEnv_same a8
                have m8 := a8.1
                have hI8 := hy.keep _ _ _ _ hI7 a8.1 (fun id hid _ => a8.2 id hid)
                have off8 := off7.agree a8
                have bo8 := (a8.2 S.next (by omega)).trans bo7
                have b68 := (a8.2 S2.next (by omega)).trans b67
                have fx8 := (off8.2 px lx nx).trans gx
                have j8 := (off8.2 id6 l6 (nv _ bb6)).trans (j6r)
                rcases Bool.eq_false_or_eq_true (keep false true) with hkk | hkk
                · have hcond : (0 < (stepC x p q).1 ∨ 0 < (stepC x p q).2) ∧ keep (decide (0 < (stepC x p q).1)) (decide (0 < (stepC x p q).2)) = true := ⟨.inr hw, by rw [hua, hwa]; exact hkk⟩
                  have yy := drop_unc (x := (⟨x.at_, IntKind.i64.wrap (x2.at_ - 1)⟩ : Sp)) (hd.trans ((if_neg h9).trans (if_pos hcond)))
                  obtain ⟨S9, T9, k9, hI9, f9, w9⟩ := hy.step _ _ _ _ yy.1 hI8
                  replace k9 : (evL Tryz.prog E0).round y #[.agg #[.int .i64 x.at_, .int .i64 (IntKind.i64.wrap (x2.at_ - 1))]] S8 = some (.bool true, S9) := k9
                  have cl9 := (List.getElem?_eq_some_iff.1 yy.1).1
                  have m9 := f9.1
                  simp (disch := first | omega | assumption) only [E0_G, SY, setArgs, off, agreeKind, partVals, vals, allocV, boxed, ldA, rdCells, oneB, aggD, aField, aFieldV, aExtract, eq_self, ne_eq, if_true, if_false, not_false_eq_true, Nat.reduceAdd, Nat.reduceSub, Nat.reduceMul, Nat.reduceLT, Nat.reduceEqDiff, Nat.reduceBEq, reduceIte, Int.reduceEq, Int.reduceLT, Int.reduceLE, reduceCtorEq, TY_EvA14, and_fold, or_fold, not_fold, g0, g1, g2, g4, g8, g9, g10, op_callV, calledV_some, Array.empty_append, calledV_yield, firstOf_none, op_round, roundV_some, nq9, store_agree, store_refl E0_same, hua, hwa, b77, tz4, tz106, tz107, Tryz.underlying86, Tryz.underlying85, Tryz.underlying4, fk7, i80, i81, k8, s8, hkk, b68, fx8, tz179, Tryz.underlying138, tz183, w25, i6, j8, m6_0, y9, k9, Bool.false_and, store_off, w25] at he
                  exact .next he (m - 1) (by omega) ⟨cI + 1, T9, j + 1, (stepC x p q).1, (stepC x p q).2, by omega, by omega, by simp only [SY, setArgs, off, agreeKind, partVals, vals, allocV, boxed, ldA, rdCells, oneB, aggD, aField, aFieldV, aExtract, eq_self, ne_eq, if_true, if_false, not_false_eq_true, Nat.reduceAdd, Nat.reduceSub, Nat.reduceMul, Nat.reduceLT, Nat.reduceEqDiff, Nat.reduceBEq, reduceIte, Int.reduceEq, Int.reduceLT, Int.reduceLE, reduceCtorEq, g0, g1, g2, g4, g8, g9, g10] <;> rfl, by simp only [SY, setArgs, off, agreeKind, partVals, vals, allocV, boxed, ldA, rdCells, oneB, aggD, aField, aFieldV, aExtract, eq_self, ne_eq, if_true, if_false, not_false_eq_true, Nat.reduceAdd, Nat.reduceSub, Nat.reduceMul, Nat.reduceLT, Nat.reduceEqDiff, Nat.reduceBEq, reduceIte, Int.reduceEq, Int.reduceLT, Int.reduceLE, reduceCtorEq, g0, g1, g2, g4, g8, g9, g10] <;> rfl, by simp only [SY, setArgs, off, agreeKind, partVals, vals, allocV, boxed, ldA, rdCells, oneB, aggD, aField, aFieldV, aExtract, eq_self, ne_eq, if_true, if_false, not_false_eq_true, Nat.reduceAdd, Nat.reduceSub, Nat.reduceMul, Nat.reduceLT, Nat.reduceEqDiff, Nat.reduceBEq, reduceIte, Int.reduceEq, Int.reduceLT, Int.reduceLE, reduceCtorEq, g0, g1, g2, g4, g8, g9, g10] <;> rfl, by simp only [SY, setArgs, off, agreeKind, partVals, vals, allocV, boxed, ldA, rdCells, oneB, aggD, aField, aFieldV, aExtract, eq_self, ne_eq, if_true, if_false, not_false_eq_true, Nat.reduceAdd, Nat.reduceSub, Nat.reduceMul, Nat.reduceLT, Nat.reduceEqDiff, Nat.reduceBEq, reduceIte, Int.reduceEq, Int.reduceLT, Int.reduceLE, reduceCtorEq, g0, g1, g2, g4, g8, g9, g10] <;> rfl, by simp only [SY, setArgs, off, agreeKind, partVals, vals, allocV, boxed, ldA, rdCells, oneB, aggD, aField, aFieldV, aExtract, eq_self, ne_eq, if_true, if_false, not_false_eq_true, Nat.reduceAdd, Nat.reduceSub, Nat.reduceMul, Nat.reduceLT, Nat.reduceEqDiff, Nat.reduceBEq, reduceIte, Int.reduceEq, Int.reduceLT, Int.reduceLE, reduceCtorEq, g0, g1, g2, g4, g8, g9, g10] <;> rfl, by simp only [SY, setArgs, off, agreeKind, partVals, vals, allocV, boxed, ldA, rdCells, oneB, aggD, aField, aFieldV, aExtract, eq_self, ne_eq, if_true, if_false, not_false_eq_true, Nat.reduceAdd, Nat.reduceSub, Nat.reduceMul, Nat.reduceLT, Nat.reduceEqDiff, Nat.reduceBEq, reduceIte, Int.reduceEq, Int.reduceLT, Int.reduceLE, reduceCtorEq, g0, g1, g2, g4, g8, g9, g10] <;> rfl, by simp only [SY, setArgs, off, agreeKind, partVals, vals, allocV, boxed, ldA, rdCells, oneB, aggD, aField, aFieldV, aExtract, eq_self, ne_eq, if_true, if_false, not_false_eq_true, Nat.reduceAdd, Nat.reduceSub, Nat.reduceMul, Nat.reduceLT, Nat.reduceEqDiff, Nat.reduceBEq, reduceIte, Int.reduceEq, Int.reduceLT, Int.reduceLE, reduceCtorEq, g0, g1, g2, g4, g8, g9, g10] <;> rfl, (f9.2 S.next (by omega) ntb).trans bo8, Off.trans off8 wwS f9, by omega, hI9, Wider.trans ww2 w9 (by omega), by rw [hdr]; exact yy.2⟩
                · have hcond : ¬((0 < (stepC x p q).1 ∨ 0 < (stepC x p q).2) ∧ keep (decide (0 < (stepC x p q).1)) (decide (0 < (stepC x p q).2)) = true) := fun h => by have := h.2; rw [hua, hwa, hkk] at this; exact absurd this (by simp)
                  simp (disch := first | omega | assumption) only [E0_G, SY, setArgs, off, agreeKind, partVals, vals, allocV, boxed, ldA, rdCells, oneB, aggD, aField, aFieldV, aExtract, eq_self, ne_eq, if_true, if_false, not_false_eq_true, Nat.reduceAdd, Nat.reduceSub, Nat.reduceMul, Nat.reduceLT, Nat.reduceEqDiff, Nat.reduceBEq, reduceIte, Int.reduceEq, Int.reduceLT, Int.reduceLE, reduceCtorEq, TY_EvA14, and_fold, or_fold, not_fold, g0, g1, g2, g4, g8, g9, g10, op_callV, calledV_some, Array.empty_append, nq9, store_agree, store_refl E0_same, hua, hwa, b77, tz4, tz106, tz107, Tryz.underlying86, Tryz.underlying85, Tryz.underlying4, fk7, i80, i81, k8, s8, hkk, Bool.false_and, store_off, w25] at he
                  exact .next he (m - 1) (by omega) ⟨cI, TI, j + 1, (stepC x p q).1, (stepC x p q).2, by omega, by omega, by simp only [SY, setArgs, off, agreeKind, partVals, vals, allocV, boxed, ldA, rdCells, oneB, aggD, aField, aFieldV, aExtract, eq_self, ne_eq, if_true, if_false, not_false_eq_true, Nat.reduceAdd, Nat.reduceSub, Nat.reduceMul, Nat.reduceLT, Nat.reduceEqDiff, Nat.reduceBEq, reduceIte, Int.reduceEq, Int.reduceLT, Int.reduceLE, reduceCtorEq, g0, g1, g2, g4, g8, g9, g10] <;> rfl, by simp only [SY, setArgs, off, agreeKind, partVals, vals, allocV, boxed, ldA, rdCells, oneB, aggD, aField, aFieldV, aExtract, eq_self, ne_eq, if_true, if_false, not_false_eq_true, Nat.reduceAdd, Nat.reduceSub, Nat.reduceMul, Nat.reduceLT, Nat.reduceEqDiff, Nat.reduceBEq, reduceIte, Int.reduceEq, Int.reduceLT, Int.reduceLE, reduceCtorEq, g0, g1, g2, g4, g8, g9, g10] <;> rfl, by simp only [SY, setArgs, off, agreeKind, partVals, vals, allocV, boxed, ldA, rdCells, oneB, aggD, aField, aFieldV, aExtract, eq_self, ne_eq, if_true, if_false, not_false_eq_true, Nat.reduceAdd, Nat.reduceSub, Nat.reduceMul, Nat.reduceLT, Nat.reduceEqDiff, Nat.reduceBEq, reduceIte, Int.reduceEq, Int.reduceLT, Int.reduceLE, reduceCtorEq, g0, g1, g2, g4, g8, g9, g10] <;> rfl, by simp only [SY, setArgs, off, agreeKind, partVals, vals, allocV, boxed, ldA, rdCells, oneB, aggD, aField, aFieldV, aExtract, eq_self, ne_eq, if_true, if_false, not_false_eq_true, Nat.reduceAdd, Nat.reduceSub, Nat.reduceMul, Nat.reduceLT, Nat.reduceEqDiff, Nat.reduceBEq, reduceIte, Int.reduceEq, Int.reduceLT, Int.reduceLE, reduceCtorEq, g0, g1, g2, g4, g8, g9, g10] <;> rfl, by simp only [SY, setArgs, off, agreeKind, partVals, vals, allocV, boxed, ldA, rdCells, oneB, aggD, aField, aFieldV, aExtract, eq_self, ne_eq, if_true, if_false, not_false_eq_true, Nat.reduceAdd, Nat.reduceSub, Nat.reduceMul, Nat.reduceLT, Nat.reduceEqDiff, Nat.reduceBEq, reduceIte, Int.reduceEq, Int.reduceLT, Int.reduceLE, reduceCtorEq, g0, g1, g2, g4, g8, g9, g10] <;> rfl, by simp only [SY, setArgs, off, agreeKind, partVals, vals, allocV, boxed, ldA, rdCells, oneB, aggD, aField, aFieldV, aExtract, eq_self, ne_eq, if_true, if_false, not_false_eq_true, Nat.reduceAdd, Nat.reduceSub, Nat.reduceMul, Nat.reduceLT, Nat.reduceEqDiff, Nat.reduceBEq, reduceIte, Int.reduceEq, Int.reduceLT, Int.reduceLE, reduceCtorEq, g0, g1, g2, g4, g8, g9, g10] <;> rfl, by simp only [SY, setArgs, off, agreeKind, partVals, vals, allocV, boxed, ldA, rdCells, oneB, aggD, aField, aFieldV, aExtract, eq_self, ne_eq, if_true, if_false, not_false_eq_true, Nat.reduceAdd, Nat.reduceSub, Nat.reduceMul, Nat.reduceLT, Nat.reduceEqDiff, Nat.reduceBEq, reduceIte, Int.reduceEq, Int.reduceLT, Int.reduceLE, reduceCtorEq, g0, g1, g2, g4, g8, g9, g10] <;> rfl, bo8, off8, by omega, hI8, ww2, by rw [hdr]; exact hd.trans ((if_neg h9).trans (if_neg hcond))⟩
              · simp (disch := first | omega | assumption) only [E0_G, SY, setArgs, off, agreeKind, partVals, vals, allocV, boxed, ldA, rdCells, oneB, aggD, aField, aFieldV, aExtract, eq_self, ne_eq, if_true, if_false, not_false_eq_true, Nat.reduceAdd, Nat.reduceSub, Nat.reduceMul, Nat.reduceLT, Nat.reduceEqDiff, Nat.reduceBEq, reduceIte, Int.reduceEq, Int.reduceLT, Int.reduceLE, reduceCtorEq, TY_EvA14, and_fold, or_fold, not_fold, g0, g1, g2, g4, g8, g9, g10, store_agree, store_refl E0_same, hua, hwa, b77, tz4, tz106, tz107, Tryz.underlying86, Tryz.underlying85, Tryz.underlying4, i80, i81, w25] at he
                have hcond : ¬((0 < (stepC x p q).1 ∨ 0 < (stepC x p q).2) ∧ keep (decide (0 < (stepC x p q).1)) (decide (0 < (stepC x p q).2)) = true) := fun h => h.1.elim hu hw
                exact .next he (m - 1) (by omega) ⟨cI, TI, j + 1, (stepC x p q).1, (stepC x p q).2, by omega, by omega, by simp only [SY, setArgs, off, agreeKind, partVals, vals, allocV, boxed, ldA, rdCells, oneB, aggD, aField, aFieldV, aExtract, eq_self, ne_eq, if_true, if_false, not_false_eq_true, Nat.reduceAdd, Nat.reduceSub, Nat.reduceMul, Nat.reduceLT, Nat.reduceEqDiff, Nat.reduceBEq, reduceIte, Int.reduceEq, Int.reduceLT, Int.reduceLE, reduceCtorEq, g0, g1, g2, g4, g8, g9, g10] <;> rfl, by simp only [SY, setArgs, off, agreeKind, partVals, vals, allocV, boxed, ldA, rdCells, oneB, aggD, aField, aFieldV, aExtract, eq_self, ne_eq, if_true, if_false, not_false_eq_true, Nat.reduceAdd, Nat.reduceSub, Nat.reduceMul, Nat.reduceLT, Nat.reduceEqDiff, Nat.reduceBEq, reduceIte, Int.reduceEq, Int.reduceLT, Int.reduceLE, reduceCtorEq, g0, g1, g2, g4, g8, g9, g10] <;> rfl, by simp only [SY, setArgs, off, agreeKind, partVals, vals, allocV, boxed, ldA, rdCells, oneB, aggD, aField, aFieldV, aExtract, eq_self, ne_eq, if_true, if_false, not_false_eq_true, Nat.reduceAdd, Nat.reduceSub, Nat.reduceMul, Nat.reduceLT, Nat.reduceEqDiff, Nat.reduceBEq, reduceIte, Int.reduceEq, Int.reduceLT, Int.reduceLE, reduceCtorEq, g0, g1, g2, g4, g8, g9, g10] <;> rfl, by simp only [SY, setArgs, off, agreeKind, partVals, vals, allocV, boxed, ldA, rdCells, oneB, aggD, aField, aFieldV, aExtract, eq_self, ne_eq, if_true, if_false, not_false_eq_true, Nat.reduceAdd, Nat.reduceSub, Nat.reduceMul, Nat.reduceLT, Nat.reduceEqDiff, Nat.reduceBEq, reduceIte, Int.reduceEq, Int.reduceLT, Int.reduceLE, reduceCtorEq, g0, g1, g2, g4, g8, g9, g10] <;> rfl, by simp only [SY, setArgs, off, agreeKind, partVals, vals, allocV, boxed, ldA, rdCells, oneB, aggD, aField, aFieldV, aExtract, eq_self, ne_eq, if_true, if_false, not_false_eq_true, Nat.reduceAdd, Nat.reduceSub, Nat.reduceMul, Nat.reduceLT, Nat.reduceEqDiff, Nat.reduceBEq, reduceIte, Int.reduceEq, Int.reduceLT, Int.reduceLE, reduceCtorEq, g0, g1, g2, g4, g8, g9, g10] <;> rfl, by simp only [SY, setArgs, off, agreeKind, partVals, vals, allocV, boxed, ldA, rdCells, oneB, aggD, aField, aFieldV, aExtract, eq_self, ne_eq, if_true, if_false, not_false_eq_true, Nat.reduceAdd, Nat.reduceSub, Nat.reduceMul, Nat.reduceLT, Nat.reduceEqDiff, Nat.reduceBEq, reduceIte, Int.reduceEq, Int.reduceLT, Int.reduceLE, reduceCtorEq, g0, g1, g2, g4, g8, g9, g10] <;> rfl, by simp only [SY, setArgs, off, agreeKind, partVals, vals, allocV, boxed, ldA, rdCells, oneB, aggD, aField, aFieldV, aExtract, eq_self, ne_eq, if_true, if_false, not_false_eq_true, Nat.reduceAdd, Nat.reduceSub, Nat.reduceMul, Nat.reduceLT, Nat.reduceEqDiff, Nat.reduceBEq, reduceIte, Int.reduceEq, Int.reduceLT, Int.reduceLE, reduceCtorEq, g0, g1, g2, g4, g8, g9, g10] <;> rfl, bo7, off7, by omega, hI7, ww2, by rw [hdr]; exact hd.trans ((if_neg h9).trans (if_neg hcond))⟩
      · simp (disch := first | omega | assumption) only [E0_G, SY, setArgs, off, agreeKind, partVals, vals, allocV, boxed, ldA, rdCells, oneB, aggD, aField, aFieldV, aExtract, eq_self, ne_eq, if_true, if_false, not_false_eq_true, Nat.reduceAdd, Nat.reduceSub, Nat.reduceMul, Nat.reduceLT, Nat.reduceEqDiff, Nat.reduceBEq, reduceIte, Int.reduceEq, Int.reduceLT, Int.reduceLE, reduceCtorEq, TY_EvA14, and_fold, or_fold, not_fold, g0, g1, g2, g4, g8, g9, g10, h3a] at he
        rw [List.drop_eq_nil_of_le (show ks.length ≤ j by omega)] at hd
        exact .exit he ⟨rfl, cI, TI, off2, hI2, ww2, hcI, hd⟩)
  obtain ⟨rfl, cI, TI, off2, hI2, ww2, hcI, hd⟩ := hQ2
  simp (disch := first | omega | assumption) only [E0_G, SY, setArgs, off, agreeKind, partVals, vals, allocV, boxed, ldA, rdCells, oneB, aggD, aField, aFieldV, aExtract, eq_self, ne_eq, if_true, if_false, not_false_eq_true, Nat.reduceAdd, Nat.reduceSub, Nat.reduceMul, Nat.reduceLT, Nat.reduceEqDiff, Nat.reduceBEq, reduceIte, Int.reduceEq, Int.reduceLT, Int.reduceLE, reduceCtorEq, TY_EvA14, and_fold, or_fold, not_fold] at hz
  have hc : cI = ys.length := by have := List.length_drop (i := cI) (l := ys); rw [hd] at this; simp at this; omega
  subst hc
  exact ⟨S2e, TI, hz.symm, hI2, off2, fun id h => (ww2 id h).imp (fun h => h) (by omega)⟩
end Great
end Go.Proofs
end
section
/-
  The great seat of stage 1: pieces joined.
-/
set_option linter.unusedSimpArgs false
set_option linter.unusedVariables false
namespace Go.Proofs
namespace Great
open Go Go.RowKit Go.Aev
set_option maxRecDepth 100000

theorem own_arc {lo : Nat} {S : AS} {v : Value} {l : List Ar} (ho : Own 44 lo S v l) {i : Nat} (hi : i < l.length) :
    ∃ id c ex of_, of_ = i * 2 ∧ blkOf v = some id ∧ lo ≤ id ∧ id < S.next ∧ aIndexAddr Tryz.prog 22 v (.int .i64 (i : Int)) = some (.pointer (some ⟨id, of_, none⟩)) ∧ S.heap.get id = some (.cells c 44 2 true ex) ∧
      c[of_]? = some (.int .i64 (lget l i).f) ∧ c[of_ + 1]? = some (.int .i64 (lget l i).l) := by
  obtain ⟨id, c, ex, h1, h2, h3, h4, h5, h6⟩ := ho.at (P := Tryz.prog) (t := 22) Tryz.underlying22 tz56 (lget_some hi)
  exact ⟨id, c, ex, _, rfl, h1, h2, h3, h4, h5, h6 0 (by decide), h6 1 (by decide)⟩
theorem arc_cells : ∀ (l : List Ar) (i : Nat), i < l.length → ∀ y : Int, ((l.map cellsOf).flatten.take (i * 2 + 1) ++ [Value.int .i64 y] ++ (l.map cellsOf).flatten.drop (i * 2 + 1 + 1)) = ((l.set i ⟨(lget l i).f, y⟩).map cellsOf).flatten := by
  intro l
  induction l with
  | nil => intro i hi; simp at hi
  | cons x l ih =>
    intro i hi y
    have hc : cellsOf x = [.int .i64 x.f, .int .i64 x.l] := rfl
    cases i with
    | zero =>
      rw [List.map_cons, List.flatten_cons, hc, List.set_cons_zero, List.map_cons, List.flatten_cons]; rfl
    | succ i =>
      have h := ih i (by simpa using hi) y
      have e : (i + 1) * 2 + 1 = (i * 2 + 1) + 2 := by omega
      have e2 : (i + 1) * 2 + 1 + 1 = (i * 2 + 1 + 1) + 2 := by omega
      have e3 : lget (x :: l) (i + 1) = lget l i := rfl
      rw [List.set_cons_succ, List.map_cons, List.flatten_cons, List.map_cons, List.flatten_cons, e3, ← h, hc, e2, e]; rfl
theorem own_len {lo : Nat} {S : AS} {v : Value} {l : List Ar} (ho : Own 44 lo S v l) {y : Int} {i : Nat} (hi : i < l.length) {id : Nat} (hb : blkOf v = some id) :
    ∃ S1, stA Tryz.prog 3 ⟨id, i * 2 + 1, none⟩ (.int .i64 y) S = some S1 ∧ S1.next = S.next ∧ Own 44 lo S1 v (l.set i ⟨(lget l i).f, y⟩) ∧ ∀ q, q ≠ id → S1.heap.get q = S.heap.get q := by
  rcases ho with ⟨rfl, _⟩ | ⟨id', ex, rfl, h1, h2, h3⟩
  · simp at hi
  · simp only [blkOf, Option.some.injEq] at hb
    subst hb
    have hlen : ((l.map cellsOf).flatten).length = l.length * 2 := by rw [flat_len _ (cells_all l), List.length_map]; rfl
    obtain ⟨S1, k1, k2, k3, k4⟩ := st_at (P := Tryz.prog) (t := 3) (o := i * 2 + 1) (v := .int .i64 y) tz3 h3 rfl rfl (by rw [hlen]; omega) rfl
    refine ⟨S1, k1, k2, .inr ⟨id', ex, by simp, h1, by omega, ?_⟩, k4⟩
    rw [k3]
    exact congrArg (fun c => some (ABlk.cells c 44 _ true ex)) (arc_cells l i hi y)

theorem own_arcs {el lo : Nat} {S : AS} {v : Value} {l : List Ar} (h : Own el lo S v l) : ∃ p n c, v = .slice p n c := by
  rcases h with ⟨_, rfl⟩ | ⟨id, ex, rfl, _⟩
  · exact ⟨_, _, _, rfl⟩
  · exact ⟨_, _, _, rfl⟩
noncomputable def R129 : Code × Code := ((Tryz.f81.body.bind findR).getD (.skip, .skip))

set_option maxHeartbeats 8000000 in
theorem rg129 (ks : List Ct) (hn : ks.length ≤ 1000) (hli : ∀ x ∈ ks, x.li = 0 ∨ x.li = 1) (kf : FuncId) (keep : Bool → Bool → Bool) (hk : KeepOk kf keep) (S : AS) (t : T Value) (d : List Nat) (z : Option (X × St)) (p3 px pk : Nat) (po : Option Addr) (no co : Nat)
    (g3 : t.get 3 = some (.pointer (some ⟨p3, 0, none⟩))) (g7 : t.get 7 = some (.func (.func 100) #[] #[.pointer (some ⟨px, 0, none⟩), .pointer (some ⟨pk, 0, none⟩)]))
    (h3 : S.heap.get p3 = some (.cells [.slice none 0 0] 22 0 true true)) (hx : S.heap.get px = some (.cells [.slice po no co] 138 0 true true)) (hkf : S.heap.get pk = some (.cells [.func (.func kf) #[] #[]] 86 0 true true))
    (l3 : p3 < S.next) (lx : px < S.next) (lk : pk < S.next) (n3x : px ≠ p3) (n3k : pk ≠ p3) (hl : Lst S (.slice po no co) ks) (nl' : ∀ q, blkOf (.slice po no co) = some q → q ≠ p3 ∧ q < S.next)
    (hz : evCode Tryz.prog E0 (evL Tryz.prog E0) none (.rangeFunc (.tmp 7) #[8] R129.1 R129.2) ⟨⟨t, 101⟩, d, S⟩ = z) :
    ∃ S' po' no' co', z = some (.normal, ⟨⟨t, 101⟩, S.next :: d, S'⟩) ∧ S.next < S'.next ∧ S'.heap.get p3 = some (.cells [.slice po' no' co'] 22 0 true true) ∧ Own 44 (S.next + 1) S' (.slice po' no' co') ((R152 keep ks 0 0).foldl joinS []) ∧
      S'.heap.get S.next = some (.dfd true) ∧ ∀ q, q < S.next → q ≠ p3 → S'.heap.get q = S.heap.get q := by
  generalize hys : R152 keep ks 0 0 = ys at *
  have hyl : ys.length ≤ 1000 := by have := R152_len' keep ks 0 0; rw [hys] at this; omega
  obtain ⟨x, S', rfl, hQ⟩ := range_met hz (k := 100) (cs := #[]) (ds := #[.pointer (some ⟨px, 0, none⟩), .pointer (some ⟨pk, 0, none⟩)]) g7 (fun a S' => rfl)
    (fun x S' => x = .normal ∧ ∃ po' no' co', S.next < S'.next ∧ S'.heap.get p3 = some (.cells [.slice po' no' co'] 22 0 true true) ∧ Own 44 (S.next + 1) S' (.slice po' no' co') (ys.foldl joinS []) ∧
      S'.heap.get S.next = some (.dfd true) ∧ ∀ q, q < S.next → q ≠ p3 → S'.heap.get q = S.heap.get q)
    (by
      intro L0 S1 S2 e1 e2 hbg
      obtain rfl := hbg.eq
      obtain ⟨Sx, ex1, nx1, bx1, ax1⟩ := push_open S (.dfd true)
      obtain rfl : Sx = S1 := ex1.symm.trans e1
      obtain ⟨Sy, ex2, nx2, bx2, ax2⟩ := push_open Sx (.loop ⟨.ready, none, t, 101, #[8], R129.1, R129.2⟩)
      obtain rfl : Sy = S2 := ex2.symm.trans e2
      have ag := ax1.trans ax2
      generalize hy : Sx.next = y at *
      have hys' : y = S.next + 1 := by omega
      have key := it152 ks hn hli kf keep hk Sy y (fun i T S' => Sy.next ≤ S'.next ∧ i ≤ ys.length ∧ S'.heap.get y = some (.loop ⟨.ready, none, t, 101, #[8], R129.1, R129.2⟩) ∧
          ∃ po' no' co', S'.heap.get p3 = some (.cells [.slice po' no' co'] 22 0 true true) ∧ Own 44 Sy.next S' (.slice po' no' co') ((ys.take i).foldl joinS []) ∧ T = fun id => id = p3 ∨ id = y ∨ blkOf (.slice po' no' co') = some id)
        (fun id => id = p3 ∨ id = y ∨ blkOf (.slice none 0 0) = some id) ?_ ?_ po no co (hl.agree ag) ?_ px pk ((ag.2 px lx).trans hx) (by omega) ?_ ((ag.2 pk lk).trans hkf) (by omega) ?_
      · rw [hys] at key
        obtain ⟨S3, T3, hc, ⟨hn3, _, hy3, po', no', co', hp3, ow3, rfl⟩, off3, _⟩ := key
        refine ⟨_, S3, _, .normal, hc, hy3, by simp, rfl, rfl, po', no', co', ?_, ?_, ?_, ?_, ?_⟩
        · show S.next < S3.next; omega
        · simp only [T.get_set]; rw [if_neg (by omega)]; exact hp3
        · rw [List.take_length] at ow3
          have hlow : S.next + 1 ≤ Sy.next := by omega
          refine Own.low (lo := Sy.next) ?_ hlow
          refine ow3.frame (Nat.le_refl _) fun id hid hbk => ?_
          have : id ≠ y := fun e => ow3.ne (show y < Sy.next by omega) (by rw [← e]; exact hbk)
          simp only [T.get_set]; rw [if_neg this]
        · simp only [T.get_set]; rw [if_neg (by omega)]
          exact (off3.2 S.next (by omega) (fun h => h.elim (fun h => by omega) fun h => h.elim (fun h => by omega) (fun h => by simp [blkOf] at h))).trans ((ax2.2 S.next (by omega)).trans bx1)
        · intro q hq h1
          simp only [T.get_set]; rw [if_neg (by omega)]
          exact (off3.2 q (by omega) (fun h => h.elim h1 fun h => h.elim (fun h => by omega) (fun h => by simp [blkOf] at h))).trans (ag.2 q hq)
      · rw [hys]
        refine ⟨?_, ?_, ?_⟩
        · rintro i T S' ⟨hn', _, _, po', no', co', _, ow', rfl⟩ id (rfl | rfl | hid)
          · omega
          · omega
          · exact ow'.lt hid
        · rintro i T S' S'' ⟨hn', hi, hy', po', no', co', h3', ow', rfl⟩ hle hk
          exact ⟨by omega, hi, (hk y (by omega) (.inl (.inr (.inl rfl)))).trans hy', po', no', co', (hk p3 (by omega) (.inl (.inl rfl))).trans h3', ow'.frame hle (fun id hid hb => hk id hid (.inl (.inr (.inr hb)))), rfl⟩
        · rintro i T S' b hbi ⟨hn', hi, hy', po', no', co', h3', ow', rfl⟩
          have hi2 : i < ys.length := (List.getElem?_eq_some_iff.1 hbi).1
          have htk : (ys.take (i + 1)).foldl joinS [] = joinS ((ys.take i).foldl joinS []) b := by rw [List.take_add_one, hbi]; simp
          rw [htk]
          have hlen : ((ys.take i).foldl joinS []).length ≤ 1000 := by have := foldl_joinS_len (ys.take i) []; rw [List.length_take] at this; simp only [List.length_nil] at this; omega
          generalize (ys.take i).foldl joinS [] = L at *
          have hny : blkOf (.slice po' no' co') ≠ some y := ow'.ne (by omega)
          have hn3 : blkOf (.slice po' no' co') ≠ some p3 := ow'.ne (by omega)
          obtain ⟨S4, r1, T', r2, r3, r4⟩ := round_run (P := Tryz.prog) (E := E0) (l := y) (b := Value.agg (cellsOf b).toArray) (show 8 < 101 by decide) hy' (Q := fun S4 => ∃ T' : Nat → Prop, (Sy.next ≤ S4.next ∧ i + 1 ≤ ys.length ∧ S4.heap.get y = some (.loop ⟨.ready, none, t, 101, #[8], R129.1, R129.2⟩) ∧
            ∃ po' no' co', S4.heap.get p3 = some (.cells [.slice po' no' co'] 22 0 true true) ∧ Own 44 Sy.next S4 (.slice po' no' co') (joinS L b) ∧ T' = fun id => id = p3 ∨ id = y ∨ blkOf (.slice po' no' co') = some id) ∧
              Off (fun id => id = p3 ∨ id = y ∨ blkOf (.slice po' no' co') = some id) S' S4 ∧ Wider (fun id => id = p3 ∨ id = y ∨ blkOf (.slice po' no' co') = some id) S' T') (by
            intro zA hA
            change evCode _ _ _ _ (Code.region 3 _ _) ⟨⟨t.set 8 (some (.agg #[.int .i64 b.lo, .int .i64 b.hi])), 101⟩, [], S'⟩ = _ at hA
            obtain ⟨S5, e5, n5, b5, a5⟩ := push_open S' (.cells [.int .i64 0, .int .i64 0] 137 0 true true)
            obtain ⟨S6, e6, n6, b6, q6⟩ := st_at (P := Tryz.prog) (o := 0) (c' := [.int .i64 b.lo, .int .i64 b.hi]) (v := .agg #[.int .i64 b.lo, .int .i64 b.hi]) tz178 b5 rfl rfl (show 0 + 2 ≤ 2 by decide) rfl
            simp (disch := first | omega | assumption) only [E0_G, SY, off, agreeKind, allocV, Nat.reduceAdd, Nat.reduceLT, Nat.reduceBEq, TY_EvA14, e5, e6] at hA
            refine ⟨_, S6, hA.symm, ?_, ?_⟩
            · exact (q6 y (by omega)).trans ((a5.2 y (by omega)).trans hy')
            intro S7 n7 b7 q7 zB hB
            change evCode _ _ _ _ (Code.block 1 (Code.seq (Code.region 4 _ _) _)) _ = _ at hB
            have u3 : S7.heap.get p3 = some (.cells [.slice po' no' co'] 22 0 true true) := (q7 p3 (by omega)).trans ((q6 p3 (by omega)).trans ((a5.2 p3 (by omega)).trans h3'))
            have u6 : S7.heap.get S'.next = some (.cells [.int .i64 b.lo, .int .i64 b.hi] 137 0 true true) := (q7 S'.next (by omega)).trans b6
            have ow7 : Own 44 Sy.next S7 (.slice po' no' co') L := ow'.frame (by omega) fun id hid hbk => (q7 id (fun e => hny (by rw [← e]; exact hbk))).trans ((q6 id (by omega)).trans (a5.2 id hid))
            have w7 := ow7.rows.len (P := Tryz.prog) (t := 22) Tryz.underlying22
            simp (disch := first | omega | assumption) only [E0_G, SY, off, agreeKind, ldA, aggD, Nat.reduceAdd, Nat.reduceLT, Nat.reduceBEq, TY_EvA14, g3, u3, w7] at hB
            rw [code_draws _ _ _ (by kernel_rfl)] at hB
            generalize hnd1 : needy _ = nd1 at hB
            -- what is left when the store is known
            have close : ∀ (S10 : AS) (pu : Option Addr) (nu cu : Nat), S7.next ≤ S10.next → S10.heap.get y = some (.loop ⟨.busy, none, t, 101, #[8], R129.1, R129.2⟩) → S10.heap.get p3 = some (.cells [.slice pu nu cu] 22 0 true true) → Own 44 Sy.next S10 (.slice pu nu cu) (joinS L b) →
                (∀ q, q < S7.next → q ≠ p3 → blkOf (.slice po' no' co') ≠ some q → S10.heap.get q = S7.heap.get q) → (∀ q, q < S7.next → blkOf (.slice po' no' co') ≠ some q → blkOf (.slice pu nu cu) ≠ some q) →
                ∀ S11 : AS, S11.next = S10.next → S11.heap.get y = some (.loop ⟨.ready, none, t, 101, #[8], R129.1, R129.2⟩) → (∀ q, q ≠ y → S11.heap.get q = S10.heap.get q) →
                ∃ T' : Nat → Prop, (Sy.next ≤ S11.next ∧ i + 1 ≤ ys.length ∧ S11.heap.get y = some (.loop ⟨.ready, none, t, 101, #[8], R129.1, R129.2⟩) ∧
                  ∃ po' no' co', S11.heap.get p3 = some (.cells [.slice po' no' co'] 22 0 true true) ∧ Own 44 Sy.next S11 (.slice po' no' co') (joinS L b) ∧ T' = fun id => id = p3 ∨ id = y ∨ blkOf (.slice po' no' co') = some id) ∧
                  Off (fun id => id = p3 ∨ id = y ∨ blkOf (.slice po' no' co') = some id) S' S11 ∧ Wider (fun id => id = p3 ∨ id = y ∨ blkOf (.slice po' no' co') = some id) S' T' := by
              intro S10 pu nu cu m10 y10 h10 o10 f10 d10 S11 n11 b11 q11
              have dy := d10 y (by omega) hny
              refine ⟨_, ⟨by omega, by omega, b11, pu, nu, cu, (q11 p3 (by omega)).trans h10, ?_, rfl⟩, ?_, ?_⟩
              · exact o10.frame (by omega) fun id hid hbk => q11 id (fun e => dy (by rw [← e]; exact hbk))
              · exact ⟨by omega, fun id hid hT => (q11 id (fun e => hT (.inr (.inl e)))).trans ((f10 id (by omega) (fun e => hT (.inl e)) (fun h => hT (.inr (.inr h)))).trans ((q7 id (fun e => hT (.inr (.inl e)))).trans ((q6 id (by omega)).trans (a5.2 id hid))))⟩
              · intro id hT
                refine hT.elim (fun h => .inl (.inl h)) fun h => h.elim (fun h => .inl (.inr (.inl h))) fun h => ?_
                by_cases hid : id < S'.next
                · by_cases ho' : blkOf (.slice po' no' co') = some id
                  · exact .inl (.inr (.inr ho'))
                  · exact absurd h (d10 id (by omega) ho')
                · exact .inr (by omega)
            -- one arc more
            have more : joinS L b = L ++ [⟨b.lo, IntKind.i64.wrap (b.hi - b.lo)⟩] → ∃ S8 S9 S10 pu nu cu, S7.push (.cells [.int .i64 b.lo, .int .i64 (IntKind.i64.wrap (b.hi - b.lo))] 44 2 true true) = S8 ∧ S8.next = S7.next + 1 ∧ Agree S7 S8 ∧
                aAppend Tryz.prog 22 22 (.slice po' no' co') (.slice (some ⟨S7.next, 0, none⟩) 1 1) S8 = some (.slice pu nu cu, S9) ∧ stA Tryz.prog 22 ⟨p3, 0, none⟩ (.slice pu nu cu) S9 = some S10 ∧ S7.next ≤ S10.next ∧ S10.heap.get y = some (.loop ⟨.busy, none, t, 101, #[8], R129.1, R129.2⟩) ∧ S10.heap.get p3 = some (.cells [.slice pu nu cu] 22 0 true true) ∧ Own 44 Sy.next S10 (.slice pu nu cu) (joinS L b) ∧
                (∀ q, q < S7.next → q ≠ p3 → blkOf (.slice po' no' co') ≠ some q → S10.heap.get q = S7.heap.get q) ∧ (∀ q, q < S7.next → blkOf (.slice po' no' co') ≠ some q → blkOf (.slice pu nu cu) ≠ some q) := by
              intro hj
              obtain ⟨S8, e8, n8, b8, a8⟩ := push_open S7 (.cells [.int .i64 b.lo, .int .i64 (IntKind.i64.wrap (b.hi - b.lo))] 44 2 true true)
              have o8 : Own 44 S7.next S8 (.slice (some ⟨S7.next, 0, none⟩) 1 1) ([⟨b.lo, IntKind.i64.wrap (b.hi - b.lo)⟩] : List Ar) := .inr ⟨_, true, rfl, Nat.le_refl _, by omega, b8⟩
              obtain ⟨u, S9, k9, o9, n9, f9, d9⟩ := own_append (P := Tryz.prog) (t := 22) (tx := 22) (n := 1) (v := .slice po' no' co') (ow7.agree a8) o8.rows (by omega) (by omega) (by simp) Tryz.underlying22 Tryz.underlying22 ti56 tv56 rfl tz56
              obtain ⟨pu, nu, cu, rfl⟩ := own_arcs o9
              have v3 : S9.heap.get p3 = some (.cells [.slice po' no' co'] 22 0 true true) := (f9 p3 (by omega) hn3).trans ((a8.2 p3 (by omega)).trans u3)
              obtain ⟨S10, k10, n10, b10, q10⟩ := st_at (P := Tryz.prog) (o := 0) (c' := [.slice pu nu cu]) (v := .slice pu nu cu) tz22 v3 rfl rfl (show 0 + 1 ≤ 1 by decide) rfl
              have d3 := d9 p3 (by omega) hn3
              refine ⟨S8, S9, S10, pu, nu, cu, e8, n8, a8, k9, k10, by omega, (q10 y (by omega)).trans ((f9 y (by omega) hny).trans ((a8.2 y (by omega)).trans b7)), b10, ?_, ?_, ?_⟩
              · rw [hj]
                exact o9.frame (by omega) fun id hid hbk => q10 id (fun e => d3 (by rw [← e]; exact hbk))
              · intro q hq hq3 hqb
                exact (q10 q hq3).trans ((f9 q (by omega) hqb).trans (a8.2 q hq))
              · intro q hq hqb
                exact d9 q (by omega) hqb
            have y7 : aBuild Tryz.prog 44 [(0, .int .i64 b.lo), (1, .int .i64 (IntKind.i64.wrap (b.hi - b.lo)))] = some (.agg #[.int .i64 b.lo, .int .i64 (IntKind.i64.wrap (b.hi - b.lo))]) := by kernel_rfl
            have y8 : aBuildSlice Tryz.prog 22 1 [(0, .agg #[.int .i64 b.lo, .int .i64 (IntKind.i64.wrap (b.hi - b.lo))])] S7 = some (.slice (some ⟨S7.next, 0, none⟩) 1 1, S7.push (.cells [.int .i64 b.lo, .int .i64 (IntKind.i64.wrap (b.hi - b.lo))] 44 2 true true)) := by kernel_rfl
            rcases dP (0 < (L.length : Int)) with ⟨h1a, h1⟩ | ⟨h1a, h1⟩
            · obtain ⟨id, cc, ex, of_, hof, hb', lo', lt', ix, gb, m0, m1⟩ := own_arc ow7 (show L.length - 1 < L.length by omega)
              have w1 : IntKind.i64.wrap ((L.length : Int) - 1) = ((L.length - 1 : Nat) : Int) := by rw [IntWalk.i64_in] <;> omega
              rcases dP (IntKind.i64.wrap (IntKind.i64.wrap ((lget L (L.length - 1)).f + (lget L (L.length - 1)).l) + 1) = b.lo) with ⟨h2a, h2⟩ | ⟨h2a, h2⟩
              · simp (disch := first | omega | assumption) only [E0_G, SY, agreeKind, ldA, aggD, aField, Nat.reduceAdd, Nat.reduceLT, Nat.reduceBEq, TY_EvA14, g3, u3, u6, h1a, w1, ix, gb, m0, m1, h2a, store_refl E0_same] at hB
                rw [code_draws _ _ _ (by kernel_rfl)] at hB
                generalize hnd2 : needy _ = nd2 at hB
                subst hof
                obtain ⟨S8, e8, n8, o8, q8⟩ := own_len (y := IntKind.i64.wrap (b.hi - (lget L (L.length - 1)).f)) ow7 (show L.length - 1 < L.length by omega) hb'
                simp (disch := first | omega | assumption) only [E0_G, SY, agreeKind, ldA, aggD, aField, Nat.reduceAdd, Nat.reduceLT, Nat.reduceBEq, TY_EvA14, g3, u3, u6, w1, ix, gb, m0, e8, store_refl E0_same] at hB
                have hj : joinS L b = L.set (L.length - 1) ⟨(lget L (L.length - 1)).f, IntKind.i64.wrap (b.hi - (lget L (L.length - 1)).f)⟩ := if_pos ⟨by omega, h2⟩
                have hne : id ≠ y := fun e => hny (by rw [← e]; exact hb')
                have hn3' : p3 ≠ id := fun e => hn3 (by rw [e]; exact hb')
                refine ⟨_, _, S8, hB.symm, (q8 y (Ne.symm hne)).trans b7, close S8 po' no' co' (by omega) ((q8 y (Ne.symm hne)).trans b7) ((q8 p3 hn3').trans u3) (by rw [hj]; exact o8) (fun q hq hq3 hqb => q8 q (fun e => hqb (by rw [e]; exact hb'))) (fun q hq h => h)⟩
              · simp (disch := first | omega | assumption) only [E0_G, SY, off, agreeKind, partVals, ldA, aggD, aField, Nat.reduceAdd, Nat.reduceLT, Nat.reduceBEq, TY_EvA14, g3, u3, u6, h1a, w1, ix, gb, m0, m1, h2a, store_refl E0_same] at hB
                obtain ⟨S8, S9, S10, pu, nu, cu, e8, n8, a8, k9, k10, r1, r2, r3, r4, r5, r6⟩ := more (if_neg fun h => h2 h.2)
                simp (disch := first | omega | assumption) only [E0_G, SY, off, agreeKind, partVals, Nat.reduceAdd, Nat.reduceLT, Nat.reduceBEq, g3, y7, y8, e8, k9, k10] at hB
                exact ⟨_, _, S10, hB.symm, r2, close S10 pu nu cu r1 r2 r3 r4 r5 r6⟩
            · simp (disch := first | omega | assumption) only [E0_G, SY, off, agreeKind, partVals, ldA, aggD, aField, Nat.reduceAdd, Nat.reduceLT, Nat.reduceBEq, TY_EvA14, g3, u3, u6, h1a, store_refl E0_same] at hB
              obtain ⟨S8, S9, S10, pu, nu, cu, e8, n8, a8, k9, k10, r1, r2, r3, r4, r5, r6⟩ := more (if_neg fun h => h1 (by omega))
              simp (disch := first | omega | assumption) only [E0_G, SY, off, agreeKind, partVals, Nat.reduceAdd, Nat.reduceLT, Nat.reduceBEq, g3, y7, y8, e8, k9, k10] at hB
              exact ⟨_, _, S10, hB.symm, r2, close S10 pu nu cu r1 r2 r3 r4 r5 r6⟩)
          exact ⟨S4, T', r1, r2, r3, r4⟩
      · exact ⟨Nat.le_refl _, Nat.zero_le _, bx2, none, 0, 0, (ag.2 p3 l3).trans h3, Own.nil _ _ _, rfl⟩
      · rintro q hq (h | h | h)
        · exact (nl' q hq).1 h
        · have := (nl' q hq).2; omega
        · simp [blkOf] at h
      · rintro (h | h | h)
        · exact n3x h
        · omega
        · simp [blkOf] at h
      · rintro (h | h | h)
        · exact n3k h
        · omega
        · simp [blkOf] at h)
  obtain ⟨rfl, po', no', co', q1, q2, q3, q4, q5⟩ := hQ
  exact ⟨S', po', no', co', rfl, q1, q2, q3, q4, q5⟩
end Great
end Go.Proofs
end
