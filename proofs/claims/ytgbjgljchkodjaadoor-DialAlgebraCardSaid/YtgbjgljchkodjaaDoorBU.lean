/-
  BU: EvT5, EvT8, EvT9.
-/
import Derived.Test.YtgbjgljchkodjaaDoorBI
import Derived.Test.YtgbjgljchkodjaaDoorBT
import Derived.Test.YtgbjgljchkodjaaDoorBC
import Derived.Test.YtgbjgljchkodjaaDoorBJ
section
/-
  The great seat of stage 1: whether the angles that are told of one mark cover those of another.
-/
set_option linter.unusedSimpArgs false
set_option linter.unusedVariables false
namespace Go.Proofs
namespace Great
open Go Go.RowKit Go.Aev
set_option maxRecDepth 100000
end Great
end Go.Proofs
end
section
/-
  The great seat of stage 1: Size, by the generator.
-/
set_option linter.unusedSimpArgs false
set_option linter.unusedVariables false
namespace Go.Proofs
namespace Great
open Go Go.RowKit Go.Aev
set_option maxRecDepth 100000
/-- What is known of the types. -/
theorem TY_EvT8 : type_of% (And.intro (And.intro (And.intro (And.intro (And.intro (And.intro Tryd.underlying3 tz3) (And.intro tt3 t0_3)) (And.intro (And.intro Tryd.underlying22 tz22) (And.intro tt22 (And.intro t0_22 Tryd.underlying37)))) (And.intro (And.intro (And.intro tz43 tt43) (And.intro t0_43 Tryd.underlying40)) (And.intro (And.intro tz44 tt44) (And.intro t0_44 (And.intro Tryd.underlying41 tz45))))) (And.intro (And.intro (And.intro (And.intro tt45 t0_45) (And.intro Tryd.underlying45 tz51)) (And.intro (And.intro tt51 t0_51) (And.intro Tryd.underlying46 (And.intro tz52 tt52)))) (And.intro (And.intro (And.intro t0_52 Tryd.underlying29) (And.intro tz55 tt55)) (And.intro (And.intro t0_55 Tryd.underlying30) (And.intro tz56 (And.intro tt56 t0_56)))))) (And.intro (And.intro (And.intro (And.intro (And.intro Tryd.underlying38 tz57) (And.intro tt57 t0_57)) (And.intro (And.intro Tryd.underlying39 tz58) (And.intro tt58 (And.intro t0_58 Tryd.underlying42)))) (And.intro (And.intro (And.intro tz77 tt77) (And.intro t0_77 Tryd.underlying58)) (And.intro (And.intro tz90 tt90) (And.intro t0_90 (And.intro Tryd.underlying109 tz123))))) (And.intro (And.intro (And.intro (And.intro tt123 t0_123) (And.intro Tryd.underlying104 tz177)) (And.intro (And.intro tt177 t0_177) (And.intro Tryd.underlying105 (And.intro tz178 tt178)))) (And.intro (And.intro (And.intro t0_178 Tryd.underlying110) (And.intro tz182 tt182)) (And.intro (And.intro t0_182 Tryd.underlying111) (And.intro tz183 (And.intro tt183 t0_183))))))) := (And.intro (And.intro (And.intro (And.intro (And.intro (And.intro Tryd.underlying3 tz3) (And.intro tt3 t0_3)) (And.intro (And.intro Tryd.underlying22 tz22) (And.intro tt22 (And.intro t0_22 Tryd.underlying37)))) (And.intro (And.intro (And.intro tz43 tt43) (And.intro t0_43 Tryd.underlying40)) (And.intro (And.intro tz44 tt44) (And.intro t0_44 (And.intro Tryd.underlying41 tz45))))) (And.intro (And.intro (And.intro (And.intro tt45 t0_45) (And.intro Tryd.underlying45 tz51)) (And.intro (And.intro tt51 t0_51) (And.intro Tryd.underlying46 (And.intro tz52 tt52)))) (And.intro (And.intro (And.intro t0_52 Tryd.underlying29) (And.intro tz55 tt55)) (And.intro (And.intro t0_55 Tryd.underlying30) (And.intro tz56 (And.intro tt56 t0_56)))))) (And.intro (And.intro (And.intro (And.intro (And.intro Tryd.underlying38 tz57) (And.intro tt57 t0_57)) (And.intro (And.intro Tryd.underlying39 tz58) (And.intro tt58 (And.intro t0_58 Tryd.underlying42)))) (And.intro (And.intro (And.intro tz77 tt77) (And.intro t0_77 Tryd.underlying58)) (And.intro (And.intro tz90 tt90) (And.intro t0_90 (And.intro Tryd.underlying109 tz123))))) (And.intro (And.intro (And.intro (And.intro tt123 t0_123) (And.intro Tryd.underlying104 tz177)) (And.intro (And.intro tt177 t0_177) (And.intro Tryd.underlying105 (And.intro tz178 tt178)))) (And.intro (And.intro (And.intro t0_178 Tryd.underlying110) (And.intro tz182 tt182)) (And.intro (And.intro t0_182 Tryd.underlying111) (And.intro tz183 (And.intro tt183 t0_183)))))))

theorem wrapA_len (o : List Ar) : (wrapA o).length ≤ o.length := by
  unfold wrapA
  split
  · rw [List.length_drop, List.length_set]; omega
  · exact Nat.le_refl _
theorem norm_len {a : List Ar} (hv : ∀ x ∈ a, ArcOk x.f x.l) : (r87 (r88 a)).length ≤ 2 * a.length := by
  obtain ⟨h1, h2, _⟩ := r88_ok hv
  rw [r87_wrapA h1 h2]
  have := wrapA_len ((r88 a).map toAr)
  have := r88_len a
  rw [List.length_map] at *
  omega

def R28_0 (l : List Ar)  : List Ar → Int → Int
  | [], n => n
  | x3 :: l', n => R28_0 l l' (IntKind.i64.wrap (n + (IntKind.i64.wrap (x3.l + 1))))
def r28 (l : List Ar) : Int × Int := (R28_0 l (r87 (r88 (l))) 0, 0)
set_option maxHeartbeats 2000000 in
theorem c28 (l : List Ar) {N : Nat} (hs : SortOk N) (hN1 : N ≤ 1000) (hv : ∀ x ∈ l, ArcOk x.f x.l) (hn : l.length ≤ 200) (hN : 2 * (r178 l).length ≤ N)  (S : AS) (v_l : Value) (hv_l : Lst S v_l l) (ht : Tab S) :
    ∃ S', (evL Tryd.prog E0).call 11 #[v_l] S = some (.tuple #[.int .i64 (r28 l).1, .int .i64 (r28 l).2], S') ∧ Agree S S' := by
  generalize hz : (evL Tryd.prog E0).call 11 _ _ = z
  rw [L_call, evCall_said rfl Tryd.func11 rfl (by decide) Tryd.ntmps11 Tryd.results11] at hz
  obtain ⟨u1, S1, k1, a1, oo1⟩ := c16 hs hN1 (l) hv hn hN S (v_l) (hv_l) ht
  have l1 := a1.1
  have s1 : E0.same S S1 = true := symEnv_same a1
  have g1 : Agree S S1 := a1
  have p1 := norm_len hv
  have w2 := (oo1.rows).len (P := Tryd.prog) (t := 22) Tryd.underlying22
  try simp (disch := first | omega | assumption) only [E0_G, SY, setArgs, off, agreeKind, partVals, vals, allocV, boxed, ldA, rdCells, oneB, aggD, aField, aFieldV, aExtract, eq_self, ne_eq, if_true, if_false, not_false_eq_true, Nat.reduceAdd, Nat.reduceSub, Nat.reduceMul, Nat.reduceLT, Nat.reduceEqDiff, Nat.reduceBEq, reduceIte, Int.reduceEq, Int.reduceLT, Int.reduceLE, reduceCtorEq, TY_EvT8, and_fold, or_fold, not_fold, k1, s1, w2] at hz
  generalize hL3 : Rec.loop _ _ _ _ = L3 at hz
  obtain ⟨x3, t3, S3e, rfl, hQ3⟩ := loop_met hL3 (fun m t S' => ∃ (n : Int) (i : Nat), m + i = (r87 (r88 (l))).length ∧ i ≤ (r87 (r88 (l))).length ∧ t.get 5 = some (.int .i64 0) ∧ t.get 6 = some (.int .i64 n) ∧ t.get 14 = some (u1) ∧ t.get 15 = some (.int .i64 ((r87 (r88 (l))).length : Int)) ∧ t.get 16 = some (.int .i64 (i : Int)) ∧ Agree S S' ∧ S1.next ≤ S'.next ∧ Fre S.next S' u1 (r87 (r88 (l))) ∧ R28_0 l ((r87 (r88 (l))).drop i) n = R28_0 l (r87 (r88 (l))) 0)
    (fun x t S' => x = .exit 0 ∧ ∃ (n : Int) (i : Nat), t.get 5 = some (.int .i64 0) ∧ t.get 6 = some (.int .i64 n) ∧ Agree S S' ∧ S1.next ≤ S'.next ∧ Fre S.next S' u1 (r87 (r88 (l))) ∧ i ≤ (r87 (r88 (l))).length ∧ R28_0 l (r87 (r88 (l))) 0 = n) ((r87 (r88 (l))).length - 0) ⟨0, 0, by first | rfl | omega | (simp; omega) | simp, by first | rfl | omega | (simp; omega) | simp, by simp only [SY, setArgs, off, agreeKind, partVals, vals, allocV, boxed, ldA, rdCells, oneB, aggD, aField, aFieldV, aExtract, eq_self, ne_eq, if_true, if_false, not_false_eq_true, Nat.reduceAdd, Nat.reduceSub, Nat.reduceMul, Nat.reduceLT, Nat.reduceEqDiff, Nat.reduceBEq, reduceIte, Int.reduceEq, Int.reduceLT, Int.reduceLE, reduceCtorEq] <;> rfl, by simp only [SY, setArgs, off, agreeKind, partVals, vals, allocV, boxed, ldA, rdCells, oneB, aggD, aField, aFieldV, aExtract, eq_self, ne_eq, if_true, if_false, not_false_eq_true, Nat.reduceAdd, Nat.reduceSub, Nat.reduceMul, Nat.reduceLT, Nat.reduceEqDiff, Nat.reduceBEq, reduceIte, Int.reduceEq, Int.reduceLT, Int.reduceLE, reduceCtorEq] <;> rfl, by simp only [SY, setArgs, off, agreeKind, partVals, vals, allocV, boxed, ldA, rdCells, oneB, aggD, aField, aFieldV, aExtract, eq_self, ne_eq, if_true, if_false, not_false_eq_true, Nat.reduceAdd, Nat.reduceSub, Nat.reduceMul, Nat.reduceLT, Nat.reduceEqDiff, Nat.reduceBEq, reduceIte, Int.reduceEq, Int.reduceLT, Int.reduceLE, reduceCtorEq] <;> rfl, by simp only [SY, setArgs, off, agreeKind, partVals, vals, allocV, boxed, ldA, rdCells, oneB, aggD, aField, aFieldV, aExtract, eq_self, ne_eq, if_true, if_false, not_false_eq_true, Nat.reduceAdd, Nat.reduceSub, Nat.reduceMul, Nat.reduceLT, Nat.reduceEqDiff, Nat.reduceBEq, reduceIte, Int.reduceEq, Int.reduceLT, Int.reduceLE, reduceCtorEq] <;> rfl, by simp only [SY, setArgs, off, agreeKind, partVals, vals, allocV, boxed, ldA, rdCells, oneB, aggD, aField, aFieldV, aExtract, eq_self, ne_eq, if_true, if_false, not_false_eq_true, Nat.reduceAdd, Nat.reduceSub, Nat.reduceMul, Nat.reduceLT, Nat.reduceEqDiff, Nat.reduceBEq, reduceIte, Int.reduceEq, Int.reduceLT, Int.reduceLE, reduceCtorEq] <;> rfl, g1, Nat.le_refl _, oo1, rfl⟩ (by
      rintro m t S3 ⟨n, i, hi3_0, hi3_1, g3_5, g3_6, g3_14, g3_15, g3_16, ga3, gn3, cw3_0, hd3⟩
      refine .run fun z he => ?_
      try simp (disch := first | omega | assumption) only [E0_G, SY, setArgs, off, agreeKind, partVals, vals, allocV, boxed, ldA, rdCells, oneB, aggD, aField, aFieldV, aExtract, eq_self, ne_eq, if_true, if_false, not_false_eq_true, Nat.reduceAdd, Nat.reduceSub, Nat.reduceMul, Nat.reduceLT, Nat.reduceEqDiff, Nat.reduceBEq, reduceIte, Int.reduceEq, Int.reduceLT, Int.reduceLE, reduceCtorEq, TY_EvT8, and_fold, or_fold, not_fold, g3_5, g3_6, g3_14, g3_15, g3_16, w2] at he
      rcases dP ((i : Int) < ((r87 (r88 (l))).length : Int)) with ⟨h4a, h4⟩ | ⟨h4a, h4⟩
      · skip
        have hx3 : (r87 (r88 (l)))[i]? = some ((r87 (r88 (l)))[i]'(by first | omega | simp; omega)) := List.getElem?_eq_getElem _
        generalize (r87 (r88 (l)))[i]'_ = x3 at hx3
        obtain ⟨id5, of5, cc5, ty5, wr5, ex5, i5, j5, l5, q5⟩ := (cw3_0.rows).at (P := Tryd.prog) (t := 22) Tryd.underlying22 tz56 hx3
        have m5_0 : cc5[of5]? = some (.int .i64 x3.f) := q5 0 (show 0 < 2 by decide)
        have m5_1 : cc5[of5 + 1]? = some (.int .i64 x3.l) := q5 1 (show 1 < 2 by decide)
        obtain ⟨S6, e6, n6, b6, a6⟩ := push_open S3 (.cells [.int .i64 0, .int .i64 0] 30 0 true true)
        have v5_6 := (a6.2 id5 (by omega)).trans j5
        have ocw3_7 := cw3_0.agree a6
        have g6 : Agree S S6 := ga3.trans a6
        have s6 : E0.same S3 S6 = true := symEnv_same a6
        have ne8 : blkOf (u1) ≠ some S3.next := cw3_0.new (Nat.le_refl _)
        obtain ⟨S9, k9, n9, b9, q9⟩ := st_at (o := 0) (c' := [.int .i64 x3.f, .int .i64 x3.l]) (v := .agg #[.int .i64 x3.f, .int .i64 x3.l]) tz56 b6 rfl rfl (show 0 + 2 ≤ 2 by decide) rfl
        have ocw3_10 := ocw3_7.frame (by omega) (fun id hid hb => q9 id (fun e => (show blkOf (u1) ≠ some S3.next from by first | exact ocw3_7.ne (by omega) | exact ocw3_7.new (by omega) | assumption) (e ▸ hb)))
        have g9 : Agree S S9 := ⟨by have := (g6).1; omega, fun id hid => (q9 id (by have := (g6).1; omega)).trans ((g6).2 id hid)⟩
        have w11 : IntKind.i64.wrap ((i : Int) + 1) = ((i + 1 : Nat) : Int) := by rw [IntWalk.i64_in] <;> omega
        try simp (disch := first | omega | assumption) only [E0_G, SY, setArgs, off, agreeKind, partVals, vals, allocV, boxed, ldA, rdCells, oneB, aggD, aField, aFieldV, aExtract, eq_self, ne_eq, if_true, if_false, not_false_eq_true, Nat.reduceAdd, Nat.reduceSub, Nat.reduceMul, Nat.reduceLT, Nat.reduceEqDiff, Nat.reduceBEq, reduceIte, Int.reduceEq, Int.reduceLT, Int.reduceLE, reduceCtorEq, TY_EvT8, and_fold, or_fold, not_fold, g3_5, g3_6, g3_14, g3_15, g3_16, w2, h4a, i5, j5, m5_0, m5_1, v5_6, s6, e6, b6, k9, b9, w11] at he
        rw [drop_cons' hx3] at hd3
        have hf := (show _ = (R28_0 l ((r87 (r88 (l))).drop (i + 1)) (IntKind.i64.wrap (n + (IntKind.i64.wrap (x3.l + 1)))) : Int) from rfl).symm.trans hd3
        exact .next he (m - 1) (by omega) ⟨IntKind.i64.wrap (n + (IntKind.i64.wrap (x3.l + 1))), (i + 1), by first | omega | (simp; omega) | simp, by first | omega | (simp; omega) | simp, (by simp only [SY, setArgs, off, agreeKind, partVals, vals, allocV, boxed, ldA, rdCells, oneB, aggD, aField, aFieldV, aExtract, eq_self, ne_eq, if_true, if_false, not_false_eq_true, Nat.reduceAdd, Nat.reduceSub, Nat.reduceMul, Nat.reduceLT, Nat.reduceEqDiff, Nat.reduceBEq, reduceIte, Int.reduceEq, Int.reduceLT, Int.reduceLE, reduceCtorEq, g3_5, g3_6, g3_14, g3_15, g3_16] <;> rfl), (by simp only [SY, setArgs, off, agreeKind, partVals, vals, allocV, boxed, ldA, rdCells, oneB, aggD, aField, aFieldV, aExtract, eq_self, ne_eq, if_true, if_false, not_false_eq_true, Nat.reduceAdd, Nat.reduceSub, Nat.reduceMul, Nat.reduceLT, Nat.reduceEqDiff, Nat.reduceBEq, reduceIte, Int.reduceEq, Int.reduceLT, Int.reduceLE, reduceCtorEq, g3_5, g3_6, g3_14, g3_15, g3_16] <;> rfl), (by simp only [SY, setArgs, off, agreeKind, partVals, vals, allocV, boxed, ldA, rdCells, oneB, aggD, aField, aFieldV, aExtract, eq_self, ne_eq, if_true, if_false, not_false_eq_true, Nat.reduceAdd, Nat.reduceSub, Nat.reduceMul, Nat.reduceLT, Nat.reduceEqDiff, Nat.reduceBEq, reduceIte, Int.reduceEq, Int.reduceLT, Int.reduceLE, reduceCtorEq, g3_5, g3_6, g3_14, g3_15, g3_16] <;> rfl), (by simp only [SY, setArgs, off, agreeKind, partVals, vals, allocV, boxed, ldA, rdCells, oneB, aggD, aField, aFieldV, aExtract, eq_self, ne_eq, if_true, if_false, not_false_eq_true, Nat.reduceAdd, Nat.reduceSub, Nat.reduceMul, Nat.reduceLT, Nat.reduceEqDiff, Nat.reduceBEq, reduceIte, Int.reduceEq, Int.reduceLT, Int.reduceLE, reduceCtorEq, g3_5, g3_6, g3_14, g3_15, g3_16] <;> rfl), (by simp only [SY, setArgs, off, agreeKind, partVals, vals, allocV, boxed, ldA, rdCells, oneB, aggD, aField, aFieldV, aExtract, eq_self, ne_eq, if_true, if_false, not_false_eq_true, Nat.reduceAdd, Nat.reduceSub, Nat.reduceMul, Nat.reduceLT, Nat.reduceEqDiff, Nat.reduceBEq, reduceIte, Int.reduceEq, Int.reduceLT, Int.reduceLE, reduceCtorEq, g3_5, g3_6, g3_14, g3_15, g3_16] <;> rfl), g9, by omega, ocw3_10, hf⟩
      · skip
        try simp (disch := first | omega | assumption) only [E0_G, SY, setArgs, off, agreeKind, partVals, vals, allocV, boxed, ldA, rdCells, oneB, aggD, aField, aFieldV, aExtract, eq_self, ne_eq, if_true, if_false, not_false_eq_true, Nat.reduceAdd, Nat.reduceSub, Nat.reduceMul, Nat.reduceLT, Nat.reduceEqDiff, Nat.reduceBEq, reduceIte, Int.reduceEq, Int.reduceLT, Int.reduceLE, reduceCtorEq, TY_EvT8, and_fold, or_fold, not_fold, g3_5, g3_6, g3_14, g3_15, g3_16, w2, h4a] at he
        rw [List.drop_eq_nil_of_le (show (r87 (r88 (l))).length ≤ i by omega)] at hd3
        have hf := (show _ = (n : Int) from rfl).symm.trans hd3
        exact .exit he ⟨rfl, ⟨n, i, (by simp only [SY, setArgs, off, agreeKind, partVals, vals, allocV, boxed, ldA, rdCells, oneB, aggD, aField, aFieldV, aExtract, eq_self, ne_eq, if_true, if_false, not_false_eq_true, Nat.reduceAdd, Nat.reduceSub, Nat.reduceMul, Nat.reduceLT, Nat.reduceEqDiff, Nat.reduceBEq, reduceIte, Int.reduceEq, Int.reduceLT, Int.reduceLE, reduceCtorEq, g3_5, g3_6, g3_14, g3_15, g3_16] <;> rfl), (by simp only [SY, setArgs, off, agreeKind, partVals, vals, allocV, boxed, ldA, rdCells, oneB, aggD, aField, aFieldV, aExtract, eq_self, ne_eq, if_true, if_false, not_false_eq_true, Nat.reduceAdd, Nat.reduceSub, Nat.reduceMul, Nat.reduceLT, Nat.reduceEqDiff, Nat.reduceBEq, reduceIte, Int.reduceEq, Int.reduceLT, Int.reduceLE, reduceCtorEq, g3_5, g3_6, g3_14, g3_15, g3_16] <;> rfl), ga3, by omega, cw3_0, by first | omega | assumption | simp, hf.symm⟩⟩)
  obtain ⟨rfl, n, i, ge3_5, ge3_6, ge3, gm3, ce3_0, hj3_0, hR3⟩ := hQ3
  obtain rfl : n = R28_0 l (r87 (r88 (l))) 0 := hR3.symm
  try simp (disch := first | omega | assumption) only [E0_G, SY, setArgs, off, agreeKind, partVals, vals, allocV, boxed, ldA, rdCells, oneB, aggD, aField, aFieldV, aExtract, eq_self, ne_eq, if_true, if_false, not_false_eq_true, Nat.reduceAdd, Nat.reduceSub, Nat.reduceMul, Nat.reduceLT, Nat.reduceEqDiff, Nat.reduceBEq, reduceIte, Int.reduceEq, Int.reduceLT, Int.reduceLE, reduceCtorEq, TY_EvT8, and_fold, or_fold, not_fold, w2, ge3_5, ge3_6] at hz
  have hr : r28 l = (R28_0 l (r87 (r88 (l))) 0, 0) := rfl
  exact fin hz (by rw [hr]) ge3
end Great
end Go.Proofs
end
