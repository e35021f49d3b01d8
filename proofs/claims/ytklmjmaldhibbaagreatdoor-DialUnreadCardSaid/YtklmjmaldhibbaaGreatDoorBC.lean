/-
  BC: EvA5, EvA6, EvM1.
-/
import Derived.Test.YtklmjmaldhibbaaGreatDoorBB
section
/-
  The great seat of stage 1: Grow and Angles, by the generator.
-/
set_option linter.unusedSimpArgs false
set_option linter.unusedVariables false
namespace Go.Proofs
namespace Great
open Go Go.RowKit Go.Aev
set_option maxRecDepth 100000
/-- What is known of the types. -/
theorem TY_EvA5 : type_of% (And.intro (And.intro (And.intro (And.intro (And.intro (And.intro Tryz.underlying3 tz3) (And.intro tt3 t0_3)) (And.intro (And.intro Tryz.underlying22 tz22) (And.intro tt22 t0_22))) (And.intro (And.intro (And.intro Tryz.underlying43 tz43) (And.intro tt43 t0_43)) (And.intro (And.intro Tryz.underlying44 tz44) (And.intro tt44 (And.intro t0_44 Tryz.underlying45))))) (And.intro (And.intro (And.intro (And.intro tz45 tt45) (And.intro t0_45 Tryz.underlying51)) (And.intro (And.intro tz51 tt51) (And.intro t0_51 Tryz.underlying52))) (And.intro (And.intro (And.intro tz52 tt52) (And.intro t0_52 Tryz.underlying55)) (And.intro (And.intro tz55 tt55) (And.intro t0_55 (And.intro Tryz.underlying56 tz56)))))) (And.intro (And.intro (And.intro (And.intro (And.intro tt56 t0_56) (And.intro Tryz.underlying57 tz57)) (And.intro (And.intro tt57 t0_57) (And.intro Tryz.underlying58 tz58))) (And.intro (And.intro (And.intro tt58 t0_58) (And.intro Tryz.underlying77 tz77)) (And.intro (And.intro tt77 t0_77) (And.intro Tryz.underlying80 (And.intro tz80 tt80))))) (And.intro (And.intro (And.intro (And.intro t0_80 Tryz.underlying110) (And.intro tz110 tt110)) (And.intro (And.intro t0_110 Tryz.underlying115) (And.intro tz115 tt115))) (And.intro (And.intro (And.intro t0_115 Tryz.underlying116) (And.intro tz116 tt116)) (And.intro (And.intro t0_116 Tryz.underlying123) (And.intro tz123 (And.intro tt123 t0_123))))))) := (And.intro (And.intro (And.intro (And.intro (And.intro (And.intro Tryz.underlying3 tz3) (And.intro tt3 t0_3)) (And.intro (And.intro Tryz.underlying22 tz22) (And.intro tt22 t0_22))) (And.intro (And.intro (And.intro Tryz.underlying43 tz43) (And.intro tt43 t0_43)) (And.intro (And.intro Tryz.underlying44 tz44) (And.intro tt44 (And.intro t0_44 Tryz.underlying45))))) (And.intro (And.intro (And.intro (And.intro tz45 tt45) (And.intro t0_45 Tryz.underlying51)) (And.intro (And.intro tz51 tt51) (And.intro t0_51 Tryz.underlying52))) (And.intro (And.intro (And.intro tz52 tt52) (And.intro t0_52 Tryz.underlying55)) (And.intro (And.intro tz55 tt55) (And.intro t0_55 (And.intro Tryz.underlying56 tz56)))))) (And.intro (And.intro (And.intro (And.intro (And.intro tt56 t0_56) (And.intro Tryz.underlying57 tz57)) (And.intro (And.intro tt57 t0_57) (And.intro Tryz.underlying58 tz58))) (And.intro (And.intro (And.intro tt58 t0_58) (And.intro Tryz.underlying77 tz77)) (And.intro (And.intro tt77 t0_77) (And.intro Tryz.underlying80 (And.intro tz80 tt80))))) (And.intro (And.intro (And.intro (And.intro t0_80 Tryz.underlying110) (And.intro tz110 tt110)) (And.intro (And.intro t0_110 Tryz.underlying115) (And.intro tz115 tt115))) (And.intro (And.intro (And.intro t0_115 Tryz.underlying116) (And.intro tz116 tt116)) (And.intro (And.intro t0_116 Tryz.underlying123) (And.intro tz123 (And.intro tt123 t0_123)))))))

theorem R88_0_len (l : List Ar) : ∀ (m : List Ar) (o : List Sp), (R88_0 l m o).length ≤ 2 * m.length + o.length := by
  intro m
  induction m with
  | nil => intro o; simp [R88_0]
  | cons x m ih =>
    intro o
    unfold R88_0
    split
    · refine Nat.le_trans (ih _) ?_
      have := r131_len o x.f (IntKind.i64.wrap (x.f + x.l))
      simp; omega
    · refine Nat.le_trans (ih _) ?_
      have h1 := r131_len o x.f 43199
      have h2 := r131_len (r131 o x.f 43199) 0 (IntKind.i64.wrap ((IntKind.i64.wrap (x.f + x.l)) - 43200))
      simp; omega
theorem r88_len (l : List Ar) : (r88 l).length ≤ 2 * l.length := by simpa [r88] using R88_0_len l l []

def R31_0 (l : List Ar) (w : Int)  : List Ar → List Ar → (List Ar)
  | [], o => o
  | x1 :: l', o => R31_0 l w l' (o ++ ([(⟨((r94 x1.f x1.l w)).1, ((r94 x1.f x1.l w)).2⟩ : Ar)]))
def r31 (l : List Ar) (w : Int) : List Ar := (r87 ((r88 (R31_0 l w l ([]) : List Ar)) : List Sp))
set_option maxHeartbeats 2000000 in
theorem c31 (l : List Ar) (w : Int) (hn : l.length ≤ 400) (S : AS) (v_l : Value) (hv_l : Lst S v_l l) :
    ∃ v' S', (evL Tryz.prog E0).call 31 #[v_l, .int .i64 w] S = some (v', S') ∧ Agree S S' ∧ Own 56 S.next S' v' (r31 l w) := by
  generalize hz : (evL Tryz.prog E0).call 31 _ _ = z
  rw [L_call, evCall_said rfl Tryz.func31 rfl (by decide) Tryz.ntmps31 Tryz.results31] at hz
  try simp (disch := first | omega | assumption) only [E0_G, SY, setArgs, off, agreeKind, partVals, vals, allocV, boxed, ldA, rdCells, oneB, aggD, aField, aFieldV, aExtract, eq_self, ne_eq, if_true, if_false, not_false_eq_true, Nat.reduceAdd, Nat.reduceSub, Nat.reduceMul, Nat.reduceLT, Nat.reduceEqDiff, Nat.reduceBEq, reduceIte, Int.reduceEq, Int.reduceLT, Int.reduceLE, reduceCtorEq, TY_EvA5, and_fold, or_fold, not_fold] at hz
  generalize hL1 : Rec.loop _ _ _ _ = L1 at hz
  obtain ⟨x1, t1, S1e, rfl, hQ1⟩ := loop_met hL1 (fun m t S' => ∃ (i : Nat) (v_o : Value) (o : List Ar), m + i = l.length ∧ o.length ≤ i ∧ i ≤ l.length ∧ t.get 0 = some (v_l) ∧ t.get 1 = some (.int .i64 w) ∧ t.get 5 = some (v_o) ∧ t.get 6 = some (.int .i64 (i : Int)) ∧ Agree S S' ∧ S.next ≤ S'.next ∧ Own 56 S.next S' v_o o ∧ R31_0 l w (l.drop i) o = R31_0 l w l ([]))
    (fun x t S' => x = .exit 0 ∧ ∃ (i : Nat) (v_o : Value) (o : List Ar), t.get 5 = some (v_o) ∧ Agree S S' ∧ S.next ≤ S'.next ∧ Own 56 S.next S' v_o o ∧ o.length ≤ i ∧ i ≤ l.length ∧ R31_0 l w l ([]) = o) (l.length - 0) ⟨0, .slice none 0 0, [], by first | rfl | omega | (simp; omega) | simp, by first | rfl | omega | (simp; omega) | simp, by first | rfl | omega | (simp; omega) | simp, by simp only [SY, setArgs, off, agreeKind, partVals, vals, allocV, boxed, ldA, rdCells, oneB, aggD, aField, aFieldV, aExtract, eq_self, ne_eq, if_true, if_false, not_false_eq_true, Nat.reduceAdd, Nat.reduceSub, Nat.reduceMul, Nat.reduceLT, Nat.reduceEqDiff, Nat.reduceBEq, reduceIte, Int.reduceEq, Int.reduceLT, Int.reduceLE, reduceCtorEq] <;> rfl, by simp only [SY, setArgs, off, agreeKind, partVals, vals, allocV, boxed, ldA, rdCells, oneB, aggD, aField, aFieldV, aExtract, eq_self, ne_eq, if_true, if_false, not_false_eq_true, Nat.reduceAdd, Nat.reduceSub, Nat.reduceMul, Nat.reduceLT, Nat.reduceEqDiff, Nat.reduceBEq, reduceIte, Int.reduceEq, Int.reduceLT, Int.reduceLE, reduceCtorEq] <;> rfl, by simp only [SY, setArgs, off, agreeKind, partVals, vals, allocV, boxed, ldA, rdCells, oneB, aggD, aField, aFieldV, aExtract, eq_self, ne_eq, if_true, if_false, not_false_eq_true, Nat.reduceAdd, Nat.reduceSub, Nat.reduceMul, Nat.reduceLT, Nat.reduceEqDiff, Nat.reduceBEq, reduceIte, Int.reduceEq, Int.reduceLT, Int.reduceLE, reduceCtorEq] <;> rfl, by simp only [SY, setArgs, off, agreeKind, partVals, vals, allocV, boxed, ldA, rdCells, oneB, aggD, aField, aFieldV, aExtract, eq_self, ne_eq, if_true, if_false, not_false_eq_true, Nat.reduceAdd, Nat.reduceSub, Nat.reduceMul, Nat.reduceLT, Nat.reduceEqDiff, Nat.reduceBEq, reduceIte, Int.reduceEq, Int.reduceLT, Int.reduceLE, reduceCtorEq] <;> rfl, (Agree.refl S), Nat.le_refl _, Own.nil _ _ _, rfl⟩ (by
      rintro m t S1 ⟨i, v_o, o, hi1_0, hi1_1, hi1_2, g1_0, g1_1, g1_5, g1_6, ga1, gn1, ow_o, hd1⟩
      refine .run fun z he => ?_
      have w2 := (hv_l.agree ga1).len (P := Tryz.prog) (t := 22) Tryz.underlying22
      try simp (disch := first | omega | assumption) only [E0_G, SY, setArgs, off, agreeKind, partVals, vals, allocV, boxed, ldA, rdCells, oneB, aggD, aField, aFieldV, aExtract, eq_self, ne_eq, if_true, if_false, not_false_eq_true, Nat.reduceAdd, Nat.reduceSub, Nat.reduceMul, Nat.reduceLT, Nat.reduceEqDiff, Nat.reduceBEq, reduceIte, Int.reduceEq, Int.reduceLT, Int.reduceLE, reduceCtorEq, TY_EvA5, and_fold, or_fold, not_fold, g1_0, g1_1, g1_5, g1_6, w2] at he
      rcases dP ((i : Int) < (l.length : Int)) with ⟨h3a, h3⟩ | ⟨h3a, h3⟩
      · skip
        have hx1 : l[i]? = some (l[i]'(by first | omega | simp; omega)) := List.getElem?_eq_getElem _
        generalize l[i]'_ = x1 at hx1
        obtain ⟨id4, of4, cc4, ty4, wr4, ex4, i4, j4, l4, q4⟩ := (hv_l).at (P := Tryz.prog) (t := 22) Tryz.underlying22 tz56 hx1
        have j4 := (ga1.2 id4 l4).trans j4
        have m4_0 : cc4[of4]? = some (.int .i64 x1.f) := q4 0 (show 0 < 2 by decide)
        have m4_1 : cc4[of4 + 1]? = some (.int .i64 x1.l) := q4 1 (show 1 < 2 by decide)
        obtain ⟨S5, k5, a5⟩ := c94 x1.f x1.l w  S1  
        have l5 := a5.1
        have s5 : E0.same S1 S5 = true := symEnv_same a5
        have v4_5 := (a5.2 id4 (by omega)).trans j4
        have ow_6 := ow_o.agree a5
        have g5 : Agree S S5 := ga1.trans a5
        obtain ⟨S7, e7, n7, b7, a7⟩ := push_open S5 (.cells [.int .i64 0, .int .i64 0] 56 0 true true)
        have v4_7 := (a7.2 id4 (by omega)).trans v4_5
        have ow_8 := ow_6.agree a7
        have g7 : Agree S S7 := g5.trans a7
        have s7 : E0.same S5 S7 = true := symEnv_same a7
        have ne9 : blkOf (v_o) ≠ some S5.next := ow_6.new (Nat.le_refl _)
        obtain ⟨S10, k10, n10, b10, q10⟩ := st_at (o := 0) (c' := [.int .i64 (((r94 x1.f x1.l w)).1), .int .i64 (((r94 x1.f x1.l w)).2)]) (v := .agg #[.int .i64 (((r94 x1.f x1.l w)).1), .int .i64 (((r94 x1.f x1.l w)).2)]) tz56 b7 rfl rfl (show 0 + 2 ≤ 2 by decide) rfl
        have v4_10 := (q10 id4 (by omega)).trans v4_7
        have ow_11 := ow_8.frame (by omega) (fun id hid hb => q10 id (fun e => (show blkOf (v_o) ≠ some S5.next from by first | exact ow_8.ne (by omega) | exact ow_8.new (by omega) | assumption) (e ▸ hb)))
        have g10 : Agree S S10 := ⟨by have := (g7).1; omega, fun id hid => (q10 id (by have := (g7).1; omega)).trans ((g7).2 id hid)⟩
        have y12 : aBuildSlice Tryz.prog 22 1 [(0, .agg #[.int .i64 (((r94 x1.f x1.l w)).1), .int .i64 (((r94 x1.f x1.l w)).2)])] S10 = some (.slice (some ⟨S10.next, 0, none⟩) 1 1, S10.push (.cells [.int .i64 (((r94 x1.f x1.l w)).1), .int .i64 (((r94 x1.f x1.l w)).2)] 56 2 true true)) := by kernel_rfl
        obtain ⟨S13, e13, n13, b13, a13⟩ := push_open S10 (.cells [.int .i64 (((r94 x1.f x1.l w)).1), .int .i64 (((r94 x1.f x1.l w)).2)] 56 2 true true)
        have v4_13 := (a13.2 id4 (by omega)).trans v4_10
        have v7_13 := (a13.2 S5.next (by omega)).trans b10
        have ow_14 := ow_11.agree a13
        have g13 : Agree S S13 := g10.trans a13
        have s13 : E0.same S10 S13 = true := symEnv_same a13
        have ne15 : blkOf (v_o) ≠ some S10.next := ow_11.new (Nat.le_refl _)
        have o16 : Own 56 S10.next S13 (.slice (some ⟨S10.next, 0, none⟩) 1 1) ([(⟨((r94 x1.f x1.l w)).1, ((r94 x1.f x1.l w)).2⟩ : Ar)] : List Ar) := .inr ⟨_, true, rfl, Nat.le_refl _, by omega, b13⟩
        obtain ⟨u17, S17, k17, o17, n17, f17, d17⟩ := own_append (P := Tryz.prog) (t := 22) (tx := 22) (n := 1) (v := v_o) ow_14 (o16.rows) (by omega) (by first | omega | (simp; omega) | simp) (by first | omega | (simp; omega) | simp) Tryz.underlying22 Tryz.underlying22 ti56 tv56 rfl tz56
        have v7_17 := (f17 S5.next (by omega) (by first | (simp [blkOf]; done) | exact ow_14.ne (by omega) | exact ow_14.new (by omega) | assumption)).trans v7_13
        have g17 : Agree S S17 := ⟨Nat.le_trans (g13).1 n17, fun id hid => (f17 id (by have := (g13).1; omega) (by first | (simp [blkOf]; done) | exact ow_14.ne (by omega) | assumption)).trans ((g13).2 id hid)⟩
        have ne18 : blkOf u17 ≠ some S5.next := by first | exact o17.ne (by omega) | exact o17.new (by omega) | exact d17 _ (by omega) (by first | (simp [blkOf]; done) | exact ow_14.ne (by omega) | exact ow_14.new (by omega) | assumption)
        have w19 : IntKind.i64.wrap ((i : Int) + 1) = ((i + 1 : Nat) : Int) := by rw [IntWalk.i64_in] <;> omega
        try simp (disch := first | omega | assumption) only [E0_G, SY, setArgs, off, agreeKind, partVals, vals, allocV, boxed, ldA, rdCells, oneB, aggD, aField, aFieldV, aExtract, eq_self, ne_eq, if_true, if_false, not_false_eq_true, Nat.reduceAdd, Nat.reduceSub, Nat.reduceMul, Nat.reduceLT, Nat.reduceEqDiff, Nat.reduceBEq, reduceIte, Int.reduceEq, Int.reduceLT, Int.reduceLE, reduceCtorEq, TY_EvA5, and_fold, or_fold, not_fold, g1_0, g1_1, g1_5, g1_6, w2, h3a, i4, j4, m4_0, m4_1, k5, s5, v4_5, v4_7, s7, e7, b7, v4_10, k10, b10, y12, v4_13, v7_13, s13, e13, b13, v7_17, k17, w19] at he
        rw [drop_cons' hx1] at hd1
        have hf := (show _ = (R31_0 l w (l.drop (i + 1)) (o ++ ([(⟨((r94 x1.f x1.l w)).1, ((r94 x1.f x1.l w)).2⟩ : Ar)])) : (List Ar)) from rfl).symm.trans hd1
        exact .next he (m - 1) (by omega) ⟨(i + 1), u17, o ++ ([(⟨((r94 x1.f x1.l w)).1, ((r94 x1.f x1.l w)).2⟩ : Ar)]), by first | omega | (simp; omega) | simp, by first | omega | (simp; omega) | simp, by first | omega | (simp; omega) | simp, (by simp only [SY, setArgs, off, agreeKind, partVals, vals, allocV, boxed, ldA, rdCells, oneB, aggD, aField, aFieldV, aExtract, eq_self, ne_eq, if_true, if_false, not_false_eq_true, Nat.reduceAdd, Nat.reduceSub, Nat.reduceMul, Nat.reduceLT, Nat.reduceEqDiff, Nat.reduceBEq, reduceIte, Int.reduceEq, Int.reduceLT, Int.reduceLE, reduceCtorEq, g1_0, g1_1, g1_5, g1_6] <;> rfl), (by simp only [SY, setArgs, off, agreeKind, partVals, vals, allocV, boxed, ldA, rdCells, oneB, aggD, aField, aFieldV, aExtract, eq_self, ne_eq, if_true, if_false, not_false_eq_true, Nat.reduceAdd, Nat.reduceSub, Nat.reduceMul, Nat.reduceLT, Nat.reduceEqDiff, Nat.reduceBEq, reduceIte, Int.reduceEq, Int.reduceLT, Int.reduceLE, reduceCtorEq, g1_0, g1_1, g1_5, g1_6] <;> rfl), (by simp only [SY, setArgs, off, agreeKind, partVals, vals, allocV, boxed, ldA, rdCells, oneB, aggD, aField, aFieldV, aExtract, eq_self, ne_eq, if_true, if_false, not_false_eq_true, Nat.reduceAdd, Nat.reduceSub, Nat.reduceMul, Nat.reduceLT, Nat.reduceEqDiff, Nat.reduceBEq, reduceIte, Int.reduceEq, Int.reduceLT, Int.reduceLE, reduceCtorEq, g1_0, g1_1, g1_5, g1_6] <;> rfl), (by simp only [SY, setArgs, off, agreeKind, partVals, vals, allocV, boxed, ldA, rdCells, oneB, aggD, aField, aFieldV, aExtract, eq_self, ne_eq, if_true, if_false, not_false_eq_true, Nat.reduceAdd, Nat.reduceSub, Nat.reduceMul, Nat.reduceLT, Nat.reduceEqDiff, Nat.reduceBEq, reduceIte, Int.reduceEq, Int.reduceLT, Int.reduceLE, reduceCtorEq, g1_0, g1_1, g1_5, g1_6] <;> rfl), g17, by omega, (o17.low (by omega)), hf⟩
      · skip
        try simp (disch := first | omega | assumption) only [E0_G, SY, setArgs, off, agreeKind, partVals, vals, allocV, boxed, ldA, rdCells, oneB, aggD, aField, aFieldV, aExtract, eq_self, ne_eq, if_true, if_false, not_false_eq_true, Nat.reduceAdd, Nat.reduceSub, Nat.reduceMul, Nat.reduceLT, Nat.reduceEqDiff, Nat.reduceBEq, reduceIte, Int.reduceEq, Int.reduceLT, Int.reduceLE, reduceCtorEq, TY_EvA5, and_fold, or_fold, not_fold, g1_0, g1_1, g1_5, g1_6, w2, h3a] at he
        rw [List.drop_eq_nil_of_le (by omega)] at hd1
        have hf := (show _ = (o : (List Ar)) from rfl).symm.trans hd1
        exact .exit he ⟨rfl, ⟨i, v_o, o, (by simp only [SY, setArgs, off, agreeKind, partVals, vals, allocV, boxed, ldA, rdCells, oneB, aggD, aField, aFieldV, aExtract, eq_self, ne_eq, if_true, if_false, not_false_eq_true, Nat.reduceAdd, Nat.reduceSub, Nat.reduceMul, Nat.reduceLT, Nat.reduceEqDiff, Nat.reduceBEq, reduceIte, Int.reduceEq, Int.reduceLT, Int.reduceLE, reduceCtorEq, g1_0, g1_1, g1_5, g1_6] <;> rfl), ga1, by omega, (ow_o.low (by omega)), by first | omega | assumption | simp, by first | omega | assumption | simp, hf.symm⟩⟩)
  obtain ⟨rfl, i, v_o, o, ge1_5, ge1, gm1, oe_o1, hj1_0, hj1_1, hR1⟩ := hQ1
  obtain rfl : o = R31_0 l w l ([]) := hR1.symm
  obtain ⟨u21, S21, k21, a21, oo21⟩ := c88 (R31_0 l w l ([]) : List Ar) (by first | omega | (simp; omega) | (simp; done) | assumption) S1e (v_o) (oe_o1.rows) 
  have l21 := a21.1
  have s21 : E0.same S1e S21 = true := symEnv_same a21
  have oe_22 := oe_o1.agree a21
  have g21 : Agree S S21 := ge1.trans a21
  have p21 := r88_len (R31_0 l w l ([]) : List Ar)
  obtain ⟨u23, S23, k23, a23, oo23⟩ := c87 ((r88 (R31_0 l w l ([]) : List Ar)) : List Sp) (by first | omega | (simp; omega) | (simp; done) | assumption) S21 (u21) (oo21.rows) 
  have l23 := a23.1
  have s23 : E0.same S21 S23 = true := symEnv_same a23
  have oe_24 := oe_22.agree a23
  have o21_25 := oo21.agree a23
  have g23 : Agree S S23 := g21.trans a23
  try simp (disch := first | omega | assumption) only [E0_G, SY, setArgs, off, agreeKind, partVals, vals, allocV, boxed, ldA, rdCells, oneB, aggD, aField, aFieldV, aExtract, eq_self, ne_eq, if_true, if_false, not_false_eq_true, Nat.reduceAdd, Nat.reduceSub, Nat.reduceMul, Nat.reduceLT, Nat.reduceEqDiff, Nat.reduceBEq, reduceIte, Int.reduceEq, Int.reduceLT, Int.reduceLE, reduceCtorEq, TY_EvA5, and_fold, or_fold, not_fold, ge1_5, k21, s21, k23, s23] at hz
  have hr : r31 l w = (r87 ((r88 (R31_0 l w l ([]) : List Ar)) : List Sp)) := rfl
  exact ⟨u23, S23, by first | (rw [hr]; exact hz.symm) | exact hz.symm, g23, by rw [hr]; exact oo23.low (by omega)⟩

def r119 (a b c d e : Int) (f s l : Int) : List Ar := (r31 ([(⟨a, b⟩ : Ar)] : List Ar) l)
set_option maxHeartbeats 2000000 in
theorem c119 (a b c d e : Int) (f s l : Int)  (S : AS)  :
    ∃ v' S', (evL Tryz.prog E0).call 119 #[.agg #[.int .i64 a, .int .i64 b, .int .i64 c, .int .i64 d, .int .i64 e], .agg #[.int .i64 f, .int .i64 s, .int .i64 l]] S = some (v', S') ∧ Agree S S' ∧ Own 56 S.next S' v' (r119 a b c d e f s l) := by
  generalize hz : (evL Tryz.prog E0).call 119 _ _ = z
  rw [L_call, evCall_said rfl Tryz.func119 rfl (by decide) Tryz.ntmps119 Tryz.results119] at hz
  obtain ⟨S1, e1, n1, b1, a1⟩ := push_open S (.cells [.int .i64 a, .int .i64 b, .int .i64 c, .int .i64 d, .int .i64 e] 58 0 true true)
  have g1 : Agree S S1 := a1
  have s1 : E0.same S S1 = true := symEnv_same a1
  obtain ⟨S2, e2, n2, b2, a2⟩ := push_open S1 (.cells [.int .i64 f, .int .i64 s, .int .i64 l] 45 0 true true)
  have v1_2 := (a2.2 S.next (by omega)).trans b1
  have g2 : Agree S S2 := g1.trans a2
  have s2 : E0.same S1 S2 = true := symEnv_same a2
  have y3 : aBuildSlice Tryz.prog 22 1 [(0, .agg #[.int .i64 a, .int .i64 b])] S2 = some (.slice (some ⟨S2.next, 0, none⟩) 1 1, S2.push (.cells [.int .i64 a, .int .i64 b] 56 2 true true)) := by kernel_rfl
  obtain ⟨S4, e4, n4, b4, a4⟩ := push_open S2 (.cells [.int .i64 a, .int .i64 b] 56 2 true true)
  have v1_4 := (a4.2 S.next (by omega)).trans v1_2
  have v2_4 := (a4.2 S1.next (by omega)).trans b2
  have g4 : Agree S S4 := g2.trans a4
  have s4 : E0.same S2 S4 = true := symEnv_same a4
  have o5 : Own 56 S2.next S4 (.slice (some ⟨S2.next, 0, none⟩) 1 1) ([(⟨a, b⟩ : Ar)] : List Ar) := .inr ⟨_, true, rfl, Nat.le_refl _, by omega, b4⟩
  obtain ⟨u6, S6, k6, a6, oo6⟩ := c31 ([(⟨a, b⟩ : Ar)] : List Ar) l (by first | omega | (simp; omega) | (simp; done) | assumption) S4 (.slice (some ⟨S2.next, 0, none⟩) 1 1) (o5.rows) 
  have l6 := a6.1
  have s6 : E0.same S4 S6 = true := symEnv_same a6
  have v1_6 := (a6.2 S.next (by omega)).trans v1_4
  have v2_6 := (a6.2 S1.next (by omega)).trans v2_4
  have o5_7 := o5.agree a6
  have g6 : Agree S S6 := g4.trans a6
  try simp (disch := first | omega | assumption) only [E0_G, SY, setArgs, off, agreeKind, partVals, vals, allocV, boxed, ldA, rdCells, oneB, aggD, aField, aFieldV, aExtract, eq_self, ne_eq, if_true, if_false, not_false_eq_true, Nat.reduceAdd, Nat.reduceSub, Nat.reduceMul, Nat.reduceLT, Nat.reduceEqDiff, Nat.reduceBEq, reduceIte, Int.reduceEq, Int.reduceLT, Int.reduceLE, reduceCtorEq, TY_EvA5, and_fold, or_fold, not_fold, s1, e1, b1, v1_2, s2, e2, b2, y3, v1_4, v2_4, s4, e4, b4, k6, s6, v1_6, v2_6] at hz
  have hr : r119 a b c d e f s l = (r31 ([(⟨a, b⟩ : Ar)] : List Ar) l) := rfl
  exact ⟨u6, S6, by first | (rw [hr]; exact hz.symm) | exact hz.symm, g6, by rw [hr]; exact oo6.low (by omega)⟩

def r62 (i t p : Int) (a b c d e : Int) (f s l : Int) : List Ar × Int := (if KeyOk i t p then (if MarkOk a b c d e then (if InkOk f s l then (if t = c ∧ ShowsP d e p f s then ((r119 a b c d e f s l), 0) else ([], 0)) else ([], 1)) else ([], 1)) else ([], 1))
set_option maxHeartbeats 2000000 in
theorem c62 (i t p : Int) (a b c d e : Int) (f s l : Int)  (S : AS)  :
    ∃ v' S', (evL Tryz.prog E0).call 62 #[.agg #[.int .i64 i, .int .i64 t, .int .i64 p], .agg #[.int .i64 a, .int .i64 b, .int .i64 c, .int .i64 d, .int .i64 e], .agg #[.int .i64 f, .int .i64 s, .int .i64 l]] S = some (.tuple #[v', .int .i64 (r62 i t p a b c d e f s l).2], S') ∧ Agree S S' ∧ Own 56 S.next S' v' (r62 i t p a b c d e f s l).1 := by
  generalize hz : (evL Tryz.prog E0).call 62 _ _ = z
  rw [L_call, evCall_said rfl Tryz.func62 rfl (by decide) Tryz.ntmps62 Tryz.results62] at hz
  obtain ⟨S1, e1, n1, b1, a1⟩ := push_open S (.cells [.int .i64 i, .int .i64 t, .int .i64 p] 52 0 true true)
  have g1 : Agree S S1 := a1
  have s1 : E0.same S S1 = true := symEnv_same a1
  obtain ⟨S2, e2, n2, b2, a2⟩ := push_open S1 (.cells [.int .i64 a, .int .i64 b, .int .i64 c, .int .i64 d, .int .i64 e] 58 0 true true)
  have v1_2 := (a2.2 S.next (by omega)).trans b1
  have g2 : Agree S S2 := g1.trans a2
  have s2 : E0.same S1 S2 = true := symEnv_same a2
  obtain ⟨S3, e3, n3, b3, a3⟩ := push_open S2 (.cells [.int .i64 f, .int .i64 s, .int .i64 l] 45 0 true true)
  have v1_3 := (a3.2 S.next (by omega)).trans v1_2
  have v2_3 := (a3.2 S1.next (by omega)).trans b2
  have g3 : Agree S S3 := g2.trans a3
  have s3 : E0.same S2 S3 = true := symEnv_same a3
  obtain ⟨S4, k4, a4⟩ := c39 i t p S3  
  have l4 := a4.1
  have s4 : E0.same S3 S4 = true := symEnv_same a4
  have v1_4 := (a4.2 S.next (by omega)).trans v1_3
  have v2_4 := (a4.2 S1.next (by omega)).trans v2_3
  have v3_4 := (a4.2 S2.next (by omega)).trans b3
  have g4 : Agree S S4 := g3.trans a4
  obtain ⟨S5, k5, a5⟩ := c43 a b c d e S4  
  have l5 := a5.1
  have s5 : E0.same S4 S5 = true := symEnv_same a5
  have v1_5 := (a5.2 S.next (by omega)).trans v1_4
  have v2_5 := (a5.2 S1.next (by omega)).trans v2_4
  have v3_5 := (a5.2 S2.next (by omega)).trans v3_4
  have g5 : Agree S S5 := g4.trans a5
  obtain ⟨S6, k6, a6⟩ := c37 f s l S5  
  have l6 := a6.1
  have s6 : E0.same S5 S6 = true := symEnv_same a6
  have v1_6 := (a6.2 S.next (by omega)).trans v1_5
  have v2_6 := (a6.2 S1.next (by omega)).trans v2_5
  have v3_6 := (a6.2 S2.next (by omega)).trans v3_5
  have g6 : Agree S S6 := g5.trans a6
  try simp (disch := first | omega | assumption) only [E0_G, SY, setArgs, off, agreeKind, partVals, vals, allocV, boxed, ldA, rdCells, oneB, aggD, aField, aFieldV, aExtract, eq_self, ne_eq, if_true, if_false, not_false_eq_true, Nat.reduceAdd, Nat.reduceSub, Nat.reduceMul, Nat.reduceLT, Nat.reduceEqDiff, Nat.reduceBEq, reduceIte, Int.reduceEq, Int.reduceLT, Int.reduceLE, reduceCtorEq, TY_EvA5, and_fold, or_fold, not_fold, s1, e1, b1, v1_2, s2, e2, b2, v1_3, v2_3, s3, e3, b3, k4, s4, v1_4, v2_4, v3_4, k5, s5, v1_5, v2_5, v3_5, k6, s6, v1_6, v2_6, v3_6] at hz
  rcases dP (KeyOk i t p) with ⟨h7a, h7⟩ | ⟨h7a, h7⟩
  · skip
    try simp (disch := first | omega | assumption) only [E0_G, SY, setArgs, off, agreeKind, partVals, vals, allocV, boxed, ldA, rdCells, oneB, aggD, aField, aFieldV, aExtract, eq_self, ne_eq, if_true, if_false, not_false_eq_true, Nat.reduceAdd, Nat.reduceSub, Nat.reduceMul, Nat.reduceLT, Nat.reduceEqDiff, Nat.reduceBEq, reduceIte, Int.reduceEq, Int.reduceLT, Int.reduceLE, reduceCtorEq, TY_EvA5, and_fold, or_fold, not_fold, s1, e1, b1, v1_2, s2, e2, b2, v1_3, v2_3, s3, e3, b3, k4, s4, v1_4, v2_4, v3_4, k5, s5, v1_5, v2_5, v3_5, k6, s6, v1_6, v2_6, v3_6, h7a] at hz
    rcases dP (MarkOk a b c d e) with ⟨h8a, h8⟩ | ⟨h8a, h8⟩
    · skip
      try simp (disch := first | omega | assumption) only [E0_G, SY, setArgs, off, agreeKind, partVals, vals, allocV, boxed, ldA, rdCells, oneB, aggD, aField, aFieldV, aExtract, eq_self, ne_eq, if_true, if_false, not_false_eq_true, Nat.reduceAdd, Nat.reduceSub, Nat.reduceMul, Nat.reduceLT, Nat.reduceEqDiff, Nat.reduceBEq, reduceIte, Int.reduceEq, Int.reduceLT, Int.reduceLE, reduceCtorEq, TY_EvA5, and_fold, or_fold, not_fold, s1, e1, b1, v1_2, s2, e2, b2, v1_3, v2_3, s3, e3, b3, k4, s4, v1_4, v2_4, v3_4, k5, s5, v1_5, v2_5, v3_5, k6, s6, v1_6, v2_6, v3_6, h7a, h8a] at hz
      rcases dP (InkOk f s l) with ⟨h9a, h9⟩ | ⟨h9a, h9⟩
      · skip
        obtain ⟨S10, k10, a10⟩ := c45 i t p a b c d e f s l S6  
        have l10 := a10.1
        have s10 : E0.same S6 S10 = true := symEnv_same a10
        have v1_10 := (a10.2 S.next (by omega)).trans v1_6
        have v2_10 := (a10.2 S1.next (by omega)).trans v2_6
        have v3_10 := (a10.2 S2.next (by omega)).trans v3_6
        have g10 : Agree S S10 := g6.trans a10
        try simp (disch := first | omega | assumption) only [E0_G, SY, setArgs, off, agreeKind, partVals, vals, allocV, boxed, ldA, rdCells, oneB, aggD, aField, aFieldV, aExtract, eq_self, ne_eq, if_true, if_false, not_false_eq_true, Nat.reduceAdd, Nat.reduceSub, Nat.reduceMul, Nat.reduceLT, Nat.reduceEqDiff, Nat.reduceBEq, reduceIte, Int.reduceEq, Int.reduceLT, Int.reduceLE, reduceCtorEq, TY_EvA5, and_fold, or_fold, not_fold, s1, e1, b1, v1_2, s2, e2, b2, v1_3, v2_3, s3, e3, b3, k4, s4, v1_4, v2_4, v3_4, k5, s5, v1_5, v2_5, v3_5, k6, s6, v1_6, v2_6, v3_6, h7a, h8a, h9a, k10, s10, v1_10, v2_10, v3_10] at hz
        rcases dP (t = c ∧ ShowsP d e p f s) with ⟨h11a, h11⟩ | ⟨h11a, h11⟩
        · skip
          obtain ⟨u12, S12, k12, a12, oo12⟩ := c119 a b c d e f s l  S10  
          have l12 := a12.1
          have s12 : E0.same S10 S12 = true := symEnv_same a12
          have v1_12 := (a12.2 S.next (by omega)).trans v1_10
          have v2_12 := (a12.2 S1.next (by omega)).trans v2_10
          have v3_12 := (a12.2 S2.next (by omega)).trans v3_10
          have g12 : Agree S S12 := g10.trans a12
          try simp (disch := first | omega | assumption) only [E0_G, SY, setArgs, off, agreeKind, partVals, vals, allocV, boxed, ldA, rdCells, oneB, aggD, aField, aFieldV, aExtract, eq_self, ne_eq, if_true, if_false, not_false_eq_true, Nat.reduceAdd, Nat.reduceSub, Nat.reduceMul, Nat.reduceLT, Nat.reduceEqDiff, Nat.reduceBEq, reduceIte, Int.reduceEq, Int.reduceLT, Int.reduceLE, reduceCtorEq, TY_EvA5, and_fold, or_fold, not_fold, s1, e1, b1, v1_2, s2, e2, b2, v1_3, v2_3, s3, e3, b3, k4, s4, v1_4, v2_4, v3_4, k5, s5, v1_5, v2_5, v3_5, k6, s6, v1_6, v2_6, v3_6, h7a, h8a, h9a, k10, s10, v1_10, v2_10, v3_10, h11a, k12, s12, v1_12, v2_12, v3_12] at hz
          have hr : r62 i t p a b c d e f s l = ((r119 a b c d e f s l), 0) := (if_pos h7).trans ((if_pos h8).trans ((if_pos h9).trans ((if_pos h11).trans (rfl))))
          exact ⟨u12, S12, by first | (rw [hr]; exact hz.symm) | exact hz.symm, g12, by rw [hr]; exact oo12.low (by omega)⟩
        · skip
          try simp (disch := first | omega | assumption) only [E0_G, SY, setArgs, off, agreeKind, partVals, vals, allocV, boxed, ldA, rdCells, oneB, aggD, aField, aFieldV, aExtract, eq_self, ne_eq, if_true, if_false, not_false_eq_true, Nat.reduceAdd, Nat.reduceSub, Nat.reduceMul, Nat.reduceLT, Nat.reduceEqDiff, Nat.reduceBEq, reduceIte, Int.reduceEq, Int.reduceLT, Int.reduceLE, reduceCtorEq, TY_EvA5, and_fold, or_fold, not_fold, s1, e1, b1, v1_2, s2, e2, b2, v1_3, v2_3, s3, e3, b3, k4, s4, v1_4, v2_4, v3_4, k5, s5, v1_5, v2_5, v3_5, k6, s6, v1_6, v2_6, v3_6, h7a, h8a, h9a, k10, s10, v1_10, v2_10, v3_10, h11a] at hz
          have hr : r62 i t p a b c d e f s l = ([], 0) := (if_pos h7).trans ((if_pos h8).trans ((if_pos h9).trans ((if_neg h11).trans (rfl))))
          exact ⟨.slice none 0 0, S10, by first | (rw [hr]; exact hz.symm) | exact hz.symm, g10, by rw [hr]; exact Own.nil _ _ _⟩
      · skip
        try simp (disch := first | omega | assumption) only [E0_G, SY, setArgs, off, agreeKind, partVals, vals, allocV, boxed, ldA, rdCells, oneB, aggD, aField, aFieldV, aExtract, eq_self, ne_eq, if_true, if_false, not_false_eq_true, Nat.reduceAdd, Nat.reduceSub, Nat.reduceMul, Nat.reduceLT, Nat.reduceEqDiff, Nat.reduceBEq, reduceIte, Int.reduceEq, Int.reduceLT, Int.reduceLE, reduceCtorEq, TY_EvA5, and_fold, or_fold, not_fold, s1, e1, b1, v1_2, s2, e2, b2, v1_3, v2_3, s3, e3, b3, k4, s4, v1_4, v2_4, v3_4, k5, s5, v1_5, v2_5, v3_5, k6, s6, v1_6, v2_6, v3_6, h7a, h8a, h9a] at hz
        have hr : r62 i t p a b c d e f s l = ([], 1) := (if_pos h7).trans ((if_pos h8).trans ((if_neg h9).trans (rfl)))
        exact ⟨.slice none 0 0, S6, by first | (rw [hr]; exact hz.symm) | exact hz.symm, g6, by rw [hr]; exact Own.nil _ _ _⟩
    · skip
      try simp (disch := first | omega | assumption) only [E0_G, SY, setArgs, off, agreeKind, partVals, vals, allocV, boxed, ldA, rdCells, oneB, aggD, aField, aFieldV, aExtract, eq_self, ne_eq, if_true, if_false, not_false_eq_true, Nat.reduceAdd, Nat.reduceSub, Nat.reduceMul, Nat.reduceLT, Nat.reduceEqDiff, Nat.reduceBEq, reduceIte, Int.reduceEq, Int.reduceLT, Int.reduceLE, reduceCtorEq, TY_EvA5, and_fold, or_fold, not_fold, s1, e1, b1, v1_2, s2, e2, b2, v1_3, v2_3, s3, e3, b3, k4, s4, v1_4, v2_4, v3_4, k5, s5, v1_5, v2_5, v3_5, k6, s6, v1_6, v2_6, v3_6, h7a, h8a] at hz
      have hr : r62 i t p a b c d e f s l = ([], 1) := (if_pos h7).trans ((if_neg h8).trans (rfl))
      exact ⟨.slice none 0 0, S6, by first | (rw [hr]; exact hz.symm) | exact hz.symm, g6, by rw [hr]; exact Own.nil _ _ _⟩
  · skip
    try simp (disch := first | omega | assumption) only [E0_G, SY, setArgs, off, agreeKind, partVals, vals, allocV, boxed, ldA, rdCells, oneB, aggD, aField, aFieldV, aExtract, eq_self, ne_eq, if_true, if_false, not_false_eq_true, Nat.reduceAdd, Nat.reduceSub, Nat.reduceMul, Nat.reduceLT, Nat.reduceEqDiff, Nat.reduceBEq, reduceIte, Int.reduceEq, Int.reduceLT, Int.reduceLE, reduceCtorEq, TY_EvA5, and_fold, or_fold, not_fold, s1, e1, b1, v1_2, s2, e2, b2, v1_3, v2_3, s3, e3, b3, k4, s4, v1_4, v2_4, v3_4, k5, s5, v1_5, v2_5, v3_5, k6, s6, v1_6, v2_6, v3_6, h7a] at hz
    have hr : r62 i t p a b c d e f s l = ([], 1) := (if_neg h7).trans (rfl)
    exact ⟨.slice none 0 0, S6, by first | (rw [hr]; exact hz.symm) | exact hz.symm, g6, by rw [hr]; exact Own.nil _ _ _⟩
end Great
end Go.Proofs
end
section
/-
  The great seat of stage 1: DialMakers, by the generator.
-/
set_option linter.unusedSimpArgs false
set_option linter.unusedVariables false
namespace Go.Proofs
namespace Great
open Go Go.RowKit Go.Aev
set_option maxRecDepth 100000
/-- What is known of the types. -/
theorem TY_EvA6 : type_of% (And.intro (And.intro (And.intro (And.intro (And.intro (And.intro Tryz.underlying3 tz3) (And.intro tt3 t0_3)) (And.intro (And.intro Tryz.underlying22 tz22) (And.intro tt22 t0_22))) (And.intro (And.intro (And.intro Tryz.underlying43 tz43) (And.intro tt43 t0_43)) (And.intro (And.intro Tryz.underlying44 tz44) (And.intro tt44 (And.intro t0_44 Tryz.underlying45))))) (And.intro (And.intro (And.intro (And.intro tz45 tt45) (And.intro t0_45 Tryz.underlying51)) (And.intro (And.intro tz51 tt51) (And.intro t0_51 Tryz.underlying52))) (And.intro (And.intro (And.intro tz52 tt52) (And.intro t0_52 Tryz.underlying55)) (And.intro (And.intro tz55 tt55) (And.intro t0_55 (And.intro Tryz.underlying56 tz56)))))) (And.intro (And.intro (And.intro (And.intro (And.intro tt56 t0_56) (And.intro Tryz.underlying57 tz57)) (And.intro (And.intro tt57 t0_57) (And.intro Tryz.underlying58 tz58))) (And.intro (And.intro (And.intro tt58 t0_58) (And.intro Tryz.underlying77 tz77)) (And.intro (And.intro tt77 t0_77) (And.intro Tryz.underlying80 (And.intro tz80 tt80))))) (And.intro (And.intro (And.intro (And.intro t0_80 Tryz.underlying110) (And.intro tz110 tt110)) (And.intro (And.intro t0_110 Tryz.underlying115) (And.intro tz115 tt115))) (And.intro (And.intro (And.intro t0_115 Tryz.underlying116) (And.intro tz116 tt116)) (And.intro (And.intro t0_116 Tryz.underlying123) (And.intro tz123 (And.intro tt123 t0_123))))))) := (And.intro (And.intro (And.intro (And.intro (And.intro (And.intro Tryz.underlying3 tz3) (And.intro tt3 t0_3)) (And.intro (And.intro Tryz.underlying22 tz22) (And.intro tt22 t0_22))) (And.intro (And.intro (And.intro Tryz.underlying43 tz43) (And.intro tt43 t0_43)) (And.intro (And.intro Tryz.underlying44 tz44) (And.intro tt44 (And.intro t0_44 Tryz.underlying45))))) (And.intro (And.intro (And.intro (And.intro tz45 tt45) (And.intro t0_45 Tryz.underlying51)) (And.intro (And.intro tz51 tt51) (And.intro t0_51 Tryz.underlying52))) (And.intro (And.intro (And.intro tz52 tt52) (And.intro t0_52 Tryz.underlying55)) (And.intro (And.intro tz55 tt55) (And.intro t0_55 (And.intro Tryz.underlying56 tz56)))))) (And.intro (And.intro (And.intro (And.intro (And.intro tt56 t0_56) (And.intro Tryz.underlying57 tz57)) (And.intro (And.intro tt57 t0_57) (And.intro Tryz.underlying58 tz58))) (And.intro (And.intro (And.intro tt58 t0_58) (And.intro Tryz.underlying77 tz77)) (And.intro (And.intro tt77 t0_77) (And.intro Tryz.underlying80 (And.intro tz80 tt80))))) (And.intro (And.intro (And.intro (And.intro t0_80 Tryz.underlying110) (And.intro tz110 tt110)) (And.intro (And.intro t0_110 Tryz.underlying115) (And.intro tz115 tt115))) (And.intro (And.intro (And.intro t0_115 Tryz.underlying116) (And.intro tz116 tt116)) (And.intro (And.intro t0_116 Tryz.underlying123) (And.intro tz123 (And.intro tt123 t0_123)))))))
theorem c15s (S : AS) : (evL Tryz.prog E0).call 15 #[] S = some (.bool true, S) := by rw [L_call]; rfl


theorem R59_0_len (ks : List K) (a b c d e f s l : Int) : ∀ (m : List K) (o : List Int), (R59_0 ks a b c d e f s l m o).length ≤ m.length + o.length := by
  intro m
  induction m with
  | nil => intro o; simp [R59_0]
  | cons x m ih =>
    intro o
    unfold R59_0
    split <;> (refine Nat.le_trans (ih _) ?_; simp; try omega)
theorem r59_len (ks : List K) (a b c d e f s l : Int) : (r59 ks a b c d e f s l).1.length ≤ ks.length := by
  unfold r59
  have := R59_0_len ks a b c d e f s l ks []
  split
  · split
    · split
      · simpa using this
      · simp
    · simp
  · simp
theorem R60_1_len (ks : List K) (a b c d e f s l : Int) (j : Nat) (o : List (Int × Int)) (x : K) : ∀ (m : List K) (p : List (Int × Int)), (R60_1 ks a b c d e f s l j o x m p).length ≤ m.length + p.length := by
  intro m
  induction m with
  | nil => intro o; simp [R60_1]
  | cons x m ih =>
    intro o
    unfold R60_1
    (repeat' split) <;> (refine Nat.le_trans (ih _) ?_; simp; try omega)
theorem R60_0_len (ks : List K) (a b c d e f s l : Int) (h : ks.length ≤ 60) : ∀ (m : List K) (j : Nat) (o : List (Int × Int)), (R60_0 ks a b c d e f s l m j o).length ≤ m.length * 60 + o.length := by
  intro m
  induction m with
  | nil => intro j o; simp [R60_0]
  | cons x m ih =>
    intro j o
    unfold R60_0
    have h1 := R60_1_len ks a b c d e f s l j o x (ks.drop (j + 1)) o
    have h2 := List.length_drop (i := j + 1) (l := ks)
    split <;> (refine Nat.le_trans (ih _ _) ?_; simp only [List.length_cons]; omega)
theorem r60_len (ks : List K) (a b c d e f s l : Int) (h : ks.length ≤ 60) : (r60 ks a b c d e f s l).1.length ≤ 3600 := by
  unfold r60
  have := R60_0_len ks a b c d e f s l h ks 0 []
  split
  · split
    · split
      · simp only [List.length_nil] at this ⊢; omega
      · simp
    · simp
  · simp
theorem r61_len (i t p a b c d e f s l : Int) : (r61 i t p a b c d e f s l).1.length ≤ 1 := by
  unfold r61
  (repeat' split) <;> simp

def r10 (ks : List K) (a b c d e : Int) (i t p : Int) (f s l : Int) : Bool := (if 60 < (ks.length : Int) then true else (if ((r61 i t p a b c d e f s l).2) = ((r62 i t p a b c d e f s l).2) then (if (r22 ((r61 i t p a b c d e f s l).1 : List Ar) ((r62 i t p a b c d e f s l).1 : List Ar)) = true then (if bunch ks = true then (if MarkOk a b c d e then (if InkOk f s l then (if ((r59 (ks : List K) a b c d e f s l).2) = 0 then (if ((r60 (ks : List K) a b c d e f s l).2) = 0 then (if (r64 ((r59 (ks : List K) a b c d e f s l).1 : List Int) ((r65 (ks : List K) a b c d e f s l) : List Int)) = true then (r66 ((r60 (ks : List K) a b c d e f s l).1 : List (Int × Int)) ((r67 (ks : List K) a b c d e f s l) : List (Int × Int))) else false) else false) else false) else (if ((r59 (ks : List K) a b c d e f s l).2) = 1 then (if ((r60 (ks : List K) a b c d e f s l).2) = 1 then decide (((((r59 (ks : List K) a b c d e f s l).1).length + ((r60 (ks : List K) a b c d e f s l).1).length : Nat) : Int) = 0) else false) else false)) else (if ((r59 (ks : List K) a b c d e f s l).2) = 1 then (if ((r60 (ks : List K) a b c d e f s l).2) = 1 then decide (((((r59 (ks : List K) a b c d e f s l).1).length + ((r60 (ks : List K) a b c d e f s l).1).length : Nat) : Int) = 0) else false) else false)) else (if ((r59 (ks : List K) a b c d e f s l).2) = 1 then (if ((r60 (ks : List K) a b c d e f s l).2) = 1 then decide (((((r59 (ks : List K) a b c d e f s l).1).length + ((r60 (ks : List K) a b c d e f s l).1).length : Nat) : Int) = 0) else false) else false)) else false) else false))
set_option maxHeartbeats 8000000 in
theorem c10 (ks : List K) (a b c d e : Int) (i t p : Int) (f s l : Int)  (S : AS) (v_ks : Value) (hv_ks : Lst S v_ks ks) (ht : Tab S) :
    ∃ S', (evL Tryz.prog E0).call 10 #[v_ks, .agg #[.int .i64 a, .int .i64 b, .int .i64 c, .int .i64 d, .int .i64 e], .agg #[.int .i64 i, .int .i64 t, .int .i64 p], .agg #[.int .i64 f, .int .i64 s, .int .i64 l]] S = some (.bool (r10 ks a b c d e i t p f s l), S') ∧ Agree S S' := by
  generalize hz : (evL Tryz.prog E0).call 10 _ _ = z
  rw [L_call, evCall_said rfl Tryz.func10 rfl (by decide) Tryz.ntmps10 Tryz.results10] at hz
  obtain ⟨S1, e1, n1, b1, a1⟩ := push_open S (.cells [.int .i64 a, .int .i64 b, .int .i64 c, .int .i64 d, .int .i64 e] 58 0 true true)
  have g1 : Agree S S1 := a1
  have s1 : E0.same S S1 = true := symEnv_same a1
  obtain ⟨S2, e2, n2, b2, a2⟩ := push_open S1 (.cells [.int .i64 i, .int .i64 t, .int .i64 p] 52 0 true true)
  have v1_2 := (a2.2 S.next (by omega)).trans b1
  have g2 : Agree S S2 := g1.trans a2
  have s2 : E0.same S1 S2 = true := symEnv_same a2
  obtain ⟨S3, e3, n3, b3, a3⟩ := push_open S2 (.cells [.int .i64 f, .int .i64 s, .int .i64 l] 45 0 true true)
  have v1_3 := (a3.2 S.next (by omega)).trans v1_2
  have v2_3 := (a3.2 S1.next (by omega)).trans b2
  have g3 : Agree S S3 := g2.trans a3
  have s3 : E0.same S2 S3 = true := symEnv_same a3
  have w4 := (hv_ks.agree g3).len (P := Tryz.prog) (t := 43) Tryz.underlying43
  try simp (disch := first | omega | assumption) only [E0_G, SY, setArgs, off, agreeKind, partVals, vals, allocV, boxed, ldA, rdCells, oneB, aggD, aField, aFieldV, aExtract, eq_self, ne_eq, if_true, if_false, not_false_eq_true, Nat.reduceAdd, Nat.reduceSub, Nat.reduceMul, Nat.reduceLT, Nat.reduceEqDiff, Nat.reduceBEq, reduceIte, Int.reduceEq, Int.reduceLT, Int.reduceLE, reduceCtorEq, TY_EvA6, and_fold, or_fold, not_fold, s1, e1, b1, v1_2, s2, e2, b2, v1_3, v2_3, s3, e3, b3, w4] at hz
  rcases dP (60 < (ks.length : Int)) with ⟨h5a, h5⟩ | ⟨h5a, h5⟩
  · skip
    try simp (disch := first | omega | assumption) only [E0_G, SY, setArgs, off, agreeKind, partVals, vals, allocV, boxed, ldA, rdCells, oneB, aggD, aField, aFieldV, aExtract, eq_self, ne_eq, if_true, if_false, not_false_eq_true, Nat.reduceAdd, Nat.reduceSub, Nat.reduceMul, Nat.reduceLT, Nat.reduceEqDiff, Nat.reduceBEq, reduceIte, Int.reduceEq, Int.reduceLT, Int.reduceLE, reduceCtorEq, TY_EvA6, and_fold, or_fold, not_fold, s1, e1, b1, v1_2, s2, e2, b2, v1_3, v2_3, s3, e3, b3, w4, h5a, c15s] at hz
    have hr : r10 ks a b c d e i t p f s l = true := (if_pos h5).trans (rfl)
    exact fin hz (by rw [hr]) g3
  · skip
    obtain ⟨u6, S6, k6, a6, oo6⟩ := c59 (ks : List K) a b c d e f s l (by first | omega | (simp; omega) | (simp; done) | assumption) S3 (v_ks) (hv_ks.agree g3) (ht.agree g3)
    have l6 := a6.1
    have s6 : E0.same S3 S6 = true := symEnv_same a6
    have v1_6 := (a6.2 S.next (by omega)).trans v1_3
    have v2_6 := (a6.2 S1.next (by omega)).trans v2_3
    have v3_6 := (a6.2 S2.next (by omega)).trans b3
    have g6 : Agree S S6 := g3.trans a6
    have p6 := r59_len (ks : List K) a b c d e f s l
    obtain ⟨u7, S7, k7, a7, oo7⟩ := c60 (ks : List K) a b c d e f s l (by first | omega | (simp; omega) | (simp; done) | assumption) S6 (v_ks) (hv_ks.agree g6) (ht.agree g6)
    have l7 := a7.1
    have s7 : E0.same S6 S7 = true := symEnv_same a7
    have v1_7 := (a7.2 S.next (by omega)).trans v1_6
    have v2_7 := (a7.2 S1.next (by omega)).trans v2_6
    have v3_7 := (a7.2 S2.next (by omega)).trans v3_6
    have o6_8 := oo6.agree a7
    have g7 : Agree S S7 := g6.trans a7
    have p7 := r60_len (ks : List K) a b c d e f s l (by omega)
    obtain ⟨u9, S9, k9, a9, oo9⟩ := c61 i t p a b c d e f s l  S7  (ht.agree g7)
    have l9 := a9.1
    have s9 : E0.same S7 S9 = true := symEnv_same a9
    have v1_9 := (a9.2 S.next (by omega)).trans v1_7
    have v2_9 := (a9.2 S1.next (by omega)).trans v2_7
    have v3_9 := (a9.2 S2.next (by omega)).trans v3_7
    have o6_10 := o6_8.agree a9
    have o7_11 := oo7.agree a9
    have g9 : Agree S S9 := g7.trans a9
    have p9 := r61_len i t p a b c d e f s l
    obtain ⟨u12, S12, k12, a12, oo12⟩ := c62 i t p a b c d e f s l  S9  
    have l12 := a12.1
    have s12 : E0.same S9 S12 = true := symEnv_same a12
    have v1_12 := (a12.2 S.next (by omega)).trans v1_9
    have v2_12 := (a12.2 S1.next (by omega)).trans v2_9
    have v3_12 := (a12.2 S2.next (by omega)).trans v3_9
    have o6_13 := o6_10.agree a12
    have o7_14 := o7_11.agree a12
    have o9_15 := oo9.agree a12
    have g12 : Agree S S12 := g9.trans a12
    try simp (disch := first | omega | assumption) only [E0_G, SY, setArgs, off, agreeKind, partVals, vals, allocV, boxed, ldA, rdCells, oneB, aggD, aField, aFieldV, aExtract, eq_self, ne_eq, if_true, if_false, not_false_eq_true, Nat.reduceAdd, Nat.reduceSub, Nat.reduceMul, Nat.reduceLT, Nat.reduceEqDiff, Nat.reduceBEq, reduceIte, Int.reduceEq, Int.reduceLT, Int.reduceLE, reduceCtorEq, TY_EvA6, and_fold, or_fold, not_fold, s1, e1, b1, v1_2, s2, e2, b2, v1_3, v2_3, s3, e3, b3, w4, h5a, k6, s6, v1_6, v2_6, v3_6, k7, s7, v1_7, v2_7, v3_7, k9, s9, v1_9, v2_9, v3_9, k12, s12, v1_12, v2_12, v3_12] at hz
    rcases dP (((r61 i t p a b c d e f s l).2) = ((r62 i t p a b c d e f s l).2)) with ⟨h16a, h16⟩ | ⟨h16a, h16⟩
    · skip
      obtain ⟨S17, k17, a17⟩ := c22 ((r61 i t p a b c d e f s l).1 : List Ar) ((r62 i t p a b c d e f s l).1 : List Ar) (by first | omega | (simp; omega) | (simp; done) | assumption) S12 (u9) (o9_15.rows) (u12) (oo12.rows) 
      have l17 := a17.1
      have s17 : E0.same S12 S17 = true := symEnv_same a17
      have v1_17 := (a17.2 S.next (by omega)).trans v1_12
      have v2_17 := (a17.2 S1.next (by omega)).trans v2_12
      have v3_17 := (a17.2 S2.next (by omega)).trans v3_12
      have o6_18 := o6_13.agree a17
      have o7_19 := o7_14.agree a17
      have o9_20 := o9_15.agree a17
      have o12_21 := oo12.agree a17
      have g17 : Agree S S17 := g12.trans a17
      try simp (disch := first | omega | assumption) only [E0_G, SY, setArgs, off, agreeKind, partVals, vals, allocV, boxed, ldA, rdCells, oneB, aggD, aField, aFieldV, aExtract, eq_self, ne_eq, if_true, if_false, not_false_eq_true, Nat.reduceAdd, Nat.reduceSub, Nat.reduceMul, Nat.reduceLT, Nat.reduceEqDiff, Nat.reduceBEq, reduceIte, Int.reduceEq, Int.reduceLT, Int.reduceLE, reduceCtorEq, TY_EvA6, and_fold, or_fold, not_fold, s1, e1, b1, v1_2, s2, e2, b2, v1_3, v2_3, s3, e3, b3, w4, h5a, k6, s6, v1_6, v2_6, v3_6, k7, s7, v1_7, v2_7, v3_7, k9, s9, v1_9, v2_9, v3_9, k12, s12, v1_12, v2_12, v3_12, h16a, k17, s17, v1_17, v2_17, v3_17] at hz
      rcases dB ((r22 ((r61 i t p a b c d e f s l).1 : List Ar) ((r62 i t p a b c d e f s l).1 : List Ar))) with ⟨h22a, h22⟩ | ⟨h22a, h22⟩
      · skip
        obtain ⟨S23, k23, a23⟩ := c63 (ks : List K) (by omega) S17 (v_ks) (hv_ks.agree g17)
        have l23 := a23.1
        have s23 : E0.same S17 S23 = true := symEnv_same a23
        have v1_23 := (a23.2 S.next (by omega)).trans v1_17
        have v2_23 := (a23.2 S1.next (by omega)).trans v2_17
        have v3_23 := (a23.2 S2.next (by omega)).trans v3_17
        have o6_24 := o6_18.agree a23
        have o7_25 := o7_19.agree a23
        have o9_26 := o9_20.agree a23
        have o12_27 := o12_21.agree a23
        have g23 : Agree S S23 := g17.trans a23
        try simp (disch := first | omega | assumption) only [E0_G, SY, setArgs, off, agreeKind, partVals, vals, allocV, boxed, ldA, rdCells, oneB, aggD, aField, aFieldV, aExtract, eq_self, ne_eq, if_true, if_false, not_false_eq_true, Nat.reduceAdd, Nat.reduceSub, Nat.reduceMul, Nat.reduceLT, Nat.reduceEqDiff, Nat.reduceBEq, reduceIte, Int.reduceEq, Int.reduceLT, Int.reduceLE, reduceCtorEq, TY_EvA6, and_fold, or_fold, not_fold, s1, e1, b1, v1_2, s2, e2, b2, v1_3, v2_3, s3, e3, b3, w4, h5a, k6, s6, v1_6, v2_6, v3_6, k7, s7, v1_7, v2_7, v3_7, k9, s9, v1_9, v2_9, v3_9, k12, s12, v1_12, v2_12, v3_12, h16a, k17, s17, v1_17, v2_17, v3_17, h22a, k23, s23, v1_23, v2_23, v3_23] at hz
        rcases dB (bunch ks) with ⟨h28a, h28⟩ | ⟨h28a, h28⟩
        · skip
          obtain ⟨S29, k29, a29⟩ := c43 a b c d e S23  
          have l29 := a29.1
          have s29 : E0.same S23 S29 = true := symEnv_same a29
          have v1_29 := (a29.2 S.next (by omega)).trans v1_23
          have v2_29 := (a29.2 S1.next (by omega)).trans v2_23
          have v3_29 := (a29.2 S2.next (by omega)).trans v3_23
          have o6_30 := o6_24.agree a29
          have o7_31 := o7_25.agree a29
          have o9_32 := o9_26.agree a29
          have o12_33 := o12_27.agree a29
          have g29 : Agree S S29 := g23.trans a29
          try simp (disch := first | omega | assumption) only [E0_G, SY, setArgs, off, agreeKind, partVals, vals, allocV, boxed, ldA, rdCells, oneB, aggD, aField, aFieldV, aExtract, eq_self, ne_eq, if_true, if_false, not_false_eq_true, Nat.reduceAdd, Nat.reduceSub, Nat.reduceMul, Nat.reduceLT, Nat.reduceEqDiff, Nat.reduceBEq, reduceIte, Int.reduceEq, Int.reduceLT, Int.reduceLE, reduceCtorEq, TY_EvA6, and_fold, or_fold, not_fold, s1, e1, b1, v1_2, s2, e2, b2, v1_3, v2_3, s3, e3, b3, w4, h5a, k6, s6, v1_6, v2_6, v3_6, k7, s7, v1_7, v2_7, v3_7, k9, s9, v1_9, v2_9, v3_9, k12, s12, v1_12, v2_12, v3_12, h16a, k17, s17, v1_17, v2_17, v3_17, h22a, k23, s23, v1_23, v2_23, v3_23, h28a, k29, s29, v1_29, v2_29, v3_29] at hz
          rcases dP (MarkOk a b c d e) with ⟨h34a, h34⟩ | ⟨h34a, h34⟩
          · skip
            obtain ⟨S35, k35, a35⟩ := c37 f s l S29  
            have l35 := a35.1
            have s35 : E0.same S29 S35 = true := symEnv_same a35
            have v1_35 := (a35.2 S.next (by omega)).trans v1_29
            have v2_35 := (a35.2 S1.next (by omega)).trans v2_29
            have v3_35 := (a35.2 S2.next (by omega)).trans v3_29
            have o6_36 := o6_30.agree a35
            have o7_37 := o7_31.agree a35
            have o9_38 := o9_32.agree a35
            have o12_39 := o12_33.agree a35
            have g35 : Agree S S35 := g29.trans a35
            try simp (disch := first | omega | assumption) only [E0_G, SY, setArgs, off, agreeKind, partVals, vals, allocV, boxed, ldA, rdCells, oneB, aggD, aField, aFieldV, aExtract, eq_self, ne_eq, if_true, if_false, not_false_eq_true, Nat.reduceAdd, Nat.reduceSub, Nat.reduceMul, Nat.reduceLT, Nat.reduceEqDiff, Nat.reduceBEq, reduceIte, Int.reduceEq, Int.reduceLT, Int.reduceLE, reduceCtorEq, TY_EvA6, and_fold, or_fold, not_fold, s1, e1, b1, v1_2, s2, e2, b2, v1_3, v2_3, s3, e3, b3, w4, h5a, k6, s6, v1_6, v2_6, v3_6, k7, s7, v1_7, v2_7, v3_7, k9, s9, v1_9, v2_9, v3_9, k12, s12, v1_12, v2_12, v3_12, h16a, k17, s17, v1_17, v2_17, v3_17, h22a, k23, s23, v1_23, v2_23, v3_23, h28a, k29, s29, v1_29, v2_29, v3_29, h34a, k35, s35, v1_35, v2_35, v3_35] at hz
            rcases dP (InkOk f s l) with ⟨h40a, h40⟩ | ⟨h40a, h40⟩
            · skip
              try simp (disch := first | omega | assumption) only [E0_G, SY, setArgs, off, agreeKind, partVals, vals, allocV, boxed, ldA, rdCells, oneB, aggD, aField, aFieldV, aExtract, eq_self, ne_eq, if_true, if_false, not_false_eq_true, Nat.reduceAdd, Nat.reduceSub, Nat.reduceMul, Nat.reduceLT, Nat.reduceEqDiff, Nat.reduceBEq, reduceIte, Int.reduceEq, Int.reduceLT, Int.reduceLE, reduceCtorEq, TY_EvA6, and_fold, or_fold, not_fold, s1, e1, b1, v1_2, s2, e2, b2, v1_3, v2_3, s3, e3, b3, w4, h5a, k6, s6, v1_6, v2_6, v3_6, k7, s7, v1_7, v2_7, v3_7, k9, s9, v1_9, v2_9, v3_9, k12, s12, v1_12, v2_12, v3_12, h16a, k17, s17, v1_17, v2_17, v3_17, h22a, k23, s23, v1_23, v2_23, v3_23, h28a, k29, s29, v1_29, v2_29, v3_29, h34a, k35, s35, v1_35, v2_35, v3_35, h40a, c15s] at hz
              rcases dP (((r59 (ks : List K) a b c d e f s l).2) = 0) with ⟨h41a, h41⟩ | ⟨h41a, h41⟩
              · skip
                try simp (disch := first | omega | assumption) only [E0_G, SY, setArgs, off, agreeKind, partVals, vals, allocV, boxed, ldA, rdCells, oneB, aggD, aField, aFieldV, aExtract, eq_self, ne_eq, if_true, if_false, not_false_eq_true, Nat.reduceAdd, Nat.reduceSub, Nat.reduceMul, Nat.reduceLT, Nat.reduceEqDiff, Nat.reduceBEq, reduceIte, Int.reduceEq, Int.reduceLT, Int.reduceLE, reduceCtorEq, TY_EvA6, and_fold, or_fold, not_fold, s1, e1, b1, v1_2, s2, e2, b2, v1_3, v2_3, s3, e3, b3, w4, h5a, k6, s6, v1_6, v2_6, v3_6, k7, s7, v1_7, v2_7, v3_7, k9, s9, v1_9, v2_9, v3_9, k12, s12, v1_12, v2_12, v3_12, h16a, k17, s17, v1_17, v2_17, v3_17, h22a, k23, s23, v1_23, v2_23, v3_23, h28a, k29, s29, v1_29, v2_29, v3_29, h34a, k35, s35, v1_35, v2_35, v3_35, h40a, c15s, h41a] at hz
                rcases dP (((r60 (ks : List K) a b c d e f s l).2) = 0) with ⟨h42a, h42⟩ | ⟨h42a, h42⟩
                · skip
                  obtain ⟨u43, S43, k43, a43, oo43⟩ := c65 (ks : List K) a b c d e f s l (by first | omega | (simp; omega) | (simp; done) | assumption) S35 (v_ks) (hv_ks.agree g35) 
                  have l43 := a43.1
                  have s43 : E0.same S35 S43 = true := symEnv_same a43
                  have v1_43 := (a43.2 S.next (by omega)).trans v1_35
                  have v2_43 := (a43.2 S1.next (by omega)).trans v2_35
                  have v3_43 := (a43.2 S2.next (by omega)).trans v3_35
                  have o6_44 := o6_36.agree a43
                  have o7_45 := o7_37.agree a43
                  have o9_46 := o9_38.agree a43
                  have o12_47 := o12_39.agree a43
                  have g43 : Agree S S43 := g35.trans a43
                  obtain ⟨S48, k48, a48⟩ := c64 ((r59 (ks : List K) a b c d e f s l).1 : List Int) ((r65 (ks : List K) a b c d e f s l) : List Int) (by first | omega | (simp; omega) | (simp; done) | assumption) S43 (u6) (o6_44.rows) (u43) (oo43.rows) 
                  have l48 := a48.1
                  have s48 : E0.same S43 S48 = true := symEnv_same a48
                  have v1_48 := (a48.2 S.next (by omega)).trans v1_43
                  have v2_48 := (a48.2 S1.next (by omega)).trans v2_43
                  have v3_48 := (a48.2 S2.next (by omega)).trans v3_43
                  have o6_49 := o6_44.agree a48
                  have o7_50 := o7_45.agree a48
                  have o9_51 := o9_46.agree a48
                  have o12_52 := o12_47.agree a48
                  have o43_53 := oo43.agree a48
                  have g48 : Agree S S48 := g43.trans a48
                  try simp (disch := first | omega | assumption) only [E0_G, SY, setArgs, off, agreeKind, partVals, vals, allocV, boxed, ldA, rdCells, oneB, aggD, aField, aFieldV, aExtract, eq_self, ne_eq, if_true, if_false, not_false_eq_true, Nat.reduceAdd, Nat.reduceSub, Nat.reduceMul, Nat.reduceLT, Nat.reduceEqDiff, Nat.reduceBEq, reduceIte, Int.reduceEq, Int.reduceLT, Int.reduceLE, reduceCtorEq, TY_EvA6, and_fold, or_fold, not_fold, s1, e1, b1, v1_2, s2, e2, b2, v1_3, v2_3, s3, e3, b3, w4, h5a, k6, s6, v1_6, v2_6, v3_6, k7, s7, v1_7, v2_7, v3_7, k9, s9, v1_9, v2_9, v3_9, k12, s12, v1_12, v2_12, v3_12, h16a, k17, s17, v1_17, v2_17, v3_17, h22a, k23, s23, v1_23, v2_23, v3_23, h28a, k29, s29, v1_29, v2_29, v3_29, h34a, k35, s35, v1_35, v2_35, v3_35, h40a, c15s, h41a, h42a, k43, s43, v1_43, v2_43, v3_43, k48, s48, v1_48, v2_48, v3_48] at hz
                  rcases dB ((r64 ((r59 (ks : List K) a b c d e f s l).1 : List Int) ((r65 (ks : List K) a b c d e f s l) : List Int))) with ⟨h54a, h54⟩ | ⟨h54a, h54⟩
                  · skip
                    obtain ⟨u55, S55, k55, a55, oo55⟩ := c67 (ks : List K) a b c d e f s l (by first | omega | (simp; omega) | (simp; done) | assumption) S48 (v_ks) (hv_ks.agree g48) 
                    have l55 := a55.1
                    have s55 : E0.same S48 S55 = true := symEnv_same a55
                    have v1_55 := (a55.2 S.next (by omega)).trans v1_48
                    have v2_55 := (a55.2 S1.next (by omega)).trans v2_48
                    have v3_55 := (a55.2 S2.next (by omega)).trans v3_48
                    have o6_56 := o6_49.agree a55
                    have o7_57 := o7_50.agree a55
                    have o9_58 := o9_51.agree a55
                    have o12_59 := o12_52.agree a55
                    have o43_60 := o43_53.agree a55
                    have g55 : Agree S S55 := g48.trans a55
                    obtain ⟨S61, k61, a61⟩ := c66 ((r60 (ks : List K) a b c d e f s l).1 : List (Int × Int)) ((r67 (ks : List K) a b c d e f s l) : List (Int × Int)) (by first | omega | (simp; omega) | (simp; done) | assumption) S55 (u7) (o7_57.rows) (u55) (oo55.rows) 
                    have l61 := a61.1
                    have s61 : E0.same S55 S61 = true := symEnv_same a61
                    have v1_61 := (a61.2 S.next (by omega)).trans v1_55
                    have v2_61 := (a61.2 S1.next (by omega)).trans v2_55
                    have v3_61 := (a61.2 S2.next (by omega)).trans v3_55
                    have o6_62 := o6_56.agree a61
                    have o7_63 := o7_57.agree a61
                    have o9_64 := o9_58.agree a61
                    have o12_65 := o12_59.agree a61
                    have o43_66 := o43_60.agree a61
                    have o55_67 := oo55.agree a61
                    have g61 : Agree S S61 := g55.trans a61
                    try simp (disch := first | omega | assumption) only [E0_G, SY, setArgs, off, agreeKind, partVals, vals, allocV, boxed, ldA, rdCells, oneB, aggD, aField, aFieldV, aExtract, eq_self, ne_eq, if_true, if_false, not_false_eq_true, Nat.reduceAdd, Nat.reduceSub, Nat.reduceMul, Nat.reduceLT, Nat.reduceEqDiff, Nat.reduceBEq, reduceIte, Int.reduceEq, Int.reduceLT, Int.reduceLE, reduceCtorEq, TY_EvA6, and_fold, or_fold, not_fold, s1, e1, b1, v1_2, s2, e2, b2, v1_3, v2_3, s3, e3, b3, w4, h5a, k6, s6, v1_6, v2_6, v3_6, k7, s7, v1_7, v2_7, v3_7, k9, s9, v1_9, v2_9, v3_9, k12, s12, v1_12, v2_12, v3_12, h16a, k17, s17, v1_17, v2_17, v3_17, h22a, k23, s23, v1_23, v2_23, v3_23, h28a, k29, s29, v1_29, v2_29, v3_29, h34a, k35, s35, v1_35, v2_35, v3_35, h40a, c15s, h41a, h42a, k43, s43, v1_43, v2_43, v3_43, k48, s48, v1_48, v2_48, v3_48, h54a, k55, s55, v1_55, v2_55, v3_55, k61, s61, v1_61, v2_61, v3_61] at hz
                    have hr : r10 ks a b c d e i t p f s l = (r66 ((r60 (ks : List K) a b c d e f s l).1 : List (Int × Int)) ((r67 (ks : List K) a b c d e f s l) : List (Int × Int))) := (if_neg h5).trans ((if_pos h16).trans ((if_pos h22).trans ((if_pos h28).trans ((if_pos h34).trans ((if_pos h40).trans ((if_pos h41).trans ((if_pos h42).trans ((if_pos h54).trans (rfl)))))))))
                    exact fin hz (by rw [hr]) g61
                  · skip
                    try simp (disch := first | omega | assumption) only [E0_G, SY, setArgs, off, agreeKind, partVals, vals, allocV, boxed, ldA, rdCells, oneB, aggD, aField, aFieldV, aExtract, eq_self, ne_eq, if_true, if_false, not_false_eq_true, Nat.reduceAdd, Nat.reduceSub, Nat.reduceMul, Nat.reduceLT, Nat.reduceEqDiff, Nat.reduceBEq, reduceIte, Int.reduceEq, Int.reduceLT, Int.reduceLE, reduceCtorEq, TY_EvA6, and_fold, or_fold, not_fold, s1, e1, b1, v1_2, s2, e2, b2, v1_3, v2_3, s3, e3, b3, w4, h5a, k6, s6, v1_6, v2_6, v3_6, k7, s7, v1_7, v2_7, v3_7, k9, s9, v1_9, v2_9, v3_9, k12, s12, v1_12, v2_12, v3_12, h16a, k17, s17, v1_17, v2_17, v3_17, h22a, k23, s23, v1_23, v2_23, v3_23, h28a, k29, s29, v1_29, v2_29, v3_29, h34a, k35, s35, v1_35, v2_35, v3_35, h40a, c15s, h41a, h42a, k43, s43, v1_43, v2_43, v3_43, k48, s48, v1_48, v2_48, v3_48, h54a] at hz
                    have hr : r10 ks a b c d e i t p f s l = false := (if_neg h5).trans ((if_pos h16).trans ((if_pos h22).trans ((if_pos h28).trans ((if_pos h34).trans ((if_pos h40).trans ((if_pos h41).trans ((if_pos h42).trans ((if_neg h54).trans (rfl)))))))))
                    exact fin hz (by rw [hr]) g48
                · skip
                  try simp (disch := first | omega | assumption) only [E0_G, SY, setArgs, off, agreeKind, partVals, vals, allocV, boxed, ldA, rdCells, oneB, aggD, aField, aFieldV, aExtract, eq_self, ne_eq, if_true, if_false, not_false_eq_true, Nat.reduceAdd, Nat.reduceSub, Nat.reduceMul, Nat.reduceLT, Nat.reduceEqDiff, Nat.reduceBEq, reduceIte, Int.reduceEq, Int.reduceLT, Int.reduceLE, reduceCtorEq, TY_EvA6, and_fold, or_fold, not_fold, s1, e1, b1, v1_2, s2, e2, b2, v1_3, v2_3, s3, e3, b3, w4, h5a, k6, s6, v1_6, v2_6, v3_6, k7, s7, v1_7, v2_7, v3_7, k9, s9, v1_9, v2_9, v3_9, k12, s12, v1_12, v2_12, v3_12, h16a, k17, s17, v1_17, v2_17, v3_17, h22a, k23, s23, v1_23, v2_23, v3_23, h28a, k29, s29, v1_29, v2_29, v3_29, h34a, k35, s35, v1_35, v2_35, v3_35, h40a, c15s, h41a, h42a] at hz
                  have hr : r10 ks a b c d e i t p f s l = false := (if_neg h5).trans ((if_pos h16).trans ((if_pos h22).trans ((if_pos h28).trans ((if_pos h34).trans ((if_pos h40).trans ((if_pos h41).trans ((if_neg h42).trans (rfl))))))))
                  exact fin hz (by rw [hr]) g35
              · skip
                try simp (disch := first | omega | assumption) only [E0_G, SY, setArgs, off, agreeKind, partVals, vals, allocV, boxed, ldA, rdCells, oneB, aggD, aField, aFieldV, aExtract, eq_self, ne_eq, if_true, if_false, not_false_eq_true, Nat.reduceAdd, Nat.reduceSub, Nat.reduceMul, Nat.reduceLT, Nat.reduceEqDiff, Nat.reduceBEq, reduceIte, Int.reduceEq, Int.reduceLT, Int.reduceLE, reduceCtorEq, TY_EvA6, and_fold, or_fold, not_fold, s1, e1, b1, v1_2, s2, e2, b2, v1_3, v2_3, s3, e3, b3, w4, h5a, k6, s6, v1_6, v2_6, v3_6, k7, s7, v1_7, v2_7, v3_7, k9, s9, v1_9, v2_9, v3_9, k12, s12, v1_12, v2_12, v3_12, h16a, k17, s17, v1_17, v2_17, v3_17, h22a, k23, s23, v1_23, v2_23, v3_23, h28a, k29, s29, v1_29, v2_29, v3_29, h34a, k35, s35, v1_35, v2_35, v3_35, h40a, c15s, h41a] at hz
                have hr : r10 ks a b c d e i t p f s l = false := (if_neg h5).trans ((if_pos h16).trans ((if_pos h22).trans ((if_pos h28).trans ((if_pos h34).trans ((if_pos h40).trans ((if_neg h41).trans (rfl)))))))
                exact fin hz (by rw [hr]) g35
            · skip
              try simp (disch := first | omega | assumption) only [E0_G, SY, setArgs, off, agreeKind, partVals, vals, allocV, boxed, ldA, rdCells, oneB, aggD, aField, aFieldV, aExtract, eq_self, ne_eq, if_true, if_false, not_false_eq_true, Nat.reduceAdd, Nat.reduceSub, Nat.reduceMul, Nat.reduceLT, Nat.reduceEqDiff, Nat.reduceBEq, reduceIte, Int.reduceEq, Int.reduceLT, Int.reduceLE, reduceCtorEq, TY_EvA6, and_fold, or_fold, not_fold, s1, e1, b1, v1_2, s2, e2, b2, v1_3, v2_3, s3, e3, b3, w4, h5a, k6, s6, v1_6, v2_6, v3_6, k7, s7, v1_7, v2_7, v3_7, k9, s9, v1_9, v2_9, v3_9, k12, s12, v1_12, v2_12, v3_12, h16a, k17, s17, v1_17, v2_17, v3_17, h22a, k23, s23, v1_23, v2_23, v3_23, h28a, k29, s29, v1_29, v2_29, v3_29, h34a, k35, s35, v1_35, v2_35, v3_35, h40a, c15s] at hz
              rcases dP (((r59 (ks : List K) a b c d e f s l).2) = 1) with ⟨h68a, h68⟩ | ⟨h68a, h68⟩
              · skip
                try simp (disch := first | omega | assumption) only [E0_G, SY, setArgs, off, agreeKind, partVals, vals, allocV, boxed, ldA, rdCells, oneB, aggD, aField, aFieldV, aExtract, eq_self, ne_eq, if_true, if_false, not_false_eq_true, Nat.reduceAdd, Nat.reduceSub, Nat.reduceMul, Nat.reduceLT, Nat.reduceEqDiff, Nat.reduceBEq, reduceIte, Int.reduceEq, Int.reduceLT, Int.reduceLE, reduceCtorEq, TY_EvA6, and_fold, or_fold, not_fold, s1, e1, b1, v1_2, s2, e2, b2, v1_3, v2_3, s3, e3, b3, w4, h5a, k6, s6, v1_6, v2_6, v3_6, k7, s7, v1_7, v2_7, v3_7, k9, s9, v1_9, v2_9, v3_9, k12, s12, v1_12, v2_12, v3_12, h16a, k17, s17, v1_17, v2_17, v3_17, h22a, k23, s23, v1_23, v2_23, v3_23, h28a, k29, s29, v1_29, v2_29, v3_29, h34a, k35, s35, v1_35, v2_35, v3_35, h40a, c15s, h68a] at hz
                rcases dP (((r60 (ks : List K) a b c d e f s l).2) = 1) with ⟨h69a, h69⟩ | ⟨h69a, h69⟩
                · skip
                  have w70 := (o6_36.rows).len (P := Tryz.prog) (t := 77) Tryz.underlying77
                  have w71 := (o7_37.rows).len (P := Tryz.prog) (t := 80) Tryz.underlying80
                  have w72 : IntKind.i64.wrap ((((r59 (ks : List K) a b c d e f s l).1).length : Int) + (((r60 (ks : List K) a b c d e f s l).1).length : Int)) = ((((r59 (ks : List K) a b c d e f s l).1).length + ((r60 (ks : List K) a b c d e f s l).1).length : Nat) : Int) := by rw [IntWalk.i64_in] <;> omega
                  try simp (disch := first | omega | assumption) only [E0_G, SY, setArgs, off, agreeKind, partVals, vals, allocV, boxed, ldA, rdCells, oneB, aggD, aField, aFieldV, aExtract, eq_self, ne_eq, if_true, if_false, not_false_eq_true, Nat.reduceAdd, Nat.reduceSub, Nat.reduceMul, Nat.reduceLT, Nat.reduceEqDiff, Nat.reduceBEq, reduceIte, Int.reduceEq, Int.reduceLT, Int.reduceLE, reduceCtorEq, TY_EvA6, and_fold, or_fold, not_fold, s1, e1, b1, v1_2, s2, e2, b2, v1_3, v2_3, s3, e3, b3, w4, h5a, k6, s6, v1_6, v2_6, v3_6, k7, s7, v1_7, v2_7, v3_7, k9, s9, v1_9, v2_9, v3_9, k12, s12, v1_12, v2_12, v3_12, h16a, k17, s17, v1_17, v2_17, v3_17, h22a, k23, s23, v1_23, v2_23, v3_23, h28a, k29, s29, v1_29, v2_29, v3_29, h34a, k35, s35, v1_35, v2_35, v3_35, h40a, c15s, h68a, h69a, w70, w71, w72] at hz
                  have hr : r10 ks a b c d e i t p f s l = decide (((((r59 (ks : List K) a b c d e f s l).1).length + ((r60 (ks : List K) a b c d e f s l).1).length : Nat) : Int) = 0) := (if_neg h5).trans ((if_pos h16).trans ((if_pos h22).trans ((if_pos h28).trans ((if_pos h34).trans ((if_neg h40).trans ((if_pos h68).trans ((if_pos h69).trans (rfl))))))))
                  exact fin hz (by rw [hr]) g35
                · skip
                  try simp (disch := first | omega | assumption) only [E0_G, SY, setArgs, off, agreeKind, partVals, vals, allocV, boxed, ldA, rdCells, oneB, aggD, aField, aFieldV, aExtract, eq_self, ne_eq, if_true, if_false, not_false_eq_true, Nat.reduceAdd, Nat.reduceSub, Nat.reduceMul, Nat.reduceLT, Nat.reduceEqDiff, Nat.reduceBEq, reduceIte, Int.reduceEq, Int.reduceLT, Int.reduceLE, reduceCtorEq, TY_EvA6, and_fold, or_fold, not_fold, s1, e1, b1, v1_2, s2, e2, b2, v1_3, v2_3, s3, e3, b3, w4, h5a, k6, s6, v1_6, v2_6, v3_6, k7, s7, v1_7, v2_7, v3_7, k9, s9, v1_9, v2_9, v3_9, k12, s12, v1_12, v2_12, v3_12, h16a, k17, s17, v1_17, v2_17, v3_17, h22a, k23, s23, v1_23, v2_23, v3_23, h28a, k29, s29, v1_29, v2_29, v3_29, h34a, k35, s35, v1_35, v2_35, v3_35, h40a, c15s, h68a, h69a] at hz
                  have hr : r10 ks a b c d e i t p f s l = false := (if_neg h5).trans ((if_pos h16).trans ((if_pos h22).trans ((if_pos h28).trans ((if_pos h34).trans ((if_neg h40).trans ((if_pos h68).trans ((if_neg h69).trans (rfl))))))))
                  exact fin hz (by rw [hr]) g35
              · skip
                try simp (disch := first | omega | assumption) only [E0_G, SY, setArgs, off, agreeKind, partVals, vals, allocV, boxed, ldA, rdCells, oneB, aggD, aField, aFieldV, aExtract, eq_self, ne_eq, if_true, if_false, not_false_eq_true, Nat.reduceAdd, Nat.reduceSub, Nat.reduceMul, Nat.reduceLT, Nat.reduceEqDiff, Nat.reduceBEq, reduceIte, Int.reduceEq, Int.reduceLT, Int.reduceLE, reduceCtorEq, TY_EvA6, and_fold, or_fold, not_fold, s1, e1, b1, v1_2, s2, e2, b2, v1_3, v2_3, s3, e3, b3, w4, h5a, k6, s6, v1_6, v2_6, v3_6, k7, s7, v1_7, v2_7, v3_7, k9, s9, v1_9, v2_9, v3_9, k12, s12, v1_12, v2_12, v3_12, h16a, k17, s17, v1_17, v2_17, v3_17, h22a, k23, s23, v1_23, v2_23, v3_23, h28a, k29, s29, v1_29, v2_29, v3_29, h34a, k35, s35, v1_35, v2_35, v3_35, h40a, c15s, h68a] at hz
                have hr : r10 ks a b c d e i t p f s l = false := (if_neg h5).trans ((if_pos h16).trans ((if_pos h22).trans ((if_pos h28).trans ((if_pos h34).trans ((if_neg h40).trans ((if_neg h68).trans (rfl)))))))
                exact fin hz (by rw [hr]) g35
          · skip
            try simp (disch := first | omega | assumption) only [E0_G, SY, setArgs, off, agreeKind, partVals, vals, allocV, boxed, ldA, rdCells, oneB, aggD, aField, aFieldV, aExtract, eq_self, ne_eq, if_true, if_false, not_false_eq_true, Nat.reduceAdd, Nat.reduceSub, Nat.reduceMul, Nat.reduceLT, Nat.reduceEqDiff, Nat.reduceBEq, reduceIte, Int.reduceEq, Int.reduceLT, Int.reduceLE, reduceCtorEq, TY_EvA6, and_fold, or_fold, not_fold, s1, e1, b1, v1_2, s2, e2, b2, v1_3, v2_3, s3, e3, b3, w4, h5a, k6, s6, v1_6, v2_6, v3_6, k7, s7, v1_7, v2_7, v3_7, k9, s9, v1_9, v2_9, v3_9, k12, s12, v1_12, v2_12, v3_12, h16a, k17, s17, v1_17, v2_17, v3_17, h22a, k23, s23, v1_23, v2_23, v3_23, h28a, k29, s29, v1_29, v2_29, v3_29, h34a, c15s] at hz
            rcases dP (((r59 (ks : List K) a b c d e f s l).2) = 1) with ⟨h73a, h73⟩ | ⟨h73a, h73⟩
            · skip
              try simp (disch := first | omega | assumption) only [E0_G, SY, setArgs, off, agreeKind, partVals, vals, allocV, boxed, ldA, rdCells, oneB, aggD, aField, aFieldV, aExtract, eq_self, ne_eq, if_true, if_false, not_false_eq_true, Nat.reduceAdd, Nat.reduceSub, Nat.reduceMul, Nat.reduceLT, Nat.reduceEqDiff, Nat.reduceBEq, reduceIte, Int.reduceEq, Int.reduceLT, Int.reduceLE, reduceCtorEq, TY_EvA6, and_fold, or_fold, not_fold, s1, e1, b1, v1_2, s2, e2, b2, v1_3, v2_3, s3, e3, b3, w4, h5a, k6, s6, v1_6, v2_6, v3_6, k7, s7, v1_7, v2_7, v3_7, k9, s9, v1_9, v2_9, v3_9, k12, s12, v1_12, v2_12, v3_12, h16a, k17, s17, v1_17, v2_17, v3_17, h22a, k23, s23, v1_23, v2_23, v3_23, h28a, k29, s29, v1_29, v2_29, v3_29, h34a, c15s, h73a] at hz
              rcases dP (((r60 (ks : List K) a b c d e f s l).2) = 1) with ⟨h74a, h74⟩ | ⟨h74a, h74⟩
              · skip
                have w75 := (o6_30.rows).len (P := Tryz.prog) (t := 77) Tryz.underlying77
                have w76 := (o7_31.rows).len (P := Tryz.prog) (t := 80) Tryz.underlying80
                have w77 : IntKind.i64.wrap ((((r59 (ks : List K) a b c d e f s l).1).length : Int) + (((r60 (ks : List K) a b c d e f s l).1).length : Int)) = ((((r59 (ks : List K) a b c d e f s l).1).length + ((r60 (ks : List K) a b c d e f s l).1).length : Nat) : Int) := by rw [IntWalk.i64_in] <;> omega
                try simp (disch := first | omega | assumption) only [E0_G, SY, setArgs, off, agreeKind, partVals, vals, allocV, boxed, ldA, rdCells, oneB, aggD, aField, aFieldV, aExtract, eq_self, ne_eq, if_true, if_false, not_false_eq_true, Nat.reduceAdd, Nat.reduceSub, Nat.reduceMul, Nat.reduceLT, Nat.reduceEqDiff, Nat.reduceBEq, reduceIte, Int.reduceEq, Int.reduceLT, Int.reduceLE, reduceCtorEq, TY_EvA6, and_fold, or_fold, not_fold, s1, e1, b1, v1_2, s2, e2, b2, v1_3, v2_3, s3, e3, b3, w4, h5a, k6, s6, v1_6, v2_6, v3_6, k7, s7, v1_7, v2_7, v3_7, k9, s9, v1_9, v2_9, v3_9, k12, s12, v1_12, v2_12, v3_12, h16a, k17, s17, v1_17, v2_17, v3_17, h22a, k23, s23, v1_23, v2_23, v3_23, h28a, k29, s29, v1_29, v2_29, v3_29, h34a, c15s, h73a, h74a, w75, w76, w77] at hz
                have hr : r10 ks a b c d e i t p f s l = decide (((((r59 (ks : List K) a b c d e f s l).1).length + ((r60 (ks : List K) a b c d e f s l).1).length : Nat) : Int) = 0) := (if_neg h5).trans ((if_pos h16).trans ((if_pos h22).trans ((if_pos h28).trans ((if_neg h34).trans ((if_pos h73).trans ((if_pos h74).trans (rfl)))))))
                exact fin hz (by rw [hr]) g29
              · skip
                try simp (disch := first | omega | assumption) only [E0_G, SY, setArgs, off, agreeKind, partVals, vals, allocV, boxed, ldA, rdCells, oneB, aggD, aField, aFieldV, aExtract, eq_self, ne_eq, if_true, if_false, not_false_eq_true, Nat.reduceAdd, Nat.reduceSub, Nat.reduceMul, Nat.reduceLT, Nat.reduceEqDiff, Nat.reduceBEq, reduceIte, Int.reduceEq, Int.reduceLT, Int.reduceLE, reduceCtorEq, TY_EvA6, and_fold, or_fold, not_fold, s1, e1, b1, v1_2, s2, e2, b2, v1_3, v2_3, s3, e3, b3, w4, h5a, k6, s6, v1_6, v2_6, v3_6, k7, s7, v1_7, v2_7, v3_7, k9, s9, v1_9, v2_9, v3_9, k12, s12, v1_12, v2_12, v3_12, h16a, k17, s17, v1_17, v2_17, v3_17, h22a, k23, s23, v1_23, v2_23, v3_23, h28a, k29, s29, v1_29, v2_29, v3_29, h34a, c15s, h73a, h74a] at hz
                have hr : r10 ks a b c d e i t p f s l = false := (if_neg h5).trans ((if_pos h16).trans ((if_pos h22).trans ((if_pos h28).trans ((if_neg h34).trans ((if_pos h73).trans ((if_neg h74).trans (rfl)))))))
                exact fin hz (by rw [hr]) g29
            · skip
              try simp (disch := first | omega | assumption) only [E0_G, SY, setArgs, off, agreeKind, partVals, vals, allocV, boxed, ldA, rdCells, oneB, aggD, aField, aFieldV, aExtract, eq_self, ne_eq, if_true, if_false, not_false_eq_true, Nat.reduceAdd, Nat.reduceSub, Nat.reduceMul, Nat.reduceLT, Nat.reduceEqDiff, Nat.reduceBEq, reduceIte, Int.reduceEq, Int.reduceLT, Int.reduceLE, reduceCtorEq, TY_EvA6, and_fold, or_fold, not_fold, s1, e1, b1, v1_2, s2, e2, b2, v1_3, v2_3, s3, e3, b3, w4, h5a, k6, s6, v1_6, v2_6, v3_6, k7, s7, v1_7, v2_7, v3_7, k9, s9, v1_9, v2_9, v3_9, k12, s12, v1_12, v2_12, v3_12, h16a, k17, s17, v1_17, v2_17, v3_17, h22a, k23, s23, v1_23, v2_23, v3_23, h28a, k29, s29, v1_29, v2_29, v3_29, h34a, c15s, h73a] at hz
              have hr : r10 ks a b c d e i t p f s l = false := (if_neg h5).trans ((if_pos h16).trans ((if_pos h22).trans ((if_pos h28).trans ((if_neg h34).trans ((if_neg h73).trans (rfl))))))
              exact fin hz (by rw [hr]) g29
        · skip
          try simp (disch := first | omega | assumption) only [E0_G, SY, setArgs, off, agreeKind, partVals, vals, allocV, boxed, ldA, rdCells, oneB, aggD, aField, aFieldV, aExtract, eq_self, ne_eq, if_true, if_false, not_false_eq_true, Nat.reduceAdd, Nat.reduceSub, Nat.reduceMul, Nat.reduceLT, Nat.reduceEqDiff, Nat.reduceBEq, reduceIte, Int.reduceEq, Int.reduceLT, Int.reduceLE, reduceCtorEq, TY_EvA6, and_fold, or_fold, not_fold, s1, e1, b1, v1_2, s2, e2, b2, v1_3, v2_3, s3, e3, b3, w4, h5a, k6, s6, v1_6, v2_6, v3_6, k7, s7, v1_7, v2_7, v3_7, k9, s9, v1_9, v2_9, v3_9, k12, s12, v1_12, v2_12, v3_12, h16a, k17, s17, v1_17, v2_17, v3_17, h22a, k23, s23, v1_23, v2_23, v3_23, h28a, c15s] at hz
          rcases dP (((r59 (ks : List K) a b c d e f s l).2) = 1) with ⟨h78a, h78⟩ | ⟨h78a, h78⟩
          · skip
            try simp (disch := first | omega | assumption) only [E0_G, SY, setArgs, off, agreeKind, partVals, vals, allocV, boxed, ldA, rdCells, oneB, aggD, aField, aFieldV, aExtract, eq_self, ne_eq, if_true, if_false, not_false_eq_true, Nat.reduceAdd, Nat.reduceSub, Nat.reduceMul, Nat.reduceLT, Nat.reduceEqDiff, Nat.reduceBEq, reduceIte, Int.reduceEq, Int.reduceLT, Int.reduceLE, reduceCtorEq, TY_EvA6, and_fold, or_fold, not_fold, s1, e1, b1, v1_2, s2, e2, b2, v1_3, v2_3, s3, e3, b3, w4, h5a, k6, s6, v1_6, v2_6, v3_6, k7, s7, v1_7, v2_7, v3_7, k9, s9, v1_9, v2_9, v3_9, k12, s12, v1_12, v2_12, v3_12, h16a, k17, s17, v1_17, v2_17, v3_17, h22a, k23, s23, v1_23, v2_23, v3_23, h28a, c15s, h78a] at hz
            rcases dP (((r60 (ks : List K) a b c d e f s l).2) = 1) with ⟨h79a, h79⟩ | ⟨h79a, h79⟩
            · skip
              have w80 := (o6_24.rows).len (P := Tryz.prog) (t := 77) Tryz.underlying77
              have w81 := (o7_25.rows).len (P := Tryz.prog) (t := 80) Tryz.underlying80
              have w82 : IntKind.i64.wrap ((((r59 (ks : List K) a b c d e f s l).1).length : Int) + (((r60 (ks : List K) a b c d e f s l).1).length : Int)) = ((((r59 (ks : List K) a b c d e f s l).1).length + ((r60 (ks : List K) a b c d e f s l).1).length : Nat) : Int) := by rw [IntWalk.i64_in] <;> omega
              try simp (disch := first | omega | assumption) only [E0_G, SY, setArgs, off, agreeKind, partVals, vals, allocV, boxed, ldA, rdCells, oneB, aggD, aField, aFieldV, aExtract, eq_self, ne_eq, if_true, if_false, not_false_eq_true, Nat.reduceAdd, Nat.reduceSub, Nat.reduceMul, Nat.reduceLT, Nat.reduceEqDiff, Nat.reduceBEq, reduceIte, Int.reduceEq, Int.reduceLT, Int.reduceLE, reduceCtorEq, TY_EvA6, and_fold, or_fold, not_fold, s1, e1, b1, v1_2, s2, e2, b2, v1_3, v2_3, s3, e3, b3, w4, h5a, k6, s6, v1_6, v2_6, v3_6, k7, s7, v1_7, v2_7, v3_7, k9, s9, v1_9, v2_9, v3_9, k12, s12, v1_12, v2_12, v3_12, h16a, k17, s17, v1_17, v2_17, v3_17, h22a, k23, s23, v1_23, v2_23, v3_23, h28a, c15s, h78a, h79a, w80, w81, w82] at hz
              have hr : r10 ks a b c d e i t p f s l = decide (((((r59 (ks : List K) a b c d e f s l).1).length + ((r60 (ks : List K) a b c d e f s l).1).length : Nat) : Int) = 0) := (if_neg h5).trans ((if_pos h16).trans ((if_pos h22).trans ((if_neg h28).trans ((if_pos h78).trans ((if_pos h79).trans (rfl))))))
              exact fin hz (by rw [hr]) g23
            · skip
              try simp (disch := first | omega | assumption) only [E0_G, SY, setArgs, off, agreeKind, partVals, vals, allocV, boxed, ldA, rdCells, oneB, aggD, aField, aFieldV, aExtract, eq_self, ne_eq, if_true, if_false, not_false_eq_true, Nat.reduceAdd, Nat.reduceSub, Nat.reduceMul, Nat.reduceLT, Nat.reduceEqDiff, Nat.reduceBEq, reduceIte, Int.reduceEq, Int.reduceLT, Int.reduceLE, reduceCtorEq, TY_EvA6, and_fold, or_fold, not_fold, s1, e1, b1, v1_2, s2, e2, b2, v1_3, v2_3, s3, e3, b3, w4, h5a, k6, s6, v1_6, v2_6, v3_6, k7, s7, v1_7, v2_7, v3_7, k9, s9, v1_9, v2_9, v3_9, k12, s12, v1_12, v2_12, v3_12, h16a, k17, s17, v1_17, v2_17, v3_17, h22a, k23, s23, v1_23, v2_23, v3_23, h28a, c15s, h78a, h79a] at hz
              have hr : r10 ks a b c d e i t p f s l = false := (if_neg h5).trans ((if_pos h16).trans ((if_pos h22).trans ((if_neg h28).trans ((if_pos h78).trans ((if_neg h79).trans (rfl))))))
              exact fin hz (by rw [hr]) g23
          · skip
            try simp (disch := first | omega | assumption) only [E0_G, SY, setArgs, off, agreeKind, partVals, vals, allocV, boxed, ldA, rdCells, oneB, aggD, aField, aFieldV, aExtract, eq_self, ne_eq, if_true, if_false, not_false_eq_true, Nat.reduceAdd, Nat.reduceSub, Nat.reduceMul, Nat.reduceLT, Nat.reduceEqDiff, Nat.reduceBEq, reduceIte, Int.reduceEq, Int.reduceLT, Int.reduceLE, reduceCtorEq, TY_EvA6, and_fold, or_fold, not_fold, s1, e1, b1, v1_2, s2, e2, b2, v1_3, v2_3, s3, e3, b3, w4, h5a, k6, s6, v1_6, v2_6, v3_6, k7, s7, v1_7, v2_7, v3_7, k9, s9, v1_9, v2_9, v3_9, k12, s12, v1_12, v2_12, v3_12, h16a, k17, s17, v1_17, v2_17, v3_17, h22a, k23, s23, v1_23, v2_23, v3_23, h28a, c15s, h78a] at hz
            have hr : r10 ks a b c d e i t p f s l = false := (if_neg h5).trans ((if_pos h16).trans ((if_pos h22).trans ((if_neg h28).trans ((if_neg h78).trans (rfl)))))
            exact fin hz (by rw [hr]) g23
      · skip
        try simp (disch := first | omega | assumption) only [E0_G, SY, setArgs, off, agreeKind, partVals, vals, allocV, boxed, ldA, rdCells, oneB, aggD, aField, aFieldV, aExtract, eq_self, ne_eq, if_true, if_false, not_false_eq_true, Nat.reduceAdd, Nat.reduceSub, Nat.reduceMul, Nat.reduceLT, Nat.reduceEqDiff, Nat.reduceBEq, reduceIte, Int.reduceEq, Int.reduceLT, Int.reduceLE, reduceCtorEq, TY_EvA6, and_fold, or_fold, not_fold, s1, e1, b1, v1_2, s2, e2, b2, v1_3, v2_3, s3, e3, b3, w4, h5a, k6, s6, v1_6, v2_6, v3_6, k7, s7, v1_7, v2_7, v3_7, k9, s9, v1_9, v2_9, v3_9, k12, s12, v1_12, v2_12, v3_12, h16a, k17, s17, v1_17, v2_17, v3_17, h22a] at hz
        have hr : r10 ks a b c d e i t p f s l = false := (if_neg h5).trans ((if_pos h16).trans ((if_neg h22).trans (rfl)))
        exact fin hz (by rw [hr]) g17
    · skip
      try simp (disch := first | omega | assumption) only [E0_G, SY, setArgs, off, agreeKind, partVals, vals, allocV, boxed, ldA, rdCells, oneB, aggD, aField, aFieldV, aExtract, eq_self, ne_eq, if_true, if_false, not_false_eq_true, Nat.reduceAdd, Nat.reduceSub, Nat.reduceMul, Nat.reduceLT, Nat.reduceEqDiff, Nat.reduceBEq, reduceIte, Int.reduceEq, Int.reduceLT, Int.reduceLE, reduceCtorEq, TY_EvA6, and_fold, or_fold, not_fold, s1, e1, b1, v1_2, s2, e2, b2, v1_3, v2_3, s3, e3, b3, w4, h5a, k6, s6, v1_6, v2_6, v3_6, k7, s7, v1_7, v2_7, v3_7, k9, s9, v1_9, v2_9, v3_9, k12, s12, v1_12, v2_12, v3_12, h16a] at hz
      have hr : r10 ks a b c d e i t p f s l = false := (if_neg h5).trans ((if_neg h16).trans (rfl))
      exact fin hz (by rw [hr]) g12
end Great
end Go.Proofs
end
section
/-
  The great seat of stage 1: the makers of a mark: what the program's functions and the reference's are.
-/
set_option linter.unusedSimpArgs false
set_option linter.unusedVariables false
namespace Go.Proofs
namespace Great
open Go Go.RowKit Go.Aev
set_option maxRecDepth 100000
theorem drop_unc {α : Type} {l : List α} {i : Nat} {x : α} {m : List α} (h : l.drop i = x :: m) : l[i]? = some x ∧ l.drop (i + 1) = m := by
  constructor
  · rw [← List.head?_drop, h]; rfl
  · rw [← List.tail_drop, h]; rfl
theorem errV_z {p : Prop} [Decidable p] : errV p = 0 ↔ p := by unfold errV; split <;> simp [*]
theorem wrapS {n : Int} (h : -9223372036854775808 ≤ n ∧ n ≤ 9223372036854775807) : IntKind.i64.wrap n = n := IntWalk.i64_in n h
theorem R64_0_refl (b : List Int) : ∀ (m : List Int) (i : Nat), b.drop i = m → R64_0 b b m i = .inr () := by
  intro m
  induction m with
  | nil => intro i _; rfl
  | cons x m ih =>
    intro i h
    obtain ⟨h1, h2⟩ := drop_unc h
    unfold R64_0
    rw [lget_of h1, if_pos rfl]
    exact ih _ h2
theorem r64_refl (b : List Int) : r64 b b = true := by
  unfold r64
  rw [if_pos rfl, onSum_inr (R64_0_refl b b 0 rfl)]
theorem R66_0_refl (b : List (Int × Int)) : ∀ (m : List (Int × Int)) (i : Nat), b.drop i = m → R66_0 b b m i = .inr () := by
  intro m
  induction m with
  | nil => intro i _; rfl
  | cons x m ih =>
    intro i h
    obtain ⟨h1, h2⟩ := drop_unc h
    unfold R66_0
    rw [lget_of h1, if_pos ⟨rfl, rfl⟩]
    exact ih _ h2
theorem r66_refl (b : List (Int × Int)) : r66 b b = true := by
  unfold r66
  rw [if_pos rfl, onSum_inr (R66_0_refl b b 0 rfl)]
theorem R22_0_refl (b : List Ar) : ∀ (m : List Ar) (i : Nat), b.drop i = m → R22_0 b b m i = .inr () := by
  intro m
  induction m with
  | nil => intro i _; rfl
  | cons x m ih =>
    intro i h
    obtain ⟨h1, h2⟩ := drop_unc h
    unfold R22_0
    rw [lget_of h1, if_pos ⟨rfl, rfl⟩]
    exact ih _ h2
theorem r22_refl (b : List Ar) : r22 b b = true := by
  unfold r22
  rw [if_pos rfl, onSum_inr (R22_0_refl b b 0 rfl)]

theorem r118_iff (a b c d e set f s l : Int) : (r118 a b c d e set f s l = true) = ShowsP d e set f s := by
  unfold r118 ShowsP
  split
  · simp [*]
  · simp only [Bool.false_eq_true, eq_iff_iff, false_iff]; omega
theorem r117_iff (a b c d e i t p f s l : Int) : (r117 a b c d e i t p f s l = true) = (t = c ∧ ShowsP d e p f s) := by
  unfold r117
  split <;> simp_all [r118_iff]
theorem r120_iff (i t p i2 t2 p2 a b c d e f s l : Int) : (r120 i t p i2 t2 p2 a b c d e f s l = true) = (t = c ∧ t2 = c ∧ ShowsP d e (orV p p2) f s) := by
  unfold r120
  split <;> (try split) <;> simp_all
theorem R59_65 (ks : List K) (a b c d e f s l : Int) : ∀ (m : List K) (o : List Int), R59_0 ks a b c d e f s l m o = R65_0 ks a b c d e f s l m o := by
  intro m
  induction m with
  | nil => intro o; rfl
  | cons x m ih =>
    intro o
    unfold R59_0 R65_0
    simp only [r117_iff, ih]
theorem R60_67_1 (ks : List K) (a b c d e f s l : Int) (j : Nat) (o : List (Int × Int)) (x : K) (hx : ks[j]? = some x) (hc : x.t = c) : ∀ (m : List K) (p : List (Int × Int)), R60_1 ks a b c d e f s l j o x m p = R67_1 ks a b c d e f s l j o m p := by
  intro m
  induction m with
  | nil => intro o; rfl
  | cons y m ih =>
    intro p
    unfold R60_1 R67_1
    simp only [r118_iff, r120_iff, lget_of hx, hc, true_and, ih]
    by_cases h : y.t = c
    · simp only [h, true_and, if_true]
    · simp only [h, false_and, if_false]
theorem R67_1_no (ks : List K) (a b c d e f s l : Int) (j : Nat) (o : List (Int × Int)) (x : K) (hx : ks[j]? = some x) (hc : ¬ x.t = c) : ∀ (m : List K) (p : List (Int × Int)), R67_1 ks a b c d e f s l j o m p = p := by
  intro m
  induction m with
  | nil => intro o; rfl
  | cons y m ih =>
    intro p
    unfold R67_1
    simp only [r120_iff, lget_of hx, hc, false_and, if_false, ih]
theorem R60_67 (ks : List K) (a b c d e f s l : Int) : ∀ (m : List K) (j : Nat) (o : List (Int × Int)), ks.drop j = m → R60_0 ks a b c d e f s l m j o = R67_0 ks a b c d e f s l m j o := by
  intro m
  induction m with
  | nil => intro j o _; rfl
  | cons x m ih =>
    intro j o h
    obtain ⟨h1, h2⟩ := drop_unc h
    unfold R60_0 R67_0
    by_cases hc : x.t = c
    · rw [if_pos hc, ih _ _ h2, R60_67_1 ks a b c d e f s l j o x h1 hc]
    · rw [if_neg hc, ih _ _ h2, R67_1_no ks a b c d e f s l j o x h1 hc]

/-! ### One arc -/
theorem r131_nil (lo hi : Int) : r131 [] lo hi = [⟨lo, hi⟩] := by simp [r131, R131_0, R131_1]
theorem r87_one (f l : Int) (h : -9223372036854775808 ≤ l - f ∧ l - f ≤ 9223372036854775807) : r87 [⟨f, l⟩] = [⟨f, l - f⟩] := by
  simp [r87, R87_2, wrapS h]
theorem spans_one {f l : Int} (h : ArcOk f l) : r87 (r88 [⟨f, l⟩]) = [⟨f, l⟩] := by
  have hw : IntKind.i64.wrap (f + l) = f + l := by apply wrapS; unfold ArcOk at h; omega
  unfold r88 R88_0 R88_0
  simp only [hw, r131_nil]
  by_cases h1 : f + l < 43200
  · rw [if_pos h1, r87_one _ _ (by unfold ArcOk at h; omega), show f + l - f = l by omega]
  · rw [if_neg h1]
    have h2 : 0 ≤ f ∧ f < 43200 ∧ 0 ≤ l ∧ l < 43199 := by unfold ArcOk at h; omega
    have w2 : IntKind.i64.wrap (f + l - 43200) = f + l - 43200 := by apply wrapS; omega
    have w3 : IntKind.i64.wrap (43199 + 1) = 43200 := by rw [wrapS] <;> omega
    have w4 : IntKind.i64.wrap (f + l - 43200 + 1) = f + l - 43199 := by rw [wrapS] <;> omega
    have w5 : IntKind.i64.wrap (43199 - f) = 43199 - f := by apply wrapS; omega
    have w6 : IntKind.i64.wrap (43199 - f + 1) = 43200 - f := by rw [wrapS] <;> omega
    have w7 : IntKind.i64.wrap (43200 - f + (f + l - 43200)) = l := by rw [wrapS] <;> omega
    have e1 : r131 [⟨f, 43199⟩] 0 (f + l - 43200) = [⟨0, f + l - 43200⟩, ⟨f, 43199⟩] := by
      have n1 : ¬ (43200 : Int) < 0 := by omega
      have n2 : f + l - 43199 < f := by omega
      have n3 : ¬ f < 0 := by omega
      simp [r131, R131_0, R131_1, w3, w4, n1, n2, n3]
    rw [w2, e1]
    simp [r87, R87_0, lget, w5, w6, w7]
theorem r94_ok {x y w : Int} (h : ArcOk x y) (hw : 0 ≤ w ∧ w ≤ 43200) : ArcOk (r94 x y w).1 (r94 x y w).2 := by
  have h0 : 0 ≤ y ∧ y ≤ 43199 := by unfold ArcOk at h; omega
  have w1 : IntKind.i64.wrap (2 * w) = 2 * w := by apply wrapS; omega
  have w2 : IntKind.i64.wrap (y + 2 * w) = y + 2 * w := by apply wrapS; omega
  unfold r94
  rw [w1, w2]
  split
  · left; exact ⟨rfl, rfl⟩
  · right
    have := angle_range (IntKind.i64.wrap (x - w))
    exact ⟨this.1, this.2, by omega, by omega⟩
theorem grow_one {x y w : Int} (h : ArcOk x y) (hw : 0 ≤ w ∧ w ≤ 43200) : r31 [⟨x, y⟩] w = [⟨(r92 x y w).1, (r92 x y w).2⟩] := by
  unfold r31 R31_0 R31_0
  exact spans_one (r94_ok h hw)
theorem r61_62 (i t p a b c d e f s l : Int) : r61 i t p a b c d e f s l = r62 i t p a b c d e f s l := by
  unfold r61 r62
  simp only [errV_z, r117_iff]
  by_cases hm : MarkOk a b c d e
  · by_cases hi : InkOk f s l
    · have : r119 a b c d e f s l = [⟨(r92 a b l).1, (r92 a b l).2⟩] := grow_one hm.1 (by unfold InkOk at hi; omega)
      rw [this]
    · simp only [if_neg hi]
  · simp only [if_neg hm]
theorem r10_true (ks : List K) (a b c d e i t p f s l : Int) : r10 ks a b c d e i t p f s l = true := by
  unfold r10
  rw [r61_62, if_pos rfl, r22_refl, if_pos rfl]
  by_cases h60 : 60 < (ks.length : Int)
  · rw [if_pos h60]
  rw [if_neg h60]
  by_cases hB : bunch ks = true <;> by_cases hM : MarkOk a b c d e <;> by_cases hI : InkOk f s l <;> simp [r59, r60, r65, r67, hB, hM, hI, errV_pos, errV_neg, R59_65, R60_67, r64_refl, r66_refl]
end Great
end Go.Proofs
end
