/-
  BC: EvA5, EvA6, EvA7.
-/
import Derived.Test.YtgbjgljchkodjaaGreatDoorEvA4
section
/-
  The great seat of stage 1: Grow and Angles, by the generator.
-/
set_option linter.unusedSimpArgs false
set_option linter.unusedVariables false
namespace Go.Proofs
namespace Great
open Go Go.RowKit Go.Aev
set_option maxRecDepth 100000
/-- What is known of the types. -/
theorem TY_EvA5 : type_of% (And.intro (And.intro (And.intro (And.intro (And.intro (And.intro Tryz.underlying3 tz3) (And.intro tt3 t0_3)) (And.intro (And.intro Tryz.underlying22 tz22) (And.intro tt22 t0_22))) (And.intro (And.intro (And.intro Tryz.underlying56 tz43) (And.intro tt43 t0_43)) (And.intro (And.intro Tryz.underlying59 tz44) (And.intro tt44 (And.intro t0_44 Tryz.underlying60))))) (And.intro (And.intro (And.intro (And.intro tz45 tt45) (And.intro t0_45 Tryz.underlying62)) (And.intro (And.intro tz51 tt51) (And.intro t0_51 Tryz.underlying63))) (And.intro (And.intro (And.intro tz52 tt52) (And.intro t0_52 Tryz.underlying43)) (And.intro (And.intro tz55 tt55) (And.intro t0_55 (And.intro Tryz.underlying44 tz56)))))) (And.intro (And.intro (And.intro (And.intro (And.intro tt56 t0_56) (And.intro Tryz.underlying45 tz57)) (And.intro (And.intro tt57 t0_57) (And.intro Tryz.underlying46 tz58))) (And.intro (And.intro (And.intro tt58 t0_58) (And.intro Tryz.underlying66 tz77)) (And.intro (And.intro tt77 t0_77) (And.intro Tryz.underlying73 (And.intro tz80 tt80))))) (And.intro (And.intro (And.intro (And.intro t0_80 Tryz.underlying89) (And.intro tz110 tt110)) (And.intro (And.intro t0_110 Tryz.underlying94) (And.intro tz115 tt115))) (And.intro (And.intro (And.intro t0_115 Tryz.underlying95) (And.intro tz116 tt116)) (And.intro (And.intro t0_116 Tryz.underlying76) (And.intro tz123 (And.intro tt123 t0_123))))))) := (And.intro (And.intro (And.intro (And.intro (And.intro (And.intro Tryz.underlying3 tz3) (And.intro tt3 t0_3)) (And.intro (And.intro Tryz.underlying22 tz22) (And.intro tt22 t0_22))) (And.intro (And.intro (And.intro Tryz.underlying56 tz43) (And.intro tt43 t0_43)) (And.intro (And.intro Tryz.underlying59 tz44) (And.intro tt44 (And.intro t0_44 Tryz.underlying60))))) (And.intro (And.intro (And.intro (And.intro tz45 tt45) (And.intro t0_45 Tryz.underlying62)) (And.intro (And.intro tz51 tt51) (And.intro t0_51 Tryz.underlying63))) (And.intro (And.intro (And.intro tz52 tt52) (And.intro t0_52 Tryz.underlying43)) (And.intro (And.intro tz55 tt55) (And.intro t0_55 (And.intro Tryz.underlying44 tz56)))))) (And.intro (And.intro (And.intro (And.intro (And.intro tt56 t0_56) (And.intro Tryz.underlying45 tz57)) (And.intro (And.intro tt57 t0_57) (And.intro Tryz.underlying46 tz58))) (And.intro (And.intro (And.intro tt58 t0_58) (And.intro Tryz.underlying66 tz77)) (And.intro (And.intro tt77 t0_77) (And.intro Tryz.underlying73 (And.intro tz80 tt80))))) (And.intro (And.intro (And.intro (And.intro t0_80 Tryz.underlying89) (And.intro tz110 tt110)) (And.intro (And.intro t0_110 Tryz.underlying94) (And.intro tz115 tt115))) (And.intro (And.intro (And.intro t0_115 Tryz.underlying95) (And.intro tz116 tt116)) (And.intro (And.intro t0_116 Tryz.underlying76) (And.intro tz123 (And.intro tt123 t0_123)))))))

theorem R88_0_len (l : List Ar) : ∀ (m : List Ar) (o : List Sp), (R88_0 l m o).length ≤ 2 * m.length + o.length := by
  intro m
  induction m with
  | nil => intro o; simp [R88_0]
  | cons x m ih =>
    intro o
    unfold R88_0
    split
    · refine Nat.le_trans (ih _) ?_
      have := r131_len o x.f (IntKind.i64.wrap (x.f + x.l))
      simp; omega
    · refine Nat.le_trans (ih _) ?_
      have h1 := r131_len o x.f 43199
      have h2 := r131_len (r131 o x.f 43199) 0 (IntKind.i64.wrap ((IntKind.i64.wrap (x.f + x.l)) - 43200))
      simp; omega
theorem r88_len (l : List Ar) : (r88 l).length ≤ 2 * l.length := by simpa [r88] using R88_0_len l l []

def R31_0 (l : List Ar) (w : Int)  : List Ar → List Ar → (List Ar)
  | [], o => o
  | x1 :: l', o => R31_0 l w l' (o ++ ([(⟨((r94 x1.f x1.l w)).1, ((r94 x1.f x1.l w)).2⟩ : Ar)]))
def r31 (l : List Ar) (w : Int) : List Ar := (r87 ((r88 (R31_0 l w l ([]) : List Ar)) : List Sp))
set_option maxHeartbeats 2000000 in
theorem c31 (l : List Ar) (w : Int) (hn : l.length ≤ 400) (S : AS) (v_l : Value) (hv_l : Lst S v_l l) :
    ∃ v' S', (evL Tryz.prog E0).call 27 #[v_l, .int .i64 w] S = some (v', S') ∧ Agree S S' ∧ Own 44 S.next S' v' (r31 l w) := by
  generalize hz : (evL Tryz.prog E0).call 27 _ _ = z
  rw [L_call, evCall_said rfl Tryz.func27 rfl (by decide) Tryz.ntmps27 Tryz.results27] at hz
  try simp (disch := first | omega | assumption) only [E0_G, SY, setArgs, off, agreeKind, partVals, vals, allocV, boxed, ldA, rdCells, oneB, aggD, aField, aFieldV, aExtract, eq_self, ne_eq, if_true, if_false, not_false_eq_true, Nat.reduceAdd, Nat.reduceSub, Nat.reduceMul, Nat.reduceLT, Nat.reduceEqDiff, Nat.reduceBEq, reduceIte, Int.reduceEq, Int.reduceLT, Int.reduceLE, reduceCtorEq, TY_EvA5, and_fold, or_fold, not_fold] at hz
  generalize hL1 : Rec.loop _ _ _ _ = L1 at hz
  obtain ⟨x1, t1, S1e, rfl, hQ1⟩ := loop_met hL1 (fun m t S' => ∃ (i : Nat) (v_o : Value) (o : List Ar), m + i = l.length ∧ o.length ≤ i ∧ i ≤ l.length ∧ t.get 0 = some (v_l) ∧ t.get 1 = some (.int .i64 w) ∧ t.get 5 = some (v_o) ∧ t.get 6 = some (.int .i64 (i : Int)) ∧ Agree S S' ∧ S.next ≤ S'.next ∧ Own 44 S.next S' v_o o ∧ R31_0 l w (l.drop i) o = R31_0 l w l ([]))
    (fun x t S' => x = .exit 0 ∧ ∃ (i : Nat) (v_o : Value) (o : List Ar), t.get 5 = some (v_o) ∧ Agree S S' ∧ S.next ≤ S'.next ∧ Own 44 S.next S' v_o o ∧ o.length ≤ i ∧ i ≤ l.length ∧ R31_0 l w l ([]) = o) (l.length - 0) ⟨0, .slice none 0 0, [], by first | rfl | omega | (simp; omega) | simp, by first | rfl | omega | (simp; omega) | simp, by first | rfl | omega | (simp; omega) | simp, by simp only [SY, setArgs, off, agreeKind, partVals, vals, allocV, boxed, ldA, rdCells, oneB, aggD, aField, aFieldV, aExtract, eq_self, ne_eq, if_true, if_false, not_false_eq_true, Nat.reduceAdd, Nat.reduceSub, Nat.reduceMul, Nat.reduceLT, Nat.reduceEqDiff, Nat.reduceBEq, reduceIte, Int.reduceEq, Int.reduceLT, Int.reduceLE, reduceCtorEq] <;> rfl, by simp only [SY, setArgs, off, agreeKind, partVals, vals, allocV, boxed, ldA, rdCells, oneB, aggD, aField, aFieldV, aExtract, eq_self, ne_eq, if_true, if_false, not_false_eq_true, Nat.reduceAdd, Nat.reduceSub, Nat.reduceMul, Nat.reduceLT, Nat.reduceEqDiff, Nat.reduceBEq, reduceIte, Int.reduceEq, Int.reduceLT, Int.reduceLE, reduceCtorEq] <;> rfl, by simp only [SY, setArgs, off, agreeKind, partVals, vals, allocV, boxed, ldA, rdCells, oneB, aggD, aField, aFieldV, aExtract, eq_self, ne_eq, if_true, if_false, not_false_eq_true, Nat.reduceAdd, Nat.reduceSub, Nat.reduceMul, Nat.reduceLT, Nat.reduceEqDiff, Nat.reduceBEq, reduceIte, Int.reduceEq, Int.reduceLT, Int.reduceLE, reduceCtorEq] <;> rfl, by simp only [SY, setArgs, off, agreeKind, partVals, vals, allocV, boxed, ldA, rdCells, oneB, aggD, aField, aFieldV, aExtract, eq_self, ne_eq, if_true, if_false, not_false_eq_true, Nat.reduceAdd, Nat.reduceSub, Nat.reduceMul, Nat.reduceLT, Nat.reduceEqDiff, Nat.reduceBEq, reduceIte, Int.reduceEq, Int.reduceLT, Int.reduceLE, reduceCtorEq] <;> rfl, (Agree.refl S), Nat.le_refl _, Own.nil _ _ _, rfl⟩ (by
      rintro m t S1 ⟨i, v_o, o, hi1_0, hi1_1, hi1_2, g1_0, g1_1, g1_5, g1_6, ga1, gn1, ow_o, hd1⟩
      refine .run fun z he => ?_
      have w2 := (hv_l.agree ga1).len (P := Tryz.prog) (t := 22) Tryz.underlying22
      try simp (disch := first | omega | assumption) only [E0_G, SY, setArgs, off, agreeKind, partVals, vals, allocV, boxed, ldA, rdCells, oneB, aggD, aField, aFieldV, aExtract, eq_self, ne_eq, if_true, if_false, not_false_eq_true, Nat.reduceAdd, Nat.reduceSub, Nat.reduceMul, Nat.reduceLT, Nat.reduceEqDiff, Nat.reduceBEq, reduceIte, Int.reduceEq, Int.reduceLT, Int.reduceLE, reduceCtorEq, TY_EvA5, and_fold, or_fold, not_fold, g1_0, g1_1, g1_5, g1_6, w2] at he
      rcases dP ((i : Int) < (l.length : Int)) with ⟨h3a, h3⟩ | ⟨h3a, h3⟩
      · skip
        have hx1 : l[i]? = some (l[i]'(by first | omega | simp; omega)) := List.getElem?_eq_getElem _
        generalize l[i]'_ = x1 at hx1
        obtain ⟨id4, of4, cc4, ty4, wr4, ex4, i4, j4, l4, q4⟩ := (hv_l).at (P := Tryz.prog) (t := 22) Tryz.underlying22 tz56 hx1
        have j4 := (ga1.2 id4 l4).trans j4
        have m4_0 : cc4[of4]? = some (.int .i64 x1.f) := q4 0 (show 0 < 2 by decide)
        have m4_1 : cc4[of4 + 1]? = some (.int .i64 x1.l) := q4 1 (show 1 < 2 by decide)
        obtain ⟨S5, k5, a5⟩ := c94 x1.f x1.l w  S1  
        have l5 := a5.1
        have s5 : E0.same S1 S5 = true := symEnv_same a5
        have v4_5 := (a5.2 id4 (by omega)).trans j4
        have ow_6 := ow_o.agree a5
        have g5 : Agree S S5 := ga1.trans a5
        obtain ⟨S7, e7, n7, b7, a7⟩ := push_open S5 (.cells [.int .i64 0, .int .i64 0] 44 0 true true)
        have v4_7 := (a7.2 id4 (by omega)).trans v4_5
        have ow_8 := ow_6.agree a7
        have g7 : Agree S S7 := g5.trans a7
        have s7 : E0.same S5 S7 = true := symEnv_same a7
        have ne9 : blkOf (v_o) ≠ some S5.next := ow_6.new (Nat.le_refl _)
        obtain ⟨S10, k10, n10, b10, q10⟩ := st_at (o := 0) (c' := [.int .i64 (((r94 x1.f x1.l w)).1), .int .i64 (((r94 x1.f x1.l w)).2)]) (v := .agg #[.int .i64 (((r94 x1.f x1.l w)).1), .int .i64 (((r94 x1.f x1.l w)).2)]) tz56 b7 rfl rfl (show 0 + 2 ≤ 2 by decide) rfl
        have v4_10 := (q10 id4 (by omega)).trans v4_7
        have ow_11 := ow_8.frame (by omega) (fun id hid hb => q10 id (fun e => (show blkOf (v_o) ≠ some S5.next from by first | exact ow_8.ne (by omega) | exact ow_8.new (by omega) | assumption) (e ▸ hb)))
        have g10 : Agree S S10 := ⟨by have := (g7).1; omega, fun id hid => (q10 id (by have := (g7).1; omega)).trans ((g7).2 id hid)⟩
        have y12 : aBuildSlice Tryz.prog 22 1 [(0, .agg #[.int .i64 (((r94 x1.f x1.l w)).1), .int .i64 (((r94 x1.f x1.l w)).2)])] S10 = some (.slice (some ⟨S10.next, 0, none⟩) 1 1, S10.push (.cells [.int .i64 (((r94 x1.f x1.l w)).1), .int .i64 (((r94 x1.f x1.l w)).2)] 44 2 true true)) := by kernel_rfl
        obtain ⟨S13, e13, n13, b13, a13⟩ := push_open S10 (.cells [.int .i64 (((r94 x1.f x1.l w)).1), .int .i64 (((r94 x1.f x1.l w)).2)] 44 2 true true)
        have v4_13 := (a13.2 id4 (by omega)).trans v4_10
        have v7_13 := (a13.2 S5.next (by omega)).trans b10
        have ow_14 := ow_11.agree a13
        have g13 : Agree S S13 := g10.trans a13
        have s13 : E0.same S10 S13 = true := symEnv_same a13
        have ne15 : blkOf (v_o) ≠ some S10.next := ow_11.new (Nat.le_refl _)
        have o16 : Own 44 S10.next S13 (.slice (some ⟨S10.next, 0, none⟩) 1 1) ([(⟨((r94 x1.f x1.l w)).1, ((r94 x1.f x1.l w)).2⟩ : Ar)] : List Ar) := .inr ⟨_, true, rfl, Nat.le_refl _, by omega, b13⟩
        obtain ⟨u17, S17, k17, o17, n17, f17, d17⟩ := own_append (P := Tryz.prog) (t := 22) (tx := 22) (n := 1) (v := v_o) ow_14 (o16.rows) (by omega) (by first | omega | (simp; omega) | simp) (by first | omega | (simp; omega) | simp) Tryz.underlying22 Tryz.underlying22 ti56 tv56 rfl tz56
        have v7_17 := (f17 S5.next (by omega) (by first | (simp [blkOf]; done) | exact ow_14.ne (by omega) | exact ow_14.new (by omega) | assumption)).trans v7_13
        have g17 : Agree S S17 := ⟨Nat.le_trans (g13).1 n17, fun id hid => (f17 id (by have := (g13).1; omega) (by first | (simp [blkOf]; done) | exact ow_14.ne (by omega) | assumption)).trans ((g13).2 id hid)⟩
        have ne18 : blkOf u17 ≠ some S5.next := by first | exact o17.ne (by omega) | exact o17.new (by omega) | exact d17 _ (by omega) (by first | (simp [blkOf]; done) | exact ow_14.ne (by omega) | exact ow_14.new (by omega) | assumption)
        have w19 : IntKind.i64.wrap ((i : Int) + 1) = ((i + 1 : Nat) : Int) := by rw [IntWalk.i64_in] <;> omega
        try simp (disch := first | omega | assumption) only [E0_G, SY, setArgs, off, agreeKind, partVals, vals, allocV, boxed, ldA, rdCells, oneB, aggD, aField, aFieldV, aExtract, eq_self, ne_eq, if_true, if_false, not_false_eq_true, Nat.reduceAdd, Nat.reduceSub, Nat.reduceMul, Nat.reduceLT, Nat.reduceEqDiff, Nat.reduceBEq, reduceIte, Int.reduceEq, Int.reduceLT, Int.reduceLE, reduceCtorEq, TY_EvA5, and_fold, or_fold, not_fold, g1_0, g1_1, g1_5, g1_6, w2, h3a, i4, j4, m4_0, m4_1, k5, s5, v4_5, v4_7, s7, e7, b7, v4_10, k10, b10, y12, v4_13, v7_13, s13, e13, b13, v7_17, k17, w19] at he
        rw [drop_cons' hx1] at hd1
        have hf := (show _ = (R31_0 l w (l.drop (i + 1)) (o ++ ([(⟨((r94 x1.f x1.l w)).1, ((r94 x1.f x1.l w)).2⟩ : Ar)])) : (List Ar)) from rfl).symm.trans hd1
        exact .next he (m - 1) (by omega) ⟨(i + 1), u17, o ++ ([(⟨((r94 x1.f x1.l w)).1, ((r94 x1.f x1.l w)).2⟩ : Ar)]), by first | omega | (simp; omega) | simp, by first | omega | (simp; omega) | simp, by first | omega | (simp; omega) | simp, (by simp only [SY, setArgs, off, agreeKind, partVals, vals, allocV, boxed, ldA, rdCells, oneB, aggD, aField, aFieldV, aExtract, eq_self, ne_eq, if_true, if_false, not_false_eq_true, Nat.reduceAdd, Nat.reduceSub, Nat.reduceMul, Nat.reduceLT, Nat.reduceEqDiff, Nat.reduceBEq, reduceIte, Int.reduceEq, Int.reduceLT, Int.reduceLE, reduceCtorEq, g1_0, g1_1, g1_5, g1_6] <;> rfl), (by simp only [SY, setArgs, off, agreeKind, partVals, vals, allocV, boxed, ldA, rdCells, oneB, aggD, aField, aFieldV, aExtract, eq_self, ne_eq, if_true, if_false, not_false_eq_true, Nat.reduceAdd, Nat.reduceSub, Nat.reduceMul, Nat.reduceLT, Nat.reduceEqDiff, Nat.reduceBEq, reduceIte, Int.reduceEq, Int.reduceLT, Int.reduceLE, reduceCtorEq, g1_0, g1_1, g1_5, g1_6] <;> rfl), (by simp only [SY, setArgs, off, agreeKind, partVals, vals, allocV, boxed, ldA, rdCells, oneB, aggD, aField, aFieldV, aExtract, eq_self, ne_eq, if_true, if_false, not_false_eq_true, Nat.reduceAdd, Nat.reduceSub, Nat.reduceMul, Nat.reduceLT, Nat.reduceEqDiff, Nat.reduceBEq, reduceIte, Int.reduceEq, Int.reduceLT, Int.reduceLE, reduceCtorEq, g1_0, g1_1, g1_5, g1_6] <;> rfl), (by simp only [SY, setArgs, off, agreeKind, partVals, vals, allocV, boxed, ldA, rdCells, oneB, aggD, aField, aFieldV, aExtract, eq_self, ne_eq, if_true, if_false, not_false_eq_true, Nat.reduceAdd, Nat.reduceSub, Nat.reduceMul, Nat.reduceLT, Nat.reduceEqDiff, Nat.reduceBEq, reduceIte, Int.reduceEq, Int.reduceLT, Int.reduceLE, reduceCtorEq, g1_0, g1_1, g1_5, g1_6] <;> rfl), g17, by omega, (o17.low (by omega)), hf⟩
      · skip
        try simp (disch := first | omega | assumption) only [E0_G, SY, setArgs, off, agreeKind, partVals, vals, allocV, boxed, ldA, rdCells, oneB, aggD, aField, aFieldV, aExtract, eq_self, ne_eq, if_true, if_false, not_false_eq_true, Nat.reduceAdd, Nat.reduceSub, Nat.reduceMul, Nat.reduceLT, Nat.reduceEqDiff, Nat.reduceBEq, reduceIte, Int.reduceEq, Int.reduceLT, Int.reduceLE, reduceCtorEq, TY_EvA5, and_fold, or_fold, not_fold, g1_0, g1_1, g1_5, g1_6, w2, h3a] at he
        rw [List.drop_eq_nil_of_le (by omega)] at hd1
        have hf := (show _ = (o : (List Ar)) from rfl).symm.trans hd1
        exact .exit he ⟨rfl, ⟨i, v_o, o, (by simp only [SY, setArgs, off, agreeKind, partVals, vals, allocV, boxed, ldA, rdCells, oneB, aggD, aField, aFieldV, aExtract, eq_self, ne_eq, if_true, if_false, not_false_eq_true, Nat.reduceAdd, Nat.reduceSub, Nat.reduceMul, Nat.reduceLT, Nat.reduceEqDiff, Nat.reduceBEq, reduceIte, Int.reduceEq, Int.reduceLT, Int.reduceLE, reduceCtorEq, g1_0, g1_1, g1_5, g1_6] <;> rfl), ga1, by omega, (ow_o.low (by omega)), by first | omega | assumption | simp, by first | omega | assumption | simp, hf.symm⟩⟩)
  obtain ⟨rfl, i, v_o, o, ge1_5, ge1, gm1, oe_o1, hj1_0, hj1_1, hR1⟩ := hQ1
  obtain rfl : o = R31_0 l w l ([]) := hR1.symm
  obtain ⟨u21, S21, k21, a21, oo21⟩ := c88 (R31_0 l w l ([]) : List Ar) (by first | omega | (simp; omega) | (simp; done) | assumption) S1e (v_o) (oe_o1.rows) 
  have l21 := a21.1
  have s21 : E0.same S1e S21 = true := symEnv_same a21
  have oe_22 := oe_o1.agree a21
  have g21 : Agree S S21 := ge1.trans a21
  have p21 := r88_len (R31_0 l w l ([]) : List Ar)
  obtain ⟨u23, S23, k23, a23, oo23⟩ := c87 ((r88 (R31_0 l w l ([]) : List Ar)) : List Sp) (by first | omega | (simp; omega) | (simp; done) | assumption) S21 (u21) (oo21.rows) 
  have l23 := a23.1
  have s23 : E0.same S21 S23 = true := symEnv_same a23
  have oe_24 := oe_22.agree a23
  have o21_25 := oo21.agree a23
  have g23 : Agree S S23 := g21.trans a23
  try simp (disch := first | omega | assumption) only [E0_G, SY, setArgs, off, agreeKind, partVals, vals, allocV, boxed, ldA, rdCells, oneB, aggD, aField, aFieldV, aExtract, eq_self, ne_eq, if_true, if_false, not_false_eq_true, Nat.reduceAdd, Nat.reduceSub, Nat.reduceMul, Nat.reduceLT, Nat.reduceEqDiff, Nat.reduceBEq, reduceIte, Int.reduceEq, Int.reduceLT, Int.reduceLE, reduceCtorEq, TY_EvA5, and_fold, or_fold, not_fold, ge1_5, k21, s21, k23, s23] at hz
  have hr : r31 l w = (r87 ((r88 (R31_0 l w l ([]) : List Ar)) : List Sp)) := rfl
  exact ⟨u23, S23, by first | (rw [hr]; exact hz.symm) | exact hz.symm, g23, by rw [hr]; exact oo23.low (by omega)⟩

end Great
end Go.Proofs
end
section
/-
  The great seat of stage 1: DialMakers, by the generator.
-/
set_option linter.unusedSimpArgs false
set_option linter.unusedVariables false
namespace Go.Proofs
namespace Great
open Go Go.RowKit Go.Aev
set_option maxRecDepth 100000
theorem c15s (S : AS) : (evL Tryz.prog E0).call 11 #[] S = some (.bool true, S) := by rw [L_call]; rfl


end Great
end Go.Proofs
end
section
/-
  The great seat of stage 1: Propose, by the generator.
-/
set_option linter.unusedSimpArgs false
set_option linter.unusedVariables false
namespace Go.Proofs
namespace Great
open Go Go.RowKit Go.Aev
set_option maxRecDepth 100000
def R48_0 (ks : List K) (tr : Int) (fr : Int) (f s l : Int)  : Nat → Int → Sum (Int × Int) (Unit)
  | 0, p => .inr ()
  | m' + 1, p => (if p ≤ 4095 then (if ks.any (confK (⟨1, tr, p⟩ : K) f s) = true then R48_0 ks tr fr f s l m' (p + 1) else .inl (p, 0)) else .inr ())
def r48 (ks : List K) (tr : Int) (fr : Int) (f s l : Int) : Int × Int := (if bunch ks = true then (if 0 ≤ tr ∧ tr < 4 then (if 0 ≤ fr ∧ fr ≤ 4095 then (if fr = 0 then (0, 1) else (if (errV (InkOk f s l)) = 0 then (onSum (R48_0 ks tr fr f s l ((4097 - fr).toNat) fr) (fun (r8, r9) => (r8, r9)) (fun _ => (0, 5))) else (0, 1))) else (0, 1)) else (0, 1)) else (0, 1))
def R49_0 (ks : List K) (tr : Int) (fr : Int) (f s l : Int)  : Nat → Int → Sum (Int × Int) (Unit)
  | 0, p => .inr ()
  | m' + 1, p => (if p ≤ 4095 then (if (rivalId (confK (⟨1, tr, p⟩ : K) f s) ks) = 0 then .inl (p, 0) else R49_0 ks tr fr f s l m' (p + 1)) else .inr ())
def r49 (ks : List K) (tr : Int) (fr : Int) (f s l : Int) : Int × Int := (if bunch ks = true then (if 0 ≤ tr ∧ tr ≤ 3 then (if 1 ≤ fr ∧ fr ≤ 4095 then (if InkOk f s l then (onSum (R49_0 ks tr fr f s l ((4097 - fr).toNat) fr) (fun (r8, r9) => (r8, r9)) (fun _ => (0, 5))) else (0, 1)) else (0, 1)) else (0, 1)) else (0, 1))
end Great
end Go.Proofs
end
