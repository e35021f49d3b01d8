/-
  BE: EvA11, EvA12.
-/
import Derived.Test.YtgbjgljchkodjaaGreatDoorBC
section
/-
  The great seat of stage 1: rest and common, by the generator.
-/
set_option linter.unusedSimpArgs false
set_option linter.unusedVariables false
namespace Go.Proofs
namespace Great
open Go Go.RowKit Go.Aev
set_option maxRecDepth 100000
theorem tz90 : szOf Tryz.prog 82 = some 1 := by kernel_rfl
theorem tt90 : inTab Tryz.prog 82 = true := by kernel_rfl
theorem t0_90 : zeroOf Tryz.prog 82 = some (.slice none 0 0) := by kernel_rfl
theorem tz177 : szOf Tryz.prog 136 = some 2 := by kernel_rfl
theorem tt177 : inTab Tryz.prog 136 = true := by kernel_rfl
theorem t0_177 : zeroOf Tryz.prog 136 = some (.agg #[.int .i64 0, .int .i64 0]) := by kernel_rfl
theorem tz178 : szOf Tryz.prog 137 = some 2 := by kernel_rfl
theorem tt178 : inTab Tryz.prog 137 = true := by kernel_rfl
theorem t0_178 : zeroOf Tryz.prog 137 = some (.agg #[.int .i64 0, .int .i64 0]) := by kernel_rfl
/-- What is known of the types. -/
theorem TY_EvA11 : type_of% (And.intro (And.intro (And.intro (And.intro (And.intro (And.intro Tryz.underlying3 tz3) (And.intro tt3 (And.intro t0_3 Tryz.underlying22))) (And.intro (And.intro tz22 tt22) (And.intro t0_22 (And.intro Tryz.underlying56 tz43)))) (And.intro (And.intro (And.intro tt43 t0_43) (And.intro Tryz.underlying59 (And.intro tz44 tt44))) (And.intro (And.intro t0_44 Tryz.underlying60) (And.intro tz45 (And.intro tt45 t0_45))))) (And.intro (And.intro (And.intro (And.intro Tryz.underlying62 tz51) (And.intro tt51 (And.intro t0_51 Tryz.underlying63))) (And.intro (And.intro tz52 tt52) (And.intro t0_52 (And.intro Tryz.underlying43 tz55)))) (And.intro (And.intro (And.intro tt55 t0_55) (And.intro Tryz.underlying44 (And.intro tz56 tt56))) (And.intro (And.intro t0_56 Tryz.underlying45) (And.intro tz57 (And.intro tt57 t0_57)))))) (And.intro (And.intro (And.intro (And.intro (And.intro Tryz.underlying46 tz58) (And.intro tt58 (And.intro t0_58 Tryz.underlying66))) (And.intro (And.intro tz77 tt77) (And.intro t0_77 (And.intro Tryz.underlying73 tz80)))) (And.intro (And.intro (And.intro tt80 t0_80) (And.intro Tryz.underlying82 (And.intro tz90 tt90))) (And.intro (And.intro t0_90 Tryz.underlying89) (And.intro tz110 (And.intro tt110 t0_110))))) (And.intro (And.intro (And.intro (And.intro Tryz.underlying94 tz115) (And.intro tt115 (And.intro t0_115 Tryz.underlying95))) (And.intro (And.intro tz116 tt116) (And.intro t0_116 (And.intro Tryz.underlying76 tz123)))) (And.intro (And.intro (And.intro tt123 t0_123) (And.intro Tryz.underlying136 (And.intro tz177 tt177))) (And.intro (And.intro t0_177 Tryz.underlying137) (And.intro tz178 (And.intro tt178 t0_178))))))) := (And.intro (And.intro (And.intro (And.intro (And.intro (And.intro Tryz.underlying3 tz3) (And.intro tt3 (And.intro t0_3 Tryz.underlying22))) (And.intro (And.intro tz22 tt22) (And.intro t0_22 (And.intro Tryz.underlying56 tz43)))) (And.intro (And.intro (And.intro tt43 t0_43) (And.intro Tryz.underlying59 (And.intro tz44 tt44))) (And.intro (And.intro t0_44 Tryz.underlying60) (And.intro tz45 (And.intro tt45 t0_45))))) (And.intro (And.intro (And.intro (And.intro Tryz.underlying62 tz51) (And.intro tt51 (And.intro t0_51 Tryz.underlying63))) (And.intro (And.intro tz52 tt52) (And.intro t0_52 (And.intro Tryz.underlying43 tz55)))) (And.intro (And.intro (And.intro tt55 t0_55) (And.intro Tryz.underlying44 (And.intro tz56 tt56))) (And.intro (And.intro t0_56 Tryz.underlying45) (And.intro tz57 (And.intro tt57 t0_57)))))) (And.intro (And.intro (And.intro (And.intro (And.intro Tryz.underlying46 tz58) (And.intro tt58 (And.intro t0_58 Tryz.underlying66))) (And.intro (And.intro tz77 tt77) (And.intro t0_77 (And.intro Tryz.underlying73 tz80)))) (And.intro (And.intro (And.intro tt80 t0_80) (And.intro Tryz.underlying82 (And.intro tz90 tt90))) (And.intro (And.intro t0_90 Tryz.underlying89) (And.intro tz110 (And.intro tt110 t0_110))))) (And.intro (And.intro (And.intro (And.intro Tryz.underlying94 tz115) (And.intro tt115 (And.intro t0_115 Tryz.underlying95))) (And.intro (And.intro tz116 tt116) (And.intro t0_116 (And.intro Tryz.underlying76 tz123)))) (And.intro (And.intro (And.intro tt123 t0_123) (And.intro Tryz.underlying136 (And.intro tz177 tt177))) (And.intro (And.intro t0_177 Tryz.underlying137) (And.intro tz178 (And.intro tt178 t0_178)))))))
def R89_1 (a : List Sp) (b : List Sp) (i : Nat) (o : List Sp) : List Sp → List Sp → (List Sp)
  | [], p => p
  | x4 :: l', p => (if (max ((lget a i).lo) x4.lo) ≤ (min ((lget a i).hi) x4.hi) then R89_1 a b i o l' (r131 (p : List Sp) (max ((lget a i).lo) x4.lo) (min ((lget a i).hi) x4.hi)) else R89_1 a b i o l' p)
def R89_0 (a : List Sp) (b : List Sp)  : List Sp → Nat → List Sp → (List Sp)
  | [], i, o => o
  | _x :: l', i, o => R89_0 a b l' (i + 1) (R89_1 a b i o b o)
def r89 (a : List Sp) (b : List Sp) : List Sp := R89_0 a b a 0 ([])
set_option maxHeartbeats 2000000 in
theorem c89 (a : List Sp) (b : List Sp) (hna : a.length ≤ 130) (hnb : b.length ≤ 130) (S : AS) (v_a : Value) (hv_a : Lst S v_a a) (v_b : Value) (hv_b : Lst S v_b b) :
    ∃ v' S', (evL Tryz.prog E0).call 58 #[v_a, v_b] S = some (v', S') ∧ Agree S S' ∧ Own 95 S.next S' v' (r89 a b) := by
  generalize hz : (evL Tryz.prog E0).call 58 _ _ = z
  rw [L_call, evCall_said rfl Tryz.func58 rfl (by decide) Tryz.ntmps58 Tryz.results58] at hz
  try simp (disch := first | omega | assumption) only [E0_G, SY, setArgs, off, agreeKind, partVals, vals, allocV, boxed, ldA, rdCells, oneB, aggD, aField, aFieldV, aExtract, eq_self, ne_eq, if_true, if_false, not_false_eq_true, Nat.reduceAdd, Nat.reduceSub, Nat.reduceMul, Nat.reduceLT, Nat.reduceEqDiff, Nat.reduceBEq, reduceIte, Int.reduceEq, Int.reduceLT, Int.reduceLE, reduceCtorEq, TY_EvA11, and_fold, or_fold, not_fold] at hz
  generalize hL1 : Rec.loop _ _ _ _ = L1 at hz
  obtain ⟨x1, t1, S1e, rfl, hQ1⟩ := loop_met hL1 (fun m t S' => ∃ (i : Nat) (v_o : Value) (o : List Sp), m + i = a.length ∧ o.length ≤ i * 130 ∧ i ≤ a.length ∧ t.get 0 = some (v_a) ∧ t.get 1 = some (v_b) ∧ t.get 5 = some (v_o) ∧ t.get 6 = some (.int .i64 (i : Int)) ∧ Agree S S' ∧ S.next ≤ S'.next ∧ Own 95 S.next S' v_o o ∧ R89_0 a b (a.drop i) i o = R89_0 a b a 0 ([]))
    (fun x t S' => x = .exit 0 ∧ ∃ (i : Nat) (v_o : Value) (o : List Sp), t.get 5 = some (v_o) ∧ Agree S S' ∧ S.next ≤ S'.next ∧ Own 95 S.next S' v_o o ∧ o.length ≤ i * 130 ∧ i ≤ a.length ∧ R89_0 a b a 0 ([]) = o) (a.length - 0) ⟨0, .slice none 0 0, [], by first | rfl | omega | (simp; omega) | simp, by first | rfl | omega | (simp; omega) | simp, by first | rfl | omega | (simp; omega) | simp, by simp only [SY, setArgs, off, agreeKind, partVals, vals, allocV, boxed, ldA, rdCells, oneB, aggD, aField, aFieldV, aExtract, eq_self, ne_eq, if_true, if_false, not_false_eq_true, Nat.reduceAdd, Nat.reduceSub, Nat.reduceMul, Nat.reduceLT, Nat.reduceEqDiff, Nat.reduceBEq, reduceIte, Int.reduceEq, Int.reduceLT, Int.reduceLE, reduceCtorEq] <;> rfl, by simp only [SY, setArgs, off, agreeKind, partVals, vals, allocV, boxed, ldA, rdCells, oneB, aggD, aField, aFieldV, aExtract, eq_self, ne_eq, if_true, if_false, not_false_eq_true, Nat.reduceAdd, Nat.reduceSub, Nat.reduceMul, Nat.reduceLT, Nat.reduceEqDiff, Nat.reduceBEq, reduceIte, Int.reduceEq, Int.reduceLT, Int.reduceLE, reduceCtorEq] <;> rfl, by simp only [SY, setArgs, off, agreeKind, partVals, vals, allocV, boxed, ldA, rdCells, oneB, aggD, aField, aFieldV, aExtract, eq_self, ne_eq, if_true, if_false, not_false_eq_true, Nat.reduceAdd, Nat.reduceSub, Nat.reduceMul, Nat.reduceLT, Nat.reduceEqDiff, Nat.reduceBEq, reduceIte, Int.reduceEq, Int.reduceLT, Int.reduceLE, reduceCtorEq] <;> rfl, by simp only [SY, setArgs, off, agreeKind, partVals, vals, allocV, boxed, ldA, rdCells, oneB, aggD, aField, aFieldV, aExtract, eq_self, ne_eq, if_true, if_false, not_false_eq_true, Nat.reduceAdd, Nat.reduceSub, Nat.reduceMul, Nat.reduceLT, Nat.reduceEqDiff, Nat.reduceBEq, reduceIte, Int.reduceEq, Int.reduceLT, Int.reduceLE, reduceCtorEq] <;> rfl, (Agree.refl S), Nat.le_refl _, Own.nil _ _ _, rfl⟩ (by
      rintro m t S1 ⟨i, v_o, o, hi1_0, hi1_1, hi1_2, g1_0, g1_1, g1_5, g1_6, ga1, gn1, ow_o, hd1⟩
      refine .run fun z he => ?_
      have w2 := (hv_a.agree ga1).len (P := Tryz.prog) (t := 89) Tryz.underlying89
      try simp (disch := first | omega | assumption) only [E0_G, SY, setArgs, off, agreeKind, partVals, vals, allocV, boxed, ldA, rdCells, oneB, aggD, aField, aFieldV, aExtract, eq_self, ne_eq, if_true, if_false, not_false_eq_true, Nat.reduceAdd, Nat.reduceSub, Nat.reduceMul, Nat.reduceLT, Nat.reduceEqDiff, Nat.reduceBEq, reduceIte, Int.reduceEq, Int.reduceLT, Int.reduceLE, reduceCtorEq, TY_EvA11, and_fold, or_fold, not_fold, g1_0, g1_1, g1_5, g1_6, w2] at he
      rcases dP ((i : Int) < (a.length : Int)) with ⟨h3a, h3⟩ | ⟨h3a, h3⟩
      · skip
        try simp (disch := first | omega | assumption) only [E0_G, SY, setArgs, off, agreeKind, partVals, vals, allocV, boxed, ldA, rdCells, oneB, aggD, aField, aFieldV, aExtract, eq_self, ne_eq, if_true, if_false, not_false_eq_true, Nat.reduceAdd, Nat.reduceSub, Nat.reduceMul, Nat.reduceLT, Nat.reduceEqDiff, Nat.reduceBEq, reduceIte, Int.reduceEq, Int.reduceLT, Int.reduceLE, reduceCtorEq, TY_EvA11, and_fold, or_fold, not_fold, g1_0, g1_1, g1_5, g1_6, w2, h3a] at he
        generalize hL4 : Rec.loop _ _ _ _ = L4 at he
        obtain ⟨x4, t4, S4e, rfl, hQ4⟩ := loop_met hL4 (fun m t S' => ∃ (k : Nat) (v_p : Value) (p : List Sp), m + k = b.length ∧ p.length ≤ i * 130 + k ∧ k ≤ b.length ∧ t.get 0 = some (v_a) ∧ t.get 1 = some (v_b) ∧ t.get 5 = some (v_p) ∧ t.get 6 = some (.int .i64 (i : Int)) ∧ t.get 7 = some (.int .i64 (k : Int)) ∧ Agree S S' ∧ S1.next ≤ S'.next ∧ Own 95 S.next S' v_p p ∧ R89_1 a b i o (b.drop k) p = R89_1 a b i o b o)
          (fun x t S' => x = .exit 2 ∧ ∃ (k : Nat) (v_p : Value) (p : List Sp), t.get 0 = some (v_a) ∧ t.get 1 = some (v_b) ∧ t.get 5 = some (v_p) ∧ t.get 6 = some (.int .i64 (i : Int)) ∧ Agree S S' ∧ S1.next ≤ S'.next ∧ Own 95 S.next S' v_p p ∧ p.length ≤ i * 130 + k ∧ k ≤ b.length ∧ R89_1 a b i o b o = p) (b.length - 0) ⟨0, v_o, o, by first | rfl | omega | (simp; omega) | simp, by first | rfl | omega | (simp; omega) | simp, by first | rfl | omega | (simp; omega) | simp, by simp only [SY, setArgs, off, agreeKind, partVals, vals, allocV, boxed, ldA, rdCells, oneB, aggD, aField, aFieldV, aExtract, eq_self, ne_eq, if_true, if_false, not_false_eq_true, Nat.reduceAdd, Nat.reduceSub, Nat.reduceMul, Nat.reduceLT, Nat.reduceEqDiff, Nat.reduceBEq, reduceIte, Int.reduceEq, Int.reduceLT, Int.reduceLE, reduceCtorEq, g1_0, g1_1, g1_5, g1_6] <;> rfl, by simp only [SY, setArgs, off, agreeKind, partVals, vals, allocV, boxed, ldA, rdCells, oneB, aggD, aField, aFieldV, aExtract, eq_self, ne_eq, if_true, if_false, not_false_eq_true, Nat.reduceAdd, Nat.reduceSub, Nat.reduceMul, Nat.reduceLT, Nat.reduceEqDiff, Nat.reduceBEq, reduceIte, Int.reduceEq, Int.reduceLT, Int.reduceLE, reduceCtorEq, g1_0, g1_1, g1_5, g1_6] <;> rfl, by simp only [SY, setArgs, off, agreeKind, partVals, vals, allocV, boxed, ldA, rdCells, oneB, aggD, aField, aFieldV, aExtract, eq_self, ne_eq, if_true, if_false, not_false_eq_true, Nat.reduceAdd, Nat.reduceSub, Nat.reduceMul, Nat.reduceLT, Nat.reduceEqDiff, Nat.reduceBEq, reduceIte, Int.reduceEq, Int.reduceLT, Int.reduceLE, reduceCtorEq, g1_0, g1_1, g1_5, g1_6] <;> rfl, by simp only [SY, setArgs, off, agreeKind, partVals, vals, allocV, boxed, ldA, rdCells, oneB, aggD, aField, aFieldV, aExtract, eq_self, ne_eq, if_true, if_false, not_false_eq_true, Nat.reduceAdd, Nat.reduceSub, Nat.reduceMul, Nat.reduceLT, Nat.reduceEqDiff, Nat.reduceBEq, reduceIte, Int.reduceEq, Int.reduceLT, Int.reduceLE, reduceCtorEq, g1_0, g1_1, g1_5, g1_6] <;> rfl, by simp only [SY, setArgs, off, agreeKind, partVals, vals, allocV, boxed, ldA, rdCells, oneB, aggD, aField, aFieldV, aExtract, eq_self, ne_eq, if_true, if_false, not_false_eq_true, Nat.reduceAdd, Nat.reduceSub, Nat.reduceMul, Nat.reduceLT, Nat.reduceEqDiff, Nat.reduceBEq, reduceIte, Int.reduceEq, Int.reduceLT, Int.reduceLE, reduceCtorEq, g1_0, g1_1, g1_5, g1_6] <;> rfl, ga1, Nat.le_refl _, ow_o, rfl⟩ (by
            rintro m t S4 ⟨k, v_p, p, hi4_0, hi4_1, hi4_2, g4_0, g4_1, g4_5, g4_6, g4_7, ga4, gn4, ow_p, hd4⟩
            refine .run fun z he => ?_
            have w5 := (hv_b.agree ga4).len (P := Tryz.prog) (t := 89) Tryz.underlying89
            try simp (disch := first | omega | assumption) only [E0_G, SY, setArgs, off, agreeKind, partVals, vals, allocV, boxed, ldA, rdCells, oneB, aggD, aField, aFieldV, aExtract, eq_self, ne_eq, if_true, if_false, not_false_eq_true, Nat.reduceAdd, Nat.reduceSub, Nat.reduceMul, Nat.reduceLT, Nat.reduceEqDiff, Nat.reduceBEq, reduceIte, Int.reduceEq, Int.reduceLT, Int.reduceLE, reduceCtorEq, TY_EvA11, and_fold, or_fold, not_fold, g4_0, g4_1, g4_5, g4_6, g4_7, w2, h3a, w5] at he
            rcases dP ((k : Int) < (b.length : Int)) with ⟨h6a, h6⟩ | ⟨h6a, h6⟩
            · skip
              try simp (disch := first | omega | assumption) only [E0_G, SY, setArgs, off, agreeKind, partVals, vals, allocV, boxed, ldA, rdCells, oneB, aggD, aField, aFieldV, aExtract, eq_self, ne_eq, if_true, if_false, not_false_eq_true, Nat.reduceAdd, Nat.reduceSub, Nat.reduceMul, Nat.reduceLT, Nat.reduceEqDiff, Nat.reduceBEq, reduceIte, Int.reduceEq, Int.reduceLT, Int.reduceLE, reduceCtorEq, TY_EvA11, and_fold, or_fold, not_fold, g4_0, g4_1, g4_5, g4_6, g4_7, w2, h3a, w5, h6a] at he
              rw [code_draws _ _ _ (by kernel_rfl)] at he
              generalize hnd7 : needy _ = nd7 at he
              have nn7_24 : nd7 24 = false := by rw [← hnd7]; kernel_rfl
              have hx8 : a[i]? = some (lget a i) := lget_some (by first | omega | simp; omega)
              obtain ⟨id8, of8, cc8, ty8, wr8, ex8, i8, j8, l8, q8⟩ := (hv_a).at (P := Tryz.prog) (t := 89) Tryz.underlying89 tz116 hx8
              have jr8 := j8
              have j8 := (ga4.2 id8 l8).trans jr8
              have m8_0 : cc8[of8]? = some (.int .i64 ((lget a i).lo)) := q8 0 (show 0 < 2 by decide)
              have m8_1 : cc8[of8 + 1]? = some (.int .i64 ((lget a i).hi)) := q8 1 (show 1 < 2 by decide)
              have hx4 : b[k]? = some (b[k]'(by first | omega | simp; omega)) := List.getElem?_eq_getElem _
              generalize b[k]'_ = x4 at hx4
              obtain ⟨id9, of9, cc9, ty9, wr9, ex9, i9, j9, l9, q9⟩ := (hv_b).at (P := Tryz.prog) (t := 89) Tryz.underlying89 tz116 hx4
              have jr9 := j9
              have j9 := (ga4.2 id9 l9).trans jr9
              have m9_0 : cc9[of9]? = some (.int .i64 x4.lo) := q9 0 (show 0 < 2 by decide)
              have m9_1 : cc9[of9 + 1]? = some (.int .i64 x4.hi) := q9 1 (show 1 < 2 by decide)
              obtain ⟨id10, of10, cc10, ty10, wr10, ex10, i10, j10, l10, q10⟩ := (hv_a).at (P := Tryz.prog) (t := 89) Tryz.underlying89 tz116 hx8
              have jr10 := j10
              have j10 := (ga4.2 id10 l10).trans jr10
              have j10_8 := (ga4.2 id8 l8).trans jr8
              have m10_0 : cc10[of10]? = some (.int .i64 ((lget a i).lo)) := q10 0 (show 0 < 2 by decide)
              have m10_1 : cc10[of10 + 1]? = some (.int .i64 ((lget a i).hi)) := q10 1 (show 1 < 2 by decide)
              obtain ⟨id11, of11, cc11, ty11, wr11, ex11, i11, j11, l11, q11⟩ := (hv_b).at (P := Tryz.prog) (t := 89) Tryz.underlying89 tz116 hx4
              have jr11 := j11
              have j11 := (ga4.2 id11 l11).trans jr11
              have j11_9 := (ga4.2 id9 l9).trans jr9
              have m11_0 : cc11[of11]? = some (.int .i64 x4.lo) := q11 0 (show 0 < 2 by decide)
              have m11_1 : cc11[of11 + 1]? = some (.int .i64 x4.hi) := q11 1 (show 1 < 2 by decide)
              have y12 : aBuild Tryz.prog 95 [(0, .int .i64 (max ((lget a i).lo) x4.lo)), (1, .int .i64 (min ((lget a i).hi) x4.hi))] = some (.agg #[.int .i64 (max ((lget a i).lo) x4.lo), .int .i64 (min ((lget a i).hi) x4.hi)]) := by kernel_rfl
              obtain ⟨S13, e13, n13, b13, a13⟩ := push_open S4 (.cells [.int .i64 0, .int .i64 0] 95 0 true true)
              have v8_13 := (a13.2 id8 (by omega)).trans j8
              have v9_13 := (a13.2 id9 (by omega)).trans j9
              have v10_13 := (a13.2 id10 (by omega)).trans j10
              have v11_13 := (a13.2 id11 (by omega)).trans j11
              have ow_14 := ow_p.agree a13
              have g13 : Agree S S13 := ga4.trans a13
              have s13 : E0.same S4 S13 = true := symEnv_same a13
              have ne15 : blkOf (v_p) ≠ some S4.next := ow_p.new (Nat.le_refl _)
              obtain ⟨S16, k16, n16, b16, q16⟩ := st_at (o := 0) (c' := [.int .i64 (max ((lget a i).lo) x4.lo), .int .i64 (min ((lget a i).hi) x4.hi)]) (v := .agg #[.int .i64 (max ((lget a i).lo) x4.lo), .int .i64 (min ((lget a i).hi) x4.hi)]) tz116 b13 rfl rfl (show 0 + 2 ≤ 2 by decide) rfl
              have v8_16 := (q16 id8 (by omega)).trans v8_13
              have v9_16 := (q16 id9 (by omega)).trans v9_13
              have v10_16 := (q16 id10 (by omega)).trans v10_13
              have v11_16 := (q16 id11 (by omega)).trans v11_13
              have ow_17 := ow_14.frame (by omega) (fun id hid hb => q16 id (fun e => (show blkOf (v_p) ≠ some S4.next from by first | exact ow_14.ne (by omega) | exact ow_14.new (by omega) | assumption) (e ▸ hb)))
              have g16 : Agree S S16 := ⟨by have := (g13).1; omega, fun id hid => (q16 id (by have := (g13).1; omega)).trans ((g13).2 id hid)⟩
              try simp (disch := first | omega | assumption) only [E0_G, SY, setArgs, off, agreeKind, partVals, vals, allocV, boxed, ldA, rdCells, oneB, aggD, aField, aFieldV, aExtract, eq_self, ne_eq, if_true, if_false, not_false_eq_true, Nat.reduceAdd, Nat.reduceSub, Nat.reduceMul, Nat.reduceLT, Nat.reduceEqDiff, Nat.reduceBEq, reduceIte, Int.reduceEq, Int.reduceLT, Int.reduceLE, reduceCtorEq, TY_EvA11, and_fold, or_fold, not_fold, g4_0, g4_1, g4_5, g4_6, g4_7, w2, h3a, w5, h6a, nn7_24, store_agree, store_refl E0_same, i8, j8, m8_0, m8_1, i9, j9, m9_0, m9_1, j10_8, i10, j10, m10_0, m10_1, j11_9, i11, j11, m11_0, m11_1, y12, v8_13, v9_13, v10_13, v11_13, s13, e13, b13, v8_16, v9_16, v10_16, v11_16, k16, b16] at he
              rcases dP ((max ((lget a i).lo) x4.lo) ≤ (min ((lget a i).hi) x4.hi)) with ⟨h18a, h18⟩ | ⟨h18a, h18⟩
              · skip
                obtain ⟨u19, S19, k19, a19, oo19⟩ := c131 (p : List Sp) (max ((lget a i).lo) x4.lo) (min ((lget a i).hi) x4.hi) (by first | omega | (simp; omega) | (simp; done) | assumption) S16 (v_p) (ow_17.rows) 
                have l19 := a19.1
                have s19 : E0.same S16 S19 = true := symEnv_same a19
                have v8_19 := (a19.2 id8 (by omega)).trans v8_16
                have v9_19 := (a19.2 id9 (by omega)).trans v9_16
                have v10_19 := (a19.2 id10 (by omega)).trans v10_16
                have v11_19 := (a19.2 id11 (by omega)).trans v11_16
                have v13_19 := (a19.2 S4.next (by omega)).trans b16
                have ow_20 := ow_17.agree a19
                have g19 : Agree S S19 := g16.trans a19
                have p19 := r131_len (p : List Sp) (max ((lget a i).lo) x4.lo) (min ((lget a i).hi) x4.hi)
                have w21 : IntKind.i64.wrap ((k : Int) + 1) = ((k + 1 : Nat) : Int) := by rw [IntWalk.i64_in] <;> omega
                try simp (disch := first | omega | assumption) only [E0_G, SY, setArgs, off, agreeKind, partVals, vals, allocV, boxed, ldA, rdCells, oneB, aggD, aField, aFieldV, aExtract, eq_self, ne_eq, if_true, if_false, not_false_eq_true, Nat.reduceAdd, Nat.reduceSub, Nat.reduceMul, Nat.reduceLT, Nat.reduceEqDiff, Nat.reduceBEq, reduceIte, Int.reduceEq, Int.reduceLT, Int.reduceLE, reduceCtorEq, TY_EvA11, and_fold, or_fold, not_fold, g4_0, g4_1, g4_5, g4_6, g4_7, w2, h3a, w5, h6a, nn7_24, store_agree, store_refl E0_same, i8, j8, m8_0, m8_1, i9, j9, m9_0, m9_1, j10_8, i10, j10, m10_0, m10_1, j11_9, i11, j11, m11_0, m11_1, y12, v8_13, v9_13, v10_13, v11_13, s13, e13, b13, v8_16, v9_16, v10_16, v11_16, k16, b16, h18a, k19, s19, v8_19, v9_19, v10_19, v11_19, v13_19, w21] at he
                rw [drop_cons' hx4] at hd4
                have hf := (show _ = (R89_1 a b i o (b.drop (k + 1)) (r131 (p : List Sp) (max ((lget a i).lo) x4.lo) (min ((lget a i).hi) x4.hi)) : (List Sp)) from (if_pos h18).trans (rfl)).symm.trans hd4
                exact .next he (m - 1) (by omega) ⟨(k + 1), u19, (r131 (p : List Sp) (max ((lget a i).lo) x4.lo) (min ((lget a i).hi) x4.hi)), by first | omega | (simp; omega) | simp, by first | omega | (simp; omega) | simp, by first | omega | (simp; omega) | simp, (by simp only [SY, setArgs, off, agreeKind, partVals, vals, allocV, boxed, ldA, rdCells, oneB, aggD, aField, aFieldV, aExtract, eq_self, ne_eq, if_true, if_false, not_false_eq_true, Nat.reduceAdd, Nat.reduceSub, Nat.reduceMul, Nat.reduceLT, Nat.reduceEqDiff, Nat.reduceBEq, reduceIte, Int.reduceEq, Int.reduceLT, Int.reduceLE, reduceCtorEq, g4_0, g4_1, g4_5, g4_6, g4_7] <;> rfl), (by simp only [SY, setArgs, off, agreeKind, partVals, vals, allocV, boxed, ldA, rdCells, oneB, aggD, aField, aFieldV, aExtract, eq_self, ne_eq, if_true, if_false, not_false_eq_true, Nat.reduceAdd, Nat.reduceSub, Nat.reduceMul, Nat.reduceLT, Nat.reduceEqDiff, Nat.reduceBEq, reduceIte, Int.reduceEq, Int.reduceLT, Int.reduceLE, reduceCtorEq, g4_0, g4_1, g4_5, g4_6, g4_7] <;> rfl), (by simp only [SY, setArgs, off, agreeKind, partVals, vals, allocV, boxed, ldA, rdCells, oneB, aggD, aField, aFieldV, aExtract, eq_self, ne_eq, if_true, if_false, not_false_eq_true, Nat.reduceAdd, Nat.reduceSub, Nat.reduceMul, Nat.reduceLT, Nat.reduceEqDiff, Nat.reduceBEq, reduceIte, Int.reduceEq, Int.reduceLT, Int.reduceLE, reduceCtorEq, g4_0, g4_1, g4_5, g4_6, g4_7] <;> rfl), (by simp only [SY, setArgs, off, agreeKind, partVals, vals, allocV, boxed, ldA, rdCells, oneB, aggD, aField, aFieldV, aExtract, eq_self, ne_eq, if_true, if_false, not_false_eq_true, Nat.reduceAdd, Nat.reduceSub, Nat.reduceMul, Nat.reduceLT, Nat.reduceEqDiff, Nat.reduceBEq, reduceIte, Int.reduceEq, Int.reduceLT, Int.reduceLE, reduceCtorEq, g4_0, g4_1, g4_5, g4_6, g4_7] <;> rfl), (by simp only [SY, setArgs, off, agreeKind, partVals, vals, allocV, boxed, ldA, rdCells, oneB, aggD, aField, aFieldV, aExtract, eq_self, ne_eq, if_true, if_false, not_false_eq_true, Nat.reduceAdd, Nat.reduceSub, Nat.reduceMul, Nat.reduceLT, Nat.reduceEqDiff, Nat.reduceBEq, reduceIte, Int.reduceEq, Int.reduceLT, Int.reduceLE, reduceCtorEq, g4_0, g4_1, g4_5, g4_6, g4_7] <;> rfl), g19, by omega, (oo19.low (by omega)), hf⟩
              · skip
                have w22 : IntKind.i64.wrap ((k : Int) + 1) = ((k + 1 : Nat) : Int) := by rw [IntWalk.i64_in] <;> omega
                try simp (disch := first | omega | assumption) only [E0_G, SY, setArgs, off, agreeKind, partVals, vals, allocV, boxed, ldA, rdCells, oneB, aggD, aField, aFieldV, aExtract, eq_self, ne_eq, if_true, if_false, not_false_eq_true, Nat.reduceAdd, Nat.reduceSub, Nat.reduceMul, Nat.reduceLT, Nat.reduceEqDiff, Nat.reduceBEq, reduceIte, Int.reduceEq, Int.reduceLT, Int.reduceLE, reduceCtorEq, TY_EvA11, and_fold, or_fold, not_fold, g4_0, g4_1, g4_5, g4_6, g4_7, w2, h3a, w5, h6a, nn7_24, store_agree, store_refl E0_same, i8, j8, m8_0, m8_1, i9, j9, m9_0, m9_1, j10_8, i10, j10, m10_0, m10_1, j11_9, i11, j11, m11_0, m11_1, y12, v8_13, v9_13, v10_13, v11_13, s13, e13, b13, v8_16, v9_16, v10_16, v11_16, k16, b16, h18a, w22] at he
                rw [drop_cons' hx4] at hd4
                have hf := (show _ = (R89_1 a b i o (b.drop (k + 1)) p : (List Sp)) from (if_neg h18).trans (rfl)).symm.trans hd4
                exact .next he (m - 1) (by omega) ⟨(k + 1), v_p, p, by first | omega | (simp; omega) | simp, by first | omega | (simp; omega) | simp, by first | omega | (simp; omega) | simp, (by simp only [SY, setArgs, off, agreeKind, partVals, vals, allocV, boxed, ldA, rdCells, oneB, aggD, aField, aFieldV, aExtract, eq_self, ne_eq, if_true, if_false, not_false_eq_true, Nat.reduceAdd, Nat.reduceSub, Nat.reduceMul, Nat.reduceLT, Nat.reduceEqDiff, Nat.reduceBEq, reduceIte, Int.reduceEq, Int.reduceLT, Int.reduceLE, reduceCtorEq, g4_0, g4_1, g4_5, g4_6, g4_7] <;> rfl), (by simp only [SY, setArgs, off, agreeKind, partVals, vals, allocV, boxed, ldA, rdCells, oneB, aggD, aField, aFieldV, aExtract, eq_self, ne_eq, if_true, if_false, not_false_eq_true, Nat.reduceAdd, Nat.reduceSub, Nat.reduceMul, Nat.reduceLT, Nat.reduceEqDiff, Nat.reduceBEq, reduceIte, Int.reduceEq, Int.reduceLT, Int.reduceLE, reduceCtorEq, g4_0, g4_1, g4_5, g4_6, g4_7] <;> rfl), (by simp only [SY, setArgs, off, agreeKind, partVals, vals, allocV, boxed, ldA, rdCells, oneB, aggD, aField, aFieldV, aExtract, eq_self, ne_eq, if_true, if_false, not_false_eq_true, Nat.reduceAdd, Nat.reduceSub, Nat.reduceMul, Nat.reduceLT, Nat.reduceEqDiff, Nat.reduceBEq, reduceIte, Int.reduceEq, Int.reduceLT, Int.reduceLE, reduceCtorEq, g4_0, g4_1, g4_5, g4_6, g4_7] <;> rfl), (by simp only [SY, setArgs, off, agreeKind, partVals, vals, allocV, boxed, ldA, rdCells, oneB, aggD, aField, aFieldV, aExtract, eq_self, ne_eq, if_true, if_false, not_false_eq_true, Nat.reduceAdd, Nat.reduceSub, Nat.reduceMul, Nat.reduceLT, Nat.reduceEqDiff, Nat.reduceBEq, reduceIte, Int.reduceEq, Int.reduceLT, Int.reduceLE, reduceCtorEq, g4_0, g4_1, g4_5, g4_6, g4_7] <;> rfl), (by simp only [SY, setArgs, off, agreeKind, partVals, vals, allocV, boxed, ldA, rdCells, oneB, aggD, aField, aFieldV, aExtract, eq_self, ne_eq, if_true, if_false, not_false_eq_true, Nat.reduceAdd, Nat.reduceSub, Nat.reduceMul, Nat.reduceLT, Nat.reduceEqDiff, Nat.reduceBEq, reduceIte, Int.reduceEq, Int.reduceLT, Int.reduceLE, reduceCtorEq, g4_0, g4_1, g4_5, g4_6, g4_7] <;> rfl), g16, by omega, (ow_17.low (by omega)), hf⟩
            · skip
              try simp (disch := first | omega | assumption) only [E0_G, SY, setArgs, off, agreeKind, partVals, vals, allocV, boxed, ldA, rdCells, oneB, aggD, aField, aFieldV, aExtract, eq_self, ne_eq, if_true, if_false, not_false_eq_true, Nat.reduceAdd, Nat.reduceSub, Nat.reduceMul, Nat.reduceLT, Nat.reduceEqDiff, Nat.reduceBEq, reduceIte, Int.reduceEq, Int.reduceLT, Int.reduceLE, reduceCtorEq, TY_EvA11, and_fold, or_fold, not_fold, g4_0, g4_1, g4_5, g4_6, g4_7, w2, h3a, w5, h6a] at he
              rw [List.drop_eq_nil_of_le (show b.length ≤ k by omega)] at hd4
              have hf := (show _ = (p : (List Sp)) from rfl).symm.trans hd4
              exact .exit he ⟨rfl, ⟨k, v_p, p, (by simp only [SY, setArgs, off, agreeKind, partVals, vals, allocV, boxed, ldA, rdCells, oneB, aggD, aField, aFieldV, aExtract, eq_self, ne_eq, if_true, if_false, not_false_eq_true, Nat.reduceAdd, Nat.reduceSub, Nat.reduceMul, Nat.reduceLT, Nat.reduceEqDiff, Nat.reduceBEq, reduceIte, Int.reduceEq, Int.reduceLT, Int.reduceLE, reduceCtorEq, g4_0, g4_1, g4_5, g4_6, g4_7] <;> rfl), (by simp only [SY, setArgs, off, agreeKind, partVals, vals, allocV, boxed, ldA, rdCells, oneB, aggD, aField, aFieldV, aExtract, eq_self, ne_eq, if_true, if_false, not_false_eq_true, Nat.reduceAdd, Nat.reduceSub, Nat.reduceMul, Nat.reduceLT, Nat.reduceEqDiff, Nat.reduceBEq, reduceIte, Int.reduceEq, Int.reduceLT, Int.reduceLE, reduceCtorEq, g4_0, g4_1, g4_5, g4_6, g4_7] <;> rfl), (by simp only [SY, setArgs, off, agreeKind, partVals, vals, allocV, boxed, ldA, rdCells, oneB, aggD, aField, aFieldV, aExtract, eq_self, ne_eq, if_true, if_false, not_false_eq_true, Nat.reduceAdd, Nat.reduceSub, Nat.reduceMul, Nat.reduceLT, Nat.reduceEqDiff, Nat.reduceBEq, reduceIte, Int.reduceEq, Int.reduceLT, Int.reduceLE, reduceCtorEq, g4_0, g4_1, g4_5, g4_6, g4_7] <;> rfl), (by simp only [SY, setArgs, off, agreeKind, partVals, vals, allocV, boxed, ldA, rdCells, oneB, aggD, aField, aFieldV, aExtract, eq_self, ne_eq, if_true, if_false, not_false_eq_true, Nat.reduceAdd, Nat.reduceSub, Nat.reduceMul, Nat.reduceLT, Nat.reduceEqDiff, Nat.reduceBEq, reduceIte, Int.reduceEq, Int.reduceLT, Int.reduceLE, reduceCtorEq, g4_0, g4_1, g4_5, g4_6, g4_7] <;> rfl), ga4, by omega, (ow_p.low (by omega)), by first | omega | assumption | simp, by first | omega | assumption | simp, hf.symm⟩⟩)
        obtain ⟨rfl, k, v_p, p, ge4_0, ge4_1, ge4_5, ge4_6, ge4, gm4, oe_p4, hj4_0, hj4_1, hR4⟩ := hQ4
        obtain rfl : p = R89_1 a b i o b o := hR4.symm
        have w24 : IntKind.i64.wrap ((i : Int) + 1) = ((i + 1 : Nat) : Int) := by rw [IntWalk.i64_in] <;> omega
        try simp (disch := first | omega | assumption) only [E0_G, SY, setArgs, off, agreeKind, partVals, vals, allocV, boxed, ldA, rdCells, oneB, aggD, aField, aFieldV, aExtract, eq_self, ne_eq, if_true, if_false, not_false_eq_true, Nat.reduceAdd, Nat.reduceSub, Nat.reduceMul, Nat.reduceLT, Nat.reduceEqDiff, Nat.reduceBEq, reduceIte, Int.reduceEq, Int.reduceLT, Int.reduceLE, reduceCtorEq, TY_EvA11, and_fold, or_fold, not_fold, w2, h3a, ge4_0, ge4_1, ge4_5, ge4_6, w24] at he
        rw [drop_cons' (List.getElem?_eq_getElem (show i < _ by omega))] at hd1
        have hf := (show _ = (R89_0 a b (a.drop (i + 1)) (i + 1) (R89_1 a b i o b o) : (List Sp)) from rfl).symm.trans hd1
        exact .next he (m - 1) (by omega) ⟨(i + 1), v_p, R89_1 a b i o b o, by first | omega | (simp; omega) | simp, by first | omega | (simp; omega) | simp, by first | omega | (simp; omega) | simp, (by simp only [SY, setArgs, off, agreeKind, partVals, vals, allocV, boxed, ldA, rdCells, oneB, aggD, aField, aFieldV, aExtract, eq_self, ne_eq, if_true, if_false, not_false_eq_true, Nat.reduceAdd, Nat.reduceSub, Nat.reduceMul, Nat.reduceLT, Nat.reduceEqDiff, Nat.reduceBEq, reduceIte, Int.reduceEq, Int.reduceLT, Int.reduceLE, reduceCtorEq, ge4_0, ge4_1, ge4_5, ge4_6] <;> rfl), (by simp only [SY, setArgs, off, agreeKind, partVals, vals, allocV, boxed, ldA, rdCells, oneB, aggD, aField, aFieldV, aExtract, eq_self, ne_eq, if_true, if_false, not_false_eq_true, Nat.reduceAdd, Nat.reduceSub, Nat.reduceMul, Nat.reduceLT, Nat.reduceEqDiff, Nat.reduceBEq, reduceIte, Int.reduceEq, Int.reduceLT, Int.reduceLE, reduceCtorEq, ge4_0, ge4_1, ge4_5, ge4_6] <;> rfl), (by simp only [SY, setArgs, off, agreeKind, partVals, vals, allocV, boxed, ldA, rdCells, oneB, aggD, aField, aFieldV, aExtract, eq_self, ne_eq, if_true, if_false, not_false_eq_true, Nat.reduceAdd, Nat.reduceSub, Nat.reduceMul, Nat.reduceLT, Nat.reduceEqDiff, Nat.reduceBEq, reduceIte, Int.reduceEq, Int.reduceLT, Int.reduceLE, reduceCtorEq, ge4_0, ge4_1, ge4_5, ge4_6] <;> rfl), (by simp only [SY, setArgs, off, agreeKind, partVals, vals, allocV, boxed, ldA, rdCells, oneB, aggD, aField, aFieldV, aExtract, eq_self, ne_eq, if_true, if_false, not_false_eq_true, Nat.reduceAdd, Nat.reduceSub, Nat.reduceMul, Nat.reduceLT, Nat.reduceEqDiff, Nat.reduceBEq, reduceIte, Int.reduceEq, Int.reduceLT, Int.reduceLE, reduceCtorEq, ge4_0, ge4_1, ge4_5, ge4_6] <;> rfl), ge4, by omega, (oe_p4.low (by omega)), hf⟩
      · skip
        try simp (disch := first | omega | assumption) only [E0_G, SY, setArgs, off, agreeKind, partVals, vals, allocV, boxed, ldA, rdCells, oneB, aggD, aField, aFieldV, aExtract, eq_self, ne_eq, if_true, if_false, not_false_eq_true, Nat.reduceAdd, Nat.reduceSub, Nat.reduceMul, Nat.reduceLT, Nat.reduceEqDiff, Nat.reduceBEq, reduceIte, Int.reduceEq, Int.reduceLT, Int.reduceLE, reduceCtorEq, TY_EvA11, and_fold, or_fold, not_fold, g1_0, g1_1, g1_5, g1_6, w2, h3a] at he
        rw [List.drop_eq_nil_of_le (show a.length ≤ i by omega)] at hd1
        have hf := (show _ = (o : (List Sp)) from rfl).symm.trans hd1
        exact .exit he ⟨rfl, ⟨i, v_o, o, (by simp only [SY, setArgs, off, agreeKind, partVals, vals, allocV, boxed, ldA, rdCells, oneB, aggD, aField, aFieldV, aExtract, eq_self, ne_eq, if_true, if_false, not_false_eq_true, Nat.reduceAdd, Nat.reduceSub, Nat.reduceMul, Nat.reduceLT, Nat.reduceEqDiff, Nat.reduceBEq, reduceIte, Int.reduceEq, Int.reduceLT, Int.reduceLE, reduceCtorEq, g1_0, g1_1, g1_5, g1_6] <;> rfl), ga1, by omega, (ow_o.low (by omega)), by first | omega | assumption | simp, by first | omega | assumption | simp, hf.symm⟩⟩)
  obtain ⟨rfl, i, v_o, o, ge1_5, ge1, gm1, oe_o1, hj1_0, hj1_1, hR1⟩ := hQ1
  obtain rfl : o = R89_0 a b a 0 ([]) := hR1.symm
  try simp (disch := first | omega | assumption) only [E0_G, SY, setArgs, off, agreeKind, partVals, vals, allocV, boxed, ldA, rdCells, oneB, aggD, aField, aFieldV, aExtract, eq_self, ne_eq, if_true, if_false, not_false_eq_true, Nat.reduceAdd, Nat.reduceSub, Nat.reduceMul, Nat.reduceLT, Nat.reduceEqDiff, Nat.reduceBEq, reduceIte, Int.reduceEq, Int.reduceLT, Int.reduceLE, reduceCtorEq, TY_EvA11, and_fold, or_fold, not_fold, ge1_5] at hz
  have hr : r89 a b = R89_0 a b a 0 ([]) := rfl
  exact ⟨v_o, S1e, by first | (rw [hr]; exact hz.symm) | exact hz.symm, ge1, by rw [hr]; exact oe_o1.low (by omega)⟩
end Great
end Go.Proofs
end
section
/-
  The great seat of stage 1: the specification's sets, by the generator.
-/
set_option linter.unusedSimpArgs false
set_option linter.unusedVariables false
namespace Go.Proofs
namespace Great
open Go Go.RowKit Go.Aev
set_option maxRecDepth 100000
/-- What is known of the types. -/
theorem TY_EvA12 : type_of% (And.intro (And.intro (And.intro (And.intro (And.intro (And.intro Tryz.underlying3 tz3) (And.intro tt3 (And.intro t0_3 Tryz.underlying22))) (And.intro (And.intro tz22 tt22) (And.intro t0_22 (And.intro Tryz.underlying56 tz43)))) (And.intro (And.intro (And.intro tt43 t0_43) (And.intro Tryz.underlying59 (And.intro tz44 tt44))) (And.intro (And.intro t0_44 Tryz.underlying60) (And.intro tz45 (And.intro tt45 t0_45))))) (And.intro (And.intro (And.intro (And.intro Tryz.underlying62 tz51) (And.intro tt51 (And.intro t0_51 Tryz.underlying63))) (And.intro (And.intro tz52 tt52) (And.intro t0_52 (And.intro Tryz.underlying43 tz55)))) (And.intro (And.intro (And.intro tt55 t0_55) (And.intro Tryz.underlying44 (And.intro tz56 tt56))) (And.intro (And.intro t0_56 Tryz.underlying45) (And.intro tz57 (And.intro tt57 t0_57)))))) (And.intro (And.intro (And.intro (And.intro (And.intro Tryz.underlying46 tz58) (And.intro tt58 (And.intro t0_58 Tryz.underlying66))) (And.intro (And.intro tz77 tt77) (And.intro t0_77 (And.intro Tryz.underlying73 tz80)))) (And.intro (And.intro (And.intro tt80 t0_80) (And.intro Tryz.underlying82 (And.intro tz90 tt90))) (And.intro (And.intro t0_90 Tryz.underlying89) (And.intro tz110 (And.intro tt110 t0_110))))) (And.intro (And.intro (And.intro (And.intro Tryz.underlying94 tz115) (And.intro tt115 (And.intro t0_115 Tryz.underlying95))) (And.intro (And.intro tz116 tt116) (And.intro t0_116 (And.intro Tryz.underlying76 tz123)))) (And.intro (And.intro (And.intro tt123 t0_123) (And.intro Tryz.underlying136 (And.intro tz177 tt177))) (And.intro (And.intro t0_177 Tryz.underlying137) (And.intro tz178 (And.intro tt178 t0_178))))))) := (And.intro (And.intro (And.intro (And.intro (And.intro (And.intro Tryz.underlying3 tz3) (And.intro tt3 (And.intro t0_3 Tryz.underlying22))) (And.intro (And.intro tz22 tt22) (And.intro t0_22 (And.intro Tryz.underlying56 tz43)))) (And.intro (And.intro (And.intro tt43 t0_43) (And.intro Tryz.underlying59 (And.intro tz44 tt44))) (And.intro (And.intro t0_44 Tryz.underlying60) (And.intro tz45 (And.intro tt45 t0_45))))) (And.intro (And.intro (And.intro (And.intro Tryz.underlying62 tz51) (And.intro tt51 (And.intro t0_51 Tryz.underlying63))) (And.intro (And.intro tz52 tt52) (And.intro t0_52 (And.intro Tryz.underlying43 tz55)))) (And.intro (And.intro (And.intro tt55 t0_55) (And.intro Tryz.underlying44 (And.intro tz56 tt56))) (And.intro (And.intro t0_56 Tryz.underlying45) (And.intro tz57 (And.intro tt57 t0_57)))))) (And.intro (And.intro (And.intro (And.intro (And.intro Tryz.underlying46 tz58) (And.intro tt58 (And.intro t0_58 Tryz.underlying66))) (And.intro (And.intro tz77 tt77) (And.intro t0_77 (And.intro Tryz.underlying73 tz80)))) (And.intro (And.intro (And.intro tt80 t0_80) (And.intro Tryz.underlying82 (And.intro tz90 tt90))) (And.intro (And.intro t0_90 Tryz.underlying89) (And.intro tz110 (And.intro tt110 t0_110))))) (And.intro (And.intro (And.intro (And.intro Tryz.underlying94 tz115) (And.intro tt115 (And.intro t0_115 Tryz.underlying95))) (And.intro (And.intro tz116 tt116) (And.intro t0_116 (And.intro Tryz.underlying76 tz123)))) (And.intro (And.intro (And.intro tt123 t0_123) (And.intro Tryz.underlying136 (And.intro tz177 tt177))) (And.intro (And.intro t0_177 Tryz.underlying137) (And.intro tz178 (And.intro tt178 t0_178)))))))

theorem R89_1_len (a b : List Sp) (i : Nat) (o : List Sp) : ∀ (m p : List Sp), (R89_1 a b i o m p).length ≤ m.length + p.length := by
  intro m
  induction m with
  | nil => intro p; simp [R89_1]
  | cons x m ih =>
    intro p
    unfold R89_1
    split
    · refine Nat.le_trans (ih _) ?_
      have := r131_len p (max ((lget a i).lo) x.lo) (min ((lget a i).hi) x.hi)
      simp; omega
    · refine Nat.le_trans (ih _) ?_
      simp
theorem R89_0_len (a b : List Sp) (hb : b.length ≤ 130) : ∀ (m : List Sp) (i : Nat) (o : List Sp), (R89_0 a b m i o).length ≤ m.length * 130 + o.length := by
  intro m
  induction m with
  | nil => intro i o; simp [R89_0]
  | cons x m ih =>
    intro i o
    unfold R89_0
    refine Nat.le_trans (ih _ _) ?_
    have := R89_1_len a b i o b o
    simp only [List.length_cons]; omega
theorem r89_len (a b : List Sp) (hb : b.length ≤ 130) : (r89 a b).length ≤ a.length * 130 := by simpa [r89] using R89_0_len a b hb a 0 []

def r25 (a : List Ar) (b : List Ar) : List Ar := (r87 ((r89 ((r88 (a : List Ar)) : List Sp) ((r88 (b : List Ar)) : List Sp)) : List Sp))
set_option maxHeartbeats 2000000 in
theorem c25 (a : List Ar) (b : List Ar) (hna : a.length ≤ 60) (hnb : b.length ≤ 60) (S : AS) (v_a : Value) (hv_a : Lst S v_a a) (v_b : Value) (hv_b : Lst S v_b b) :
    ∃ v' S', (evL Tryz.prog E0).call 21 #[v_a, v_b] S = some (v', S') ∧ Agree S S' ∧ Own 44 S.next S' v' (r25 a b) := by
  generalize hz : (evL Tryz.prog E0).call 21 _ _ = z
  rw [L_call, evCall_said rfl Tryz.func21 rfl (by decide) Tryz.ntmps21 Tryz.results21] at hz
  obtain ⟨u1, S1, k1, a1, oo1⟩ := c88 (a : List Ar) (by first | omega | (simp; omega) | (simp; done) | assumption) S (v_a) (hv_a) 
  have l1 := a1.1
  have s1 : E0.same S S1 = true := symEnv_same a1
  have g1 : Agree S S1 := a1
  have p1 := r88_len (a : List Ar)
  obtain ⟨u2, S2, k2, a2, oo2⟩ := c88 (b : List Ar) (by first | omega | (simp; omega) | (simp; done) | assumption) S1 (v_b) (hv_b.agree g1) 
  have l2 := a2.1
  have s2 : E0.same S1 S2 = true := symEnv_same a2
  have o1_3 := oo1.agree a2
  have g2 : Agree S S2 := g1.trans a2
  have p2 := r88_len (b : List Ar)
  obtain ⟨u4, S4, k4, a4, oo4⟩ := c89 ((r88 (a : List Ar)) : List Sp) ((r88 (b : List Ar)) : List Sp) (by first | omega | (simp; omega) | (simp; done) | assumption) (by first | omega | (simp; omega) | (simp; done) | assumption) S2 (u1) (o1_3.rows) (u2) (oo2.rows) 
  have l4 := a4.1
  have s4 : E0.same S2 S4 = true := symEnv_same a4
  have o1_5 := o1_3.agree a4
  have o2_6 := oo2.agree a4
  have g4 : Agree S S4 := g2.trans a4
  have p4 := r89_len ((r88 (a : List Ar)) : List Sp) ((r88 (b : List Ar)) : List Sp) (by omega)
  obtain ⟨u7, S7, k7, a7, oo7⟩ := c87 ((r89 ((r88 (a : List Ar)) : List Sp) ((r88 (b : List Ar)) : List Sp)) : List Sp) (by first | omega | (simp; omega) | (simp; done) | assumption) S4 (u4) (oo4.rows) 
  have l7 := a7.1
  have s7 : E0.same S4 S7 = true := symEnv_same a7
  have o1_8 := o1_5.agree a7
  have o2_9 := o2_6.agree a7
  have o4_10 := oo4.agree a7
  have g7 : Agree S S7 := g4.trans a7
  try simp (disch := first | omega | assumption) only [E0_G, SY, setArgs, off, agreeKind, partVals, vals, allocV, boxed, ldA, rdCells, oneB, aggD, aField, aFieldV, aExtract, eq_self, ne_eq, if_true, if_false, not_false_eq_true, Nat.reduceAdd, Nat.reduceSub, Nat.reduceMul, Nat.reduceLT, Nat.reduceEqDiff, Nat.reduceBEq, reduceIte, Int.reduceEq, Int.reduceLT, Int.reduceLE, reduceCtorEq, TY_EvA12, and_fold, or_fold, not_fold, k1, s1, k2, s2, k4, s4, k7, s7] at hz
  have hr : r25 a b = (r87 ((r89 ((r88 (a : List Ar)) : List Sp) ((r88 (b : List Ar)) : List Sp)) : List Sp)) := rfl
  exact ⟨u7, S7, by first | (rw [hr]; exact hz.symm) | exact hz.symm, g7, by rw [hr]; exact oo7.low (by omega)⟩

end Great
end Go.Proofs
end
