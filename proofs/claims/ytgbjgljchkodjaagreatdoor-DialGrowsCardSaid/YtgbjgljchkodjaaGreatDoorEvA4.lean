/-
  The great seat of stage 1: spans, by the generator.
-/
import Derived.Test.YtgbjgljchkodjaaGreatDoorEvA3
set_option linter.unusedSimpArgs false
set_option linter.unusedVariables false
namespace Go.Proofs
namespace Great
open Go Go.RowKit Go.Aev
set_option maxRecDepth 100000
theorem tz110 : szOf Tryz.prog 89 = some 1 := by kernel_rfl
theorem tt110 : inTab Tryz.prog 89 = true := by kernel_rfl
theorem t0_110 : zeroOf Tryz.prog 89 = some (.slice none 0 0) := by kernel_rfl
theorem tz115 : szOf Tryz.prog 94 = some 2 := by kernel_rfl
theorem tt115 : inTab Tryz.prog 94 = true := by kernel_rfl
theorem t0_115 : zeroOf Tryz.prog 94 = some (.agg #[.int .i64 0, .int .i64 0]) := by kernel_rfl
theorem tz116 : szOf Tryz.prog 95 = some 2 := by kernel_rfl
theorem tt116 : inTab Tryz.prog 95 = true := by kernel_rfl
theorem t0_116 : zeroOf Tryz.prog 95 = some (.agg #[.int .i64 0, .int .i64 0]) := by kernel_rfl
theorem ti116 : (Tryz.prog.info? 95).map (fun i => Nat.ble i.bytes 65536) = some true := by kernel_rfl
theorem tv116 : (zeroOf Tryz.prog 95).isSome = true := by kernel_rfl
/-- What is known of the types. -/
theorem TY_EvA4 : type_of% (And.intro (And.intro (And.intro (And.intro (And.intro (And.intro Tryz.underlying3 tz3) (And.intro tt3 t0_3)) (And.intro (And.intro Tryz.underlying22 tz22) (And.intro tt22 t0_22))) (And.intro (And.intro (And.intro Tryz.underlying56 tz43) (And.intro tt43 t0_43)) (And.intro (And.intro Tryz.underlying59 tz44) (And.intro tt44 (And.intro t0_44 Tryz.underlying60))))) (And.intro (And.intro (And.intro (And.intro tz45 tt45) (And.intro t0_45 Tryz.underlying62)) (And.intro (And.intro tz51 tt51) (And.intro t0_51 Tryz.underlying63))) (And.intro (And.intro (And.intro tz52 tt52) (And.intro t0_52 Tryz.underlying43)) (And.intro (And.intro tz55 tt55) (And.intro t0_55 (And.intro Tryz.underlying44 tz56)))))) (And.intro (And.intro (And.intro (And.intro (And.intro tt56 t0_56) (And.intro Tryz.underlying45 tz57)) (And.intro (And.intro tt57 t0_57) (And.intro Tryz.underlying46 tz58))) (And.intro (And.intro (And.intro tt58 t0_58) (And.intro Tryz.underlying66 tz77)) (And.intro (And.intro tt77 t0_77) (And.intro Tryz.underlying73 (And.intro tz80 tt80))))) (And.intro (And.intro (And.intro (And.intro t0_80 Tryz.underlying89) (And.intro tz110 tt110)) (And.intro (And.intro t0_110 Tryz.underlying94) (And.intro tz115 tt115))) (And.intro (And.intro (And.intro t0_115 Tryz.underlying95) (And.intro tz116 tt116)) (And.intro (And.intro t0_116 Tryz.underlying76) (And.intro tz123 (And.intro tt123 t0_123))))))) := (And.intro (And.intro (And.intro (And.intro (And.intro (And.intro Tryz.underlying3 tz3) (And.intro tt3 t0_3)) (And.intro (And.intro Tryz.underlying22 tz22) (And.intro tt22 t0_22))) (And.intro (And.intro (And.intro Tryz.underlying56 tz43) (And.intro tt43 t0_43)) (And.intro (And.intro Tryz.underlying59 tz44) (And.intro tt44 (And.intro t0_44 Tryz.underlying60))))) (And.intro (And.intro (And.intro (And.intro tz45 tt45) (And.intro t0_45 Tryz.underlying62)) (And.intro (And.intro tz51 tt51) (And.intro t0_51 Tryz.underlying63))) (And.intro (And.intro (And.intro tz52 tt52) (And.intro t0_52 Tryz.underlying43)) (And.intro (And.intro tz55 tt55) (And.intro t0_55 (And.intro Tryz.underlying44 tz56)))))) (And.intro (And.intro (And.intro (And.intro (And.intro tt56 t0_56) (And.intro Tryz.underlying45 tz57)) (And.intro (And.intro tt57 t0_57) (And.intro Tryz.underlying46 tz58))) (And.intro (And.intro (And.intro tt58 t0_58) (And.intro Tryz.underlying66 tz77)) (And.intro (And.intro tt77 t0_77) (And.intro Tryz.underlying73 (And.intro tz80 tt80))))) (And.intro (And.intro (And.intro (And.intro t0_80 Tryz.underlying89) (And.intro tz110 tt110)) (And.intro (And.intro t0_110 Tryz.underlying94) (And.intro tz115 tt115))) (And.intro (And.intro (And.intro t0_115 Tryz.underlying95) (And.intro tz116 tt116)) (And.intro (And.intro t0_116 Tryz.underlying76) (And.intro tz123 (And.intro tt123 t0_123)))))))
def R131_0 (l : List Sp) (lo hi : Int)  : List Sp → Int → Int → List Sp → Int × Int × (List Sp)
  | [], p, q, o => (p, q, o)
  | x2 :: l', p, q, o => (if (IntKind.i64.wrap (x2.hi + 1)) < p then R131_0 l lo hi l' p q (o ++ ([(⟨x2.lo, x2.hi⟩ : Sp)])) else (if (IntKind.i64.wrap (q + 1)) < x2.lo then R131_0 l lo hi l' p q (o ++ ([(⟨x2.lo, x2.hi⟩ : Sp)])) else R131_0 l lo hi l' (min p x2.lo) (max q x2.hi) o))
def R131_1 (l : List Sp) (lo hi : Int)  : List Sp → Nat → Nat
  | [], k => k
  | x36 :: l', k => (if x36.lo < ((R131_0 l lo hi l lo hi ([])).1) then R131_1 l lo hi l' (k + 1) else k)
def r131 (l : List Sp) (lo hi : Int) : List Sp := ((([] : List Sp) ++ (((R131_0 l lo hi l lo hi ([])).2.2).take (R131_1 l lo hi ((R131_0 l lo hi l lo hi ([])).2.2) 0))) ++ ([(⟨(R131_0 l lo hi l lo hi ([])).1, (R131_0 l lo hi l lo hi ([])).2.1⟩ : Sp)])) ++ (((R131_0 l lo hi l lo hi ([])).2.2).drop (R131_1 l lo hi ((R131_0 l lo hi l lo hi ([])).2.2) 0))
set_option maxHeartbeats 2000000 in
theorem c131 (l : List Sp) (lo hi : Int) (hn : l.length ≤ 60000) (S : AS) (v_l : Value) (hv_l : Lst S v_l l) :
    ∃ v' S', (evL Tryz.prog E0).call 83 #[v_l, .agg #[.int .i64 lo, .int .i64 hi]] S = some (v', S') ∧ Agree S S' ∧ Own 95 S.next S' v' (r131 l lo hi) := by
  generalize hz : (evL Tryz.prog E0).call 83 _ _ = z
  rw [L_call, evCall_said rfl Tryz.func83 rfl (by decide) Tryz.ntmps83 Tryz.results83] at hz
  obtain ⟨S1, e1, n1, b1, a1⟩ := push_open S (.cells [.int .i64 lo, .int .i64 hi] 95 0 true true)
  have g1 : Agree S S1 := a1
  have s1 : E0.same S S1 = true := symEnv_same a1
  try simp (disch := first | omega | assumption) only [E0_G, SY, setArgs, off, agreeKind, boxed, Nat.reduceAdd, Nat.reduceSub, Nat.reduceLT, Nat.reduceBEq, e1] at hz
  generalize hL2 : Rec.loop _ _ _ _ = L2 at hz
  obtain ⟨x2, t2, S2e, rfl, hQ2⟩ := loop_met hL2 (fun m t S' => ∃ (p : Int) (q : Int) (i : Nat) (v_o : Value) (o : List Sp), m + i = l.length ∧ o.length ≤ i ∧ i ≤ l.length ∧ t.get 0 = some (v_l) ∧ t.get 3 = some (.pointer (some ⟨S.next, 0, none⟩)) ∧ t.get 5 = some (v_o) ∧ t.get 6 = some (.int .i64 (i : Int)) ∧ S'.heap.get S.next = some (.cells [.int .i64 p, .int .i64 q] 95 0 true true) ∧ Agree S S' ∧ S1.next ≤ S'.next ∧ Own 95 S1.next S' v_o o ∧ R131_0 l lo hi (l.drop i) p q o = R131_0 l lo hi l lo hi ([]))
    (fun x t S' => x = .exit 0 ∧ ∃ (p : Int) (q : Int) (i : Nat) (v_o : Value) (o : List Sp), t.get 3 = some (.pointer (some ⟨S.next, 0, none⟩)) ∧ t.get 5 = some (v_o) ∧ S'.heap.get S.next = some (.cells [.int .i64 p, .int .i64 q] 95 0 true true) ∧ Agree S S' ∧ S1.next ≤ S'.next ∧ Own 95 S1.next S' v_o o ∧ o.length ≤ i ∧ i ≤ l.length ∧ R131_0 l lo hi l lo hi ([]) = (p, q, o)) (l.length - 0) ⟨lo, hi, 0, .slice none 0 0, [], by first | rfl | omega | (simp; omega) | simp, by first | rfl | omega | (simp; omega) | simp, by first | rfl | omega | (simp; omega) | simp, by simp only [SY, eq_self, Nat.reduceBEq] <;> rfl, by simp only [SY, eq_self, Nat.reduceBEq] <;> rfl, by simp only [SY, eq_self, Nat.reduceBEq] <;> rfl, by simp only [SY, Nat.reduceBEq] <;> rfl, b1, g1, Nat.le_refl _, Own.nil _ _ _, rfl⟩ (by
      rintro m t S2 ⟨p, q, i, v_o, o, hi2_0, hi2_1, hi2_2, g2_0, g2_3, g2_5, g2_6, bb2_1, ga2, gn2, ow_o, hd2⟩
      refine .run fun z he => ?_
      have w3 := (hv_l.agree ga2).len (P := Tryz.prog) (t := 89) Tryz.underlying89
      try simp (disch := first | omega | assumption) only [E0_G, SY, off, agreeKind, Nat.reduceAdd, Nat.reduceLT, Nat.reduceBEq, g2_0, g2_6, w3] at he
      rcases dP ((i : Int) < (l.length : Int)) with ⟨h4a, h4⟩ | ⟨h4a, h4⟩
      · skip
        try simp (disch := first | omega | assumption) only [SY, h4a] at he
        rw [code_draws _ _ _ (by kernel_rfl)] at he
        generalize hnd5 : needy _ = nd5 at he
        have hx2 : l[i]? = some (l[i]'(by first | omega | simp; omega)) := List.getElem?_eq_getElem _
        generalize l[i]'_ = x2 at hx2
        obtain ⟨id6, of6, cc6, ty6, wr6, ex6, i6, j6, l6, q6⟩ := (hv_l).at (P := Tryz.prog) (t := 89) Tryz.underlying89 tz116 hx2
        have j6 := (ga2.2 id6 l6).trans j6
        have m6_0 : cc6[of6]? = some (.int .i64 x2.lo) := q6 0 (show 0 < 2 by decide)
        have m6_1 : cc6[of6 + 1]? = some (.int .i64 x2.hi) := q6 1 (show 1 < 2 by decide)
        try simp (disch := first | omega | assumption) only [E0_G, SY, agreeKind, ldA, aggD, aField, Nat.reduceAdd, Nat.reduceLT, Nat.reduceBEq, TY_EvA4, g2_0, g2_3, g2_6, bb2_1, store_refl E0_same, i6, j6, m6_1] at he
        rcases dP ((IntKind.i64.wrap (x2.hi + 1)) < p) with ⟨h7a, h7⟩ | ⟨h7a, h7⟩
        · skip
          obtain ⟨id8, of8, cc8, ty8, wr8, ex8, i8, j8, l8, q8⟩ := (hv_l).at (P := Tryz.prog) (t := 89) Tryz.underlying89 tz116 hx2
          have j8 := (ga2.2 id8 l8).trans j8
          have m8_0 : cc8[of8]? = some (.int .i64 x2.lo) := q8 0 (show 0 < 2 by decide)
          have m8_1 : cc8[of8 + 1]? = some (.int .i64 x2.hi) := q8 1 (show 1 < 2 by decide)
          have y9 : aBuildSlice Tryz.prog 89 1 [(0, .agg #[.int .i64 x2.lo, .int .i64 x2.hi])] S2 = some (.slice (some ⟨S2.next, 0, none⟩) 1 1, S2.push (.cells [.int .i64 x2.lo, .int .i64 x2.hi] 95 2 true true)) := by kernel_rfl
          obtain ⟨S10, e10, n10, b10, a10⟩ := push_open S2 (.cells [.int .i64 x2.lo, .int .i64 x2.hi] 95 2 true true)
          have v1_10 := (a10.2 S.next (by omega)).trans bb2_1
          have v6_10 := (a10.2 id6 (by omega)).trans j6
          have v8_10 := (a10.2 id8 (by omega)).trans j8
          have ow_11 := ow_o.agree a10
          have g10 : Agree S S10 := ga2.trans a10
          have s10 : E0.same S2 S10 = true := symEnv_same a10
          have ne12 : blkOf (v_o) ≠ some S2.next := ow_o.new (Nat.le_refl _)
          have o13 : Own 95 S2.next S10 (.slice (some ⟨S2.next, 0, none⟩) 1 1) ([(⟨x2.lo, x2.hi⟩ : Sp)] : List Sp) := .inr ⟨_, true, rfl, Nat.le_refl _, by omega, b10⟩
          obtain ⟨u14, S14, k14, o14, n14, f14, d14⟩ := own_append (P := Tryz.prog) (t := 89) (tx := 89) (n := 1) (v := v_o) ow_11 (o13.rows) (by omega) (by first | omega | (simp; omega) | simp) (by first | omega | (simp; omega) | simp) Tryz.underlying89 Tryz.underlying89 ti116 tv116 rfl tz116
          have v1_14 := (f14 S.next (by omega) (by first | (simp [blkOf]; done) | exact ow_11.ne (by omega) | exact ow_11.new (by omega) | assumption)).trans v1_10
          have g14 : Agree S S14 := ⟨Nat.le_trans (g10).1 n14, fun id hid => (f14 id (by have := (g10).1; omega) (by first | (simp [blkOf]; done) | exact ow_11.ne (by omega) | assumption)).trans ((g10).2 id hid)⟩
          have ne15 : blkOf u14 ≠ some S.next := by first | exact o14.ne (by omega) | exact o14.new (by omega) | exact d14 _ (by omega) (by first | (simp [blkOf]; done) | exact ow_11.ne (by omega) | exact ow_11.new (by omega) | assumption)
          have w16 : IntKind.i64.wrap ((i : Int) + 1) = ((i + 1 : Nat) : Int) := by rw [IntWalk.i64_in] <;> omega
          try simp (disch := first | omega | assumption) only [E0_G, SY, off, agreeKind, partVals, ldA, rdCells, aggD, Nat.reduceAdd, Nat.reduceLT, Nat.reduceBEq, TY_EvA4, g2_0, g2_5, g2_6, store_agree, store_refl E0_same, i6, j6, m6_0, m6_1, h7a, y9, e10, k14, w16] at he
          rw [drop_cons' hx2] at hd2
          have hf := (show _ = (R131_0 l lo hi (l.drop (i + 1)) p q (o ++ ([(⟨x2.lo, x2.hi⟩ : Sp)])) : Int × Int × (List Sp)) from (if_pos h7).trans (rfl)).symm.trans hd2
          exact .next he (m - 1) (by omega) ⟨p, q, (i + 1), u14, o ++ ([(⟨x2.lo, x2.hi⟩ : Sp)]), by first | omega | (simp; omega) | simp, by first | omega | (simp; omega) | simp, by first | omega | (simp; omega) | simp, (by simp only [SY, eq_self, Nat.reduceBEq, g2_0] <;> rfl), (by simp only [SY, eq_self, Nat.reduceBEq, g2_3] <;> rfl), (by simp only [SY, eq_self, Nat.reduceBEq, g2_5] <;> rfl), (by simp only [SY, eq_self, Nat.reduceBEq, g2_6] <;> rfl), v1_14, g14, by omega, (o14.low (by omega)), hf⟩
        · skip
          obtain ⟨id17, of17, cc17, ty17, wr17, ex17, i17, j17, l17, q17⟩ := (hv_l).at (P := Tryz.prog) (t := 89) Tryz.underlying89 tz116 hx2
          have j17 := (ga2.2 id17 l17).trans j17
          have m17_0 : cc17[of17]? = some (.int .i64 x2.lo) := q17 0 (show 0 < 2 by decide)
          have m17_1 : cc17[of17 + 1]? = some (.int .i64 x2.hi) := q17 1 (show 1 < 2 by decide)
          try simp (disch := first | omega | assumption) only [E0_G, SY, agreeKind, ldA, aggD, aField, Nat.reduceAdd, Nat.reduceLT, Nat.reduceBEq, TY_EvA4, g2_0, g2_3, g2_6, bb2_1, store_refl E0_same, i6, j6, m6_0, h7a] at he
          rcases dP ((IntKind.i64.wrap (q + 1)) < x2.lo) with ⟨h18a, h18⟩ | ⟨h18a, h18⟩
          · skip
            obtain ⟨id19, of19, cc19, ty19, wr19, ex19, i19, j19, l19, q19⟩ := (hv_l).at (P := Tryz.prog) (t := 89) Tryz.underlying89 tz116 hx2
            have j19 := (ga2.2 id19 l19).trans j19
            have m19_0 : cc19[of19]? = some (.int .i64 x2.lo) := q19 0 (show 0 < 2 by decide)
            have m19_1 : cc19[of19 + 1]? = some (.int .i64 x2.hi) := q19 1 (show 1 < 2 by decide)
            have y20 : aBuildSlice Tryz.prog 89 1 [(0, .agg #[.int .i64 x2.lo, .int .i64 x2.hi])] S2 = some (.slice (some ⟨S2.next, 0, none⟩) 1 1, S2.push (.cells [.int .i64 x2.lo, .int .i64 x2.hi] 95 2 true true)) := by kernel_rfl
            obtain ⟨S21, e21, n21, b21, a21⟩ := push_open S2 (.cells [.int .i64 x2.lo, .int .i64 x2.hi] 95 2 true true)
            have v1_21 := (a21.2 S.next (by omega)).trans bb2_1
            have v6_21 := (a21.2 id6 (by omega)).trans j6
            have v17_21 := (a21.2 id17 (by omega)).trans j17
            have v19_21 := (a21.2 id19 (by omega)).trans j19
            have ow_22 := ow_o.agree a21
            have g21 : Agree S S21 := ga2.trans a21
            have s21 : E0.same S2 S21 = true := symEnv_same a21
            have ne23 : blkOf (v_o) ≠ some S2.next := ow_o.new (Nat.le_refl _)
            have o24 : Own 95 S2.next S21 (.slice (some ⟨S2.next, 0, none⟩) 1 1) ([(⟨x2.lo, x2.hi⟩ : Sp)] : List Sp) := .inr ⟨_, true, rfl, Nat.le_refl _, by omega, b21⟩
            obtain ⟨u25, S25, k25, o25, n25, f25, d25⟩ := own_append (P := Tryz.prog) (t := 89) (tx := 89) (n := 1) (v := v_o) ow_22 (o24.rows) (by omega) (by first | omega | (simp; omega) | simp) (by first | omega | (simp; omega) | simp) Tryz.underlying89 Tryz.underlying89 ti116 tv116 rfl tz116
            have v1_25 := (f25 S.next (by omega) (by first | (simp [blkOf]; done) | exact ow_22.ne (by omega) | exact ow_22.new (by omega) | assumption)).trans v1_21
            have g25 : Agree S S25 := ⟨Nat.le_trans (g21).1 n25, fun id hid => (f25 id (by have := (g21).1; omega) (by first | (simp [blkOf]; done) | exact ow_22.ne (by omega) | assumption)).trans ((g21).2 id hid)⟩
            have ne26 : blkOf u25 ≠ some S.next := by first | exact o25.ne (by omega) | exact o25.new (by omega) | exact d25 _ (by omega) (by first | (simp [blkOf]; done) | exact ow_22.ne (by omega) | exact ow_22.new (by omega) | assumption)
            have w27 : IntKind.i64.wrap ((i : Int) + 1) = ((i + 1 : Nat) : Int) := by rw [IntWalk.i64_in] <;> omega
            try simp (disch := first | omega | assumption) only [E0_G, SY, off, agreeKind, partVals, ldA, rdCells, aggD, Nat.reduceAdd, Nat.reduceLT, Nat.reduceBEq, TY_EvA4, g2_0, g2_5, g2_6, store_agree, store_refl E0_same, i6, j6, m6_0, m6_1, h18a, y20, e21, k25, w27] at he
            rw [drop_cons' hx2] at hd2
            have hf := (show _ = (R131_0 l lo hi (l.drop (i + 1)) p q (o ++ ([(⟨x2.lo, x2.hi⟩ : Sp)])) : Int × Int × (List Sp)) from (if_neg h7).trans ((if_pos h18).trans (rfl))).symm.trans hd2
            exact .next he (m - 1) (by omega) ⟨p, q, (i + 1), u25, o ++ ([(⟨x2.lo, x2.hi⟩ : Sp)]), by first | omega | (simp; omega) | simp, by first | omega | (simp; omega) | simp, by first | omega | (simp; omega) | simp, (by simp only [SY, eq_self, Nat.reduceBEq, g2_0] <;> rfl), (by simp only [SY, eq_self, Nat.reduceBEq, g2_3] <;> rfl), (by simp only [SY, eq_self, Nat.reduceBEq, g2_5] <;> rfl), (by simp only [SY, eq_self, Nat.reduceBEq, g2_6] <;> rfl), v1_25, g25, by omega, (o25.low (by omega)), hf⟩
          · skip
            try simp (disch := first | omega | assumption) only [SY, store_refl E0_same, h18a] at he
            rw [code_draws _ _ _ (by kernel_rfl)] at he
            generalize hnd28 : needy _ = nd28 at he
            have nn28_17 : nd28 17 = false := by rw [← hnd28]; kernel_rfl
            obtain ⟨id29, of29, cc29, ty29, wr29, ex29, i29, j29, l29, q29⟩ := (hv_l).at (P := Tryz.prog) (t := 89) Tryz.underlying89 tz116 hx2
            have j29 := (ga2.2 id29 l29).trans j29
            have m29_0 : cc29[of29]? = some (.int .i64 x2.lo) := q29 0 (show 0 < 2 by decide)
            have m29_1 : cc29[of29 + 1]? = some (.int .i64 x2.hi) := q29 1 (show 1 < 2 by decide)
            obtain ⟨id30, of30, cc30, ty30, wr30, ex30, i30, j30, l30, q30⟩ := (hv_l).at (P := Tryz.prog) (t := 89) Tryz.underlying89 tz116 hx2
            have j30 := (ga2.2 id30 l30).trans j30
            have m30_0 : cc30[of30]? = some (.int .i64 x2.lo) := q30 0 (show 0 < 2 by decide)
            have m30_1 : cc30[of30 + 1]? = some (.int .i64 x2.hi) := q30 1 (show 1 < 2 by decide)
            have y31 : aBuild Tryz.prog 95 [(0, .int .i64 (min p x2.lo)), (1, .int .i64 (max q x2.hi))] = some (.agg #[.int .i64 (min p x2.lo), .int .i64 (max q x2.hi)]) := by kernel_rfl
            obtain ⟨S32, k32, n32, b32, q32⟩ := st_at (o := 0) (c' := [.int .i64 (min p x2.lo), .int .i64 (max q x2.hi)]) (v := .agg #[.int .i64 (min p x2.lo), .int .i64 (max q x2.hi)]) tz116 bb2_1 rfl rfl (show 0 + 2 ≤ 2 by decide) rfl
            have v6_32 := (q32 id6 (by omega)).trans j6
            have v17_32 := (q32 id17 (by omega)).trans j17
            have v29_32 := (q32 id29 (by omega)).trans j29
            have v30_32 := (q32 id30 (by omega)).trans j30
            have ow_33 := ow_o.frame (by omega) (fun id hid hb => q32 id (fun e => (show blkOf (v_o) ≠ some S.next from by first | exact ow_o.ne (by omega) | exact ow_o.new (by omega) | assumption) (e ▸ hb)))
            have g32 : Agree S S32 := ⟨by have := (ga2).1; omega, fun id hid => (q32 id (by have := (ga2).1; omega)).trans ((ga2).2 id hid)⟩
            have w34 : IntKind.i64.wrap ((i : Int) + 1) = ((i + 1 : Nat) : Int) := by rw [IntWalk.i64_in] <;> omega
            try simp (disch := first | omega | assumption) only [E0_G, SY, off, agreeKind, partVals, ldA, aggD, aField, Nat.reduceAdd, Nat.reduceLT, Nat.reduceBEq, TY_EvA4, g2_0, g2_3, g2_6, bb2_1, store_refl E0_same, i6, j6, m6_0, m6_1, nn28_17, y31, k32, w34] at he
            rw [drop_cons' hx2] at hd2
            have hf := (show _ = (R131_0 l lo hi (l.drop (i + 1)) (min p x2.lo) (max q x2.hi) o : Int × Int × (List Sp)) from (if_neg h7).trans ((if_neg h18).trans (rfl))).symm.trans hd2
            exact .next he (m - 1) (by omega) ⟨min p x2.lo, max q x2.hi, (i + 1), v_o, o, by first | omega | (simp; omega) | simp, by first | omega | (simp; omega) | simp, by first | omega | (simp; omega) | simp, (by simp only [SY, eq_self, Nat.reduceBEq, g2_0] <;> rfl), (by simp only [SY, eq_self, Nat.reduceBEq, g2_3] <;> rfl), (by simp only [SY, eq_self, Nat.reduceBEq, g2_5] <;> rfl), (by simp only [SY, eq_self, Nat.reduceBEq, g2_6] <;> rfl), b32, g32, by omega, (ow_33.low (by omega)), hf⟩
      · skip
        try simp (disch := first | omega | assumption) only [SY, h4a] at he
        rw [List.drop_eq_nil_of_le (show l.length ≤ i by omega)] at hd2
        have hf := (show _ = ((p, q, o) : Int × Int × (List Sp)) from rfl).symm.trans hd2
        exact .exit he ⟨rfl, ⟨p, q, i, v_o, o, (by simp only [SY, eq_self, Nat.reduceBEq, g2_3] <;> rfl), (by simp only [SY, eq_self, Nat.reduceBEq, g2_5] <;> rfl), bb2_1, ga2, by omega, (ow_o.low (by omega)), by first | omega | assumption | simp, by first | omega | assumption | simp, hf.symm⟩⟩)
  obtain ⟨rfl, p, q, i, v_o, o, ge2_3, ge2_5, be2_1, ge2, gm2, oe_o2, hj2_0, hj2_1, hR2⟩ := hQ2
  obtain rfl : p = (R131_0 l lo hi l lo hi ([])).1 := by rw [hR2]
  obtain rfl : q = (R131_0 l lo hi l lo hi ([])).2.1 := by rw [hR2]
  obtain rfl : o = (R131_0 l lo hi l lo hi ([])).2.2 := by rw [hR2]
  try simp (disch := first | omega | assumption) only [E0_G, SY, off, agreeKind, eq_self, if_true, Nat.reduceLT] at hz
  generalize hL36 : Rec.loop _ _ _ _ = L36 at hz
  obtain ⟨x36, t36, S36e, rfl, hQ36⟩ := loop_met hL36 (fun m t S' => ∃ (k : Nat), m + k = ((R131_0 l lo hi l lo hi ([])).2.2).length ∧ k ≤ ((R131_0 l lo hi l lo hi ([])).2.2).length ∧ t.get 3 = some (.pointer (some ⟨S.next, 0, none⟩)) ∧ t.get 5 = some (v_o) ∧ t.get 7 = some (.int .i64 (k : Int)) ∧ S'.heap.get S.next = some (.cells [.int .i64 ((R131_0 l lo hi l lo hi ([])).1), .int .i64 ((R131_0 l lo hi l lo hi ([])).2.1)] 95 0 true true) ∧ Agree S S' ∧ S2e.next ≤ S'.next ∧ Own 95 S1.next S' v_o ((R131_0 l lo hi l lo hi ([])).2.2) ∧ R131_1 l lo hi (((R131_0 l lo hi l lo hi ([])).2.2).drop k) k = R131_1 l lo hi ((R131_0 l lo hi l lo hi ([])).2.2) 0)
    (fun x t S' => x = .exit 2 ∧ ∃ (k : Nat), t.get 3 = some (.pointer (some ⟨S.next, 0, none⟩)) ∧ t.get 5 = some (v_o) ∧ t.get 7 = some (.int .i64 (k : Int)) ∧ S'.heap.get S.next = some (.cells [.int .i64 ((R131_0 l lo hi l lo hi ([])).1), .int .i64 ((R131_0 l lo hi l lo hi ([])).2.1)] 95 0 true true) ∧ Agree S S' ∧ S2e.next ≤ S'.next ∧ Own 95 S1.next S' v_o ((R131_0 l lo hi l lo hi ([])).2.2) ∧ k ≤ ((R131_0 l lo hi l lo hi ([])).2.2).length ∧ R131_1 l lo hi ((R131_0 l lo hi l lo hi ([])).2.2) 0 = k) (((R131_0 l lo hi l lo hi ([])).2.2).length - 0) ⟨0, by first | rfl | omega | (simp; omega) | simp, by first | rfl | omega | (simp; omega) | simp, by simp only [SY, eq_self, Nat.reduceBEq, ge2_3] <;> rfl, by simp only [SY, eq_self, Nat.reduceBEq, ge2_5] <;> rfl, by simp only [SY, Nat.reduceBEq] <;> rfl, be2_1, ge2, Nat.le_refl _, oe_o2, rfl⟩ (by
      rintro m t S36 ⟨k, hi36_0, hi36_1, g36_3, g36_5, g36_7, bb36_1, ga36, gn36, cw36_0, hd36⟩
      refine .run fun z he => ?_
      try simp (disch := first | omega | assumption) only [SY] at he
      rw [code_draws _ _ _ (by kernel_rfl)] at he
      generalize hnd37 : needy _ = nd37 at he
      have w38 := (cw36_0.rows).len (P := Tryz.prog) (t := 89) Tryz.underlying89
      try simp (disch := first | omega | assumption) only [E0_G, SY, agreeKind, Nat.reduceAdd, Nat.reduceLT, Nat.reduceBEq, g36_5, g36_7, store_refl E0_same, w38] at he
      rcases dP ((k : Int) < (((R131_0 l lo hi l lo hi ([])).2.2).length : Int)) with ⟨h39a, h39⟩ | ⟨h39a, h39⟩
      · skip
        have hx36 : ((R131_0 l lo hi l lo hi ([])).2.2)[k]? = some (((R131_0 l lo hi l lo hi ([])).2.2)[k]'(by first | omega | simp; omega)) := List.getElem?_eq_getElem _
        generalize ((R131_0 l lo hi l lo hi ([])).2.2)[k]'_ = x36 at hx36
        obtain ⟨id40, of40, cc40, ty40, wr40, ex40, i40, j40, l40, q40⟩ := (cw36_0.rows).at (P := Tryz.prog) (t := 89) Tryz.underlying89 tz116 hx36
        have m40_0 : cc40[of40]? = some (.int .i64 x36.lo) := q40 0 (show 0 < 2 by decide)
        have m40_1 : cc40[of40 + 1]? = some (.int .i64 x36.hi) := q40 1 (show 1 < 2 by decide)
        try simp (disch := first | omega | assumption) only [E0_G, SY, agreeKind, ldA, aggD, aField, Nat.reduceAdd, Nat.reduceLT, Nat.reduceBEq, TY_EvA4, g36_3, g36_5, g36_7, bb36_1, store_refl E0_same, h39a, i40, j40, m40_0] at he
        rcases dP (x36.lo < ((R131_0 l lo hi l lo hi ([])).1)) with ⟨h41a, h41⟩ | ⟨h41a, h41⟩
        · skip
          have w42 : IntKind.i64.wrap ((k : Int) + 1) = ((k + 1 : Nat) : Int) := by rw [IntWalk.i64_in] <;> omega
          try simp (disch := first | omega | assumption) only [E0_G, SY, off, agreeKind, Nat.reduceAdd, Nat.reduceLT, Nat.reduceBEq, g36_7, store_refl E0_same, h41a, w42] at he
          rw [drop_cons' hx36] at hd36
          have hf := (show _ = (R131_1 l lo hi (((R131_0 l lo hi l lo hi ([])).2.2).drop (k + 1)) (k + 1) : Nat) from (if_pos h41).trans (rfl)).symm.trans hd36
          exact .next he (m - 1) (by omega) ⟨(k + 1), by first | omega | (simp; omega) | simp, by first | omega | (simp; omega) | simp, (by simp only [SY, eq_self, Nat.reduceBEq, g36_3] <;> rfl), (by simp only [SY, eq_self, Nat.reduceBEq, g36_5] <;> rfl), (by simp only [SY, eq_self, Nat.reduceBEq, g36_7] <;> rfl), bb36_1, ga36, by omega, cw36_0, hf⟩
        · skip
          try simp (disch := first | omega | assumption) only [SY, store_refl E0_same, h41a] at he
          rw [drop_cons' hx36] at hd36
          have hf := (show _ = (k : Nat) from (if_neg h41).trans (rfl)).symm.trans hd36
          exact .exit he ⟨rfl, ⟨k, (by simp only [SY, eq_self, Nat.reduceBEq, g36_3] <;> rfl), (by simp only [SY, eq_self, Nat.reduceBEq, g36_5] <;> rfl), (by simp only [SY, eq_self, Nat.reduceBEq, g36_7] <;> rfl), bb36_1, ga36, by omega, cw36_0, by first | omega | assumption | simp, hf.symm⟩⟩
      · skip
        try simp (disch := first | omega | assumption) only [E0_G, SY, agreeKind, Nat.reduceAdd, Nat.reduceLT, Nat.reduceBEq, store_refl E0_same, h39a] at he
        rw [List.drop_eq_nil_of_le (show ((R131_0 l lo hi l lo hi ([])).2.2).length ≤ k by omega)] at hd36
        have hf := (show _ = (k : Nat) from rfl).symm.trans hd36
        exact .exit he ⟨rfl, ⟨k, (by simp only [SY, eq_self, Nat.reduceBEq, g36_3] <;> rfl), (by simp only [SY, eq_self, Nat.reduceBEq, g36_5] <;> rfl), (by simp only [SY, eq_self, Nat.reduceBEq, g36_7] <;> rfl), bb36_1, ga36, by omega, cw36_0, by first | omega | assumption | simp, hf.symm⟩⟩)
  obtain ⟨rfl, k, ge36_3, ge36_5, ge36_7, be36_1, ge36, gm36, ce36_0, hj36_0, hR36⟩ := hQ36
  obtain rfl : k = R131_1 l lo hi ((R131_0 l lo hi l lo hi ([])).2.2) 0 := hR36.symm
  obtain ⟨p44, k44, r44, z44⟩ := (ce36_0.rows).take (P := Tryz.prog) (t := 89) Tryz.underlying89 tz116 (i := (R131_1 l lo hi ((R131_0 l lo hi l lo hi ([])).2.2) 0)) (by first | omega | simp; omega) ce36_0.good
  obtain ⟨u45, S45, k45, o45, n45, f45, d45⟩ := own_append (P := Tryz.prog) (t := 89) (tx := 89) (n := 1) (v := .slice none 0 0) (Own.nil 95 S36e.next S36e) (r44) (by omega) (by first | omega | (simp; omega) | simp) (by first | omega | (simp; omega) | simp) Tryz.underlying89 Tryz.underlying89 ti116 tv116 rfl tz116
  have v1_45 := (f45 S.next (by omega) (by first | (simp [blkOf]; done) | exact (Own.nil 95 S36e.next S36e).ne (by omega) | exact (Own.nil 95 S36e.next S36e).new (by omega) | assumption)).trans be36_1
  have apoce36_46 : ∀ b, blkOf (v_o) = some b → blkOf u45 ≠ some b := fun b hb => d45 b (ce36_0.lt hb) ((fun b hb => by simp [blkOf]) b hb)
  have oce36_46 := ce36_0.frame n45 (fun id hid hb => f45 id hid ((fun b hb => by simp [blkOf]) id hb))
  have g45 : Agree S S45 := ⟨Nat.le_trans (ge36).1 n45, fun id hid => (f45 id (by have := (ge36).1; omega) (by first | (simp [blkOf]; done) | exact (Own.nil 95 S36e.next S36e).ne (by omega) | assumption)).trans ((ge36).2 id hid)⟩
  have ne47 : blkOf u45 ≠ some S.next := by first | exact o45.ne (by omega) | exact o45.new (by omega) | exact d45 _ (by omega) (by first | (simp [blkOf]; done) | exact (Own.nil 95 S36e.next S36e).ne (by omega) | exact (Own.nil 95 S36e.next S36e).new (by omega) | assumption)
  have y48 : aBuildSlice Tryz.prog 89 1 [(0, .agg #[.int .i64 ((R131_0 l lo hi l lo hi ([])).1), .int .i64 ((R131_0 l lo hi l lo hi ([])).2.1)])] S45 = some (.slice (some ⟨S45.next, 0, none⟩) 1 1, S45.push (.cells [.int .i64 ((R131_0 l lo hi l lo hi ([])).1), .int .i64 ((R131_0 l lo hi l lo hi ([])).2.1)] 95 2 true true)) := by kernel_rfl
  obtain ⟨S49, e49, n49, b49, a49⟩ := push_open S45 (.cells [.int .i64 ((R131_0 l lo hi l lo hi ([])).1), .int .i64 ((R131_0 l lo hi l lo hi ([])).2.1)] 95 2 true true)
  have v1_49 := (a49.2 S.next (by omega)).trans v1_45
  have oce36_50 := oce36_46.agree a49
  have o45_51 := o45.agree a49
  have g49 : Agree S S49 := g45.trans a49
  have s49 : E0.same S45 S49 = true := symEnv_same a49
  have ne52 : blkOf (v_o) ≠ some S45.next := oce36_46.new (Nat.le_refl _)
  have ne53 : blkOf (u45) ≠ some S45.next := o45.new (Nat.le_refl _)
  have o54 : Own 95 S45.next S49 (.slice (some ⟨S45.next, 0, none⟩) 1 1) ([(⟨(R131_0 l lo hi l lo hi ([])).1, (R131_0 l lo hi l lo hi ([])).2.1⟩ : Sp)] : List Sp) := .inr ⟨_, true, rfl, Nat.le_refl _, by omega, b49⟩
  obtain ⟨u55, S55, k55, o55, n55, f55, d55⟩ := own_append (P := Tryz.prog) (t := 89) (tx := 89) (n := 1) (v := u45) o45_51 (o54.rows) (by omega) (by first | omega | (simp; omega) | simp) (by first | omega | (simp; omega) | simp) Tryz.underlying89 Tryz.underlying89 ti116 tv116 rfl tz116
  have v1_55 := (f55 S.next (by omega) (by first | (simp [blkOf]; done) | exact o45_51.ne (by omega) | exact o45_51.new (by omega) | assumption)).trans v1_49
  have apoce36_56 : ∀ b, blkOf (v_o) = some b → blkOf u55 ≠ some b := fun b hb => d55 b (oce36_50.lt hb) (apoce36_46 b hb)
  have oce36_56 := oce36_50.frame n55 (fun id hid hb => f55 id hid (apoce36_46 id hb))
  have g55 : Agree S S55 := ⟨Nat.le_trans (g49).1 n55, fun id hid => (f55 id (by have := (g49).1; omega) (by first | (simp [blkOf]; done) | exact o45_51.ne (by omega) | assumption)).trans ((g49).2 id hid)⟩
  have ne57 : blkOf u55 ≠ some S.next := by first | exact o55.ne (by omega) | exact o55.new (by omega) | exact d55 _ (by omega) (by first | (simp [blkOf]; done) | exact o45_51.ne (by omega) | exact o45_51.new (by omega) | assumption)
  obtain ⟨p58, k58, r58, z58⟩ := (oce36_56.rows).drop (P := Tryz.prog) (t := 89) Tryz.underlying89 tz116 (i := (R131_1 l lo hi ((R131_0 l lo hi l lo hi ([])).2.2) 0)) (by first | omega | simp; omega) oce36_56.good
  obtain ⟨u59, S59, k59, o59, n59, f59, d59⟩ := own_append (P := Tryz.prog) (t := 89) (tx := 89) (n := 1) (v := u55) o55 (r58) (by omega) (by first | omega | (simp; omega) | simp) (by first | omega | (simp; omega) | simp) Tryz.underlying89 Tryz.underlying89 ti116 tv116 rfl tz116
  have v1_59 := (f59 S.next (by omega) (by first | (simp [blkOf]; done) | exact o55.ne (by omega) | exact o55.new (by omega) | assumption)).trans v1_55
  have apoce36_60 : ∀ b, blkOf (v_o) = some b → blkOf u59 ≠ some b := fun b hb => d59 b (oce36_56.lt hb) (apoce36_56 b hb)
  have oce36_60 := oce36_56.frame n59 (fun id hid hb => f59 id hid (apoce36_56 id hb))
  have g59 : Agree S S59 := ⟨Nat.le_trans (g55).1 n59, fun id hid => (f59 id (by have := (g55).1; omega) (by first | (simp [blkOf]; done) | exact o55.ne (by omega) | assumption)).trans ((g55).2 id hid)⟩
  have ne61 : blkOf u59 ≠ some S.next := by first | exact o59.ne (by omega) | exact o59.new (by omega) | exact d59 _ (by omega) (by first | (simp [blkOf]; done) | exact o55.ne (by omega) | exact o55.new (by omega) | assumption)
  try simp (disch := first | omega | assumption) only [E0_G, SY, off, agreeKind, partVals, ldA, rdCells, aggD, eq_self, if_true, Nat.reduceAdd, Nat.reduceLT, Nat.reduceBEq, TY_EvA4, ge36_3, ge36_5, ge36_7, k44, v1_45, k45, y48, e49, k55, k58, k59] at hz
  have hr : r131 l lo hi = ((([] : List Sp) ++ (((R131_0 l lo hi l lo hi ([])).2.2).take (R131_1 l lo hi ((R131_0 l lo hi l lo hi ([])).2.2) 0))) ++ ([(⟨(R131_0 l lo hi l lo hi ([])).1, (R131_0 l lo hi l lo hi ([])).2.1⟩ : Sp)])) ++ (((R131_0 l lo hi l lo hi ([])).2.2).drop (R131_1 l lo hi ((R131_0 l lo hi l lo hi ([])).2.2) 0)) := rfl
  exact ⟨u59, S59, by first | (rw [hr]; exact hz.symm) | exact hz.symm, g59, by rw [hr]; exact o59.low (by omega)⟩


theorem R131_0_len (l : List Sp) (lo hi : Int) : ∀ (m : List Sp) (p q : Int) (o : List Sp), (R131_0 l lo hi m p q o).2.2.length ≤ m.length + o.length := by
  intro m
  induction m with
  | nil => intro p q o; simp [R131_0]
  | cons x m ih =>
    intro p q o
    unfold R131_0
    (repeat' split) <;> (refine Nat.le_trans (ih _ _ _) ?_; simp; try omega)
theorem r131_len (l : List Sp) (lo hi : Int) : (r131 l lo hi).length ≤ l.length + 1 := by
  have := R131_0_len l lo hi l lo hi []
  unfold r131
  simp at this ⊢
  omega

def R88_0 (l : List Ar)  : List Ar → List Sp → (List Sp)
  | [], o => o
  | x1 :: l', o => (if (IntKind.i64.wrap (x1.f + x1.l)) < 43200 then R88_0 l l' (r131 (o : List Sp) x1.f (IntKind.i64.wrap (x1.f + x1.l))) else R88_0 l l' (r131 ((r131 (o : List Sp) x1.f 43199) : List Sp) 0 (IntKind.i64.wrap ((IntKind.i64.wrap (x1.f + x1.l)) - 43200))))
def r88 (l : List Ar) : List Sp := R88_0 l l ([])
set_option maxHeartbeats 2000000 in
theorem c88 (l : List Ar) (hn : l.length ≤ 400) (S : AS) (v_l : Value) (hv_l : Lst S v_l l) :
    ∃ v' S', (evL Tryz.prog E0).call 57 #[v_l] S = some (v', S') ∧ Agree S S' ∧ Own 95 S.next S' v' (r88 l) := by
  generalize hz : (evL Tryz.prog E0).call 57 _ _ = z
  rw [L_call, evCall_said rfl Tryz.func57 rfl (by decide) Tryz.ntmps57 Tryz.results57] at hz
  try simp (disch := first | omega | assumption) only [E0_G, SY, setArgs, off, agreeKind, Nat.reduceAdd, Nat.reduceSub, Nat.reduceLT] at hz
  generalize hL1 : Rec.loop _ _ _ _ = L1 at hz
  obtain ⟨x1, t1, S1e, rfl, hQ1⟩ := loop_met hL1 (fun m t S' => ∃ (i : Nat) (v_o : Value) (o : List Sp), m + i = l.length ∧ o.length ≤ 2 * i ∧ i ≤ l.length ∧ t.get 0 = some (v_l) ∧ t.get 3 = some (v_o) ∧ t.get 4 = some (.int .i64 (i : Int)) ∧ Agree S S' ∧ S.next ≤ S'.next ∧ Own 95 S.next S' v_o o ∧ R88_0 l (l.drop i) o = R88_0 l l ([]))
    (fun x t S' => x = .exit 0 ∧ ∃ (i : Nat) (v_o : Value) (o : List Sp), t.get 3 = some (v_o) ∧ Agree S S' ∧ S.next ≤ S'.next ∧ Own 95 S.next S' v_o o ∧ o.length ≤ 2 * i ∧ i ≤ l.length ∧ R88_0 l l ([]) = o) (l.length - 0) ⟨0, .slice none 0 0, [], by first | rfl | omega | (simp; omega) | simp, by first | rfl | omega | (simp; omega) | simp, by first | rfl | omega | (simp; omega) | simp, by simp only [SY, eq_self, Nat.reduceBEq] <;> rfl, by simp only [SY, eq_self, Nat.reduceBEq] <;> rfl, by simp only [SY, Nat.reduceBEq] <;> rfl, (Agree.refl S), Nat.le_refl _, Own.nil _ _ _, rfl⟩ (by
      rintro m t S1 ⟨i, v_o, o, hi1_0, hi1_1, hi1_2, g1_0, g1_3, g1_4, ga1, gn1, ow_o, hd1⟩
      refine .run fun z he => ?_
      have w2 := (hv_l.agree ga1).len (P := Tryz.prog) (t := 22) Tryz.underlying22
      try simp (disch := first | omega | assumption) only [E0_G, SY, off, agreeKind, Nat.reduceAdd, Nat.reduceLT, Nat.reduceBEq, g1_0, g1_4, w2] at he
      rcases dP ((i : Int) < (l.length : Int)) with ⟨h3a, h3⟩ | ⟨h3a, h3⟩
      · skip
        try simp (disch := first | omega | assumption) only [SY, h3a] at he
        rw [code_draws _ _ _ (by kernel_rfl)] at he
        generalize hnd4 : needy _ = nd4 at he
        have hx1 : l[i]? = some (l[i]'(by first | omega | simp; omega)) := List.getElem?_eq_getElem _
        generalize l[i]'_ = x1 at hx1
        obtain ⟨id5, of5, cc5, ty5, wr5, ex5, i5, j5, l5, q5⟩ := (hv_l).at (P := Tryz.prog) (t := 22) Tryz.underlying22 tz56 hx1
        have j5 := (ga1.2 id5 l5).trans j5
        have m5_0 : cc5[of5]? = some (.int .i64 x1.f) := q5 0 (show 0 < 2 by decide)
        have m5_1 : cc5[of5 + 1]? = some (.int .i64 x1.l) := q5 1 (show 1 < 2 by decide)
        obtain ⟨id6, of6, cc6, ty6, wr6, ex6, i6, j6, l6, q6⟩ := (hv_l).at (P := Tryz.prog) (t := 22) Tryz.underlying22 tz56 hx1
        have j6 := (ga1.2 id6 l6).trans j6
        have m6_0 : cc6[of6]? = some (.int .i64 x1.f) := q6 0 (show 0 < 2 by decide)
        have m6_1 : cc6[of6 + 1]? = some (.int .i64 x1.l) := q6 1 (show 1 < 2 by decide)
        try simp (disch := first | omega | assumption) only [E0_G, SY, off, agreeKind, ldA, aggD, aField, Nat.reduceAdd, Nat.reduceLT, Nat.reduceBEq, TY_EvA4, g1_0, g1_4, store_refl E0_same, i5, j5, m5_0, m5_1] at he
        rcases dP ((IntKind.i64.wrap (x1.f + x1.l)) < 43200) with ⟨h7a, h7⟩ | ⟨h7a, h7⟩
        · skip
          obtain ⟨id8, of8, cc8, ty8, wr8, ex8, i8, j8, l8, q8⟩ := (hv_l).at (P := Tryz.prog) (t := 22) Tryz.underlying22 tz56 hx1
          have j8 := (ga1.2 id8 l8).trans j8
          have m8_0 : cc8[of8]? = some (.int .i64 x1.f) := q8 0 (show 0 < 2 by decide)
          have m8_1 : cc8[of8 + 1]? = some (.int .i64 x1.l) := q8 1 (show 1 < 2 by decide)
          have y9 : aBuild Tryz.prog 95 [(0, .int .i64 x1.f), (1, .int .i64 (IntKind.i64.wrap (x1.f + x1.l)))] = some (.agg #[.int .i64 x1.f, .int .i64 (IntKind.i64.wrap (x1.f + x1.l))]) := by kernel_rfl
          obtain ⟨u10, S10, k10, a10, oo10⟩ := c131 (o : List Sp) x1.f (IntKind.i64.wrap (x1.f + x1.l)) (by first | omega | (simp; omega) | assumption) S1 (v_o) (ow_o.rows) 
          have l10 := a10.1
          have s10 : E0.same S1 S10 = true := symEnv_same a10
          have v5_10 := (a10.2 id5 (by omega)).trans j5
          have v6_10 := (a10.2 id6 (by omega)).trans j6
          have v8_10 := (a10.2 id8 (by omega)).trans j8
          have ow_11 := ow_o.agree a10
          have g10 : Agree S S10 := ga1.trans a10
          have p10 := r131_len (o : List Sp) x1.f (IntKind.i64.wrap (x1.f + x1.l))
          have w12 : IntKind.i64.wrap ((i : Int) + 1) = ((i + 1 : Nat) : Int) := by rw [IntWalk.i64_in] <;> omega
          try simp (disch := first | omega | assumption) only [E0_G, SY, off, agreeKind, partVals, vals, ldA, aggD, aField, Nat.reduceAdd, Nat.reduceLT, Nat.reduceBEq, TY_EvA4, g1_0, g1_3, g1_4, store_agree, store_refl E0_same, i5, j5, m5_0, h7a, y9, k10, w12] at he
          rw [drop_cons' hx1] at hd1
          have hf := (show _ = (R88_0 l (l.drop (i + 1)) (r131 (o : List Sp) x1.f (IntKind.i64.wrap (x1.f + x1.l))) : (List Sp)) from (if_pos h7).trans (rfl)).symm.trans hd1
          exact .next he (m - 1) (by omega) ⟨(i + 1), u10, (r131 (o : List Sp) x1.f (IntKind.i64.wrap (x1.f + x1.l))), by first | omega | (simp; omega) | simp, by first | omega | (simp; omega) | simp, by first | omega | (simp; omega) | simp, (by simp only [SY, eq_self, Nat.reduceBEq, g1_0] <;> rfl), (by simp only [SY, eq_self, Nat.reduceBEq, g1_3] <;> rfl), (by simp only [SY, eq_self, Nat.reduceBEq, g1_4] <;> rfl), g10, by omega, (oo10.low (by omega)), hf⟩
        · skip
          obtain ⟨id13, of13, cc13, ty13, wr13, ex13, i13, j13, l13, q13⟩ := (hv_l).at (P := Tryz.prog) (t := 22) Tryz.underlying22 tz56 hx1
          have j13 := (ga1.2 id13 l13).trans j13
          have m13_0 : cc13[of13]? = some (.int .i64 x1.f) := q13 0 (show 0 < 2 by decide)
          have m13_1 : cc13[of13 + 1]? = some (.int .i64 x1.l) := q13 1 (show 1 < 2 by decide)
          have y14 : aBuild Tryz.prog 95 [(0, .int .i64 x1.f), (1, .int .i64 43199)] = some (.agg #[.int .i64 x1.f, .int .i64 43199]) := by kernel_rfl
          obtain ⟨u15, S15, k15, a15, oo15⟩ := c131 (o : List Sp) x1.f 43199 (by first | omega | (simp; omega) | assumption) S1 (v_o) (ow_o.rows) 
          have l15 := a15.1
          have s15 : E0.same S1 S15 = true := symEnv_same a15
          have v5_15 := (a15.2 id5 (by omega)).trans j5
          have v6_15 := (a15.2 id6 (by omega)).trans j6
          have v13_15 := (a15.2 id13 (by omega)).trans j13
          have ow_16 := ow_o.agree a15
          have g15 : Agree S S15 := ga1.trans a15
          have p15 := r131_len (o : List Sp) x1.f 43199
          have y17 : aBuild Tryz.prog 95 [(0, .int .i64 0), (1, .int .i64 (IntKind.i64.wrap ((IntKind.i64.wrap (x1.f + x1.l)) - 43200)))] = some (.agg #[.int .i64 0, .int .i64 (IntKind.i64.wrap ((IntKind.i64.wrap (x1.f + x1.l)) - 43200))]) := by kernel_rfl
          obtain ⟨u18, S18, k18, a18, oo18⟩ := c131 ((r131 (o : List Sp) x1.f 43199) : List Sp) 0 (IntKind.i64.wrap ((IntKind.i64.wrap (x1.f + x1.l)) - 43200)) (by first | omega | (simp; omega) | assumption) S15 (u15) (oo15.rows) 
          have l18 := a18.1
          have s18 : E0.same S15 S18 = true := symEnv_same a18
          have v5_18 := (a18.2 id5 (by omega)).trans v5_15
          have v6_18 := (a18.2 id6 (by omega)).trans v6_15
          have v13_18 := (a18.2 id13 (by omega)).trans v13_15
          have o15_19 := oo15.agree a18
          have ow_20 := ow_16.agree a18
          have g18 : Agree S S18 := g15.trans a18
          have p18 := r131_len ((r131 (o : List Sp) x1.f 43199) : List Sp) 0 (IntKind.i64.wrap ((IntKind.i64.wrap (x1.f + x1.l)) - 43200))
          have w21 : IntKind.i64.wrap ((i : Int) + 1) = ((i + 1 : Nat) : Int) := by rw [IntWalk.i64_in] <;> omega
          try simp (disch := first | omega | assumption) only [E0_G, SY, off, agreeKind, partVals, vals, ldA, aggD, aField, Nat.reduceAdd, Nat.reduceLT, Nat.reduceBEq, TY_EvA4, g1_0, g1_3, g1_4, store_agree, store_refl E0_same, i5, j5, m5_0, h7a, y14, k15, y17, k18, w21] at he
          rw [drop_cons' hx1] at hd1
          have hf := (show _ = (R88_0 l (l.drop (i + 1)) (r131 ((r131 (o : List Sp) x1.f 43199) : List Sp) 0 (IntKind.i64.wrap ((IntKind.i64.wrap (x1.f + x1.l)) - 43200))) : (List Sp)) from (if_neg h7).trans (rfl)).symm.trans hd1
          exact .next he (m - 1) (by omega) ⟨(i + 1), u18, (r131 ((r131 (o : List Sp) x1.f 43199) : List Sp) 0 (IntKind.i64.wrap ((IntKind.i64.wrap (x1.f + x1.l)) - 43200))), by first | omega | (simp; omega) | simp, by first | omega | (simp; omega) | simp, by first | omega | (simp; omega) | simp, (by simp only [SY, eq_self, Nat.reduceBEq, g1_0] <;> rfl), (by simp only [SY, eq_self, Nat.reduceBEq, g1_3] <;> rfl), (by simp only [SY, eq_self, Nat.reduceBEq, g1_4] <;> rfl), g18, by omega, (oo18.low (by omega)), hf⟩
      · skip
        try simp (disch := first | omega | assumption) only [SY, h3a] at he
        rw [List.drop_eq_nil_of_le (show l.length ≤ i by omega)] at hd1
        have hf := (show _ = (o : (List Sp)) from rfl).symm.trans hd1
        exact .exit he ⟨rfl, ⟨i, v_o, o, (by simp only [SY, eq_self, Nat.reduceBEq, g1_3] <;> rfl), ga1, by omega, (ow_o.low (by omega)), by first | omega | assumption | simp, by first | omega | assumption | simp, hf.symm⟩⟩)
  obtain ⟨rfl, i, v_o, o, ge1_3, ge1, gm1, oe_o1, hj1_0, hj1_1, hR1⟩ := hQ1
  obtain rfl : o = R88_0 l l ([]) := hR1.symm
  try simp (disch := first | omega | assumption) only [E0_G, SY, off, agreeKind, eq_self, if_true, Nat.reduceAdd, Nat.reduceLT, Nat.reduceBEq, ge1_3] at hz
  have hr : r88 l = R88_0 l l ([]) := rfl
  exact ⟨v_o, S1e, by first | (rw [hr]; exact hz.symm) | exact hz.symm, ge1, by rw [hr]; exact oe_o1.low (by omega)⟩

def R87_0 (l : List Sp)  : List Sp → Nat → List Ar → (List Ar)
  | [], i, o => o
  | x8 :: l', i, o => (if ((lget l (l.length - 1)).hi) = 43199 then (if (i : Int) = 0 then R87_0 l l' (i + 1) o else (if (i : Int) = ((l.length - 1 : Nat) : Int) then R87_0 l l' (i + 1) (o ++ ([(⟨x8.lo, IntKind.i64.wrap ((IntKind.i64.wrap ((IntKind.i64.wrap (x8.hi - x8.lo)) + 1)) + ((lget l 0).hi))⟩ : Ar)])) else R87_0 l l' (i + 1) (o ++ ([(⟨x8.lo, IntKind.i64.wrap (x8.hi - x8.lo)⟩ : Ar)])))) else R87_0 l l' (i + 1) (o ++ ([(⟨x8.lo, IntKind.i64.wrap (x8.hi - x8.lo)⟩ : Ar)])))
def R87_1 (l : List Sp)  : List Sp → Nat → List Ar → (List Ar)
  | [], i, o => o
  | x64 :: l', i, o => R87_1 l l' (i + 1) (o ++ ([(⟨x64.lo, IntKind.i64.wrap (x64.hi - x64.lo)⟩ : Ar)]))
def R87_2 (l : List Sp)  : List Sp → Nat → List Ar → (List Ar)
  | [], i, o => o
  | x85 :: l', i, o => R87_2 l l' (i + 1) (o ++ ([(⟨x85.lo, IntKind.i64.wrap (x85.hi - x85.lo)⟩ : Ar)]))
def r87 (l : List Sp) : List Ar := (if 1 < (l.length : Int) then (if ((lget l 0).lo) = 0 then R87_0 l l 0 ([]) else R87_1 l l 0 ([])) else R87_2 l l 0 ([]))
set_option maxHeartbeats 2000000 in
theorem c87 (l : List Sp) (hn : l.length ≤ 60000) (S : AS) (v_l : Value) (hv_l : Lst S v_l l) :
    ∃ v' S', (evL Tryz.prog E0).call 56 #[v_l] S = some (v', S') ∧ Agree S S' ∧ Own 44 S.next S' v' (r87 l) := by
  generalize hz : (evL Tryz.prog E0).call 56 _ _ = z
  rw [L_call, evCall_said rfl Tryz.func56 rfl (by decide) Tryz.ntmps56 Tryz.results56] at hz
  have w1 := (hv_l).len (P := Tryz.prog) (t := 89) Tryz.underlying89
  try simp (disch := first | omega | assumption) only [E0_G, SY, setArgs, off, agreeKind, Nat.reduceAdd, Nat.reduceSub, Nat.reduceLT, Nat.reduceBEq, w1] at hz
  rcases dP (1 < (l.length : Int)) with ⟨h2a, h2⟩ | ⟨h2a, h2⟩
  · skip
    have hx3 : l[0]? = some (lget l 0) := lget_some (by first | omega | simp; omega)
    obtain ⟨id3, of3, cc3, ty3, wr3, ex3, i3, j3, l3, q3⟩ := (hv_l).at (P := Tryz.prog) (t := 89) Tryz.underlying89 tz116 hx3
    have m3_0 : cc3[of3]? = some (.int .i64 ((lget l 0).lo)) := q3 0 (show 0 < 2 by decide)
    have m3_1 : cc3[of3 + 1]? = some (.int .i64 ((lget l 0).hi)) := q3 1 (show 1 < 2 by decide)
    have i3 : aIndexAddr Tryz.prog 89 v_l (.int .i64 0) = _ := i3
    try simp (disch := first | omega | assumption) only [E0_G, SY, off, agreeKind, ldA, aggD, aField, Nat.reduceAdd, Nat.reduceLT, Nat.reduceBEq, TY_EvA4, h2a, i3, j3, m3_0] at hz
    rcases dP (((lget l 0).lo) = 0) with ⟨h4a, h4⟩ | ⟨h4a, h4⟩
    · skip
      have w5 : IntKind.i64.wrap ((l.length : Int) - 1) = ((l.length - 1 : Nat) : Int) := by rw [IntWalk.i64_in] <;> omega
      have w6 : max (((l.length - 1 : Nat) : Int)) 0 = ((l.length - 1 : Nat) : Int) := by omega
      have hx7 : l[(l.length - 1)]? = some (lget l (l.length - 1)) := lget_some (by first | omega | simp; omega)
      obtain ⟨id7, of7, cc7, ty7, wr7, ex7, i7, j7, l7, q7⟩ := (hv_l).at (P := Tryz.prog) (t := 89) Tryz.underlying89 tz116 hx7
      have m7_0 : cc7[of7]? = some (.int .i64 ((lget l (l.length - 1)).lo)) := q7 0 (show 0 < 2 by decide)
      have m7_1 : cc7[of7 + 1]? = some (.int .i64 ((lget l (l.length - 1)).hi)) := q7 1 (show 1 < 2 by decide)
      try simp (disch := first | omega | assumption) only [E0_G, SY, off, agreeKind, ldA, aggD, aField, Nat.reduceAdd, Nat.reduceLT, Nat.reduceBEq, TY_EvA4, h4a, w5, w6, i7, j7, m7_1] at hz
      generalize hL8 : Rec.loop _ _ _ _ = L8 at hz
      obtain ⟨x8, t8, S8e, rfl, hQ8⟩ := loop_met hL8 (fun m t S' => ∃ (i : Nat) (v_o : Value) (o : List Ar), m + i = l.length ∧ o.length ≤ i ∧ i ≤ l.length ∧ t.get 0 = some (v_l) ∧ t.get 3 = some (v_o) ∧ t.get 4 = some (.int .i64 (l.length : Int)) ∧ t.get 5 = some (.bool (decide (((lget l (l.length - 1)).hi) = 43199))) ∧ t.get 6 = some (.int .i64 (i : Int)) ∧ Agree S S' ∧ S.next ≤ S'.next ∧ Own 44 S.next S' v_o o ∧ R87_0 l (l.drop i) i o = R87_0 l l 0 ([]))
        (fun x t S' => x = .exit 0 ∧ ∃ (i : Nat) (v_o : Value) (o : List Ar), t.get 3 = some (v_o) ∧ Agree S S' ∧ S.next ≤ S'.next ∧ Own 44 S.next S' v_o o ∧ o.length ≤ i ∧ i ≤ l.length ∧ R87_0 l l 0 ([]) = o) (l.length - 0) ⟨0, .slice none 0 0, [], by first | rfl | omega | (simp; omega) | simp, by first | rfl | omega | (simp; omega) | simp, by first | rfl | omega | (simp; omega) | simp, by simp only [SY, eq_self, Nat.reduceBEq] <;> rfl, by simp only [SY, eq_self, Nat.reduceBEq] <;> rfl, by simp only [SY, eq_self, Nat.reduceBEq] <;> rfl, by simp only [SY, eq_self, Nat.reduceBEq] <;> rfl, by simp only [SY, Nat.reduceBEq] <;> rfl, (Agree.refl S), Nat.le_refl _, Own.nil _ _ _, rfl⟩ (by
          rintro m t S8 ⟨i, v_o, o, hi8_0, hi8_1, hi8_2, g8_0, g8_3, g8_4, g8_5, g8_6, ga8, gn8, ow_o, hd8⟩
          refine .run fun z he => ?_
          try simp (disch := first | omega | assumption) only [E0_G, SY, off, agreeKind, Nat.reduceAdd, Nat.reduceLT, Nat.reduceBEq, g8_4, g8_6] at he
          rcases dP ((i : Int) < (l.length : Int)) with ⟨h9a, h9⟩ | ⟨h9a, h9⟩
          · skip
            try simp (disch := first | omega | assumption) only [E0_G, SY, off, agreeKind, Nat.reduceAdd, Nat.reduceLT, Nat.reduceBEq, g8_5, h9a] at he
            rcases dP (((lget l (l.length - 1)).hi) = 43199) with ⟨h10a, h10⟩ | ⟨h10a, h10⟩
            · skip
              try simp (disch := first | omega | assumption) only [E0_G, SY, off, agreeKind, Nat.reduceAdd, Nat.reduceLT, Nat.reduceBEq, g8_6, h10a] at he
              rcases dP ((i : Int) = 0) with ⟨h11a, h11⟩ | ⟨h11a, h11⟩
              · skip
                have w12 : IntKind.i64.wrap ((i : Int) + 1) = ((i + 1 : Nat) : Int) := by rw [IntWalk.i64_in] <;> omega
                try simp (disch := first | omega | assumption) only [E0_G, SY, off, agreeKind, eq_self, if_true, Nat.reduceAdd, Nat.reduceLT, Nat.reduceBEq, g8_6, h11a, w12] at he
                rw [drop_cons' (List.getElem?_eq_getElem (show i < _ by omega))] at hd8
                have hf := (show _ = (R87_0 l (l.drop (i + 1)) (i + 1) o : (List Ar)) from (if_pos h10).trans ((if_pos h11).trans (rfl))).symm.trans hd8
                exact .next he (m - 1) (by omega) ⟨(i + 1), v_o, o, by first | omega | (simp; omega) | simp, by first | omega | (simp; omega) | simp, by first | omega | (simp; omega) | simp, (by simp only [SY, eq_self, Nat.reduceBEq, g8_0] <;> rfl), (by simp only [SY, eq_self, Nat.reduceBEq, g8_3] <;> rfl), (by simp only [SY, eq_self, Nat.reduceBEq, g8_4] <;> rfl), (by simp only [SY, eq_self, Nat.reduceBEq, g8_5] <;> rfl), (by simp only [SY, eq_self, Nat.reduceBEq, g8_6] <;> rfl), ga8, by omega, (ow_o.low (by omega)), hf⟩
              · skip
                try simp (disch := first | omega | assumption) only [SY, h11a] at he
                rw [code_draws _ _ _ (by kernel_rfl)] at he
                generalize hnd13 : needy _ = nd13 at he
                have nn13_18 : nd13 18 = false := by rw [← hnd13]; kernel_rfl
                have hx8 : l[i]? = some (l[i]'(by first | omega | simp; omega)) := List.getElem?_eq_getElem _
                generalize l[i]'_ = x8 at hx8
                obtain ⟨id14, of14, cc14, ty14, wr14, ex14, i14, j14, l14, q14⟩ := (hv_l).at (P := Tryz.prog) (t := 89) Tryz.underlying89 tz116 hx8
                have j14 := (ga8.2 id14 l14).trans j14
                have m14_0 : cc14[of14]? = some (.int .i64 x8.lo) := q14 0 (show 0 < 2 by decide)
                have m14_1 : cc14[of14 + 1]? = some (.int .i64 x8.hi) := q14 1 (show 1 < 2 by decide)
                obtain ⟨id15, of15, cc15, ty15, wr15, ex15, i15, j15, l15, q15⟩ := (hv_l).at (P := Tryz.prog) (t := 89) Tryz.underlying89 tz116 hx8
                have j15 := (ga8.2 id15 l15).trans j15
                have m15_0 : cc15[of15]? = some (.int .i64 x8.lo) := q15 0 (show 0 < 2 by decide)
                have m15_1 : cc15[of15 + 1]? = some (.int .i64 x8.hi) := q15 1 (show 1 < 2 by decide)
                obtain ⟨id16, of16, cc16, ty16, wr16, ex16, i16, j16, l16, q16⟩ := (hv_l).at (P := Tryz.prog) (t := 89) Tryz.underlying89 tz116 hx8
                have j16 := (ga8.2 id16 l16).trans j16
                have m16_0 : cc16[of16]? = some (.int .i64 x8.lo) := q16 0 (show 0 < 2 by decide)
                have m16_1 : cc16[of16 + 1]? = some (.int .i64 x8.hi) := q16 1 (show 1 < 2 by decide)
                have y17 : aBuild Tryz.prog 44 [(0, .int .i64 x8.lo), (1, .int .i64 (IntKind.i64.wrap (x8.hi - x8.lo)))] = some (.agg #[.int .i64 x8.lo, .int .i64 (IntKind.i64.wrap (x8.hi - x8.lo))]) := by kernel_rfl
                obtain ⟨S18, e18, n18, b18, a18⟩ := push_open S8 (.cells [.int .i64 0, .int .i64 0] 44 0 true true)
                have v14_18 := (a18.2 id14 (by omega)).trans j14
                have v15_18 := (a18.2 id15 (by omega)).trans j15
                have v16_18 := (a18.2 id16 (by omega)).trans j16
                have ow_19 := ow_o.agree a18
                have g18 : Agree S S18 := ga8.trans a18
                have s18 : E0.same S8 S18 = true := symEnv_same a18
                have ne20 : blkOf (v_o) ≠ some S8.next := ow_o.new (Nat.le_refl _)
                obtain ⟨S21, k21, n21, b21, q21⟩ := st_at (o := 0) (c' := [.int .i64 x8.lo, .int .i64 (IntKind.i64.wrap (x8.hi - x8.lo))]) (v := .agg #[.int .i64 x8.lo, .int .i64 (IntKind.i64.wrap (x8.hi - x8.lo))]) tz56 b18 rfl rfl (show 0 + 2 ≤ 2 by decide) rfl
                have v14_21 := (q21 id14 (by omega)).trans v14_18
                have v15_21 := (q21 id15 (by omega)).trans v15_18
                have v16_21 := (q21 id16 (by omega)).trans v16_18
                have ow_22 := ow_19.frame (by omega) (fun id hid hb => q21 id (fun e => (show blkOf (v_o) ≠ some S8.next from by first | exact ow_19.ne (by omega) | exact ow_19.new (by omega) | assumption) (e ▸ hb)))
                have g21 : Agree S S21 := ⟨by have := (g18).1; omega, fun id hid => (q21 id (by have := (g18).1; omega)).trans ((g18).2 id hid)⟩
                have w23 : IntKind.i64.wrap ((l.length : Int) - 1) = ((l.length - 1 : Nat) : Int) := by rw [IntWalk.i64_in] <;> omega
                try simp (disch := first | omega | assumption) only [E0_G, SY, off, agreeKind, partVals, allocV, ldA, aggD, aField, Nat.reduceAdd, Nat.reduceLT, Nat.reduceBEq, TY_EvA4, g8_0, g8_4, g8_5, g8_6, w5, h10a, nn13_18, store_agree, store_refl E0_same, i14, j14, m14_0, m14_1, y17, e18, k21] at he
                rcases dP ((i : Int) = ((l.length - 1 : Nat) : Int)) with ⟨h24a, h24⟩ | ⟨h24a, h24⟩
                · skip
                  try simp (disch := first | omega | assumption) only [SY, store_refl E0_same, h24a] at he
                  rw [code_draws _ _ _ (by kernel_rfl)] at he
                  generalize hnd25 : needy _ = nd25 at he
                  have nn25_9 : nd25 9 = false := by rw [← hnd25]; kernel_rfl
                  have hx26 : l[0]? = some (lget l 0) := lget_some (by first | omega | simp; omega)
                  obtain ⟨id26, of26, cc26, ty26, wr26, ex26, i26, j26, l26, q26⟩ := (hv_l).at (P := Tryz.prog) (t := 89) Tryz.underlying89 tz116 hx26
                  have j26 := (g21.2 id26 l26).trans j26
                  have m26_0 : cc26[of26]? = some (.int .i64 ((lget l 0).lo)) := q26 0 (show 0 < 2 by decide)
                  have m26_1 : cc26[of26 + 1]? = some (.int .i64 ((lget l 0).hi)) := q26 1 (show 1 < 2 by decide)
                  have i26 : aIndexAddr Tryz.prog 89 v_l (.int .i64 0) = _ := i26
                  obtain ⟨S27, k27, n27, b27, q27⟩ := st_at (o := 1) (c' := [.int .i64 x8.lo, .int .i64 (IntKind.i64.wrap ((IntKind.i64.wrap ((IntKind.i64.wrap (x8.hi - x8.lo)) + 1)) + ((lget l 0).hi)))]) (v := .int .i64 (IntKind.i64.wrap ((IntKind.i64.wrap ((IntKind.i64.wrap (x8.hi - x8.lo)) + 1)) + ((lget l 0).hi)))) tz3 b21 rfl rfl (show 1 + 1 ≤ 2 by decide) rfl
                  have v14_27 := (q27 id14 (by omega)).trans v14_21
                  have v15_27 := (q27 id15 (by omega)).trans v15_21
                  have v16_27 := (q27 id16 (by omega)).trans v16_21
                  have v26_27 := (q27 id26 (by omega)).trans j26
                  have ow_28 := ow_22.frame (by omega) (fun id hid hb => q27 id (fun e => (show blkOf (v_o) ≠ some S8.next from by first | exact ow_22.ne (by omega) | exact ow_22.new (by omega) | assumption) (e ▸ hb)))
                  have g27 : Agree S S27 := ⟨by have := (g21).1; omega, fun id hid => (q27 id (by have := (g21).1; omega)).trans ((g21).2 id hid)⟩
                  have y29 : aBuildSlice Tryz.prog 22 1 [(0, .agg #[.int .i64 x8.lo, .int .i64 (IntKind.i64.wrap ((IntKind.i64.wrap ((IntKind.i64.wrap (x8.hi - x8.lo)) + 1)) + ((lget l 0).hi)))])] S27 = some (.slice (some ⟨S27.next, 0, none⟩) 1 1, S27.push (.cells [.int .i64 x8.lo, .int .i64 (IntKind.i64.wrap ((IntKind.i64.wrap ((IntKind.i64.wrap (x8.hi - x8.lo)) + 1)) + ((lget l 0).hi)))] 44 2 true true)) := by kernel_rfl
                  obtain ⟨S30, e30, n30, b30, a30⟩ := push_open S27 (.cells [.int .i64 x8.lo, .int .i64 (IntKind.i64.wrap ((IntKind.i64.wrap ((IntKind.i64.wrap (x8.hi - x8.lo)) + 1)) + ((lget l 0).hi)))] 44 2 true true)
                  have v14_30 := (a30.2 id14 (by omega)).trans v14_27
                  have v15_30 := (a30.2 id15 (by omega)).trans v15_27
                  have v16_30 := (a30.2 id16 (by omega)).trans v16_27
                  have v18_30 := (a30.2 S8.next (by omega)).trans b27
                  have v26_30 := (a30.2 id26 (by omega)).trans v26_27
                  have ow_31 := ow_28.agree a30
                  have g30 : Agree S S30 := g27.trans a30
                  have s30 : E0.same S27 S30 = true := symEnv_same a30
                  have ne32 : blkOf (v_o) ≠ some S27.next := ow_28.new (Nat.le_refl _)
                  have o33 : Own 44 S27.next S30 (.slice (some ⟨S27.next, 0, none⟩) 1 1) ([(⟨x8.lo, IntKind.i64.wrap ((IntKind.i64.wrap ((IntKind.i64.wrap (x8.hi - x8.lo)) + 1)) + ((lget l 0).hi))⟩ : Ar)] : List Ar) := .inr ⟨_, true, rfl, Nat.le_refl _, by omega, b30⟩
                  obtain ⟨u34, S34, k34, o34, n34, f34, d34⟩ := own_append (P := Tryz.prog) (t := 22) (tx := 22) (n := 1) (v := v_o) ow_31 (o33.rows) (by omega) (by first | omega | (simp; omega) | simp) (by first | omega | (simp; omega) | simp) Tryz.underlying22 Tryz.underlying22 ti56 tv56 rfl tz56
                  have v18_34 := (f34 S8.next (by omega) (by first | (simp [blkOf]; done) | exact ow_31.ne (by omega) | exact ow_31.new (by omega) | assumption)).trans v18_30
                  have g34 : Agree S S34 := ⟨Nat.le_trans (g30).1 n34, fun id hid => (f34 id (by have := (g30).1; omega) (by first | (simp [blkOf]; done) | exact ow_31.ne (by omega) | assumption)).trans ((g30).2 id hid)⟩
                  have ne35 : blkOf u34 ≠ some S8.next := by first | exact o34.ne (by omega) | exact o34.new (by omega) | exact d34 _ (by omega) (by first | (simp [blkOf]; done) | exact ow_31.ne (by omega) | exact ow_31.new (by omega) | assumption)
                  have w36 : IntKind.i64.wrap ((i : Int) + 1) = ((i + 1 : Nat) : Int) := by rw [IntWalk.i64_in] <;> omega
                  try simp (disch := first | omega | assumption) only [E0_G, SY, off, agreeKind, partVals, ldA, rdCells, aggD, aField, Nat.reduceAdd, Nat.reduceLT, Nat.reduceBEq, TY_EvA4, g8_0, g8_3, g8_6, store_agree, store_refl E0_same, b21, nn25_9, i26, j26, m26_1, k27, b27, y29, e30, k34, w36] at he
                  rw [drop_cons' hx8] at hd8
                  have hf := (show _ = (R87_0 l (l.drop (i + 1)) (i + 1) (o ++ ([(⟨x8.lo, IntKind.i64.wrap ((IntKind.i64.wrap ((IntKind.i64.wrap (x8.hi - x8.lo)) + 1)) + ((lget l 0).hi))⟩ : Ar)])) : (List Ar)) from (if_pos h10).trans ((if_neg h11).trans ((if_pos h24).trans (rfl)))).symm.trans hd8
                  exact .next he (m - 1) (by omega) ⟨(i + 1), u34, o ++ ([(⟨x8.lo, IntKind.i64.wrap ((IntKind.i64.wrap ((IntKind.i64.wrap (x8.hi - x8.lo)) + 1)) + ((lget l 0).hi))⟩ : Ar)]), by first | omega | (simp; omega) | simp, by first | omega | (simp; omega) | simp, by first | omega | (simp; omega) | simp, (by simp only [SY, eq_self, Nat.reduceBEq, g8_0] <;> rfl), (by simp only [SY, eq_self, Nat.reduceBEq, g8_3] <;> rfl), (by simp only [SY, eq_self, Nat.reduceBEq, g8_4] <;> rfl), (by simp only [SY, eq_self, Nat.reduceBEq, g8_5] <;> rfl), (by simp only [SY, eq_self, Nat.reduceBEq, g8_6] <;> rfl), g34, by omega, (o34.low (by omega)), hf⟩
                · skip
                  have y37 : aBuildSlice Tryz.prog 22 1 [(0, .agg #[.int .i64 x8.lo, .int .i64 (IntKind.i64.wrap (x8.hi - x8.lo))])] S21 = some (.slice (some ⟨S21.next, 0, none⟩) 1 1, S21.push (.cells [.int .i64 x8.lo, .int .i64 (IntKind.i64.wrap (x8.hi - x8.lo))] 44 2 true true)) := by kernel_rfl
                  obtain ⟨S38, e38, n38, b38, a38⟩ := push_open S21 (.cells [.int .i64 x8.lo, .int .i64 (IntKind.i64.wrap (x8.hi - x8.lo))] 44 2 true true)
                  have v14_38 := (a38.2 id14 (by omega)).trans v14_21
                  have v15_38 := (a38.2 id15 (by omega)).trans v15_21
                  have v16_38 := (a38.2 id16 (by omega)).trans v16_21
                  have v18_38 := (a38.2 S8.next (by omega)).trans b21
                  have ow_39 := ow_22.agree a38
                  have g38 : Agree S S38 := g21.trans a38
                  have s38 : E0.same S21 S38 = true := symEnv_same a38
                  have ne40 : blkOf (v_o) ≠ some S21.next := ow_22.new (Nat.le_refl _)
                  have o41 : Own 44 S21.next S38 (.slice (some ⟨S21.next, 0, none⟩) 1 1) ([(⟨x8.lo, IntKind.i64.wrap (x8.hi - x8.lo)⟩ : Ar)] : List Ar) := .inr ⟨_, true, rfl, Nat.le_refl _, by omega, b38⟩
                  obtain ⟨u42, S42, k42, o42, n42, f42, d42⟩ := own_append (P := Tryz.prog) (t := 22) (tx := 22) (n := 1) (v := v_o) ow_39 (o41.rows) (by omega) (by first | omega | (simp; omega) | simp) (by first | omega | (simp; omega) | simp) Tryz.underlying22 Tryz.underlying22 ti56 tv56 rfl tz56
                  have v18_42 := (f42 S8.next (by omega) (by first | (simp [blkOf]; done) | exact ow_39.ne (by omega) | exact ow_39.new (by omega) | assumption)).trans v18_38
                  have g42 : Agree S S42 := ⟨Nat.le_trans (g38).1 n42, fun id hid => (f42 id (by have := (g38).1; omega) (by first | (simp [blkOf]; done) | exact ow_39.ne (by omega) | assumption)).trans ((g38).2 id hid)⟩
                  have ne43 : blkOf u42 ≠ some S8.next := by first | exact o42.ne (by omega) | exact o42.new (by omega) | exact d42 _ (by omega) (by first | (simp [blkOf]; done) | exact ow_39.ne (by omega) | exact ow_39.new (by omega) | assumption)
                  have w44 : IntKind.i64.wrap ((i : Int) + 1) = ((i + 1 : Nat) : Int) := by rw [IntWalk.i64_in] <;> omega
                  try simp (disch := first | omega | assumption) only [E0_G, SY, off, agreeKind, partVals, ldA, rdCells, aggD, Nat.reduceAdd, Nat.reduceLT, Nat.reduceBEq, TY_EvA4, g8_3, g8_6, store_agree, store_refl E0_same, b21, h24a, y37, e38, k42, w44] at he
                  rw [drop_cons' hx8] at hd8
                  have hf := (show _ = (R87_0 l (l.drop (i + 1)) (i + 1) (o ++ ([(⟨x8.lo, IntKind.i64.wrap (x8.hi - x8.lo)⟩ : Ar)])) : (List Ar)) from (if_pos h10).trans ((if_neg h11).trans ((if_neg h24).trans (rfl)))).symm.trans hd8
                  exact .next he (m - 1) (by omega) ⟨(i + 1), u42, o ++ ([(⟨x8.lo, IntKind.i64.wrap (x8.hi - x8.lo)⟩ : Ar)]), by first | omega | (simp; omega) | simp, by first | omega | (simp; omega) | simp, by first | omega | (simp; omega) | simp, (by simp only [SY, eq_self, Nat.reduceBEq, g8_0] <;> rfl), (by simp only [SY, eq_self, Nat.reduceBEq, g8_3] <;> rfl), (by simp only [SY, eq_self, Nat.reduceBEq, g8_4] <;> rfl), (by simp only [SY, eq_self, Nat.reduceBEq, g8_5] <;> rfl), (by simp only [SY, eq_self, Nat.reduceBEq, g8_6] <;> rfl), g42, by omega, (o42.low (by omega)), hf⟩
            · skip
              try simp (disch := first | omega | assumption) only [E0_G, SY, off, agreeKind, Nat.reduceAdd, Nat.reduceLT, Nat.reduceBEq, h10a] at he
              rw [code_draws _ _ _ (by kernel_rfl)] at he
              generalize hnd45 : needy _ = nd45 at he
              have nn45_18 : nd45 18 = false := by rw [← hnd45]; kernel_rfl
              have hx8 : l[i]? = some (l[i]'(by first | omega | simp; omega)) := List.getElem?_eq_getElem _
              generalize l[i]'_ = x8 at hx8
              obtain ⟨id46, of46, cc46, ty46, wr46, ex46, i46, j46, l46, q46⟩ := (hv_l).at (P := Tryz.prog) (t := 89) Tryz.underlying89 tz116 hx8
              have j46 := (ga8.2 id46 l46).trans j46
              have m46_0 : cc46[of46]? = some (.int .i64 x8.lo) := q46 0 (show 0 < 2 by decide)
              have m46_1 : cc46[of46 + 1]? = some (.int .i64 x8.hi) := q46 1 (show 1 < 2 by decide)
              obtain ⟨id47, of47, cc47, ty47, wr47, ex47, i47, j47, l47, q47⟩ := (hv_l).at (P := Tryz.prog) (t := 89) Tryz.underlying89 tz116 hx8
              have j47 := (ga8.2 id47 l47).trans j47
              have m47_0 : cc47[of47]? = some (.int .i64 x8.lo) := q47 0 (show 0 < 2 by decide)
              have m47_1 : cc47[of47 + 1]? = some (.int .i64 x8.hi) := q47 1 (show 1 < 2 by decide)
              obtain ⟨id48, of48, cc48, ty48, wr48, ex48, i48, j48, l48, q48⟩ := (hv_l).at (P := Tryz.prog) (t := 89) Tryz.underlying89 tz116 hx8
              have j48 := (ga8.2 id48 l48).trans j48
              have m48_0 : cc48[of48]? = some (.int .i64 x8.lo) := q48 0 (show 0 < 2 by decide)
              have m48_1 : cc48[of48 + 1]? = some (.int .i64 x8.hi) := q48 1 (show 1 < 2 by decide)
              have y49 : aBuild Tryz.prog 44 [(0, .int .i64 x8.lo), (1, .int .i64 (IntKind.i64.wrap (x8.hi - x8.lo)))] = some (.agg #[.int .i64 x8.lo, .int .i64 (IntKind.i64.wrap (x8.hi - x8.lo))]) := by kernel_rfl
              obtain ⟨S50, e50, n50, b50, a50⟩ := push_open S8 (.cells [.int .i64 0, .int .i64 0] 44 0 true true)
              have v46_50 := (a50.2 id46 (by omega)).trans j46
              have v47_50 := (a50.2 id47 (by omega)).trans j47
              have v48_50 := (a50.2 id48 (by omega)).trans j48
              have ow_51 := ow_o.agree a50
              have g50 : Agree S S50 := ga8.trans a50
              have s50 : E0.same S8 S50 = true := symEnv_same a50
              have ne52 : blkOf (v_o) ≠ some S8.next := ow_o.new (Nat.le_refl _)
              obtain ⟨S53, k53, n53, b53, q53⟩ := st_at (o := 0) (c' := [.int .i64 x8.lo, .int .i64 (IntKind.i64.wrap (x8.hi - x8.lo))]) (v := .agg #[.int .i64 x8.lo, .int .i64 (IntKind.i64.wrap (x8.hi - x8.lo))]) tz56 b50 rfl rfl (show 0 + 2 ≤ 2 by decide) rfl
              have v46_53 := (q53 id46 (by omega)).trans v46_50
              have v47_53 := (q53 id47 (by omega)).trans v47_50
              have v48_53 := (q53 id48 (by omega)).trans v48_50
              have ow_54 := ow_51.frame (by omega) (fun id hid hb => q53 id (fun e => (show blkOf (v_o) ≠ some S8.next from by first | exact ow_51.ne (by omega) | exact ow_51.new (by omega) | assumption) (e ▸ hb)))
              have g53 : Agree S S53 := ⟨by have := (g50).1; omega, fun id hid => (q53 id (by have := (g50).1; omega)).trans ((g50).2 id hid)⟩
              have y55 : aBuildSlice Tryz.prog 22 1 [(0, .agg #[.int .i64 x8.lo, .int .i64 (IntKind.i64.wrap (x8.hi - x8.lo))])] S53 = some (.slice (some ⟨S53.next, 0, none⟩) 1 1, S53.push (.cells [.int .i64 x8.lo, .int .i64 (IntKind.i64.wrap (x8.hi - x8.lo))] 44 2 true true)) := by kernel_rfl
              obtain ⟨S56, e56, n56, b56, a56⟩ := push_open S53 (.cells [.int .i64 x8.lo, .int .i64 (IntKind.i64.wrap (x8.hi - x8.lo))] 44 2 true true)
              have v46_56 := (a56.2 id46 (by omega)).trans v46_53
              have v47_56 := (a56.2 id47 (by omega)).trans v47_53
              have v48_56 := (a56.2 id48 (by omega)).trans v48_53
              have v50_56 := (a56.2 S8.next (by omega)).trans b53
              have ow_57 := ow_54.agree a56
              have g56 : Agree S S56 := g53.trans a56
              have s56 : E0.same S53 S56 = true := symEnv_same a56
              have ne58 : blkOf (v_o) ≠ some S53.next := ow_54.new (Nat.le_refl _)
              have o59 : Own 44 S53.next S56 (.slice (some ⟨S53.next, 0, none⟩) 1 1) ([(⟨x8.lo, IntKind.i64.wrap (x8.hi - x8.lo)⟩ : Ar)] : List Ar) := .inr ⟨_, true, rfl, Nat.le_refl _, by omega, b56⟩
              obtain ⟨u60, S60, k60, o60, n60, f60, d60⟩ := own_append (P := Tryz.prog) (t := 22) (tx := 22) (n := 1) (v := v_o) ow_57 (o59.rows) (by omega) (by first | omega | (simp; omega) | simp) (by first | omega | (simp; omega) | simp) Tryz.underlying22 Tryz.underlying22 ti56 tv56 rfl tz56
              have v50_60 := (f60 S8.next (by omega) (by first | (simp [blkOf]; done) | exact ow_57.ne (by omega) | exact ow_57.new (by omega) | assumption)).trans v50_56
              have g60 : Agree S S60 := ⟨Nat.le_trans (g56).1 n60, fun id hid => (f60 id (by have := (g56).1; omega) (by first | (simp [blkOf]; done) | exact ow_57.ne (by omega) | assumption)).trans ((g56).2 id hid)⟩
              have ne61 : blkOf u60 ≠ some S8.next := by first | exact o60.ne (by omega) | exact o60.new (by omega) | exact d60 _ (by omega) (by first | (simp [blkOf]; done) | exact ow_57.ne (by omega) | exact ow_57.new (by omega) | assumption)
              have w62 : IntKind.i64.wrap ((i : Int) + 1) = ((i + 1 : Nat) : Int) := by rw [IntWalk.i64_in] <;> omega
              try simp (disch := first | omega | assumption) only [E0_G, SY, off, agreeKind, partVals, allocV, ldA, rdCells, aggD, aField, Nat.reduceAdd, Nat.reduceLT, Nat.reduceBEq, TY_EvA4, g8_0, g8_3, g8_5, g8_6, h10a, nn45_18, store_agree, store_refl E0_same, i46, j46, m46_0, m46_1, y49, e50, k53, b53, y55, e56, k60, w62] at he
              rw [drop_cons' hx8] at hd8
              have hf := (show _ = (R87_0 l (l.drop (i + 1)) (i + 1) (o ++ ([(⟨x8.lo, IntKind.i64.wrap (x8.hi - x8.lo)⟩ : Ar)])) : (List Ar)) from (if_neg h10).trans (rfl)).symm.trans hd8
              exact .next he (m - 1) (by omega) ⟨(i + 1), u60, o ++ ([(⟨x8.lo, IntKind.i64.wrap (x8.hi - x8.lo)⟩ : Ar)]), by first | omega | (simp; omega) | simp, by first | omega | (simp; omega) | simp, by first | omega | (simp; omega) | simp, (by simp only [SY, eq_self, Nat.reduceBEq, g8_0] <;> rfl), (by simp only [SY, eq_self, Nat.reduceBEq, g8_3] <;> rfl), (by simp only [SY, eq_self, Nat.reduceBEq, g8_4] <;> rfl), (by simp only [SY, eq_self, Nat.reduceBEq, g8_5] <;> rfl), (by simp only [SY, eq_self, Nat.reduceBEq, g8_6] <;> rfl), g60, by omega, (o60.low (by omega)), hf⟩
          · skip
            try simp (disch := first | omega | assumption) only [SY, h9a] at he
            rw [List.drop_eq_nil_of_le (show l.length ≤ i by omega)] at hd8
            have hf := (show _ = (o : (List Ar)) from rfl).symm.trans hd8
            exact .exit he ⟨rfl, ⟨i, v_o, o, (by simp only [SY, eq_self, Nat.reduceBEq, g8_3] <;> rfl), ga8, by omega, (ow_o.low (by omega)), by first | omega | assumption | simp, by first | omega | assumption | simp, hf.symm⟩⟩)
      obtain ⟨rfl, i, v_o, o, ge8_3, ge8, gm8, oe_o8, hj8_0, hj8_1, hR8⟩ := hQ8
      obtain rfl : o = R87_0 l l 0 ([]) := hR8.symm
      try simp (disch := first | omega | assumption) only [E0_G, SY, off, agreeKind, eq_self, if_true, Nat.reduceAdd, Nat.reduceLT, Nat.reduceBEq, ge8_3] at hz
      have hr : r87 l = R87_0 l l 0 ([]) := (if_pos h2).trans ((if_pos h4).trans (rfl))
      exact ⟨v_o, S8e, by first | (rw [hr]; exact hz.symm) | exact hz.symm, ge8, by rw [hr]; exact oe_o8.low (by omega)⟩
    · skip
      try simp (disch := first | omega | assumption) only [E0_G, SY, off, agreeKind, Nat.reduceAdd, Nat.reduceLT, Nat.reduceBEq, h4a] at hz
      generalize hL64 : Rec.loop _ _ _ _ = L64 at hz
      obtain ⟨x64, t64, S64e, rfl, hQ64⟩ := loop_met hL64 (fun m t S' => ∃ (i : Nat) (v_o : Value) (o : List Ar), m + i = l.length ∧ o.length ≤ i ∧ i ≤ l.length ∧ t.get 0 = some (v_l) ∧ t.get 3 = some (v_o) ∧ t.get 4 = some (.int .i64 (l.length : Int)) ∧ t.get 5 = some (.bool false) ∧ t.get 6 = some (.int .i64 (i : Int)) ∧ Agree S S' ∧ S.next ≤ S'.next ∧ Own 44 S.next S' v_o o ∧ R87_1 l (l.drop i) i o = R87_1 l l 0 ([]))
        (fun x t S' => x = .exit 0 ∧ ∃ (i : Nat) (v_o : Value) (o : List Ar), t.get 3 = some (v_o) ∧ Agree S S' ∧ S.next ≤ S'.next ∧ Own 44 S.next S' v_o o ∧ o.length ≤ i ∧ i ≤ l.length ∧ R87_1 l l 0 ([]) = o) (l.length - 0) ⟨0, .slice none 0 0, [], by first | rfl | omega | (simp; omega) | simp, by first | rfl | omega | (simp; omega) | simp, by first | rfl | omega | (simp; omega) | simp, by simp only [SY, eq_self, Nat.reduceBEq] <;> rfl, by simp only [SY, eq_self, Nat.reduceBEq] <;> rfl, by simp only [SY, eq_self, Nat.reduceBEq] <;> rfl, by simp only [SY, eq_self, Nat.reduceBEq] <;> rfl, by simp only [SY, Nat.reduceBEq] <;> rfl, (Agree.refl S), Nat.le_refl _, Own.nil _ _ _, rfl⟩ (by
          rintro m t S64 ⟨i, v_o, o, hi64_0, hi64_1, hi64_2, g64_0, g64_3, g64_4, g64_5, g64_6, ga64, gn64, ow_o, hd64⟩
          refine .run fun z he => ?_
          try simp (disch := first | omega | assumption) only [E0_G, SY, off, agreeKind, Nat.reduceAdd, Nat.reduceLT, Nat.reduceBEq, g64_4, g64_6] at he
          rcases dP ((i : Int) < (l.length : Int)) with ⟨h65a, h65⟩ | ⟨h65a, h65⟩
          · skip
            try simp (disch := first | omega | assumption) only [E0_G, SY, off, agreeKind, Nat.reduceAdd, Nat.reduceLT, Nat.reduceBEq, g64_5, h65a] at he
            rw [code_draws _ _ _ (by kernel_rfl)] at he
            generalize hnd66 : needy _ = nd66 at he
            have nn66_18 : nd66 18 = false := by rw [← hnd66]; kernel_rfl
            have hx64 : l[i]? = some (l[i]'(by first | omega | simp; omega)) := List.getElem?_eq_getElem _
            generalize l[i]'_ = x64 at hx64
            obtain ⟨id67, of67, cc67, ty67, wr67, ex67, i67, j67, l67, q67⟩ := (hv_l).at (P := Tryz.prog) (t := 89) Tryz.underlying89 tz116 hx64
            have j67 := (ga64.2 id67 l67).trans j67
            have m67_0 : cc67[of67]? = some (.int .i64 x64.lo) := q67 0 (show 0 < 2 by decide)
            have m67_1 : cc67[of67 + 1]? = some (.int .i64 x64.hi) := q67 1 (show 1 < 2 by decide)
            obtain ⟨id68, of68, cc68, ty68, wr68, ex68, i68, j68, l68, q68⟩ := (hv_l).at (P := Tryz.prog) (t := 89) Tryz.underlying89 tz116 hx64
            have j68 := (ga64.2 id68 l68).trans j68
            have m68_0 : cc68[of68]? = some (.int .i64 x64.lo) := q68 0 (show 0 < 2 by decide)
            have m68_1 : cc68[of68 + 1]? = some (.int .i64 x64.hi) := q68 1 (show 1 < 2 by decide)
            obtain ⟨id69, of69, cc69, ty69, wr69, ex69, i69, j69, l69, q69⟩ := (hv_l).at (P := Tryz.prog) (t := 89) Tryz.underlying89 tz116 hx64
            have j69 := (ga64.2 id69 l69).trans j69
            have m69_0 : cc69[of69]? = some (.int .i64 x64.lo) := q69 0 (show 0 < 2 by decide)
            have m69_1 : cc69[of69 + 1]? = some (.int .i64 x64.hi) := q69 1 (show 1 < 2 by decide)
            have y70 : aBuild Tryz.prog 44 [(0, .int .i64 x64.lo), (1, .int .i64 (IntKind.i64.wrap (x64.hi - x64.lo)))] = some (.agg #[.int .i64 x64.lo, .int .i64 (IntKind.i64.wrap (x64.hi - x64.lo))]) := by kernel_rfl
            obtain ⟨S71, e71, n71, b71, a71⟩ := push_open S64 (.cells [.int .i64 0, .int .i64 0] 44 0 true true)
            have v67_71 := (a71.2 id67 (by omega)).trans j67
            have v68_71 := (a71.2 id68 (by omega)).trans j68
            have v69_71 := (a71.2 id69 (by omega)).trans j69
            have ow_72 := ow_o.agree a71
            have g71 : Agree S S71 := ga64.trans a71
            have s71 : E0.same S64 S71 = true := symEnv_same a71
            have ne73 : blkOf (v_o) ≠ some S64.next := ow_o.new (Nat.le_refl _)
            obtain ⟨S74, k74, n74, b74, q74⟩ := st_at (o := 0) (c' := [.int .i64 x64.lo, .int .i64 (IntKind.i64.wrap (x64.hi - x64.lo))]) (v := .agg #[.int .i64 x64.lo, .int .i64 (IntKind.i64.wrap (x64.hi - x64.lo))]) tz56 b71 rfl rfl (show 0 + 2 ≤ 2 by decide) rfl
            have v67_74 := (q74 id67 (by omega)).trans v67_71
            have v68_74 := (q74 id68 (by omega)).trans v68_71
            have v69_74 := (q74 id69 (by omega)).trans v69_71
            have ow_75 := ow_72.frame (by omega) (fun id hid hb => q74 id (fun e => (show blkOf (v_o) ≠ some S64.next from by first | exact ow_72.ne (by omega) | exact ow_72.new (by omega) | assumption) (e ▸ hb)))
            have g74 : Agree S S74 := ⟨by have := (g71).1; omega, fun id hid => (q74 id (by have := (g71).1; omega)).trans ((g71).2 id hid)⟩
            have y76 : aBuildSlice Tryz.prog 22 1 [(0, .agg #[.int .i64 x64.lo, .int .i64 (IntKind.i64.wrap (x64.hi - x64.lo))])] S74 = some (.slice (some ⟨S74.next, 0, none⟩) 1 1, S74.push (.cells [.int .i64 x64.lo, .int .i64 (IntKind.i64.wrap (x64.hi - x64.lo))] 44 2 true true)) := by kernel_rfl
            obtain ⟨S77, e77, n77, b77, a77⟩ := push_open S74 (.cells [.int .i64 x64.lo, .int .i64 (IntKind.i64.wrap (x64.hi - x64.lo))] 44 2 true true)
            have v67_77 := (a77.2 id67 (by omega)).trans v67_74
            have v68_77 := (a77.2 id68 (by omega)).trans v68_74
            have v69_77 := (a77.2 id69 (by omega)).trans v69_74
            have v71_77 := (a77.2 S64.next (by omega)).trans b74
            have ow_78 := ow_75.agree a77
            have g77 : Agree S S77 := g74.trans a77
            have s77 : E0.same S74 S77 = true := symEnv_same a77
            have ne79 : blkOf (v_o) ≠ some S74.next := ow_75.new (Nat.le_refl _)
            have o80 : Own 44 S74.next S77 (.slice (some ⟨S74.next, 0, none⟩) 1 1) ([(⟨x64.lo, IntKind.i64.wrap (x64.hi - x64.lo)⟩ : Ar)] : List Ar) := .inr ⟨_, true, rfl, Nat.le_refl _, by omega, b77⟩
            obtain ⟨u81, S81, k81, o81, n81, f81, d81⟩ := own_append (P := Tryz.prog) (t := 22) (tx := 22) (n := 1) (v := v_o) ow_78 (o80.rows) (by omega) (by first | omega | (simp; omega) | simp) (by first | omega | (simp; omega) | simp) Tryz.underlying22 Tryz.underlying22 ti56 tv56 rfl tz56
            have v71_81 := (f81 S64.next (by omega) (by first | (simp [blkOf]; done) | exact ow_78.ne (by omega) | exact ow_78.new (by omega) | assumption)).trans v71_77
            have g81 : Agree S S81 := ⟨Nat.le_trans (g77).1 n81, fun id hid => (f81 id (by have := (g77).1; omega) (by first | (simp [blkOf]; done) | exact ow_78.ne (by omega) | assumption)).trans ((g77).2 id hid)⟩
            have ne82 : blkOf u81 ≠ some S64.next := by first | exact o81.ne (by omega) | exact o81.new (by omega) | exact d81 _ (by omega) (by first | (simp [blkOf]; done) | exact ow_78.ne (by omega) | exact ow_78.new (by omega) | assumption)
            have w83 : IntKind.i64.wrap ((i : Int) + 1) = ((i + 1 : Nat) : Int) := by rw [IntWalk.i64_in] <;> omega
            try simp (disch := first | omega | assumption) only [E0_G, SY, off, agreeKind, partVals, allocV, ldA, rdCells, aggD, aField, Nat.reduceAdd, Nat.reduceLT, Nat.reduceBEq, TY_EvA4, g64_0, g64_3, g64_5, g64_6, nn66_18, store_agree, store_refl E0_same, i67, j67, m67_0, m67_1, y70, e71, k74, b74, y76, e77, k81, w83] at he
            rw [drop_cons' hx64] at hd64
            have hf := (show _ = (R87_1 l (l.drop (i + 1)) (i + 1) (o ++ ([(⟨x64.lo, IntKind.i64.wrap (x64.hi - x64.lo)⟩ : Ar)])) : (List Ar)) from rfl).symm.trans hd64
            exact .next he (m - 1) (by omega) ⟨(i + 1), u81, o ++ ([(⟨x64.lo, IntKind.i64.wrap (x64.hi - x64.lo)⟩ : Ar)]), by first | omega | (simp; omega) | simp, by first | omega | (simp; omega) | simp, by first | omega | (simp; omega) | simp, (by simp only [SY, eq_self, Nat.reduceBEq, g64_0] <;> rfl), (by simp only [SY, eq_self, Nat.reduceBEq, g64_3] <;> rfl), (by simp only [SY, eq_self, Nat.reduceBEq, g64_4] <;> rfl), (by simp only [SY, eq_self, Nat.reduceBEq, g64_5] <;> rfl), (by simp only [SY, eq_self, Nat.reduceBEq, g64_6] <;> rfl), g81, by omega, (o81.low (by omega)), hf⟩
          · skip
            try simp (disch := first | omega | assumption) only [SY, h65a] at he
            rw [List.drop_eq_nil_of_le (show l.length ≤ i by omega)] at hd64
            have hf := (show _ = (o : (List Ar)) from rfl).symm.trans hd64
            exact .exit he ⟨rfl, ⟨i, v_o, o, (by simp only [SY, eq_self, Nat.reduceBEq, g64_3] <;> rfl), ga64, by omega, (ow_o.low (by omega)), by first | omega | assumption | simp, by first | omega | assumption | simp, hf.symm⟩⟩)
      obtain ⟨rfl, i, v_o, o, ge64_3, ge64, gm64, oe_o64, hj64_0, hj64_1, hR64⟩ := hQ64
      obtain rfl : o = R87_1 l l 0 ([]) := hR64.symm
      try simp (disch := first | omega | assumption) only [E0_G, SY, off, agreeKind, eq_self, if_true, Nat.reduceAdd, Nat.reduceLT, Nat.reduceBEq, ge64_3] at hz
      have hr : r87 l = R87_1 l l 0 ([]) := (if_pos h2).trans ((if_neg h4).trans (rfl))
      exact ⟨v_o, S64e, by first | (rw [hr]; exact hz.symm) | exact hz.symm, ge64, by rw [hr]; exact oe_o64.low (by omega)⟩
  · skip
    try simp (disch := first | omega | assumption) only [E0_G, SY, off, agreeKind, Nat.reduceAdd, Nat.reduceLT, Nat.reduceBEq, h2a] at hz
    generalize hL85 : Rec.loop _ _ _ _ = L85 at hz
    obtain ⟨x85, t85, S85e, rfl, hQ85⟩ := loop_met hL85 (fun m t S' => ∃ (i : Nat) (v_o : Value) (o : List Ar), m + i = l.length ∧ o.length ≤ i ∧ i ≤ l.length ∧ t.get 0 = some (v_l) ∧ t.get 3 = some (v_o) ∧ t.get 4 = some (.int .i64 (l.length : Int)) ∧ t.get 5 = some (.bool false) ∧ t.get 6 = some (.int .i64 (i : Int)) ∧ Agree S S' ∧ S.next ≤ S'.next ∧ Own 44 S.next S' v_o o ∧ R87_2 l (l.drop i) i o = R87_2 l l 0 ([]))
      (fun x t S' => x = .exit 0 ∧ ∃ (i : Nat) (v_o : Value) (o : List Ar), t.get 3 = some (v_o) ∧ Agree S S' ∧ S.next ≤ S'.next ∧ Own 44 S.next S' v_o o ∧ o.length ≤ i ∧ i ≤ l.length ∧ R87_2 l l 0 ([]) = o) (l.length - 0) ⟨0, .slice none 0 0, [], by first | rfl | omega | (simp; omega) | simp, by first | rfl | omega | (simp; omega) | simp, by first | rfl | omega | (simp; omega) | simp, by simp only [SY, eq_self, Nat.reduceBEq] <;> rfl, by simp only [SY, eq_self, Nat.reduceBEq] <;> rfl, by simp only [SY, eq_self, Nat.reduceBEq] <;> rfl, by simp only [SY, eq_self, Nat.reduceBEq] <;> rfl, by simp only [SY, Nat.reduceBEq] <;> rfl, (Agree.refl S), Nat.le_refl _, Own.nil _ _ _, rfl⟩ (by
        rintro m t S85 ⟨i, v_o, o, hi85_0, hi85_1, hi85_2, g85_0, g85_3, g85_4, g85_5, g85_6, ga85, gn85, ow_o, hd85⟩
        refine .run fun z he => ?_
        try simp (disch := first | omega | assumption) only [E0_G, SY, off, agreeKind, Nat.reduceAdd, Nat.reduceLT, Nat.reduceBEq, g85_4, g85_6] at he
        rcases dP ((i : Int) < (l.length : Int)) with ⟨h86a, h86⟩ | ⟨h86a, h86⟩
        · skip
          try simp (disch := first | omega | assumption) only [E0_G, SY, off, agreeKind, Nat.reduceAdd, Nat.reduceLT, Nat.reduceBEq, g85_5, h86a] at he
          rw [code_draws _ _ _ (by kernel_rfl)] at he
          generalize hnd87 : needy _ = nd87 at he
          have nn87_18 : nd87 18 = false := by rw [← hnd87]; kernel_rfl
          have hx85 : l[i]? = some (l[i]'(by first | omega | simp; omega)) := List.getElem?_eq_getElem _
          generalize l[i]'_ = x85 at hx85
          obtain ⟨id88, of88, cc88, ty88, wr88, ex88, i88, j88, l88, q88⟩ := (hv_l).at (P := Tryz.prog) (t := 89) Tryz.underlying89 tz116 hx85
          have j88 := (ga85.2 id88 l88).trans j88
          have m88_0 : cc88[of88]? = some (.int .i64 x85.lo) := q88 0 (show 0 < 2 by decide)
          have m88_1 : cc88[of88 + 1]? = some (.int .i64 x85.hi) := q88 1 (show 1 < 2 by decide)
          obtain ⟨id89, of89, cc89, ty89, wr89, ex89, i89, j89, l89, q89⟩ := (hv_l).at (P := Tryz.prog) (t := 89) Tryz.underlying89 tz116 hx85
          have j89 := (ga85.2 id89 l89).trans j89
          have m89_0 : cc89[of89]? = some (.int .i64 x85.lo) := q89 0 (show 0 < 2 by decide)
          have m89_1 : cc89[of89 + 1]? = some (.int .i64 x85.hi) := q89 1 (show 1 < 2 by decide)
          obtain ⟨id90, of90, cc90, ty90, wr90, ex90, i90, j90, l90, q90⟩ := (hv_l).at (P := Tryz.prog) (t := 89) Tryz.underlying89 tz116 hx85
          have j90 := (ga85.2 id90 l90).trans j90
          have m90_0 : cc90[of90]? = some (.int .i64 x85.lo) := q90 0 (show 0 < 2 by decide)
          have m90_1 : cc90[of90 + 1]? = some (.int .i64 x85.hi) := q90 1 (show 1 < 2 by decide)
          have y91 : aBuild Tryz.prog 44 [(0, .int .i64 x85.lo), (1, .int .i64 (IntKind.i64.wrap (x85.hi - x85.lo)))] = some (.agg #[.int .i64 x85.lo, .int .i64 (IntKind.i64.wrap (x85.hi - x85.lo))]) := by kernel_rfl
          obtain ⟨S92, e92, n92, b92, a92⟩ := push_open S85 (.cells [.int .i64 0, .int .i64 0] 44 0 true true)
          have v88_92 := (a92.2 id88 (by omega)).trans j88
          have v89_92 := (a92.2 id89 (by omega)).trans j89
          have v90_92 := (a92.2 id90 (by omega)).trans j90
          have ow_93 := ow_o.agree a92
          have g92 : Agree S S92 := ga85.trans a92
          have s92 : E0.same S85 S92 = true := symEnv_same a92
          have ne94 : blkOf (v_o) ≠ some S85.next := ow_o.new (Nat.le_refl _)
          obtain ⟨S95, k95, n95, b95, q95⟩ := st_at (o := 0) (c' := [.int .i64 x85.lo, .int .i64 (IntKind.i64.wrap (x85.hi - x85.lo))]) (v := .agg #[.int .i64 x85.lo, .int .i64 (IntKind.i64.wrap (x85.hi - x85.lo))]) tz56 b92 rfl rfl (show 0 + 2 ≤ 2 by decide) rfl
          have v88_95 := (q95 id88 (by omega)).trans v88_92
          have v89_95 := (q95 id89 (by omega)).trans v89_92
          have v90_95 := (q95 id90 (by omega)).trans v90_92
          have ow_96 := ow_93.frame (by omega) (fun id hid hb => q95 id (fun e => (show blkOf (v_o) ≠ some S85.next from by first | exact ow_93.ne (by omega) | exact ow_93.new (by omega) | assumption) (e ▸ hb)))
          have g95 : Agree S S95 := ⟨by have := (g92).1; omega, fun id hid => (q95 id (by have := (g92).1; omega)).trans ((g92).2 id hid)⟩
          have y97 : aBuildSlice Tryz.prog 22 1 [(0, .agg #[.int .i64 x85.lo, .int .i64 (IntKind.i64.wrap (x85.hi - x85.lo))])] S95 = some (.slice (some ⟨S95.next, 0, none⟩) 1 1, S95.push (.cells [.int .i64 x85.lo, .int .i64 (IntKind.i64.wrap (x85.hi - x85.lo))] 44 2 true true)) := by kernel_rfl
          obtain ⟨S98, e98, n98, b98, a98⟩ := push_open S95 (.cells [.int .i64 x85.lo, .int .i64 (IntKind.i64.wrap (x85.hi - x85.lo))] 44 2 true true)
          have v88_98 := (a98.2 id88 (by omega)).trans v88_95
          have v89_98 := (a98.2 id89 (by omega)).trans v89_95
          have v90_98 := (a98.2 id90 (by omega)).trans v90_95
          have v92_98 := (a98.2 S85.next (by omega)).trans b95
          have ow_99 := ow_96.agree a98
          have g98 : Agree S S98 := g95.trans a98
          have s98 : E0.same S95 S98 = true := symEnv_same a98
          have ne100 : blkOf (v_o) ≠ some S95.next := ow_96.new (Nat.le_refl _)
          have o101 : Own 44 S95.next S98 (.slice (some ⟨S95.next, 0, none⟩) 1 1) ([(⟨x85.lo, IntKind.i64.wrap (x85.hi - x85.lo)⟩ : Ar)] : List Ar) := .inr ⟨_, true, rfl, Nat.le_refl _, by omega, b98⟩
          obtain ⟨u102, S102, k102, o102, n102, f102, d102⟩ := own_append (P := Tryz.prog) (t := 22) (tx := 22) (n := 1) (v := v_o) ow_99 (o101.rows) (by omega) (by first | omega | (simp; omega) | simp) (by first | omega | (simp; omega) | simp) Tryz.underlying22 Tryz.underlying22 ti56 tv56 rfl tz56
          have v92_102 := (f102 S85.next (by omega) (by first | (simp [blkOf]; done) | exact ow_99.ne (by omega) | exact ow_99.new (by omega) | assumption)).trans v92_98
          have g102 : Agree S S102 := ⟨Nat.le_trans (g98).1 n102, fun id hid => (f102 id (by have := (g98).1; omega) (by first | (simp [blkOf]; done) | exact ow_99.ne (by omega) | assumption)).trans ((g98).2 id hid)⟩
          have ne103 : blkOf u102 ≠ some S85.next := by first | exact o102.ne (by omega) | exact o102.new (by omega) | exact d102 _ (by omega) (by first | (simp [blkOf]; done) | exact ow_99.ne (by omega) | exact ow_99.new (by omega) | assumption)
          have w104 : IntKind.i64.wrap ((i : Int) + 1) = ((i + 1 : Nat) : Int) := by rw [IntWalk.i64_in] <;> omega
          try simp (disch := first | omega | assumption) only [E0_G, SY, off, agreeKind, partVals, allocV, ldA, rdCells, aggD, aField, Nat.reduceAdd, Nat.reduceLT, Nat.reduceBEq, TY_EvA4, g85_0, g85_3, g85_5, g85_6, nn87_18, store_agree, store_refl E0_same, i88, j88, m88_0, m88_1, y91, e92, k95, b95, y97, e98, k102, w104] at he
          rw [drop_cons' hx85] at hd85
          have hf := (show _ = (R87_2 l (l.drop (i + 1)) (i + 1) (o ++ ([(⟨x85.lo, IntKind.i64.wrap (x85.hi - x85.lo)⟩ : Ar)])) : (List Ar)) from rfl).symm.trans hd85
          exact .next he (m - 1) (by omega) ⟨(i + 1), u102, o ++ ([(⟨x85.lo, IntKind.i64.wrap (x85.hi - x85.lo)⟩ : Ar)]), by first | omega | (simp; omega) | simp, by first | omega | (simp; omega) | simp, by first | omega | (simp; omega) | simp, (by simp only [SY, eq_self, Nat.reduceBEq, g85_0] <;> rfl), (by simp only [SY, eq_self, Nat.reduceBEq, g85_3] <;> rfl), (by simp only [SY, eq_self, Nat.reduceBEq, g85_4] <;> rfl), (by simp only [SY, eq_self, Nat.reduceBEq, g85_5] <;> rfl), (by simp only [SY, eq_self, Nat.reduceBEq, g85_6] <;> rfl), g102, by omega, (o102.low (by omega)), hf⟩
        · skip
          try simp (disch := first | omega | assumption) only [SY, h86a] at he
          rw [List.drop_eq_nil_of_le (show l.length ≤ i by omega)] at hd85
          have hf := (show _ = (o : (List Ar)) from rfl).symm.trans hd85
          exact .exit he ⟨rfl, ⟨i, v_o, o, (by simp only [SY, eq_self, Nat.reduceBEq, g85_3] <;> rfl), ga85, by omega, (ow_o.low (by omega)), by first | omega | assumption | simp, by first | omega | assumption | simp, hf.symm⟩⟩)
    obtain ⟨rfl, i, v_o, o, ge85_3, ge85, gm85, oe_o85, hj85_0, hj85_1, hR85⟩ := hQ85
    obtain rfl : o = R87_2 l l 0 ([]) := hR85.symm
    try simp (disch := first | omega | assumption) only [E0_G, SY, off, agreeKind, eq_self, if_true, Nat.reduceAdd, Nat.reduceLT, Nat.reduceBEq, ge85_3] at hz
    have hr : r87 l = R87_2 l l 0 ([]) := (if_neg h2).trans (rfl)
    exact ⟨v_o, S85e, by first | (rw [hr]; exact hz.symm) | exact hz.symm, ge85, by rw [hr]; exact oe_o85.low (by omega)⟩
end Great
end Go.Proofs
