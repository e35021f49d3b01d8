/-
  The great seat of stage 1: pieces, by the generator.
-/
import Derived.Test.YtgbjgljchkodjaaGreatDoorBD
import Derived.Test.YtgbjgljchkodjaaGreatDoorAE4
set_option linter.unusedSimpArgs false
set_option linter.unusedVariables false
namespace Go.Proofs
namespace Great
open Go Go.RowKit Go.Aev
set_option maxRecDepth 100000
theorem tz177 : szOf Tryz.prog 136 = some 2 := by kernel_rfl
theorem tt177 : inTab Tryz.prog 136 = true := by kernel_rfl
theorem t0_177 : zeroOf Tryz.prog 136 = some (.agg #[.int .i64 0, .int .i64 0]) := by kernel_rfl
theorem tz178 : szOf Tryz.prog 137 = some 2 := by kernel_rfl
theorem tt178 : inTab Tryz.prog 137 = true := by kernel_rfl
theorem t0_178 : zeroOf Tryz.prog 137 = some (.agg #[.int .i64 0, .int .i64 0]) := by kernel_rfl
/-- What is known of the types. -/
theorem TY_EvA10 : type_of% (And.intro (And.intro (And.intro (And.intro (And.intro (And.intro Tryz.underlying3 tz3) (And.intro tt3 (And.intro t0_3 Tryz.underlying22))) (And.intro (And.intro tz22 tt22) (And.intro t0_22 (And.intro Tryz.underlying56 tz43)))) (And.intro (And.intro (And.intro tt43 t0_43) (And.intro Tryz.underlying59 (And.intro tz44 tt44))) (And.intro (And.intro t0_44 Tryz.underlying60) (And.intro tz45 (And.intro tt45 t0_45))))) (And.intro (And.intro (And.intro (And.intro Tryz.underlying62 tz51) (And.intro tt51 (And.intro t0_51 Tryz.underlying63))) (And.intro (And.intro tz52 tt52) (And.intro t0_52 (And.intro Tryz.underlying43 tz55)))) (And.intro (And.intro (And.intro tt55 t0_55) (And.intro Tryz.underlying44 (And.intro tz56 tt56))) (And.intro (And.intro t0_56 Tryz.underlying45) (And.intro tz57 (And.intro tt57 t0_57)))))) (And.intro (And.intro (And.intro (And.intro (And.intro Tryz.underlying46 tz58) (And.intro tt58 (And.intro t0_58 Tryz.underlying66))) (And.intro (And.intro tz77 tt77) (And.intro t0_77 (And.intro Tryz.underlying73 tz80)))) (And.intro (And.intro (And.intro tt80 t0_80) (And.intro Tryz.underlying82 (And.intro tz90 tt90))) (And.intro (And.intro t0_90 Tryz.underlying89) (And.intro tz110 (And.intro tt110 t0_110))))) (And.intro (And.intro (And.intro (And.intro Tryz.underlying94 tz115) (And.intro tt115 (And.intro t0_115 Tryz.underlying95))) (And.intro (And.intro tz116 tt116) (And.intro t0_116 (And.intro Tryz.underlying76 tz123)))) (And.intro (And.intro (And.intro tt123 t0_123) (And.intro Tryz.underlying136 (And.intro tz177 tt177))) (And.intro (And.intro t0_177 Tryz.underlying137) (And.intro tz178 (And.intro tt178 t0_178))))))) := (And.intro (And.intro (And.intro (And.intro (And.intro (And.intro Tryz.underlying3 tz3) (And.intro tt3 (And.intro t0_3 Tryz.underlying22))) (And.intro (And.intro tz22 tt22) (And.intro t0_22 (And.intro Tryz.underlying56 tz43)))) (And.intro (And.intro (And.intro tt43 t0_43) (And.intro Tryz.underlying59 (And.intro tz44 tt44))) (And.intro (And.intro t0_44 Tryz.underlying60) (And.intro tz45 (And.intro tt45 t0_45))))) (And.intro (And.intro (And.intro (And.intro Tryz.underlying62 tz51) (And.intro tt51 (And.intro t0_51 Tryz.underlying63))) (And.intro (And.intro tz52 tt52) (And.intro t0_52 (And.intro Tryz.underlying43 tz55)))) (And.intro (And.intro (And.intro tt55 t0_55) (And.intro Tryz.underlying44 (And.intro tz56 tt56))) (And.intro (And.intro t0_56 Tryz.underlying45) (And.intro tz57 (And.intro tt57 t0_57)))))) (And.intro (And.intro (And.intro (And.intro (And.intro Tryz.underlying46 tz58) (And.intro tt58 (And.intro t0_58 Tryz.underlying66))) (And.intro (And.intro tz77 tt77) (And.intro t0_77 (And.intro Tryz.underlying73 tz80)))) (And.intro (And.intro (And.intro tt80 t0_80) (And.intro Tryz.underlying82 (And.intro tz90 tt90))) (And.intro (And.intro t0_90 Tryz.underlying89) (And.intro tz110 (And.intro tt110 t0_110))))) (And.intro (And.intro (And.intro (And.intro Tryz.underlying94 tz115) (And.intro tt115 (And.intro t0_115 Tryz.underlying95))) (And.intro (And.intro tz116 tt116) (And.intro t0_116 (And.intro Tryz.underlying76 tz123)))) (And.intro (And.intro (And.intro tt123 t0_123) (And.intro Tryz.underlying136 (And.intro tz177 tt177))) (And.intro (And.intro t0_177 Tryz.underlying137) (And.intro tz178 (And.intro tt178 t0_178)))))))
def R178_0 (l : List Ar)  : List Ar → List Sp
  | [] => []
  | x2 :: l' => ((⟨x2.f, min (IntKind.i64.wrap (x2.f + x2.l)) 43199⟩ : Sp) :: (if 43200 ≤ (IntKind.i64.wrap (x2.f + x2.l)) then ((⟨0, IntKind.i64.wrap ((IntKind.i64.wrap (x2.f + x2.l)) - 43200)⟩ : Sp) :: R178_0 l l') else R178_0 l l'))
def r178 (l : List Ar) : List Sp := R178_0 l l
set_option maxHeartbeats 2000000 in
theorem it178 (l : List Ar) (hn : l.length ≤ 1000) (S : AS) (y : Nat) (I : Nat → (Nat → Prop) → AS → Prop) (T0 : Nat → Prop) (hy : YieldOk Tryz.prog E0 S y (fun b : Sp => Value.agg (cellsOf b).toArray) (r178 l) I) (h0 : I 0 T0 S) (v_l : Value) (hv_l : Lst S v_l l) (nv_l : ∀ b, blkOf v_l = some b → ¬ T0 b) (p_b : Nat) (g_b : S.heap.get p_b = some (.cells [v_l] 22 0 true true)) (l_b : p_b < S.next) (n_b : ¬ T0 p_b) :
    ∃ S' T', (evL Tryz.prog E0).call 112 #[.func (.yield y) #[] #[], .pointer (some ⟨p_b, 0, none⟩)] S = some (.tuple #[], S') ∧ I (r178 l).length T' S' ∧ Off T0 S S' ∧ Wider T0 S T' := by
  have hbeg : (r178 l).drop 0 = R178_0 l l := rfl
  generalize hz : (evL Tryz.prog E0).call 112 _ _ = z
  rw [L_call, evCall_said rfl Tryz.func112 rfl (by decide) Tryz.ntmps112 Tryz.results112] at hz
  have w1 := ((hv_l.off (Off.refl T0 S) nv_l)).len (P := Tryz.prog) (t := 22) Tryz.underlying22
  try simp (disch := first | omega | assumption) only [E0_G, SY, setArgs, off, agreeKind, ldA, aggD, Nat.reduceAdd, Nat.reduceSub, Nat.reduceLT, Nat.reduceBEq, TY_EvA10, g_b, w1] at hz
  generalize hL2 : Rec.loop _ _ _ _ = L2 at hz
  obtain ⟨x2, t2, S2e, rfl, hQ2⟩ := loop_met hL2 (fun m t S' => ∃ (cI : Nat) (TI : Nat → Prop) (j : Nat), m + j = l.length ∧ j ≤ l.length ∧ cI ≤ (r178 l).length ∧ t.get 0 = some (.func (.yield y) #[] #[]) ∧ t.get 6 = some (v_l) ∧ t.get 7 = some (.int .i64 (l.length : Int)) ∧ t.get 8 = some (.int .i64 (j : Int)) ∧ Off T0 S S' ∧ S.next ≤ S'.next ∧ I cI TI S' ∧ Wider T0 S TI ∧ (r178 l).drop cI = R178_0 l (l.drop j))
    (fun x t S' => x = .exit 0 ∧ ∃ (cI : Nat) (TI : Nat → Prop) (j : Nat), Off T0 S S' ∧ S.next ≤ S'.next ∧ I cI TI S' ∧ Wider T0 S TI ∧ j ≤ l.length ∧ cI ≤ (r178 l).length ∧ (r178 l).drop cI = []) (l.length - 0) ⟨0, T0, 0, by first | rfl | omega | (simp; omega) | simp, by first | rfl | omega | (simp; omega) | simp, by first | rfl | omega | (simp; omega) | simp, by simp only [SY, eq_self, Nat.reduceBEq] <;> rfl, by simp only [SY, eq_self, Nat.reduceBEq] <;> rfl, by simp only [SY, eq_self, Nat.reduceBEq] <;> rfl, by simp only [SY, Nat.reduceBEq] <;> rfl, (Off.refl T0 S), Nat.le_refl _, h0, (Wider.refl T0 S), rfl⟩ (by
      rintro m t S2 ⟨cI, TI, j, hi2_0, hi2_1, hi2_2, g2_0, g2_6, g2_7, g2_8, ga2, gn2, hI2, ww2, hd2⟩
      refine .run fun z he => ?_
      try simp (disch := first | omega | assumption) only [E0_G, SY, off, agreeKind, Nat.reduceLT, Nat.reduceBEq, g2_7, g2_8] at he
      rcases dP ((j : Int) < (l.length : Int)) with ⟨h3a, h3⟩ | ⟨h3a, h3⟩
      · skip
        have hx2 : l[j]? = some (l[j]'(by first | omega | simp; omega)) := List.getElem?_eq_getElem _
        generalize l[j]'_ = x2 at hx2
        obtain ⟨id4, of4, cc4, ty4, wr4, ex4, i4, j4, l4, q4, bb4⟩ := (hv_l).at2 (P := Tryz.prog) (t := 22) Tryz.underlying22 tz56 hx2
        have j4 := (ga2.2 id4 l4 (nv_l _ bb4)).trans j4
        have nt4 : ¬ TI id4 := ww2.not l4 (nv_l _ bb4)
        have m4_0 : cc4[of4]? = some (.int .i64 x2.f) := q4 0 (show 0 < 2 by decide)
        have m4_1 : cc4[of4 + 1]? = some (.int .i64 x2.l) := q4 1 (show 1 < 2 by decide)
        obtain ⟨S5, e5, n5, b5, a5⟩ := push_open S2 (.cells [.int .i64 0, .int .i64 0] 44 0 true true)
        have nt5 : ¬ TI S2.next := fun h => by have := hy.low _ _ _ hI2 _ h; omega
        have v4_5 := (a5.2 id4 (by omega)).trans j4
        have g5 : Off T0 S S5 := Off.agree ga2 a5
        have hI5 := hy.keep _ _ _ _ hI2 a5.1 (fun id hid _ => a5.2 id hid)
        have s5 : E0.same S2 S5 = true := symEnv_same a5
        obtain ⟨S6, k6, n6, b6, q6⟩ := st_at (o := 0) (c' := [.int .i64 x2.f, .int .i64 x2.l]) (v := .agg #[.int .i64 x2.f, .int .i64 x2.l]) tz56 b5 rfl rfl (show 0 + 2 ≤ 2 by decide) rfl
        have v4_6 := (q6 id4 (by omega)).trans v4_5
        have g6 : Off T0 S S6 := Off.put g5 (by omega) n6 q6
        have hI6 := hy.keep _ _ _ _ hI5 (by omega) (fun id hid hh => q6 id (fun e => hh.elim (fun h' => nt5 (e ▸ h')) (fun h' => by omega)))
        have y7 : aBuild Tryz.prog 137 [(0, .int .i64 x2.f), (1, .int .i64 (min (IntKind.i64.wrap (x2.f + x2.l)) 43199))] = some (.agg #[.int .i64 x2.f, .int .i64 (min (IntKind.i64.wrap (x2.f + x2.l)) 43199)]) := by kernel_rfl
        rw [drop_cons' hx2] at hd2
        have yy8 := drop_unc (x := (⟨x2.f, min (IntKind.i64.wrap (x2.f + x2.l)) 43199⟩ : Sp)) (hd2.trans (rfl))
        obtain ⟨S8, T8, k8, hI8, f8, w8⟩ := hy.step _ _ _ _ yy8.1 hI6
        replace k8 : (evL Tryz.prog E0).round y #[.agg #[.int .i64 x2.f, .int .i64 (min (IntKind.i64.wrap (x2.f + x2.l)) 43199)]] S6 = some (.bool true, S8) := k8
        have l8 := f8.1
        have cl8 := (List.getElem?_eq_some_iff.1 yy8.1).1
        have v4_8 := (f8.2 id4 (by omega) nt4).trans v4_6
        have nt4_8 : ¬ T8 id4 := w8.not (by omega) nt4
        have v5_8 := (f8.2 S2.next (by omega) nt5).trans b6
        have nt5_8 : ¬ T8 S2.next := w8.not (by omega) nt5
        have g8 : Off T0 S S8 := Off.trans g6 ww2 f8
        have ww8 : Wider T0 S T8 := Wider.trans ww2 w8 g6.1
        try simp (disch := first | omega | assumption) only [E0_G, SY, off, agreeKind, partVals, vals, allocV, ldA, rdCells, aggD, aField, Nat.reduceAdd, Nat.reduceLT, Nat.reduceBEq, TY_EvA10, calledV_yield, firstOf_none, op_round, roundV_some, g2_0, g2_6, g2_8, h3a, i4, j4, m4_0, m4_1, e5, k6, b6, y7, k8] at he
        rcases dP (43200 ≤ (IntKind.i64.wrap (x2.f + x2.l))) with ⟨h9a, h9⟩ | ⟨h9a, h9⟩
        · skip
          have y10 : aBuild Tryz.prog 137 [(0, .int .i64 0), (1, .int .i64 (IntKind.i64.wrap ((IntKind.i64.wrap (x2.f + x2.l)) - 43200)))] = some (.agg #[.int .i64 0, .int .i64 (IntKind.i64.wrap ((IntKind.i64.wrap (x2.f + x2.l)) - 43200))]) := by kernel_rfl
          have yy11 := drop_unc (x := (⟨0, IntKind.i64.wrap ((IntKind.i64.wrap (x2.f + x2.l)) - 43200)⟩ : Sp)) (yy8.2.trans ((if_pos h9).trans (rfl)))
          obtain ⟨S11, T11, k11, hI11, f11, w11⟩ := hy.step _ _ _ _ yy11.1 hI8
          replace k11 : (evL Tryz.prog E0).round y #[.agg #[.int .i64 0, .int .i64 (IntKind.i64.wrap ((IntKind.i64.wrap (x2.f + x2.l)) - 43200))]] S8 = some (.bool true, S11) := k11
          have l11 := f11.1
          have cl11 := (List.getElem?_eq_some_iff.1 yy11.1).1
          have v4_11 := (f11.2 id4 (by omega) nt4_8).trans v4_8
          have nt4_11 : ¬ T11 id4 := w11.not (by omega) nt4_8
          have v5_11 := (f11.2 S2.next (by omega) nt5_8).trans v5_8
          have nt5_11 : ¬ T11 S2.next := w11.not (by omega) nt5_8
          have g11 : Off T0 S S11 := Off.trans g8 ww8 f11
          have ww11 : Wider T0 S T11 := Wider.trans ww8 w11 g8.1
          have w12 : IntKind.i64.wrap ((j : Int) + 1) = ((j + 1 : Nat) : Int) := by rw [IntWalk.i64_in] <;> omega
          try simp (disch := first | omega | assumption) only [E0_G, SY, off, agreeKind, partVals, vals, Nat.reduceAdd, Nat.reduceLT, Nat.reduceBEq, calledV_yield, firstOf_none, op_round, roundV_some, g2_0, g2_8, h9a, y10, k11, w12] at he
          have hf := yy11.2.trans (show _ = (R178_0 l (l.drop (j + 1)) : List Sp) from rfl)
          exact .next he (m - 1) (by omega) ⟨((cI + 1) + 1), T11, (j + 1), by first | omega | (simp; omega) | simp, by first | omega | (simp; omega) | simp, by first | omega | (simp; omega) | simp, (by simp only [SY, eq_self, Nat.reduceBEq, g2_0] <;> rfl), (by simp only [SY, eq_self, Nat.reduceBEq, g2_6] <;> rfl), (by simp only [SY, eq_self, Nat.reduceBEq, g2_7] <;> rfl), (by simp only [SY, eq_self, Nat.reduceBEq, g2_8] <;> rfl), g11, by omega, hI11, ww11, hf⟩
        · skip
          have w13 : IntKind.i64.wrap ((j : Int) + 1) = ((j + 1 : Nat) : Int) := by rw [IntWalk.i64_in] <;> omega
          try simp (disch := first | omega | assumption) only [E0_G, SY, off, agreeKind, Nat.reduceAdd, Nat.reduceLT, Nat.reduceBEq, g2_8, h9a, w13] at he
          have hf := yy8.2.trans (show _ = (R178_0 l (l.drop (j + 1)) : List Sp) from (if_neg h9).trans (rfl))
          exact .next he (m - 1) (by omega) ⟨(cI + 1), T8, (j + 1), by first | omega | (simp; omega) | simp, by first | omega | (simp; omega) | simp, by first | omega | (simp; omega) | simp, (by simp only [SY, eq_self, Nat.reduceBEq, g2_0] <;> rfl), (by simp only [SY, eq_self, Nat.reduceBEq, g2_6] <;> rfl), (by simp only [SY, eq_self, Nat.reduceBEq, g2_7] <;> rfl), (by simp only [SY, eq_self, Nat.reduceBEq, g2_8] <;> rfl), g8, by omega, hI8, ww8, hf⟩
      · skip
        try simp (disch := first | omega | assumption) only [SY, h3a] at he
        rw [List.drop_eq_nil_of_le (show l.length ≤ j by omega)] at hd2
        have hf := hd2.trans (show _ = ([] : List Sp) from rfl)
        exact .exit he ⟨rfl, ⟨cI, TI, j, ga2, by omega, hI2, ww2, by first | omega | assumption | simp, by first | omega | assumption | simp, hf⟩⟩)
  obtain ⟨rfl, cI, TI, j, ge2, gm2, hIe2, we2, hj2_0, hj2_1, hR2⟩ := hQ2
  try simp (disch := first | omega | assumption) only [SY, eq_self, if_true] at hz
  have hc : cI = (r178 l).length := Nat.le_antisymm (by omega) (drop_end hR2)
  exact ⟨S2e, TI, hz.symm, hc ▸ hIe2, ge2, we2⟩
end Great
end Go.Proofs
