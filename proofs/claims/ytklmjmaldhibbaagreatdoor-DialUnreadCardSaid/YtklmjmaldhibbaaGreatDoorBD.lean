/-
  BD: EvA7, EvA8, EvA9, EvM2.
-/
import Derived.Test.YtklmjmaldhibbaaGreatDoorBC
section
/-
  The great seat of stage 1: Propose, by the generator.
-/
set_option linter.unusedSimpArgs false
set_option linter.unusedVariables false
namespace Go.Proofs
namespace Great
open Go Go.RowKit Go.Aev
set_option maxRecDepth 100000
/-- What is known of the types. -/
theorem TY_EvA7 : type_of% (And.intro (And.intro (And.intro (And.intro (And.intro (And.intro Tryz.underlying3 tz3) (And.intro tt3 t0_3)) (And.intro (And.intro Tryz.underlying22 tz22) (And.intro tt22 t0_22))) (And.intro (And.intro (And.intro Tryz.underlying43 tz43) (And.intro tt43 t0_43)) (And.intro (And.intro Tryz.underlying44 tz44) (And.intro tt44 (And.intro t0_44 Tryz.underlying45))))) (And.intro (And.intro (And.intro (And.intro tz45 tt45) (And.intro t0_45 Tryz.underlying51)) (And.intro (And.intro tz51 tt51) (And.intro t0_51 Tryz.underlying52))) (And.intro (And.intro (And.intro tz52 tt52) (And.intro t0_52 Tryz.underlying55)) (And.intro (And.intro tz55 tt55) (And.intro t0_55 (And.intro Tryz.underlying56 tz56)))))) (And.intro (And.intro (And.intro (And.intro (And.intro tt56 t0_56) (And.intro Tryz.underlying57 tz57)) (And.intro (And.intro tt57 t0_57) (And.intro Tryz.underlying58 tz58))) (And.intro (And.intro (And.intro tt58 t0_58) (And.intro Tryz.underlying77 tz77)) (And.intro (And.intro tt77 t0_77) (And.intro Tryz.underlying80 (And.intro tz80 tt80))))) (And.intro (And.intro (And.intro (And.intro t0_80 Tryz.underlying110) (And.intro tz110 tt110)) (And.intro (And.intro t0_110 Tryz.underlying115) (And.intro tz115 tt115))) (And.intro (And.intro (And.intro t0_115 Tryz.underlying116) (And.intro tz116 tt116)) (And.intro (And.intro t0_116 Tryz.underlying123) (And.intro tz123 (And.intro tt123 t0_123))))))) := (And.intro (And.intro (And.intro (And.intro (And.intro (And.intro Tryz.underlying3 tz3) (And.intro tt3 t0_3)) (And.intro (And.intro Tryz.underlying22 tz22) (And.intro tt22 t0_22))) (And.intro (And.intro (And.intro Tryz.underlying43 tz43) (And.intro tt43 t0_43)) (And.intro (And.intro Tryz.underlying44 tz44) (And.intro tt44 (And.intro t0_44 Tryz.underlying45))))) (And.intro (And.intro (And.intro (And.intro tz45 tt45) (And.intro t0_45 Tryz.underlying51)) (And.intro (And.intro tz51 tt51) (And.intro t0_51 Tryz.underlying52))) (And.intro (And.intro (And.intro tz52 tt52) (And.intro t0_52 Tryz.underlying55)) (And.intro (And.intro tz55 tt55) (And.intro t0_55 (And.intro Tryz.underlying56 tz56)))))) (And.intro (And.intro (And.intro (And.intro (And.intro tt56 t0_56) (And.intro Tryz.underlying57 tz57)) (And.intro (And.intro tt57 t0_57) (And.intro Tryz.underlying58 tz58))) (And.intro (And.intro (And.intro tt58 t0_58) (And.intro Tryz.underlying77 tz77)) (And.intro (And.intro tt77 t0_77) (And.intro Tryz.underlying80 (And.intro tz80 tt80))))) (And.intro (And.intro (And.intro (And.intro t0_80 Tryz.underlying110) (And.intro tz110 tt110)) (And.intro (And.intro t0_110 Tryz.underlying115) (And.intro tz115 tt115))) (And.intro (And.intro (And.intro t0_115 Tryz.underlying116) (And.intro tz116 tt116)) (And.intro (And.intro t0_116 Tryz.underlying123) (And.intro tz123 (And.intro tt123 t0_123)))))))
theorem errV_z' {p : Prop} [Decidable p] : errV p = 0 ↔ p := by unfold errV; split <;> simp [*]

def R48_0 (ks : List K) (tr : Int) (fr : Int) (f s l : Int)  : Nat → Int → Sum (Int × Int) (Unit)
  | 0, p => .inr ()
  | m' + 1, p => (if p ≤ 4095 then (if ks.any (confK (⟨1, tr, p⟩ : K) f s) = true then R48_0 ks tr fr f s l m' (p + 1) else .inl (p, 0)) else .inr ())
def r48 (ks : List K) (tr : Int) (fr : Int) (f s l : Int) : Int × Int := (if bunch ks = true then (if 0 ≤ tr ∧ tr < 4 then (if 0 ≤ fr ∧ fr ≤ 4095 then (if fr = 0 then (0, 1) else (if (errV (InkOk f s l)) = 0 then (onSum (R48_0 ks tr fr f s l ((4097 - fr).toNat) fr) (fun (r8, r9) => (r8, r9)) (fun _ => (0, 5))) else (0, 1))) else (0, 1)) else (0, 1)) else (0, 1))
set_option maxHeartbeats 2000000 in
theorem c48 (ks : List K) (tr : Int) (fr : Int) (f s l : Int) (hn : ks.length ≤ 60) (S : AS) (v_ks : Value) (hv_ks : Lst S v_ks ks) :
    ∃ S', (evL Tryz.prog E0).call 48 #[v_ks, .int .i64 tr, .int .i64 fr, .agg #[.int .i64 f, .int .i64 s, .int .i64 l]] S = some (.tuple #[.int .i64 (r48 ks tr fr f s l).1, .int .i64 (r48 ks tr fr f s l).2], S') ∧ Agree S S' := by
  generalize hz : (evL Tryz.prog E0).call 48 _ _ = z
  rw [L_call, evCall_said rfl Tryz.func48 rfl (by decide) Tryz.ntmps48 Tryz.results48] at hz
  obtain ⟨S1, e1, n1, b1, a1⟩ := push_open S (.cells [.int .i64 f, .int .i64 s, .int .i64 l] 45 0 true true)
  have g1 : Agree S S1 := a1
  have s1 : E0.same S S1 = true := symEnv_same a1
  obtain ⟨S2, k2, a2⟩ := c109 (ks : List K) (by omega) S1 (v_ks) (hv_ks.agree g1)
  have l2 := a2.1
  have s2 : E0.same S1 S2 = true := symEnv_same a2
  have v1_2 := (a2.2 S.next (by omega)).trans b1
  have g2 : Agree S S2 := g1.trans a2
  try simp (disch := first | omega | assumption) only [E0_G, SY, setArgs, off, agreeKind, partVals, vals, allocV, boxed, ldA, rdCells, oneB, aggD, aField, aFieldV, aExtract, eq_self, ne_eq, if_true, if_false, not_false_eq_true, Nat.reduceAdd, Nat.reduceSub, Nat.reduceMul, Nat.reduceLT, Nat.reduceEqDiff, Nat.reduceBEq, reduceIte, Int.reduceEq, Int.reduceLT, Int.reduceLE, reduceCtorEq, TY_EvA7, and_fold, or_fold, not_fold, s1, e1, b1, k2, s2, v1_2] at hz
  rcases dB (bunch ks) with ⟨h3a, h3⟩ | ⟨h3a, h3⟩
  · skip
    have k4 := c100 tr S2
    try simp (disch := first | omega | assumption) only [E0_G, SY, setArgs, off, agreeKind, partVals, vals, allocV, boxed, ldA, rdCells, oneB, aggD, aField, aFieldV, aExtract, eq_self, ne_eq, if_true, if_false, not_false_eq_true, Nat.reduceAdd, Nat.reduceSub, Nat.reduceMul, Nat.reduceLT, Nat.reduceEqDiff, Nat.reduceBEq, reduceIte, Int.reduceEq, Int.reduceLT, Int.reduceLE, reduceCtorEq, TY_EvA7, and_fold, or_fold, not_fold, s1, e1, b1, k2, s2, v1_2, h3a, k4] at hz
    rcases dP (0 ≤ tr ∧ tr < 4) with ⟨h5a, h5⟩ | ⟨h5a, h5⟩
    · skip
      have k6 := c101 fr S2
      try simp (disch := first | omega | assumption) only [E0_G, SY, setArgs, off, agreeKind, partVals, vals, allocV, boxed, ldA, rdCells, oneB, aggD, aField, aFieldV, aExtract, eq_self, ne_eq, if_true, if_false, not_false_eq_true, Nat.reduceAdd, Nat.reduceSub, Nat.reduceMul, Nat.reduceLT, Nat.reduceEqDiff, Nat.reduceBEq, reduceIte, Int.reduceEq, Int.reduceLT, Int.reduceLE, reduceCtorEq, TY_EvA7, and_fold, or_fold, not_fold, s1, e1, b1, k2, s2, v1_2, h3a, k4, h5a, k6] at hz
      rcases dP (0 ≤ fr ∧ fr ≤ 4095) with ⟨h7a, h7⟩ | ⟨h7a, h7⟩
      · skip
        try simp (disch := first | omega | assumption) only [E0_G, SY, setArgs, off, agreeKind, partVals, vals, allocV, boxed, ldA, rdCells, oneB, aggD, aField, aFieldV, aExtract, eq_self, ne_eq, if_true, if_false, not_false_eq_true, Nat.reduceAdd, Nat.reduceSub, Nat.reduceMul, Nat.reduceLT, Nat.reduceEqDiff, Nat.reduceBEq, reduceIte, Int.reduceEq, Int.reduceLT, Int.reduceLE, reduceCtorEq, TY_EvA7, and_fold, or_fold, not_fold, s1, e1, b1, k2, s2, v1_2, h3a, k4, h5a, k6, h7a] at hz
        rcases dP (fr = 0) with ⟨h8a, h8⟩ | ⟨h8a, h8⟩
        · skip
          try simp (disch := first | omega | assumption) only [E0_G, SY, setArgs, off, agreeKind, partVals, vals, allocV, boxed, ldA, rdCells, oneB, aggD, aField, aFieldV, aExtract, eq_self, ne_eq, if_true, if_false, not_false_eq_true, Nat.reduceAdd, Nat.reduceSub, Nat.reduceMul, Nat.reduceLT, Nat.reduceEqDiff, Nat.reduceBEq, reduceIte, Int.reduceEq, Int.reduceLT, Int.reduceLE, reduceCtorEq, TY_EvA7, and_fold, or_fold, not_fold, s1, e1, b1, k2, s2, v1_2, h3a, k4, h5a, k6, h7a, h8a] at hz
          have hr : r48 ks tr fr f s l = (0, 1) := (if_pos h3).trans ((if_pos h5).trans ((if_pos h7).trans ((if_pos h8).trans (rfl))))
          exact fin hz (by rw [hr]) g2
        · skip
          obtain ⟨S9, k9, a9⟩ := c36 f s l S2  
          have l9 := a9.1
          have s9 : E0.same S2 S9 = true := symEnv_same a9
          have v1_9 := (a9.2 S.next (by omega)).trans v1_2
          have g9 : Agree S S9 := g2.trans a9
          try simp (disch := first | omega | assumption) only [E0_G, SY, setArgs, off, agreeKind, partVals, vals, allocV, boxed, ldA, rdCells, oneB, aggD, aField, aFieldV, aExtract, eq_self, ne_eq, if_true, if_false, not_false_eq_true, Nat.reduceAdd, Nat.reduceSub, Nat.reduceMul, Nat.reduceLT, Nat.reduceEqDiff, Nat.reduceBEq, reduceIte, Int.reduceEq, Int.reduceLT, Int.reduceLE, reduceCtorEq, TY_EvA7, and_fold, or_fold, not_fold, s1, e1, b1, k2, s2, v1_2, h3a, k4, h5a, k6, h7a, h8a, k9, s9, v1_9] at hz
          rcases dP ((errV (InkOk f s l)) = 0) with ⟨h10a, h10⟩ | ⟨h10a, h10⟩
          · skip
            try simp (disch := first | omega | assumption) only [E0_G, SY, setArgs, off, agreeKind, partVals, vals, allocV, boxed, ldA, rdCells, oneB, aggD, aField, aFieldV, aExtract, eq_self, ne_eq, if_true, if_false, not_false_eq_true, Nat.reduceAdd, Nat.reduceSub, Nat.reduceMul, Nat.reduceLT, Nat.reduceEqDiff, Nat.reduceBEq, reduceIte, Int.reduceEq, Int.reduceLT, Int.reduceLE, reduceCtorEq, TY_EvA7, and_fold, or_fold, not_fold, s1, e1, b1, k2, s2, v1_2, h3a, k4, h5a, k6, h7a, h8a, k9, s9, v1_9, h10a] at hz
            generalize hL11 : Rec.loop _ _ _ _ = L11 at hz
            obtain ⟨x11, t11, S11e, rfl, hQ11⟩ := loop_met hL11 (fun m t S' => ∃ (p : Int), (m : Int) = 4097 - p ∧ 1 ≤ p ∧ p ≤ 4096 ∧ t.get 0 = some (v_ks) ∧ t.get 1 = some (.int .i64 tr) ∧ t.get 7 = some (.pointer (some ⟨S.next, 0, none⟩)) ∧ t.get 10 = some (.int .i64 p) ∧ S'.heap.get S.next = some (.cells [.int .i64 f, .int .i64 s, .int .i64 l] 45 0 true true) ∧ Agree S S' ∧ S9.next ≤ S'.next ∧ R48_0 ks tr fr f s l m p = R48_0 ks tr fr f s l ((4097 - fr).toNat) fr)
              (fun x t S' => (x = .exit 0 ∧ ∃ (p : Int), S'.heap.get S.next = some (.cells [.int .i64 f, .int .i64 s, .int .i64 l] 45 0 true true) ∧ Agree S S' ∧ S9.next ≤ S'.next ∧ 1 ≤ p ∧ p ≤ 4096 ∧ R48_0 ks tr fr f s l ((4097 - fr).toNat) fr = .inr ()) ∨ (x = .ret ∧ ∃ (r8 : Int) (r9 : Int), t.get 8 = some (.int .i64 r8) ∧ t.get 9 = some (.int .i64 r9) ∧ Agree S S' ∧ R48_0 ks tr fr f s l ((4097 - fr).toNat) fr = .inl (r8, r9))) ((4097 - fr).toNat) ⟨fr, by first | rfl | omega | (simp; omega) | simp, by first | rfl | omega | (simp; omega) | simp, by first | rfl | omega | (simp; omega) | simp, by simp only [SY, setArgs, off, agreeKind, partVals, vals, allocV, boxed, ldA, rdCells, oneB, aggD, aField, aFieldV, aExtract, eq_self, ne_eq, if_true, if_false, not_false_eq_true, Nat.reduceAdd, Nat.reduceSub, Nat.reduceMul, Nat.reduceLT, Nat.reduceEqDiff, Nat.reduceBEq, reduceIte, Int.reduceEq, Int.reduceLT, Int.reduceLE, reduceCtorEq] <;> rfl, by simp only [SY, setArgs, off, agreeKind, partVals, vals, allocV, boxed, ldA, rdCells, oneB, aggD, aField, aFieldV, aExtract, eq_self, ne_eq, if_true, if_false, not_false_eq_true, Nat.reduceAdd, Nat.reduceSub, Nat.reduceMul, Nat.reduceLT, Nat.reduceEqDiff, Nat.reduceBEq, reduceIte, Int.reduceEq, Int.reduceLT, Int.reduceLE, reduceCtorEq] <;> rfl, by simp only [SY, setArgs, off, agreeKind, partVals, vals, allocV, boxed, ldA, rdCells, oneB, aggD, aField, aFieldV, aExtract, eq_self, ne_eq, if_true, if_false, not_false_eq_true, Nat.reduceAdd, Nat.reduceSub, Nat.reduceMul, Nat.reduceLT, Nat.reduceEqDiff, Nat.reduceBEq, reduceIte, Int.reduceEq, Int.reduceLT, Int.reduceLE, reduceCtorEq] <;> rfl, by simp only [SY, setArgs, off, agreeKind, partVals, vals, allocV, boxed, ldA, rdCells, oneB, aggD, aField, aFieldV, aExtract, eq_self, ne_eq, if_true, if_false, not_false_eq_true, Nat.reduceAdd, Nat.reduceSub, Nat.reduceMul, Nat.reduceLT, Nat.reduceEqDiff, Nat.reduceBEq, reduceIte, Int.reduceEq, Int.reduceLT, Int.reduceLE, reduceCtorEq] <;> rfl, v1_9, g9, Nat.le_refl _, rfl⟩ (by
                rintro m t S11 ⟨p, hi11_0, hi11_1, hi11_2, g11_0, g11_1, g11_7, g11_10, bb11_1, ga11, gn11, hd11⟩
                refine .run fun z he => ?_
                try simp (disch := first | omega | assumption) only [E0_G, SY, setArgs, off, agreeKind, partVals, vals, allocV, boxed, ldA, rdCells, oneB, aggD, aField, aFieldV, aExtract, eq_self, ne_eq, if_true, if_false, not_false_eq_true, Nat.reduceAdd, Nat.reduceSub, Nat.reduceMul, Nat.reduceLT, Nat.reduceEqDiff, Nat.reduceBEq, reduceIte, Int.reduceEq, Int.reduceLT, Int.reduceLE, reduceCtorEq, TY_EvA7, and_fold, or_fold, not_fold, g11_0, g11_1, g11_7, g11_10, bb11_1, h3a, h5a, h7a, h8a, h10a] at he
                rcases dP (p ≤ 4095) with ⟨h12a, h12⟩ | ⟨h12a, h12⟩
                · skip
                  have y13 : aBuild Tryz.prog 52 [(0, .int .i64 1), (1, .int .i64 tr), (2, .int .i64 p)] = some (.agg #[.int .i64 1, .int .i64 tr, .int .i64 p]) := by kernel_rfl
                  obtain ⟨S14, px14, py14, k14, a14, gx14, gy14, lx14, ly14⟩ := c99 (⟨1, tr, p⟩ : K) f s l S11
                  have l14 := a14.1
                  have s14 : E0.same S11 S14 = true := symEnv_same a14
                  have v1_14 := (a14.2 S.next (by omega)).trans bb11_1
                  have g14 : Agree S S14 := ga11.trans a14
                  have hl15 := bunch_ok h3
                  obtain ⟨S16, k16, a16⟩ := c98 (⟨1, tr, p⟩ : K) ks f s l (by show (0 : Int) ≤ p ∧ p ≤ 4095; omega) (fun x hx => (hl15.2 x hx).set) (by omega) (errV_z'.1 h10) S14 (v_ks) (hv_ks.agree g14) px14 py14 gx14 gy14 (by omega) (by omega)
                  have l16 := a16.1
                  have s16 : E0.same S14 S16 = true := symEnv_same a16
                  have v1_16 := (a16.2 S.next (by omega)).trans v1_14
                  have vx14_16 := (a16.2 px14 (by omega)).trans gx14
                  have vy14_16 := (a16.2 py14 (by omega)).trans gy14
                  have g16 : Agree S S16 := g14.trans a16
                  try simp (disch := first | omega | assumption) only [E0_G, SY, setArgs, off, agreeKind, partVals, vals, allocV, boxed, ldA, rdCells, oneB, aggD, aField, aFieldV, aExtract, eq_self, ne_eq, if_true, if_false, not_false_eq_true, Nat.reduceAdd, Nat.reduceSub, Nat.reduceMul, Nat.reduceLT, Nat.reduceEqDiff, Nat.reduceBEq, reduceIte, Int.reduceEq, Int.reduceLT, Int.reduceLE, reduceCtorEq, TY_EvA7, and_fold, or_fold, not_fold, g11_0, g11_1, g11_7, g11_10, bb11_1, h3a, h5a, h7a, h8a, h10a, h12a, y13, k14, s14, v1_14, k16, s16, v1_16, vx14_16, vy14_16] at he
                  rcases dB (ks.any (confK (⟨1, tr, p⟩ : K) f s)) with ⟨h17a, h17⟩ | ⟨h17a, h17⟩
                  · skip
                    have w18 : IntKind.i64.wrap (p + 1) = p + 1 := by rw [IntWalk.i64_in]; omega
                    try simp (disch := first | omega | assumption) only [E0_G, SY, setArgs, off, agreeKind, partVals, vals, allocV, boxed, ldA, rdCells, oneB, aggD, aField, aFieldV, aExtract, eq_self, ne_eq, if_true, if_false, not_false_eq_true, Nat.reduceAdd, Nat.reduceSub, Nat.reduceMul, Nat.reduceLT, Nat.reduceEqDiff, Nat.reduceBEq, reduceIte, Int.reduceEq, Int.reduceLT, Int.reduceLE, reduceCtorEq, TY_EvA7, and_fold, or_fold, not_fold, g11_0, g11_1, g11_7, g11_10, bb11_1, h3a, h5a, h7a, h8a, h10a, h12a, y13, k14, s14, v1_14, k16, s16, v1_16, vx14_16, vy14_16, h17a, w18] at he
                    obtain ⟨m', rfl⟩ : ∃ m', m = m' + 1 := ⟨m - 1, by omega⟩
                    have hf := (show _ = (R48_0 ks tr fr f s l m' (p + 1) : Sum (Int × Int) (Unit)) from (if_pos h12).trans ((if_pos h17).trans (rfl))).symm.trans hd11
                    exact .next he m' (by omega) ⟨p + 1, by first | omega | (simp; omega) | simp, by first | omega | (simp; omega) | simp, by first | omega | (simp; omega) | simp, (by simp only [SY, setArgs, off, agreeKind, partVals, vals, allocV, boxed, ldA, rdCells, oneB, aggD, aField, aFieldV, aExtract, eq_self, ne_eq, if_true, if_false, not_false_eq_true, Nat.reduceAdd, Nat.reduceSub, Nat.reduceMul, Nat.reduceLT, Nat.reduceEqDiff, Nat.reduceBEq, reduceIte, Int.reduceEq, Int.reduceLT, Int.reduceLE, reduceCtorEq, g11_0, g11_1, g11_7, g11_10] <;> rfl), (by simp only [SY, setArgs, off, agreeKind, partVals, vals, allocV, boxed, ldA, rdCells, oneB, aggD, aField, aFieldV, aExtract, eq_self, ne_eq, if_true, if_false, not_false_eq_true, Nat.reduceAdd, Nat.reduceSub, Nat.reduceMul, Nat.reduceLT, Nat.reduceEqDiff, Nat.reduceBEq, reduceIte, Int.reduceEq, Int.reduceLT, Int.reduceLE, reduceCtorEq, g11_0, g11_1, g11_7, g11_10] <;> rfl), (by simp only [SY, setArgs, off, agreeKind, partVals, vals, allocV, boxed, ldA, rdCells, oneB, aggD, aField, aFieldV, aExtract, eq_self, ne_eq, if_true, if_false, not_false_eq_true, Nat.reduceAdd, Nat.reduceSub, Nat.reduceMul, Nat.reduceLT, Nat.reduceEqDiff, Nat.reduceBEq, reduceIte, Int.reduceEq, Int.reduceLT, Int.reduceLE, reduceCtorEq, g11_0, g11_1, g11_7, g11_10] <;> rfl), (by simp only [SY, setArgs, off, agreeKind, partVals, vals, allocV, boxed, ldA, rdCells, oneB, aggD, aField, aFieldV, aExtract, eq_self, ne_eq, if_true, if_false, not_false_eq_true, Nat.reduceAdd, Nat.reduceSub, Nat.reduceMul, Nat.reduceLT, Nat.reduceEqDiff, Nat.reduceBEq, reduceIte, Int.reduceEq, Int.reduceLT, Int.reduceLE, reduceCtorEq, g11_0, g11_1, g11_7, g11_10] <;> rfl), v1_16, g16, by omega, hf⟩
                  · skip
                    try simp (disch := first | omega | assumption) only [E0_G, SY, setArgs, off, agreeKind, partVals, vals, allocV, boxed, ldA, rdCells, oneB, aggD, aField, aFieldV, aExtract, eq_self, ne_eq, if_true, if_false, not_false_eq_true, Nat.reduceAdd, Nat.reduceSub, Nat.reduceMul, Nat.reduceLT, Nat.reduceEqDiff, Nat.reduceBEq, reduceIte, Int.reduceEq, Int.reduceLT, Int.reduceLE, reduceCtorEq, TY_EvA7, and_fold, or_fold, not_fold, g11_0, g11_1, g11_7, g11_10, bb11_1, h3a, h5a, h7a, h8a, h10a, h12a, y13, k14, s14, v1_14, k16, s16, v1_16, vx14_16, vy14_16, h17a] at he
                    obtain ⟨m', rfl⟩ : ∃ m', m = m' + 1 := ⟨m - 1, by omega⟩
                    have hf := (show _ = (.inl (p, 0) : Sum (Int × Int) (Unit)) from (if_pos h12).trans ((if_neg h17).trans (rfl))).symm.trans hd11
                    exact .ret he (.inr ⟨rfl, ⟨p, 0, (by simp only [SY, setArgs, off, agreeKind, partVals, vals, allocV, boxed, ldA, rdCells, oneB, aggD, aField, aFieldV, aExtract, eq_self, ne_eq, if_true, if_false, not_false_eq_true, Nat.reduceAdd, Nat.reduceSub, Nat.reduceMul, Nat.reduceLT, Nat.reduceEqDiff, Nat.reduceBEq, reduceIte, Int.reduceEq, Int.reduceLT, Int.reduceLE, reduceCtorEq, g11_0, g11_1, g11_7, g11_10] <;> rfl), (by simp only [SY, setArgs, off, agreeKind, partVals, vals, allocV, boxed, ldA, rdCells, oneB, aggD, aField, aFieldV, aExtract, eq_self, ne_eq, if_true, if_false, not_false_eq_true, Nat.reduceAdd, Nat.reduceSub, Nat.reduceMul, Nat.reduceLT, Nat.reduceEqDiff, Nat.reduceBEq, reduceIte, Int.reduceEq, Int.reduceLT, Int.reduceLE, reduceCtorEq, g11_0, g11_1, g11_7, g11_10] <;> rfl), g16, hf.symm⟩⟩)
                · skip
                  try simp (disch := first | omega | assumption) only [E0_G, SY, setArgs, off, agreeKind, partVals, vals, allocV, boxed, ldA, rdCells, oneB, aggD, aField, aFieldV, aExtract, eq_self, ne_eq, if_true, if_false, not_false_eq_true, Nat.reduceAdd, Nat.reduceSub, Nat.reduceMul, Nat.reduceLT, Nat.reduceEqDiff, Nat.reduceBEq, reduceIte, Int.reduceEq, Int.reduceLT, Int.reduceLE, reduceCtorEq, TY_EvA7, and_fold, or_fold, not_fold, g11_0, g11_1, g11_7, g11_10, bb11_1, h3a, h5a, h7a, h8a, h10a, h12a] at he
                  obtain ⟨m', rfl⟩ : ∃ m', m = m' + 1 := ⟨m - 1, by omega⟩
                  have hf := (show _ = (.inr () : Sum (Int × Int) (Unit)) from (if_neg h12).trans (rfl)).symm.trans hd11
                  exact .exit he (.inl ⟨rfl, ⟨p, bb11_1, ga11, by omega, by first | omega | assumption | simp, by first | omega | assumption | simp, hf.symm⟩⟩))
            rcases hQ11 with ⟨rfl, hQ11⟩ | ⟨rfl, hQ11⟩
            · skip
              obtain ⟨p, be11_1, ge11, gm11, hj11_0, hj11_1, hR11⟩ := hQ11
              try simp (disch := first | omega | assumption) only [E0_G, SY, setArgs, off, agreeKind, partVals, vals, allocV, boxed, ldA, rdCells, oneB, aggD, aField, aFieldV, aExtract, eq_self, ne_eq, if_true, if_false, not_false_eq_true, Nat.reduceAdd, Nat.reduceSub, Nat.reduceMul, Nat.reduceLT, Nat.reduceEqDiff, Nat.reduceBEq, reduceIte, Int.reduceEq, Int.reduceLT, Int.reduceLE, reduceCtorEq, TY_EvA7, and_fold, or_fold, not_fold, h3a, h5a, h7a, h8a, h10a, be11_1] at hz
              have hr : r48 ks tr fr f s l = (0, 5) := (if_pos h3).trans ((if_pos h5).trans ((if_pos h7).trans ((if_neg h8).trans ((if_pos h10).trans ((onSum_inr hR11).trans (rfl))))))
              exact fin hz (by rw [hr]) ge11
            · skip
              obtain ⟨r8, r9, ge11_8, ge11_9, ge11, hR11⟩ := hQ11
              try simp (disch := first | omega | assumption) only [E0_G, SY, setArgs, off, agreeKind, partVals, vals, allocV, boxed, ldA, rdCells, oneB, aggD, aField, aFieldV, aExtract, eq_self, ne_eq, if_true, if_false, not_false_eq_true, Nat.reduceAdd, Nat.reduceSub, Nat.reduceMul, Nat.reduceLT, Nat.reduceEqDiff, Nat.reduceBEq, reduceIte, Int.reduceEq, Int.reduceLT, Int.reduceLE, reduceCtorEq, TY_EvA7, and_fold, or_fold, not_fold, h3a, h5a, h7a, h8a, h10a, ge11_8, ge11_9] at hz
              have hr : r48 ks tr fr f s l = (r8, r9) := (if_pos h3).trans ((if_pos h5).trans ((if_pos h7).trans ((if_neg h8).trans ((if_pos h10).trans ((onSum_inl hR11).trans (rfl))))))
              exact fin hz (by rw [hr]) ge11
          · skip
            try simp (disch := first | omega | assumption) only [E0_G, SY, setArgs, off, agreeKind, partVals, vals, allocV, boxed, ldA, rdCells, oneB, aggD, aField, aFieldV, aExtract, eq_self, ne_eq, if_true, if_false, not_false_eq_true, Nat.reduceAdd, Nat.reduceSub, Nat.reduceMul, Nat.reduceLT, Nat.reduceEqDiff, Nat.reduceBEq, reduceIte, Int.reduceEq, Int.reduceLT, Int.reduceLE, reduceCtorEq, TY_EvA7, and_fold, or_fold, not_fold, s1, e1, b1, k2, s2, v1_2, h3a, k4, h5a, k6, h7a, h8a, k9, s9, v1_9, h10a] at hz
            have hr : r48 ks tr fr f s l = (0, 1) := (if_pos h3).trans ((if_pos h5).trans ((if_pos h7).trans ((if_neg h8).trans ((if_neg h10).trans (rfl)))))
            exact fin hz (by rw [hr]) g9
      · skip
        try simp (disch := first | omega | assumption) only [E0_G, SY, setArgs, off, agreeKind, partVals, vals, allocV, boxed, ldA, rdCells, oneB, aggD, aField, aFieldV, aExtract, eq_self, ne_eq, if_true, if_false, not_false_eq_true, Nat.reduceAdd, Nat.reduceSub, Nat.reduceMul, Nat.reduceLT, Nat.reduceEqDiff, Nat.reduceBEq, reduceIte, Int.reduceEq, Int.reduceLT, Int.reduceLE, reduceCtorEq, TY_EvA7, and_fold, or_fold, not_fold, s1, e1, b1, k2, s2, v1_2, h3a, k4, h5a, k6, h7a] at hz
        have hr : r48 ks tr fr f s l = (0, 1) := (if_pos h3).trans ((if_pos h5).trans ((if_neg h7).trans (rfl)))
        exact fin hz (by rw [hr]) g2
    · skip
      try simp (disch := first | omega | assumption) only [E0_G, SY, setArgs, off, agreeKind, partVals, vals, allocV, boxed, ldA, rdCells, oneB, aggD, aField, aFieldV, aExtract, eq_self, ne_eq, if_true, if_false, not_false_eq_true, Nat.reduceAdd, Nat.reduceSub, Nat.reduceMul, Nat.reduceLT, Nat.reduceEqDiff, Nat.reduceBEq, reduceIte, Int.reduceEq, Int.reduceLT, Int.reduceLE, reduceCtorEq, TY_EvA7, and_fold, or_fold, not_fold, s1, e1, b1, k2, s2, v1_2, h3a, k4, h5a] at hz
      have hr : r48 ks tr fr f s l = (0, 1) := (if_pos h3).trans ((if_neg h5).trans (rfl))
      exact fin hz (by rw [hr]) g2
  · skip
    try simp (disch := first | omega | assumption) only [E0_G, SY, setArgs, off, agreeKind, partVals, vals, allocV, boxed, ldA, rdCells, oneB, aggD, aField, aFieldV, aExtract, eq_self, ne_eq, if_true, if_false, not_false_eq_true, Nat.reduceAdd, Nat.reduceSub, Nat.reduceMul, Nat.reduceLT, Nat.reduceEqDiff, Nat.reduceBEq, reduceIte, Int.reduceEq, Int.reduceLT, Int.reduceLE, reduceCtorEq, TY_EvA7, and_fold, or_fold, not_fold, s1, e1, b1, k2, s2, v1_2, h3a] at hz
    have hr : r48 ks tr fr f s l = (0, 1) := (if_neg h3).trans (rfl)
    exact fin hz (by rw [hr]) g2

def R49_0 (ks : List K) (tr : Int) (fr : Int) (f s l : Int)  : Nat → Int → Sum (Int × Int) (Unit)
  | 0, p => .inr ()
  | m' + 1, p => (if p ≤ 4095 then (if (rivalId (confK (⟨1, tr, p⟩ : K) f s) ks) = 0 then .inl (p, 0) else R49_0 ks tr fr f s l m' (p + 1)) else .inr ())
def r49 (ks : List K) (tr : Int) (fr : Int) (f s l : Int) : Int × Int := (if bunch ks = true then (if 0 ≤ tr ∧ tr ≤ 3 then (if 1 ≤ fr ∧ fr ≤ 4095 then (if InkOk f s l then (onSum (R49_0 ks tr fr f s l ((4097 - fr).toNat) fr) (fun (r8, r9) => (r8, r9)) (fun _ => (0, 5))) else (0, 1)) else (0, 1)) else (0, 1)) else (0, 1))
set_option maxHeartbeats 2000000 in
theorem c49 (ks : List K) (tr : Int) (fr : Int) (f s l : Int) (hn : ks.length ≤ 60) (S : AS) (v_ks : Value) (hv_ks : Lst S v_ks ks) :
    ∃ S', (evL Tryz.prog E0).call 49 #[v_ks, .int .i64 tr, .int .i64 fr, .agg #[.int .i64 f, .int .i64 s, .int .i64 l]] S = some (.tuple #[.int .i64 (r49 ks tr fr f s l).1, .int .i64 (r49 ks tr fr f s l).2], S') ∧ Agree S S' := by
  generalize hz : (evL Tryz.prog E0).call 49 _ _ = z
  rw [L_call, evCall_said rfl Tryz.func49 rfl (by decide) Tryz.ntmps49 Tryz.results49] at hz
  obtain ⟨S1, e1, n1, b1, a1⟩ := push_open S (.cells [.int .i64 f, .int .i64 s, .int .i64 l] 45 0 true true)
  have g1 : Agree S S1 := a1
  have s1 : E0.same S S1 = true := symEnv_same a1
  obtain ⟨S2, k2, a2⟩ := c63 (ks : List K) (by omega) S1 (v_ks) (hv_ks.agree g1)
  have l2 := a2.1
  have s2 : E0.same S1 S2 = true := symEnv_same a2
  have v1_2 := (a2.2 S.next (by omega)).trans b1
  have g2 : Agree S S2 := g1.trans a2
  obtain ⟨S3, k3, a3⟩ := c37 f s l S2  
  have l3 := a3.1
  have s3 : E0.same S2 S3 = true := symEnv_same a3
  have v1_3 := (a3.2 S.next (by omega)).trans v1_2
  have g3 : Agree S S3 := g2.trans a3
  try simp (disch := first | omega | assumption) only [E0_G, SY, setArgs, off, agreeKind, partVals, vals, allocV, boxed, ldA, rdCells, oneB, aggD, aField, aFieldV, aExtract, eq_self, ne_eq, if_true, if_false, not_false_eq_true, Nat.reduceAdd, Nat.reduceSub, Nat.reduceMul, Nat.reduceLT, Nat.reduceEqDiff, Nat.reduceBEq, reduceIte, Int.reduceEq, Int.reduceLT, Int.reduceLE, reduceCtorEq, TY_EvA7, and_fold, or_fold, not_fold, s1, e1, b1, k2, s2, v1_2, k3, s3, v1_3] at hz
  rcases dB (bunch ks) with ⟨h4a, h4⟩ | ⟨h4a, h4⟩
  · skip
    have k5 := c30 tr 0 3 S3
    try simp (disch := first | omega | assumption) only [E0_G, SY, setArgs, off, agreeKind, partVals, vals, allocV, boxed, ldA, rdCells, oneB, aggD, aField, aFieldV, aExtract, eq_self, ne_eq, if_true, if_false, not_false_eq_true, Nat.reduceAdd, Nat.reduceSub, Nat.reduceMul, Nat.reduceLT, Nat.reduceEqDiff, Nat.reduceBEq, reduceIte, Int.reduceEq, Int.reduceLT, Int.reduceLE, reduceCtorEq, TY_EvA7, and_fold, or_fold, not_fold, s1, e1, b1, k2, s2, v1_2, k3, s3, v1_3, h4a, k5] at hz
    rcases dP (0 ≤ tr ∧ tr ≤ 3) with ⟨h6a, h6⟩ | ⟨h6a, h6⟩
    · skip
      have k7 := c30 fr 1 4095 S3
      try simp (disch := first | omega | assumption) only [E0_G, SY, setArgs, off, agreeKind, partVals, vals, allocV, boxed, ldA, rdCells, oneB, aggD, aField, aFieldV, aExtract, eq_self, ne_eq, if_true, if_false, not_false_eq_true, Nat.reduceAdd, Nat.reduceSub, Nat.reduceMul, Nat.reduceLT, Nat.reduceEqDiff, Nat.reduceBEq, reduceIte, Int.reduceEq, Int.reduceLT, Int.reduceLE, reduceCtorEq, TY_EvA7, and_fold, or_fold, not_fold, s1, e1, b1, k2, s2, v1_2, k3, s3, v1_3, h4a, k5, h6a, k7] at hz
      rcases dP (1 ≤ fr ∧ fr ≤ 4095) with ⟨h8a, h8⟩ | ⟨h8a, h8⟩
      · skip
        try simp (disch := first | omega | assumption) only [E0_G, SY, setArgs, off, agreeKind, partVals, vals, allocV, boxed, ldA, rdCells, oneB, aggD, aField, aFieldV, aExtract, eq_self, ne_eq, if_true, if_false, not_false_eq_true, Nat.reduceAdd, Nat.reduceSub, Nat.reduceMul, Nat.reduceLT, Nat.reduceEqDiff, Nat.reduceBEq, reduceIte, Int.reduceEq, Int.reduceLT, Int.reduceLE, reduceCtorEq, TY_EvA7, and_fold, or_fold, not_fold, s1, e1, b1, k2, s2, v1_2, k3, s3, v1_3, h4a, k5, h6a, k7, h8a] at hz
        rcases dP (InkOk f s l) with ⟨h9a, h9⟩ | ⟨h9a, h9⟩
        · skip
          try simp (disch := first | omega | assumption) only [E0_G, SY, setArgs, off, agreeKind, partVals, vals, allocV, boxed, ldA, rdCells, oneB, aggD, aField, aFieldV, aExtract, eq_self, ne_eq, if_true, if_false, not_false_eq_true, Nat.reduceAdd, Nat.reduceSub, Nat.reduceMul, Nat.reduceLT, Nat.reduceEqDiff, Nat.reduceBEq, reduceIte, Int.reduceEq, Int.reduceLT, Int.reduceLE, reduceCtorEq, TY_EvA7, and_fold, or_fold, not_fold, s1, e1, b1, k2, s2, v1_2, k3, s3, v1_3, h4a, k5, h6a, k7, h8a, h9a] at hz
          generalize hL10 : Rec.loop _ _ _ _ = L10 at hz
          obtain ⟨x10, t10, S10e, rfl, hQ10⟩ := loop_met hL10 (fun m t S' => ∃ (p : Int), (m : Int) = 4097 - p ∧ 1 ≤ p ∧ p ≤ 4096 ∧ t.get 0 = some (v_ks) ∧ t.get 1 = some (.int .i64 tr) ∧ t.get 7 = some (.pointer (some ⟨S.next, 0, none⟩)) ∧ t.get 12 = some (.int .i64 p) ∧ S'.heap.get S.next = some (.cells [.int .i64 f, .int .i64 s, .int .i64 l] 45 0 true true) ∧ Agree S S' ∧ S3.next ≤ S'.next ∧ R49_0 ks tr fr f s l m p = R49_0 ks tr fr f s l ((4097 - fr).toNat) fr)
            (fun x t S' => (x = .exit 0 ∧ ∃ (p : Int), S'.heap.get S.next = some (.cells [.int .i64 f, .int .i64 s, .int .i64 l] 45 0 true true) ∧ Agree S S' ∧ S3.next ≤ S'.next ∧ 1 ≤ p ∧ p ≤ 4096 ∧ R49_0 ks tr fr f s l ((4097 - fr).toNat) fr = .inr ()) ∨ (x = .ret ∧ ∃ (r8 : Int) (r9 : Int), t.get 8 = some (.int .i64 r8) ∧ t.get 9 = some (.int .i64 r9) ∧ Agree S S' ∧ R49_0 ks tr fr f s l ((4097 - fr).toNat) fr = .inl (r8, r9))) ((4097 - fr).toNat) ⟨fr, by first | rfl | omega | (simp; omega) | simp, by first | rfl | omega | (simp; omega) | simp, by first | rfl | omega | (simp; omega) | simp, by simp only [SY, setArgs, off, agreeKind, partVals, vals, allocV, boxed, ldA, rdCells, oneB, aggD, aField, aFieldV, aExtract, eq_self, ne_eq, if_true, if_false, not_false_eq_true, Nat.reduceAdd, Nat.reduceSub, Nat.reduceMul, Nat.reduceLT, Nat.reduceEqDiff, Nat.reduceBEq, reduceIte, Int.reduceEq, Int.reduceLT, Int.reduceLE, reduceCtorEq] <;> rfl, by simp only [SY, setArgs, off, agreeKind, partVals, vals, allocV, boxed, ldA, rdCells, oneB, aggD, aField, aFieldV, aExtract, eq_self, ne_eq, if_true, if_false, not_false_eq_true, Nat.reduceAdd, Nat.reduceSub, Nat.reduceMul, Nat.reduceLT, Nat.reduceEqDiff, Nat.reduceBEq, reduceIte, Int.reduceEq, Int.reduceLT, Int.reduceLE, reduceCtorEq] <;> rfl, by simp only [SY, setArgs, off, agreeKind, partVals, vals, allocV, boxed, ldA, rdCells, oneB, aggD, aField, aFieldV, aExtract, eq_self, ne_eq, if_true, if_false, not_false_eq_true, Nat.reduceAdd, Nat.reduceSub, Nat.reduceMul, Nat.reduceLT, Nat.reduceEqDiff, Nat.reduceBEq, reduceIte, Int.reduceEq, Int.reduceLT, Int.reduceLE, reduceCtorEq] <;> rfl, by simp only [SY, setArgs, off, agreeKind, partVals, vals, allocV, boxed, ldA, rdCells, oneB, aggD, aField, aFieldV, aExtract, eq_self, ne_eq, if_true, if_false, not_false_eq_true, Nat.reduceAdd, Nat.reduceSub, Nat.reduceMul, Nat.reduceLT, Nat.reduceEqDiff, Nat.reduceBEq, reduceIte, Int.reduceEq, Int.reduceLT, Int.reduceLE, reduceCtorEq] <;> rfl, v1_3, g3, Nat.le_refl _, rfl⟩ (by
              rintro m t S10 ⟨p, hi10_0, hi10_1, hi10_2, g10_0, g10_1, g10_7, g10_12, bb10_1, ga10, gn10, hd10⟩
              refine .run fun z he => ?_
              try simp (disch := first | omega | assumption) only [E0_G, SY, setArgs, off, agreeKind, partVals, vals, allocV, boxed, ldA, rdCells, oneB, aggD, aField, aFieldV, aExtract, eq_self, ne_eq, if_true, if_false, not_false_eq_true, Nat.reduceAdd, Nat.reduceSub, Nat.reduceMul, Nat.reduceLT, Nat.reduceEqDiff, Nat.reduceBEq, reduceIte, Int.reduceEq, Int.reduceLT, Int.reduceLE, reduceCtorEq, TY_EvA7, and_fold, or_fold, not_fold, g10_0, g10_1, g10_7, g10_12, bb10_1, h4a, h6a, h8a, h9a] at he
              rcases dP (p ≤ 4095) with ⟨h11a, h11⟩ | ⟨h11a, h11⟩
              · skip
                have y12 : aBuild Tryz.prog 52 [(0, .int .i64 1), (1, .int .i64 tr), (2, .int .i64 p)] = some (.agg #[.int .i64 1, .int .i64 tr, .int .i64 p]) := by kernel_rfl
                have hl13 := bunch_ok h4
                obtain ⟨S14, k14, a14⟩ := c111 (⟨1, tr, p⟩ : K) ks f s l (by show (1 : Int) ≤ 1 ∧ 1 ≤ 1099511627776 ∧ 0 ≤ tr ∧ tr < 4 ∧ 1 ≤ p ∧ p ≤ 4095; omega) hl13.2 (by omega) h9 S10 (v_ks) (hv_ks.agree ga10)
                have l14 := a14.1
                have s14 : E0.same S10 S14 = true := symEnv_same a14
                have v1_14 := (a14.2 S.next (by omega)).trans bb10_1
                have g14 : Agree S S14 := ga10.trans a14
                try simp (disch := first | omega | assumption) only [E0_G, SY, setArgs, off, agreeKind, partVals, vals, allocV, boxed, ldA, rdCells, oneB, aggD, aField, aFieldV, aExtract, eq_self, ne_eq, if_true, if_false, not_false_eq_true, Nat.reduceAdd, Nat.reduceSub, Nat.reduceMul, Nat.reduceLT, Nat.reduceEqDiff, Nat.reduceBEq, reduceIte, Int.reduceEq, Int.reduceLT, Int.reduceLE, reduceCtorEq, TY_EvA7, and_fold, or_fold, not_fold, g10_0, g10_1, g10_7, g10_12, bb10_1, h4a, h6a, h8a, h9a, h11a, y12, k14, s14, v1_14] at he
                rcases dP ((rivalId (confK (⟨1, tr, p⟩ : K) f s) ks) = 0) with ⟨h15a, h15⟩ | ⟨h15a, h15⟩
                · skip
                  try simp (disch := first | omega | assumption) only [E0_G, SY, setArgs, off, agreeKind, partVals, vals, allocV, boxed, ldA, rdCells, oneB, aggD, aField, aFieldV, aExtract, eq_self, ne_eq, if_true, if_false, not_false_eq_true, Nat.reduceAdd, Nat.reduceSub, Nat.reduceMul, Nat.reduceLT, Nat.reduceEqDiff, Nat.reduceBEq, reduceIte, Int.reduceEq, Int.reduceLT, Int.reduceLE, reduceCtorEq, TY_EvA7, and_fold, or_fold, not_fold, g10_0, g10_1, g10_7, g10_12, bb10_1, h4a, h6a, h8a, h9a, h11a, y12, k14, s14, v1_14, h15a] at he
                  obtain ⟨m', rfl⟩ : ∃ m', m = m' + 1 := ⟨m - 1, by omega⟩
                  have hf := (show _ = (.inl (p, 0) : Sum (Int × Int) (Unit)) from (if_pos h11).trans ((if_pos h15).trans (rfl))).symm.trans hd10
                  exact .ret he (.inr ⟨rfl, ⟨p, 0, (by simp only [SY, setArgs, off, agreeKind, partVals, vals, allocV, boxed, ldA, rdCells, oneB, aggD, aField, aFieldV, aExtract, eq_self, ne_eq, if_true, if_false, not_false_eq_true, Nat.reduceAdd, Nat.reduceSub, Nat.reduceMul, Nat.reduceLT, Nat.reduceEqDiff, Nat.reduceBEq, reduceIte, Int.reduceEq, Int.reduceLT, Int.reduceLE, reduceCtorEq, g10_0, g10_1, g10_7, g10_12] <;> rfl), (by simp only [SY, setArgs, off, agreeKind, partVals, vals, allocV, boxed, ldA, rdCells, oneB, aggD, aField, aFieldV, aExtract, eq_self, ne_eq, if_true, if_false, not_false_eq_true, Nat.reduceAdd, Nat.reduceSub, Nat.reduceMul, Nat.reduceLT, Nat.reduceEqDiff, Nat.reduceBEq, reduceIte, Int.reduceEq, Int.reduceLT, Int.reduceLE, reduceCtorEq, g10_0, g10_1, g10_7, g10_12] <;> rfl), g14, hf.symm⟩⟩)
                · skip
                  have w16 : IntKind.i64.wrap (p + 1) = p + 1 := by rw [IntWalk.i64_in]; omega
                  try simp (disch := first | omega | assumption) only [E0_G, SY, setArgs, off, agreeKind, partVals, vals, allocV, boxed, ldA, rdCells, oneB, aggD, aField, aFieldV, aExtract, eq_self, ne_eq, if_true, if_false, not_false_eq_true, Nat.reduceAdd, Nat.reduceSub, Nat.reduceMul, Nat.reduceLT, Nat.reduceEqDiff, Nat.reduceBEq, reduceIte, Int.reduceEq, Int.reduceLT, Int.reduceLE, reduceCtorEq, TY_EvA7, and_fold, or_fold, not_fold, g10_0, g10_1, g10_7, g10_12, bb10_1, h4a, h6a, h8a, h9a, h11a, y12, k14, s14, v1_14, h15a, w16] at he
                  obtain ⟨m', rfl⟩ : ∃ m', m = m' + 1 := ⟨m - 1, by omega⟩
                  have hf := (show _ = (R49_0 ks tr fr f s l m' (p + 1) : Sum (Int × Int) (Unit)) from (if_pos h11).trans ((if_neg h15).trans (rfl))).symm.trans hd10
                  exact .next he m' (by omega) ⟨p + 1, by first | omega | (simp; omega) | simp, by first | omega | (simp; omega) | simp, by first | omega | (simp; omega) | simp, (by simp only [SY, setArgs, off, agreeKind, partVals, vals, allocV, boxed, ldA, rdCells, oneB, aggD, aField, aFieldV, aExtract, eq_self, ne_eq, if_true, if_false, not_false_eq_true, Nat.reduceAdd, Nat.reduceSub, Nat.reduceMul, Nat.reduceLT, Nat.reduceEqDiff, Nat.reduceBEq, reduceIte, Int.reduceEq, Int.reduceLT, Int.reduceLE, reduceCtorEq, g10_0, g10_1, g10_7, g10_12] <;> rfl), (by simp only [SY, setArgs, off, agreeKind, partVals, vals, allocV, boxed, ldA, rdCells, oneB, aggD, aField, aFieldV, aExtract, eq_self, ne_eq, if_true, if_false, not_false_eq_true, Nat.reduceAdd, Nat.reduceSub, Nat.reduceMul, Nat.reduceLT, Nat.reduceEqDiff, Nat.reduceBEq, reduceIte, Int.reduceEq, Int.reduceLT, Int.reduceLE, reduceCtorEq, g10_0, g10_1, g10_7, g10_12] <;> rfl), (by simp only [SY, setArgs, off, agreeKind, partVals, vals, allocV, boxed, ldA, rdCells, oneB, aggD, aField, aFieldV, aExtract, eq_self, ne_eq, if_true, if_false, not_false_eq_true, Nat.reduceAdd, Nat.reduceSub, Nat.reduceMul, Nat.reduceLT, Nat.reduceEqDiff, Nat.reduceBEq, reduceIte, Int.reduceEq, Int.reduceLT, Int.reduceLE, reduceCtorEq, g10_0, g10_1, g10_7, g10_12] <;> rfl), (by simp only [SY, setArgs, off, agreeKind, partVals, vals, allocV, boxed, ldA, rdCells, oneB, aggD, aField, aFieldV, aExtract, eq_self, ne_eq, if_true, if_false, not_false_eq_true, Nat.reduceAdd, Nat.reduceSub, Nat.reduceMul, Nat.reduceLT, Nat.reduceEqDiff, Nat.reduceBEq, reduceIte, Int.reduceEq, Int.reduceLT, Int.reduceLE, reduceCtorEq, g10_0, g10_1, g10_7, g10_12] <;> rfl), v1_14, g14, by omega, hf⟩
              · skip
                try simp (disch := first | omega | assumption) only [E0_G, SY, setArgs, off, agreeKind, partVals, vals, allocV, boxed, ldA, rdCells, oneB, aggD, aField, aFieldV, aExtract, eq_self, ne_eq, if_true, if_false, not_false_eq_true, Nat.reduceAdd, Nat.reduceSub, Nat.reduceMul, Nat.reduceLT, Nat.reduceEqDiff, Nat.reduceBEq, reduceIte, Int.reduceEq, Int.reduceLT, Int.reduceLE, reduceCtorEq, TY_EvA7, and_fold, or_fold, not_fold, g10_0, g10_1, g10_7, g10_12, bb10_1, h4a, h6a, h8a, h9a, h11a] at he
                obtain ⟨m', rfl⟩ : ∃ m', m = m' + 1 := ⟨m - 1, by omega⟩
                have hf := (show _ = (.inr () : Sum (Int × Int) (Unit)) from (if_neg h11).trans (rfl)).symm.trans hd10
                exact .exit he (.inl ⟨rfl, ⟨p, bb10_1, ga10, by omega, by first | omega | assumption | simp, by first | omega | assumption | simp, hf.symm⟩⟩))
          rcases hQ10 with ⟨rfl, hQ10⟩ | ⟨rfl, hQ10⟩
          · skip
            obtain ⟨p, be10_1, ge10, gm10, hj10_0, hj10_1, hR10⟩ := hQ10
            try simp (disch := first | omega | assumption) only [E0_G, SY, setArgs, off, agreeKind, partVals, vals, allocV, boxed, ldA, rdCells, oneB, aggD, aField, aFieldV, aExtract, eq_self, ne_eq, if_true, if_false, not_false_eq_true, Nat.reduceAdd, Nat.reduceSub, Nat.reduceMul, Nat.reduceLT, Nat.reduceEqDiff, Nat.reduceBEq, reduceIte, Int.reduceEq, Int.reduceLT, Int.reduceLE, reduceCtorEq, TY_EvA7, and_fold, or_fold, not_fold, h4a, h6a, h8a, h9a, be10_1] at hz
            have hr : r49 ks tr fr f s l = (0, 5) := (if_pos h4).trans ((if_pos h6).trans ((if_pos h8).trans ((if_pos h9).trans ((onSum_inr hR10).trans (rfl)))))
            exact fin hz (by rw [hr]) ge10
          · skip
            obtain ⟨r8, r9, ge10_8, ge10_9, ge10, hR10⟩ := hQ10
            try simp (disch := first | omega | assumption) only [E0_G, SY, setArgs, off, agreeKind, partVals, vals, allocV, boxed, ldA, rdCells, oneB, aggD, aField, aFieldV, aExtract, eq_self, ne_eq, if_true, if_false, not_false_eq_true, Nat.reduceAdd, Nat.reduceSub, Nat.reduceMul, Nat.reduceLT, Nat.reduceEqDiff, Nat.reduceBEq, reduceIte, Int.reduceEq, Int.reduceLT, Int.reduceLE, reduceCtorEq, TY_EvA7, and_fold, or_fold, not_fold, h4a, h6a, h8a, h9a, ge10_8, ge10_9] at hz
            have hr : r49 ks tr fr f s l = (r8, r9) := (if_pos h4).trans ((if_pos h6).trans ((if_pos h8).trans ((if_pos h9).trans ((onSum_inl hR10).trans (rfl)))))
            exact fin hz (by rw [hr]) ge10
        · skip
          try simp (disch := first | omega | assumption) only [E0_G, SY, setArgs, off, agreeKind, partVals, vals, allocV, boxed, ldA, rdCells, oneB, aggD, aField, aFieldV, aExtract, eq_self, ne_eq, if_true, if_false, not_false_eq_true, Nat.reduceAdd, Nat.reduceSub, Nat.reduceMul, Nat.reduceLT, Nat.reduceEqDiff, Nat.reduceBEq, reduceIte, Int.reduceEq, Int.reduceLT, Int.reduceLE, reduceCtorEq, TY_EvA7, and_fold, or_fold, not_fold, s1, e1, b1, k2, s2, v1_2, k3, s3, v1_3, h4a, k5, h6a, k7, h8a, h9a] at hz
          have hr : r49 ks tr fr f s l = (0, 1) := (if_pos h4).trans ((if_pos h6).trans ((if_pos h8).trans ((if_neg h9).trans (rfl))))
          exact fin hz (by rw [hr]) g3
      · skip
        try simp (disch := first | omega | assumption) only [E0_G, SY, setArgs, off, agreeKind, partVals, vals, allocV, boxed, ldA, rdCells, oneB, aggD, aField, aFieldV, aExtract, eq_self, ne_eq, if_true, if_false, not_false_eq_true, Nat.reduceAdd, Nat.reduceSub, Nat.reduceMul, Nat.reduceLT, Nat.reduceEqDiff, Nat.reduceBEq, reduceIte, Int.reduceEq, Int.reduceLT, Int.reduceLE, reduceCtorEq, TY_EvA7, and_fold, or_fold, not_fold, s1, e1, b1, k2, s2, v1_2, k3, s3, v1_3, h4a, k5, h6a, k7, h8a] at hz
        have hr : r49 ks tr fr f s l = (0, 1) := (if_pos h4).trans ((if_pos h6).trans ((if_neg h8).trans (rfl)))
        exact fin hz (by rw [hr]) g3
    · skip
      try simp (disch := first | omega | assumption) only [E0_G, SY, setArgs, off, agreeKind, partVals, vals, allocV, boxed, ldA, rdCells, oneB, aggD, aField, aFieldV, aExtract, eq_self, ne_eq, if_true, if_false, not_false_eq_true, Nat.reduceAdd, Nat.reduceSub, Nat.reduceMul, Nat.reduceLT, Nat.reduceEqDiff, Nat.reduceBEq, reduceIte, Int.reduceEq, Int.reduceLT, Int.reduceLE, reduceCtorEq, TY_EvA7, and_fold, or_fold, not_fold, s1, e1, b1, k2, s2, v1_2, k3, s3, v1_3, h4a, k5, h6a] at hz
      have hr : r49 ks tr fr f s l = (0, 1) := (if_pos h4).trans ((if_neg h6).trans (rfl))
      exact fin hz (by rw [hr]) g3
  · skip
    try simp (disch := first | omega | assumption) only [E0_G, SY, setArgs, off, agreeKind, partVals, vals, allocV, boxed, ldA, rdCells, oneB, aggD, aField, aFieldV, aExtract, eq_self, ne_eq, if_true, if_false, not_false_eq_true, Nat.reduceAdd, Nat.reduceSub, Nat.reduceMul, Nat.reduceLT, Nat.reduceEqDiff, Nat.reduceBEq, reduceIte, Int.reduceEq, Int.reduceLT, Int.reduceLE, reduceCtorEq, TY_EvA7, and_fold, or_fold, not_fold, s1, e1, b1, k2, s2, v1_2, k3, s3, v1_3, h4a] at hz
    have hr : r49 ks tr fr f s l = (0, 1) := (if_neg h4).trans (rfl)
    exact fin hz (by rw [hr]) g3
end Great
end Go.Proofs
end
section
/-
  The great seat of stage 1: Unread, by the generator.
-/
set_option linter.unusedSimpArgs false
set_option linter.unusedVariables false
namespace Go.Proofs
namespace Great
open Go Go.RowKit Go.Aev
set_option maxRecDepth 100000
theorem tz90 : szOf Tryz.prog 90 = some 1 := by kernel_rfl
theorem tt90 : inTab Tryz.prog 90 = true := by kernel_rfl
theorem t0_90 : zeroOf Tryz.prog 90 = some (.slice none 0 0) := by kernel_rfl
theorem ti90 : (Tryz.prog.info? 90).map (fun i => Nat.ble i.bytes 65536) = some true := by kernel_rfl
theorem tv90 : (zeroOf Tryz.prog 90).isSome = true := by kernel_rfl
/-- What is known of the types. -/
theorem TY_EvA8 : type_of% (And.intro (And.intro (And.intro (And.intro (And.intro (And.intro Tryz.underlying3 tz3) (And.intro tt3 t0_3)) (And.intro (And.intro Tryz.underlying22 tz22) (And.intro tt22 (And.intro t0_22 Tryz.underlying43)))) (And.intro (And.intro (And.intro tz43 tt43) (And.intro t0_43 Tryz.underlying44)) (And.intro (And.intro tz44 tt44) (And.intro t0_44 (And.intro Tryz.underlying45 tz45))))) (And.intro (And.intro (And.intro (And.intro tt45 t0_45) (And.intro Tryz.underlying51 tz51)) (And.intro (And.intro tt51 t0_51) (And.intro Tryz.underlying52 (And.intro tz52 tt52)))) (And.intro (And.intro (And.intro t0_52 Tryz.underlying55) (And.intro tz55 tt55)) (And.intro (And.intro t0_55 Tryz.underlying56) (And.intro tz56 (And.intro tt56 t0_56)))))) (And.intro (And.intro (And.intro (And.intro (And.intro Tryz.underlying57 tz57) (And.intro tt57 t0_57)) (And.intro (And.intro Tryz.underlying58 tz58) (And.intro tt58 (And.intro t0_58 Tryz.underlying77)))) (And.intro (And.intro (And.intro tz77 tt77) (And.intro t0_77 Tryz.underlying80)) (And.intro (And.intro tz80 tt80) (And.intro t0_80 (And.intro Tryz.underlying90 tz90))))) (And.intro (And.intro (And.intro (And.intro tt90 t0_90) (And.intro Tryz.underlying110 tz110)) (And.intro (And.intro tt110 t0_110) (And.intro Tryz.underlying115 (And.intro tz115 tt115)))) (And.intro (And.intro (And.intro t0_115 Tryz.underlying116) (And.intro tz116 tt116)) (And.intro (And.intro t0_116 Tryz.underlying123) (And.intro tz123 (And.intro tt123 t0_123))))))) := (And.intro (And.intro (And.intro (And.intro (And.intro (And.intro Tryz.underlying3 tz3) (And.intro tt3 t0_3)) (And.intro (And.intro Tryz.underlying22 tz22) (And.intro tt22 (And.intro t0_22 Tryz.underlying43)))) (And.intro (And.intro (And.intro tz43 tt43) (And.intro t0_43 Tryz.underlying44)) (And.intro (And.intro tz44 tt44) (And.intro t0_44 (And.intro Tryz.underlying45 tz45))))) (And.intro (And.intro (And.intro (And.intro tt45 t0_45) (And.intro Tryz.underlying51 tz51)) (And.intro (And.intro tt51 t0_51) (And.intro Tryz.underlying52 (And.intro tz52 tt52)))) (And.intro (And.intro (And.intro t0_52 Tryz.underlying55) (And.intro tz55 tt55)) (And.intro (And.intro t0_55 Tryz.underlying56) (And.intro tz56 (And.intro tt56 t0_56)))))) (And.intro (And.intro (And.intro (And.intro (And.intro Tryz.underlying57 tz57) (And.intro tt57 t0_57)) (And.intro (And.intro Tryz.underlying58 tz58) (And.intro tt58 (And.intro t0_58 Tryz.underlying77)))) (And.intro (And.intro (And.intro tz77 tt77) (And.intro t0_77 Tryz.underlying80)) (And.intro (And.intro tz80 tt80) (And.intro t0_80 (And.intro Tryz.underlying90 tz90))))) (And.intro (And.intro (And.intro (And.intro tt90 t0_90) (And.intro Tryz.underlying110 tz110)) (And.intro (And.intro tt110 t0_110) (And.intro Tryz.underlying115 (And.intro tz115 tt115)))) (And.intro (And.intro (And.intro t0_115 Tryz.underlying116) (And.intro tz116 tt116)) (And.intro (And.intro t0_116 Tryz.underlying123) (And.intro tz123 (And.intro tt123 t0_123)))))))
def r7 (ks : List K) (i t p : Int) (tr : Int) (fr : Int) (f s l : Int) : Bool := (if 60 < (ks.length : Int) then true else (if ((r48 (ks : List K) tr fr f s l).1) = ((r49 (ks : List K) tr fr f s l).1) then decide (((r48 (ks : List K) tr fr f s l).2) = ((r49 (ks : List K) tr fr f s l).2)) else false))
set_option maxHeartbeats 4000000 in
theorem c7 (ks : List K) (i t p : Int) (tr : Int) (fr : Int) (f s l : Int)  (S : AS) (v_ks : Value) (hv_ks : Lst S v_ks ks) :
    ∃ S', (evL Tryz.prog E0).call 7 #[v_ks, .agg #[.int .i64 i, .int .i64 t, .int .i64 p], .int .i64 tr, .int .i64 fr, .agg #[.int .i64 f, .int .i64 s, .int .i64 l]] S = some (.bool (r7 ks i t p tr fr f s l), S') ∧ Agree S S' := by
  generalize hz : (evL Tryz.prog E0).call 7 _ _ = z
  rw [L_call, evCall_said rfl Tryz.func7 rfl (by decide) Tryz.ntmps7 Tryz.results7] at hz
  obtain ⟨S1, e1, n1, b1, a1⟩ := push_open S (.cells [.int .i64 i, .int .i64 t, .int .i64 p] 52 0 true true)
  have g1 : Agree S S1 := a1
  have s1 : E0.same S S1 = true := symEnv_same a1
  obtain ⟨S2, e2, n2, b2, a2⟩ := push_open S1 (.cells [.int .i64 f, .int .i64 s, .int .i64 l] 45 0 true true)
  have v1_2 := (a2.2 S.next (by omega)).trans b1
  have g2 : Agree S S2 := g1.trans a2
  have s2 : E0.same S1 S2 = true := symEnv_same a2
  have w3 := (hv_ks.agree g2).len (P := Tryz.prog) (t := 43) Tryz.underlying43
  try simp (disch := first | omega | assumption) only [E0_G, SY, setArgs, off, agreeKind, partVals, vals, allocV, boxed, ldA, rdCells, oneB, aggD, aField, aFieldV, aExtract, eq_self, ne_eq, if_true, if_false, not_false_eq_true, Nat.reduceAdd, Nat.reduceSub, Nat.reduceMul, Nat.reduceLT, Nat.reduceEqDiff, Nat.reduceBEq, reduceIte, Int.reduceEq, Int.reduceLT, Int.reduceLE, reduceCtorEq, TY_EvA8, and_fold, or_fold, not_fold, s1, e1, b1, v1_2, s2, e2, b2, w3] at hz
  rcases dP (60 < (ks.length : Int)) with ⟨h4a, h4⟩ | ⟨h4a, h4⟩
  · skip
    try simp (disch := first | omega | assumption) only [E0_G, SY, setArgs, off, agreeKind, partVals, vals, allocV, boxed, ldA, rdCells, oneB, aggD, aField, aFieldV, aExtract, eq_self, ne_eq, if_true, if_false, not_false_eq_true, Nat.reduceAdd, Nat.reduceSub, Nat.reduceMul, Nat.reduceLT, Nat.reduceEqDiff, Nat.reduceBEq, reduceIte, Int.reduceEq, Int.reduceLT, Int.reduceLE, reduceCtorEq, TY_EvA8, and_fold, or_fold, not_fold, s1, e1, b1, v1_2, s2, e2, b2, w3, h4a, c15s] at hz
    have hr : r7 ks i t p tr fr f s l = true := (if_pos h4).trans (rfl)
    exact fin hz (by rw [hr]) g2
  · skip
    obtain ⟨S5, k5, a5⟩ := c46 ks (⟨i, t, p⟩ : K) f s l (by omega) S2 (v_ks) (hv_ks.agree g2)
    have l5 := a5.1
    have s5 : E0.same S2 S5 = true := symEnv_same a5
    have v1_5 := (a5.2 S.next (by omega)).trans v1_2
    have v2_5 := (a5.2 S1.next (by omega)).trans b2
    have g5 : Agree S S5 := g2.trans a5
    obtain ⟨S6, k6, a6⟩ := c47 ks (⟨i, t, p⟩ : K) f s l (by omega) S5 (v_ks) (hv_ks.agree g5)
    have l6 := a6.1
    have s6 : E0.same S5 S6 = true := symEnv_same a6
    have v1_6 := (a6.2 S.next (by omega)).trans v1_5
    have v2_6 := (a6.2 S1.next (by omega)).trans v2_5
    have g6 : Agree S S6 := g5.trans a6
    obtain ⟨S7, k7, a7⟩ := c48 (ks : List K) tr fr f s l (by first | omega | (simp; omega) | (simp; done) | assumption) S6 (v_ks) (hv_ks.agree g6) 
    have l7 := a7.1
    have s7 : E0.same S6 S7 = true := symEnv_same a7
    have v1_7 := (a7.2 S.next (by omega)).trans v1_6
    have v2_7 := (a7.2 S1.next (by omega)).trans v2_6
    have g7 : Agree S S7 := g6.trans a7
    obtain ⟨S8, k8, a8⟩ := c49 (ks : List K) tr fr f s l (by first | omega | (simp; omega) | (simp; done) | assumption) S7 (v_ks) (hv_ks.agree g7) 
    have l8 := a8.1
    have s8 : E0.same S7 S8 = true := symEnv_same a8
    have v1_8 := (a8.2 S.next (by omega)).trans v1_7
    have v2_8 := (a8.2 S1.next (by omega)).trans v2_7
    have g8 : Agree S S8 := g7.trans a8
    try simp (disch := first | omega | assumption) only [E0_G, SY, setArgs, off, agreeKind, partVals, vals, allocV, boxed, ldA, rdCells, oneB, aggD, aField, aFieldV, aExtract, eq_self, ne_eq, if_true, if_false, not_false_eq_true, Nat.reduceAdd, Nat.reduceSub, Nat.reduceMul, Nat.reduceLT, Nat.reduceEqDiff, Nat.reduceBEq, reduceIte, Int.reduceEq, Int.reduceLT, Int.reduceLE, reduceCtorEq, TY_EvA8, and_fold, or_fold, not_fold, s1, e1, b1, v1_2, s2, e2, b2, w3, h4a, k5, s5, v1_5, v2_5, k6, s6, v1_6, v2_6, k7, s7, v1_7, v2_7, k8, s8, v1_8, v2_8, c15s] at hz
    rcases dP (((r48 (ks : List K) tr fr f s l).1) = ((r49 (ks : List K) tr fr f s l).1)) with ⟨h9a, h9⟩ | ⟨h9a, h9⟩
    · skip
      try simp (disch := first | omega | assumption) only [E0_G, SY, setArgs, off, agreeKind, partVals, vals, allocV, boxed, ldA, rdCells, oneB, aggD, aField, aFieldV, aExtract, eq_self, ne_eq, if_true, if_false, not_false_eq_true, Nat.reduceAdd, Nat.reduceSub, Nat.reduceMul, Nat.reduceLT, Nat.reduceEqDiff, Nat.reduceBEq, reduceIte, Int.reduceEq, Int.reduceLT, Int.reduceLE, reduceCtorEq, TY_EvA8, and_fold, or_fold, not_fold, s1, e1, b1, v1_2, s2, e2, b2, w3, h4a, k5, s5, v1_5, v2_5, k6, s6, v1_6, v2_6, k7, s7, v1_7, v2_7, k8, s8, v1_8, v2_8, c15s, h9a] at hz
      have hr : r7 ks i t p tr fr f s l = decide (((r48 (ks : List K) tr fr f s l).2) = ((r49 (ks : List K) tr fr f s l).2)) := (if_neg h4).trans ((if_pos h9).trans (rfl))
      exact fin hz (by rw [hr]) g8
    · skip
      try simp (disch := first | omega | assumption) only [E0_G, SY, setArgs, off, agreeKind, partVals, vals, allocV, boxed, ldA, rdCells, oneB, aggD, aField, aFieldV, aExtract, eq_self, ne_eq, if_true, if_false, not_false_eq_true, Nat.reduceAdd, Nat.reduceSub, Nat.reduceMul, Nat.reduceLT, Nat.reduceEqDiff, Nat.reduceBEq, reduceIte, Int.reduceEq, Int.reduceLT, Int.reduceLE, reduceCtorEq, TY_EvA8, and_fold, or_fold, not_fold, s1, e1, b1, v1_2, s2, e2, b2, w3, h4a, k5, s5, v1_5, v2_5, k6, s6, v1_6, v2_6, k7, s7, v1_7, v2_7, k8, s8, v1_8, v2_8, c15s, h9a] at hz
      have hr : r7 ks i t p tr fr f s l = false := (if_neg h4).trans ((if_neg h9).trans (rfl))
      exact fin hz (by rw [hr]) g8

def r139 (w : Int) (a b c d e : Int) : Int := errV (MarkOk a b c d e)
set_option maxHeartbeats 2000000 in
theorem c139 (w : Int) (a b c d e : Int)  (S : AS)  (ht : Tab S) :
    ∃ S', (evL Tryz.prog E0).call 139 #[.int .i64 w, .agg #[.int .i64 a, .int .i64 b, .int .i64 c, .int .i64 d, .int .i64 e]] S = some (.int .i64 (r139 w a b c d e), S') ∧ Agree S S' := by
  generalize hz : (evL Tryz.prog E0).call 139 _ _ = z
  rw [L_call, evCall_said rfl Tryz.func139 rfl (by decide) Tryz.ntmps139 Tryz.results139] at hz
  obtain ⟨S1, e1, n1, b1, a1⟩ := push_open S (.cells [.int .i64 a, .int .i64 b, .int .i64 c, .int .i64 d, .int .i64 e] 58 0 true true)
  have g1 : Agree S S1 := a1
  have s1 : E0.same S S1 = true := symEnv_same a1
  obtain ⟨S2, k2, a2⟩ := c54 a b c d e S1 (ht.agree g1) 
  have l2 := a2.1
  have s2 : E0.same S1 S2 = true := symEnv_same a2
  have v1_2 := (a2.2 S.next (by omega)).trans b1
  have g2 : Agree S S2 := g1.trans a2
  try simp (disch := first | omega | assumption) only [E0_G, SY, setArgs, off, agreeKind, partVals, vals, allocV, boxed, ldA, rdCells, oneB, aggD, aField, aFieldV, aExtract, eq_self, ne_eq, if_true, if_false, not_false_eq_true, Nat.reduceAdd, Nat.reduceSub, Nat.reduceMul, Nat.reduceLT, Nat.reduceEqDiff, Nat.reduceBEq, reduceIte, Int.reduceEq, Int.reduceLT, Int.reduceLE, reduceCtorEq, TY_EvA8, and_fold, or_fold, not_fold, s1, e1, b1, k2, s2, v1_2] at hz
  have hr : r139 w a b c d e = errV (MarkOk a b c d e) := rfl
  exact fin hz (by rw [hr]) g2

def R138_0 (l : List Mk) (w : Int)  : List Mk → Nat → Sum (Int × Int) (Unit)
  | [], j => .inr ()
  | x4 :: l', j => (if (r139 (j : Int) x4.f x4.l x4.t x4.s x4.b) = 0 then R138_0 l w l' (j + 1) else .inl ((r139 (j : Int) x4.f x4.l x4.t x4.s x4.b), (j : Int)))
def r138 (l : List Mk) (w : Int) : Int × Int := (if w < (l.length : Int) then (2, -1) else (onSum (R138_0 l w l 0) (fun (r6, r7) => (r6, r7)) (fun _ => (0, -1))))
set_option maxHeartbeats 2000000 in
theorem c138 (l : List Mk) (w : Int) (hn : l.length ≤ 1000)  (S : AS) (v_l : Value) (hv_l : Lst S v_l l) (ht : Tab S) :
    ∃ S', (evL Tryz.prog E0).call 138 #[v_l, .int .i64 w, .func (.func 139) #[] #[]] S = some (.tuple #[.int .i64 (r138 l w).1, .int .i64 (r138 l w).2], S') ∧ Agree S S' := by
  generalize hz : (evL Tryz.prog E0).call 138 _ _ = z
  rw [L_call, evCall_said rfl Tryz.func138 rfl (by decide) Tryz.ntmps138 Tryz.results138] at hz
  have w1 := (hv_l).len (P := Tryz.prog) (t := 90) Tryz.underlying90
  try simp (disch := first | omega | assumption) only [E0_G, SY, setArgs, off, agreeKind, partVals, vals, allocV, boxed, ldA, rdCells, oneB, aggD, aField, aFieldV, aExtract, eq_self, ne_eq, if_true, if_false, not_false_eq_true, Nat.reduceAdd, Nat.reduceSub, Nat.reduceMul, Nat.reduceLT, Nat.reduceEqDiff, Nat.reduceBEq, reduceIte, Int.reduceEq, Int.reduceLT, Int.reduceLE, reduceCtorEq, TY_EvA8, and_fold, or_fold, not_fold, w1] at hz
  rcases dP (w < (l.length : Int)) with ⟨h2a, h2⟩ | ⟨h2a, h2⟩
  · skip
    try simp (disch := first | omega | assumption) only [E0_G, SY, setArgs, off, agreeKind, partVals, vals, allocV, boxed, ldA, rdCells, oneB, aggD, aField, aFieldV, aExtract, eq_self, ne_eq, if_true, if_false, not_false_eq_true, Nat.reduceAdd, Nat.reduceSub, Nat.reduceMul, Nat.reduceLT, Nat.reduceEqDiff, Nat.reduceBEq, reduceIte, Int.reduceEq, Int.reduceLT, Int.reduceLE, reduceCtorEq, TY_EvA8, and_fold, or_fold, not_fold, w1, h2a] at hz
    have hr : r138 l w = (2, -1) := (if_pos h2).trans (rfl)
    exact fin hz (by rw [hr]) (Agree.refl S)
  · skip
    have w3 := (hv_l).len (P := Tryz.prog) (t := 90) Tryz.underlying90
    try simp (disch := first | omega | assumption) only [E0_G, SY, setArgs, off, agreeKind, partVals, vals, allocV, boxed, ldA, rdCells, oneB, aggD, aField, aFieldV, aExtract, eq_self, ne_eq, if_true, if_false, not_false_eq_true, Nat.reduceAdd, Nat.reduceSub, Nat.reduceMul, Nat.reduceLT, Nat.reduceEqDiff, Nat.reduceBEq, reduceIte, Int.reduceEq, Int.reduceLT, Int.reduceLE, reduceCtorEq, TY_EvA8, and_fold, or_fold, not_fold, w1, h2a, w3] at hz
    generalize hL4 : Rec.loop _ _ _ _ = L4 at hz
    obtain ⟨x4, t4, S4e, rfl, hQ4⟩ := loop_met hL4 (fun m t S' => ∃ (j : Nat), m + j = l.length ∧ j ≤ l.length ∧ t.get 2 = some (.func (.func 139) #[] #[]) ∧ t.get 15 = some (v_l) ∧ t.get 16 = some (.int .i64 (l.length : Int)) ∧ t.get 17 = some (.int .i64 (j : Int)) ∧ Agree S S' ∧ S.next ≤ S'.next ∧ R138_0 l w (l.drop j) j = R138_0 l w l 0)
      (fun x t S' => (x = .exit 0 ∧ ∃ (j : Nat), Agree S S' ∧ S.next ≤ S'.next ∧ j ≤ l.length ∧ R138_0 l w l 0 = .inr ()) ∨ (x = .ret ∧ ∃ (r6 : Int) (r7 : Int), t.get 6 = some (.int .i64 r6) ∧ t.get 7 = some (.int .i64 r7) ∧ Agree S S' ∧ R138_0 l w l 0 = .inl (r6, r7))) (l.length - 0) ⟨0, by first | rfl | omega | (simp; omega) | simp, by first | rfl | omega | (simp; omega) | simp, by simp only [SY, setArgs, off, agreeKind, partVals, vals, allocV, boxed, ldA, rdCells, oneB, aggD, aField, aFieldV, aExtract, eq_self, ne_eq, if_true, if_false, not_false_eq_true, Nat.reduceAdd, Nat.reduceSub, Nat.reduceMul, Nat.reduceLT, Nat.reduceEqDiff, Nat.reduceBEq, reduceIte, Int.reduceEq, Int.reduceLT, Int.reduceLE, reduceCtorEq] <;> rfl, by simp only [SY, setArgs, off, agreeKind, partVals, vals, allocV, boxed, ldA, rdCells, oneB, aggD, aField, aFieldV, aExtract, eq_self, ne_eq, if_true, if_false, not_false_eq_true, Nat.reduceAdd, Nat.reduceSub, Nat.reduceMul, Nat.reduceLT, Nat.reduceEqDiff, Nat.reduceBEq, reduceIte, Int.reduceEq, Int.reduceLT, Int.reduceLE, reduceCtorEq] <;> rfl, by simp only [SY, setArgs, off, agreeKind, partVals, vals, allocV, boxed, ldA, rdCells, oneB, aggD, aField, aFieldV, aExtract, eq_self, ne_eq, if_true, if_false, not_false_eq_true, Nat.reduceAdd, Nat.reduceSub, Nat.reduceMul, Nat.reduceLT, Nat.reduceEqDiff, Nat.reduceBEq, reduceIte, Int.reduceEq, Int.reduceLT, Int.reduceLE, reduceCtorEq] <;> rfl, by simp only [SY, setArgs, off, agreeKind, partVals, vals, allocV, boxed, ldA, rdCells, oneB, aggD, aField, aFieldV, aExtract, eq_self, ne_eq, if_true, if_false, not_false_eq_true, Nat.reduceAdd, Nat.reduceSub, Nat.reduceMul, Nat.reduceLT, Nat.reduceEqDiff, Nat.reduceBEq, reduceIte, Int.reduceEq, Int.reduceLT, Int.reduceLE, reduceCtorEq] <;> rfl, (Agree.refl S), Nat.le_refl _, rfl⟩ (by
        rintro m t S4 ⟨j, hi4_0, hi4_1, g4_2, g4_15, g4_16, g4_17, ga4, gn4, hd4⟩
        refine .run fun z he => ?_
        try simp (disch := first | omega | assumption) only [E0_G, SY, setArgs, off, agreeKind, partVals, vals, allocV, boxed, ldA, rdCells, oneB, aggD, aField, aFieldV, aExtract, eq_self, ne_eq, if_true, if_false, not_false_eq_true, Nat.reduceAdd, Nat.reduceSub, Nat.reduceMul, Nat.reduceLT, Nat.reduceEqDiff, Nat.reduceBEq, reduceIte, Int.reduceEq, Int.reduceLT, Int.reduceLE, reduceCtorEq, TY_EvA8, and_fold, or_fold, not_fold, g4_2, g4_15, g4_16, g4_17, w1, h2a, w3] at he
        rcases dP ((j : Int) < (l.length : Int)) with ⟨h5a, h5⟩ | ⟨h5a, h5⟩
        · skip
          have hx4 : l[j]? = some (l[j]'(by first | omega | simp; omega)) := List.getElem?_eq_getElem _
          generalize l[j]'_ = x4 at hx4
          obtain ⟨id6, of6, cc6, ty6, wr6, ex6, i6, j6, l6, q6⟩ := (hv_l).at (P := Tryz.prog) (t := 90) Tryz.underlying90 tz58 hx4
          have j6 := (ga4.2 id6 l6).trans j6
          have m6_0 : cc6[of6]? = some (.int .i64 x4.f) := q6 0 (show 0 < 5 by decide)
          have m6_1 : cc6[of6 + 1]? = some (.int .i64 x4.l) := q6 1 (show 1 < 5 by decide)
          have m6_2 : cc6[of6 + 2]? = some (.int .i64 x4.t) := q6 2 (show 2 < 5 by decide)
          have m6_3 : cc6[of6 + 3]? = some (.int .i64 x4.s) := q6 3 (show 3 < 5 by decide)
          have m6_4 : cc6[of6 + 4]? = some (.int .i64 x4.b) := q6 4 (show 4 < 5 by decide)
          obtain ⟨S7, e7, n7, b7, a7⟩ := push_open S4 (.cells [.int .i64 0, .int .i64 0, .int .i64 0, .int .i64 0, .int .i64 0] 58 0 true true)
          have v6_7 := (a7.2 id6 (by omega)).trans j6
          have g7 : Agree S S7 := ga4.trans a7
          have s7 : E0.same S4 S7 = true := symEnv_same a7
          obtain ⟨S8, k8, n8, b8, q8⟩ := st_at (o := 0) (c' := [.int .i64 x4.f, .int .i64 x4.l, .int .i64 x4.t, .int .i64 x4.s, .int .i64 x4.b]) (v := .agg #[.int .i64 x4.f, .int .i64 x4.l, .int .i64 x4.t, .int .i64 x4.s, .int .i64 x4.b]) tz58 b7 rfl rfl (show 0 + 5 ≤ 5 by decide) rfl
          have v6_8 := (q8 id6 (by omega)).trans v6_7
          have g8 : Agree S S8 := ⟨by have := (g7).1; omega, fun id hid => (q8 id (by have := (g7).1; omega)).trans ((g7).2 id hid)⟩
          obtain ⟨S9, k9, a9⟩ := c139 (j : Int) x4.f x4.l x4.t x4.s x4.b  S8  (ht.agree g8)
          have l9 := a9.1
          have s9 : E0.same S8 S9 = true := symEnv_same a9
          have v6_9 := (a9.2 id6 (by omega)).trans v6_8
          have v7_9 := (a9.2 S4.next (by omega)).trans b8
          have g9 : Agree S S9 := g8.trans a9
          try simp (disch := first | omega | assumption) only [E0_G, SY, setArgs, off, agreeKind, partVals, vals, allocV, boxed, ldA, rdCells, oneB, aggD, aField, aFieldV, aExtract, eq_self, ne_eq, if_true, if_false, not_false_eq_true, Nat.reduceAdd, Nat.reduceSub, Nat.reduceMul, Nat.reduceLT, Nat.reduceEqDiff, Nat.reduceBEq, reduceIte, Int.reduceEq, Int.reduceLT, Int.reduceLE, reduceCtorEq, TY_EvA8, and_fold, or_fold, not_fold, g4_2, g4_15, g4_16, g4_17, w1, h2a, w3, h5a, i6, j6, m6_0, m6_1, m6_2, m6_3, m6_4, v6_7, s7, e7, b7, v6_8, k8, b8, k9, s9, v6_9, v7_9] at he
          rcases dP ((r139 (j : Int) x4.f x4.l x4.t x4.s x4.b) = 0) with ⟨h10a, h10⟩ | ⟨h10a, h10⟩
          · skip
            have w11 : IntKind.i64.wrap ((j : Int) + 1) = ((j + 1 : Nat) : Int) := by rw [IntWalk.i64_in] <;> omega
            try simp (disch := first | omega | assumption) only [E0_G, SY, setArgs, off, agreeKind, partVals, vals, allocV, boxed, ldA, rdCells, oneB, aggD, aField, aFieldV, aExtract, eq_self, ne_eq, if_true, if_false, not_false_eq_true, Nat.reduceAdd, Nat.reduceSub, Nat.reduceMul, Nat.reduceLT, Nat.reduceEqDiff, Nat.reduceBEq, reduceIte, Int.reduceEq, Int.reduceLT, Int.reduceLE, reduceCtorEq, TY_EvA8, and_fold, or_fold, not_fold, g4_2, g4_15, g4_16, g4_17, w1, h2a, w3, h5a, i6, j6, m6_0, m6_1, m6_2, m6_3, m6_4, v6_7, s7, e7, b7, v6_8, k8, b8, k9, s9, v6_9, v7_9, h10a, w11] at he
            rw [drop_cons' hx4] at hd4
            have hf := (show _ = (R138_0 l w (l.drop (j + 1)) (j + 1) : Sum (Int × Int) (Unit)) from (if_pos h10).trans (rfl)).symm.trans hd4
            exact .next he (m - 1) (by omega) ⟨(j + 1), by first | omega | (simp; omega) | simp, by first | omega | (simp; omega) | simp, (by simp only [SY, setArgs, off, agreeKind, partVals, vals, allocV, boxed, ldA, rdCells, oneB, aggD, aField, aFieldV, aExtract, eq_self, ne_eq, if_true, if_false, not_false_eq_true, Nat.reduceAdd, Nat.reduceSub, Nat.reduceMul, Nat.reduceLT, Nat.reduceEqDiff, Nat.reduceBEq, reduceIte, Int.reduceEq, Int.reduceLT, Int.reduceLE, reduceCtorEq, g4_2, g4_15, g4_16, g4_17] <;> rfl), (by simp only [SY, setArgs, off, agreeKind, partVals, vals, allocV, boxed, ldA, rdCells, oneB, aggD, aField, aFieldV, aExtract, eq_self, ne_eq, if_true, if_false, not_false_eq_true, Nat.reduceAdd, Nat.reduceSub, Nat.reduceMul, Nat.reduceLT, Nat.reduceEqDiff, Nat.reduceBEq, reduceIte, Int.reduceEq, Int.reduceLT, Int.reduceLE, reduceCtorEq, g4_2, g4_15, g4_16, g4_17] <;> rfl), (by simp only [SY, setArgs, off, agreeKind, partVals, vals, allocV, boxed, ldA, rdCells, oneB, aggD, aField, aFieldV, aExtract, eq_self, ne_eq, if_true, if_false, not_false_eq_true, Nat.reduceAdd, Nat.reduceSub, Nat.reduceMul, Nat.reduceLT, Nat.reduceEqDiff, Nat.reduceBEq, reduceIte, Int.reduceEq, Int.reduceLT, Int.reduceLE, reduceCtorEq, g4_2, g4_15, g4_16, g4_17] <;> rfl), (by simp only [SY, setArgs, off, agreeKind, partVals, vals, allocV, boxed, ldA, rdCells, oneB, aggD, aField, aFieldV, aExtract, eq_self, ne_eq, if_true, if_false, not_false_eq_true, Nat.reduceAdd, Nat.reduceSub, Nat.reduceMul, Nat.reduceLT, Nat.reduceEqDiff, Nat.reduceBEq, reduceIte, Int.reduceEq, Int.reduceLT, Int.reduceLE, reduceCtorEq, g4_2, g4_15, g4_16, g4_17] <;> rfl), g9, by omega, hf⟩
          · skip
            try simp (disch := first | omega | assumption) only [E0_G, SY, setArgs, off, agreeKind, partVals, vals, allocV, boxed, ldA, rdCells, oneB, aggD, aField, aFieldV, aExtract, eq_self, ne_eq, if_true, if_false, not_false_eq_true, Nat.reduceAdd, Nat.reduceSub, Nat.reduceMul, Nat.reduceLT, Nat.reduceEqDiff, Nat.reduceBEq, reduceIte, Int.reduceEq, Int.reduceLT, Int.reduceLE, reduceCtorEq, TY_EvA8, and_fold, or_fold, not_fold, g4_2, g4_15, g4_16, g4_17, w1, h2a, w3, h5a, i6, j6, m6_0, m6_1, m6_2, m6_3, m6_4, v6_7, s7, e7, b7, v6_8, k8, b8, k9, s9, v6_9, v7_9, h10a] at he
            rw [drop_cons' hx4] at hd4
            have hf := (show _ = (.inl ((r139 (j : Int) x4.f x4.l x4.t x4.s x4.b), (j : Int)) : Sum (Int × Int) (Unit)) from (if_neg h10).trans (rfl)).symm.trans hd4
            exact .ret he (.inr ⟨rfl, ⟨(r139 (j : Int) x4.f x4.l x4.t x4.s x4.b), (j : Int), (by simp only [SY, setArgs, off, agreeKind, partVals, vals, allocV, boxed, ldA, rdCells, oneB, aggD, aField, aFieldV, aExtract, eq_self, ne_eq, if_true, if_false, not_false_eq_true, Nat.reduceAdd, Nat.reduceSub, Nat.reduceMul, Nat.reduceLT, Nat.reduceEqDiff, Nat.reduceBEq, reduceIte, Int.reduceEq, Int.reduceLT, Int.reduceLE, reduceCtorEq, g4_2, g4_15, g4_16, g4_17] <;> rfl), (by simp only [SY, setArgs, off, agreeKind, partVals, vals, allocV, boxed, ldA, rdCells, oneB, aggD, aField, aFieldV, aExtract, eq_self, ne_eq, if_true, if_false, not_false_eq_true, Nat.reduceAdd, Nat.reduceSub, Nat.reduceMul, Nat.reduceLT, Nat.reduceEqDiff, Nat.reduceBEq, reduceIte, Int.reduceEq, Int.reduceLT, Int.reduceLE, reduceCtorEq, g4_2, g4_15, g4_16, g4_17] <;> rfl), g9, hf.symm⟩⟩)
        · skip
          try simp (disch := first | omega | assumption) only [E0_G, SY, setArgs, off, agreeKind, partVals, vals, allocV, boxed, ldA, rdCells, oneB, aggD, aField, aFieldV, aExtract, eq_self, ne_eq, if_true, if_false, not_false_eq_true, Nat.reduceAdd, Nat.reduceSub, Nat.reduceMul, Nat.reduceLT, Nat.reduceEqDiff, Nat.reduceBEq, reduceIte, Int.reduceEq, Int.reduceLT, Int.reduceLE, reduceCtorEq, TY_EvA8, and_fold, or_fold, not_fold, g4_2, g4_15, g4_16, g4_17, w1, h2a, w3, h5a] at he
          rw [List.drop_eq_nil_of_le (by omega)] at hd4
          have hf := (show _ = (.inr () : Sum (Int × Int) (Unit)) from rfl).symm.trans hd4
          exact .exit he (.inl ⟨rfl, ⟨j, ga4, by omega, by first | omega | assumption | simp, hf.symm⟩⟩))
    rcases hQ4 with ⟨rfl, hQ4⟩ | ⟨rfl, hQ4⟩
    · skip
      obtain ⟨j, ge4, gm4, hj4_0, hR4⟩ := hQ4
      try simp (disch := first | omega | assumption) only [E0_G, SY, setArgs, off, agreeKind, partVals, vals, allocV, boxed, ldA, rdCells, oneB, aggD, aField, aFieldV, aExtract, eq_self, ne_eq, if_true, if_false, not_false_eq_true, Nat.reduceAdd, Nat.reduceSub, Nat.reduceMul, Nat.reduceLT, Nat.reduceEqDiff, Nat.reduceBEq, reduceIte, Int.reduceEq, Int.reduceLT, Int.reduceLE, reduceCtorEq, TY_EvA8, and_fold, or_fold, not_fold, w1, h2a, w3] at hz
      have hr : r138 l w = (0, -1) := (if_neg h2).trans ((onSum_inr hR4).trans (rfl))
      exact fin hz (by rw [hr]) ge4
    · skip
      obtain ⟨r6, r7, ge4_6, ge4_7, ge4, hR4⟩ := hQ4
      try simp (disch := first | omega | assumption) only [E0_G, SY, setArgs, off, agreeKind, partVals, vals, allocV, boxed, ldA, rdCells, oneB, aggD, aField, aFieldV, aExtract, eq_self, ne_eq, if_true, if_false, not_false_eq_true, Nat.reduceAdd, Nat.reduceSub, Nat.reduceMul, Nat.reduceLT, Nat.reduceEqDiff, Nat.reduceBEq, reduceIte, Int.reduceEq, Int.reduceLT, Int.reduceLE, reduceCtorEq, TY_EvA8, and_fold, or_fold, not_fold, w1, h2a, w3, ge4_6, ge4_7] at hz
      have hr : r138 l w = (r6, r7) := (if_neg h2).trans ((onSum_inl hR4).trans (rfl))
      exact fin hz (by rw [hr]) ge4

def r121 (l : List Mk) : Int := (r138 (l : List Mk) 60).1
set_option maxHeartbeats 2000000 in
theorem c121 (l : List Mk) (hn : l.length ≤ 1000)  (S : AS) (v_l : Value) (hv_l : Lst S v_l l) (ht : Tab S) :
    ∃ S', (evL Tryz.prog E0).call 121 #[v_l] S = some (.int .i64 (r121 l), S') ∧ Agree S S' := by
  generalize hz : (evL Tryz.prog E0).call 121 _ _ = z
  rw [L_call, evCall_said rfl Tryz.func121 rfl (by decide) Tryz.ntmps121 Tryz.results121] at hz
  obtain ⟨S1, k1, a1⟩ := c138 (l : List Mk) 60 (by first | omega | (simp; omega) | (simp; done) | assumption) S (v_l) (hv_l) ht
  have l1 := a1.1
  have s1 : E0.same S S1 = true := symEnv_same a1
  have g1 : Agree S S1 := a1
  try simp (disch := first | omega | assumption) only [E0_G, SY, setArgs, off, agreeKind, partVals, vals, allocV, boxed, ldA, rdCells, oneB, aggD, aField, aFieldV, aExtract, eq_self, ne_eq, if_true, if_false, not_false_eq_true, Nat.reduceAdd, Nat.reduceSub, Nat.reduceMul, Nat.reduceLT, Nat.reduceEqDiff, Nat.reduceBEq, reduceIte, Int.reduceEq, Int.reduceLT, Int.reduceLE, reduceCtorEq, TY_EvA8, and_fold, or_fold, not_fold, k1, s1] at hz
  have hr : r121 l = (r138 (l : List Mk) 60).1 := rfl
  exact fin hz (by rw [hr]) g1

def R68_0 (ks : List K) (ms : List Mk) (f s l : Int)  : List Mk → Nat → List Int → (List Int)
  | [], j, o => o
  | x9 :: l', j, o => (if (((r59 (ks : List K) x9.f x9.l x9.t x9.s x9.b f s l).1).length : Int) = 0 then (if (((r60 (ks : List K) x9.f x9.l x9.t x9.s x9.b f s l).1).length : Int) = 0 then R68_0 ks ms f s l l' (j + 1) (o ++ ([(j : Int)])) else R68_0 ks ms f s l l' (j + 1) o) else R68_0 ks ms f s l l' (j + 1) o)
def r68 (ks : List K) (ms : List Mk) (f s l : Int) : List Int × Int := (if bunch ks = true then (if (errV (InkOk f s l)) = 0 then (if (r121 (ms : List Mk)) = 0 then (R68_0 ks ms f s l ms 0 ([]), 0) else ([], (r121 (ms : List Mk)))) else ([], 1)) else ([], 1))
set_option maxHeartbeats 2000000 in
theorem c68 (ks : List K) (ms : List Mk) (f s l : Int) (hn : ks.length ≤ 60) (hm : ms.length ≤ 80)  (S : AS) (v_ks : Value) (hv_ks : Lst S v_ks ks) (v_ms : Value) (hv_ms : Lst S v_ms ms) (ht : Tab S) :
    ∃ v' S', (evL Tryz.prog E0).call 68 #[v_ks, v_ms, .agg #[.int .i64 f, .int .i64 s, .int .i64 l]] S = some (.tuple #[v', .int .i64 (r68 ks ms f s l).2], S') ∧ Agree S S' ∧ Own 3 S.next S' v' (r68 ks ms f s l).1 := by
  generalize hz : (evL Tryz.prog E0).call 68 _ _ = z
  rw [L_call, evCall_said rfl Tryz.func68 rfl (by decide) Tryz.ntmps68 Tryz.results68] at hz
  obtain ⟨S1, e1, n1, b1, a1⟩ := push_open S (.cells [.int .i64 f, .int .i64 s, .int .i64 l] 45 0 true true)
  have g1 : Agree S S1 := a1
  have s1 : E0.same S S1 = true := symEnv_same a1
  obtain ⟨S2, k2, a2⟩ := c109 (ks : List K) (by omega) S1 (v_ks) (hv_ks.agree g1)
  have l2 := a2.1
  have s2 : E0.same S1 S2 = true := symEnv_same a2
  have v1_2 := (a2.2 S.next (by omega)).trans b1
  have g2 : Agree S S2 := g1.trans a2
  try simp (disch := first | omega | assumption) only [E0_G, SY, setArgs, off, agreeKind, partVals, vals, allocV, boxed, ldA, rdCells, oneB, aggD, aField, aFieldV, aExtract, eq_self, ne_eq, if_true, if_false, not_false_eq_true, Nat.reduceAdd, Nat.reduceSub, Nat.reduceMul, Nat.reduceLT, Nat.reduceEqDiff, Nat.reduceBEq, reduceIte, Int.reduceEq, Int.reduceLT, Int.reduceLE, reduceCtorEq, TY_EvA8, and_fold, or_fold, not_fold, s1, e1, b1, k2, s2, v1_2] at hz
  rcases dB (bunch ks) with ⟨h3a, h3⟩ | ⟨h3a, h3⟩
  · skip
    obtain ⟨S4, k4, a4⟩ := c36 f s l S2  
    have l4 := a4.1
    have s4 : E0.same S2 S4 = true := symEnv_same a4
    have v1_4 := (a4.2 S.next (by omega)).trans v1_2
    have g4 : Agree S S4 := g2.trans a4
    try simp (disch := first | omega | assumption) only [E0_G, SY, setArgs, off, agreeKind, partVals, vals, allocV, boxed, ldA, rdCells, oneB, aggD, aField, aFieldV, aExtract, eq_self, ne_eq, if_true, if_false, not_false_eq_true, Nat.reduceAdd, Nat.reduceSub, Nat.reduceMul, Nat.reduceLT, Nat.reduceEqDiff, Nat.reduceBEq, reduceIte, Int.reduceEq, Int.reduceLT, Int.reduceLE, reduceCtorEq, TY_EvA8, and_fold, or_fold, not_fold, s1, e1, b1, k2, s2, v1_2, h3a, k4, s4, v1_4] at hz
    rcases dP ((errV (InkOk f s l)) = 0) with ⟨h5a, h5⟩ | ⟨h5a, h5⟩
    · skip
      obtain ⟨S6, k6, a6⟩ := c121 (ms : List Mk) (by first | omega | (simp; omega) | (simp; done) | assumption) S4 (v_ms) (hv_ms.agree g4) (ht.agree g4)
      have l6 := a6.1
      have s6 : E0.same S4 S6 = true := symEnv_same a6
      have v1_6 := (a6.2 S.next (by omega)).trans v1_4
      have g6 : Agree S S6 := g4.trans a6
      try simp (disch := first | omega | assumption) only [E0_G, SY, setArgs, off, agreeKind, partVals, vals, allocV, boxed, ldA, rdCells, oneB, aggD, aField, aFieldV, aExtract, eq_self, ne_eq, if_true, if_false, not_false_eq_true, Nat.reduceAdd, Nat.reduceSub, Nat.reduceMul, Nat.reduceLT, Nat.reduceEqDiff, Nat.reduceBEq, reduceIte, Int.reduceEq, Int.reduceLT, Int.reduceLE, reduceCtorEq, TY_EvA8, and_fold, or_fold, not_fold, s1, e1, b1, k2, s2, v1_2, h3a, k4, s4, v1_4, h5a, k6, s6, v1_6] at hz
      rcases dP ((r121 (ms : List Mk)) = 0) with ⟨h7a, h7⟩ | ⟨h7a, h7⟩
      · skip
        have w8 := (hv_ms.agree g6).len (P := Tryz.prog) (t := 90) Tryz.underlying90
        try simp (disch := first | omega | assumption) only [E0_G, SY, setArgs, off, agreeKind, partVals, vals, allocV, boxed, ldA, rdCells, oneB, aggD, aField, aFieldV, aExtract, eq_self, ne_eq, if_true, if_false, not_false_eq_true, Nat.reduceAdd, Nat.reduceSub, Nat.reduceMul, Nat.reduceLT, Nat.reduceEqDiff, Nat.reduceBEq, reduceIte, Int.reduceEq, Int.reduceLT, Int.reduceLE, reduceCtorEq, TY_EvA8, and_fold, or_fold, not_fold, s1, e1, b1, k2, s2, v1_2, h3a, k4, s4, v1_4, h5a, k6, s6, v1_6, h7a, w8] at hz
        generalize hL9 : Rec.loop _ _ _ _ = L9 at hz
        obtain ⟨x9, t9, S9e, rfl, hQ9⟩ := loop_met hL9 (fun m t S' => ∃ (j : Nat) (v_o : Value) (o : List Int), m + j = ms.length ∧ o.length ≤ j ∧ j ≤ ms.length ∧ t.get 0 = some (v_ks) ∧ t.get 5 = some (.pointer (some ⟨S.next, 0, none⟩)) ∧ t.get 9 = some (v_o) ∧ t.get 29 = some (v_ms) ∧ t.get 30 = some (.int .i64 (ms.length : Int)) ∧ t.get 31 = some (.int .i64 (j : Int)) ∧ S'.heap.get S.next = some (.cells [.int .i64 f, .int .i64 s, .int .i64 l] 45 0 true true) ∧ Agree S S' ∧ S6.next ≤ S'.next ∧ Own 3 S6.next S' v_o o ∧ R68_0 ks ms f s l (ms.drop j) j o = R68_0 ks ms f s l ms 0 ([]))
          (fun x t S' => x = .exit 0 ∧ ∃ (j : Nat) (v_o : Value) (o : List Int), t.get 9 = some (v_o) ∧ S'.heap.get S.next = some (.cells [.int .i64 f, .int .i64 s, .int .i64 l] 45 0 true true) ∧ Agree S S' ∧ S6.next ≤ S'.next ∧ Own 3 S6.next S' v_o o ∧ o.length ≤ j ∧ j ≤ ms.length ∧ R68_0 ks ms f s l ms 0 ([]) = o) (ms.length - 0) ⟨0, .slice none 0 0, [], by first | rfl | omega | (simp; omega) | simp, by first | rfl | omega | (simp; omega) | simp, by first | rfl | omega | (simp; omega) | simp, by simp only [SY, setArgs, off, agreeKind, partVals, vals, allocV, boxed, ldA, rdCells, oneB, aggD, aField, aFieldV, aExtract, eq_self, ne_eq, if_true, if_false, not_false_eq_true, Nat.reduceAdd, Nat.reduceSub, Nat.reduceMul, Nat.reduceLT, Nat.reduceEqDiff, Nat.reduceBEq, reduceIte, Int.reduceEq, Int.reduceLT, Int.reduceLE, reduceCtorEq] <;> rfl, by simp only [SY, setArgs, off, agreeKind, partVals, vals, allocV, boxed, ldA, rdCells, oneB, aggD, aField, aFieldV, aExtract, eq_self, ne_eq, if_true, if_false, not_false_eq_true, Nat.reduceAdd, Nat.reduceSub, Nat.reduceMul, Nat.reduceLT, Nat.reduceEqDiff, Nat.reduceBEq, reduceIte, Int.reduceEq, Int.reduceLT, Int.reduceLE, reduceCtorEq] <;> rfl, by simp only [SY, setArgs, off, agreeKind, partVals, vals, allocV, boxed, ldA, rdCells, oneB, aggD, aField, aFieldV, aExtract, eq_self, ne_eq, if_true, if_false, not_false_eq_true, Nat.reduceAdd, Nat.reduceSub, Nat.reduceMul, Nat.reduceLT, Nat.reduceEqDiff, Nat.reduceBEq, reduceIte, Int.reduceEq, Int.reduceLT, Int.reduceLE, reduceCtorEq] <;> rfl, by simp only [SY, setArgs, off, agreeKind, partVals, vals, allocV, boxed, ldA, rdCells, oneB, aggD, aField, aFieldV, aExtract, eq_self, ne_eq, if_true, if_false, not_false_eq_true, Nat.reduceAdd, Nat.reduceSub, Nat.reduceMul, Nat.reduceLT, Nat.reduceEqDiff, Nat.reduceBEq, reduceIte, Int.reduceEq, Int.reduceLT, Int.reduceLE, reduceCtorEq] <;> rfl, by simp only [SY, setArgs, off, agreeKind, partVals, vals, allocV, boxed, ldA, rdCells, oneB, aggD, aField, aFieldV, aExtract, eq_self, ne_eq, if_true, if_false, not_false_eq_true, Nat.reduceAdd, Nat.reduceSub, Nat.reduceMul, Nat.reduceLT, Nat.reduceEqDiff, Nat.reduceBEq, reduceIte, Int.reduceEq, Int.reduceLT, Int.reduceLE, reduceCtorEq] <;> rfl, by simp only [SY, setArgs, off, agreeKind, partVals, vals, allocV, boxed, ldA, rdCells, oneB, aggD, aField, aFieldV, aExtract, eq_self, ne_eq, if_true, if_false, not_false_eq_true, Nat.reduceAdd, Nat.reduceSub, Nat.reduceMul, Nat.reduceLT, Nat.reduceEqDiff, Nat.reduceBEq, reduceIte, Int.reduceEq, Int.reduceLT, Int.reduceLE, reduceCtorEq] <;> rfl, v1_6, g6, Nat.le_refl _, Own.nil _ _ _, rfl⟩ (by
            rintro m t S9 ⟨j, v_o, o, hi9_0, hi9_1, hi9_2, g9_0, g9_5, g9_9, g9_29, g9_30, g9_31, bb9_1, ga9, gn9, ow_o, hd9⟩
            refine .run fun z he => ?_
            try simp (disch := first | omega | assumption) only [E0_G, SY, setArgs, off, agreeKind, partVals, vals, allocV, boxed, ldA, rdCells, oneB, aggD, aField, aFieldV, aExtract, eq_self, ne_eq, if_true, if_false, not_false_eq_true, Nat.reduceAdd, Nat.reduceSub, Nat.reduceMul, Nat.reduceLT, Nat.reduceEqDiff, Nat.reduceBEq, reduceIte, Int.reduceEq, Int.reduceLT, Int.reduceLE, reduceCtorEq, TY_EvA8, and_fold, or_fold, not_fold, g9_0, g9_5, g9_9, g9_29, g9_30, g9_31, bb9_1, h3a, h5a, h7a, w8] at he
            rcases dP ((j : Int) < (ms.length : Int)) with ⟨h10a, h10⟩ | ⟨h10a, h10⟩
            · skip
              have hx9 : ms[j]? = some (ms[j]'(by first | omega | simp; omega)) := List.getElem?_eq_getElem _
              generalize ms[j]'_ = x9 at hx9
              obtain ⟨id11, of11, cc11, ty11, wr11, ex11, i11, j11, l11, q11⟩ := (hv_ms).at (P := Tryz.prog) (t := 90) Tryz.underlying90 tz58 hx9
              have j11 := (ga9.2 id11 l11).trans j11
              have m11_0 : cc11[of11]? = some (.int .i64 x9.f) := q11 0 (show 0 < 5 by decide)
              have m11_1 : cc11[of11 + 1]? = some (.int .i64 x9.l) := q11 1 (show 1 < 5 by decide)
              have m11_2 : cc11[of11 + 2]? = some (.int .i64 x9.t) := q11 2 (show 2 < 5 by decide)
              have m11_3 : cc11[of11 + 3]? = some (.int .i64 x9.s) := q11 3 (show 3 < 5 by decide)
              have m11_4 : cc11[of11 + 4]? = some (.int .i64 x9.b) := q11 4 (show 4 < 5 by decide)
              obtain ⟨S12, e12, n12, b12, a12⟩ := push_open S9 (.cells [.int .i64 0, .int .i64 0, .int .i64 0, .int .i64 0, .int .i64 0] 58 0 true true)
              have v1_12 := (a12.2 S.next (by omega)).trans bb9_1
              have v11_12 := (a12.2 id11 (by omega)).trans j11
              have ow_13 := ow_o.agree a12
              have g12 : Agree S S12 := ga9.trans a12
              have s12 : E0.same S9 S12 = true := symEnv_same a12
              have ne14 : blkOf (v_o) ≠ some S9.next := ow_o.new (Nat.le_refl _)
              obtain ⟨S15, k15, n15, b15, q15⟩ := st_at (o := 0) (c' := [.int .i64 x9.f, .int .i64 x9.l, .int .i64 x9.t, .int .i64 x9.s, .int .i64 x9.b]) (v := .agg #[.int .i64 x9.f, .int .i64 x9.l, .int .i64 x9.t, .int .i64 x9.s, .int .i64 x9.b]) tz58 b12 rfl rfl (show 0 + 5 ≤ 5 by decide) rfl
              have v1_15 := (q15 S.next (by omega)).trans v1_12
              have v11_15 := (q15 id11 (by omega)).trans v11_12
              have ow_16 := ow_13.frame (by omega) (fun id hid hb => q15 id (fun e => (show blkOf (v_o) ≠ some S9.next from by first | exact ow_13.ne (by omega) | exact ow_13.new (by omega) | assumption) (e ▸ hb)))
              have g15 : Agree S S15 := ⟨by have := (g12).1; omega, fun id hid => (q15 id (by have := (g12).1; omega)).trans ((g12).2 id hid)⟩
              obtain ⟨u17, S17, k17, a17, oo17⟩ := c59 (ks : List K) x9.f x9.l x9.t x9.s x9.b f s l (by first | omega | (simp; omega) | (simp; done) | assumption) S15 (v_ks) (hv_ks.agree g15) (ht.agree g15)
              have l17 := a17.1
              have s17 : E0.same S15 S17 = true := symEnv_same a17
              have v1_17 := (a17.2 S.next (by omega)).trans v1_15
              have v11_17 := (a17.2 id11 (by omega)).trans v11_15
              have v12_17 := (a17.2 S9.next (by omega)).trans b15
              have ow_18 := ow_16.agree a17
              have g17 : Agree S S17 := g15.trans a17
              have p17 := r59_len (ks : List K) x9.f x9.l x9.t x9.s x9.b f s l
              obtain ⟨u19, S19, k19, a19, oo19⟩ := c60 (ks : List K) x9.f x9.l x9.t x9.s x9.b f s l (by first | omega | (simp; omega) | (simp; done) | assumption) S17 (v_ks) (hv_ks.agree g17) (ht.agree g17)
              have l19 := a19.1
              have s19 : E0.same S17 S19 = true := symEnv_same a19
              have v1_19 := (a19.2 S.next (by omega)).trans v1_17
              have v11_19 := (a19.2 id11 (by omega)).trans v11_17
              have v12_19 := (a19.2 S9.next (by omega)).trans v12_17
              have ow_20 := ow_18.agree a19
              have o17_21 := oo17.agree a19
              have g19 : Agree S S19 := g17.trans a19
              have p19 := r60_len (ks : List K) x9.f x9.l x9.t x9.s x9.b f s l (by omega)
              have w22 := (o17_21.rows).len (P := Tryz.prog) (t := 77) Tryz.underlying77
              try simp (disch := first | omega | assumption) only [E0_G, SY, setArgs, off, agreeKind, partVals, vals, allocV, boxed, ldA, rdCells, oneB, aggD, aField, aFieldV, aExtract, eq_self, ne_eq, if_true, if_false, not_false_eq_true, Nat.reduceAdd, Nat.reduceSub, Nat.reduceMul, Nat.reduceLT, Nat.reduceEqDiff, Nat.reduceBEq, reduceIte, Int.reduceEq, Int.reduceLT, Int.reduceLE, reduceCtorEq, TY_EvA8, and_fold, or_fold, not_fold, g9_0, g9_5, g9_9, g9_29, g9_30, g9_31, bb9_1, h3a, h5a, h7a, w8, h10a, i11, j11, m11_0, m11_1, m11_2, m11_3, m11_4, v1_12, v11_12, s12, e12, b12, v1_15, v11_15, k15, b15, k17, s17, v1_17, v11_17, v12_17, k19, s19, v1_19, v11_19, v12_19, w22] at he
              rcases dP ((((r59 (ks : List K) x9.f x9.l x9.t x9.s x9.b f s l).1).length : Int) = 0) with ⟨h23a, h23⟩ | ⟨h23a, h23⟩
              · skip
                have w24 := (oo19.rows).len (P := Tryz.prog) (t := 80) Tryz.underlying80
                try simp (disch := first | omega | assumption) only [E0_G, SY, setArgs, off, agreeKind, partVals, vals, allocV, boxed, ldA, rdCells, oneB, aggD, aField, aFieldV, aExtract, eq_self, ne_eq, if_true, if_false, not_false_eq_true, Nat.reduceAdd, Nat.reduceSub, Nat.reduceMul, Nat.reduceLT, Nat.reduceEqDiff, Nat.reduceBEq, reduceIte, Int.reduceEq, Int.reduceLT, Int.reduceLE, reduceCtorEq, TY_EvA8, and_fold, or_fold, not_fold, g9_0, g9_5, g9_9, g9_29, g9_30, g9_31, bb9_1, h3a, h5a, h7a, w8, h10a, i11, j11, m11_0, m11_1, m11_2, m11_3, m11_4, v1_12, v11_12, s12, e12, b12, v1_15, v11_15, k15, b15, k17, s17, v1_17, v11_17, v12_17, k19, s19, v1_19, v11_19, v12_19, w22, h23a, w24] at he
                rcases dP ((((r60 (ks : List K) x9.f x9.l x9.t x9.s x9.b f s l).1).length : Int) = 0) with ⟨h25a, h25⟩ | ⟨h25a, h25⟩
                · skip
                  have y26 : aBuildSlice Tryz.prog 77 1 [(0, .int .i64 (j : Int))] S19 = some (.slice (some ⟨S19.next, 0, none⟩) 1 1, S19.push (.cells [.int .i64 (j : Int)] 3 1 true true)) := by kernel_rfl
                  obtain ⟨S27, e27, n27, b27, a27⟩ := push_open S19 (.cells [.int .i64 (j : Int)] 3 1 true true)
                  have v1_27 := (a27.2 S.next (by omega)).trans v1_19
                  have v11_27 := (a27.2 id11 (by omega)).trans v11_19
                  have v12_27 := (a27.2 S9.next (by omega)).trans v12_19
                  have ow_28 := ow_20.agree a27
                  have o17_29 := o17_21.agree a27
                  have o19_30 := oo19.agree a27
                  have g27 : Agree S S27 := g19.trans a27
                  have s27 : E0.same S19 S27 = true := symEnv_same a27
                  have ne31 : blkOf (v_o) ≠ some S19.next := ow_20.new (Nat.le_refl _)
                  have ne32 : blkOf (u17) ≠ some S19.next := o17_21.new (Nat.le_refl _)
                  have ne33 : blkOf (u19) ≠ some S19.next := oo19.new (Nat.le_refl _)
                  have o34 : Own 3 S19.next S27 (.slice (some ⟨S19.next, 0, none⟩) 1 1) ([(j : Int)] : List Int) := .inr ⟨_, true, rfl, Nat.le_refl _, by omega, b27⟩
                  obtain ⟨u35, S35, k35, o35, n35, f35, d35⟩ := own_append (P := Tryz.prog) (t := 77) (tx := 77) (n := 0) (v := v_o) ow_28 (o34.rows) (by omega) (by first | omega | (simp; omega) | simp) (by first | omega | (simp; omega) | simp) Tryz.underlying77 Tryz.underlying77 ti3 tv3 rfl tz3
                  have v1_35 := (f35 S.next (by omega) (by first | (simp [blkOf]; done) | exact ow_28.ne (by omega) | exact ow_28.new (by omega) | assumption)).trans v1_27
                  have v12_35 := (f35 S9.next (by omega) (by first | (simp [blkOf]; done) | exact ow_28.ne (by omega) | exact ow_28.new (by omega) | assumption)).trans v12_27
                  have g35 : Agree S S35 := ⟨Nat.le_trans (g27).1 n35, fun id hid => (f35 id (by have := (g27).1; omega) (by first | (simp [blkOf]; done) | exact ow_28.ne (by omega) | assumption)).trans ((g27).2 id hid)⟩
                  have ne36 : blkOf u35 ≠ some S.next := by first | exact o35.ne (by omega) | exact o35.new (by omega) | exact d35 _ (by omega) (by first | (simp [blkOf]; done) | exact ow_28.ne (by omega) | exact ow_28.new (by omega) | assumption)
                  have ne37 : blkOf u35 ≠ some S9.next := by first | exact o35.ne (by omega) | exact o35.new (by omega) | exact d35 _ (by omega) (by first | (simp [blkOf]; done) | exact ow_28.ne (by omega) | exact ow_28.new (by omega) | assumption)
                  have w38 : IntKind.i64.wrap ((j : Int) + 1) = ((j + 1 : Nat) : Int) := by rw [IntWalk.i64_in] <;> omega
                  try simp (disch := first | omega | assumption) only [E0_G, SY, setArgs, off, agreeKind, partVals, vals, allocV, boxed, ldA, rdCells, oneB, aggD, aField, aFieldV, aExtract, eq_self, ne_eq, if_true, if_false, not_false_eq_true, Nat.reduceAdd, Nat.reduceSub, Nat.reduceMul, Nat.reduceLT, Nat.reduceEqDiff, Nat.reduceBEq, reduceIte, Int.reduceEq, Int.reduceLT, Int.reduceLE, reduceCtorEq, TY_EvA8, and_fold, or_fold, not_fold, g9_0, g9_5, g9_9, g9_29, g9_30, g9_31, bb9_1, h3a, h5a, h7a, w8, h10a, i11, j11, m11_0, m11_1, m11_2, m11_3, m11_4, v1_12, v11_12, s12, e12, b12, v1_15, v11_15, k15, b15, k17, s17, v1_17, v11_17, v12_17, k19, s19, v1_19, v11_19, v12_19, w22, h23a, w24, h25a, y26, v1_27, v11_27, v12_27, s27, e27, b27, v1_35, v12_35, k35, w38] at he
                  rw [drop_cons' hx9] at hd9
                  have hf := (show _ = (R68_0 ks ms f s l (ms.drop (j + 1)) (j + 1) (o ++ ([(j : Int)])) : (List Int)) from (if_pos h23).trans ((if_pos h25).trans (rfl))).symm.trans hd9
                  exact .next he (m - 1) (by omega) ⟨(j + 1), u35, o ++ ([(j : Int)]), by first | omega | (simp; omega) | simp, by first | omega | (simp; omega) | simp, by first | omega | (simp; omega) | simp, (by simp only [SY, setArgs, off, agreeKind, partVals, vals, allocV, boxed, ldA, rdCells, oneB, aggD, aField, aFieldV, aExtract, eq_self, ne_eq, if_true, if_false, not_false_eq_true, Nat.reduceAdd, Nat.reduceSub, Nat.reduceMul, Nat.reduceLT, Nat.reduceEqDiff, Nat.reduceBEq, reduceIte, Int.reduceEq, Int.reduceLT, Int.reduceLE, reduceCtorEq, g9_0, g9_5, g9_9, g9_29, g9_30, g9_31] <;> rfl), (by simp only [SY, setArgs, off, agreeKind, partVals, vals, allocV, boxed, ldA, rdCells, oneB, aggD, aField, aFieldV, aExtract, eq_self, ne_eq, if_true, if_false, not_false_eq_true, Nat.reduceAdd, Nat.reduceSub, Nat.reduceMul, Nat.reduceLT, Nat.reduceEqDiff, Nat.reduceBEq, reduceIte, Int.reduceEq, Int.reduceLT, Int.reduceLE, reduceCtorEq, g9_0, g9_5, g9_9, g9_29, g9_30, g9_31] <;> rfl), (by simp only [SY, setArgs, off, agreeKind, partVals, vals, allocV, boxed, ldA, rdCells, oneB, aggD, aField, aFieldV, aExtract, eq_self, ne_eq, if_true, if_false, not_false_eq_true, Nat.reduceAdd, Nat.reduceSub, Nat.reduceMul, Nat.reduceLT, Nat.reduceEqDiff, Nat.reduceBEq, reduceIte, Int.reduceEq, Int.reduceLT, Int.reduceLE, reduceCtorEq, g9_0, g9_5, g9_9, g9_29, g9_30, g9_31] <;> rfl), (by simp only [SY, setArgs, off, agreeKind, partVals, vals, allocV, boxed, ldA, rdCells, oneB, aggD, aField, aFieldV, aExtract, eq_self, ne_eq, if_true, if_false, not_false_eq_true, Nat.reduceAdd, Nat.reduceSub, Nat.reduceMul, Nat.reduceLT, Nat.reduceEqDiff, Nat.reduceBEq, reduceIte, Int.reduceEq, Int.reduceLT, Int.reduceLE, reduceCtorEq, g9_0, g9_5, g9_9, g9_29, g9_30, g9_31] <;> rfl), (by simp only [SY, setArgs, off, agreeKind, partVals, vals, allocV, boxed, ldA, rdCells, oneB, aggD, aField, aFieldV, aExtract, eq_self, ne_eq, if_true, if_false, not_false_eq_true, Nat.reduceAdd, Nat.reduceSub, Nat.reduceMul, Nat.reduceLT, Nat.reduceEqDiff, Nat.reduceBEq, reduceIte, Int.reduceEq, Int.reduceLT, Int.reduceLE, reduceCtorEq, g9_0, g9_5, g9_9, g9_29, g9_30, g9_31] <;> rfl), (by simp only [SY, setArgs, off, agreeKind, partVals, vals, allocV, boxed, ldA, rdCells, oneB, aggD, aField, aFieldV, aExtract, eq_self, ne_eq, if_true, if_false, not_false_eq_true, Nat.reduceAdd, Nat.reduceSub, Nat.reduceMul, Nat.reduceLT, Nat.reduceEqDiff, Nat.reduceBEq, reduceIte, Int.reduceEq, Int.reduceLT, Int.reduceLE, reduceCtorEq, g9_0, g9_5, g9_9, g9_29, g9_30, g9_31] <;> rfl), v1_35, g35, by omega, (o35.low (by omega)), hf⟩
                · skip
                  have w39 : IntKind.i64.wrap ((j : Int) + 1) = ((j + 1 : Nat) : Int) := by rw [IntWalk.i64_in] <;> omega
                  try simp (disch := first | omega | assumption) only [E0_G, SY, setArgs, off, agreeKind, partVals, vals, allocV, boxed, ldA, rdCells, oneB, aggD, aField, aFieldV, aExtract, eq_self, ne_eq, if_true, if_false, not_false_eq_true, Nat.reduceAdd, Nat.reduceSub, Nat.reduceMul, Nat.reduceLT, Nat.reduceEqDiff, Nat.reduceBEq, reduceIte, Int.reduceEq, Int.reduceLT, Int.reduceLE, reduceCtorEq, TY_EvA8, and_fold, or_fold, not_fold, g9_0, g9_5, g9_9, g9_29, g9_30, g9_31, bb9_1, h3a, h5a, h7a, w8, h10a, i11, j11, m11_0, m11_1, m11_2, m11_3, m11_4, v1_12, v11_12, s12, e12, b12, v1_15, v11_15, k15, b15, k17, s17, v1_17, v11_17, v12_17, k19, s19, v1_19, v11_19, v12_19, w22, h23a, w24, h25a, w39] at he
                  rw [drop_cons' hx9] at hd9
                  have hf := (show _ = (R68_0 ks ms f s l (ms.drop (j + 1)) (j + 1) o : (List Int)) from (if_pos h23).trans ((if_neg h25).trans (rfl))).symm.trans hd9
                  exact .next he (m - 1) (by omega) ⟨(j + 1), v_o, o, by first | omega | (simp; omega) | simp, by first | omega | (simp; omega) | simp, by first | omega | (simp; omega) | simp, (by simp only [SY, setArgs, off, agreeKind, partVals, vals, allocV, boxed, ldA, rdCells, oneB, aggD, aField, aFieldV, aExtract, eq_self, ne_eq, if_true, if_false, not_false_eq_true, Nat.reduceAdd, Nat.reduceSub, Nat.reduceMul, Nat.reduceLT, Nat.reduceEqDiff, Nat.reduceBEq, reduceIte, Int.reduceEq, Int.reduceLT, Int.reduceLE, reduceCtorEq, g9_0, g9_5, g9_9, g9_29, g9_30, g9_31] <;> rfl), (by simp only [SY, setArgs, off, agreeKind, partVals, vals, allocV, boxed, ldA, rdCells, oneB, aggD, aField, aFieldV, aExtract, eq_self, ne_eq, if_true, if_false, not_false_eq_true, Nat.reduceAdd, Nat.reduceSub, Nat.reduceMul, Nat.reduceLT, Nat.reduceEqDiff, Nat.reduceBEq, reduceIte, Int.reduceEq, Int.reduceLT, Int.reduceLE, reduceCtorEq, g9_0, g9_5, g9_9, g9_29, g9_30, g9_31] <;> rfl), (by simp only [SY, setArgs, off, agreeKind, partVals, vals, allocV, boxed, ldA, rdCells, oneB, aggD, aField, aFieldV, aExtract, eq_self, ne_eq, if_true, if_false, not_false_eq_true, Nat.reduceAdd, Nat.reduceSub, Nat.reduceMul, Nat.reduceLT, Nat.reduceEqDiff, Nat.reduceBEq, reduceIte, Int.reduceEq, Int.reduceLT, Int.reduceLE, reduceCtorEq, g9_0, g9_5, g9_9, g9_29, g9_30, g9_31] <;> rfl), (by simp only [SY, setArgs, off, agreeKind, partVals, vals, allocV, boxed, ldA, rdCells, oneB, aggD, aField, aFieldV, aExtract, eq_self, ne_eq, if_true, if_false, not_false_eq_true, Nat.reduceAdd, Nat.reduceSub, Nat.reduceMul, Nat.reduceLT, Nat.reduceEqDiff, Nat.reduceBEq, reduceIte, Int.reduceEq, Int.reduceLT, Int.reduceLE, reduceCtorEq, g9_0, g9_5, g9_9, g9_29, g9_30, g9_31] <;> rfl), (by simp only [SY, setArgs, off, agreeKind, partVals, vals, allocV, boxed, ldA, rdCells, oneB, aggD, aField, aFieldV, aExtract, eq_self, ne_eq, if_true, if_false, not_false_eq_true, Nat.reduceAdd, Nat.reduceSub, Nat.reduceMul, Nat.reduceLT, Nat.reduceEqDiff, Nat.reduceBEq, reduceIte, Int.reduceEq, Int.reduceLT, Int.reduceLE, reduceCtorEq, g9_0, g9_5, g9_9, g9_29, g9_30, g9_31] <;> rfl), (by simp only [SY, setArgs, off, agreeKind, partVals, vals, allocV, boxed, ldA, rdCells, oneB, aggD, aField, aFieldV, aExtract, eq_self, ne_eq, if_true, if_false, not_false_eq_true, Nat.reduceAdd, Nat.reduceSub, Nat.reduceMul, Nat.reduceLT, Nat.reduceEqDiff, Nat.reduceBEq, reduceIte, Int.reduceEq, Int.reduceLT, Int.reduceLE, reduceCtorEq, g9_0, g9_5, g9_9, g9_29, g9_30, g9_31] <;> rfl), v1_19, g19, by omega, (ow_20.low (by omega)), hf⟩
              · skip
                have w40 : IntKind.i64.wrap ((j : Int) + 1) = ((j + 1 : Nat) : Int) := by rw [IntWalk.i64_in] <;> omega
                try simp (disch := first | omega | assumption) only [E0_G, SY, setArgs, off, agreeKind, partVals, vals, allocV, boxed, ldA, rdCells, oneB, aggD, aField, aFieldV, aExtract, eq_self, ne_eq, if_true, if_false, not_false_eq_true, Nat.reduceAdd, Nat.reduceSub, Nat.reduceMul, Nat.reduceLT, Nat.reduceEqDiff, Nat.reduceBEq, reduceIte, Int.reduceEq, Int.reduceLT, Int.reduceLE, reduceCtorEq, TY_EvA8, and_fold, or_fold, not_fold, g9_0, g9_5, g9_9, g9_29, g9_30, g9_31, bb9_1, h3a, h5a, h7a, w8, h10a, i11, j11, m11_0, m11_1, m11_2, m11_3, m11_4, v1_12, v11_12, s12, e12, b12, v1_15, v11_15, k15, b15, k17, s17, v1_17, v11_17, v12_17, k19, s19, v1_19, v11_19, v12_19, w22, h23a, w40] at he
                rw [drop_cons' hx9] at hd9
                have hf := (show _ = (R68_0 ks ms f s l (ms.drop (j + 1)) (j + 1) o : (List Int)) from (if_neg h23).trans (rfl)).symm.trans hd9
                exact .next he (m - 1) (by omega) ⟨(j + 1), v_o, o, by first | omega | (simp; omega) | simp, by first | omega | (simp; omega) | simp, by first | omega | (simp; omega) | simp, (by simp only [SY, setArgs, off, agreeKind, partVals, vals, allocV, boxed, ldA, rdCells, oneB, aggD, aField, aFieldV, aExtract, eq_self, ne_eq, if_true, if_false, not_false_eq_true, Nat.reduceAdd, Nat.reduceSub, Nat.reduceMul, Nat.reduceLT, Nat.reduceEqDiff, Nat.reduceBEq, reduceIte, Int.reduceEq, Int.reduceLT, Int.reduceLE, reduceCtorEq, g9_0, g9_5, g9_9, g9_29, g9_30, g9_31] <;> rfl), (by simp only [SY, setArgs, off, agreeKind, partVals, vals, allocV, boxed, ldA, rdCells, oneB, aggD, aField, aFieldV, aExtract, eq_self, ne_eq, if_true, if_false, not_false_eq_true, Nat.reduceAdd, Nat.reduceSub, Nat.reduceMul, Nat.reduceLT, Nat.reduceEqDiff, Nat.reduceBEq, reduceIte, Int.reduceEq, Int.reduceLT, Int.reduceLE, reduceCtorEq, g9_0, g9_5, g9_9, g9_29, g9_30, g9_31] <;> rfl), (by simp only [SY, setArgs, off, agreeKind, partVals, vals, allocV, boxed, ldA, rdCells, oneB, aggD, aField, aFieldV, aExtract, eq_self, ne_eq, if_true, if_false, not_false_eq_true, Nat.reduceAdd, Nat.reduceSub, Nat.reduceMul, Nat.reduceLT, Nat.reduceEqDiff, Nat.reduceBEq, reduceIte, Int.reduceEq, Int.reduceLT, Int.reduceLE, reduceCtorEq, g9_0, g9_5, g9_9, g9_29, g9_30, g9_31] <;> rfl), (by simp only [SY, setArgs, off, agreeKind, partVals, vals, allocV, boxed, ldA, rdCells, oneB, aggD, aField, aFieldV, aExtract, eq_self, ne_eq, if_true, if_false, not_false_eq_true, Nat.reduceAdd, Nat.reduceSub, Nat.reduceMul, Nat.reduceLT, Nat.reduceEqDiff, Nat.reduceBEq, reduceIte, Int.reduceEq, Int.reduceLT, Int.reduceLE, reduceCtorEq, g9_0, g9_5, g9_9, g9_29, g9_30, g9_31] <;> rfl), (by simp only [SY, setArgs, off, agreeKind, partVals, vals, allocV, boxed, ldA, rdCells, oneB, aggD, aField, aFieldV, aExtract, eq_self, ne_eq, if_true, if_false, not_false_eq_true, Nat.reduceAdd, Nat.reduceSub, Nat.reduceMul, Nat.reduceLT, Nat.reduceEqDiff, Nat.reduceBEq, reduceIte, Int.reduceEq, Int.reduceLT, Int.reduceLE, reduceCtorEq, g9_0, g9_5, g9_9, g9_29, g9_30, g9_31] <;> rfl), (by simp only [SY, setArgs, off, agreeKind, partVals, vals, allocV, boxed, ldA, rdCells, oneB, aggD, aField, aFieldV, aExtract, eq_self, ne_eq, if_true, if_false, not_false_eq_true, Nat.reduceAdd, Nat.reduceSub, Nat.reduceMul, Nat.reduceLT, Nat.reduceEqDiff, Nat.reduceBEq, reduceIte, Int.reduceEq, Int.reduceLT, Int.reduceLE, reduceCtorEq, g9_0, g9_5, g9_9, g9_29, g9_30, g9_31] <;> rfl), v1_19, g19, by omega, (ow_20.low (by omega)), hf⟩
            · skip
              try simp (disch := first | omega | assumption) only [E0_G, SY, setArgs, off, agreeKind, partVals, vals, allocV, boxed, ldA, rdCells, oneB, aggD, aField, aFieldV, aExtract, eq_self, ne_eq, if_true, if_false, not_false_eq_true, Nat.reduceAdd, Nat.reduceSub, Nat.reduceMul, Nat.reduceLT, Nat.reduceEqDiff, Nat.reduceBEq, reduceIte, Int.reduceEq, Int.reduceLT, Int.reduceLE, reduceCtorEq, TY_EvA8, and_fold, or_fold, not_fold, g9_0, g9_5, g9_9, g9_29, g9_30, g9_31, bb9_1, h3a, h5a, h7a, w8, h10a] at he
              rw [List.drop_eq_nil_of_le (by omega)] at hd9
              have hf := (show _ = (o : (List Int)) from rfl).symm.trans hd9
              exact .exit he ⟨rfl, ⟨j, v_o, o, (by simp only [SY, setArgs, off, agreeKind, partVals, vals, allocV, boxed, ldA, rdCells, oneB, aggD, aField, aFieldV, aExtract, eq_self, ne_eq, if_true, if_false, not_false_eq_true, Nat.reduceAdd, Nat.reduceSub, Nat.reduceMul, Nat.reduceLT, Nat.reduceEqDiff, Nat.reduceBEq, reduceIte, Int.reduceEq, Int.reduceLT, Int.reduceLE, reduceCtorEq, g9_0, g9_5, g9_9, g9_29, g9_30, g9_31] <;> rfl), bb9_1, ga9, by omega, (ow_o.low (by omega)), by first | omega | assumption | simp, by first | omega | assumption | simp, hf.symm⟩⟩)
        obtain ⟨rfl, j, v_o, o, ge9_9, be9_1, ge9, gm9, oe_o9, hj9_0, hj9_1, hR9⟩ := hQ9
        obtain rfl : o = R68_0 ks ms f s l ms 0 ([]) := hR9.symm
        try simp (disch := first | omega | assumption) only [E0_G, SY, setArgs, off, agreeKind, partVals, vals, allocV, boxed, ldA, rdCells, oneB, aggD, aField, aFieldV, aExtract, eq_self, ne_eq, if_true, if_false, not_false_eq_true, Nat.reduceAdd, Nat.reduceSub, Nat.reduceMul, Nat.reduceLT, Nat.reduceEqDiff, Nat.reduceBEq, reduceIte, Int.reduceEq, Int.reduceLT, Int.reduceLE, reduceCtorEq, TY_EvA8, and_fold, or_fold, not_fold, h3a, h5a, h7a, w8, ge9_9, be9_1] at hz
        have hr : r68 ks ms f s l = (R68_0 ks ms f s l ms 0 ([]), 0) := (if_pos h3).trans ((if_pos h5).trans ((if_pos h7).trans (rfl)))
        exact ⟨v_o, S9e, by first | (rw [hr]; exact hz.symm) | exact hz.symm, ge9, by rw [hr]; exact oe_o9.low (by omega)⟩
      · skip
        try simp (disch := first | omega | assumption) only [E0_G, SY, setArgs, off, agreeKind, partVals, vals, allocV, boxed, ldA, rdCells, oneB, aggD, aField, aFieldV, aExtract, eq_self, ne_eq, if_true, if_false, not_false_eq_true, Nat.reduceAdd, Nat.reduceSub, Nat.reduceMul, Nat.reduceLT, Nat.reduceEqDiff, Nat.reduceBEq, reduceIte, Int.reduceEq, Int.reduceLT, Int.reduceLE, reduceCtorEq, TY_EvA8, and_fold, or_fold, not_fold, s1, e1, b1, k2, s2, v1_2, h3a, k4, s4, v1_4, h5a, k6, s6, v1_6, h7a] at hz
        have hr : r68 ks ms f s l = ([], (r121 (ms : List Mk))) := (if_pos h3).trans ((if_pos h5).trans ((if_neg h7).trans (rfl)))
        exact ⟨.slice none 0 0, S6, by first | (rw [hr]; exact hz.symm) | exact hz.symm, g6, by rw [hr]; exact Own.nil _ _ _⟩
    · skip
      try simp (disch := first | omega | assumption) only [E0_G, SY, setArgs, off, agreeKind, partVals, vals, allocV, boxed, ldA, rdCells, oneB, aggD, aField, aFieldV, aExtract, eq_self, ne_eq, if_true, if_false, not_false_eq_true, Nat.reduceAdd, Nat.reduceSub, Nat.reduceMul, Nat.reduceLT, Nat.reduceEqDiff, Nat.reduceBEq, reduceIte, Int.reduceEq, Int.reduceLT, Int.reduceLE, reduceCtorEq, TY_EvA8, and_fold, or_fold, not_fold, s1, e1, b1, k2, s2, v1_2, h3a, k4, s4, v1_4, h5a] at hz
      have hr : r68 ks ms f s l = ([], 1) := (if_pos h3).trans ((if_neg h5).trans (rfl))
      exact ⟨.slice none 0 0, S4, by first | (rw [hr]; exact hz.symm) | exact hz.symm, g4, by rw [hr]; exact Own.nil _ _ _⟩
  · skip
    try simp (disch := first | omega | assumption) only [E0_G, SY, setArgs, off, agreeKind, partVals, vals, allocV, boxed, ldA, rdCells, oneB, aggD, aField, aFieldV, aExtract, eq_self, ne_eq, if_true, if_false, not_false_eq_true, Nat.reduceAdd, Nat.reduceSub, Nat.reduceMul, Nat.reduceLT, Nat.reduceEqDiff, Nat.reduceBEq, reduceIte, Int.reduceEq, Int.reduceLT, Int.reduceLE, reduceCtorEq, TY_EvA8, and_fold, or_fold, not_fold, s1, e1, b1, k2, s2, v1_2, h3a] at hz
    have hr : r68 ks ms f s l = ([], 1) := (if_neg h3).trans (rfl)
    exact ⟨.slice none 0 0, S2, by first | (rw [hr]; exact hz.symm) | exact hz.symm, g2, by rw [hr]; exact Own.nil _ _ _⟩

def R69_0 (ks : List K) (ms : List Mk) (f s l : Int)  : List Mk → Nat → List Int → Sum (Int) ((List Int))
  | [], j, o => .inr o
  | x8 :: l', j, o => (if MarkOk x8.f x8.l x8.t x8.s x8.b then (if ((r65 (ks : List K) x8.f x8.l x8.t x8.s x8.b f s l).length : Int) = 0 then (if ((r67 (ks : List K) x8.f x8.l x8.t x8.s x8.b f s l).length : Int) = 0 then R69_0 ks ms f s l l' (j + 1) (o ++ ([(j : Int)])) else R69_0 ks ms f s l l' (j + 1) o) else R69_0 ks ms f s l l' (j + 1) o) else .inl 1)
def r69 (ks : List K) (ms : List Mk) (f s l : Int) : List Int × Int := (if bunch ks = true then (if InkOk f s l then (if 60 < (ms.length : Int) then ([], 2) else (onSum (R69_0 ks ms f s l ms 0 ([])) (fun (r7 : Int) => ([], r7)) (fun (o : (List Int)) => (o, 0)))) else ([], 1)) else ([], 1))
set_option maxHeartbeats 2000000 in
theorem c69 (ks : List K) (ms : List Mk) (f s l : Int) (hn : ks.length ≤ 60) (hm : ms.length ≤ 80) (S : AS) (v_ks : Value) (hv_ks : Lst S v_ks ks) (v_ms : Value) (hv_ms : Lst S v_ms ms) :
    ∃ v' S', (evL Tryz.prog E0).call 69 #[v_ks, v_ms, .agg #[.int .i64 f, .int .i64 s, .int .i64 l]] S = some (.tuple #[v', .int .i64 (r69 ks ms f s l).2], S') ∧ Agree S S' ∧ Own 3 S.next S' v' (r69 ks ms f s l).1 := by
  generalize hz : (evL Tryz.prog E0).call 69 _ _ = z
  rw [L_call, evCall_said rfl Tryz.func69 rfl (by decide) Tryz.ntmps69 Tryz.results69] at hz
  obtain ⟨S1, e1, n1, b1, a1⟩ := push_open S (.cells [.int .i64 f, .int .i64 s, .int .i64 l] 45 0 true true)
  have g1 : Agree S S1 := a1
  have s1 : E0.same S S1 = true := symEnv_same a1
  obtain ⟨S2, k2, a2⟩ := c63 (ks : List K) (by omega) S1 (v_ks) (hv_ks.agree g1)
  have l2 := a2.1
  have s2 : E0.same S1 S2 = true := symEnv_same a2
  have v1_2 := (a2.2 S.next (by omega)).trans b1
  have g2 : Agree S S2 := g1.trans a2
  obtain ⟨S3, k3, a3⟩ := c37 f s l S2  
  have l3 := a3.1
  have s3 : E0.same S2 S3 = true := symEnv_same a3
  have v1_3 := (a3.2 S.next (by omega)).trans v1_2
  have g3 : Agree S S3 := g2.trans a3
  try simp (disch := first | omega | assumption) only [E0_G, SY, setArgs, off, agreeKind, partVals, vals, allocV, boxed, ldA, rdCells, oneB, aggD, aField, aFieldV, aExtract, eq_self, ne_eq, if_true, if_false, not_false_eq_true, Nat.reduceAdd, Nat.reduceSub, Nat.reduceMul, Nat.reduceLT, Nat.reduceEqDiff, Nat.reduceBEq, reduceIte, Int.reduceEq, Int.reduceLT, Int.reduceLE, reduceCtorEq, TY_EvA8, and_fold, or_fold, not_fold, s1, e1, b1, k2, s2, v1_2, k3, s3, v1_3] at hz
  rcases dB (bunch ks) with ⟨h4a, h4⟩ | ⟨h4a, h4⟩
  · skip
    try simp (disch := first | omega | assumption) only [E0_G, SY, setArgs, off, agreeKind, partVals, vals, allocV, boxed, ldA, rdCells, oneB, aggD, aField, aFieldV, aExtract, eq_self, ne_eq, if_true, if_false, not_false_eq_true, Nat.reduceAdd, Nat.reduceSub, Nat.reduceMul, Nat.reduceLT, Nat.reduceEqDiff, Nat.reduceBEq, reduceIte, Int.reduceEq, Int.reduceLT, Int.reduceLE, reduceCtorEq, TY_EvA8, and_fold, or_fold, not_fold, s1, e1, b1, k2, s2, v1_2, k3, s3, v1_3, h4a] at hz
    rcases dP (InkOk f s l) with ⟨h5a, h5⟩ | ⟨h5a, h5⟩
    · skip
      have w6 := (hv_ms.agree g3).len (P := Tryz.prog) (t := 90) Tryz.underlying90
      try simp (disch := first | omega | assumption) only [E0_G, SY, setArgs, off, agreeKind, partVals, vals, allocV, boxed, ldA, rdCells, oneB, aggD, aField, aFieldV, aExtract, eq_self, ne_eq, if_true, if_false, not_false_eq_true, Nat.reduceAdd, Nat.reduceSub, Nat.reduceMul, Nat.reduceLT, Nat.reduceEqDiff, Nat.reduceBEq, reduceIte, Int.reduceEq, Int.reduceLT, Int.reduceLE, reduceCtorEq, TY_EvA8, and_fold, or_fold, not_fold, s1, e1, b1, k2, s2, v1_2, k3, s3, v1_3, h4a, h5a, w6] at hz
      rcases dP (60 < (ms.length : Int)) with ⟨h7a, h7⟩ | ⟨h7a, h7⟩
      · skip
        try simp (disch := first | omega | assumption) only [E0_G, SY, setArgs, off, agreeKind, partVals, vals, allocV, boxed, ldA, rdCells, oneB, aggD, aField, aFieldV, aExtract, eq_self, ne_eq, if_true, if_false, not_false_eq_true, Nat.reduceAdd, Nat.reduceSub, Nat.reduceMul, Nat.reduceLT, Nat.reduceEqDiff, Nat.reduceBEq, reduceIte, Int.reduceEq, Int.reduceLT, Int.reduceLE, reduceCtorEq, TY_EvA8, and_fold, or_fold, not_fold, s1, e1, b1, k2, s2, v1_2, k3, s3, v1_3, h4a, h5a, w6, h7a] at hz
        have hr : r69 ks ms f s l = ([], 2) := (if_pos h4).trans ((if_pos h5).trans ((if_pos h7).trans (rfl)))
        exact ⟨.slice none 0 0, S3, by first | (rw [hr]; exact hz.symm) | exact hz.symm, g3, by rw [hr]; exact Own.nil _ _ _⟩
      · skip
        try simp (disch := first | omega | assumption) only [E0_G, SY, setArgs, off, agreeKind, partVals, vals, allocV, boxed, ldA, rdCells, oneB, aggD, aField, aFieldV, aExtract, eq_self, ne_eq, if_true, if_false, not_false_eq_true, Nat.reduceAdd, Nat.reduceSub, Nat.reduceMul, Nat.reduceLT, Nat.reduceEqDiff, Nat.reduceBEq, reduceIte, Int.reduceEq, Int.reduceLT, Int.reduceLE, reduceCtorEq, TY_EvA8, and_fold, or_fold, not_fold, s1, e1, b1, k2, s2, v1_2, k3, s3, v1_3, h4a, h5a, w6, h7a] at hz
        generalize hL8 : Rec.loop _ _ _ _ = L8 at hz
        obtain ⟨x8, t8, S8e, rfl, hQ8⟩ := loop_met hL8 (fun m t S' => ∃ (j : Nat) (v_o : Value) (o : List Int), m + j = ms.length ∧ o.length ≤ j ∧ j ≤ ms.length ∧ t.get 0 = some (v_ks) ∧ t.get 1 = some (v_ms) ∧ t.get 5 = some (.pointer (some ⟨S.next, 0, none⟩)) ∧ t.get 10 = some (v_o) ∧ t.get 11 = some (.int .i64 (j : Int)) ∧ S'.heap.get S.next = some (.cells [.int .i64 f, .int .i64 s, .int .i64 l] 45 0 true true) ∧ Agree S S' ∧ S3.next ≤ S'.next ∧ Own 3 S3.next S' v_o o ∧ R69_0 ks ms f s l (ms.drop j) j o = R69_0 ks ms f s l ms 0 ([]))
          (fun x t S' => (x = .exit 0 ∧ ∃ (j : Nat) (v_o : Value) (o : List Int), t.get 10 = some (v_o) ∧ S'.heap.get S.next = some (.cells [.int .i64 f, .int .i64 s, .int .i64 l] 45 0 true true) ∧ Agree S S' ∧ S3.next ≤ S'.next ∧ Own 3 S3.next S' v_o o ∧ o.length ≤ j ∧ j ≤ ms.length ∧ R69_0 ks ms f s l ms 0 ([]) = .inr o) ∨ (x = .ret ∧ ∃ (r7 : Int), t.get 7 = some (.int .i64 r7) ∧ t.get 6 = some (.slice none 0 0) ∧ Agree S S' ∧ R69_0 ks ms f s l ms 0 ([]) = .inl (r7))) (ms.length - 0) ⟨0, .slice none 0 0, [], by first | rfl | omega | (simp; omega) | simp, by first | rfl | omega | (simp; omega) | simp, by first | rfl | omega | (simp; omega) | simp, by simp only [SY, setArgs, off, agreeKind, partVals, vals, allocV, boxed, ldA, rdCells, oneB, aggD, aField, aFieldV, aExtract, eq_self, ne_eq, if_true, if_false, not_false_eq_true, Nat.reduceAdd, Nat.reduceSub, Nat.reduceMul, Nat.reduceLT, Nat.reduceEqDiff, Nat.reduceBEq, reduceIte, Int.reduceEq, Int.reduceLT, Int.reduceLE, reduceCtorEq] <;> rfl, by simp only [SY, setArgs, off, agreeKind, partVals, vals, allocV, boxed, ldA, rdCells, oneB, aggD, aField, aFieldV, aExtract, eq_self, ne_eq, if_true, if_false, not_false_eq_true, Nat.reduceAdd, Nat.reduceSub, Nat.reduceMul, Nat.reduceLT, Nat.reduceEqDiff, Nat.reduceBEq, reduceIte, Int.reduceEq, Int.reduceLT, Int.reduceLE, reduceCtorEq] <;> rfl, by simp only [SY, setArgs, off, agreeKind, partVals, vals, allocV, boxed, ldA, rdCells, oneB, aggD, aField, aFieldV, aExtract, eq_self, ne_eq, if_true, if_false, not_false_eq_true, Nat.reduceAdd, Nat.reduceSub, Nat.reduceMul, Nat.reduceLT, Nat.reduceEqDiff, Nat.reduceBEq, reduceIte, Int.reduceEq, Int.reduceLT, Int.reduceLE, reduceCtorEq] <;> rfl, by simp only [SY, setArgs, off, agreeKind, partVals, vals, allocV, boxed, ldA, rdCells, oneB, aggD, aField, aFieldV, aExtract, eq_self, ne_eq, if_true, if_false, not_false_eq_true, Nat.reduceAdd, Nat.reduceSub, Nat.reduceMul, Nat.reduceLT, Nat.reduceEqDiff, Nat.reduceBEq, reduceIte, Int.reduceEq, Int.reduceLT, Int.reduceLE, reduceCtorEq] <;> rfl, by simp only [SY, setArgs, off, agreeKind, partVals, vals, allocV, boxed, ldA, rdCells, oneB, aggD, aField, aFieldV, aExtract, eq_self, ne_eq, if_true, if_false, not_false_eq_true, Nat.reduceAdd, Nat.reduceSub, Nat.reduceMul, Nat.reduceLT, Nat.reduceEqDiff, Nat.reduceBEq, reduceIte, Int.reduceEq, Int.reduceLT, Int.reduceLE, reduceCtorEq] <;> rfl, v1_3, g3, Nat.le_refl _, Own.nil _ _ _, rfl⟩ (by
            rintro m t S8 ⟨j, v_o, o, hi8_0, hi8_1, hi8_2, g8_0, g8_1, g8_5, g8_10, g8_11, bb8_1, ga8, gn8, ow_o, hd8⟩
            refine .run fun z he => ?_
            have w9 := (hv_ms.agree ga8).len (P := Tryz.prog) (t := 90) Tryz.underlying90
            try simp (disch := first | omega | assumption) only [E0_G, SY, setArgs, off, agreeKind, partVals, vals, allocV, boxed, ldA, rdCells, oneB, aggD, aField, aFieldV, aExtract, eq_self, ne_eq, if_true, if_false, not_false_eq_true, Nat.reduceAdd, Nat.reduceSub, Nat.reduceMul, Nat.reduceLT, Nat.reduceEqDiff, Nat.reduceBEq, reduceIte, Int.reduceEq, Int.reduceLT, Int.reduceLE, reduceCtorEq, TY_EvA8, and_fold, or_fold, not_fold, g8_0, g8_1, g8_5, g8_10, g8_11, bb8_1, h4a, h5a, w6, h7a, w9] at he
            rcases dP ((j : Int) < (ms.length : Int)) with ⟨h10a, h10⟩ | ⟨h10a, h10⟩
            · skip
              have hx8 : ms[j]? = some (ms[j]'(by first | omega | simp; omega)) := List.getElem?_eq_getElem _
              generalize ms[j]'_ = x8 at hx8
              obtain ⟨id11, of11, cc11, ty11, wr11, ex11, i11, j11, l11, q11⟩ := (hv_ms).at (P := Tryz.prog) (t := 90) Tryz.underlying90 tz58 hx8
              have j11 := (ga8.2 id11 l11).trans j11
              have m11_0 : cc11[of11]? = some (.int .i64 x8.f) := q11 0 (show 0 < 5 by decide)
              have m11_1 : cc11[of11 + 1]? = some (.int .i64 x8.l) := q11 1 (show 1 < 5 by decide)
              have m11_2 : cc11[of11 + 2]? = some (.int .i64 x8.t) := q11 2 (show 2 < 5 by decide)
              have m11_3 : cc11[of11 + 3]? = some (.int .i64 x8.s) := q11 3 (show 3 < 5 by decide)
              have m11_4 : cc11[of11 + 4]? = some (.int .i64 x8.b) := q11 4 (show 4 < 5 by decide)
              obtain ⟨S12, k12, a12⟩ := c43 x8.f x8.l x8.t x8.s x8.b S8  
              have l12 := a12.1
              have s12 : E0.same S8 S12 = true := symEnv_same a12
              have v1_12 := (a12.2 S.next (by omega)).trans bb8_1
              have v11_12 := (a12.2 id11 (by omega)).trans j11
              have ow_13 := ow_o.agree a12
              have g12 : Agree S S12 := ga8.trans a12
              try simp (disch := first | omega | assumption) only [E0_G, SY, setArgs, off, agreeKind, partVals, vals, allocV, boxed, ldA, rdCells, oneB, aggD, aField, aFieldV, aExtract, eq_self, ne_eq, if_true, if_false, not_false_eq_true, Nat.reduceAdd, Nat.reduceSub, Nat.reduceMul, Nat.reduceLT, Nat.reduceEqDiff, Nat.reduceBEq, reduceIte, Int.reduceEq, Int.reduceLT, Int.reduceLE, reduceCtorEq, TY_EvA8, and_fold, or_fold, not_fold, g8_0, g8_1, g8_5, g8_10, g8_11, bb8_1, h4a, h5a, w6, h7a, w9, h10a, i11, j11, m11_0, m11_1, m11_2, m11_3, m11_4, k12, s12, v1_12, v11_12] at he
              rcases dP (MarkOk x8.f x8.l x8.t x8.s x8.b) with ⟨h14a, h14⟩ | ⟨h14a, h14⟩
              · skip
                try simp (disch := first | omega | assumption) only [E0_G, SY, setArgs, off, agreeKind, partVals, vals, allocV, boxed, ldA, rdCells, oneB, aggD, aField, aFieldV, aExtract, eq_self, ne_eq, if_true, if_false, not_false_eq_true, Nat.reduceAdd, Nat.reduceSub, Nat.reduceMul, Nat.reduceLT, Nat.reduceEqDiff, Nat.reduceBEq, reduceIte, Int.reduceEq, Int.reduceLT, Int.reduceLE, reduceCtorEq, TY_EvA8, and_fold, or_fold, not_fold, g8_0, g8_1, g8_5, g8_10, g8_11, bb8_1, h4a, h5a, w6, h7a, w9, h10a, i11, j11, m11_0, m11_1, m11_2, m11_3, m11_4, k12, s12, v1_12, v11_12, h14a] at he
                rw [code_draws _ _ _ (by kernel_rfl)] at he
                generalize hnd15 : needy _ = nd15 at he
                obtain ⟨id16, of16, cc16, ty16, wr16, ex16, i16, j16, l16, q16⟩ := (hv_ms).at (P := Tryz.prog) (t := 90) Tryz.underlying90 tz58 hx8
                have j16 := (g12.2 id16 l16).trans j16
                have m16_0 : cc16[of16]? = some (.int .i64 x8.f) := q16 0 (show 0 < 5 by decide)
                have m16_1 : cc16[of16 + 1]? = some (.int .i64 x8.l) := q16 1 (show 1 < 5 by decide)
                have m16_2 : cc16[of16 + 2]? = some (.int .i64 x8.t) := q16 2 (show 2 < 5 by decide)
                have m16_3 : cc16[of16 + 3]? = some (.int .i64 x8.s) := q16 3 (show 3 < 5 by decide)
                have m16_4 : cc16[of16 + 4]? = some (.int .i64 x8.b) := q16 4 (show 4 < 5 by decide)
                obtain ⟨u17, S17, k17, a17, oo17⟩ := c65 (ks : List K) x8.f x8.l x8.t x8.s x8.b f s l (by first | omega | (simp; omega) | (simp; done) | assumption) S12 (v_ks) (hv_ks.agree g12) 
                have l17 := a17.1
                have s17 : E0.same S12 S17 = true := symEnv_same a17
                have v1_17 := (a17.2 S.next (by omega)).trans v1_12
                have v11_17 := (a17.2 id11 (by omega)).trans v11_12
                have v16_17 := (a17.2 id16 (by omega)).trans j16
                have ow_18 := ow_13.agree a17
                have g17 : Agree S S17 := g12.trans a17
                have w19 := (oo17.rows).len (P := Tryz.prog) (t := 77) Tryz.underlying77
                try simp (disch := first | omega | assumption) only [E0_G, SY, setArgs, off, agreeKind, partVals, vals, allocV, boxed, ldA, rdCells, oneB, aggD, aField, aFieldV, aExtract, eq_self, ne_eq, if_true, if_false, not_false_eq_true, Nat.reduceAdd, Nat.reduceSub, Nat.reduceMul, Nat.reduceLT, Nat.reduceEqDiff, Nat.reduceBEq, reduceIte, Int.reduceEq, Int.reduceLT, Int.reduceLE, reduceCtorEq, TY_EvA8, and_fold, or_fold, not_fold, g8_0, g8_1, g8_5, g8_10, g8_11, bb8_1, h4a, h5a, w6, h7a, w9, h10a, i11, j11, m11_0, m11_1, m11_2, m11_3, m11_4, k12, s12, v1_12, v11_12, h14a, store_agree, store_refl E0_same, i16, j16, m16_0, m16_1, m16_2, m16_3, m16_4, k17, s17, v1_17, v11_17, v16_17, w19] at he
                rcases dP (((r65 (ks : List K) x8.f x8.l x8.t x8.s x8.b f s l).length : Int) = 0) with ⟨h20a, h20⟩ | ⟨h20a, h20⟩
                · skip
                  obtain ⟨id21, of21, cc21, ty21, wr21, ex21, i21, j21, l21, q21⟩ := (hv_ms).at (P := Tryz.prog) (t := 90) Tryz.underlying90 tz58 hx8
                  have j21 := (g17.2 id21 l21).trans j21
                  have m21_0 : cc21[of21]? = some (.int .i64 x8.f) := q21 0 (show 0 < 5 by decide)
                  have m21_1 : cc21[of21 + 1]? = some (.int .i64 x8.l) := q21 1 (show 1 < 5 by decide)
                  have m21_2 : cc21[of21 + 2]? = some (.int .i64 x8.t) := q21 2 (show 2 < 5 by decide)
                  have m21_3 : cc21[of21 + 3]? = some (.int .i64 x8.s) := q21 3 (show 3 < 5 by decide)
                  have m21_4 : cc21[of21 + 4]? = some (.int .i64 x8.b) := q21 4 (show 4 < 5 by decide)
                  obtain ⟨u22, S22, k22, a22, oo22⟩ := c67 (ks : List K) x8.f x8.l x8.t x8.s x8.b f s l (by first | omega | (simp; omega) | (simp; done) | assumption) S17 (v_ks) (hv_ks.agree g17) 
                  have l22 := a22.1
                  have s22 : E0.same S17 S22 = true := symEnv_same a22
                  have v1_22 := (a22.2 S.next (by omega)).trans v1_17
                  have v11_22 := (a22.2 id11 (by omega)).trans v11_17
                  have v16_22 := (a22.2 id16 (by omega)).trans v16_17
                  have v21_22 := (a22.2 id21 (by omega)).trans j21
                  have ow_23 := ow_18.agree a22
                  have o17_24 := oo17.agree a22
                  have g22 : Agree S S22 := g17.trans a22
                  have w25 := (oo22.rows).len (P := Tryz.prog) (t := 80) Tryz.underlying80
                  try simp (disch := first | omega | assumption) only [E0_G, SY, setArgs, off, agreeKind, partVals, vals, allocV, boxed, ldA, rdCells, oneB, aggD, aField, aFieldV, aExtract, eq_self, ne_eq, if_true, if_false, not_false_eq_true, Nat.reduceAdd, Nat.reduceSub, Nat.reduceMul, Nat.reduceLT, Nat.reduceEqDiff, Nat.reduceBEq, reduceIte, Int.reduceEq, Int.reduceLT, Int.reduceLE, reduceCtorEq, TY_EvA8, and_fold, or_fold, not_fold, g8_0, g8_1, g8_5, g8_10, g8_11, bb8_1, h4a, h5a, w6, h7a, w9, h10a, i11, j11, m11_0, m11_1, m11_2, m11_3, m11_4, k12, s12, v1_12, v11_12, h14a, store_agree, store_refl E0_same, i16, j16, m16_0, m16_1, m16_2, m16_3, m16_4, k17, s17, v1_17, v11_17, v16_17, w19, h20a, i21, j21, m21_0, m21_1, m21_2, m21_3, m21_4, k22, s22, v1_22, v11_22, v16_22, v21_22, w25] at he
                  rcases dP (((r67 (ks : List K) x8.f x8.l x8.t x8.s x8.b f s l).length : Int) = 0) with ⟨h26a, h26⟩ | ⟨h26a, h26⟩
                  · skip
                    have y27 : aBuildSlice Tryz.prog 77 1 [(0, .int .i64 (j : Int))] S22 = some (.slice (some ⟨S22.next, 0, none⟩) 1 1, S22.push (.cells [.int .i64 (j : Int)] 3 1 true true)) := by kernel_rfl
                    obtain ⟨S28, e28, n28, b28, a28⟩ := push_open S22 (.cells [.int .i64 (j : Int)] 3 1 true true)
                    have v1_28 := (a28.2 S.next (by omega)).trans v1_22
                    have v11_28 := (a28.2 id11 (by omega)).trans v11_22
                    have v16_28 := (a28.2 id16 (by omega)).trans v16_22
                    have v21_28 := (a28.2 id21 (by omega)).trans v21_22
                    have ow_29 := ow_23.agree a28
                    have o17_30 := o17_24.agree a28
                    have o22_31 := oo22.agree a28
                    have g28 : Agree S S28 := g22.trans a28
                    have s28 : E0.same S22 S28 = true := symEnv_same a28
                    have ne32 : blkOf (v_o) ≠ some S22.next := ow_23.new (Nat.le_refl _)
                    have ne33 : blkOf (u17) ≠ some S22.next := o17_24.new (Nat.le_refl _)
                    have ne34 : blkOf (u22) ≠ some S22.next := oo22.new (Nat.le_refl _)
                    have o35 : Own 3 S22.next S28 (.slice (some ⟨S22.next, 0, none⟩) 1 1) ([(j : Int)] : List Int) := .inr ⟨_, true, rfl, Nat.le_refl _, by omega, b28⟩
                    obtain ⟨u36, S36, k36, o36, n36, f36, d36⟩ := own_append (P := Tryz.prog) (t := 77) (tx := 77) (n := 0) (v := v_o) ow_29 (o35.rows) (by omega) (by first | omega | (simp; omega) | simp) (by first | omega | (simp; omega) | simp) Tryz.underlying77 Tryz.underlying77 ti3 tv3 rfl tz3
                    have v1_36 := (f36 S.next (by omega) (by first | (simp [blkOf]; done) | exact ow_29.ne (by omega) | exact ow_29.new (by omega) | assumption)).trans v1_28
                    have g36 : Agree S S36 := ⟨Nat.le_trans (g28).1 n36, fun id hid => (f36 id (by have := (g28).1; omega) (by first | (simp [blkOf]; done) | exact ow_29.ne (by omega) | assumption)).trans ((g28).2 id hid)⟩
                    have ne37 : blkOf u36 ≠ some S.next := by first | exact o36.ne (by omega) | exact o36.new (by omega) | exact d36 _ (by omega) (by first | (simp [blkOf]; done) | exact ow_29.ne (by omega) | exact ow_29.new (by omega) | assumption)
                    have w38 : IntKind.i64.wrap ((j : Int) + 1) = ((j + 1 : Nat) : Int) := by rw [IntWalk.i64_in] <;> omega
                    try simp (disch := first | omega | assumption) only [E0_G, SY, setArgs, off, agreeKind, partVals, vals, allocV, boxed, ldA, rdCells, oneB, aggD, aField, aFieldV, aExtract, eq_self, ne_eq, if_true, if_false, not_false_eq_true, Nat.reduceAdd, Nat.reduceSub, Nat.reduceMul, Nat.reduceLT, Nat.reduceEqDiff, Nat.reduceBEq, reduceIte, Int.reduceEq, Int.reduceLT, Int.reduceLE, reduceCtorEq, TY_EvA8, and_fold, or_fold, not_fold, g8_0, g8_1, g8_5, g8_10, g8_11, bb8_1, h4a, h5a, w6, h7a, w9, h10a, i11, j11, m11_0, m11_1, m11_2, m11_3, m11_4, k12, s12, v1_12, v11_12, h14a, store_agree, store_refl E0_same, i16, j16, m16_0, m16_1, m16_2, m16_3, m16_4, k17, s17, v1_17, v11_17, v16_17, w19, h20a, i21, j21, m21_0, m21_1, m21_2, m21_3, m21_4, k22, s22, v1_22, v11_22, v16_22, v21_22, w25, h26a, y27, v1_28, v11_28, v16_28, v21_28, s28, e28, b28, v1_36, k36, w38] at he
                    rw [drop_cons' hx8] at hd8
                    have hf := (show _ = (R69_0 ks ms f s l (ms.drop (j + 1)) (j + 1) (o ++ ([(j : Int)])) : Sum (Int) ((List Int))) from (if_pos h14).trans ((if_pos h20).trans ((if_pos h26).trans (rfl)))).symm.trans hd8
                    exact .next he (m - 1) (by omega) ⟨(j + 1), u36, o ++ ([(j : Int)]), by first | omega | (simp; omega) | simp, by first | omega | (simp; omega) | simp, by first | omega | (simp; omega) | simp, (by simp only [SY, setArgs, off, agreeKind, partVals, vals, allocV, boxed, ldA, rdCells, oneB, aggD, aField, aFieldV, aExtract, eq_self, ne_eq, if_true, if_false, not_false_eq_true, Nat.reduceAdd, Nat.reduceSub, Nat.reduceMul, Nat.reduceLT, Nat.reduceEqDiff, Nat.reduceBEq, reduceIte, Int.reduceEq, Int.reduceLT, Int.reduceLE, reduceCtorEq, g8_0, g8_1, g8_5, g8_10, g8_11] <;> rfl), (by simp only [SY, setArgs, off, agreeKind, partVals, vals, allocV, boxed, ldA, rdCells, oneB, aggD, aField, aFieldV, aExtract, eq_self, ne_eq, if_true, if_false, not_false_eq_true, Nat.reduceAdd, Nat.reduceSub, Nat.reduceMul, Nat.reduceLT, Nat.reduceEqDiff, Nat.reduceBEq, reduceIte, Int.reduceEq, Int.reduceLT, Int.reduceLE, reduceCtorEq, g8_0, g8_1, g8_5, g8_10, g8_11] <;> rfl), (by simp only [SY, setArgs, off, agreeKind, partVals, vals, allocV, boxed, ldA, rdCells, oneB, aggD, aField, aFieldV, aExtract, eq_self, ne_eq, if_true, if_false, not_false_eq_true, Nat.reduceAdd, Nat.reduceSub, Nat.reduceMul, Nat.reduceLT, Nat.reduceEqDiff, Nat.reduceBEq, reduceIte, Int.reduceEq, Int.reduceLT, Int.reduceLE, reduceCtorEq, g8_0, g8_1, g8_5, g8_10, g8_11] <;> rfl), (by simp only [SY, setArgs, off, agreeKind, partVals, vals, allocV, boxed, ldA, rdCells, oneB, aggD, aField, aFieldV, aExtract, eq_self, ne_eq, if_true, if_false, not_false_eq_true, Nat.reduceAdd, Nat.reduceSub, Nat.reduceMul, Nat.reduceLT, Nat.reduceEqDiff, Nat.reduceBEq, reduceIte, Int.reduceEq, Int.reduceLT, Int.reduceLE, reduceCtorEq, g8_0, g8_1, g8_5, g8_10, g8_11] <;> rfl), (by simp only [SY, setArgs, off, agreeKind, partVals, vals, allocV, boxed, ldA, rdCells, oneB, aggD, aField, aFieldV, aExtract, eq_self, ne_eq, if_true, if_false, not_false_eq_true, Nat.reduceAdd, Nat.reduceSub, Nat.reduceMul, Nat.reduceLT, Nat.reduceEqDiff, Nat.reduceBEq, reduceIte, Int.reduceEq, Int.reduceLT, Int.reduceLE, reduceCtorEq, g8_0, g8_1, g8_5, g8_10, g8_11] <;> rfl), v1_36, g36, by omega, (o36.low (by omega)), hf⟩
                  · skip
                    have w39 : IntKind.i64.wrap ((j : Int) + 1) = ((j + 1 : Nat) : Int) := by rw [IntWalk.i64_in] <;> omega
                    try simp (disch := first | omega | assumption) only [E0_G, SY, setArgs, off, agreeKind, partVals, vals, allocV, boxed, ldA, rdCells, oneB, aggD, aField, aFieldV, aExtract, eq_self, ne_eq, if_true, if_false, not_false_eq_true, Nat.reduceAdd, Nat.reduceSub, Nat.reduceMul, Nat.reduceLT, Nat.reduceEqDiff, Nat.reduceBEq, reduceIte, Int.reduceEq, Int.reduceLT, Int.reduceLE, reduceCtorEq, TY_EvA8, and_fold, or_fold, not_fold, g8_0, g8_1, g8_5, g8_10, g8_11, bb8_1, h4a, h5a, w6, h7a, w9, h10a, i11, j11, m11_0, m11_1, m11_2, m11_3, m11_4, k12, s12, v1_12, v11_12, h14a, store_agree, store_refl E0_same, i16, j16, m16_0, m16_1, m16_2, m16_3, m16_4, k17, s17, v1_17, v11_17, v16_17, w19, h20a, i21, j21, m21_0, m21_1, m21_2, m21_3, m21_4, k22, s22, v1_22, v11_22, v16_22, v21_22, w25, h26a, w39] at he
                    rw [drop_cons' hx8] at hd8
                    have hf := (show _ = (R69_0 ks ms f s l (ms.drop (j + 1)) (j + 1) o : Sum (Int) ((List Int))) from (if_pos h14).trans ((if_pos h20).trans ((if_neg h26).trans (rfl)))).symm.trans hd8
                    exact .next he (m - 1) (by omega) ⟨(j + 1), v_o, o, by first | omega | (simp; omega) | simp, by first | omega | (simp; omega) | simp, by first | omega | (simp; omega) | simp, (by simp only [SY, setArgs, off, agreeKind, partVals, vals, allocV, boxed, ldA, rdCells, oneB, aggD, aField, aFieldV, aExtract, eq_self, ne_eq, if_true, if_false, not_false_eq_true, Nat.reduceAdd, Nat.reduceSub, Nat.reduceMul, Nat.reduceLT, Nat.reduceEqDiff, Nat.reduceBEq, reduceIte, Int.reduceEq, Int.reduceLT, Int.reduceLE, reduceCtorEq, g8_0, g8_1, g8_5, g8_10, g8_11] <;> rfl), (by simp only [SY, setArgs, off, agreeKind, partVals, vals, allocV, boxed, ldA, rdCells, oneB, aggD, aField, aFieldV, aExtract, eq_self, ne_eq, if_true, if_false, not_false_eq_true, Nat.reduceAdd, Nat.reduceSub, Nat.reduceMul, Nat.reduceLT, Nat.reduceEqDiff, Nat.reduceBEq, reduceIte, Int.reduceEq, Int.reduceLT, Int.reduceLE, reduceCtorEq, g8_0, g8_1, g8_5, g8_10, g8_11] <;> rfl), (by simp only [SY, setArgs, off, agreeKind, partVals, vals, allocV, boxed, ldA, rdCells, oneB, aggD, aField, aFieldV, aExtract, eq_self, ne_eq, if_true, if_false, not_false_eq_true, Nat.reduceAdd, Nat.reduceSub, Nat.reduceMul, Nat.reduceLT, Nat.reduceEqDiff, Nat.reduceBEq, reduceIte, Int.reduceEq, Int.reduceLT, Int.reduceLE, reduceCtorEq, g8_0, g8_1, g8_5, g8_10, g8_11] <;> rfl), (by simp only [SY, setArgs, off, agreeKind, partVals, vals, allocV, boxed, ldA, rdCells, oneB, aggD, aField, aFieldV, aExtract, eq_self, ne_eq, if_true, if_false, not_false_eq_true, Nat.reduceAdd, Nat.reduceSub, Nat.reduceMul, Nat.reduceLT, Nat.reduceEqDiff, Nat.reduceBEq, reduceIte, Int.reduceEq, Int.reduceLT, Int.reduceLE, reduceCtorEq, g8_0, g8_1, g8_5, g8_10, g8_11] <;> rfl), (by simp only [SY, setArgs, off, agreeKind, partVals, vals, allocV, boxed, ldA, rdCells, oneB, aggD, aField, aFieldV, aExtract, eq_self, ne_eq, if_true, if_false, not_false_eq_true, Nat.reduceAdd, Nat.reduceSub, Nat.reduceMul, Nat.reduceLT, Nat.reduceEqDiff, Nat.reduceBEq, reduceIte, Int.reduceEq, Int.reduceLT, Int.reduceLE, reduceCtorEq, g8_0, g8_1, g8_5, g8_10, g8_11] <;> rfl), v1_22, g22, by omega, (ow_23.low (by omega)), hf⟩
                · skip
                  have w40 : IntKind.i64.wrap ((j : Int) + 1) = ((j + 1 : Nat) : Int) := by rw [IntWalk.i64_in] <;> omega
                  try simp (disch := first | omega | assumption) only [E0_G, SY, setArgs, off, agreeKind, partVals, vals, allocV, boxed, ldA, rdCells, oneB, aggD, aField, aFieldV, aExtract, eq_self, ne_eq, if_true, if_false, not_false_eq_true, Nat.reduceAdd, Nat.reduceSub, Nat.reduceMul, Nat.reduceLT, Nat.reduceEqDiff, Nat.reduceBEq, reduceIte, Int.reduceEq, Int.reduceLT, Int.reduceLE, reduceCtorEq, TY_EvA8, and_fold, or_fold, not_fold, g8_0, g8_1, g8_5, g8_10, g8_11, bb8_1, h4a, h5a, w6, h7a, w9, h10a, i11, j11, m11_0, m11_1, m11_2, m11_3, m11_4, k12, s12, v1_12, v11_12, h14a, store_agree, store_refl E0_same, i16, j16, m16_0, m16_1, m16_2, m16_3, m16_4, k17, s17, v1_17, v11_17, v16_17, w19, h20a, w40] at he
                  rw [drop_cons' hx8] at hd8
                  have hf := (show _ = (R69_0 ks ms f s l (ms.drop (j + 1)) (j + 1) o : Sum (Int) ((List Int))) from (if_pos h14).trans ((if_neg h20).trans (rfl))).symm.trans hd8
                  exact .next he (m - 1) (by omega) ⟨(j + 1), v_o, o, by first | omega | (simp; omega) | simp, by first | omega | (simp; omega) | simp, by first | omega | (simp; omega) | simp, (by simp only [SY, setArgs, off, agreeKind, partVals, vals, allocV, boxed, ldA, rdCells, oneB, aggD, aField, aFieldV, aExtract, eq_self, ne_eq, if_true, if_false, not_false_eq_true, Nat.reduceAdd, Nat.reduceSub, Nat.reduceMul, Nat.reduceLT, Nat.reduceEqDiff, Nat.reduceBEq, reduceIte, Int.reduceEq, Int.reduceLT, Int.reduceLE, reduceCtorEq, g8_0, g8_1, g8_5, g8_10, g8_11] <;> rfl), (by simp only [SY, setArgs, off, agreeKind, partVals, vals, allocV, boxed, ldA, rdCells, oneB, aggD, aField, aFieldV, aExtract, eq_self, ne_eq, if_true, if_false, not_false_eq_true, Nat.reduceAdd, Nat.reduceSub, Nat.reduceMul, Nat.reduceLT, Nat.reduceEqDiff, Nat.reduceBEq, reduceIte, Int.reduceEq, Int.reduceLT, Int.reduceLE, reduceCtorEq, g8_0, g8_1, g8_5, g8_10, g8_11] <;> rfl), (by simp only [SY, setArgs, off, agreeKind, partVals, vals, allocV, boxed, ldA, rdCells, oneB, aggD, aField, aFieldV, aExtract, eq_self, ne_eq, if_true, if_false, not_false_eq_true, Nat.reduceAdd, Nat.reduceSub, Nat.reduceMul, Nat.reduceLT, Nat.reduceEqDiff, Nat.reduceBEq, reduceIte, Int.reduceEq, Int.reduceLT, Int.reduceLE, reduceCtorEq, g8_0, g8_1, g8_5, g8_10, g8_11] <;> rfl), (by simp only [SY, setArgs, off, agreeKind, partVals, vals, allocV, boxed, ldA, rdCells, oneB, aggD, aField, aFieldV, aExtract, eq_self, ne_eq, if_true, if_false, not_false_eq_true, Nat.reduceAdd, Nat.reduceSub, Nat.reduceMul, Nat.reduceLT, Nat.reduceEqDiff, Nat.reduceBEq, reduceIte, Int.reduceEq, Int.reduceLT, Int.reduceLE, reduceCtorEq, g8_0, g8_1, g8_5, g8_10, g8_11] <;> rfl), (by simp only [SY, setArgs, off, agreeKind, partVals, vals, allocV, boxed, ldA, rdCells, oneB, aggD, aField, aFieldV, aExtract, eq_self, ne_eq, if_true, if_false, not_false_eq_true, Nat.reduceAdd, Nat.reduceSub, Nat.reduceMul, Nat.reduceLT, Nat.reduceEqDiff, Nat.reduceBEq, reduceIte, Int.reduceEq, Int.reduceLT, Int.reduceLE, reduceCtorEq, g8_0, g8_1, g8_5, g8_10, g8_11] <;> rfl), v1_17, g17, by omega, (ow_18.low (by omega)), hf⟩
              · skip
                try simp (disch := first | omega | assumption) only [E0_G, SY, setArgs, off, agreeKind, partVals, vals, allocV, boxed, ldA, rdCells, oneB, aggD, aField, aFieldV, aExtract, eq_self, ne_eq, if_true, if_false, not_false_eq_true, Nat.reduceAdd, Nat.reduceSub, Nat.reduceMul, Nat.reduceLT, Nat.reduceEqDiff, Nat.reduceBEq, reduceIte, Int.reduceEq, Int.reduceLT, Int.reduceLE, reduceCtorEq, TY_EvA8, and_fold, or_fold, not_fold, g8_0, g8_1, g8_5, g8_10, g8_11, bb8_1, h4a, h5a, w6, h7a, w9, h10a, i11, j11, m11_0, m11_1, m11_2, m11_3, m11_4, k12, s12, v1_12, v11_12, h14a] at he
                rw [drop_cons' hx8] at hd8
                have hf := (show _ = (.inl 1 : Sum (Int) ((List Int))) from (if_neg h14).trans (rfl)).symm.trans hd8
                exact .ret he (.inr ⟨rfl, ⟨1, (by simp only [SY, setArgs, off, agreeKind, partVals, vals, allocV, boxed, ldA, rdCells, oneB, aggD, aField, aFieldV, aExtract, eq_self, ne_eq, if_true, if_false, not_false_eq_true, Nat.reduceAdd, Nat.reduceSub, Nat.reduceMul, Nat.reduceLT, Nat.reduceEqDiff, Nat.reduceBEq, reduceIte, Int.reduceEq, Int.reduceLT, Int.reduceLE, reduceCtorEq, g8_0, g8_1, g8_5, g8_10, g8_11] <;> rfl), (by simp only [SY, setArgs, off, agreeKind, partVals, vals, allocV, boxed, ldA, rdCells, oneB, aggD, aField, aFieldV, aExtract, eq_self, ne_eq, if_true, if_false, not_false_eq_true, Nat.reduceAdd, Nat.reduceSub, Nat.reduceMul, Nat.reduceLT, Nat.reduceEqDiff, Nat.reduceBEq, reduceIte, Int.reduceEq, Int.reduceLT, Int.reduceLE, reduceCtorEq, g8_0, g8_1, g8_5, g8_10, g8_11] <;> rfl), g12, hf.symm⟩⟩)
            · skip
              try simp (disch := first | omega | assumption) only [E0_G, SY, setArgs, off, agreeKind, partVals, vals, allocV, boxed, ldA, rdCells, oneB, aggD, aField, aFieldV, aExtract, eq_self, ne_eq, if_true, if_false, not_false_eq_true, Nat.reduceAdd, Nat.reduceSub, Nat.reduceMul, Nat.reduceLT, Nat.reduceEqDiff, Nat.reduceBEq, reduceIte, Int.reduceEq, Int.reduceLT, Int.reduceLE, reduceCtorEq, TY_EvA8, and_fold, or_fold, not_fold, g8_0, g8_1, g8_5, g8_10, g8_11, bb8_1, h4a, h5a, w6, h7a, w9, h10a] at he
              rw [List.drop_eq_nil_of_le (by omega)] at hd8
              have hf := (show _ = (.inr o : Sum (Int) ((List Int))) from rfl).symm.trans hd8
              exact .exit he (.inl ⟨rfl, ⟨j, v_o, o, (by simp only [SY, setArgs, off, agreeKind, partVals, vals, allocV, boxed, ldA, rdCells, oneB, aggD, aField, aFieldV, aExtract, eq_self, ne_eq, if_true, if_false, not_false_eq_true, Nat.reduceAdd, Nat.reduceSub, Nat.reduceMul, Nat.reduceLT, Nat.reduceEqDiff, Nat.reduceBEq, reduceIte, Int.reduceEq, Int.reduceLT, Int.reduceLE, reduceCtorEq, g8_0, g8_1, g8_5, g8_10, g8_11] <;> rfl), bb8_1, ga8, by omega, (ow_o.low (by omega)), by first | omega | assumption | simp, by first | omega | assumption | simp, hf.symm⟩⟩))
        rcases hQ8 with ⟨rfl, hQ8⟩ | ⟨rfl, hQ8⟩
        · skip
          obtain ⟨j, v_o, o, ge8_10, be8_1, ge8, gm8, oe_o8, hj8_0, hj8_1, hR8⟩ := hQ8
          try simp (disch := first | omega | assumption) only [E0_G, SY, setArgs, off, agreeKind, partVals, vals, allocV, boxed, ldA, rdCells, oneB, aggD, aField, aFieldV, aExtract, eq_self, ne_eq, if_true, if_false, not_false_eq_true, Nat.reduceAdd, Nat.reduceSub, Nat.reduceMul, Nat.reduceLT, Nat.reduceEqDiff, Nat.reduceBEq, reduceIte, Int.reduceEq, Int.reduceLT, Int.reduceLE, reduceCtorEq, TY_EvA8, and_fold, or_fold, not_fold, h4a, h5a, w6, h7a, ge8_10, be8_1] at hz
          have hr : r69 ks ms f s l = (o, 0) := (if_pos h4).trans ((if_pos h5).trans ((if_neg h7).trans ((onSum_inr hR8).trans (rfl))))
          exact ⟨v_o, S8e, by first | (rw [hr]; exact hz.symm) | exact hz.symm, ge8, by rw [hr]; exact oe_o8.low (by omega)⟩
        · skip
          obtain ⟨r7, ge8_7, ge8_6, ge8, hR8⟩ := hQ8
          try simp (disch := first | omega | assumption) only [E0_G, SY, setArgs, off, agreeKind, partVals, vals, allocV, boxed, ldA, rdCells, oneB, aggD, aField, aFieldV, aExtract, eq_self, ne_eq, if_true, if_false, not_false_eq_true, Nat.reduceAdd, Nat.reduceSub, Nat.reduceMul, Nat.reduceLT, Nat.reduceEqDiff, Nat.reduceBEq, reduceIte, Int.reduceEq, Int.reduceLT, Int.reduceLE, reduceCtorEq, TY_EvA8, and_fold, or_fold, not_fold, h4a, h5a, w6, h7a, ge8_7, ge8_6] at hz
          have hr : r69 ks ms f s l = ([], r7) := (if_pos h4).trans ((if_pos h5).trans ((if_neg h7).trans ((onSum_inl hR8).trans (rfl))))
          exact ⟨.slice none 0 0, S8e, by first | (rw [hr]; exact hz.symm) | exact hz.symm, ge8, by rw [hr]; exact Own.nil _ _ _⟩
    · skip
      try simp (disch := first | omega | assumption) only [E0_G, SY, setArgs, off, agreeKind, partVals, vals, allocV, boxed, ldA, rdCells, oneB, aggD, aField, aFieldV, aExtract, eq_self, ne_eq, if_true, if_false, not_false_eq_true, Nat.reduceAdd, Nat.reduceSub, Nat.reduceMul, Nat.reduceLT, Nat.reduceEqDiff, Nat.reduceBEq, reduceIte, Int.reduceEq, Int.reduceLT, Int.reduceLE, reduceCtorEq, TY_EvA8, and_fold, or_fold, not_fold, s1, e1, b1, k2, s2, v1_2, k3, s3, v1_3, h4a, h5a] at hz
      have hr : r69 ks ms f s l = ([], 1) := (if_pos h4).trans ((if_neg h5).trans (rfl))
      exact ⟨.slice none 0 0, S3, by first | (rw [hr]; exact hz.symm) | exact hz.symm, g3, by rw [hr]; exact Own.nil _ _ _⟩
  · skip
    try simp (disch := first | omega | assumption) only [E0_G, SY, setArgs, off, agreeKind, partVals, vals, allocV, boxed, ldA, rdCells, oneB, aggD, aField, aFieldV, aExtract, eq_self, ne_eq, if_true, if_false, not_false_eq_true, Nat.reduceAdd, Nat.reduceSub, Nat.reduceMul, Nat.reduceLT, Nat.reduceEqDiff, Nat.reduceBEq, reduceIte, Int.reduceEq, Int.reduceLT, Int.reduceLE, reduceCtorEq, TY_EvA8, and_fold, or_fold, not_fold, s1, e1, b1, k2, s2, v1_2, k3, s3, v1_3, h4a] at hz
    have hr : r69 ks ms f s l = ([], 1) := (if_neg h4).trans (rfl)
    exact ⟨.slice none 0 0, S3, by first | (rw [hr]; exact hz.symm) | exact hz.symm, g3, by rw [hr]; exact Own.nil _ _ _⟩
end Great
end Go.Proofs
end
section
/-
  The great seat of stage 1: DialUnread, by the generator.
-/
set_option linter.unusedSimpArgs false
set_option linter.unusedVariables false
namespace Go.Proofs
namespace Great
open Go Go.RowKit Go.Aev
set_option maxRecDepth 100000
/-- What is known of the types. -/
theorem TY_EvA9 : type_of% (And.intro (And.intro (And.intro (And.intro (And.intro (And.intro Tryz.underlying3 tz3) (And.intro tt3 t0_3)) (And.intro (And.intro Tryz.underlying22 tz22) (And.intro tt22 (And.intro t0_22 Tryz.underlying43)))) (And.intro (And.intro (And.intro tz43 tt43) (And.intro t0_43 Tryz.underlying44)) (And.intro (And.intro tz44 tt44) (And.intro t0_44 (And.intro Tryz.underlying45 tz45))))) (And.intro (And.intro (And.intro (And.intro tt45 t0_45) (And.intro Tryz.underlying51 tz51)) (And.intro (And.intro tt51 t0_51) (And.intro Tryz.underlying52 (And.intro tz52 tt52)))) (And.intro (And.intro (And.intro t0_52 Tryz.underlying55) (And.intro tz55 tt55)) (And.intro (And.intro t0_55 Tryz.underlying56) (And.intro tz56 (And.intro tt56 t0_56)))))) (And.intro (And.intro (And.intro (And.intro (And.intro Tryz.underlying57 tz57) (And.intro tt57 t0_57)) (And.intro (And.intro Tryz.underlying58 tz58) (And.intro tt58 (And.intro t0_58 Tryz.underlying77)))) (And.intro (And.intro (And.intro tz77 tt77) (And.intro t0_77 Tryz.underlying80)) (And.intro (And.intro tz80 tt80) (And.intro t0_80 (And.intro Tryz.underlying90 tz90))))) (And.intro (And.intro (And.intro (And.intro tt90 t0_90) (And.intro Tryz.underlying110 tz110)) (And.intro (And.intro tt110 t0_110) (And.intro Tryz.underlying115 (And.intro tz115 tt115)))) (And.intro (And.intro (And.intro t0_115 Tryz.underlying116) (And.intro tz116 tt116)) (And.intro (And.intro t0_116 Tryz.underlying123) (And.intro tz123 (And.intro tt123 t0_123))))))) := (And.intro (And.intro (And.intro (And.intro (And.intro (And.intro Tryz.underlying3 tz3) (And.intro tt3 t0_3)) (And.intro (And.intro Tryz.underlying22 tz22) (And.intro tt22 (And.intro t0_22 Tryz.underlying43)))) (And.intro (And.intro (And.intro tz43 tt43) (And.intro t0_43 Tryz.underlying44)) (And.intro (And.intro tz44 tt44) (And.intro t0_44 (And.intro Tryz.underlying45 tz45))))) (And.intro (And.intro (And.intro (And.intro tt45 t0_45) (And.intro Tryz.underlying51 tz51)) (And.intro (And.intro tt51 t0_51) (And.intro Tryz.underlying52 (And.intro tz52 tt52)))) (And.intro (And.intro (And.intro t0_52 Tryz.underlying55) (And.intro tz55 tt55)) (And.intro (And.intro t0_55 Tryz.underlying56) (And.intro tz56 (And.intro tt56 t0_56)))))) (And.intro (And.intro (And.intro (And.intro (And.intro Tryz.underlying57 tz57) (And.intro tt57 t0_57)) (And.intro (And.intro Tryz.underlying58 tz58) (And.intro tt58 (And.intro t0_58 Tryz.underlying77)))) (And.intro (And.intro (And.intro tz77 tt77) (And.intro t0_77 Tryz.underlying80)) (And.intro (And.intro tz80 tt80) (And.intro t0_80 (And.intro Tryz.underlying90 tz90))))) (And.intro (And.intro (And.intro (And.intro tt90 t0_90) (And.intro Tryz.underlying110 tz110)) (And.intro (And.intro tt110 t0_110) (And.intro Tryz.underlying115 (And.intro tz115 tt115)))) (And.intro (And.intro (And.intro t0_115 Tryz.underlying116) (And.intro tz116 tt116)) (And.intro (And.intro t0_116 Tryz.underlying123) (And.intro tz123 (And.intro tt123 t0_123)))))))

theorem R68_0_len (ks : List K) (ms : List Mk) (f s l : Int) : ∀ (m : List Mk) (j : Nat) (o : List Int), (R68_0 ks ms f s l m j o).length ≤ m.length + o.length := by
  intro m
  induction m with
  | nil => intro j o; simp [R68_0]
  | cons x m ih =>
    intro j o
    unfold R68_0
    (repeat' split) <;> (refine Nat.le_trans (ih _ _) ?_; simp; try omega)
theorem r68_len (ks : List K) (ms : List Mk) (f s l : Int) : (r68 ks ms f s l).1.length ≤ ms.length := by
  unfold r68
  have := R68_0_len ks ms f s l ms 0 []
  split
  · split
    · split
      · simpa using this
      · simp
    · simp
  · simp

def r11 (ks : List K) (ms : List Mk) (f s l : Int) : Bool := (if 60 < (ks.length : Int) then true else (if 80 < (ms.length : Int) then true else (if ((r68 (ks : List K) (ms : List Mk) f s l).2) = ((r69 (ks : List K) (ms : List Mk) f s l).2) then (r64 ((r68 (ks : List K) (ms : List Mk) f s l).1 : List Int) ((r69 (ks : List K) (ms : List Mk) f s l).1 : List Int)) else false)))
set_option maxHeartbeats 4000000 in
theorem c11 (ks : List K) (ms : List Mk) (f s l : Int)  (S : AS) (v_ks : Value) (hv_ks : Lst S v_ks ks) (v_ms : Value) (hv_ms : Lst S v_ms ms) (ht : Tab S) :
    ∃ S', (evL Tryz.prog E0).call 11 #[v_ks, v_ms, .agg #[.int .i64 f, .int .i64 s, .int .i64 l]] S = some (.bool (r11 ks ms f s l), S') ∧ Agree S S' := by
  generalize hz : (evL Tryz.prog E0).call 11 _ _ = z
  rw [L_call, evCall_said rfl Tryz.func11 rfl (by decide) Tryz.ntmps11 Tryz.results11] at hz
  obtain ⟨S1, e1, n1, b1, a1⟩ := push_open S (.cells [.int .i64 f, .int .i64 s, .int .i64 l] 45 0 true true)
  have g1 : Agree S S1 := a1
  have s1 : E0.same S S1 = true := symEnv_same a1
  have w2 := (hv_ks.agree g1).len (P := Tryz.prog) (t := 43) Tryz.underlying43
  try simp (disch := first | omega | assumption) only [E0_G, SY, setArgs, off, agreeKind, partVals, vals, allocV, boxed, ldA, rdCells, oneB, aggD, aField, aFieldV, aExtract, eq_self, ne_eq, if_true, if_false, not_false_eq_true, Nat.reduceAdd, Nat.reduceSub, Nat.reduceMul, Nat.reduceLT, Nat.reduceEqDiff, Nat.reduceBEq, reduceIte, Int.reduceEq, Int.reduceLT, Int.reduceLE, reduceCtorEq, TY_EvA9, and_fold, or_fold, not_fold, s1, e1, b1, w2] at hz
  rcases dP (60 < (ks.length : Int)) with ⟨h3a, h3⟩ | ⟨h3a, h3⟩
  · skip
    try simp (disch := first | omega | assumption) only [E0_G, SY, setArgs, off, agreeKind, partVals, vals, allocV, boxed, ldA, rdCells, oneB, aggD, aField, aFieldV, aExtract, eq_self, ne_eq, if_true, if_false, not_false_eq_true, Nat.reduceAdd, Nat.reduceSub, Nat.reduceMul, Nat.reduceLT, Nat.reduceEqDiff, Nat.reduceBEq, reduceIte, Int.reduceEq, Int.reduceLT, Int.reduceLE, reduceCtorEq, TY_EvA9, and_fold, or_fold, not_fold, s1, e1, b1, w2, h3a, c15s] at hz
    have hr : r11 ks ms f s l = true := (if_pos h3).trans (rfl)
    exact fin hz (by rw [hr]) g1
  · skip
    have w4 := (hv_ms.agree g1).len (P := Tryz.prog) (t := 90) Tryz.underlying90
    try simp (disch := first | omega | assumption) only [E0_G, SY, setArgs, off, agreeKind, partVals, vals, allocV, boxed, ldA, rdCells, oneB, aggD, aField, aFieldV, aExtract, eq_self, ne_eq, if_true, if_false, not_false_eq_true, Nat.reduceAdd, Nat.reduceSub, Nat.reduceMul, Nat.reduceLT, Nat.reduceEqDiff, Nat.reduceBEq, reduceIte, Int.reduceEq, Int.reduceLT, Int.reduceLE, reduceCtorEq, TY_EvA9, and_fold, or_fold, not_fold, s1, e1, b1, w2, h3a, w4] at hz
    rcases dP (80 < (ms.length : Int)) with ⟨h5a, h5⟩ | ⟨h5a, h5⟩
    · skip
      try simp (disch := first | omega | assumption) only [E0_G, SY, setArgs, off, agreeKind, partVals, vals, allocV, boxed, ldA, rdCells, oneB, aggD, aField, aFieldV, aExtract, eq_self, ne_eq, if_true, if_false, not_false_eq_true, Nat.reduceAdd, Nat.reduceSub, Nat.reduceMul, Nat.reduceLT, Nat.reduceEqDiff, Nat.reduceBEq, reduceIte, Int.reduceEq, Int.reduceLT, Int.reduceLE, reduceCtorEq, TY_EvA9, and_fold, or_fold, not_fold, s1, e1, b1, w2, h3a, w4, h5a, c15s] at hz
      have hr : r11 ks ms f s l = true := (if_neg h3).trans ((if_pos h5).trans (rfl))
      exact fin hz (by rw [hr]) g1
    · skip
      obtain ⟨u6, S6, k6, a6, oo6⟩ := c68 (ks : List K) (ms : List Mk) f s l (by first | omega | (simp; omega) | (simp; done) | assumption) (by first | omega | (simp; omega) | (simp; done) | assumption) S1 (v_ks) (hv_ks.agree g1) (v_ms) (hv_ms.agree g1) (ht.agree g1)
      have l6 := a6.1
      have s6 : E0.same S1 S6 = true := symEnv_same a6
      have v1_6 := (a6.2 S.next (by omega)).trans b1
      have g6 : Agree S S6 := g1.trans a6
      have p6 := r68_len (ks : List K) (ms : List Mk) f s l
      obtain ⟨u7, S7, k7, a7, oo7⟩ := c69 (ks : List K) (ms : List Mk) f s l (by first | omega | (simp; omega) | (simp; done) | assumption) (by first | omega | (simp; omega) | (simp; done) | assumption) S6 (v_ks) (hv_ks.agree g6) (v_ms) (hv_ms.agree g6) 
      have l7 := a7.1
      have s7 : E0.same S6 S7 = true := symEnv_same a7
      have v1_7 := (a7.2 S.next (by omega)).trans v1_6
      have o6_8 := oo6.agree a7
      have g7 : Agree S S7 := g6.trans a7
      try simp (disch := first | omega | assumption) only [E0_G, SY, setArgs, off, agreeKind, partVals, vals, allocV, boxed, ldA, rdCells, oneB, aggD, aField, aFieldV, aExtract, eq_self, ne_eq, if_true, if_false, not_false_eq_true, Nat.reduceAdd, Nat.reduceSub, Nat.reduceMul, Nat.reduceLT, Nat.reduceEqDiff, Nat.reduceBEq, reduceIte, Int.reduceEq, Int.reduceLT, Int.reduceLE, reduceCtorEq, TY_EvA9, and_fold, or_fold, not_fold, s1, e1, b1, w2, h3a, w4, h5a, k6, s6, v1_6, k7, s7, v1_7, c15s] at hz
      rcases dP (((r68 (ks : List K) (ms : List Mk) f s l).2) = ((r69 (ks : List K) (ms : List Mk) f s l).2)) with ⟨h9a, h9⟩ | ⟨h9a, h9⟩
      · skip
        obtain ⟨S10, k10, a10⟩ := c64 ((r68 (ks : List K) (ms : List Mk) f s l).1 : List Int) ((r69 (ks : List K) (ms : List Mk) f s l).1 : List Int) (by first | omega | (simp; omega) | (simp; done) | assumption) S7 (u6) (o6_8.rows) (u7) (oo7.rows) 
        have l10 := a10.1
        have s10 : E0.same S7 S10 = true := symEnv_same a10
        have v1_10 := (a10.2 S.next (by omega)).trans v1_7
        have o6_11 := o6_8.agree a10
        have o7_12 := oo7.agree a10
        have g10 : Agree S S10 := g7.trans a10
        try simp (disch := first | omega | assumption) only [E0_G, SY, setArgs, off, agreeKind, partVals, vals, allocV, boxed, ldA, rdCells, oneB, aggD, aField, aFieldV, aExtract, eq_self, ne_eq, if_true, if_false, not_false_eq_true, Nat.reduceAdd, Nat.reduceSub, Nat.reduceMul, Nat.reduceLT, Nat.reduceEqDiff, Nat.reduceBEq, reduceIte, Int.reduceEq, Int.reduceLT, Int.reduceLE, reduceCtorEq, TY_EvA9, and_fold, or_fold, not_fold, s1, e1, b1, w2, h3a, w4, h5a, k6, s6, v1_6, k7, s7, v1_7, c15s, h9a, k10, s10, v1_10] at hz
        have hr : r11 ks ms f s l = (r64 ((r68 (ks : List K) (ms : List Mk) f s l).1 : List Int) ((r69 (ks : List K) (ms : List Mk) f s l).1 : List Int)) := (if_neg h3).trans ((if_neg h5).trans ((if_pos h9).trans (rfl)))
        exact fin hz (by rw [hr]) g10
      · skip
        try simp (disch := first | omega | assumption) only [E0_G, SY, setArgs, off, agreeKind, partVals, vals, allocV, boxed, ldA, rdCells, oneB, aggD, aField, aFieldV, aExtract, eq_self, ne_eq, if_true, if_false, not_false_eq_true, Nat.reduceAdd, Nat.reduceSub, Nat.reduceMul, Nat.reduceLT, Nat.reduceEqDiff, Nat.reduceBEq, reduceIte, Int.reduceEq, Int.reduceLT, Int.reduceLE, reduceCtorEq, TY_EvA9, and_fold, or_fold, not_fold, s1, e1, b1, w2, h3a, w4, h5a, k6, s6, v1_6, k7, s7, v1_7, c15s, h9a] at hz
        have hr : r11 ks ms f s l = false := (if_neg h3).trans ((if_neg h5).trans ((if_neg h9).trans (rfl)))
        exact fin hz (by rw [hr]) g7
end Great
end Go.Proofs
end
section
/-
  The great seat of stage 1: patterns that are proposed; marks that no key can have made.
-/
set_option linter.unusedSimpArgs false
set_option linter.unusedVariables false
namespace Go.Proofs
namespace Great
open Go Go.RowKit Go.Aev
set_option maxRecDepth 100000
theorem any_rival {ks : List K} (hk : ∀ x ∈ ks, KeyOk x.i x.t x.p) (q : K → Bool) : (ks.any q = true) = ¬ (rivalId q ks = 0) := by
  rcases firstIx_spec q ks 0 with ⟨_, h2, h3⟩ | ⟨j, x, _, hx, h3, h4⟩
  · simp [h2, h3]
  · have := hk x (List.mem_of_getElem? hx)
    unfold KeyOk at this
    simp only [h4, h3, eq_iff_iff, true_iff]
    omega
theorem R48_49 (ks : List K) (hk : ∀ x ∈ ks, KeyOk x.i x.t x.p) (tr fr f s l : Int) : ∀ (m : Nat) (p : Int), R48_0 ks tr fr f s l m p = R49_0 ks tr fr f s l m p := by
  intro m
  induction m with
  | zero => intro p; rfl
  | succ m ih =>
    intro p
    unfold R48_0 R49_0
    simp only [any_rival hk, ih]
    by_cases h : rivalId (confK ⟨1, tr, p⟩ f s) ks = 0 <;> simp [h]
theorem r48_49 (ks : List K) (tr fr f s l : Int) : r48 ks tr fr f s l = r49 ks tr fr f s l := by
  unfold r48 r49
  by_cases hB : bunch ks = true
  · have hk := (bunch_ok hB).2
    rw [if_pos hB, if_pos hB]
    by_cases ht : 0 ≤ tr ∧ tr < 4
    · rw [if_pos ht, if_pos (show 0 ≤ tr ∧ tr ≤ 3 by omega)]
      by_cases hf : 1 ≤ fr ∧ fr ≤ 4095
      · rw [if_pos (show 0 ≤ fr ∧ fr ≤ 4095 by omega), if_neg (show ¬ fr = 0 by omega), if_pos hf]
        simp only [errV_z, R48_49 ks hk]
      · rw [if_neg hf]
        by_cases h0 : fr = 0
        · rw [if_pos (show 0 ≤ fr ∧ fr ≤ 4095 by omega), if_pos h0]
        · rw [if_neg (show ¬ (0 ≤ fr ∧ fr ≤ 4095) by omega)]
    · rw [if_neg ht, if_neg (show ¬ (0 ≤ tr ∧ tr ≤ 3) by omega)]
  · rw [if_neg hB, if_neg hB]
theorem r7_true (ks : List K) (i t p tr fr f s l : Int) : r7 ks i t p tr fr f s l = true := by
  unfold r7
  rw [r48_49]
  (repeat' split) <;> simp_all

/-! ### Marks that are not read -/
theorem R138_spec (w : Int) (l : List Mk) : ∀ (m : List Mk) (j : Nat), ((∀ x ∈ m, MarkOk x.f x.l x.t x.s x.b) ∧ R138_0 l w m j = .inr ()) ∨ ((∃ x ∈ m, ¬ MarkOk x.f x.l x.t x.s x.b) ∧ ∃ k, R138_0 l w m j = .inl (1, k)) := by
  intro m
  induction m with
  | nil => intro j; left; exact ⟨by simp, rfl⟩
  | cons x m ih =>
    intro j
    unfold R138_0
    simp only [r139, errV_z]
    by_cases h : MarkOk x.f x.l x.t x.s x.b
    · rw [if_pos h]
      rcases ih (j + 1) with ⟨h1, h2⟩ | ⟨⟨y, hy, h1⟩, h2⟩
      · left; exact ⟨fun y hy => by rcases List.mem_cons.1 hy with rfl | hy <;> first | exact h | exact h1 _ hy, h2⟩
      · right; exact ⟨⟨y, by simp [hy], h1⟩, h2⟩
    · rw [if_neg h]
      right
      exact ⟨⟨x, by simp, h⟩, j, by rw [errV_neg h]⟩
theorem r121_spec (l : List Mk) : (60 < (l.length : Int) ∧ r121 l = 2) ∨ (¬ 60 < (l.length : Int) ∧ (∀ x ∈ l, MarkOk x.f x.l x.t x.s x.b) ∧ r121 l = 0) ∨ (¬ 60 < (l.length : Int) ∧ (∃ x ∈ l, ¬ MarkOk x.f x.l x.t x.s x.b) ∧ r121 l = 1) := by
  unfold r121 r138
  by_cases h : 60 < (l.length : Int)
  · left; exact ⟨h, by rw [if_pos h]⟩
  · right
    rw [if_neg h]
    rcases R138_spec 60 l l 0 with ⟨h1, h2⟩ | ⟨h1, k, h2⟩
    · left; exact ⟨h, h1, by rw [onSum_inr h2]⟩
    · right; exact ⟨h, h1, by rw [onSum_inl h2]⟩
theorem r59_65 {ks : List K} {a b c d e f s l : Int} (hB : bunch ks = true) (hM : MarkOk a b c d e) (hI : InkOk f s l) : (r59 ks a b c d e f s l).1 = r65 ks a b c d e f s l := by
  simp [r59, r65, hB, hM, hI, errV_pos, R59_65]
theorem r60_67 {ks : List K} {a b c d e f s l : Int} (hB : bunch ks = true) (hM : MarkOk a b c d e) (hI : InkOk f s l) : (r60 ks a b c d e f s l).1 = r67 ks a b c d e f s l := by
  simp [r60, r67, hB, hM, hI, errV_pos, R60_67]
theorem R69_bad (ks : List K) (ms : List Mk) (f s l : Int) : ∀ (m : List Mk) (j : Nat) (o : List Int), (∃ x ∈ m, ¬ MarkOk x.f x.l x.t x.s x.b) → R69_0 ks ms f s l m j o = .inl 1 := by
  intro m
  induction m with
  | nil => intro j o h; obtain ⟨x, hx, _⟩ := h; simp at hx
  | cons x m ih =>
    intro j o h
    unfold R69_0
    by_cases hM : MarkOk x.f x.l x.t x.s x.b
    · have h' : ∃ x ∈ m, ¬ MarkOk x.f x.l x.t x.s x.b := by
        obtain ⟨y, hy, hy2⟩ := h
        rcases List.mem_cons.1 hy with rfl | hy
        · exact absurd hM hy2
        · exact ⟨y, hy, hy2⟩
      rw [if_pos hM]
      simp only [ih _ _ h', ite_self]
    · rw [if_neg hM]
theorem R68_69 (ks : List K) (ms : List Mk) (f s l : Int) (hB : bunch ks = true) (hI : InkOk f s l) : ∀ (m : List Mk) (j : Nat) (o : List Int), (∀ x ∈ m, MarkOk x.f x.l x.t x.s x.b) → R69_0 ks ms f s l m j o = .inr (R68_0 ks ms f s l m j o) := by
  intro m
  induction m with
  | nil => intro j o _; rfl
  | cons x m ih =>
    intro j o h
    have hM := h x (by simp)
    unfold R69_0 R68_0
    rw [if_pos hM, r59_65 hB hM hI, r60_67 hB hM hI]
    have h' : ∀ x ∈ m, MarkOk x.f x.l x.t x.s x.b := fun y hy => h y (by simp [hy])
    simp only [ih _ _ h']
    (repeat' split) <;> rfl
theorem r68_69 (ks : List K) (ms : List Mk) (f s l : Int) : r68 ks ms f s l = r69 ks ms f s l := by
  unfold r68 r69
  by_cases hB : bunch ks = true
  · by_cases hI : InkOk f s l
    · rw [if_pos hB, if_pos hB, if_pos (errV_pos hI), if_pos hI]
      rcases r121_spec ms with ⟨h1, h2⟩ | ⟨h1, h2, h3⟩ | ⟨h1, h2, h3⟩
      · rw [if_pos h1, h2, if_neg (by decide)]
      · rw [if_neg h1, h3, if_pos rfl, onSum_inr (R68_69 ks ms f s l hB hI ms 0 [] h2)]
      · rw [if_neg h1, h3, if_neg (by decide), onSum_inl (R69_bad ks ms f s l ms 0 [] h2)]
    · rw [if_pos hB, if_pos hB, errV_neg hI, if_neg (by decide), if_neg hI]
  · rw [if_neg hB, if_neg hB]
theorem r11_true (ks : List K) (ms : List Mk) (f s l : Int) : r11 ks ms f s l = true := by
  unfold r11
  rw [r68_69]
  (repeat' split) <;> simp_all [r64_refl]
end Great
end Go.Proofs
end
