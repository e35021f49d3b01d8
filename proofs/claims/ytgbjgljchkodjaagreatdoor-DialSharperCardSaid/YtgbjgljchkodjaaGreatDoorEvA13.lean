/-
  The great seat of stage 1: Blur and the specification's Sharpen, by the generator.
-/
import Derived.Test.YtgbjgljchkodjaaGreatDoorBE
import Derived.Test.YtgbjgljchkodjaaGreatDoorBP
set_option linter.unusedSimpArgs false
set_option linter.unusedVariables false
namespace Go.Proofs
namespace Great
open Go Go.RowKit Go.Aev
set_option maxRecDepth 100000
/-- What is known of the types. -/
theorem TY_EvA13 : type_of% (And.intro (And.intro (And.intro (And.intro (And.intro (And.intro Tryz.underlying3 tz3) (And.intro tt3 (And.intro t0_3 Tryz.underlying22))) (And.intro (And.intro tz22 tt22) (And.intro t0_22 (And.intro Tryz.underlying56 tz43)))) (And.intro (And.intro (And.intro tt43 t0_43) (And.intro Tryz.underlying59 (And.intro tz44 tt44))) (And.intro (And.intro t0_44 Tryz.underlying60) (And.intro tz45 (And.intro tt45 t0_45))))) (And.intro (And.intro (And.intro (And.intro Tryz.underlying62 tz51) (And.intro tt51 (And.intro t0_51 Tryz.underlying63))) (And.intro (And.intro tz52 tt52) (And.intro t0_52 (And.intro Tryz.underlying43 tz55)))) (And.intro (And.intro (And.intro tt55 t0_55) (And.intro Tryz.underlying44 (And.intro tz56 tt56))) (And.intro (And.intro t0_56 Tryz.underlying45) (And.intro tz57 (And.intro tt57 t0_57)))))) (And.intro (And.intro (And.intro (And.intro (And.intro Tryz.underlying46 tz58) (And.intro tt58 (And.intro t0_58 Tryz.underlying66))) (And.intro (And.intro tz77 tt77) (And.intro t0_77 (And.intro Tryz.underlying73 tz80)))) (And.intro (And.intro (And.intro tt80 t0_80) (And.intro Tryz.underlying82 (And.intro tz90 tt90))) (And.intro (And.intro t0_90 Tryz.underlying89) (And.intro tz110 (And.intro tt110 t0_110))))) (And.intro (And.intro (And.intro (And.intro Tryz.underlying94 tz115) (And.intro tt115 (And.intro t0_115 Tryz.underlying95))) (And.intro (And.intro tz116 tt116) (And.intro t0_116 (And.intro Tryz.underlying76 tz123)))) (And.intro (And.intro (And.intro tt123 t0_123) (And.intro Tryz.underlying136 (And.intro tz177 tt177))) (And.intro (And.intro t0_177 Tryz.underlying137) (And.intro tz178 (And.intro tt178 t0_178))))))) := (And.intro (And.intro (And.intro (And.intro (And.intro (And.intro Tryz.underlying3 tz3) (And.intro tt3 (And.intro t0_3 Tryz.underlying22))) (And.intro (And.intro tz22 tt22) (And.intro t0_22 (And.intro Tryz.underlying56 tz43)))) (And.intro (And.intro (And.intro tt43 t0_43) (And.intro Tryz.underlying59 (And.intro tz44 tt44))) (And.intro (And.intro t0_44 Tryz.underlying60) (And.intro tz45 (And.intro tt45 t0_45))))) (And.intro (And.intro (And.intro (And.intro Tryz.underlying62 tz51) (And.intro tt51 (And.intro t0_51 Tryz.underlying63))) (And.intro (And.intro tz52 tt52) (And.intro t0_52 (And.intro Tryz.underlying43 tz55)))) (And.intro (And.intro (And.intro tt55 t0_55) (And.intro Tryz.underlying44 (And.intro tz56 tt56))) (And.intro (And.intro t0_56 Tryz.underlying45) (And.intro tz57 (And.intro tt57 t0_57)))))) (And.intro (And.intro (And.intro (And.intro (And.intro Tryz.underlying46 tz58) (And.intro tt58 (And.intro t0_58 Tryz.underlying66))) (And.intro (And.intro tz77 tt77) (And.intro t0_77 (And.intro Tryz.underlying73 tz80)))) (And.intro (And.intro (And.intro tt80 t0_80) (And.intro Tryz.underlying82 (And.intro tz90 tt90))) (And.intro (And.intro t0_90 Tryz.underlying89) (And.intro tz110 (And.intro tt110 t0_110))))) (And.intro (And.intro (And.intro (And.intro Tryz.underlying94 tz115) (And.intro tt115 (And.intro t0_115 Tryz.underlying95))) (And.intro (And.intro tz116 tt116) (And.intro t0_116 (And.intro Tryz.underlying76 tz123)))) (And.intro (And.intro (And.intro tt123 t0_123) (And.intro Tryz.underlying136 (And.intro tz177 tt177))) (And.intro (And.intro t0_177 Tryz.underlying137) (And.intro tz178 (And.intro tt178 t0_178)))))))
def r133 (w : Int) (x y : Int) : Int := (if ArcOk x y then 0 else 1)
set_option maxHeartbeats 2000000 in
theorem c133 (w : Int) (x y : Int)  (S : AS)  (ht : Tab S) :
    ∃ S', (evL Tryz.prog E0).call 85 #[.int .i64 w, .agg #[.int .i64 x, .int .i64 y]] S = some (.int .i64 (r133 w x y), S') ∧ Agree S S' := by
  generalize hz : (evL Tryz.prog E0).call 85 _ _ = z
  rw [L_call, evCall_said rfl Tryz.func85 rfl (by decide) Tryz.ntmps85 Tryz.results85] at hz
  obtain ⟨S1, e1, n1, b1, a1⟩ := push_open S (.cells [.int .i64 x, .int .i64 y] 44 0 true true)
  have g1 : Agree S S1 := a1
  have s1 : E0.same S S1 = true := symEnv_same a1
  obtain ⟨S2, k2, a2⟩ := c116 x y S1 (ht.agree g1) 
  have l2 := a2.1
  have s2 : E0.same S1 S2 = true := symEnv_same a2
  have v1_2 := (a2.2 S.next (by omega)).trans b1
  have g2 : Agree S S2 := g1.trans a2
  try simp (disch := first | omega | assumption) only [E0_G, SY, setArgs, off, agreeKind, partVals, vals, allocV, boxed, ldA, rdCells, oneB, aggD, aField, aFieldV, aExtract, eq_self, ne_eq, if_true, if_false, not_false_eq_true, Nat.reduceAdd, Nat.reduceSub, Nat.reduceMul, Nat.reduceLT, Nat.reduceEqDiff, Nat.reduceBEq, reduceIte, Int.reduceEq, Int.reduceLT, Int.reduceLE, reduceCtorEq, TY_EvA13, and_fold, or_fold, not_fold, s1, e1, b1, k2, s2, v1_2] at hz
  rcases dP (ArcOk x y) with ⟨h3a, h3⟩ | ⟨h3a, h3⟩
  · skip
    try simp (disch := first | omega | assumption) only [E0_G, SY, setArgs, off, agreeKind, partVals, vals, allocV, boxed, ldA, rdCells, oneB, aggD, aField, aFieldV, aExtract, eq_self, ne_eq, if_true, if_false, not_false_eq_true, Nat.reduceAdd, Nat.reduceSub, Nat.reduceMul, Nat.reduceLT, Nat.reduceEqDiff, Nat.reduceBEq, reduceIte, Int.reduceEq, Int.reduceLT, Int.reduceLE, reduceCtorEq, TY_EvA13, and_fold, or_fold, not_fold, s1, e1, b1, k2, s2, v1_2, h3a] at hz
    have hr : r133 w x y = 0 := (if_pos h3).trans (rfl)
    exact fin hz (by rw [hr]) g2
  · skip
    try simp (disch := first | omega | assumption) only [E0_G, SY, setArgs, off, agreeKind, partVals, vals, allocV, boxed, ldA, rdCells, oneB, aggD, aField, aFieldV, aExtract, eq_self, ne_eq, if_true, if_false, not_false_eq_true, Nat.reduceAdd, Nat.reduceSub, Nat.reduceMul, Nat.reduceLT, Nat.reduceEqDiff, Nat.reduceBEq, reduceIte, Int.reduceEq, Int.reduceLT, Int.reduceLE, reduceCtorEq, TY_EvA13, and_fold, or_fold, not_fold, s1, e1, b1, k2, s2, v1_2, h3a] at hz
    have hr : r133 w x y = 1 := (if_neg h3).trans (rfl)
    exact fin hz (by rw [hr]) g2

def R132_0 (l : List Ar) (w : Int)  : List Ar → Nat → Sum (Int × Int) (Unit)
  | [], j => .inr ()
  | x4 :: l', j => (if (r133 (j : Int) x4.f x4.l) = 0 then R132_0 l w l' (j + 1) else .inl ((r133 (j : Int) x4.f x4.l), (j : Int)))
def r132 (l : List Ar) (w : Int) : Int × Int := (if w < (l.length : Int) then (2, -1) else (onSum (R132_0 l w l 0) (fun (r6, r7) => (r6, r7)) (fun _ => (0, -1))))
set_option maxHeartbeats 2000000 in
theorem c132 (l : List Ar) (w : Int) (hn : l.length ≤ 1000)  (S : AS) (v_l : Value) (hv_l : Lst S v_l l) (ht : Tab S) :
    ∃ S', (evL Tryz.prog E0).call 84 #[v_l, .int .i64 w, .func (.func 85) #[] #[]] S = some (.tuple #[.int .i64 (r132 l w).1, .int .i64 (r132 l w).2], S') ∧ Agree S S' := by
  generalize hz : (evL Tryz.prog E0).call 84 _ _ = z
  rw [L_call, evCall_said rfl Tryz.func84 rfl (by decide) Tryz.ntmps84 Tryz.results84] at hz
  have w1 := (hv_l).len (P := Tryz.prog) (t := 22) Tryz.underlying22
  try simp (disch := first | omega | assumption) only [E0_G, SY, setArgs, off, agreeKind, partVals, vals, allocV, boxed, ldA, rdCells, oneB, aggD, aField, aFieldV, aExtract, eq_self, ne_eq, if_true, if_false, not_false_eq_true, Nat.reduceAdd, Nat.reduceSub, Nat.reduceMul, Nat.reduceLT, Nat.reduceEqDiff, Nat.reduceBEq, reduceIte, Int.reduceEq, Int.reduceLT, Int.reduceLE, reduceCtorEq, TY_EvA13, and_fold, or_fold, not_fold, w1] at hz
  rcases dP (w < (l.length : Int)) with ⟨h2a, h2⟩ | ⟨h2a, h2⟩
  · skip
    try simp (disch := first | omega | assumption) only [E0_G, SY, setArgs, off, agreeKind, partVals, vals, allocV, boxed, ldA, rdCells, oneB, aggD, aField, aFieldV, aExtract, eq_self, ne_eq, if_true, if_false, not_false_eq_true, Nat.reduceAdd, Nat.reduceSub, Nat.reduceMul, Nat.reduceLT, Nat.reduceEqDiff, Nat.reduceBEq, reduceIte, Int.reduceEq, Int.reduceLT, Int.reduceLE, reduceCtorEq, TY_EvA13, and_fold, or_fold, not_fold, w1, h2a] at hz
    have hr : r132 l w = (2, -1) := (if_pos h2).trans (rfl)
    exact fin hz (by rw [hr]) (Agree.refl S)
  · skip
    have w3 := (hv_l).len (P := Tryz.prog) (t := 22) Tryz.underlying22
    try simp (disch := first | omega | assumption) only [E0_G, SY, setArgs, off, agreeKind, partVals, vals, allocV, boxed, ldA, rdCells, oneB, aggD, aField, aFieldV, aExtract, eq_self, ne_eq, if_true, if_false, not_false_eq_true, Nat.reduceAdd, Nat.reduceSub, Nat.reduceMul, Nat.reduceLT, Nat.reduceEqDiff, Nat.reduceBEq, reduceIte, Int.reduceEq, Int.reduceLT, Int.reduceLE, reduceCtorEq, TY_EvA13, and_fold, or_fold, not_fold, w1, h2a, w3] at hz
    generalize hL4 : Rec.loop _ _ _ _ = L4 at hz
    obtain ⟨x4, t4, S4e, rfl, hQ4⟩ := loop_met hL4 (fun m t S' => ∃ (j : Nat), m + j = l.length ∧ j ≤ l.length ∧ t.get 2 = some (.func (.func 85) #[] #[]) ∧ t.get 15 = some (v_l) ∧ t.get 16 = some (.int .i64 (l.length : Int)) ∧ t.get 17 = some (.int .i64 (j : Int)) ∧ Agree S S' ∧ S.next ≤ S'.next ∧ R132_0 l w (l.drop j) j = R132_0 l w l 0)
      (fun x t S' => (x = .exit 0 ∧ ∃ (j : Nat), Agree S S' ∧ S.next ≤ S'.next ∧ j ≤ l.length ∧ R132_0 l w l 0 = .inr ()) ∨ (x = .ret ∧ ∃ (r6 : Int) (r7 : Int), t.get 6 = some (.int .i64 r6) ∧ t.get 7 = some (.int .i64 r7) ∧ Agree S S' ∧ R132_0 l w l 0 = .inl (r6, r7))) (l.length - 0) ⟨0, by first | rfl | omega | (simp; omega) | simp, by first | rfl | omega | (simp; omega) | simp, by simp only [SY, setArgs, off, agreeKind, partVals, vals, allocV, boxed, ldA, rdCells, oneB, aggD, aField, aFieldV, aExtract, eq_self, ne_eq, if_true, if_false, not_false_eq_true, Nat.reduceAdd, Nat.reduceSub, Nat.reduceMul, Nat.reduceLT, Nat.reduceEqDiff, Nat.reduceBEq, reduceIte, Int.reduceEq, Int.reduceLT, Int.reduceLE, reduceCtorEq] <;> rfl, by simp only [SY, setArgs, off, agreeKind, partVals, vals, allocV, boxed, ldA, rdCells, oneB, aggD, aField, aFieldV, aExtract, eq_self, ne_eq, if_true, if_false, not_false_eq_true, Nat.reduceAdd, Nat.reduceSub, Nat.reduceMul, Nat.reduceLT, Nat.reduceEqDiff, Nat.reduceBEq, reduceIte, Int.reduceEq, Int.reduceLT, Int.reduceLE, reduceCtorEq] <;> rfl, by simp only [SY, setArgs, off, agreeKind, partVals, vals, allocV, boxed, ldA, rdCells, oneB, aggD, aField, aFieldV, aExtract, eq_self, ne_eq, if_true, if_false, not_false_eq_true, Nat.reduceAdd, Nat.reduceSub, Nat.reduceMul, Nat.reduceLT, Nat.reduceEqDiff, Nat.reduceBEq, reduceIte, Int.reduceEq, Int.reduceLT, Int.reduceLE, reduceCtorEq] <;> rfl, by simp only [SY, setArgs, off, agreeKind, partVals, vals, allocV, boxed, ldA, rdCells, oneB, aggD, aField, aFieldV, aExtract, eq_self, ne_eq, if_true, if_false, not_false_eq_true, Nat.reduceAdd, Nat.reduceSub, Nat.reduceMul, Nat.reduceLT, Nat.reduceEqDiff, Nat.reduceBEq, reduceIte, Int.reduceEq, Int.reduceLT, Int.reduceLE, reduceCtorEq] <;> rfl, (Agree.refl S), Nat.le_refl _, rfl⟩ (by
        rintro m t S4 ⟨j, hi4_0, hi4_1, g4_2, g4_15, g4_16, g4_17, ga4, gn4, hd4⟩
        refine .run fun z he => ?_
        try simp (disch := first | omega | assumption) only [E0_G, SY, setArgs, off, agreeKind, partVals, vals, allocV, boxed, ldA, rdCells, oneB, aggD, aField, aFieldV, aExtract, eq_self, ne_eq, if_true, if_false, not_false_eq_true, Nat.reduceAdd, Nat.reduceSub, Nat.reduceMul, Nat.reduceLT, Nat.reduceEqDiff, Nat.reduceBEq, reduceIte, Int.reduceEq, Int.reduceLT, Int.reduceLE, reduceCtorEq, TY_EvA13, and_fold, or_fold, not_fold, g4_2, g4_15, g4_16, g4_17, w1, h2a, w3] at he
        rcases dP ((j : Int) < (l.length : Int)) with ⟨h5a, h5⟩ | ⟨h5a, h5⟩
        · skip
          have hx4 : l[j]? = some (l[j]'(by first | omega | simp; omega)) := List.getElem?_eq_getElem _
          generalize l[j]'_ = x4 at hx4
          obtain ⟨id6, of6, cc6, ty6, wr6, ex6, i6, j6, l6, q6⟩ := (hv_l).at (P := Tryz.prog) (t := 22) Tryz.underlying22 tz56 hx4
          have jr6 := j6
          have j6 := (ga4.2 id6 l6).trans jr6
          have m6_0 : cc6[of6]? = some (.int .i64 x4.f) := q6 0 (show 0 < 2 by decide)
          have m6_1 : cc6[of6 + 1]? = some (.int .i64 x4.l) := q6 1 (show 1 < 2 by decide)
          obtain ⟨S7, e7, n7, b7, a7⟩ := push_open S4 (.cells [.int .i64 0, .int .i64 0] 44 0 true true)
          have v6_7 := (a7.2 id6 (by omega)).trans j6
          have g7 : Agree S S7 := ga4.trans a7
          have s7 : E0.same S4 S7 = true := symEnv_same a7
          obtain ⟨S8, k8, n8, b8, q8⟩ := st_at (o := 0) (c' := [.int .i64 x4.f, .int .i64 x4.l]) (v := .agg #[.int .i64 x4.f, .int .i64 x4.l]) tz56 b7 rfl rfl (show 0 + 2 ≤ 2 by decide) rfl
          have v6_8 := (q8 id6 (by omega)).trans v6_7
          have g8 : Agree S S8 := ⟨by have := (g7).1; omega, fun id hid => (q8 id (by have := (g7).1; omega)).trans ((g7).2 id hid)⟩
          obtain ⟨S9, k9, a9⟩ := c133 (j : Int) x4.f x4.l  S8  (ht.agree g8)
          have l9 := a9.1
          have s9 : E0.same S8 S9 = true := symEnv_same a9
          have v6_9 := (a9.2 id6 (by omega)).trans v6_8
          have v7_9 := (a9.2 S4.next (by omega)).trans b8
          have g9 : Agree S S9 := g8.trans a9
          try simp (disch := first | omega | assumption) only [E0_G, SY, setArgs, off, agreeKind, partVals, vals, allocV, boxed, ldA, rdCells, oneB, aggD, aField, aFieldV, aExtract, eq_self, ne_eq, if_true, if_false, not_false_eq_true, Nat.reduceAdd, Nat.reduceSub, Nat.reduceMul, Nat.reduceLT, Nat.reduceEqDiff, Nat.reduceBEq, reduceIte, Int.reduceEq, Int.reduceLT, Int.reduceLE, reduceCtorEq, TY_EvA13, and_fold, or_fold, not_fold, g4_2, g4_15, g4_16, g4_17, w1, h2a, w3, h5a, i6, j6, m6_0, m6_1, v6_7, s7, e7, b7, v6_8, k8, b8, k9, s9, v6_9, v7_9] at he
          rcases dP ((r133 (j : Int) x4.f x4.l) = 0) with ⟨h10a, h10⟩ | ⟨h10a, h10⟩
          · skip
            have w11 : IntKind.i64.wrap ((j : Int) + 1) = ((j + 1 : Nat) : Int) := by rw [IntWalk.i64_in] <;> omega
            try simp (disch := first | omega | assumption) only [E0_G, SY, setArgs, off, agreeKind, partVals, vals, allocV, boxed, ldA, rdCells, oneB, aggD, aField, aFieldV, aExtract, eq_self, ne_eq, if_true, if_false, not_false_eq_true, Nat.reduceAdd, Nat.reduceSub, Nat.reduceMul, Nat.reduceLT, Nat.reduceEqDiff, Nat.reduceBEq, reduceIte, Int.reduceEq, Int.reduceLT, Int.reduceLE, reduceCtorEq, TY_EvA13, and_fold, or_fold, not_fold, g4_2, g4_15, g4_16, g4_17, w1, h2a, w3, h5a, i6, j6, m6_0, m6_1, v6_7, s7, e7, b7, v6_8, k8, b8, k9, s9, v6_9, v7_9, h10a, w11] at he
            rw [drop_cons' hx4] at hd4
            have hf := (show _ = (R132_0 l w (l.drop (j + 1)) (j + 1) : Sum (Int × Int) (Unit)) from (if_pos h10).trans (rfl)).symm.trans hd4
            exact .next he (m - 1) (by omega) ⟨(j + 1), by first | omega | (simp; omega) | simp, by first | omega | (simp; omega) | simp, (by simp only [SY, setArgs, off, agreeKind, partVals, vals, allocV, boxed, ldA, rdCells, oneB, aggD, aField, aFieldV, aExtract, eq_self, ne_eq, if_true, if_false, not_false_eq_true, Nat.reduceAdd, Nat.reduceSub, Nat.reduceMul, Nat.reduceLT, Nat.reduceEqDiff, Nat.reduceBEq, reduceIte, Int.reduceEq, Int.reduceLT, Int.reduceLE, reduceCtorEq, g4_2, g4_15, g4_16, g4_17] <;> rfl), (by simp only [SY, setArgs, off, agreeKind, partVals, vals, allocV, boxed, ldA, rdCells, oneB, aggD, aField, aFieldV, aExtract, eq_self, ne_eq, if_true, if_false, not_false_eq_true, Nat.reduceAdd, Nat.reduceSub, Nat.reduceMul, Nat.reduceLT, Nat.reduceEqDiff, Nat.reduceBEq, reduceIte, Int.reduceEq, Int.reduceLT, Int.reduceLE, reduceCtorEq, g4_2, g4_15, g4_16, g4_17] <;> rfl), (by simp only [SY, setArgs, off, agreeKind, partVals, vals, allocV, boxed, ldA, rdCells, oneB, aggD, aField, aFieldV, aExtract, eq_self, ne_eq, if_true, if_false, not_false_eq_true, Nat.reduceAdd, Nat.reduceSub, Nat.reduceMul, Nat.reduceLT, Nat.reduceEqDiff, Nat.reduceBEq, reduceIte, Int.reduceEq, Int.reduceLT, Int.reduceLE, reduceCtorEq, g4_2, g4_15, g4_16, g4_17] <;> rfl), (by simp only [SY, setArgs, off, agreeKind, partVals, vals, allocV, boxed, ldA, rdCells, oneB, aggD, aField, aFieldV, aExtract, eq_self, ne_eq, if_true, if_false, not_false_eq_true, Nat.reduceAdd, Nat.reduceSub, Nat.reduceMul, Nat.reduceLT, Nat.reduceEqDiff, Nat.reduceBEq, reduceIte, Int.reduceEq, Int.reduceLT, Int.reduceLE, reduceCtorEq, g4_2, g4_15, g4_16, g4_17] <;> rfl), g9, by omega, hf⟩
          · skip
            try simp (disch := first | omega | assumption) only [E0_G, SY, setArgs, off, agreeKind, partVals, vals, allocV, boxed, ldA, rdCells, oneB, aggD, aField, aFieldV, aExtract, eq_self, ne_eq, if_true, if_false, not_false_eq_true, Nat.reduceAdd, Nat.reduceSub, Nat.reduceMul, Nat.reduceLT, Nat.reduceEqDiff, Nat.reduceBEq, reduceIte, Int.reduceEq, Int.reduceLT, Int.reduceLE, reduceCtorEq, TY_EvA13, and_fold, or_fold, not_fold, g4_2, g4_15, g4_16, g4_17, w1, h2a, w3, h5a, i6, j6, m6_0, m6_1, v6_7, s7, e7, b7, v6_8, k8, b8, k9, s9, v6_9, v7_9, h10a] at he
            rw [drop_cons' hx4] at hd4
            have hf := (show _ = (.inl ((r133 (j : Int) x4.f x4.l), (j : Int)) : Sum (Int × Int) (Unit)) from (if_neg h10).trans (rfl)).symm.trans hd4
            exact .ret he (.inr ⟨rfl, ⟨(r133 (j : Int) x4.f x4.l), (j : Int), (by simp only [SY, setArgs, off, agreeKind, partVals, vals, allocV, boxed, ldA, rdCells, oneB, aggD, aField, aFieldV, aExtract, eq_self, ne_eq, if_true, if_false, not_false_eq_true, Nat.reduceAdd, Nat.reduceSub, Nat.reduceMul, Nat.reduceLT, Nat.reduceEqDiff, Nat.reduceBEq, reduceIte, Int.reduceEq, Int.reduceLT, Int.reduceLE, reduceCtorEq, g4_2, g4_15, g4_16, g4_17] <;> rfl), (by simp only [SY, setArgs, off, agreeKind, partVals, vals, allocV, boxed, ldA, rdCells, oneB, aggD, aField, aFieldV, aExtract, eq_self, ne_eq, if_true, if_false, not_false_eq_true, Nat.reduceAdd, Nat.reduceSub, Nat.reduceMul, Nat.reduceLT, Nat.reduceEqDiff, Nat.reduceBEq, reduceIte, Int.reduceEq, Int.reduceLT, Int.reduceLE, reduceCtorEq, g4_2, g4_15, g4_16, g4_17] <;> rfl), g9, hf.symm⟩⟩)
        · skip
          try simp (disch := first | omega | assumption) only [E0_G, SY, setArgs, off, agreeKind, partVals, vals, allocV, boxed, ldA, rdCells, oneB, aggD, aField, aFieldV, aExtract, eq_self, ne_eq, if_true, if_false, not_false_eq_true, Nat.reduceAdd, Nat.reduceSub, Nat.reduceMul, Nat.reduceLT, Nat.reduceEqDiff, Nat.reduceBEq, reduceIte, Int.reduceEq, Int.reduceLT, Int.reduceLE, reduceCtorEq, TY_EvA13, and_fold, or_fold, not_fold, g4_2, g4_15, g4_16, g4_17, w1, h2a, w3, h5a] at he
          rw [List.drop_eq_nil_of_le (show l.length ≤ j by omega)] at hd4
          have hf := (show _ = (.inr () : Sum (Int × Int) (Unit)) from rfl).symm.trans hd4
          exact .exit he (.inl ⟨rfl, ⟨j, ga4, by omega, by first | omega | assumption | simp, hf.symm⟩⟩))
    rcases hQ4 with ⟨rfl, hQ4⟩ | ⟨rfl, hQ4⟩
    · skip
      obtain ⟨j, ge4, gm4, hj4_0, hR4⟩ := hQ4
      try simp (disch := first | omega | assumption) only [E0_G, SY, setArgs, off, agreeKind, partVals, vals, allocV, boxed, ldA, rdCells, oneB, aggD, aField, aFieldV, aExtract, eq_self, ne_eq, if_true, if_false, not_false_eq_true, Nat.reduceAdd, Nat.reduceSub, Nat.reduceMul, Nat.reduceLT, Nat.reduceEqDiff, Nat.reduceBEq, reduceIte, Int.reduceEq, Int.reduceLT, Int.reduceLE, reduceCtorEq, TY_EvA13, and_fold, or_fold, not_fold, w1, h2a, w3] at hz
      have hr : r132 l w = (0, -1) := (if_neg h2).trans ((onSum_inr hR4).trans (rfl))
      exact fin hz (by rw [hr]) ge4
    · skip
      obtain ⟨r6, r7, ge4_6, ge4_7, ge4, hR4⟩ := hQ4
      try simp (disch := first | omega | assumption) only [E0_G, SY, setArgs, off, agreeKind, partVals, vals, allocV, boxed, ldA, rdCells, oneB, aggD, aField, aFieldV, aExtract, eq_self, ne_eq, if_true, if_false, not_false_eq_true, Nat.reduceAdd, Nat.reduceSub, Nat.reduceMul, Nat.reduceLT, Nat.reduceEqDiff, Nat.reduceBEq, reduceIte, Int.reduceEq, Int.reduceLT, Int.reduceLE, reduceCtorEq, TY_EvA13, and_fold, or_fold, not_fold, w1, h2a, w3, ge4_6, ge4_7] at hz
      have hr : r132 l w = (r6, r7) := (if_neg h2).trans ((onSum_inl hR4).trans (rfl))
      exact fin hz (by rw [hr]) ge4

def r91 (l : List Ar) : Int := (r132 (l : List Ar) 200).1
set_option maxHeartbeats 2000000 in
theorem c91 (l : List Ar) (hn : l.length ≤ 1000)  (S : AS) (v_l : Value) (hv_l : Lst S v_l l) (ht : Tab S) :
    ∃ S', (evL Tryz.prog E0).call 60 #[v_l] S = some (.int .i64 (r91 l), S') ∧ Agree S S' := by
  generalize hz : (evL Tryz.prog E0).call 60 _ _ = z
  rw [L_call, evCall_said rfl Tryz.func60 rfl (by decide) Tryz.ntmps60 Tryz.results60] at hz
  obtain ⟨S1, k1, a1⟩ := c132 (l : List Ar) 200 (by first | omega | (simp; omega) | (simp; done) | assumption) S (v_l) (hv_l) ht
  have l1 := a1.1
  have s1 : E0.same S S1 = true := symEnv_same a1
  have g1 : Agree S S1 := a1
  try simp (disch := first | omega | assumption) only [E0_G, SY, setArgs, off, agreeKind, partVals, vals, allocV, boxed, ldA, rdCells, oneB, aggD, aField, aFieldV, aExtract, eq_self, ne_eq, if_true, if_false, not_false_eq_true, Nat.reduceAdd, Nat.reduceSub, Nat.reduceMul, Nat.reduceLT, Nat.reduceEqDiff, Nat.reduceBEq, reduceIte, Int.reduceEq, Int.reduceLT, Int.reduceLE, reduceCtorEq, TY_EvA13, and_fold, or_fold, not_fold, k1, s1] at hz
  have hr : r91 l = (r132 (l : List Ar) 200).1 := rfl
  exact fin hz (by rw [hr]) g1

def r55 (a b c d e : Int) (w : Int) (u : Int) : (Int × Int × Int × Int × Int) × Int := (if (errV (MarkOk a b c d e)) = 0 then (if w < 0 then ((0, 0, 0, 0, 0), 1) else (if 43200 < w then ((0, 0, 0, 0, 0), 1) else (if 0 ≤ u ∧ u ≤ 4095 then ((((r92 a b w)).1, ((r92 a b w)).2, c, notV d u, notV e u), 0) else ((0, 0, 0, 0, 0), 1)))) else ((0, 0, 0, 0, 0), 1))
set_option maxHeartbeats 2000000 in
theorem c55 (a b c d e : Int) (w : Int) (u : Int)  (S : AS)  (ht : Tab S) :
    ∃ S', (evL Tryz.prog E0).call 30 #[.agg #[.int .i64 a, .int .i64 b, .int .i64 c, .int .i64 d, .int .i64 e], .int .i64 w, .int .i64 u] S = some (.tuple #[.agg #[.int .i64 ((r55 a b c d e w u).1.1), .int .i64 ((r55 a b c d e w u).1.2.1), .int .i64 ((r55 a b c d e w u).1.2.2.1), .int .i64 ((r55 a b c d e w u).1.2.2.2.1), .int .i64 ((r55 a b c d e w u).1.2.2.2.2)], .int .i64 (r55 a b c d e w u).2], S') ∧ Agree S S' := by
  generalize hz : (evL Tryz.prog E0).call 30 _ _ = z
  rw [L_call, evCall_said rfl Tryz.func30 rfl (by decide) Tryz.ntmps30 Tryz.results30] at hz
  obtain ⟨S1, e1, n1, b1, a1⟩ := push_open S (.cells [.int .i64 a, .int .i64 b, .int .i64 c, .int .i64 d, .int .i64 e] 46 0 true true)
  have g1 : Agree S S1 := a1
  have s1 : E0.same S S1 = true := symEnv_same a1
  obtain ⟨S2, e2, n2, b2, a2⟩ := push_open S1 (.cells [.int .i64 0, .int .i64 0, .int .i64 0, .int .i64 0, .int .i64 0] 46 0 true true)
  have v1_2 := (a2.2 S.next (by omega)).trans b1
  have g2 : Agree S S2 := g1.trans a2
  have s2 : E0.same S1 S2 = true := symEnv_same a2
  obtain ⟨S3, k3, a3⟩ := c54 a b c d e S2 (ht.agree g2) 
  have l3 := a3.1
  have s3 : E0.same S2 S3 = true := symEnv_same a3
  have v1_3 := (a3.2 S.next (by omega)).trans v1_2
  have v2_3 := (a3.2 S1.next (by omega)).trans b2
  have g3 : Agree S S3 := g2.trans a3
  try simp (disch := first | omega | assumption) only [E0_G, SY, setArgs, off, agreeKind, partVals, vals, allocV, boxed, ldA, rdCells, oneB, aggD, aField, aFieldV, aExtract, eq_self, ne_eq, if_true, if_false, not_false_eq_true, Nat.reduceAdd, Nat.reduceSub, Nat.reduceMul, Nat.reduceLT, Nat.reduceEqDiff, Nat.reduceBEq, reduceIte, Int.reduceEq, Int.reduceLT, Int.reduceLE, reduceCtorEq, TY_EvA13, and_fold, or_fold, not_fold, s1, e1, b1, v1_2, s2, e2, b2, k3, s3, v1_3, v2_3] at hz
  rcases dP ((errV (MarkOk a b c d e)) = 0) with ⟨h4a, h4⟩ | ⟨h4a, h4⟩
  · skip
    try simp (disch := first | omega | assumption) only [E0_G, SY, setArgs, off, agreeKind, partVals, vals, allocV, boxed, ldA, rdCells, oneB, aggD, aField, aFieldV, aExtract, eq_self, ne_eq, if_true, if_false, not_false_eq_true, Nat.reduceAdd, Nat.reduceSub, Nat.reduceMul, Nat.reduceLT, Nat.reduceEqDiff, Nat.reduceBEq, reduceIte, Int.reduceEq, Int.reduceLT, Int.reduceLE, reduceCtorEq, TY_EvA13, and_fold, or_fold, not_fold, s1, e1, b1, v1_2, s2, e2, b2, k3, s3, v1_3, v2_3, h4a] at hz
    rcases dP (w < 0) with ⟨h5a, h5⟩ | ⟨h5a, h5⟩
    · skip
      have y6 : aBuild Tryz.prog 46 [] = some (.agg #[.int .i64 0, .int .i64 0, .int .i64 0, .int .i64 0, .int .i64 0]) := by kernel_rfl
      obtain ⟨S7, k7, n7, b7, q7⟩ := st_at (o := 0) (c' := [.int .i64 0, .int .i64 0, .int .i64 0, .int .i64 0, .int .i64 0]) (v := .agg #[.int .i64 0, .int .i64 0, .int .i64 0, .int .i64 0, .int .i64 0]) tz58 v2_3 rfl rfl (show 0 + 5 ≤ 5 by decide) rfl
      have v1_7 := (q7 S.next (by omega)).trans v1_3
      have g7 : Agree S S7 := ⟨by have := (g3).1; omega, fun id hid => (q7 id (by have := (g3).1; omega)).trans ((g3).2 id hid)⟩
      try simp (disch := first | omega | assumption) only [E0_G, SY, setArgs, off, agreeKind, partVals, vals, allocV, boxed, ldA, rdCells, oneB, aggD, aField, aFieldV, aExtract, eq_self, ne_eq, if_true, if_false, not_false_eq_true, Nat.reduceAdd, Nat.reduceSub, Nat.reduceMul, Nat.reduceLT, Nat.reduceEqDiff, Nat.reduceBEq, reduceIte, Int.reduceEq, Int.reduceLT, Int.reduceLE, reduceCtorEq, TY_EvA13, and_fold, or_fold, not_fold, s1, e1, b1, v1_2, s2, e2, b2, k3, s3, v1_3, v2_3, h4a, h5a, y6, v1_7, k7, b7] at hz
      have hr : r55 a b c d e w u = ((0, 0, 0, 0, 0), 1) := (if_pos h4).trans ((if_pos h5).trans (rfl))
      exact fin hz (by rw [hr]) g7
    · skip
      try simp (disch := first | omega | assumption) only [E0_G, SY, setArgs, off, agreeKind, partVals, vals, allocV, boxed, ldA, rdCells, oneB, aggD, aField, aFieldV, aExtract, eq_self, ne_eq, if_true, if_false, not_false_eq_true, Nat.reduceAdd, Nat.reduceSub, Nat.reduceMul, Nat.reduceLT, Nat.reduceEqDiff, Nat.reduceBEq, reduceIte, Int.reduceEq, Int.reduceLT, Int.reduceLE, reduceCtorEq, TY_EvA13, and_fold, or_fold, not_fold, s1, e1, b1, v1_2, s2, e2, b2, k3, s3, v1_3, v2_3, h4a, h5a] at hz
      rcases dP (43200 < w) with ⟨h8a, h8⟩ | ⟨h8a, h8⟩
      · skip
        have y9 : aBuild Tryz.prog 46 [] = some (.agg #[.int .i64 0, .int .i64 0, .int .i64 0, .int .i64 0, .int .i64 0]) := by kernel_rfl
        obtain ⟨S10, k10, n10, b10, q10⟩ := st_at (o := 0) (c' := [.int .i64 0, .int .i64 0, .int .i64 0, .int .i64 0, .int .i64 0]) (v := .agg #[.int .i64 0, .int .i64 0, .int .i64 0, .int .i64 0, .int .i64 0]) tz58 v2_3 rfl rfl (show 0 + 5 ≤ 5 by decide) rfl
        have v1_10 := (q10 S.next (by omega)).trans v1_3
        have g10 : Agree S S10 := ⟨by have := (g3).1; omega, fun id hid => (q10 id (by have := (g3).1; omega)).trans ((g3).2 id hid)⟩
        try simp (disch := first | omega | assumption) only [E0_G, SY, setArgs, off, agreeKind, partVals, vals, allocV, boxed, ldA, rdCells, oneB, aggD, aField, aFieldV, aExtract, eq_self, ne_eq, if_true, if_false, not_false_eq_true, Nat.reduceAdd, Nat.reduceSub, Nat.reduceMul, Nat.reduceLT, Nat.reduceEqDiff, Nat.reduceBEq, reduceIte, Int.reduceEq, Int.reduceLT, Int.reduceLE, reduceCtorEq, TY_EvA13, and_fold, or_fold, not_fold, s1, e1, b1, v1_2, s2, e2, b2, k3, s3, v1_3, v2_3, h4a, h5a, h8a, y9, v1_10, k10, b10] at hz
        have hr : r55 a b c d e w u = ((0, 0, 0, 0, 0), 1) := (if_pos h4).trans ((if_neg h5).trans ((if_pos h8).trans (rfl)))
        exact fin hz (by rw [hr]) g10
      · skip
        have k11 := c101 u S3
        try simp (disch := first | omega | assumption) only [E0_G, SY, setArgs, off, agreeKind, partVals, vals, allocV, boxed, ldA, rdCells, oneB, aggD, aField, aFieldV, aExtract, eq_self, ne_eq, if_true, if_false, not_false_eq_true, Nat.reduceAdd, Nat.reduceSub, Nat.reduceMul, Nat.reduceLT, Nat.reduceEqDiff, Nat.reduceBEq, reduceIte, Int.reduceEq, Int.reduceLT, Int.reduceLE, reduceCtorEq, TY_EvA13, and_fold, or_fold, not_fold, s1, e1, b1, v1_2, s2, e2, b2, k3, s3, v1_3, v2_3, h4a, h5a, h8a, k11] at hz
        rcases dP (0 ≤ u ∧ u ≤ 4095) with ⟨h12a, h12⟩ | ⟨h12a, h12⟩
        · skip
          try simp (disch := first | omega | assumption) only [E0_G, SY, setArgs, off, agreeKind, partVals, vals, allocV, boxed, ldA, rdCells, oneB, aggD, aField, aFieldV, aExtract, eq_self, ne_eq, if_true, if_false, not_false_eq_true, Nat.reduceAdd, Nat.reduceSub, Nat.reduceMul, Nat.reduceLT, Nat.reduceEqDiff, Nat.reduceBEq, reduceIte, Int.reduceEq, Int.reduceLT, Int.reduceLE, reduceCtorEq, TY_EvA13, and_fold, or_fold, not_fold, s1, e1, b1, v1_2, s2, e2, b2, k3, s3, v1_3, v2_3, h4a, h5a, h8a, k11, h12a] at hz
          rw [code_draws _ _ _ (by kernel_rfl)] at hz
          generalize hnd13 : needy _ = nd13 at hz
          have nn13_15 : nd13 15 = false := by rw [← hnd13]; kernel_rfl
          obtain ⟨S14, k14, a14⟩ := c92 a b w  S3  (ht.agree g3)
          have l14 := a14.1
          have s14 : E0.same S3 S14 = true := symEnv_same a14
          have v1_14 := (a14.2 S.next (by omega)).trans v1_3
          have v2_14 := (a14.2 S1.next (by omega)).trans v2_3
          have g14 : Agree S S14 := g3.trans a14
          have y15 : aBuild Tryz.prog 46 [(0, .agg #[.int .i64 (((r92 a b w)).1), .int .i64 (((r92 a b w)).2)]), (1, .int .i64 c), (2, .int .i64 (notV d u)), (3, .int .i64 (notV e u))] = some (.agg #[.int .i64 (((r92 a b w)).1), .int .i64 (((r92 a b w)).2), .int .i64 c, .int .i64 (notV d u), .int .i64 (notV e u)]) := by kernel_rfl
          obtain ⟨S16, k16, n16, b16, q16⟩ := st_at (o := 0) (c' := [.int .i64 (((r92 a b w)).1), .int .i64 (((r92 a b w)).2), .int .i64 c, .int .i64 (notV d u), .int .i64 (notV e u)]) (v := .agg #[.int .i64 (((r92 a b w)).1), .int .i64 (((r92 a b w)).2), .int .i64 c, .int .i64 (notV d u), .int .i64 (notV e u)]) tz58 v2_14 rfl rfl (show 0 + 5 ≤ 5 by decide) rfl
          have v1_16 := (q16 S.next (by omega)).trans v1_14
          have g16 : Agree S S16 := ⟨by have := (g14).1; omega, fun id hid => (q16 id (by have := (g14).1; omega)).trans ((g14).2 id hid)⟩
          try simp (disch := first | omega | assumption) only [E0_G, SY, setArgs, off, agreeKind, partVals, vals, allocV, boxed, ldA, rdCells, oneB, aggD, aField, aFieldV, aExtract, eq_self, ne_eq, if_true, if_false, not_false_eq_true, Nat.reduceAdd, Nat.reduceSub, Nat.reduceMul, Nat.reduceLT, Nat.reduceEqDiff, Nat.reduceBEq, reduceIte, Int.reduceEq, Int.reduceLT, Int.reduceLE, reduceCtorEq, TY_EvA13, and_fold, or_fold, not_fold, s1, e1, b1, v1_2, s2, e2, b2, k3, s3, v1_3, v2_3, h4a, h5a, h8a, k11, h12a, nn13_15, store_agree, store_refl E0_same, k14, s14, v1_14, v2_14, y15, v1_16, k16, b16] at hz
          have hr : r55 a b c d e w u = ((((r92 a b w)).1, ((r92 a b w)).2, c, notV d u, notV e u), 0) := (if_pos h4).trans ((if_neg h5).trans ((if_neg h8).trans ((if_pos h12).trans (rfl))))
          exact fin hz (by rw [hr]) g16
        · skip
          have y17 : aBuild Tryz.prog 46 [] = some (.agg #[.int .i64 0, .int .i64 0, .int .i64 0, .int .i64 0, .int .i64 0]) := by kernel_rfl
          obtain ⟨S18, k18, n18, b18, q18⟩ := st_at (o := 0) (c' := [.int .i64 0, .int .i64 0, .int .i64 0, .int .i64 0, .int .i64 0]) (v := .agg #[.int .i64 0, .int .i64 0, .int .i64 0, .int .i64 0, .int .i64 0]) tz58 v2_3 rfl rfl (show 0 + 5 ≤ 5 by decide) rfl
          have v1_18 := (q18 S.next (by omega)).trans v1_3
          have g18 : Agree S S18 := ⟨by have := (g3).1; omega, fun id hid => (q18 id (by have := (g3).1; omega)).trans ((g3).2 id hid)⟩
          try simp (disch := first | omega | assumption) only [E0_G, SY, setArgs, off, agreeKind, partVals, vals, allocV, boxed, ldA, rdCells, oneB, aggD, aField, aFieldV, aExtract, eq_self, ne_eq, if_true, if_false, not_false_eq_true, Nat.reduceAdd, Nat.reduceSub, Nat.reduceMul, Nat.reduceLT, Nat.reduceEqDiff, Nat.reduceBEq, reduceIte, Int.reduceEq, Int.reduceLT, Int.reduceLE, reduceCtorEq, TY_EvA13, and_fold, or_fold, not_fold, s1, e1, b1, v1_2, s2, e2, b2, k3, s3, v1_3, v2_3, h4a, h5a, h8a, k11, h12a, y17, v1_18, k18, b18] at hz
          have hr : r55 a b c d e w u = ((0, 0, 0, 0, 0), 1) := (if_pos h4).trans ((if_neg h5).trans ((if_neg h8).trans ((if_neg h12).trans (rfl))))
          exact fin hz (by rw [hr]) g18
  · skip
    have y19 : aBuild Tryz.prog 46 [] = some (.agg #[.int .i64 0, .int .i64 0, .int .i64 0, .int .i64 0, .int .i64 0]) := by kernel_rfl
    obtain ⟨S20, k20, n20, b20, q20⟩ := st_at (o := 0) (c' := [.int .i64 0, .int .i64 0, .int .i64 0, .int .i64 0, .int .i64 0]) (v := .agg #[.int .i64 0, .int .i64 0, .int .i64 0, .int .i64 0, .int .i64 0]) tz58 v2_3 rfl rfl (show 0 + 5 ≤ 5 by decide) rfl
    have v1_20 := (q20 S.next (by omega)).trans v1_3
    have g20 : Agree S S20 := ⟨by have := (g3).1; omega, fun id hid => (q20 id (by have := (g3).1; omega)).trans ((g3).2 id hid)⟩
    try simp (disch := first | omega | assumption) only [E0_G, SY, setArgs, off, agreeKind, partVals, vals, allocV, boxed, ldA, rdCells, oneB, aggD, aField, aFieldV, aExtract, eq_self, ne_eq, if_true, if_false, not_false_eq_true, Nat.reduceAdd, Nat.reduceSub, Nat.reduceMul, Nat.reduceLT, Nat.reduceEqDiff, Nat.reduceBEq, reduceIte, Int.reduceEq, Int.reduceLT, Int.reduceLE, reduceCtorEq, TY_EvA13, and_fold, or_fold, not_fold, s1, e1, b1, v1_2, s2, e2, b2, k3, s3, v1_3, v2_3, h4a, y19, v1_20, k20, b20] at hz
    have hr : r55 a b c d e w u = ((0, 0, 0, 0, 0), 1) := (if_neg h4).trans (rfl)
    exact fin hz (by rw [hr]) g20

end Great
end Go.Proofs
