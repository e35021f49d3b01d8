/-
  BJ: EvA15, EvM3.
-/
import Derived.Test.YtgbjgljchkodjaaGreatDoorBI
section
/-
  The great seat of stage 1: Sharpen, and the law DialKnows, by the generator.
-/
set_option linter.unusedSimpArgs false
set_option linter.unusedVariables false
namespace Go.Proofs
namespace Great
open Go Go.RowKit Go.Aev
set_option maxRecDepth 100000
/-- What is known of the types. -/
theorem TY_EvA15 : type_of% (And.intro (And.intro (And.intro (And.intro (And.intro (And.intro Tryz.underlying3 tz3) (And.intro tt3 (And.intro t0_3 Tryz.underlying22))) (And.intro (And.intro tz22 (And.intro tt22 t0_22)) (And.intro Tryz.underlying56 (And.intro tz43 tt43)))) (And.intro (And.intro (And.intro t0_43 Tryz.underlying59) (And.intro tz44 (And.intro tt44 t0_44))) (And.intro (And.intro Tryz.underlying60 (And.intro tz45 tt45)) (And.intro t0_45 (And.intro Tryz.underlying62 tz51))))) (And.intro (And.intro (And.intro (And.intro tt51 t0_51) (And.intro Tryz.underlying63 (And.intro tz52 tt52))) (And.intro (And.intro t0_52 (And.intro Tryz.underlying43 tz55)) (And.intro tt55 (And.intro t0_55 Tryz.underlying44)))) (And.intro (And.intro (And.intro tz56 tt56) (And.intro t0_56 (And.intro Tryz.underlying45 tz57))) (And.intro (And.intro tt57 (And.intro t0_57 Tryz.underlying46)) (And.intro tz58 (And.intro tt58 t0_58)))))) (And.intro (And.intro (And.intro (And.intro (And.intro Tryz.underlying66 tz77) (And.intro tt77 (And.intro t0_77 Tryz.underlying73))) (And.intro (And.intro tz80 (And.intro tt80 t0_80)) (And.intro Tryz.underlying82 (And.intro tz90 tt90)))) (And.intro (And.intro (And.intro t0_90 Tryz.underlying89) (And.intro tz110 (And.intro tt110 t0_110))) (And.intro (And.intro Tryz.underlying94 (And.intro tz115 tt115)) (And.intro t0_115 (And.intro Tryz.underlying95 tz116))))) (And.intro (And.intro (And.intro (And.intro tt116 t0_116) (And.intro Tryz.underlying76 (And.intro tz123 tt123))) (And.intro (And.intro t0_123 (And.intro Tryz.underlying136 tz177)) (And.intro tt177 (And.intro t0_177 Tryz.underlying137)))) (And.intro (And.intro (And.intro tz178 tt178) (And.intro t0_178 (And.intro Tryz.underlying141 tz182))) (And.intro (And.intro tt182 (And.intro t0_182 Tryz.underlying142)) (And.intro tz183 (And.intro tt183 t0_183))))))) := (And.intro (And.intro (And.intro (And.intro (And.intro (And.intro Tryz.underlying3 tz3) (And.intro tt3 (And.intro t0_3 Tryz.underlying22))) (And.intro (And.intro tz22 (And.intro tt22 t0_22)) (And.intro Tryz.underlying56 (And.intro tz43 tt43)))) (And.intro (And.intro (And.intro t0_43 Tryz.underlying59) (And.intro tz44 (And.intro tt44 t0_44))) (And.intro (And.intro Tryz.underlying60 (And.intro tz45 tt45)) (And.intro t0_45 (And.intro Tryz.underlying62 tz51))))) (And.intro (And.intro (And.intro (And.intro tt51 t0_51) (And.intro Tryz.underlying63 (And.intro tz52 tt52))) (And.intro (And.intro t0_52 (And.intro Tryz.underlying43 tz55)) (And.intro tt55 (And.intro t0_55 Tryz.underlying44)))) (And.intro (And.intro (And.intro tz56 tt56) (And.intro t0_56 (And.intro Tryz.underlying45 tz57))) (And.intro (And.intro tt57 (And.intro t0_57 Tryz.underlying46)) (And.intro tz58 (And.intro tt58 t0_58)))))) (And.intro (And.intro (And.intro (And.intro (And.intro Tryz.underlying66 tz77) (And.intro tt77 (And.intro t0_77 Tryz.underlying73))) (And.intro (And.intro tz80 (And.intro tt80 t0_80)) (And.intro Tryz.underlying82 (And.intro tz90 tt90)))) (And.intro (And.intro (And.intro t0_90 Tryz.underlying89) (And.intro tz110 (And.intro tt110 t0_110))) (And.intro (And.intro Tryz.underlying94 (And.intro tz115 tt115)) (And.intro t0_115 (And.intro Tryz.underlying95 tz116))))) (And.intro (And.intro (And.intro (And.intro tt116 t0_116) (And.intro Tryz.underlying76 (And.intro tz123 tt123))) (And.intro (And.intro t0_123 (And.intro Tryz.underlying136 tz177)) (And.intro tt177 (And.intro t0_177 Tryz.underlying137)))) (And.intro (And.intro (And.intro tz178 tt178) (And.intro t0_178 (And.intro Tryz.underlying141 tz182))) (And.intro (And.intro tt182 (And.intro t0_182 Tryz.underlying142)) (And.intro tz183 (And.intro tt183 t0_183)))))))
def r57 (a b c d e : Int) (aa ba ca da ea : Int) : (Int × Int × Int × Int × Int) × Int := (if (errV (MarkOk a b c d e)) = 0 then (if (errV (MarkOk aa ba ca da ea)) = 0 then (if c = ca then (if (andV (orV d da) (orV e ea)) = 0 then (if ((r25 ([(⟨a, b⟩ : Ar)]) ([(⟨aa, ba⟩ : Ar)])).length : Int) = 0 then ((0, 0, 0, 0, 0), 5) else (if 1 < ((r25 ([(⟨a, b⟩ : Ar)]) ([(⟨aa, ba⟩ : Ar)])).length : Int) then ((0, 0, 0, 0, 0), 3) else (((lget (r25 ([(⟨a, b⟩ : Ar)]) ([(⟨aa, ba⟩ : Ar)])) 0).f, (lget (r25 ([(⟨a, b⟩ : Ar)]) ([(⟨aa, ba⟩ : Ar)])) 0).l, c, orV d da, orV e ea), 0))) else ((0, 0, 0, 0, 0), 9)) else ((0, 0, 0, 0, 0), 9)) else ((0, 0, 0, 0, 0), 1)) else ((0, 0, 0, 0, 0), 1))
set_option maxHeartbeats 2000000 in
theorem c57 (a b c d e : Int) (aa ba ca da ea : Int)  (S : AS)  (ht : Tab S) :
    ∃ S', (evL Tryz.prog E0).call 32 #[.agg #[.int .i64 a, .int .i64 b, .int .i64 c, .int .i64 d, .int .i64 e], .agg #[.int .i64 aa, .int .i64 ba, .int .i64 ca, .int .i64 da, .int .i64 ea]] S = some (.tuple #[.agg #[.int .i64 ((r57 a b c d e aa ba ca da ea).1.1), .int .i64 ((r57 a b c d e aa ba ca da ea).1.2.1), .int .i64 ((r57 a b c d e aa ba ca da ea).1.2.2.1), .int .i64 ((r57 a b c d e aa ba ca da ea).1.2.2.2.1), .int .i64 ((r57 a b c d e aa ba ca da ea).1.2.2.2.2)], .int .i64 (r57 a b c d e aa ba ca da ea).2], S') ∧ Agree S S' := by
  generalize hz : (evL Tryz.prog E0).call 32 _ _ = z
  rw [L_call, evCall_said rfl Tryz.func32 rfl (by decide) Tryz.ntmps32 Tryz.results32] at hz
  obtain ⟨S1, e1, n1, b1, a1⟩ := push_open S (.cells [.int .i64 a, .int .i64 b, .int .i64 c, .int .i64 d, .int .i64 e] 46 0 true true)
  have g1 : Agree S S1 := a1
  have s1 : E0.same S S1 = true := symEnv_same a1
  obtain ⟨S2, e2, n2, b2, a2⟩ := push_open S1 (.cells [.int .i64 aa, .int .i64 ba, .int .i64 ca, .int .i64 da, .int .i64 ea] 46 0 true true)
  have v1_2 := (a2.2 S.next (by omega)).trans b1
  have g2 : Agree S S2 := g1.trans a2
  have s2 : E0.same S1 S2 = true := symEnv_same a2
  obtain ⟨S3, e3, n3, b3, a3⟩ := push_open S2 (.cells [.int .i64 0, .int .i64 0, .int .i64 0, .int .i64 0, .int .i64 0] 46 0 true true)
  have v1_3 := (a3.2 S.next (by omega)).trans v1_2
  have v2_3 := (a3.2 S1.next (by omega)).trans b2
  have g3 : Agree S S3 := g2.trans a3
  have s3 : E0.same S2 S3 = true := symEnv_same a3
  obtain ⟨S4, k4, a4⟩ := c54 a b c d e S3 (ht.agree g3) 
  have l4 := a4.1
  have s4 : E0.same S3 S4 = true := symEnv_same a4
  have v1_4 := (a4.2 S.next (by omega)).trans v1_3
  have v2_4 := (a4.2 S1.next (by omega)).trans v2_3
  have v3_4 := (a4.2 S2.next (by omega)).trans b3
  have g4 : Agree S S4 := g3.trans a4
  try simp (disch := first | omega | assumption) only [E0_G, SY, setArgs, off, agreeKind, partVals, vals, allocV, boxed, ldA, rdCells, oneB, aggD, aField, aFieldV, aExtract, eq_self, ne_eq, if_true, if_false, not_false_eq_true, Nat.reduceAdd, Nat.reduceSub, Nat.reduceMul, Nat.reduceLT, Nat.reduceEqDiff, Nat.reduceBEq, reduceIte, Int.reduceEq, Int.reduceLT, Int.reduceLE, reduceCtorEq, TY_EvA15, and_fold, or_fold, not_fold, s1, e1, b1, v1_2, s2, e2, b2, v1_3, v2_3, s3, e3, b3, k4, s4, v1_4, v2_4, v3_4] at hz
  rcases dP ((errV (MarkOk a b c d e)) = 0) with ⟨h5a, h5⟩ | ⟨h5a, h5⟩
  · skip
    obtain ⟨S6, k6, a6⟩ := c54 aa ba ca da ea S4 (ht.agree g4) 
    have l6 := a6.1
    have s6 : E0.same S4 S6 = true := symEnv_same a6
    have v1_6 := (a6.2 S.next (by omega)).trans v1_4
    have v2_6 := (a6.2 S1.next (by omega)).trans v2_4
    have v3_6 := (a6.2 S2.next (by omega)).trans v3_4
    have g6 : Agree S S6 := g4.trans a6
    try simp (disch := first | omega | assumption) only [E0_G, SY, setArgs, off, agreeKind, partVals, vals, allocV, boxed, ldA, rdCells, oneB, aggD, aField, aFieldV, aExtract, eq_self, ne_eq, if_true, if_false, not_false_eq_true, Nat.reduceAdd, Nat.reduceSub, Nat.reduceMul, Nat.reduceLT, Nat.reduceEqDiff, Nat.reduceBEq, reduceIte, Int.reduceEq, Int.reduceLT, Int.reduceLE, reduceCtorEq, TY_EvA15, and_fold, or_fold, not_fold, s1, e1, b1, v1_2, s2, e2, b2, v1_3, v2_3, s3, e3, b3, k4, s4, v1_4, v2_4, v3_4, h5a, k6, s6, v1_6, v2_6, v3_6] at hz
    rcases dP ((errV (MarkOk aa ba ca da ea)) = 0) with ⟨h7a, h7⟩ | ⟨h7a, h7⟩
    · skip
      have y8 : aBuild Tryz.prog 46 [(1, .int .i64 c), (2, .int .i64 (orV d da)), (3, .int .i64 (orV e ea))] = some (.agg #[.int .i64 0, .int .i64 0, .int .i64 c, .int .i64 (orV d da), .int .i64 (orV e ea)]) := by kernel_rfl
      obtain ⟨S9, e9, n9, b9, a9⟩ := push_open S6 (.cells [.int .i64 0, .int .i64 0, .int .i64 0, .int .i64 0, .int .i64 0] 46 0 true true)
      have v1_9 := (a9.2 S.next (by omega)).trans v1_6
      have v2_9 := (a9.2 S1.next (by omega)).trans v2_6
      have v3_9 := (a9.2 S2.next (by omega)).trans v3_6
      have g9 : Agree S S9 := g6.trans a9
      have s9 : E0.same S6 S9 = true := symEnv_same a9
      obtain ⟨S10, k10, n10, b10, q10⟩ := st_at (o := 0) (c' := [.int .i64 0, .int .i64 0, .int .i64 c, .int .i64 (orV d da), .int .i64 (orV e ea)]) (v := .agg #[.int .i64 0, .int .i64 0, .int .i64 c, .int .i64 (orV d da), .int .i64 (orV e ea)]) tz58 b9 rfl rfl (show 0 + 5 ≤ 5 by decide) rfl
      have v1_10 := (q10 S.next (by omega)).trans v1_9
      have v2_10 := (q10 S1.next (by omega)).trans v2_9
      have v3_10 := (q10 S2.next (by omega)).trans v3_9
      have g10 : Agree S S10 := ⟨by have := (g9).1; omega, fun id hid => (q10 id (by have := (g9).1; omega)).trans ((g9).2 id hid)⟩
      try simp (disch := first | omega | assumption) only [E0_G, SY, setArgs, off, agreeKind, partVals, vals, allocV, boxed, ldA, rdCells, oneB, aggD, aField, aFieldV, aExtract, eq_self, ne_eq, if_true, if_false, not_false_eq_true, Nat.reduceAdd, Nat.reduceSub, Nat.reduceMul, Nat.reduceLT, Nat.reduceEqDiff, Nat.reduceBEq, reduceIte, Int.reduceEq, Int.reduceLT, Int.reduceLE, reduceCtorEq, TY_EvA15, and_fold, or_fold, not_fold, s1, e1, b1, v1_2, s2, e2, b2, v1_3, v2_3, s3, e3, b3, k4, s4, v1_4, v2_4, v3_4, h5a, k6, s6, v1_6, v2_6, v3_6, h7a, y8, v1_9, v2_9, v3_9, s9, e9, b9, v1_10, v2_10, v3_10, k10, b10] at hz
      rcases dP (c = ca) with ⟨h11a, h11⟩ | ⟨h11a, h11⟩
      · skip
        try simp (disch := first | omega | assumption) only [E0_G, SY, setArgs, off, agreeKind, partVals, vals, allocV, boxed, ldA, rdCells, oneB, aggD, aField, aFieldV, aExtract, eq_self, ne_eq, if_true, if_false, not_false_eq_true, Nat.reduceAdd, Nat.reduceSub, Nat.reduceMul, Nat.reduceLT, Nat.reduceEqDiff, Nat.reduceBEq, reduceIte, Int.reduceEq, Int.reduceLT, Int.reduceLE, reduceCtorEq, TY_EvA15, and_fold, or_fold, not_fold, s1, e1, b1, v1_2, s2, e2, b2, v1_3, v2_3, s3, e3, b3, k4, s4, v1_4, v2_4, v3_4, h5a, k6, s6, v1_6, v2_6, v3_6, h7a, y8, v1_9, v2_9, v3_9, s9, e9, b9, v1_10, v2_10, v3_10, k10, b10, h11a] at hz
        rcases dP ((andV (orV d da) (orV e ea)) = 0) with ⟨h12a, h12⟩ | ⟨h12a, h12⟩
        · skip
          have y13 : aBuildSlice Tryz.prog 22 1 [(0, .agg #[.int .i64 a, .int .i64 b])] S10 = some (.slice (some ⟨S10.next, 0, none⟩) 1 1, S10.push (.cells [.int .i64 a, .int .i64 b] 44 2 true true)) := by kernel_rfl
          obtain ⟨S14, e14, n14, b14, a14⟩ := push_open S10 (.cells [.int .i64 a, .int .i64 b] 44 2 true true)
          have v1_14 := (a14.2 S.next (by omega)).trans v1_10
          have v2_14 := (a14.2 S1.next (by omega)).trans v2_10
          have v3_14 := (a14.2 S2.next (by omega)).trans v3_10
          have v9_14 := (a14.2 S6.next (by omega)).trans b10
          have g14 : Agree S S14 := g10.trans a14
          have s14 : E0.same S10 S14 = true := symEnv_same a14
          have o15 : Own 44 S10.next S14 (.slice (some ⟨S10.next, 0, none⟩) 1 1) ([(⟨a, b⟩ : Ar)] : List Ar) := .inr ⟨_, true, rfl, Nat.le_refl _, by omega, b14⟩
          have y16 : aBuildSlice Tryz.prog 22 1 [(0, .agg #[.int .i64 aa, .int .i64 ba])] S14 = some (.slice (some ⟨S14.next, 0, none⟩) 1 1, S14.push (.cells [.int .i64 aa, .int .i64 ba] 44 2 true true)) := by kernel_rfl
          obtain ⟨S17, e17, n17, b17, a17⟩ := push_open S14 (.cells [.int .i64 aa, .int .i64 ba] 44 2 true true)
          have v1_17 := (a17.2 S.next (by omega)).trans v1_14
          have v2_17 := (a17.2 S1.next (by omega)).trans v2_14
          have v3_17 := (a17.2 S2.next (by omega)).trans v3_14
          have v9_17 := (a17.2 S6.next (by omega)).trans v9_14
          have o15_18 := o15.agree a17
          have g17 : Agree S S17 := g14.trans a17
          have s17 : E0.same S14 S17 = true := symEnv_same a17
          have ne19 : blkOf (.slice (some ⟨S10.next, 0, none⟩) 1 1) ≠ some S14.next := o15.new (Nat.le_refl _)
          have o20 : Own 44 S14.next S17 (.slice (some ⟨S14.next, 0, none⟩) 1 1) ([(⟨aa, ba⟩ : Ar)] : List Ar) := .inr ⟨_, true, rfl, Nat.le_refl _, by omega, b17⟩
          obtain ⟨u21, S21, k21, a21, oo21⟩ := c18o a b aa ba (mark_arc (show errV (MarkOk a b c d e) = 0 by assumption)) (mark_arc (show errV (MarkOk aa ba ca da ea) = 0 by assumption)) S17 (.slice (some ⟨S10.next, 0, none⟩) 1 1) (o15_18.rows) (.slice (some ⟨S14.next, 0, none⟩) 1 1) (o20.rows) (ht.agree g17)
          have l21 := a21.1
          have s21 : E0.same S17 S21 = true := symEnv_same a21
          have v1_21 := (a21.2 S.next (by omega)).trans v1_17
          have v2_21 := (a21.2 S1.next (by omega)).trans v2_17
          have v3_21 := (a21.2 S2.next (by omega)).trans v3_17
          have v9_21 := (a21.2 S6.next (by omega)).trans v9_17
          have o15_22 := o15_18.agree a21
          have o20_23 := o20.agree a21
          have g21 : Agree S S21 := g17.trans a21
          have w24 := (oo21.rows).len (P := Tryz.prog) (t := 22) Tryz.underlying22
          try simp (disch := first | omega | assumption) only [E0_G, SY, setArgs, off, agreeKind, partVals, vals, allocV, boxed, ldA, rdCells, oneB, aggD, aField, aFieldV, aExtract, eq_self, ne_eq, if_true, if_false, not_false_eq_true, Nat.reduceAdd, Nat.reduceSub, Nat.reduceMul, Nat.reduceLT, Nat.reduceEqDiff, Nat.reduceBEq, reduceIte, Int.reduceEq, Int.reduceLT, Int.reduceLE, reduceCtorEq, TY_EvA15, and_fold, or_fold, not_fold, s1, e1, b1, v1_2, s2, e2, b2, v1_3, v2_3, s3, e3, b3, k4, s4, v1_4, v2_4, v3_4, h5a, k6, s6, v1_6, v2_6, v3_6, h7a, y8, v1_9, v2_9, v3_9, s9, e9, b9, v1_10, v2_10, v3_10, k10, b10, h11a, h12a, y13, v1_14, v2_14, v3_14, v9_14, s14, e14, b14, y16, v1_17, v2_17, v3_17, v9_17, s17, e17, b17, k21, s21, v1_21, v2_21, v3_21, v9_21, w24] at hz
          rcases dP (((r25 ([(⟨a, b⟩ : Ar)]) ([(⟨aa, ba⟩ : Ar)])).length : Int) = 0) with ⟨h25a, h25⟩ | ⟨h25a, h25⟩
          · skip
            have y26 : aBuild Tryz.prog 46 [] = some (.agg #[.int .i64 0, .int .i64 0, .int .i64 0, .int .i64 0, .int .i64 0]) := by kernel_rfl
            obtain ⟨S27, k27, n27, b27, q27⟩ := st_at (o := 0) (c' := [.int .i64 0, .int .i64 0, .int .i64 0, .int .i64 0, .int .i64 0]) (v := .agg #[.int .i64 0, .int .i64 0, .int .i64 0, .int .i64 0, .int .i64 0]) tz58 v3_21 rfl rfl (show 0 + 5 ≤ 5 by decide) rfl
            have v1_27 := (q27 S.next (by omega)).trans v1_21
            have v2_27 := (q27 S1.next (by omega)).trans v2_21
            have v9_27 := (q27 S6.next (by omega)).trans v9_21
            have o15_28 := o15_22.frame (by omega) (fun id hid hb => q27 id (fun e => (show blkOf (.slice (some ⟨S10.next, 0, none⟩) 1 1) ≠ some S2.next from by first | exact o15_22.ne (by omega) | exact o15_22.new (by omega) | assumption) (e ▸ hb)))
            have o20_29 := o20_23.frame (by omega) (fun id hid hb => q27 id (fun e => (show blkOf (.slice (some ⟨S14.next, 0, none⟩) 1 1) ≠ some S2.next from by first | exact o20_23.ne (by omega) | exact o20_23.new (by omega) | assumption) (e ▸ hb)))
            have o21_30 := oo21.frame (by omega) (fun id hid hb => q27 id (fun e => (show blkOf (u21) ≠ some S2.next from by first | exact oo21.ne (by omega) | exact oo21.new (by omega) | assumption) (e ▸ hb)))
            have g27 : Agree S S27 := ⟨by have := (g21).1; omega, fun id hid => (q27 id (by have := (g21).1; omega)).trans ((g21).2 id hid)⟩
            try simp (disch := first | omega | assumption) only [E0_G, SY, setArgs, off, agreeKind, partVals, vals, allocV, boxed, ldA, rdCells, oneB, aggD, aField, aFieldV, aExtract, eq_self, ne_eq, if_true, if_false, not_false_eq_true, Nat.reduceAdd, Nat.reduceSub, Nat.reduceMul, Nat.reduceLT, Nat.reduceEqDiff, Nat.reduceBEq, reduceIte, Int.reduceEq, Int.reduceLT, Int.reduceLE, reduceCtorEq, TY_EvA15, and_fold, or_fold, not_fold, s1, e1, b1, v1_2, s2, e2, b2, v1_3, v2_3, s3, e3, b3, k4, s4, v1_4, v2_4, v3_4, h5a, k6, s6, v1_6, v2_6, v3_6, h7a, y8, v1_9, v2_9, v3_9, s9, e9, b9, v1_10, v2_10, v3_10, k10, b10, h11a, h12a, y13, v1_14, v2_14, v3_14, v9_14, s14, e14, b14, y16, v1_17, v2_17, v3_17, v9_17, s17, e17, b17, k21, s21, v1_21, v2_21, v3_21, v9_21, w24, h25a, y26, v1_27, v2_27, v9_27, k27, b27] at hz
            have hr : r57 a b c d e aa ba ca da ea = ((0, 0, 0, 0, 0), 5) := (if_pos h5).trans ((if_pos h7).trans ((if_pos h11).trans ((if_pos h12).trans ((if_pos h25).trans (rfl)))))
            exact fin hz (by rw [hr]) g27
          · skip
            have w31 := (oo21.rows).len (P := Tryz.prog) (t := 22) Tryz.underlying22
            try simp (disch := first | omega | assumption) only [E0_G, SY, setArgs, off, agreeKind, partVals, vals, allocV, boxed, ldA, rdCells, oneB, aggD, aField, aFieldV, aExtract, eq_self, ne_eq, if_true, if_false, not_false_eq_true, Nat.reduceAdd, Nat.reduceSub, Nat.reduceMul, Nat.reduceLT, Nat.reduceEqDiff, Nat.reduceBEq, reduceIte, Int.reduceEq, Int.reduceLT, Int.reduceLE, reduceCtorEq, TY_EvA15, and_fold, or_fold, not_fold, s1, e1, b1, v1_2, s2, e2, b2, v1_3, v2_3, s3, e3, b3, k4, s4, v1_4, v2_4, v3_4, h5a, k6, s6, v1_6, v2_6, v3_6, h7a, y8, v1_9, v2_9, v3_9, s9, e9, b9, v1_10, v2_10, v3_10, k10, b10, h11a, h12a, y13, v1_14, v2_14, v3_14, v9_14, s14, e14, b14, y16, v1_17, v2_17, v3_17, v9_17, s17, e17, b17, k21, s21, v1_21, v2_21, v3_21, v9_21, w24, h25a, w31] at hz
            rcases dP (1 < ((r25 ([(⟨a, b⟩ : Ar)]) ([(⟨aa, ba⟩ : Ar)])).length : Int)) with ⟨h32a, h32⟩ | ⟨h32a, h32⟩
            · skip
              have y33 : aBuild Tryz.prog 46 [] = some (.agg #[.int .i64 0, .int .i64 0, .int .i64 0, .int .i64 0, .int .i64 0]) := by kernel_rfl
              obtain ⟨S34, k34, n34, b34, q34⟩ := st_at (o := 0) (c' := [.int .i64 0, .int .i64 0, .int .i64 0, .int .i64 0, .int .i64 0]) (v := .agg #[.int .i64 0, .int .i64 0, .int .i64 0, .int .i64 0, .int .i64 0]) tz58 v3_21 rfl rfl (show 0 + 5 ≤ 5 by decide) rfl
              have v1_34 := (q34 S.next (by omega)).trans v1_21
              have v2_34 := (q34 S1.next (by omega)).trans v2_21
              have v9_34 := (q34 S6.next (by omega)).trans v9_21
              have o15_35 := o15_22.frame (by omega) (fun id hid hb => q34 id (fun e => (show blkOf (.slice (some ⟨S10.next, 0, none⟩) 1 1) ≠ some S2.next from by first | exact o15_22.ne (by omega) | exact o15_22.new (by omega) | assumption) (e ▸ hb)))
              have o20_36 := o20_23.frame (by omega) (fun id hid hb => q34 id (fun e => (show blkOf (.slice (some ⟨S14.next, 0, none⟩) 1 1) ≠ some S2.next from by first | exact o20_23.ne (by omega) | exact o20_23.new (by omega) | assumption) (e ▸ hb)))
              have o21_37 := oo21.frame (by omega) (fun id hid hb => q34 id (fun e => (show blkOf (u21) ≠ some S2.next from by first | exact oo21.ne (by omega) | exact oo21.new (by omega) | assumption) (e ▸ hb)))
              have g34 : Agree S S34 := ⟨by have := (g21).1; omega, fun id hid => (q34 id (by have := (g21).1; omega)).trans ((g21).2 id hid)⟩
              try simp (disch := first | omega | assumption) only [E0_G, SY, setArgs, off, agreeKind, partVals, vals, allocV, boxed, ldA, rdCells, oneB, aggD, aField, aFieldV, aExtract, eq_self, ne_eq, if_true, if_false, not_false_eq_true, Nat.reduceAdd, Nat.reduceSub, Nat.reduceMul, Nat.reduceLT, Nat.reduceEqDiff, Nat.reduceBEq, reduceIte, Int.reduceEq, Int.reduceLT, Int.reduceLE, reduceCtorEq, TY_EvA15, and_fold, or_fold, not_fold, s1, e1, b1, v1_2, s2, e2, b2, v1_3, v2_3, s3, e3, b3, k4, s4, v1_4, v2_4, v3_4, h5a, k6, s6, v1_6, v2_6, v3_6, h7a, y8, v1_9, v2_9, v3_9, s9, e9, b9, v1_10, v2_10, v3_10, k10, b10, h11a, h12a, y13, v1_14, v2_14, v3_14, v9_14, s14, e14, b14, y16, v1_17, v2_17, v3_17, v9_17, s17, e17, b17, k21, s21, v1_21, v2_21, v3_21, v9_21, w24, h25a, w31, h32a, y33, v1_34, v2_34, v9_34, k34, b34] at hz
              have hr : r57 a b c d e aa ba ca da ea = ((0, 0, 0, 0, 0), 3) := (if_pos h5).trans ((if_pos h7).trans ((if_pos h11).trans ((if_pos h12).trans ((if_neg h25).trans ((if_pos h32).trans (rfl))))))
              exact fin hz (by rw [hr]) g34
            · skip
              have hx38 : (r25 ([(⟨a, b⟩ : Ar)]) ([(⟨aa, ba⟩ : Ar)]))[0]? = some (lget (r25 ([(⟨a, b⟩ : Ar)]) ([(⟨aa, ba⟩ : Ar)])) 0) := lget_some (by first | omega | simp; omega)
              obtain ⟨id38, of38, cc38, ty38, wr38, ex38, i38, j38, l38, q38⟩ := (oo21.rows).at (P := Tryz.prog) (t := 22) Tryz.underlying22 tz56 hx38
              have m38_0 : cc38[of38]? = some (.int .i64 ((lget (r25 ([(⟨a, b⟩ : Ar)]) ([(⟨aa, ba⟩ : Ar)])) 0).f)) := q38 0 (show 0 < 2 by decide)
              have m38_1 : cc38[of38 + 1]? = some (.int .i64 ((lget (r25 ([(⟨a, b⟩ : Ar)]) ([(⟨aa, ba⟩ : Ar)])) 0).l)) := q38 1 (show 1 < 2 by decide)
              have i38 : aIndexAddr Tryz.prog 22 u21 (.int .i64 0) = _ := i38
              obtain ⟨S39, k39, n39, b39, q39⟩ := st_at (o := 0) (c' := [.int .i64 ((lget (r25 ([(⟨a, b⟩ : Ar)]) ([(⟨aa, ba⟩ : Ar)])) 0).f), .int .i64 ((lget (r25 ([(⟨a, b⟩ : Ar)]) ([(⟨aa, ba⟩ : Ar)])) 0).l), .int .i64 c, .int .i64 (orV d da), .int .i64 (orV e ea)]) (v := .agg #[.int .i64 ((lget (r25 ([(⟨a, b⟩ : Ar)]) ([(⟨aa, ba⟩ : Ar)])) 0).f), .int .i64 ((lget (r25 ([(⟨a, b⟩ : Ar)]) ([(⟨aa, ba⟩ : Ar)])) 0).l)]) tz56 v9_21 rfl rfl (show 0 + 2 ≤ 5 by decide) rfl
              have v1_39 := (q39 S.next (by omega)).trans v1_21
              have v2_39 := (q39 S1.next (by omega)).trans v2_21
              have v3_39 := (q39 S2.next (by omega)).trans v3_21
              have o15_40 := o15_22.frame (by omega) (fun id hid hb => q39 id (fun e => (show blkOf (.slice (some ⟨S10.next, 0, none⟩) 1 1) ≠ some S6.next from by first | exact o15_22.ne (by omega) | exact o15_22.new (by omega) | assumption) (e ▸ hb)))
              have o20_41 := o20_23.frame (by omega) (fun id hid hb => q39 id (fun e => (show blkOf (.slice (some ⟨S14.next, 0, none⟩) 1 1) ≠ some S6.next from by first | exact o20_23.ne (by omega) | exact o20_23.new (by omega) | assumption) (e ▸ hb)))
              have o21_42 := oo21.frame (by omega) (fun id hid hb => q39 id (fun e => (show blkOf (u21) ≠ some S6.next from by first | exact oo21.ne (by omega) | exact oo21.new (by omega) | assumption) (e ▸ hb)))
              have g39 : Agree S S39 := ⟨by have := (g21).1; omega, fun id hid => (q39 id (by have := (g21).1; omega)).trans ((g21).2 id hid)⟩
              obtain ⟨S43, k43, n43, b43, q43⟩ := st_at (o := 0) (c' := [.int .i64 ((lget (r25 ([(⟨a, b⟩ : Ar)]) ([(⟨aa, ba⟩ : Ar)])) 0).f), .int .i64 ((lget (r25 ([(⟨a, b⟩ : Ar)]) ([(⟨aa, ba⟩ : Ar)])) 0).l), .int .i64 c, .int .i64 (orV d da), .int .i64 (orV e ea)]) (v := .agg #[.int .i64 ((lget (r25 ([(⟨a, b⟩ : Ar)]) ([(⟨aa, ba⟩ : Ar)])) 0).f), .int .i64 ((lget (r25 ([(⟨a, b⟩ : Ar)]) ([(⟨aa, ba⟩ : Ar)])) 0).l), .int .i64 c, .int .i64 (orV d da), .int .i64 (orV e ea)]) tz58 v3_39 rfl rfl (show 0 + 5 ≤ 5 by decide) rfl
              have v1_43 := (q43 S.next (by omega)).trans v1_39
              have v2_43 := (q43 S1.next (by omega)).trans v2_39
              have v9_43 := (q43 S6.next (by omega)).trans b39
              have o15_44 := o15_40.frame (by omega) (fun id hid hb => q43 id (fun e => (show blkOf (.slice (some ⟨S10.next, 0, none⟩) 1 1) ≠ some S2.next from by first | exact o15_40.ne (by omega) | exact o15_40.new (by omega) | assumption) (e ▸ hb)))
              have o20_45 := o20_41.frame (by omega) (fun id hid hb => q43 id (fun e => (show blkOf (.slice (some ⟨S14.next, 0, none⟩) 1 1) ≠ some S2.next from by first | exact o20_41.ne (by omega) | exact o20_41.new (by omega) | assumption) (e ▸ hb)))
              have o21_46 := o21_42.frame (by omega) (fun id hid hb => q43 id (fun e => (show blkOf (u21) ≠ some S2.next from by first | exact o21_42.ne (by omega) | exact o21_42.new (by omega) | assumption) (e ▸ hb)))
              have g43 : Agree S S43 := ⟨by have := (g39).1; omega, fun id hid => (q43 id (by have := (g39).1; omega)).trans ((g39).2 id hid)⟩
              try simp (disch := first | omega | assumption) only [E0_G, SY, setArgs, off, agreeKind, partVals, vals, allocV, boxed, ldA, rdCells, oneB, aggD, aField, aFieldV, aExtract, eq_self, ne_eq, if_true, if_false, not_false_eq_true, Nat.reduceAdd, Nat.reduceSub, Nat.reduceMul, Nat.reduceLT, Nat.reduceEqDiff, Nat.reduceBEq, reduceIte, Int.reduceEq, Int.reduceLT, Int.reduceLE, reduceCtorEq, TY_EvA15, and_fold, or_fold, not_fold, s1, e1, b1, v1_2, s2, e2, b2, v1_3, v2_3, s3, e3, b3, k4, s4, v1_4, v2_4, v3_4, h5a, k6, s6, v1_6, v2_6, v3_6, h7a, y8, v1_9, v2_9, v3_9, s9, e9, b9, v1_10, v2_10, v3_10, k10, b10, h11a, h12a, y13, v1_14, v2_14, v3_14, v9_14, s14, e14, b14, y16, v1_17, v2_17, v3_17, v9_17, s17, e17, b17, k21, s21, v1_21, v2_21, v3_21, v9_21, w24, h25a, w31, h32a, i38, j38, m38_0, m38_1, v1_39, v2_39, v3_39, k39, b39, v1_43, v2_43, v9_43, k43, b43] at hz
              have hr : r57 a b c d e aa ba ca da ea = (((lget (r25 ([(⟨a, b⟩ : Ar)]) ([(⟨aa, ba⟩ : Ar)])) 0).f, (lget (r25 ([(⟨a, b⟩ : Ar)]) ([(⟨aa, ba⟩ : Ar)])) 0).l, c, orV d da, orV e ea), 0) := (if_pos h5).trans ((if_pos h7).trans ((if_pos h11).trans ((if_pos h12).trans ((if_neg h25).trans ((if_neg h32).trans (rfl))))))
              exact fin hz (by rw [hr]) g43
        · skip
          have y47 : aBuild Tryz.prog 46 [] = some (.agg #[.int .i64 0, .int .i64 0, .int .i64 0, .int .i64 0, .int .i64 0]) := by kernel_rfl
          obtain ⟨S48, k48, n48, b48, q48⟩ := st_at (o := 0) (c' := [.int .i64 0, .int .i64 0, .int .i64 0, .int .i64 0, .int .i64 0]) (v := .agg #[.int .i64 0, .int .i64 0, .int .i64 0, .int .i64 0, .int .i64 0]) tz58 v3_10 rfl rfl (show 0 + 5 ≤ 5 by decide) rfl
          have v1_48 := (q48 S.next (by omega)).trans v1_10
          have v2_48 := (q48 S1.next (by omega)).trans v2_10
          have v9_48 := (q48 S6.next (by omega)).trans b10
          have g48 : Agree S S48 := ⟨by have := (g10).1; omega, fun id hid => (q48 id (by have := (g10).1; omega)).trans ((g10).2 id hid)⟩
          try simp (disch := first | omega | assumption) only [E0_G, SY, setArgs, off, agreeKind, partVals, vals, allocV, boxed, ldA, rdCells, oneB, aggD, aField, aFieldV, aExtract, eq_self, ne_eq, if_true, if_false, not_false_eq_true, Nat.reduceAdd, Nat.reduceSub, Nat.reduceMul, Nat.reduceLT, Nat.reduceEqDiff, Nat.reduceBEq, reduceIte, Int.reduceEq, Int.reduceLT, Int.reduceLE, reduceCtorEq, TY_EvA15, and_fold, or_fold, not_fold, s1, e1, b1, v1_2, s2, e2, b2, v1_3, v2_3, s3, e3, b3, k4, s4, v1_4, v2_4, v3_4, h5a, k6, s6, v1_6, v2_6, v3_6, h7a, y8, v1_9, v2_9, v3_9, s9, e9, b9, v1_10, v2_10, v3_10, k10, b10, h11a, h12a, y47, v1_48, v2_48, v9_48, k48, b48] at hz
          have hr : r57 a b c d e aa ba ca da ea = ((0, 0, 0, 0, 0), 9) := (if_pos h5).trans ((if_pos h7).trans ((if_pos h11).trans ((if_neg h12).trans (rfl))))
          exact fin hz (by rw [hr]) g48
      · skip
        have y49 : aBuild Tryz.prog 46 [] = some (.agg #[.int .i64 0, .int .i64 0, .int .i64 0, .int .i64 0, .int .i64 0]) := by kernel_rfl
        obtain ⟨S50, k50, n50, b50, q50⟩ := st_at (o := 0) (c' := [.int .i64 0, .int .i64 0, .int .i64 0, .int .i64 0, .int .i64 0]) (v := .agg #[.int .i64 0, .int .i64 0, .int .i64 0, .int .i64 0, .int .i64 0]) tz58 v3_10 rfl rfl (show 0 + 5 ≤ 5 by decide) rfl
        have v1_50 := (q50 S.next (by omega)).trans v1_10
        have v2_50 := (q50 S1.next (by omega)).trans v2_10
        have v9_50 := (q50 S6.next (by omega)).trans b10
        have g50 : Agree S S50 := ⟨by have := (g10).1; omega, fun id hid => (q50 id (by have := (g10).1; omega)).trans ((g10).2 id hid)⟩
        try simp (disch := first | omega | assumption) only [E0_G, SY, setArgs, off, agreeKind, partVals, vals, allocV, boxed, ldA, rdCells, oneB, aggD, aField, aFieldV, aExtract, eq_self, ne_eq, if_true, if_false, not_false_eq_true, Nat.reduceAdd, Nat.reduceSub, Nat.reduceMul, Nat.reduceLT, Nat.reduceEqDiff, Nat.reduceBEq, reduceIte, Int.reduceEq, Int.reduceLT, Int.reduceLE, reduceCtorEq, TY_EvA15, and_fold, or_fold, not_fold, s1, e1, b1, v1_2, s2, e2, b2, v1_3, v2_3, s3, e3, b3, k4, s4, v1_4, v2_4, v3_4, h5a, k6, s6, v1_6, v2_6, v3_6, h7a, y8, v1_9, v2_9, v3_9, s9, e9, b9, v1_10, v2_10, v3_10, k10, b10, h11a, y49, v1_50, v2_50, v9_50, k50, b50] at hz
        have hr : r57 a b c d e aa ba ca da ea = ((0, 0, 0, 0, 0), 9) := (if_pos h5).trans ((if_pos h7).trans ((if_neg h11).trans (rfl)))
        exact fin hz (by rw [hr]) g50
    · skip
      have y51 : aBuild Tryz.prog 46 [] = some (.agg #[.int .i64 0, .int .i64 0, .int .i64 0, .int .i64 0, .int .i64 0]) := by kernel_rfl
      obtain ⟨S52, k52, n52, b52, q52⟩ := st_at (o := 0) (c' := [.int .i64 0, .int .i64 0, .int .i64 0, .int .i64 0, .int .i64 0]) (v := .agg #[.int .i64 0, .int .i64 0, .int .i64 0, .int .i64 0, .int .i64 0]) tz58 v3_6 rfl rfl (show 0 + 5 ≤ 5 by decide) rfl
      have v1_52 := (q52 S.next (by omega)).trans v1_6
      have v2_52 := (q52 S1.next (by omega)).trans v2_6
      have g52 : Agree S S52 := ⟨by have := (g6).1; omega, fun id hid => (q52 id (by have := (g6).1; omega)).trans ((g6).2 id hid)⟩
      try simp (disch := first | omega | assumption) only [E0_G, SY, setArgs, off, agreeKind, partVals, vals, allocV, boxed, ldA, rdCells, oneB, aggD, aField, aFieldV, aExtract, eq_self, ne_eq, if_true, if_false, not_false_eq_true, Nat.reduceAdd, Nat.reduceSub, Nat.reduceMul, Nat.reduceLT, Nat.reduceEqDiff, Nat.reduceBEq, reduceIte, Int.reduceEq, Int.reduceLT, Int.reduceLE, reduceCtorEq, TY_EvA15, and_fold, or_fold, not_fold, s1, e1, b1, v1_2, s2, e2, b2, v1_3, v2_3, s3, e3, b3, k4, s4, v1_4, v2_4, v3_4, h5a, k6, s6, v1_6, v2_6, v3_6, h7a, y51, v1_52, v2_52, k52, b52] at hz
      have hr : r57 a b c d e aa ba ca da ea = ((0, 0, 0, 0, 0), 1) := (if_pos h5).trans ((if_neg h7).trans (rfl))
      exact fin hz (by rw [hr]) g52
  · skip
    have y53 : aBuild Tryz.prog 46 [] = some (.agg #[.int .i64 0, .int .i64 0, .int .i64 0, .int .i64 0, .int .i64 0]) := by kernel_rfl
    obtain ⟨S54, k54, n54, b54, q54⟩ := st_at (o := 0) (c' := [.int .i64 0, .int .i64 0, .int .i64 0, .int .i64 0, .int .i64 0]) (v := .agg #[.int .i64 0, .int .i64 0, .int .i64 0, .int .i64 0, .int .i64 0]) tz58 v3_4 rfl rfl (show 0 + 5 ≤ 5 by decide) rfl
    have v1_54 := (q54 S.next (by omega)).trans v1_4
    have v2_54 := (q54 S1.next (by omega)).trans v2_4
    have g54 : Agree S S54 := ⟨by have := (g4).1; omega, fun id hid => (q54 id (by have := (g4).1; omega)).trans ((g4).2 id hid)⟩
    try simp (disch := first | omega | assumption) only [E0_G, SY, setArgs, off, agreeKind, partVals, vals, allocV, boxed, ldA, rdCells, oneB, aggD, aField, aFieldV, aExtract, eq_self, ne_eq, if_true, if_false, not_false_eq_true, Nat.reduceAdd, Nat.reduceSub, Nat.reduceMul, Nat.reduceLT, Nat.reduceEqDiff, Nat.reduceBEq, reduceIte, Int.reduceEq, Int.reduceLT, Int.reduceLE, reduceCtorEq, TY_EvA15, and_fold, or_fold, not_fold, s1, e1, b1, v1_2, s2, e2, b2, v1_3, v2_3, s3, e3, b3, k4, s4, v1_4, v2_4, v3_4, h5a, y53, v1_54, v2_54, k54, b54] at hz
    have hr : r57 a b c d e aa ba ca da ea = ((0, 0, 0, 0, 0), 1) := (if_neg h5).trans (rfl)
    exact fin hz (by rw [hr]) g54

end Great
end Go.Proofs
end
section
/-
  The great seat of stage 1: what is known of marks: the law's run says true.
-/
set_option linter.unusedSimpArgs false
set_option linter.unusedVariables false
namespace Go.Proofs
namespace Great
open Go Go.RowKit Go.Aev
set_option maxRecDepth 100000
end Great
end Go.Proofs
end
