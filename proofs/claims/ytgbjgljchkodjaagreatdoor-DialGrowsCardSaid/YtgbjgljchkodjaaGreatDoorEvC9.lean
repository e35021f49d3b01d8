/-
  The great seat of stage 1: the law DialSets, by the generator.
-/
import Derived.Test.YtgbjgljchkodjaaGreatDoorBV
import Derived.Test.YtgbjgljchkodjaaGreatDoorBJ
set_option linter.unusedSimpArgs false
set_option linter.unusedVariables false
namespace Go.Proofs
namespace Great
open Go Go.RowKit Go.Aev
set_option maxRecDepth 100000
/-- What is known of the types. -/
theorem TY_EvC9 : type_of% (And.intro (And.intro (And.intro (And.intro (And.intro (And.intro Tryz.underlying3 tz3) (And.intro tt3 (And.intro t0_3 Tryz.underlying22))) (And.intro (And.intro tz22 (And.intro tt22 t0_22)) (And.intro Tryz.underlying56 (And.intro tz43 tt43)))) (And.intro (And.intro (And.intro t0_43 Tryz.underlying59) (And.intro tz44 (And.intro tt44 t0_44))) (And.intro (And.intro Tryz.underlying60 (And.intro tz45 tt45)) (And.intro t0_45 (And.intro Tryz.underlying62 tz51))))) (And.intro (And.intro (And.intro (And.intro tt51 t0_51) (And.intro Tryz.underlying63 (And.intro tz52 tt52))) (And.intro (And.intro t0_52 (And.intro Tryz.underlying43 tz55)) (And.intro tt55 (And.intro t0_55 Tryz.underlying44)))) (And.intro (And.intro (And.intro tz56 tt56) (And.intro t0_56 (And.intro Tryz.underlying45 tz57))) (And.intro (And.intro tt57 (And.intro t0_57 Tryz.underlying46)) (And.intro tz58 (And.intro tt58 t0_58)))))) (And.intro (And.intro (And.intro (And.intro (And.intro Tryz.underlying66 tz77) (And.intro tt77 (And.intro t0_77 Tryz.underlying73))) (And.intro (And.intro tz80 (And.intro tt80 t0_80)) (And.intro Tryz.underlying82 (And.intro tz90 tt90)))) (And.intro (And.intro (And.intro t0_90 Tryz.underlying89) (And.intro tz110 (And.intro tt110 t0_110))) (And.intro (And.intro Tryz.underlying94 (And.intro tz115 tt115)) (And.intro t0_115 (And.intro Tryz.underlying95 tz116))))) (And.intro (And.intro (And.intro (And.intro tt116 t0_116) (And.intro Tryz.underlying76 (And.intro tz123 tt123))) (And.intro (And.intro t0_123 (And.intro Tryz.underlying136 tz177)) (And.intro tt177 (And.intro t0_177 Tryz.underlying137)))) (And.intro (And.intro (And.intro tz178 tt178) (And.intro t0_178 (And.intro Tryz.underlying141 tz182))) (And.intro (And.intro tt182 (And.intro t0_182 Tryz.underlying142)) (And.intro tz183 (And.intro tt183 t0_183))))))) := (And.intro (And.intro (And.intro (And.intro (And.intro (And.intro Tryz.underlying3 tz3) (And.intro tt3 (And.intro t0_3 Tryz.underlying22))) (And.intro (And.intro tz22 (And.intro tt22 t0_22)) (And.intro Tryz.underlying56 (And.intro tz43 tt43)))) (And.intro (And.intro (And.intro t0_43 Tryz.underlying59) (And.intro tz44 (And.intro tt44 t0_44))) (And.intro (And.intro Tryz.underlying60 (And.intro tz45 tt45)) (And.intro t0_45 (And.intro Tryz.underlying62 tz51))))) (And.intro (And.intro (And.intro (And.intro tt51 t0_51) (And.intro Tryz.underlying63 (And.intro tz52 tt52))) (And.intro (And.intro t0_52 (And.intro Tryz.underlying43 tz55)) (And.intro tt55 (And.intro t0_55 Tryz.underlying44)))) (And.intro (And.intro (And.intro tz56 tt56) (And.intro t0_56 (And.intro Tryz.underlying45 tz57))) (And.intro (And.intro tt57 (And.intro t0_57 Tryz.underlying46)) (And.intro tz58 (And.intro tt58 t0_58)))))) (And.intro (And.intro (And.intro (And.intro (And.intro Tryz.underlying66 tz77) (And.intro tt77 (And.intro t0_77 Tryz.underlying73))) (And.intro (And.intro tz80 (And.intro tt80 t0_80)) (And.intro Tryz.underlying82 (And.intro tz90 tt90)))) (And.intro (And.intro (And.intro t0_90 Tryz.underlying89) (And.intro tz110 (And.intro tt110 t0_110))) (And.intro (And.intro Tryz.underlying94 (And.intro tz115 tt115)) (And.intro t0_115 (And.intro Tryz.underlying95 tz116))))) (And.intro (And.intro (And.intro (And.intro tt116 t0_116) (And.intro Tryz.underlying76 (And.intro tz123 tt123))) (And.intro (And.intro t0_123 (And.intro Tryz.underlying136 tz177)) (And.intro tt177 (And.intro t0_177 Tryz.underlying137)))) (And.intro (And.intro (And.intro tz178 tt178) (And.intro t0_178 (And.intro Tryz.underlying141 tz182))) (And.intro (And.intro tt182 (And.intro t0_182 Tryz.underlying142)) (And.intro tz183 (And.intro tt183 t0_183)))))))
def r3 (a : List Ar) (b : List Ar) : Bool := (if (r14 (a : List Ar)) = true then (if (r14 (b : List Ar)) = true then (if (r20 (a)) = (r20 (a : List Ar)) then (if (r21 (a) (b)) = (r21 (a : List Ar) (b : List Ar)) then (if (r20 (a : List Ar)) = 0 then (if (r21 (a : List Ar) (b : List Ar)) = 0 then (if (r22 ((nrm (a)) : List Ar) ((r23 (a : List Ar)) : List Ar)) = true then (if (r22 ((two r24 (a) (b)) : List Ar) ((r24 (a : List Ar) (b : List Ar)) : List Ar)) = true then (if (r22 ((two r25 (a) (b)) : List Ar) ((r25 (a : List Ar) (b : List Ar)) : List Ar)) = true then (r22 ((two r26 (a) (b)) : List Ar) ((r26 (a : List Ar) (b : List Ar)) : List Ar)) else false) else false) else false) else (if 0 < ((((two r24 (a) (b)).length + (two r25 (a) (b)).length) + (two r26 (a) (b)).length : Nat) : Int) then false else (if (r22 ((nrm (a)) : List Ar) ((r23 (a : List Ar)) : List Ar)) = true then true else false))) else (if 0 < ((nrm (a)).length : Int) then false else (if (r21 (a : List Ar) (b : List Ar)) = 0 then (if (r22 ((two r24 (a) (b)) : List Ar) ((r24 (a : List Ar) (b : List Ar)) : List Ar)) = true then (if (r22 ((two r25 (a) (b)) : List Ar) ((r25 (a : List Ar) (b : List Ar)) : List Ar)) = true then (r22 ((two r26 (a) (b)) : List Ar) ((r26 (a : List Ar) (b : List Ar)) : List Ar)) else false) else false) else (if 0 < ((((two r24 (a) (b)).length + (two r25 (a) (b)).length) + (two r26 (a) (b)).length : Nat) : Int) then false else true)))) else false) else false) else true) else true)
set_option maxHeartbeats 8000000 in
theorem c3 (a : List Ar) (b : List Ar) (hs : SortOk 1000)  (S : AS) (v_a : Value) (hv_a : Lst S v_a a) (v_b : Value) (hv_b : Lst S v_b b) (ht : Tab S) :
    ∃ S', (evL Tryz.prog E0).call 3 #[v_a, v_b] S = some (.bool (r3 a b), S') ∧ Agree S S' := by
  generalize hz : (evL Tryz.prog E0).call 3 _ _ = z
  rw [L_call, evCall_said rfl Tryz.func3 rfl (by decide) Tryz.ntmps3 Tryz.results3] at hz
  obtain ⟨S1, k1, a1⟩ := c14 (a : List Ar)  S (v_a) (hv_a) 
  have l1 := a1.1
  have s1 : E0.same S S1 = true := symEnv_same a1
  have g1 : Agree S S1 := a1
  try simp (disch := first | omega | assumption) only [E0_G, SY, setArgs, off, agreeKind, partVals, vals, allocV, boxed, ldA, rdCells, oneB, aggD, aField, aFieldV, aExtract, eq_self, ne_eq, if_true, if_false, not_false_eq_true, Nat.reduceAdd, Nat.reduceSub, Nat.reduceMul, Nat.reduceLT, Nat.reduceEqDiff, Nat.reduceBEq, reduceIte, Int.reduceEq, Int.reduceLT, Int.reduceLE, reduceCtorEq, k1] at hz
  rcases dB ((r14 (a : List Ar))) with ⟨h2a, h2⟩ | ⟨h2a, h2⟩
  · skip
    obtain ⟨S3, k3, a3⟩ := c14 (b : List Ar)  S1 (v_b) (hv_b.agree g1) 
    have l3 := a3.1
    have s3 : E0.same S1 S3 = true := symEnv_same a3
    have g3 : Agree S S3 := g1.trans a3
    try simp (disch := first | omega | assumption) only [E0_G, SY, setArgs, off, agreeKind, partVals, vals, allocV, boxed, ldA, rdCells, oneB, aggD, aField, aFieldV, aExtract, eq_self, ne_eq, if_true, if_false, not_false_eq_true, Nat.reduceAdd, Nat.reduceSub, Nat.reduceMul, Nat.reduceLT, Nat.reduceEqDiff, Nat.reduceBEq, reduceIte, Int.reduceEq, Int.reduceLT, Int.reduceLE, reduceCtorEq, h2a, k3] at hz
    rcases dB ((r14 (b : List Ar))) with ⟨h4a, h4⟩ | ⟨h4a, h4⟩
    · skip
      obtain ⟨u5, S5, k5, a5, oo5⟩ := c16f hs (a) (by assumption) S3 (v_a) (hv_a.agree g3) (ht.agree g3)
      have l5 := a5.1
      have s5 : E0.same S3 S5 = true := symEnv_same a5
      have g5 : Agree S S5 := g3.trans a5
      obtain ⟨u6, S6, k6, a6, oo6⟩ := c17f hs (a) (b) (by assumption) (by assumption) S5 (v_a) (hv_a.agree g5) (v_b) (hv_b.agree g5) (ht.agree g5)
      have l6 := a6.1
      have s6 : E0.same S5 S6 = true := symEnv_same a6
      have o5_7 := oo5.agree a6
      have g6 : Agree S S6 := g5.trans a6
      obtain ⟨u8, S8, k8, a8, oo8⟩ := c18f hs (a) (b) (by assumption) (by assumption) S6 (v_a) (hv_a.agree g6) (v_b) (hv_b.agree g6) (ht.agree g6)
      have l8 := a8.1
      have s8 : E0.same S6 S8 = true := symEnv_same a8
      have o5_9 := o5_7.agree a8
      have o6_10 := oo6.agree a8
      have g8 : Agree S S8 := g6.trans a8
      obtain ⟨u11, S11, k11, a11, oo11⟩ := c19f hs (a) (b) (by assumption) (by assumption) S8 (v_a) (hv_a.agree g8) (v_b) (hv_b.agree g8) (ht.agree g8)
      have l11 := a11.1
      have s11 : E0.same S8 S11 = true := symEnv_same a11
      have o5_12 := o5_9.agree a11
      have o6_13 := o6_10.agree a11
      have o8_14 := oo8.agree a11
      have g11 : Agree S S11 := g8.trans a11
      obtain ⟨S15, k15, a15⟩ := c20 (a : List Ar) (by have := few_len (show r14 a = true by assumption); omega) S11 (v_a) (hv_a.agree g11) 
      have l15 := a15.1
      have s15 : E0.same S11 S15 = true := symEnv_same a15
      have o5_16 := o5_12.agree a15
      have o6_17 := o6_13.agree a15
      have o8_18 := o8_14.agree a15
      have o11_19 := oo11.agree a15
      have g15 : Agree S S15 := g11.trans a15
      obtain ⟨S20, k20, a20⟩ := c21 (a : List Ar) (b : List Ar) (by have := few_len (show r14 a = true by assumption); omega) (by have := few_len (show r14 b = true by assumption); omega) S15 (v_a) (hv_a.agree g15) (v_b) (hv_b.agree g15) 
      have l20 := a20.1
      have s20 : E0.same S15 S20 = true := symEnv_same a20
      have o5_21 := o5_16.agree a20
      have o6_22 := o6_17.agree a20
      have o8_23 := o8_18.agree a20
      have o11_24 := o11_19.agree a20
      have g20 : Agree S S20 := g15.trans a20
      try simp (disch := first | omega | assumption) only [E0_G, SY, setArgs, off, agreeKind, partVals, vals, allocV, boxed, ldA, rdCells, oneB, aggD, aField, aFieldV, aExtract, eq_self, ne_eq, if_true, if_false, not_false_eq_true, Nat.reduceAdd, Nat.reduceSub, Nat.reduceMul, Nat.reduceLT, Nat.reduceEqDiff, Nat.reduceBEq, reduceIte, Int.reduceEq, Int.reduceLT, Int.reduceLE, reduceCtorEq, h4a, k5, k6, k8, k11, k15, k20] at hz
      rcases dP ((r20 (a)) = (r20 (a : List Ar))) with ⟨h25a, h25⟩ | ⟨h25a, h25⟩
      · skip
        try simp (disch := first | omega | assumption) only [E0_G, SY, setArgs, off, agreeKind, partVals, vals, allocV, boxed, ldA, rdCells, oneB, aggD, aField, aFieldV, aExtract, eq_self, ne_eq, if_true, if_false, not_false_eq_true, Nat.reduceAdd, Nat.reduceSub, Nat.reduceMul, Nat.reduceLT, Nat.reduceEqDiff, Nat.reduceBEq, reduceIte, Int.reduceEq, Int.reduceLT, Int.reduceLE, reduceCtorEq, TY_EvC9, and_fold, or_fold, not_fold, k1, s1, h2a, k3, s3, h4a, k5, s5, k6, s6, k8, s8, k11, s11, k15, s15, k20, s20, h25a] at hz
        rcases dP ((r21 (a) (b)) = (r21 (a : List Ar) (b : List Ar))) with ⟨h26a, h26⟩ | ⟨h26a, h26⟩
        · skip
          try simp (disch := first | omega | assumption) only [E0_G, SY, setArgs, off, agreeKind, partVals, vals, allocV, boxed, ldA, rdCells, oneB, aggD, aField, aFieldV, aExtract, eq_self, ne_eq, if_true, if_false, not_false_eq_true, Nat.reduceAdd, Nat.reduceSub, Nat.reduceMul, Nat.reduceLT, Nat.reduceEqDiff, Nat.reduceBEq, reduceIte, Int.reduceEq, Int.reduceLT, Int.reduceLE, reduceCtorEq, TY_EvC9, and_fold, or_fold, not_fold, k1, s1, h2a, k3, s3, h4a, k5, s5, k6, s6, k8, s8, k11, s11, k15, s15, k20, s20, h25a, h26a] at hz
          rcases dP ((r20 (a : List Ar)) = 0) with ⟨h27a, h27⟩ | ⟨h27a, h27⟩
          · skip
            try simp (disch := first | omega | assumption) only [E0_G, SY, setArgs, off, agreeKind, partVals, vals, allocV, boxed, ldA, rdCells, oneB, aggD, aField, aFieldV, aExtract, eq_self, ne_eq, if_true, if_false, not_false_eq_true, Nat.reduceAdd, Nat.reduceSub, Nat.reduceMul, Nat.reduceLT, Nat.reduceEqDiff, Nat.reduceBEq, reduceIte, Int.reduceEq, Int.reduceLT, Int.reduceLE, reduceCtorEq, h27a] at hz
            rcases dP ((r21 (a : List Ar) (b : List Ar)) = 0) with ⟨h28a, h28⟩ | ⟨h28a, h28⟩
            · skip
              obtain ⟨u29, S29, k29, a29, oo29⟩ := c23 (a : List Ar) (by have := few_len (show r14 a = true by assumption); omega) S20 (v_a) (hv_a.agree g20) 
              have l29 := a29.1
              have s29 : E0.same S20 S29 = true := symEnv_same a29
              have o5_30 := o5_21.agree a29
              have o6_31 := o6_22.agree a29
              have o8_32 := o8_23.agree a29
              have o11_33 := o11_24.agree a29
              have g29 : Agree S S29 := g20.trans a29
              obtain ⟨S34, k34, a34⟩ := c22 ((nrm (a)) : List Ar) ((r23 (a : List Ar)) : List Ar) (by first | exact nrm_le _ | exact two24_le _ _ | exact two25_le (by assumption) | exact two26_le (by assumption)) S29 (u5) (o5_30.rows) (u29) (oo29.rows) 
              have l34 := a34.1
              have s34 : E0.same S29 S34 = true := symEnv_same a34
              have o5_35 := o5_30.agree a34
              have o6_36 := o6_31.agree a34
              have o8_37 := o8_32.agree a34
              have o11_38 := o11_33.agree a34
              have o29_39 := oo29.agree a34
              have g34 : Agree S S34 := g29.trans a34
              try simp (disch := first | omega | assumption) only [E0_G, SY, setArgs, off, agreeKind, partVals, vals, allocV, boxed, ldA, rdCells, oneB, aggD, aField, aFieldV, aExtract, eq_self, ne_eq, if_true, if_false, not_false_eq_true, Nat.reduceAdd, Nat.reduceSub, Nat.reduceMul, Nat.reduceLT, Nat.reduceEqDiff, Nat.reduceBEq, reduceIte, Int.reduceEq, Int.reduceLT, Int.reduceLE, reduceCtorEq, h27a, h28a, k29, k34] at hz
              rcases dB ((r22 ((nrm (a)) : List Ar) ((r23 (a : List Ar)) : List Ar))) with ⟨h40a, h40⟩ | ⟨h40a, h40⟩
              · skip
                obtain ⟨u41, S41, k41, a41, oo41⟩ := c24 (a : List Ar) (b : List Ar) (by have := few_ok (show r14 a = true by assumption) (by first | assumption | exact (both_ok (by assumption)).1 | exact (both_ok (by assumption)).2); omega) (by have := few_ok (show r14 b = true by assumption) (by first | assumption | exact (both_ok (by assumption)).1 | exact (both_ok (by assumption)).2); omega) S34 (v_a) (hv_a.agree g34) (v_b) (hv_b.agree g34) 
                have l41 := a41.1
                have s41 : E0.same S34 S41 = true := symEnv_same a41
                have o5_42 := o5_35.agree a41
                have o6_43 := o6_36.agree a41
                have o8_44 := o8_37.agree a41
                have o11_45 := o11_38.agree a41
                have o29_46 := o29_39.agree a41
                have g41 : Agree S S41 := g34.trans a41
                obtain ⟨S47, k47, a47⟩ := c22 ((two r24 (a) (b)) : List Ar) ((r24 (a : List Ar) (b : List Ar)) : List Ar) (by first | exact nrm_le _ | exact two24_le _ _ | exact two25_le (by assumption) | exact two26_le (by assumption)) S41 (u6) (o6_43.rows) (u41) (oo41.rows) 
                have l47 := a47.1
                have s47 : E0.same S41 S47 = true := symEnv_same a47
                have o5_48 := o5_42.agree a47
                have o6_49 := o6_43.agree a47
                have o8_50 := o8_44.agree a47
                have o11_51 := o11_45.agree a47
                have o29_52 := o29_46.agree a47
                have o41_53 := oo41.agree a47
                have g47 : Agree S S47 := g41.trans a47
                try simp (disch := first | omega | assumption) only [E0_G, SY, setArgs, off, agreeKind, partVals, vals, allocV, boxed, ldA, rdCells, oneB, aggD, aField, aFieldV, aExtract, eq_self, ne_eq, if_true, if_false, not_false_eq_true, Nat.reduceAdd, Nat.reduceSub, Nat.reduceMul, Nat.reduceLT, Nat.reduceEqDiff, Nat.reduceBEq, reduceIte, Int.reduceEq, Int.reduceLT, Int.reduceLE, reduceCtorEq, h28a, h40a, c15s, k41, k47] at hz
                rcases dB ((r22 ((two r24 (a) (b)) : List Ar) ((r24 (a : List Ar) (b : List Ar)) : List Ar))) with ⟨h54a, h54⟩ | ⟨h54a, h54⟩
                · skip
                  obtain ⟨u55, S55, k55, a55, oo55⟩ := c25 (a : List Ar) (b : List Ar) (by have := few_ok (show r14 a = true by assumption) (by first | assumption | exact (both_ok (by assumption)).1 | exact (both_ok (by assumption)).2); omega) (by have := few_ok (show r14 b = true by assumption) (by first | assumption | exact (both_ok (by assumption)).1 | exact (both_ok (by assumption)).2); omega) S47 (v_a) (hv_a.agree g47) (v_b) (hv_b.agree g47) 
                  have l55 := a55.1
                  have s55 : E0.same S47 S55 = true := symEnv_same a55
                  have o5_56 := o5_48.agree a55
                  have o6_57 := o6_49.agree a55
                  have o8_58 := o8_50.agree a55
                  have o11_59 := o11_51.agree a55
                  have o29_60 := o29_52.agree a55
                  have o41_61 := o41_53.agree a55
                  have g55 : Agree S S55 := g47.trans a55
                  obtain ⟨S62, k62, a62⟩ := c22 ((two r25 (a) (b)) : List Ar) ((r25 (a : List Ar) (b : List Ar)) : List Ar) (by first | exact nrm_le _ | exact two24_le _ _ | exact two25_le (by assumption) | exact two26_le (by assumption)) S55 (u8) (o8_58.rows) (u55) (oo55.rows) 
                  have l62 := a62.1
                  have s62 : E0.same S55 S62 = true := symEnv_same a62
                  have o5_63 := o5_56.agree a62
                  have o6_64 := o6_57.agree a62
                  have o8_65 := o8_58.agree a62
                  have o11_66 := o11_59.agree a62
                  have o29_67 := o29_60.agree a62
                  have o41_68 := o41_61.agree a62
                  have o55_69 := oo55.agree a62
                  have g62 : Agree S S62 := g55.trans a62
                  try simp (disch := first | omega | assumption) only [E0_G, SY, setArgs, off, agreeKind, partVals, vals, allocV, boxed, ldA, rdCells, oneB, aggD, aField, aFieldV, aExtract, eq_self, ne_eq, if_true, if_false, not_false_eq_true, Nat.reduceAdd, Nat.reduceSub, Nat.reduceMul, Nat.reduceLT, Nat.reduceEqDiff, Nat.reduceBEq, reduceIte, Int.reduceEq, Int.reduceLT, Int.reduceLE, reduceCtorEq, h54a, k55, k62] at hz
                  rcases dB ((r22 ((two r25 (a) (b)) : List Ar) ((r25 (a : List Ar) (b : List Ar)) : List Ar))) with ⟨h70a, h70⟩ | ⟨h70a, h70⟩
                  · skip
                    obtain ⟨u71, S71, k71, a71, oo71⟩ := c26 (a : List Ar) (b : List Ar) (by have := few_ok (show r14 a = true by assumption) (by first | assumption | exact (both_ok (by assumption)).1 | exact (both_ok (by assumption)).2); omega) (by have := few_ok (show r14 b = true by assumption) (by first | assumption | exact (both_ok (by assumption)).1 | exact (both_ok (by assumption)).2); omega) S62 (v_a) (hv_a.agree g62) (v_b) (hv_b.agree g62) 
                    have l71 := a71.1
                    have s71 : E0.same S62 S71 = true := symEnv_same a71
                    have o5_72 := o5_63.agree a71
                    have o6_73 := o6_64.agree a71
                    have o8_74 := o8_65.agree a71
                    have o11_75 := o11_66.agree a71
                    have o29_76 := o29_67.agree a71
                    have o41_77 := o41_68.agree a71
                    have o55_78 := o55_69.agree a71
                    have g71 : Agree S S71 := g62.trans a71
                    obtain ⟨S79, k79, a79⟩ := c22 ((two r26 (a) (b)) : List Ar) ((r26 (a : List Ar) (b : List Ar)) : List Ar) (by first | exact nrm_le _ | exact two24_le _ _ | exact two25_le (by assumption) | exact two26_le (by assumption)) S71 (u11) (o11_75.rows) (u71) (oo71.rows) 
                    have l79 := a79.1
                    have s79 : E0.same S71 S79 = true := symEnv_same a79
                    have o5_80 := o5_72.agree a79
                    have o6_81 := o6_73.agree a79
                    have o8_82 := o8_74.agree a79
                    have o11_83 := o11_75.agree a79
                    have o29_84 := o29_76.agree a79
                    have o41_85 := o41_77.agree a79
                    have o55_86 := o55_78.agree a79
                    have o71_87 := oo71.agree a79
                    have g79 : Agree S S79 := g71.trans a79
                    try simp (disch := first | omega | assumption) only [E0_G, SY, setArgs, off, agreeKind, partVals, vals, allocV, boxed, ldA, rdCells, oneB, aggD, aField, aFieldV, aExtract, eq_self, ne_eq, if_true, if_false, not_false_eq_true, Nat.reduceAdd, Nat.reduceSub, Nat.reduceMul, Nat.reduceLT, Nat.reduceEqDiff, Nat.reduceBEq, reduceIte, Int.reduceEq, Int.reduceLT, Int.reduceLE, reduceCtorEq, h70a, k71, k79] at hz
                    have hr : r3 a b = (r22 ((two r26 (a) (b)) : List Ar) ((r26 (a : List Ar) (b : List Ar)) : List Ar)) := (if_pos h2).trans ((if_pos h4).trans ((if_pos h25).trans ((if_pos h26).trans ((if_pos h27).trans ((if_pos h28).trans ((if_pos h40).trans ((if_pos h54).trans ((if_pos h70).trans (rfl)))))))))
                    exact fin hz (by rw [hr]) g79
                  · skip
                    try simp (disch := first | omega | assumption) only [E0_G, SY, setArgs, off, agreeKind, partVals, vals, allocV, boxed, ldA, rdCells, oneB, aggD, aField, aFieldV, aExtract, eq_self, ne_eq, if_true, if_false, not_false_eq_true, Nat.reduceAdd, Nat.reduceSub, Nat.reduceMul, Nat.reduceLT, Nat.reduceEqDiff, Nat.reduceBEq, reduceIte, Int.reduceEq, Int.reduceLT, Int.reduceLE, reduceCtorEq, h70a] at hz
                    have hr : r3 a b = false := (if_pos h2).trans ((if_pos h4).trans ((if_pos h25).trans ((if_pos h26).trans ((if_pos h27).trans ((if_pos h28).trans ((if_pos h40).trans ((if_pos h54).trans ((if_neg h70).trans (rfl)))))))))
                    exact fin hz (by rw [hr]) g62
                · skip
                  try simp (disch := first | omega | assumption) only [E0_G, SY, setArgs, off, agreeKind, partVals, vals, allocV, boxed, ldA, rdCells, oneB, aggD, aField, aFieldV, aExtract, eq_self, ne_eq, if_true, if_false, not_false_eq_true, Nat.reduceAdd, Nat.reduceSub, Nat.reduceMul, Nat.reduceLT, Nat.reduceEqDiff, Nat.reduceBEq, reduceIte, Int.reduceEq, Int.reduceLT, Int.reduceLE, reduceCtorEq, h54a] at hz
                  have hr : r3 a b = false := (if_pos h2).trans ((if_pos h4).trans ((if_pos h25).trans ((if_pos h26).trans ((if_pos h27).trans ((if_pos h28).trans ((if_pos h40).trans ((if_neg h54).trans (rfl))))))))
                  exact fin hz (by rw [hr]) g47
              · skip
                try simp (disch := first | omega | assumption) only [E0_G, SY, setArgs, off, agreeKind, partVals, vals, allocV, boxed, ldA, rdCells, oneB, aggD, aField, aFieldV, aExtract, eq_self, ne_eq, if_true, if_false, not_false_eq_true, Nat.reduceAdd, Nat.reduceSub, Nat.reduceMul, Nat.reduceLT, Nat.reduceEqDiff, Nat.reduceBEq, reduceIte, Int.reduceEq, Int.reduceLT, Int.reduceLE, reduceCtorEq, h40a] at hz
                have hr : r3 a b = false := (if_pos h2).trans ((if_pos h4).trans ((if_pos h25).trans ((if_pos h26).trans ((if_pos h27).trans ((if_pos h28).trans ((if_neg h40).trans (rfl)))))))
                exact fin hz (by rw [hr]) g34
            · skip
              have w88 := (o6_22.rows).len (P := Tryz.prog) (t := 22) Tryz.underlying22
              have w89 := (o8_23.rows).len (P := Tryz.prog) (t := 22) Tryz.underlying22
              have w90 : IntKind.i64.wrap (((two r24 (a) (b)).length : Int) + ((two r25 (a) (b)).length : Int)) = (((two r24 (a) (b)).length + (two r25 (a) (b)).length : Nat) : Int) := by have q1 := two24_le a b; have q2 := two25_le (a := a) (show r14 b = true by assumption); have q3 := two26_le (a := a) (show r14 b = true by assumption); rw [IntWalk.i64_in] <;> omega
              have w91 := (o11_24.rows).len (P := Tryz.prog) (t := 22) Tryz.underlying22
              have w92 : IntKind.i64.wrap ((((two r24 (a) (b)).length + (two r25 (a) (b)).length : Nat) : Int) + ((two r26 (a) (b)).length : Int)) = ((((two r24 (a) (b)).length + (two r25 (a) (b)).length) + (two r26 (a) (b)).length : Nat) : Int) := by have q1 := two24_le a b; have q2 := two25_le (a := a) (show r14 b = true by assumption); have q3 := two26_le (a := a) (show r14 b = true by assumption); rw [IntWalk.i64_in] <;> omega
              try simp (disch := first | omega | assumption) only [E0_G, SY, setArgs, off, agreeKind, partVals, vals, allocV, boxed, ldA, rdCells, oneB, aggD, aField, aFieldV, aExtract, eq_self, ne_eq, if_true, if_false, not_false_eq_true, Nat.reduceAdd, Nat.reduceSub, Nat.reduceMul, Nat.reduceLT, Nat.reduceEqDiff, Nat.reduceBEq, reduceIte, Int.reduceEq, Int.reduceLT, Int.reduceLE, reduceCtorEq, h28a, w88, w89, w90, w91, w92] at hz
              rcases dP (0 < ((((two r24 (a) (b)).length + (two r25 (a) (b)).length) + (two r26 (a) (b)).length : Nat) : Int)) with ⟨h93a, h93⟩ | ⟨h93a, h93⟩
              · skip
                try simp (disch := first | omega | assumption) only [E0_G, SY, setArgs, off, agreeKind, partVals, vals, allocV, boxed, ldA, rdCells, oneB, aggD, aField, aFieldV, aExtract, eq_self, ne_eq, if_true, if_false, not_false_eq_true, Nat.reduceAdd, Nat.reduceSub, Nat.reduceMul, Nat.reduceLT, Nat.reduceEqDiff, Nat.reduceBEq, reduceIte, Int.reduceEq, Int.reduceLT, Int.reduceLE, reduceCtorEq, h93a] at hz
                have hr : r3 a b = false := (if_pos h2).trans ((if_pos h4).trans ((if_pos h25).trans ((if_pos h26).trans ((if_pos h27).trans ((if_neg h28).trans ((if_pos h93).trans (rfl)))))))
                exact fin hz (by rw [hr]) g20
              · skip
                obtain ⟨u94, S94, k94, a94, oo94⟩ := c23 (a : List Ar) (by have := few_len (show r14 a = true by assumption); omega) S20 (v_a) (hv_a.agree g20) 
                have l94 := a94.1
                have s94 : E0.same S20 S94 = true := symEnv_same a94
                have o5_95 := o5_21.agree a94
                have o6_96 := o6_22.agree a94
                have o8_97 := o8_23.agree a94
                have o11_98 := o11_24.agree a94
                have g94 : Agree S S94 := g20.trans a94
                obtain ⟨S99, k99, a99⟩ := c22 ((nrm (a)) : List Ar) ((r23 (a : List Ar)) : List Ar) (by first | exact nrm_le _ | exact two24_le _ _ | exact two25_le (by assumption) | exact two26_le (by assumption)) S94 (u5) (o5_95.rows) (u94) (oo94.rows) 
                have l99 := a99.1
                have s99 : E0.same S94 S99 = true := symEnv_same a99
                have o5_100 := o5_95.agree a99
                have o6_101 := o6_96.agree a99
                have o8_102 := o8_97.agree a99
                have o11_103 := o11_98.agree a99
                have o94_104 := oo94.agree a99
                have g99 : Agree S S99 := g94.trans a99
                try simp (disch := first | omega | assumption) only [E0_G, SY, setArgs, off, agreeKind, partVals, vals, allocV, boxed, ldA, rdCells, oneB, aggD, aField, aFieldV, aExtract, eq_self, ne_eq, if_true, if_false, not_false_eq_true, Nat.reduceAdd, Nat.reduceSub, Nat.reduceMul, Nat.reduceLT, Nat.reduceEqDiff, Nat.reduceBEq, reduceIte, Int.reduceEq, Int.reduceLT, Int.reduceLE, reduceCtorEq, h27a, h93a, k94, k99] at hz
                rcases dB ((r22 ((nrm (a)) : List Ar) ((r23 (a : List Ar)) : List Ar))) with ⟨h105a, h105⟩ | ⟨h105a, h105⟩
                · skip
                  try simp (disch := first | omega | assumption) only [E0_G, SY, setArgs, off, agreeKind, partVals, vals, allocV, boxed, ldA, rdCells, oneB, aggD, aField, aFieldV, aExtract, eq_self, ne_eq, if_true, if_false, not_false_eq_true, Nat.reduceAdd, Nat.reduceSub, Nat.reduceMul, Nat.reduceLT, Nat.reduceEqDiff, Nat.reduceBEq, reduceIte, Int.reduceEq, Int.reduceLT, Int.reduceLE, reduceCtorEq, h28a, h105a, c15s] at hz
                  have hr : r3 a b = true := (if_pos h2).trans ((if_pos h4).trans ((if_pos h25).trans ((if_pos h26).trans ((if_pos h27).trans ((if_neg h28).trans ((if_neg h93).trans ((if_pos h105).trans (rfl))))))))
                  exact fin hz (by rw [hr]) g99
                · skip
                  try simp (disch := first | omega | assumption) only [E0_G, SY, setArgs, off, agreeKind, partVals, vals, allocV, boxed, ldA, rdCells, oneB, aggD, aField, aFieldV, aExtract, eq_self, ne_eq, if_true, if_false, not_false_eq_true, Nat.reduceAdd, Nat.reduceSub, Nat.reduceMul, Nat.reduceLT, Nat.reduceEqDiff, Nat.reduceBEq, reduceIte, Int.reduceEq, Int.reduceLT, Int.reduceLE, reduceCtorEq, h105a] at hz
                  have hr : r3 a b = false := (if_pos h2).trans ((if_pos h4).trans ((if_pos h25).trans ((if_pos h26).trans ((if_pos h27).trans ((if_neg h28).trans ((if_neg h93).trans ((if_neg h105).trans (rfl))))))))
                  exact fin hz (by rw [hr]) g99
          · skip
            have w106 := (o5_21.rows).len (P := Tryz.prog) (t := 22) Tryz.underlying22
            try simp (disch := first | omega | assumption) only [E0_G, SY, setArgs, off, agreeKind, partVals, vals, allocV, boxed, ldA, rdCells, oneB, aggD, aField, aFieldV, aExtract, eq_self, ne_eq, if_true, if_false, not_false_eq_true, Nat.reduceAdd, Nat.reduceSub, Nat.reduceMul, Nat.reduceLT, Nat.reduceEqDiff, Nat.reduceBEq, reduceIte, Int.reduceEq, Int.reduceLT, Int.reduceLE, reduceCtorEq, h27a, w106] at hz
            rcases dP (0 < ((nrm (a)).length : Int)) with ⟨h107a, h107⟩ | ⟨h107a, h107⟩
            · skip
              try simp (disch := first | omega | assumption) only [E0_G, SY, setArgs, off, agreeKind, partVals, vals, allocV, boxed, ldA, rdCells, oneB, aggD, aField, aFieldV, aExtract, eq_self, ne_eq, if_true, if_false, not_false_eq_true, Nat.reduceAdd, Nat.reduceSub, Nat.reduceMul, Nat.reduceLT, Nat.reduceEqDiff, Nat.reduceBEq, reduceIte, Int.reduceEq, Int.reduceLT, Int.reduceLE, reduceCtorEq, h107a] at hz
              have hr : r3 a b = false := (if_pos h2).trans ((if_pos h4).trans ((if_pos h25).trans ((if_pos h26).trans ((if_neg h27).trans ((if_pos h107).trans (rfl))))))
              exact fin hz (by rw [hr]) g20
            · skip
              try simp (disch := first | omega | assumption) only [E0_G, SY, setArgs, off, agreeKind, partVals, vals, allocV, boxed, ldA, rdCells, oneB, aggD, aField, aFieldV, aExtract, eq_self, ne_eq, if_true, if_false, not_false_eq_true, Nat.reduceAdd, Nat.reduceSub, Nat.reduceMul, Nat.reduceLT, Nat.reduceEqDiff, Nat.reduceBEq, reduceIte, Int.reduceEq, Int.reduceLT, Int.reduceLE, reduceCtorEq, h107a] at hz
              rcases dP ((r21 (a : List Ar) (b : List Ar)) = 0) with ⟨h108a, h108⟩ | ⟨h108a, h108⟩
              · skip
                obtain ⟨u109, S109, k109, a109, oo109⟩ := c24 (a : List Ar) (b : List Ar) (by have := few_ok (show r14 a = true by assumption) (by first | assumption | exact (both_ok (by assumption)).1 | exact (both_ok (by assumption)).2); omega) (by have := few_ok (show r14 b = true by assumption) (by first | assumption | exact (both_ok (by assumption)).1 | exact (both_ok (by assumption)).2); omega) S20 (v_a) (hv_a.agree g20) (v_b) (hv_b.agree g20) 
                have l109 := a109.1
                have s109 : E0.same S20 S109 = true := symEnv_same a109
                have o5_110 := o5_21.agree a109
                have o6_111 := o6_22.agree a109
                have o8_112 := o8_23.agree a109
                have o11_113 := o11_24.agree a109
                have g109 : Agree S S109 := g20.trans a109
                obtain ⟨S114, k114, a114⟩ := c22 ((two r24 (a) (b)) : List Ar) ((r24 (a : List Ar) (b : List Ar)) : List Ar) (by first | exact nrm_le _ | exact two24_le _ _ | exact two25_le (by assumption) | exact two26_le (by assumption)) S109 (u6) (o6_111.rows) (u109) (oo109.rows) 
                have l114 := a114.1
                have s114 : E0.same S109 S114 = true := symEnv_same a114
                have o5_115 := o5_110.agree a114
                have o6_116 := o6_111.agree a114
                have o8_117 := o8_112.agree a114
                have o11_118 := o11_113.agree a114
                have o109_119 := oo109.agree a114
                have g114 : Agree S S114 := g109.trans a114
                try simp (disch := first | omega | assumption) only [E0_G, SY, setArgs, off, agreeKind, partVals, vals, allocV, boxed, ldA, rdCells, oneB, aggD, aField, aFieldV, aExtract, eq_self, ne_eq, if_true, if_false, not_false_eq_true, Nat.reduceAdd, Nat.reduceSub, Nat.reduceMul, Nat.reduceLT, Nat.reduceEqDiff, Nat.reduceBEq, reduceIte, Int.reduceEq, Int.reduceLT, Int.reduceLE, reduceCtorEq, h27a, h108a, c15s, k109, k114] at hz
                rcases dB ((r22 ((two r24 (a) (b)) : List Ar) ((r24 (a : List Ar) (b : List Ar)) : List Ar))) with ⟨h120a, h120⟩ | ⟨h120a, h120⟩
                · skip
                  obtain ⟨u121, S121, k121, a121, oo121⟩ := c25 (a : List Ar) (b : List Ar) (by have := few_ok (show r14 a = true by assumption) (by first | assumption | exact (both_ok (by assumption)).1 | exact (both_ok (by assumption)).2); omega) (by have := few_ok (show r14 b = true by assumption) (by first | assumption | exact (both_ok (by assumption)).1 | exact (both_ok (by assumption)).2); omega) S114 (v_a) (hv_a.agree g114) (v_b) (hv_b.agree g114) 
                  have l121 := a121.1
                  have s121 : E0.same S114 S121 = true := symEnv_same a121
                  have o5_122 := o5_115.agree a121
                  have o6_123 := o6_116.agree a121
                  have o8_124 := o8_117.agree a121
                  have o11_125 := o11_118.agree a121
                  have o109_126 := o109_119.agree a121
                  have g121 : Agree S S121 := g114.trans a121
                  obtain ⟨S127, k127, a127⟩ := c22 ((two r25 (a) (b)) : List Ar) ((r25 (a : List Ar) (b : List Ar)) : List Ar) (by first | exact nrm_le _ | exact two24_le _ _ | exact two25_le (by assumption) | exact two26_le (by assumption)) S121 (u8) (o8_124.rows) (u121) (oo121.rows) 
                  have l127 := a127.1
                  have s127 : E0.same S121 S127 = true := symEnv_same a127
                  have o5_128 := o5_122.agree a127
                  have o6_129 := o6_123.agree a127
                  have o8_130 := o8_124.agree a127
                  have o11_131 := o11_125.agree a127
                  have o109_132 := o109_126.agree a127
                  have o121_133 := oo121.agree a127
                  have g127 : Agree S S127 := g121.trans a127
                  try simp (disch := first | omega | assumption) only [E0_G, SY, setArgs, off, agreeKind, partVals, vals, allocV, boxed, ldA, rdCells, oneB, aggD, aField, aFieldV, aExtract, eq_self, ne_eq, if_true, if_false, not_false_eq_true, Nat.reduceAdd, Nat.reduceSub, Nat.reduceMul, Nat.reduceLT, Nat.reduceEqDiff, Nat.reduceBEq, reduceIte, Int.reduceEq, Int.reduceLT, Int.reduceLE, reduceCtorEq, h120a, k121, k127] at hz
                  rcases dB ((r22 ((two r25 (a) (b)) : List Ar) ((r25 (a : List Ar) (b : List Ar)) : List Ar))) with ⟨h134a, h134⟩ | ⟨h134a, h134⟩
                  · skip
                    obtain ⟨u135, S135, k135, a135, oo135⟩ := c26 (a : List Ar) (b : List Ar) (by have := few_ok (show r14 a = true by assumption) (by first | assumption | exact (both_ok (by assumption)).1 | exact (both_ok (by assumption)).2); omega) (by have := few_ok (show r14 b = true by assumption) (by first | assumption | exact (both_ok (by assumption)).1 | exact (both_ok (by assumption)).2); omega) S127 (v_a) (hv_a.agree g127) (v_b) (hv_b.agree g127) 
                    have l135 := a135.1
                    have s135 : E0.same S127 S135 = true := symEnv_same a135
                    have o5_136 := o5_128.agree a135
                    have o6_137 := o6_129.agree a135
                    have o8_138 := o8_130.agree a135
                    have o11_139 := o11_131.agree a135
                    have o109_140 := o109_132.agree a135
                    have o121_141 := o121_133.agree a135
                    have g135 : Agree S S135 := g127.trans a135
                    obtain ⟨S142, k142, a142⟩ := c22 ((two r26 (a) (b)) : List Ar) ((r26 (a : List Ar) (b : List Ar)) : List Ar) (by first | exact nrm_le _ | exact two24_le _ _ | exact two25_le (by assumption) | exact two26_le (by assumption)) S135 (u11) (o11_139.rows) (u135) (oo135.rows) 
                    have l142 := a142.1
                    have s142 : E0.same S135 S142 = true := symEnv_same a142
                    have o5_143 := o5_136.agree a142
                    have o6_144 := o6_137.agree a142
                    have o8_145 := o8_138.agree a142
                    have o11_146 := o11_139.agree a142
                    have o109_147 := o109_140.agree a142
                    have o121_148 := o121_141.agree a142
                    have o135_149 := oo135.agree a142
                    have g142 : Agree S S142 := g135.trans a142
                    try simp (disch := first | omega | assumption) only [E0_G, SY, setArgs, off, agreeKind, partVals, vals, allocV, boxed, ldA, rdCells, oneB, aggD, aField, aFieldV, aExtract, eq_self, ne_eq, if_true, if_false, not_false_eq_true, Nat.reduceAdd, Nat.reduceSub, Nat.reduceMul, Nat.reduceLT, Nat.reduceEqDiff, Nat.reduceBEq, reduceIte, Int.reduceEq, Int.reduceLT, Int.reduceLE, reduceCtorEq, h134a, k135, k142] at hz
                    have hr : r3 a b = (r22 ((two r26 (a) (b)) : List Ar) ((r26 (a : List Ar) (b : List Ar)) : List Ar)) := (if_pos h2).trans ((if_pos h4).trans ((if_pos h25).trans ((if_pos h26).trans ((if_neg h27).trans ((if_neg h107).trans ((if_pos h108).trans ((if_pos h120).trans ((if_pos h134).trans (rfl)))))))))
                    exact fin hz (by rw [hr]) g142
                  · skip
                    try simp (disch := first | omega | assumption) only [E0_G, SY, setArgs, off, agreeKind, partVals, vals, allocV, boxed, ldA, rdCells, oneB, aggD, aField, aFieldV, aExtract, eq_self, ne_eq, if_true, if_false, not_false_eq_true, Nat.reduceAdd, Nat.reduceSub, Nat.reduceMul, Nat.reduceLT, Nat.reduceEqDiff, Nat.reduceBEq, reduceIte, Int.reduceEq, Int.reduceLT, Int.reduceLE, reduceCtorEq, h134a] at hz
                    have hr : r3 a b = false := (if_pos h2).trans ((if_pos h4).trans ((if_pos h25).trans ((if_pos h26).trans ((if_neg h27).trans ((if_neg h107).trans ((if_pos h108).trans ((if_pos h120).trans ((if_neg h134).trans (rfl)))))))))
                    exact fin hz (by rw [hr]) g127
                · skip
                  try simp (disch := first | omega | assumption) only [E0_G, SY, setArgs, off, agreeKind, partVals, vals, allocV, boxed, ldA, rdCells, oneB, aggD, aField, aFieldV, aExtract, eq_self, ne_eq, if_true, if_false, not_false_eq_true, Nat.reduceAdd, Nat.reduceSub, Nat.reduceMul, Nat.reduceLT, Nat.reduceEqDiff, Nat.reduceBEq, reduceIte, Int.reduceEq, Int.reduceLT, Int.reduceLE, reduceCtorEq, h120a] at hz
                  have hr : r3 a b = false := (if_pos h2).trans ((if_pos h4).trans ((if_pos h25).trans ((if_pos h26).trans ((if_neg h27).trans ((if_neg h107).trans ((if_pos h108).trans ((if_neg h120).trans (rfl))))))))
                  exact fin hz (by rw [hr]) g114
              · skip
                have w150 := (o6_22.rows).len (P := Tryz.prog) (t := 22) Tryz.underlying22
                have w151 := (o8_23.rows).len (P := Tryz.prog) (t := 22) Tryz.underlying22
                have w152 : IntKind.i64.wrap (((two r24 (a) (b)).length : Int) + ((two r25 (a) (b)).length : Int)) = (((two r24 (a) (b)).length + (two r25 (a) (b)).length : Nat) : Int) := by have q1 := two24_le a b; have q2 := two25_le (a := a) (show r14 b = true by assumption); have q3 := two26_le (a := a) (show r14 b = true by assumption); rw [IntWalk.i64_in] <;> omega
                have w153 := (o11_24.rows).len (P := Tryz.prog) (t := 22) Tryz.underlying22
                have w154 : IntKind.i64.wrap ((((two r24 (a) (b)).length + (two r25 (a) (b)).length : Nat) : Int) + ((two r26 (a) (b)).length : Int)) = ((((two r24 (a) (b)).length + (two r25 (a) (b)).length) + (two r26 (a) (b)).length : Nat) : Int) := by have q1 := two24_le a b; have q2 := two25_le (a := a) (show r14 b = true by assumption); have q3 := two26_le (a := a) (show r14 b = true by assumption); rw [IntWalk.i64_in] <;> omega
                try simp (disch := first | omega | assumption) only [E0_G, SY, setArgs, off, agreeKind, partVals, vals, allocV, boxed, ldA, rdCells, oneB, aggD, aField, aFieldV, aExtract, eq_self, ne_eq, if_true, if_false, not_false_eq_true, Nat.reduceAdd, Nat.reduceSub, Nat.reduceMul, Nat.reduceLT, Nat.reduceEqDiff, Nat.reduceBEq, reduceIte, Int.reduceEq, Int.reduceLT, Int.reduceLE, reduceCtorEq, h108a, w150, w151, w152, w153, w154] at hz
                rcases dP (0 < ((((two r24 (a) (b)).length + (two r25 (a) (b)).length) + (two r26 (a) (b)).length : Nat) : Int)) with ⟨h155a, h155⟩ | ⟨h155a, h155⟩
                · skip
                  try simp (disch := first | omega | assumption) only [E0_G, SY, setArgs, off, agreeKind, partVals, vals, allocV, boxed, ldA, rdCells, oneB, aggD, aField, aFieldV, aExtract, eq_self, ne_eq, if_true, if_false, not_false_eq_true, Nat.reduceAdd, Nat.reduceSub, Nat.reduceMul, Nat.reduceLT, Nat.reduceEqDiff, Nat.reduceBEq, reduceIte, Int.reduceEq, Int.reduceLT, Int.reduceLE, reduceCtorEq, h155a] at hz
                  have hr : r3 a b = false := (if_pos h2).trans ((if_pos h4).trans ((if_pos h25).trans ((if_pos h26).trans ((if_neg h27).trans ((if_neg h107).trans ((if_neg h108).trans ((if_pos h155).trans (rfl))))))))
                  exact fin hz (by rw [hr]) g20
                · skip
                  try simp (disch := first | omega | assumption) only [E0_G, SY, setArgs, off, agreeKind, partVals, vals, allocV, boxed, ldA, rdCells, oneB, aggD, aField, aFieldV, aExtract, eq_self, ne_eq, if_true, if_false, not_false_eq_true, Nat.reduceAdd, Nat.reduceSub, Nat.reduceMul, Nat.reduceLT, Nat.reduceEqDiff, Nat.reduceBEq, reduceIte, Int.reduceEq, Int.reduceLT, Int.reduceLE, reduceCtorEq, h27a, h108a, h155a, c15s] at hz
                  have hr : r3 a b = true := (if_pos h2).trans ((if_pos h4).trans ((if_pos h25).trans ((if_pos h26).trans ((if_neg h27).trans ((if_neg h107).trans ((if_neg h108).trans ((if_neg h155).trans (rfl))))))))
                  exact fin hz (by rw [hr]) g20
        · skip
          try simp (disch := first | omega | assumption) only [E0_G, SY, setArgs, off, agreeKind, partVals, vals, allocV, boxed, ldA, rdCells, oneB, aggD, aField, aFieldV, aExtract, eq_self, ne_eq, if_true, if_false, not_false_eq_true, Nat.reduceAdd, Nat.reduceSub, Nat.reduceMul, Nat.reduceLT, Nat.reduceEqDiff, Nat.reduceBEq, reduceIte, Int.reduceEq, Int.reduceLT, Int.reduceLE, reduceCtorEq, TY_EvC9, and_fold, or_fold, not_fold, k1, s1, h2a, k3, s3, h4a, k5, s5, k6, s6, k8, s8, k11, s11, k15, s15, k20, s20, h25a, h26a] at hz
          exact absurd rfl h26
      · skip
        try simp (disch := first | omega | assumption) only [E0_G, SY, setArgs, off, agreeKind, partVals, vals, allocV, boxed, ldA, rdCells, oneB, aggD, aField, aFieldV, aExtract, eq_self, ne_eq, if_true, if_false, not_false_eq_true, Nat.reduceAdd, Nat.reduceSub, Nat.reduceMul, Nat.reduceLT, Nat.reduceEqDiff, Nat.reduceBEq, reduceIte, Int.reduceEq, Int.reduceLT, Int.reduceLE, reduceCtorEq, TY_EvC9, and_fold, or_fold, not_fold, k1, s1, h2a, k3, s3, h4a, k5, s5, k6, s6, k8, s8, k11, s11, k15, s15, k20, s20, h25a] at hz
        exact absurd rfl h25
    · skip
      try simp (disch := first | omega | assumption) only [E0_G, SY, setArgs, off, agreeKind, partVals, vals, allocV, boxed, ldA, rdCells, oneB, aggD, aField, aFieldV, aExtract, eq_self, ne_eq, if_true, if_false, not_false_eq_true, Nat.reduceAdd, Nat.reduceSub, Nat.reduceMul, Nat.reduceLT, Nat.reduceEqDiff, Nat.reduceBEq, reduceIte, Int.reduceEq, Int.reduceLT, Int.reduceLE, reduceCtorEq, h4a, c15s] at hz
      have hr : r3 a b = true := (if_pos h2).trans ((if_neg h4).trans (rfl))
      exact fin hz (by rw [hr]) g3
  · skip
    try simp (disch := first | omega | assumption) only [E0_G, SY, setArgs, off, agreeKind, partVals, vals, allocV, boxed, ldA, rdCells, oneB, aggD, aField, aFieldV, aExtract, eq_self, ne_eq, if_true, if_false, not_false_eq_true, Nat.reduceAdd, Nat.reduceSub, Nat.reduceMul, Nat.reduceLT, Nat.reduceEqDiff, Nat.reduceBEq, reduceIte, Int.reduceEq, Int.reduceLT, Int.reduceLE, reduceCtorEq, h2a, c15s] at hz
    have hr : r3 a b = true := (if_neg h2).trans (rfl)
    exact fin hz (by rw [hr]) g1
end Great
end Go.Proofs
