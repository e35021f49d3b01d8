/-
  The great seat of stage 1: the law DialGrows, by the generator.
-/
import Derived.Test.YtgbjgljchkodjaaGreatDoorEvM11
set_option linter.unusedSimpArgs false
set_option linter.unusedVariables false
namespace Go.Proofs
namespace Great
open Go Go.RowKit Go.Aev
set_option maxRecDepth 100000
theorem tt4 : inTab Tryz.prog 4 = true := by kernel_rfl
theorem t0_4 : zeroOf Tryz.prog 4 = some (.bool false) := by kernel_rfl
/-- What is known of the types. -/
theorem TY_EvC11 : type_of% (And.intro (And.intro (And.intro (And.intro (And.intro (And.intro Tryz.underlying3 tz3) (And.intro tt3 (And.intro t0_3 Tryz.underlying4))) (And.intro (And.intro tz4 (And.intro tt4 t0_4)) (And.intro Tryz.underlying22 (And.intro tz22 tt22)))) (And.intro (And.intro (And.intro t0_22 (And.intro Tryz.underlying56 tz43)) (And.intro tt43 (And.intro t0_43 Tryz.underlying59))) (And.intro (And.intro tz44 (And.intro tt44 t0_44)) (And.intro Tryz.underlying60 (And.intro tz45 tt45))))) (And.intro (And.intro (And.intro (And.intro t0_45 Tryz.underlying62) (And.intro tz51 (And.intro tt51 t0_51))) (And.intro (And.intro Tryz.underlying63 (And.intro tz52 tt52)) (And.intro t0_52 (And.intro Tryz.underlying43 tz55)))) (And.intro (And.intro (And.intro tt55 (And.intro t0_55 Tryz.underlying44)) (And.intro tz56 (And.intro tt56 t0_56))) (And.intro (And.intro Tryz.underlying45 (And.intro tz57 tt57)) (And.intro t0_57 (And.intro Tryz.underlying46 tz58)))))) (And.intro (And.intro (And.intro (And.intro (And.intro tt58 t0_58) (And.intro Tryz.underlying66 (And.intro tz77 tt77))) (And.intro (And.intro t0_77 (And.intro Tryz.underlying73 tz80)) (And.intro tt80 (And.intro t0_80 Tryz.underlying82)))) (And.intro (And.intro (And.intro tz90 (And.intro tt90 t0_90)) (And.intro Tryz.underlying89 (And.intro tz110 tt110))) (And.intro (And.intro t0_110 (And.intro Tryz.underlying94 tz115)) (And.intro tt115 (And.intro t0_115 Tryz.underlying95))))) (And.intro (And.intro (And.intro (And.intro tz116 tt116) (And.intro t0_116 (And.intro Tryz.underlying76 tz123))) (And.intro (And.intro tt123 (And.intro t0_123 Tryz.underlying136)) (And.intro tz177 (And.intro tt177 t0_177)))) (And.intro (And.intro (And.intro Tryz.underlying137 (And.intro tz178 tt178)) (And.intro t0_178 (And.intro Tryz.underlying141 tz182))) (And.intro (And.intro tt182 (And.intro t0_182 Tryz.underlying142)) (And.intro tz183 (And.intro tt183 t0_183))))))) := (And.intro (And.intro (And.intro (And.intro (And.intro (And.intro Tryz.underlying3 tz3) (And.intro tt3 (And.intro t0_3 Tryz.underlying4))) (And.intro (And.intro tz4 (And.intro tt4 t0_4)) (And.intro Tryz.underlying22 (And.intro tz22 tt22)))) (And.intro (And.intro (And.intro t0_22 (And.intro Tryz.underlying56 tz43)) (And.intro tt43 (And.intro t0_43 Tryz.underlying59))) (And.intro (And.intro tz44 (And.intro tt44 t0_44)) (And.intro Tryz.underlying60 (And.intro tz45 tt45))))) (And.intro (And.intro (And.intro (And.intro t0_45 Tryz.underlying62) (And.intro tz51 (And.intro tt51 t0_51))) (And.intro (And.intro Tryz.underlying63 (And.intro tz52 tt52)) (And.intro t0_52 (And.intro Tryz.underlying43 tz55)))) (And.intro (And.intro (And.intro tt55 (And.intro t0_55 Tryz.underlying44)) (And.intro tz56 (And.intro tt56 t0_56))) (And.intro (And.intro Tryz.underlying45 (And.intro tz57 tt57)) (And.intro t0_57 (And.intro Tryz.underlying46 tz58)))))) (And.intro (And.intro (And.intro (And.intro (And.intro tt58 t0_58) (And.intro Tryz.underlying66 (And.intro tz77 tt77))) (And.intro (And.intro t0_77 (And.intro Tryz.underlying73 tz80)) (And.intro tt80 (And.intro t0_80 Tryz.underlying82)))) (And.intro (And.intro (And.intro tz90 (And.intro tt90 t0_90)) (And.intro Tryz.underlying89 (And.intro tz110 tt110))) (And.intro (And.intro t0_110 (And.intro Tryz.underlying94 tz115)) (And.intro tt115 (And.intro t0_115 Tryz.underlying95))))) (And.intro (And.intro (And.intro (And.intro tz116 tt116) (And.intro t0_116 (And.intro Tryz.underlying76 tz123))) (And.intro (And.intro tt123 (And.intro t0_123 Tryz.underlying136)) (And.intro tz177 (And.intro tt177 t0_177)))) (And.intro (And.intro (And.intro Tryz.underlying137 (And.intro tz178 tt178)) (And.intro t0_178 (And.intro Tryz.underlying141 tz182))) (And.intro (And.intro tt182 (And.intro t0_182 Tryz.underlying142)) (And.intro tz183 (And.intro tt183 t0_183)))))))
def r4 (a : List Ar) (b : List Ar) (w : Int) : Bool := (if (r14 (a : List Ar)) = true then (if (r14 (b : List Ar)) = true then (if (r20 (a : List Ar)) = 0 then (if 0 ≤ w ∧ w ≤ 43200 then (if ((r27 (a) w).2) = (r20 (a : List Ar)) then (if ((r28f (a)).2) = (r20 (a : List Ar)) then (if (r21 (a) (b)) = (r21 (a : List Ar) (b : List Ar)) then (if (r21 (a : List Ar) (b : List Ar)) = 0 then (if (r22 (((r27 (a) w).1) : List Ar) ((r31 (a : List Ar) w) : List Ar)) = true then (if ((r28f (a)).1) = (r32 (a : List Ar)) then decide ((cvr (a) (b)) = (r33 (a : List Ar) (b : List Ar))) else false) else false) else (if cvr (a) (b) = true then false else (if (r22 (((r27 (a) w).1) : List Ar) ((r31 (a : List Ar) w) : List Ar)) = true then (if ((r28f (a)).1) = (r32 (a : List Ar)) then true else false) else false))) else false) else false) else false) else (if ((r27 (a) w).2) = 1 then (if ((r28f (a)).2) = (r20 (a : List Ar)) then (if (r21 (a) (b)) = (r21 (a : List Ar) (b : List Ar)) then (if 0 < (((r27 (a) w).1).length : Int) then false else (if (r21 (a : List Ar) (b : List Ar)) = 0 then (if ((r28f (a)).1) = (r32 (a : List Ar)) then decide ((cvr (a) (b)) = (r33 (a : List Ar) (b : List Ar))) else false) else (if cvr (a) (b) = true then false else (if ((r28f (a)).1) = (r32 (a : List Ar)) then true else false)))) else false) else false) else false)) else (if ((r27 (a) w).2) = (r20 (a : List Ar)) then (if ((r28f (a)).2) = (r20 (a : List Ar)) then (if (r21 (a) (b)) = (r21 (a : List Ar) (b : List Ar)) then (if 0 < (((r27 (a) w).1).length : Int) then false else (if ((r28f (a)).1) = 0 then (if (r21 (a : List Ar) (b : List Ar)) = 0 then decide ((cvr (a) (b)) = (r33 (a : List Ar) (b : List Ar))) else (if cvr (a) (b) = true then false else true)) else false)) else false) else false) else false)) else true) else true)
set_option maxHeartbeats 8000000 in
theorem c4 (a : List Ar) (b : List Ar) (w : Int) (hs : SortOk 1000)  (S : AS) (v_a : Value) (hv_a : Lst S v_a a) (v_b : Value) (hv_b : Lst S v_b b) (ht : Tab S) :
    ∃ S', (evL Tryz.prog E0).call 4 #[v_a, v_b, .int .i64 w] S = some (.bool (r4 a b w), S') ∧ Agree S S' := by
  generalize hz : (evL Tryz.prog E0).call 4 _ _ = z
  rw [L_call, evCall_said rfl Tryz.func4 rfl (by decide) Tryz.ntmps4 Tryz.results4] at hz
  obtain ⟨S1, k1, a1⟩ := c14 (a : List Ar)  S (v_a) (hv_a) 
  have l1 := a1.1
  have s1 : E0.same S S1 = true := symEnv_same a1
  have g1 : Agree S S1 := a1
  try simp (disch := first | omega | assumption) only [E0_G, SY, setArgs, off, agreeKind, vals, Nat.reduceAdd, Nat.reduceSub, Nat.reduceLT, Nat.reduceBEq, k1] at hz
  rcases dB ((r14 (a : List Ar))) with ⟨h2a, h2⟩ | ⟨h2a, h2⟩
  · skip
    obtain ⟨S3, k3, a3⟩ := c14 (b : List Ar)  S1 (v_b) (hv_b.agree g1) 
    have l3 := a3.1
    have s3 : E0.same S1 S3 = true := symEnv_same a3
    have g3 : Agree S S3 := g1.trans a3
    try simp (disch := first | omega | assumption) only [E0_G, SY, off, agreeKind, vals, Nat.reduceAdd, Nat.reduceLT, Nat.reduceBEq, h2a, k3] at hz
    rcases dB ((r14 (b : List Ar))) with ⟨h4a, h4⟩ | ⟨h4a, h4⟩
    · skip
      obtain ⟨u5, S5, k5, a5, oo5⟩ := c27 (a) w hs (by assumption) S3 (v_a) (hv_a.agree g3) (ht.agree g3)
      have l5 := a5.1
      have s5 : E0.same S3 S5 = true := symEnv_same a5
      have g5 : Agree S S5 := g3.trans a5
      obtain ⟨S6, k6, a6⟩ := c28f (a) hs (by assumption) S5 (v_a) (hv_a.agree g5) (ht.agree g5)
      have l6 := a6.1
      have s6 : E0.same S5 S6 = true := symEnv_same a6
      have o5_7 := oo5.agree a6
      have g6 : Agree S S6 := g5.trans a6
      obtain ⟨S8, k8, a8⟩ := c29f hs (a) (b) (by assumption) (by assumption) S6 (v_a) (hv_a.agree g6) (v_b) (hv_b.agree g6) (ht.agree g6)
      have l8 := a8.1
      have s8 : E0.same S6 S8 = true := symEnv_same a8
      have o5_9 := o5_7.agree a8
      have g8 : Agree S S8 := g6.trans a8
      obtain ⟨S10, k10, a10⟩ := c20 (a : List Ar) (by have := few_len (show r14 a = true by assumption); omega) S8 (v_a) (hv_a.agree g8) 
      have l10 := a10.1
      have s10 : E0.same S8 S10 = true := symEnv_same a10
      have o5_11 := o5_9.agree a10
      have g10 : Agree S S10 := g8.trans a10
      obtain ⟨S12, k12, a12⟩ := c21 (a : List Ar) (b : List Ar) (by have := few_len (show r14 a = true by assumption); omega) (by have := few_len (show r14 b = true by assumption); omega) S10 (v_a) (hv_a.agree g10) (v_b) (hv_b.agree g10) 
      have l12 := a12.1
      have s12 : E0.same S10 S12 = true := symEnv_same a12
      have o5_13 := o5_11.agree a12
      have g12 : Agree S S12 := g10.trans a12
      try simp (disch := first | omega | assumption) only [E0_G, SY, off, agreeKind, vals, aExtract, Nat.reduceAdd, Nat.reduceLT, Nat.reduceBEq, h4a, k5, k6, k8, k10, k12] at hz
      rcases dP ((r20 (a : List Ar)) = 0) with ⟨h14a, h14⟩ | ⟨h14a, h14⟩
      · skip
        have k15 := c30 w 0 43200 S12
        try simp (disch := first | omega | assumption) only [E0_G, SY, off, agreeKind, vals, Nat.reduceAdd, Nat.reduceLT, Nat.reduceBEq, h14a, k15] at hz
        rcases dP (0 ≤ w ∧ w ≤ 43200) with ⟨h16a, h16⟩ | ⟨h16a, h16⟩
        · skip
          try simp (disch := first | omega | assumption) only [E0_G, SY, off, agreeKind, Nat.reduceAdd, Nat.reduceLT, Nat.reduceBEq, h16a] at hz
          rcases dP (((r27 (a) w).2) = (r20 (a : List Ar))) with ⟨h17a, h17⟩ | ⟨h17a, h17⟩
          · skip
            try simp (disch := first | omega | assumption) only [E0_G, SY, off, agreeKind, Nat.reduceAdd, Nat.reduceLT, Nat.reduceBEq, h17a] at hz
            rcases dP (((r28f (a)).2) = (r20 (a : List Ar))) with ⟨h18a, h18⟩ | ⟨h18a, h18⟩
            · skip
              try simp (disch := first | omega | assumption) only [E0_G, SY, off, agreeKind, eq_self, Nat.reduceAdd, Nat.reduceLT, Nat.reduceBEq, h14a, h18a] at hz
              rcases dP ((r21 (a) (b)) = (r21 (a : List Ar) (b : List Ar))) with ⟨h19a, h19⟩ | ⟨h19a, h19⟩
              · skip
                try simp (disch := first | omega | assumption) only [E0_G, SY, setArgs, off, agreeKind, partVals, vals, allocV, boxed, ldA, rdCells, oneB, aggD, aField, aFieldV, aExtract, eq_self, ne_eq, if_true, if_false, not_false_eq_true, Nat.reduceAdd, Nat.reduceSub, Nat.reduceMul, Nat.reduceLT, Nat.reduceEqDiff, Nat.reduceBEq, reduceIte, Int.reduceEq, Int.reduceLT, Int.reduceLE, reduceCtorEq, TY_EvC11, and_fold, or_fold, not_fold, k1, s1, h2a, k3, s3, h4a, k5, s5, k6, s6, k8, s8, k10, s10, k12, s12, h14a, k15, h16a, h17a, h18a, h19a] at hz
                rcases dP ((r21 (a : List Ar) (b : List Ar)) = 0) with ⟨h20a, h20⟩ | ⟨h20a, h20⟩
                · skip
                  obtain ⟨u21, S21, k21, a21, oo21⟩ := c31 (a : List Ar) w (by have := few_len (show r14 a = true by assumption); omega) S12 (v_a) (hv_a.agree g12) 
                  have l21 := a21.1
                  have s21 : E0.same S12 S21 = true := symEnv_same a21
                  have o5_22 := o5_13.agree a21
                  have g21 : Agree S S21 := g12.trans a21
                  obtain ⟨S23, k23, a23⟩ := c22 (((r27 (a) w).1) : List Ar) ((r31 (a : List Ar) w) : List Ar) (r27_le _ _) S21 (u5) (o5_22.rows) (u21) (oo21.rows) 
                  have l23 := a23.1
                  have s23 : E0.same S21 S23 = true := symEnv_same a23
                  have o5_24 := o5_22.agree a23
                  have o21_25 := oo21.agree a23
                  have g23 : Agree S S23 := g21.trans a23
                  try simp (disch := first | omega | assumption) only [E0_G, SY, off, agreeKind, vals, Nat.reduceAdd, Nat.reduceLT, Nat.reduceBEq, h14a, h20a, k21, k23] at hz
                  rcases dB ((r22 (((r27 (a) w).1) : List Ar) ((r31 (a : List Ar) w) : List Ar))) with ⟨h26a, h26⟩ | ⟨h26a, h26⟩
                  · skip
                    obtain ⟨S27, k27, a27⟩ := c32 (a : List Ar) (by have := few_len (show r14 a = true by assumption); omega) S23 (v_a) (hv_a.agree g23) 
                    have l27 := a27.1
                    have s27 : E0.same S23 S27 = true := symEnv_same a27
                    have o5_28 := o5_24.agree a27
                    have o21_29 := o21_25.agree a27
                    have g27 : Agree S S27 := g23.trans a27
                    try simp (disch := first | omega | assumption) only [E0_G, SY, off, agreeKind, vals, Nat.reduceAdd, Nat.reduceLT, Nat.reduceBEq, h14a, h26a, k27] at hz
                    rcases dP (((r28f (a)).1) = (r32 (a : List Ar))) with ⟨h30a, h30⟩ | ⟨h30a, h30⟩
                    · skip
                      obtain ⟨S31, k31, a31⟩ := c33 (a : List Ar) (b : List Ar) (by have := few_ok (show r14 a = true by assumption) (by first | assumption | exact (both_ok (by assumption)).1 | exact (both_ok (by assumption)).2); omega) (by have := few_ok (show r14 b = true by assumption) (by first | assumption | exact (both_ok (by assumption)).1 | exact (both_ok (by assumption)).2); omega) S27 (v_a) (hv_a.agree g27) (v_b) (hv_b.agree g27) 
                      have l31 := a31.1
                      have s31 : E0.same S27 S31 = true := symEnv_same a31
                      have o5_32 := o5_28.agree a31
                      have o21_33 := o21_29.agree a31
                      have g31 : Agree S S31 := g27.trans a31
                      try simp (disch := first | omega | assumption) only [E0_G, SY, off, agreeKind, vals, Nat.reduceAdd, Nat.reduceLT, Nat.reduceBEq, TY_EvC11, h20a, h30a, c15s, k31] at hz
                      have hr : r4 a b w = decide ((cvr (a) (b)) = (r33 (a : List Ar) (b : List Ar))) := (if_pos h2).trans ((if_pos h4).trans ((if_pos h14).trans ((if_pos h16).trans ((if_pos h17).trans ((if_pos h18).trans ((if_pos h19).trans ((if_pos h20).trans ((if_pos h26).trans ((if_pos h30).trans (rfl))))))))))
                      exact fin hz (by rw [hr]) g31
                    · skip
                      try simp (disch := first | omega | assumption) only [E0_G, SY, off, agreeKind, Nat.reduceLT, Nat.reduceBEq, h30a] at hz
                      have hr : r4 a b w = false := (if_pos h2).trans ((if_pos h4).trans ((if_pos h14).trans ((if_pos h16).trans ((if_pos h17).trans ((if_pos h18).trans ((if_pos h19).trans ((if_pos h20).trans ((if_pos h26).trans ((if_neg h30).trans (rfl))))))))))
                      exact fin hz (by rw [hr]) g27
                  · skip
                    try simp (disch := first | omega | assumption) only [E0_G, SY, off, agreeKind, Nat.reduceAdd, Nat.reduceLT, Nat.reduceBEq, h26a] at hz
                    have hr : r4 a b w = false := (if_pos h2).trans ((if_pos h4).trans ((if_pos h14).trans ((if_pos h16).trans ((if_pos h17).trans ((if_pos h18).trans ((if_pos h19).trans ((if_pos h20).trans ((if_neg h26).trans (rfl)))))))))
                    exact fin hz (by rw [hr]) g23
                · skip
                  try simp (disch := first | omega | assumption) only [E0_G, SY, off, agreeKind, Nat.reduceAdd, Nat.reduceLT, Nat.reduceBEq, h20a] at hz
                  rcases dB (cvr (a) (b)) with ⟨h34a, h34⟩ | ⟨h34a, h34⟩
                  · skip
                    try simp (disch := first | omega | assumption) only [E0_G, SY, off, agreeKind, Nat.reduceLT, Nat.reduceBEq, h34a] at hz
                    have hr : r4 a b w = false := (if_pos h2).trans ((if_pos h4).trans ((if_pos h14).trans ((if_pos h16).trans ((if_pos h17).trans ((if_pos h18).trans ((if_pos h19).trans ((if_neg h20).trans ((if_pos h34).trans (rfl)))))))))
                    exact fin hz (by rw [hr]) g12
                  · skip
                    obtain ⟨u35, S35, k35, a35, oo35⟩ := c31 (a : List Ar) w (by have := few_len (show r14 a = true by assumption); omega) S12 (v_a) (hv_a.agree g12) 
                    have l35 := a35.1
                    have s35 : E0.same S12 S35 = true := symEnv_same a35
                    have o5_36 := o5_13.agree a35
                    have g35 : Agree S S35 := g12.trans a35
                    obtain ⟨S37, k37, a37⟩ := c22 (((r27 (a) w).1) : List Ar) ((r31 (a : List Ar) w) : List Ar) (r27_le _ _) S35 (u5) (o5_36.rows) (u35) (oo35.rows) 
                    have l37 := a37.1
                    have s37 : E0.same S35 S37 = true := symEnv_same a37
                    have o5_38 := o5_36.agree a37
                    have o35_39 := oo35.agree a37
                    have g37 : Agree S S37 := g35.trans a37
                    try simp (disch := first | omega | assumption) only [E0_G, SY, off, agreeKind, vals, Nat.reduceAdd, Nat.reduceLT, Nat.reduceBEq, h14a, h34a, k35, k37] at hz
                    rcases dB ((r22 (((r27 (a) w).1) : List Ar) ((r31 (a : List Ar) w) : List Ar))) with ⟨h40a, h40⟩ | ⟨h40a, h40⟩
                    · skip
                      obtain ⟨S41, k41, a41⟩ := c32 (a : List Ar) (by have := few_len (show r14 a = true by assumption); omega) S37 (v_a) (hv_a.agree g37) 
                      have l41 := a41.1
                      have s41 : E0.same S37 S41 = true := symEnv_same a41
                      have o5_42 := o5_38.agree a41
                      have o35_43 := o35_39.agree a41
                      have g41 : Agree S S41 := g37.trans a41
                      try simp (disch := first | omega | assumption) only [E0_G, SY, off, agreeKind, vals, Nat.reduceAdd, Nat.reduceLT, Nat.reduceBEq, h14a, h40a, k41] at hz
                      rcases dP (((r28f (a)).1) = (r32 (a : List Ar))) with ⟨h44a, h44⟩ | ⟨h44a, h44⟩
                      · skip
                        try simp (disch := first | omega | assumption) only [E0_G, SY, off, agreeKind, vals, Nat.reduceAdd, Nat.reduceLT, Nat.reduceBEq, h20a, h44a, c15s] at hz
                        have hr : r4 a b w = true := (if_pos h2).trans ((if_pos h4).trans ((if_pos h14).trans ((if_pos h16).trans ((if_pos h17).trans ((if_pos h18).trans ((if_pos h19).trans ((if_neg h20).trans ((if_neg h34).trans ((if_pos h40).trans ((if_pos h44).trans (rfl)))))))))))
                        exact fin hz (by rw [hr]) g41
                      · skip
                        try simp (disch := first | omega | assumption) only [E0_G, SY, off, agreeKind, Nat.reduceLT, Nat.reduceBEq, h44a] at hz
                        have hr : r4 a b w = false := (if_pos h2).trans ((if_pos h4).trans ((if_pos h14).trans ((if_pos h16).trans ((if_pos h17).trans ((if_pos h18).trans ((if_pos h19).trans ((if_neg h20).trans ((if_neg h34).trans ((if_pos h40).trans ((if_neg h44).trans (rfl)))))))))))
                        exact fin hz (by rw [hr]) g41
                    · skip
                      try simp (disch := first | omega | assumption) only [E0_G, SY, off, agreeKind, Nat.reduceAdd, Nat.reduceLT, Nat.reduceBEq, h40a] at hz
                      have hr : r4 a b w = false := (if_pos h2).trans ((if_pos h4).trans ((if_pos h14).trans ((if_pos h16).trans ((if_pos h17).trans ((if_pos h18).trans ((if_pos h19).trans ((if_neg h20).trans ((if_neg h34).trans ((if_neg h40).trans (rfl))))))))))
                      exact fin hz (by rw [hr]) g37
              · skip
                try simp (disch := first | omega | assumption) only [E0_G, SY, setArgs, off, agreeKind, partVals, vals, allocV, boxed, ldA, rdCells, oneB, aggD, aField, aFieldV, aExtract, eq_self, ne_eq, if_true, if_false, not_false_eq_true, Nat.reduceAdd, Nat.reduceSub, Nat.reduceMul, Nat.reduceLT, Nat.reduceEqDiff, Nat.reduceBEq, reduceIte, Int.reduceEq, Int.reduceLT, Int.reduceLE, reduceCtorEq, TY_EvC11, and_fold, or_fold, not_fold, k1, s1, h2a, k3, s3, h4a, k5, s5, k6, s6, k8, s8, k10, s10, k12, s12, h14a, k15, h16a, h17a, h18a, h19a] at hz
                exact absurd rfl h19
            · skip
              try simp (disch := first | omega | assumption) only [E0_G, SY, off, agreeKind, Nat.reduceAdd, Nat.reduceLT, Nat.reduceBEq, h18a] at hz
              have hr : r4 a b w = false := (if_pos h2).trans ((if_pos h4).trans ((if_pos h14).trans ((if_pos h16).trans ((if_pos h17).trans ((if_neg h18).trans (rfl))))))
              exact fin hz (by rw [hr]) g12
          · skip
            try simp (disch := first | omega | assumption) only [E0_G, SY, off, agreeKind, Nat.reduceAdd, Nat.reduceLT, Nat.reduceBEq, h17a] at hz
            have hr : r4 a b w = false := (if_pos h2).trans ((if_pos h4).trans ((if_pos h14).trans ((if_pos h16).trans ((if_neg h17).trans (rfl)))))
            exact fin hz (by rw [hr]) g12
        · skip
          try simp (disch := first | omega | assumption) only [E0_G, SY, off, agreeKind, Nat.reduceAdd, Nat.reduceLT, Nat.reduceBEq, h16a] at hz
          rcases dP (((r27 (a) w).2) = 1) with ⟨h45a, h45⟩ | ⟨h45a, h45⟩
          · skip
            try simp (disch := first | omega | assumption) only [E0_G, SY, off, agreeKind, Nat.reduceAdd, Nat.reduceLT, Nat.reduceBEq, h45a] at hz
            rcases dP (((r28f (a)).2) = (r20 (a : List Ar))) with ⟨h46a, h46⟩ | ⟨h46a, h46⟩
            · skip
              try simp (disch := first | omega | assumption) only [E0_G, SY, off, agreeKind, eq_self, Nat.reduceAdd, Nat.reduceLT, Nat.reduceBEq, Int.reduceEq, h46a] at hz
              rcases dP ((r21 (a) (b)) = (r21 (a : List Ar) (b : List Ar))) with ⟨h47a, h47⟩ | ⟨h47a, h47⟩
              · skip
                have w48 := (o5_13.rows).len (P := Tryz.prog) (t := 22) Tryz.underlying22
                try simp (disch := first | omega | assumption) only [E0_G, SY, off, agreeKind, Nat.reduceAdd, Nat.reduceLT, Nat.reduceBEq, w48] at hz
                rcases dP (0 < (((r27 (a) w).1).length : Int)) with ⟨h49a, h49⟩ | ⟨h49a, h49⟩
                · skip
                  try simp (disch := first | omega | assumption) only [E0_G, SY, off, agreeKind, Nat.reduceAdd, Nat.reduceLT, Nat.reduceBEq, h49a] at hz
                  have hr : r4 a b w = false := (if_pos h2).trans ((if_pos h4).trans ((if_pos h14).trans ((if_neg h16).trans ((if_pos h45).trans ((if_pos h46).trans ((if_pos h47).trans ((if_pos h49).trans (rfl))))))))
                  exact fin hz (by rw [hr]) g12
                · skip
                  try simp (disch := first | omega | assumption) only [E0_G, SY, off, agreeKind, Nat.reduceAdd, Nat.reduceLT, Nat.reduceBEq, h14a, h49a] at hz
                  rcases dP ((r21 (a : List Ar) (b : List Ar)) = 0) with ⟨h50a, h50⟩ | ⟨h50a, h50⟩
                  · skip
                    obtain ⟨S51, k51, a51⟩ := c32 (a : List Ar) (by have := few_len (show r14 a = true by assumption); omega) S12 (v_a) (hv_a.agree g12) 
                    have l51 := a51.1
                    have s51 : E0.same S12 S51 = true := symEnv_same a51
                    have o5_52 := o5_13.agree a51
                    have g51 : Agree S S51 := g12.trans a51
                    try simp (disch := first | omega | assumption) only [E0_G, SY, off, agreeKind, vals, Nat.reduceAdd, Nat.reduceLT, Nat.reduceBEq, Int.reduceEq, h14a, h50a, k51] at hz
                    rcases dP (((r28f (a)).1) = (r32 (a : List Ar))) with ⟨h53a, h53⟩ | ⟨h53a, h53⟩
                    · skip
                      obtain ⟨S54, k54, a54⟩ := c33 (a : List Ar) (b : List Ar) (by have := few_ok (show r14 a = true by assumption) (by first | assumption | exact (both_ok (by assumption)).1 | exact (both_ok (by assumption)).2); omega) (by have := few_ok (show r14 b = true by assumption) (by first | assumption | exact (both_ok (by assumption)).1 | exact (both_ok (by assumption)).2); omega) S51 (v_a) (hv_a.agree g51) (v_b) (hv_b.agree g51) 
                      have l54 := a54.1
                      have s54 : E0.same S51 S54 = true := symEnv_same a54
                      have o5_55 := o5_52.agree a54
                      have g54 : Agree S S54 := g51.trans a54
                      try simp (disch := first | omega | assumption) only [E0_G, SY, off, agreeKind, vals, Nat.reduceAdd, Nat.reduceLT, Nat.reduceBEq, TY_EvC11, h50a, h53a, c15s, k54] at hz
                      have hr : r4 a b w = decide ((cvr (a) (b)) = (r33 (a : List Ar) (b : List Ar))) := (if_pos h2).trans ((if_pos h4).trans ((if_pos h14).trans ((if_neg h16).trans ((if_pos h45).trans ((if_pos h46).trans ((if_pos h47).trans ((if_neg h49).trans ((if_pos h50).trans ((if_pos h53).trans (rfl))))))))))
                      exact fin hz (by rw [hr]) g54
                    · skip
                      try simp (disch := first | omega | assumption) only [E0_G, SY, off, agreeKind, Nat.reduceLT, Nat.reduceBEq, h53a] at hz
                      have hr : r4 a b w = false := (if_pos h2).trans ((if_pos h4).trans ((if_pos h14).trans ((if_neg h16).trans ((if_pos h45).trans ((if_pos h46).trans ((if_pos h47).trans ((if_neg h49).trans ((if_pos h50).trans ((if_neg h53).trans (rfl))))))))))
                      exact fin hz (by rw [hr]) g51
                  · skip
                    try simp (disch := first | omega | assumption) only [E0_G, SY, off, agreeKind, Nat.reduceAdd, Nat.reduceLT, Nat.reduceBEq, h50a] at hz
                    rcases dB (cvr (a) (b)) with ⟨h56a, h56⟩ | ⟨h56a, h56⟩
                    · skip
                      try simp (disch := first | omega | assumption) only [E0_G, SY, off, agreeKind, Nat.reduceLT, Nat.reduceBEq, h56a] at hz
                      have hr : r4 a b w = false := (if_pos h2).trans ((if_pos h4).trans ((if_pos h14).trans ((if_neg h16).trans ((if_pos h45).trans ((if_pos h46).trans ((if_pos h47).trans ((if_neg h49).trans ((if_neg h50).trans ((if_pos h56).trans (rfl))))))))))
                      exact fin hz (by rw [hr]) g12
                    · skip
                      obtain ⟨S57, k57, a57⟩ := c32 (a : List Ar) (by have := few_len (show r14 a = true by assumption); omega) S12 (v_a) (hv_a.agree g12) 
                      have l57 := a57.1
                      have s57 : E0.same S12 S57 = true := symEnv_same a57
                      have o5_58 := o5_13.agree a57
                      have g57 : Agree S S57 := g12.trans a57
                      try simp (disch := first | omega | assumption) only [E0_G, SY, off, agreeKind, vals, Nat.reduceAdd, Nat.reduceLT, Nat.reduceBEq, Int.reduceEq, h14a, h56a, k57] at hz
                      rcases dP (((r28f (a)).1) = (r32 (a : List Ar))) with ⟨h59a, h59⟩ | ⟨h59a, h59⟩
                      · skip
                        try simp (disch := first | omega | assumption) only [E0_G, SY, off, agreeKind, vals, Nat.reduceAdd, Nat.reduceLT, Nat.reduceBEq, h50a, h59a, c15s] at hz
                        have hr : r4 a b w = true := (if_pos h2).trans ((if_pos h4).trans ((if_pos h14).trans ((if_neg h16).trans ((if_pos h45).trans ((if_pos h46).trans ((if_pos h47).trans ((if_neg h49).trans ((if_neg h50).trans ((if_neg h56).trans ((if_pos h59).trans (rfl)))))))))))
                        exact fin hz (by rw [hr]) g57
                      · skip
                        try simp (disch := first | omega | assumption) only [E0_G, SY, off, agreeKind, Nat.reduceLT, Nat.reduceBEq, h59a] at hz
                        have hr : r4 a b w = false := (if_pos h2).trans ((if_pos h4).trans ((if_pos h14).trans ((if_neg h16).trans ((if_pos h45).trans ((if_pos h46).trans ((if_pos h47).trans ((if_neg h49).trans ((if_neg h50).trans ((if_neg h56).trans ((if_neg h59).trans (rfl)))))))))))
                        exact fin hz (by rw [hr]) g57
              · skip
                try simp (disch := first | omega | assumption) only [E0_G, SY, setArgs, off, agreeKind, partVals, vals, allocV, boxed, ldA, rdCells, oneB, aggD, aField, aFieldV, aExtract, eq_self, ne_eq, if_true, if_false, not_false_eq_true, Nat.reduceAdd, Nat.reduceSub, Nat.reduceMul, Nat.reduceLT, Nat.reduceEqDiff, Nat.reduceBEq, reduceIte, Int.reduceEq, Int.reduceLT, Int.reduceLE, reduceCtorEq, TY_EvC11, and_fold, or_fold, not_fold, k1, s1, h2a, k3, s3, h4a, k5, s5, k6, s6, k8, s8, k10, s10, k12, s12, h14a, k15, h16a, h45a, h46a, h47a] at hz
                exact absurd rfl h47
            · skip
              try simp (disch := first | omega | assumption) only [E0_G, SY, off, agreeKind, Nat.reduceAdd, Nat.reduceLT, Nat.reduceBEq, h46a] at hz
              have hr : r4 a b w = false := (if_pos h2).trans ((if_pos h4).trans ((if_pos h14).trans ((if_neg h16).trans ((if_pos h45).trans ((if_neg h46).trans (rfl))))))
              exact fin hz (by rw [hr]) g12
          · skip
            try simp (disch := first | omega | assumption) only [E0_G, SY, off, agreeKind, Nat.reduceAdd, Nat.reduceLT, Nat.reduceBEq, h45a] at hz
            have hr : r4 a b w = false := (if_pos h2).trans ((if_pos h4).trans ((if_pos h14).trans ((if_neg h16).trans ((if_neg h45).trans (rfl)))))
            exact fin hz (by rw [hr]) g12
      · skip
        try simp (disch := first | omega | assumption) only [E0_G, SY, off, agreeKind, Nat.reduceAdd, Nat.reduceLT, Nat.reduceBEq, h14a] at hz
        rcases dP (((r27 (a) w).2) = (r20 (a : List Ar))) with ⟨h60a, h60⟩ | ⟨h60a, h60⟩
        · skip
          try simp (disch := first | omega | assumption) only [E0_G, SY, off, agreeKind, Nat.reduceAdd, Nat.reduceLT, Nat.reduceBEq, h60a] at hz
          rcases dP (((r28f (a)).2) = (r20 (a : List Ar))) with ⟨h61a, h61⟩ | ⟨h61a, h61⟩
          · skip
            try simp (disch := first | omega | assumption) only [E0_G, SY, off, agreeKind, eq_self, Nat.reduceAdd, Nat.reduceLT, Nat.reduceBEq, h14a, h61a] at hz
            rcases dP ((r21 (a) (b)) = (r21 (a : List Ar) (b : List Ar))) with ⟨h62a, h62⟩ | ⟨h62a, h62⟩
            · skip
              have w63 := (o5_13.rows).len (P := Tryz.prog) (t := 22) Tryz.underlying22
              try simp (disch := first | omega | assumption) only [E0_G, SY, off, agreeKind, Nat.reduceAdd, Nat.reduceLT, Nat.reduceBEq, w63] at hz
              rcases dP (0 < (((r27 (a) w).1).length : Int)) with ⟨h64a, h64⟩ | ⟨h64a, h64⟩
              · skip
                try simp (disch := first | omega | assumption) only [E0_G, SY, off, agreeKind, Nat.reduceAdd, Nat.reduceLT, Nat.reduceBEq, h64a] at hz
                have hr : r4 a b w = false := (if_pos h2).trans ((if_pos h4).trans ((if_neg h14).trans ((if_pos h60).trans ((if_pos h61).trans ((if_pos h62).trans ((if_pos h64).trans (rfl)))))))
                exact fin hz (by rw [hr]) g12
              · skip
                try simp (disch := first | omega | assumption) only [E0_G, SY, off, agreeKind, Nat.reduceAdd, Nat.reduceLT, Nat.reduceBEq, h14a, h64a] at hz
                rcases dP (((r28f (a)).1) = 0) with ⟨h65a, h65⟩ | ⟨h65a, h65⟩
                · skip
                  try simp (disch := first | omega | assumption) only [E0_G, SY, off, agreeKind, Nat.reduceAdd, Nat.reduceLT, Nat.reduceBEq, h65a] at hz
                  rcases dP ((r21 (a : List Ar) (b : List Ar)) = 0) with ⟨h66a, h66⟩ | ⟨h66a, h66⟩
                  · skip
                    obtain ⟨S67, k67, a67⟩ := c33 (a : List Ar) (b : List Ar) (by have := few_ok (show r14 a = true by assumption) (by first | assumption | exact (both_ok (by assumption)).1 | exact (both_ok (by assumption)).2); omega) (by have := few_ok (show r14 b = true by assumption) (by first | assumption | exact (both_ok (by assumption)).1 | exact (both_ok (by assumption)).2); omega) S12 (v_a) (hv_a.agree g12) (v_b) (hv_b.agree g12) 
                    have l67 := a67.1
                    have s67 : E0.same S12 S67 = true := symEnv_same a67
                    have o5_68 := o5_13.agree a67
                    have g67 : Agree S S67 := g12.trans a67
                    try simp (disch := first | omega | assumption) only [E0_G, SY, off, agreeKind, vals, Nat.reduceAdd, Nat.reduceLT, Nat.reduceBEq, TY_EvC11, h14a, h66a, c15s, k67] at hz
                    have hr : r4 a b w = decide ((cvr (a) (b)) = (r33 (a : List Ar) (b : List Ar))) := (if_pos h2).trans ((if_pos h4).trans ((if_neg h14).trans ((if_pos h60).trans ((if_pos h61).trans ((if_pos h62).trans ((if_neg h64).trans ((if_pos h65).trans ((if_pos h66).trans (rfl)))))))))
                    exact fin hz (by rw [hr]) g67
                  · skip
                    try simp (disch := first | omega | assumption) only [E0_G, SY, off, agreeKind, Nat.reduceAdd, Nat.reduceLT, Nat.reduceBEq, h66a] at hz
                    rcases dB (cvr (a) (b)) with ⟨h69a, h69⟩ | ⟨h69a, h69⟩
                    · skip
                      try simp (disch := first | omega | assumption) only [E0_G, SY, off, agreeKind, Nat.reduceLT, Nat.reduceBEq, h69a] at hz
                      have hr : r4 a b w = false := (if_pos h2).trans ((if_pos h4).trans ((if_neg h14).trans ((if_pos h60).trans ((if_pos h61).trans ((if_pos h62).trans ((if_neg h64).trans ((if_pos h65).trans ((if_neg h66).trans ((if_pos h69).trans (rfl))))))))))
                      exact fin hz (by rw [hr]) g12
                    · skip
                      try simp (disch := first | omega | assumption) only [E0_G, SY, off, agreeKind, vals, Nat.reduceAdd, Nat.reduceLT, Nat.reduceBEq, h14a, h66a, h69a, c15s] at hz
                      have hr : r4 a b w = true := (if_pos h2).trans ((if_pos h4).trans ((if_neg h14).trans ((if_pos h60).trans ((if_pos h61).trans ((if_pos h62).trans ((if_neg h64).trans ((if_pos h65).trans ((if_neg h66).trans ((if_neg h69).trans (rfl))))))))))
                      exact fin hz (by rw [hr]) g12
                · skip
                  try simp (disch := first | omega | assumption) only [E0_G, SY, off, agreeKind, Nat.reduceAdd, Nat.reduceLT, Nat.reduceBEq, h65a] at hz
                  have hr : r4 a b w = false := (if_pos h2).trans ((if_pos h4).trans ((if_neg h14).trans ((if_pos h60).trans ((if_pos h61).trans ((if_pos h62).trans ((if_neg h64).trans ((if_neg h65).trans (rfl))))))))
                  exact fin hz (by rw [hr]) g12
            · skip
              try simp (disch := first | omega | assumption) only [E0_G, SY, setArgs, off, agreeKind, partVals, vals, allocV, boxed, ldA, rdCells, oneB, aggD, aField, aFieldV, aExtract, eq_self, ne_eq, if_true, if_false, not_false_eq_true, Nat.reduceAdd, Nat.reduceSub, Nat.reduceMul, Nat.reduceLT, Nat.reduceEqDiff, Nat.reduceBEq, reduceIte, Int.reduceEq, Int.reduceLT, Int.reduceLE, reduceCtorEq, TY_EvC11, and_fold, or_fold, not_fold, k1, s1, h2a, k3, s3, h4a, k5, s5, k6, s6, k8, s8, k10, s10, k12, s12, h14a, h60a, h61a, h62a] at hz
              exact absurd rfl h62
          · skip
            try simp (disch := first | omega | assumption) only [E0_G, SY, off, agreeKind, Nat.reduceAdd, Nat.reduceLT, Nat.reduceBEq, h61a] at hz
            have hr : r4 a b w = false := (if_pos h2).trans ((if_pos h4).trans ((if_neg h14).trans ((if_pos h60).trans ((if_neg h61).trans (rfl)))))
            exact fin hz (by rw [hr]) g12
        · skip
          try simp (disch := first | omega | assumption) only [E0_G, SY, off, agreeKind, Nat.reduceAdd, Nat.reduceLT, Nat.reduceBEq, h60a] at hz
          have hr : r4 a b w = false := (if_pos h2).trans ((if_pos h4).trans ((if_neg h14).trans ((if_neg h60).trans (rfl))))
          exact fin hz (by rw [hr]) g12
    · skip
      try simp (disch := first | omega | assumption) only [E0_G, SY, off, agreeKind, vals, Nat.reduceAdd, Nat.reduceLT, Nat.reduceBEq, h4a, c15s] at hz
      have hr : r4 a b w = true := (if_pos h2).trans ((if_neg h4).trans (rfl))
      exact fin hz (by rw [hr]) g3
  · skip
    try simp (disch := first | omega | assumption) only [E0_G, SY, off, agreeKind, vals, Nat.reduceAdd, Nat.reduceLT, Nat.reduceBEq, h2a, c15s] at hz
    have hr : r4 a b w = true := (if_neg h2).trans (rfl)
    exact fin hz (by rw [hr]) g1
end Great
end Go.Proofs
