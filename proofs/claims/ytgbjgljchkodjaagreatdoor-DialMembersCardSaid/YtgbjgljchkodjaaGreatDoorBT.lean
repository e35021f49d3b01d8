/-
  BT: EvT1, EvT2.
-/
import Derived.Test.YtgbjgljchkodjaaGreatDoorBJ
import Derived.Test.YtgbjgljchkodjaaGreatDoorEvZ6
section
/-
  The great seat of stage 1: Strike and Twice in numbers; an index that a number picks.
-/
set_option linter.unusedSimpArgs false
set_option linter.unusedVariables false
namespace Go.Proofs
namespace Great
open Go Go.RowKit Go.Aev
set_option maxRecDepth 100000

end Great
end Go.Proofs
end
section
/-
  The great seat of stage 1: has, within, blurred, by the generator.
-/
set_option linter.unusedSimpArgs false
set_option linter.unusedVariables false
namespace Go.Proofs
namespace Great
open Go Go.RowKit Go.Aev
set_option maxRecDepth 100000
/-- What is known of the types. -/
theorem TY_EvT2 : type_of% (And.intro (And.intro (And.intro (And.intro (And.intro (And.intro Tryz.underlying3 tz3) (And.intro tt3 (And.intro t0_3 Tryz.underlying22))) (And.intro (And.intro tz22 (And.intro tt22 t0_22)) (And.intro Tryz.underlying56 (And.intro tz43 tt43)))) (And.intro (And.intro (And.intro t0_43 Tryz.underlying59) (And.intro tz44 (And.intro tt44 t0_44))) (And.intro (And.intro Tryz.underlying60 (And.intro tz45 tt45)) (And.intro t0_45 (And.intro Tryz.underlying62 tz51))))) (And.intro (And.intro (And.intro (And.intro tt51 t0_51) (And.intro Tryz.underlying63 (And.intro tz52 tt52))) (And.intro (And.intro t0_52 (And.intro Tryz.underlying43 tz55)) (And.intro tt55 (And.intro t0_55 Tryz.underlying44)))) (And.intro (And.intro (And.intro tz56 tt56) (And.intro t0_56 (And.intro Tryz.underlying45 tz57))) (And.intro (And.intro tt57 (And.intro t0_57 Tryz.underlying46)) (And.intro tz58 (And.intro tt58 t0_58)))))) (And.intro (And.intro (And.intro (And.intro (And.intro Tryz.underlying66 tz77) (And.intro tt77 (And.intro t0_77 Tryz.underlying73))) (And.intro (And.intro tz80 (And.intro tt80 t0_80)) (And.intro Tryz.underlying82 (And.intro tz90 tt90)))) (And.intro (And.intro (And.intro t0_90 Tryz.underlying89) (And.intro tz110 (And.intro tt110 t0_110))) (And.intro (And.intro Tryz.underlying94 (And.intro tz115 tt115)) (And.intro t0_115 (And.intro Tryz.underlying95 tz116))))) (And.intro (And.intro (And.intro (And.intro tt116 t0_116) (And.intro Tryz.underlying76 (And.intro tz123 tt123))) (And.intro (And.intro t0_123 (And.intro Tryz.underlying136 tz177)) (And.intro tt177 (And.intro t0_177 Tryz.underlying137)))) (And.intro (And.intro (And.intro tz178 tt178) (And.intro t0_178 (And.intro Tryz.underlying141 tz182))) (And.intro (And.intro tt182 (And.intro t0_182 Tryz.underlying142)) (And.intro tz183 (And.intro tt183 t0_183))))))) := (And.intro (And.intro (And.intro (And.intro (And.intro (And.intro Tryz.underlying3 tz3) (And.intro tt3 (And.intro t0_3 Tryz.underlying22))) (And.intro (And.intro tz22 (And.intro tt22 t0_22)) (And.intro Tryz.underlying56 (And.intro tz43 tt43)))) (And.intro (And.intro (And.intro t0_43 Tryz.underlying59) (And.intro tz44 (And.intro tt44 t0_44))) (And.intro (And.intro Tryz.underlying60 (And.intro tz45 tt45)) (And.intro t0_45 (And.intro Tryz.underlying62 tz51))))) (And.intro (And.intro (And.intro (And.intro tt51 t0_51) (And.intro Tryz.underlying63 (And.intro tz52 tt52))) (And.intro (And.intro t0_52 (And.intro Tryz.underlying43 tz55)) (And.intro tt55 (And.intro t0_55 Tryz.underlying44)))) (And.intro (And.intro (And.intro tz56 tt56) (And.intro t0_56 (And.intro Tryz.underlying45 tz57))) (And.intro (And.intro tt57 (And.intro t0_57 Tryz.underlying46)) (And.intro tz58 (And.intro tt58 t0_58)))))) (And.intro (And.intro (And.intro (And.intro (And.intro Tryz.underlying66 tz77) (And.intro tt77 (And.intro t0_77 Tryz.underlying73))) (And.intro (And.intro tz80 (And.intro tt80 t0_80)) (And.intro Tryz.underlying82 (And.intro tz90 tt90)))) (And.intro (And.intro (And.intro t0_90 Tryz.underlying89) (And.intro tz110 (And.intro tt110 t0_110))) (And.intro (And.intro Tryz.underlying94 (And.intro tz115 tt115)) (And.intro t0_115 (And.intro Tryz.underlying95 tz116))))) (And.intro (And.intro (And.intro (And.intro tt116 t0_116) (And.intro Tryz.underlying76 (And.intro tz123 tt123))) (And.intro (And.intro t0_123 (And.intro Tryz.underlying136 tz177)) (And.intro tt177 (And.intro t0_177 Tryz.underlying137)))) (And.intro (And.intro (And.intro tz178 tt178) (And.intro t0_178 (And.intro Tryz.underlying141 tz182))) (And.intro (And.intro tt182 (And.intro t0_182 Tryz.underlying142)) (And.intro tz183 (And.intro tt183 t0_183)))))))
def r81 (a : Int) (b : Int) : Int := angle (IntKind.i64.wrap ((angle b) - (angle a)))
set_option maxHeartbeats 2000000 in
theorem c81 (a : Int) (b : Int)  (S : AS)  :
    ∃ S', (evL Tryz.prog E0).call 50 #[.int .i64 a, .int .i64 b] S = some (.int .i64 (r81 a b), S') ∧ Agree S S' := by
  generalize hz : (evL Tryz.prog E0).call 50 _ _ = z
  rw [L_call, evCall_said rfl Tryz.func50 rfl (by decide) Tryz.ntmps50 Tryz.results50] at hz
  have k1 := c76 b S
  have k2 := c76 a S
  have k3 := c76 (IntKind.i64.wrap ((angle b) - (angle a))) S
  try simp (disch := first | omega | assumption) only [E0_G, SY, setArgs, off, agreeKind, partVals, vals, allocV, boxed, ldA, rdCells, oneB, aggD, aField, aFieldV, aExtract, eq_self, ne_eq, if_true, if_false, not_false_eq_true, Nat.reduceAdd, Nat.reduceSub, Nat.reduceMul, Nat.reduceLT, Nat.reduceEqDiff, Nat.reduceBEq, reduceIte, Int.reduceEq, Int.reduceLT, Int.reduceLE, reduceCtorEq, TY_EvT2, and_fold, or_fold, not_fold, k1, k2, k3] at hz
  have hr : r81 a b = angle (IntKind.i64.wrap ((angle b) - (angle a))) := rfl
  exact fin hz (by rw [hr]) (Agree.refl S)

def r79 (x y : Int) (w : Int) : Bool := (if ArcOk x y then decide ((r81 x w) ≤ y) else false)
set_option maxHeartbeats 2000000 in
theorem c79 (x y : Int) (w : Int)  (S : AS)  (ht : Tab S) :
    ∃ S', (evL Tryz.prog E0).call 38 #[.agg #[.int .i64 x, .int .i64 y], .int .i64 w] S = some (.bool (r79 x y w), S') ∧ Agree S S' := by
  generalize hz : (evL Tryz.prog E0).call 38 _ _ = z
  rw [L_call, evCall_said rfl Tryz.func38 rfl (by decide) Tryz.ntmps38 Tryz.results38] at hz
  obtain ⟨S1, e1, n1, b1, a1⟩ := push_open S (.cells [.int .i64 x, .int .i64 y] 44 0 true true)
  have g1 : Agree S S1 := a1
  have s1 : E0.same S S1 = true := symEnv_same a1
  try simp (disch := first | omega | assumption) only [E0_G, SY, setArgs, off, agreeKind, partVals, vals, allocV, boxed, ldA, rdCells, oneB, aggD, aField, aFieldV, aExtract, eq_self, ne_eq, if_true, if_false, not_false_eq_true, Nat.reduceAdd, Nat.reduceSub, Nat.reduceMul, Nat.reduceLT, Nat.reduceEqDiff, Nat.reduceBEq, reduceIte, Int.reduceEq, Int.reduceLT, Int.reduceLE, reduceCtorEq, TY_EvT2, and_fold, or_fold, not_fold, s1, e1, b1] at hz
  rw [code_draws _ _ _ (by kernel_rfl)] at hz
  generalize hnd2 : needy _ = nd2 at hz
  obtain ⟨S3, k3, a3⟩ := c116 x y S1 (ht.agree g1) 
  have l3 := a3.1
  have s3 : E0.same S1 S3 = true := symEnv_same a3
  have v1_3 := (a3.2 S.next (by omega)).trans b1
  have g3 : Agree S S3 := g1.trans a3
  try simp (disch := first | omega | assumption) only [E0_G, SY, setArgs, off, agreeKind, partVals, vals, allocV, boxed, ldA, rdCells, oneB, aggD, aField, aFieldV, aExtract, eq_self, ne_eq, if_true, if_false, not_false_eq_true, Nat.reduceAdd, Nat.reduceSub, Nat.reduceMul, Nat.reduceLT, Nat.reduceEqDiff, Nat.reduceBEq, reduceIte, Int.reduceEq, Int.reduceLT, Int.reduceLE, reduceCtorEq, TY_EvT2, and_fold, or_fold, not_fold, s1, e1, b1, store_agree, store_refl E0_same, k3, s3, v1_3] at hz
  rcases dP (ArcOk x y) with ⟨h4a, h4⟩ | ⟨h4a, h4⟩
  · skip
    obtain ⟨S5, k5, a5⟩ := c81 x w  S3  
    have l5 := a5.1
    have s5 : E0.same S3 S5 = true := symEnv_same a5
    have v1_5 := (a5.2 S.next (by omega)).trans v1_3
    have g5 : Agree S S5 := g3.trans a5
    try simp (disch := first | omega | assumption) only [E0_G, SY, setArgs, off, agreeKind, partVals, vals, allocV, boxed, ldA, rdCells, oneB, aggD, aField, aFieldV, aExtract, eq_self, ne_eq, if_true, if_false, not_false_eq_true, Nat.reduceAdd, Nat.reduceSub, Nat.reduceMul, Nat.reduceLT, Nat.reduceEqDiff, Nat.reduceBEq, reduceIte, Int.reduceEq, Int.reduceLT, Int.reduceLE, reduceCtorEq, TY_EvT2, and_fold, or_fold, not_fold, s1, e1, b1, store_agree, store_refl E0_same, k3, s3, v1_3, h4a, k5, s5, v1_5] at hz
    have hr : r79 x y w = decide ((r81 x w) ≤ y) := (if_pos h4).trans (rfl)
    exact fin hz (by rw [hr]) g5
  · skip
    try simp (disch := first | omega | assumption) only [E0_G, SY, setArgs, off, agreeKind, partVals, vals, allocV, boxed, ldA, rdCells, oneB, aggD, aField, aFieldV, aExtract, eq_self, ne_eq, if_true, if_false, not_false_eq_true, Nat.reduceAdd, Nat.reduceSub, Nat.reduceMul, Nat.reduceLT, Nat.reduceEqDiff, Nat.reduceBEq, reduceIte, Int.reduceEq, Int.reduceLT, Int.reduceLE, reduceCtorEq, TY_EvT2, and_fold, or_fold, not_fold, s1, e1, b1, store_agree, store_refl E0_same, k3, s3, v1_3, h4a] at hz
    have hr : r79 x y w = false := (if_neg h4).trans (rfl)
    exact fin hz (by rw [hr]) g3

def R77_0 (l : List Ar) (w : Int)  : List Ar → Sum (Bool) (Unit)
  | [] => .inr ()
  | x1 :: l' => (if (r79 x1.f x1.l w) = true then .inl true else R77_0 l w l')
def r77 (l : List Ar) (w : Int) : Bool := (onSum (R77_0 l w l) (fun (r4 : Bool) => r4) (fun (_ : Unit) => false))
set_option maxHeartbeats 2000000 in
theorem c77 (l : List Ar) (w : Int) (hn : l.length ≤ 100000)  (S : AS) (v_l : Value) (hv_l : Lst S v_l l) (ht : Tab S) :
    ∃ S', (evL Tryz.prog E0).call 36 #[v_l, .int .i64 w] S = some (.bool (r77 l w), S') ∧ Agree S S' := by
  generalize hz : (evL Tryz.prog E0).call 36 _ _ = z
  rw [L_call, evCall_said rfl Tryz.func36 rfl (by decide) Tryz.ntmps36 Tryz.results36] at hz
  try simp (disch := first | omega | assumption) only [E0_G, SY, setArgs, off, agreeKind, partVals, vals, allocV, boxed, ldA, rdCells, oneB, aggD, aField, aFieldV, aExtract, eq_self, ne_eq, if_true, if_false, not_false_eq_true, Nat.reduceAdd, Nat.reduceSub, Nat.reduceMul, Nat.reduceLT, Nat.reduceEqDiff, Nat.reduceBEq, reduceIte, Int.reduceEq, Int.reduceLT, Int.reduceLE, reduceCtorEq, TY_EvT2, and_fold, or_fold, not_fold] at hz
  generalize hL1 : Rec.loop _ _ _ _ = L1 at hz
  obtain ⟨x1, t1, S1e, rfl, hQ1⟩ := loop_met hL1 (fun m t S' => ∃ (i : Nat), m + i = l.length ∧ i ≤ l.length ∧ t.get 0 = some (v_l) ∧ t.get 1 = some (.int .i64 w) ∧ t.get 5 = some (.int .i64 (i : Int)) ∧ Agree S S' ∧ S.next ≤ S'.next ∧ R77_0 l w (l.drop i) = R77_0 l w l)
    (fun x t S' => (x = .exit 0 ∧ ∃ (i : Nat), Agree S S' ∧ S.next ≤ S'.next ∧ i ≤ l.length ∧ R77_0 l w l = .inr ()) ∨ (x = .ret ∧ ∃ (r4 : Bool), t.get 4 = some (.bool r4) ∧ Agree S S' ∧ R77_0 l w l = .inl (r4))) (l.length - 0) ⟨0, by first | rfl | omega | (simp; omega) | simp, by first | rfl | omega | (simp; omega) | simp, by simp only [SY, setArgs, off, agreeKind, partVals, vals, allocV, boxed, ldA, rdCells, oneB, aggD, aField, aFieldV, aExtract, eq_self, ne_eq, if_true, if_false, not_false_eq_true, Nat.reduceAdd, Nat.reduceSub, Nat.reduceMul, Nat.reduceLT, Nat.reduceEqDiff, Nat.reduceBEq, reduceIte, Int.reduceEq, Int.reduceLT, Int.reduceLE, reduceCtorEq] <;> rfl, by simp only [SY, setArgs, off, agreeKind, partVals, vals, allocV, boxed, ldA, rdCells, oneB, aggD, aField, aFieldV, aExtract, eq_self, ne_eq, if_true, if_false, not_false_eq_true, Nat.reduceAdd, Nat.reduceSub, Nat.reduceMul, Nat.reduceLT, Nat.reduceEqDiff, Nat.reduceBEq, reduceIte, Int.reduceEq, Int.reduceLT, Int.reduceLE, reduceCtorEq] <;> rfl, by simp only [SY, setArgs, off, agreeKind, partVals, vals, allocV, boxed, ldA, rdCells, oneB, aggD, aField, aFieldV, aExtract, eq_self, ne_eq, if_true, if_false, not_false_eq_true, Nat.reduceAdd, Nat.reduceSub, Nat.reduceMul, Nat.reduceLT, Nat.reduceEqDiff, Nat.reduceBEq, reduceIte, Int.reduceEq, Int.reduceLT, Int.reduceLE, reduceCtorEq] <;> rfl, (Agree.refl S), Nat.le_refl _, rfl⟩ (by
      rintro m t S1 ⟨i, hi1_0, hi1_1, g1_0, g1_1, g1_5, ga1, gn1, hd1⟩
      refine .run fun z he => ?_
      have w2 := (hv_l.agree ga1).len (P := Tryz.prog) (t := 22) Tryz.underlying22
      try simp (disch := first | omega | assumption) only [E0_G, SY, setArgs, off, agreeKind, partVals, vals, allocV, boxed, ldA, rdCells, oneB, aggD, aField, aFieldV, aExtract, eq_self, ne_eq, if_true, if_false, not_false_eq_true, Nat.reduceAdd, Nat.reduceSub, Nat.reduceMul, Nat.reduceLT, Nat.reduceEqDiff, Nat.reduceBEq, reduceIte, Int.reduceEq, Int.reduceLT, Int.reduceLE, reduceCtorEq, TY_EvT2, and_fold, or_fold, not_fold, g1_0, g1_1, g1_5, w2] at he
      rcases dP ((i : Int) < (l.length : Int)) with ⟨h3a, h3⟩ | ⟨h3a, h3⟩
      · skip
        have hx1 : l[i]? = some (l[i]'(by first | omega | simp; omega)) := List.getElem?_eq_getElem _
        generalize l[i]'_ = x1 at hx1
        obtain ⟨id4, of4, cc4, ty4, wr4, ex4, i4, j4, l4, q4⟩ := (hv_l).at (P := Tryz.prog) (t := 22) Tryz.underlying22 tz56 hx1
        have jr4 := j4
        have j4 := (ga1.2 id4 l4).trans jr4
        have m4_0 : cc4[of4]? = some (.int .i64 x1.f) := q4 0 (show 0 < 2 by decide)
        have m4_1 : cc4[of4 + 1]? = some (.int .i64 x1.l) := q4 1 (show 1 < 2 by decide)
        obtain ⟨S5, k5, a5⟩ := c79 x1.f x1.l w  S1  (ht.agree ga1)
        have l5 := a5.1
        have s5 : E0.same S1 S5 = true := symEnv_same a5
        have v4_5 := (a5.2 id4 (by omega)).trans j4
        have g5 : Agree S S5 := ga1.trans a5
        try simp (disch := first | omega | assumption) only [E0_G, SY, setArgs, off, agreeKind, partVals, vals, allocV, boxed, ldA, rdCells, oneB, aggD, aField, aFieldV, aExtract, eq_self, ne_eq, if_true, if_false, not_false_eq_true, Nat.reduceAdd, Nat.reduceSub, Nat.reduceMul, Nat.reduceLT, Nat.reduceEqDiff, Nat.reduceBEq, reduceIte, Int.reduceEq, Int.reduceLT, Int.reduceLE, reduceCtorEq, TY_EvT2, and_fold, or_fold, not_fold, g1_0, g1_1, g1_5, w2, h3a, i4, j4, m4_0, m4_1, k5, s5, v4_5] at he
        rcases dB ((r79 x1.f x1.l w)) with ⟨h6a, h6⟩ | ⟨h6a, h6⟩
        · skip
          try simp (disch := first | omega | assumption) only [E0_G, SY, setArgs, off, agreeKind, partVals, vals, allocV, boxed, ldA, rdCells, oneB, aggD, aField, aFieldV, aExtract, eq_self, ne_eq, if_true, if_false, not_false_eq_true, Nat.reduceAdd, Nat.reduceSub, Nat.reduceMul, Nat.reduceLT, Nat.reduceEqDiff, Nat.reduceBEq, reduceIte, Int.reduceEq, Int.reduceLT, Int.reduceLE, reduceCtorEq, TY_EvT2, and_fold, or_fold, not_fold, g1_0, g1_1, g1_5, w2, h3a, i4, j4, m4_0, m4_1, k5, s5, v4_5, h6a] at he
          rw [drop_cons' hx1] at hd1
          have hf := (show _ = (.inl true : Sum (Bool) (Unit)) from (if_pos h6).trans (rfl)).symm.trans hd1
          exact .ret he (.inr ⟨rfl, ⟨true, (by simp only [SY, setArgs, off, agreeKind, partVals, vals, allocV, boxed, ldA, rdCells, oneB, aggD, aField, aFieldV, aExtract, eq_self, ne_eq, if_true, if_false, not_false_eq_true, Nat.reduceAdd, Nat.reduceSub, Nat.reduceMul, Nat.reduceLT, Nat.reduceEqDiff, Nat.reduceBEq, reduceIte, Int.reduceEq, Int.reduceLT, Int.reduceLE, reduceCtorEq, g1_0, g1_1, g1_5] <;> rfl), g5, hf.symm⟩⟩)
        · skip
          have w7 : IntKind.i64.wrap ((i : Int) + 1) = ((i + 1 : Nat) : Int) := by rw [IntWalk.i64_in] <;> omega
          try simp (disch := first | omega | assumption) only [E0_G, SY, setArgs, off, agreeKind, partVals, vals, allocV, boxed, ldA, rdCells, oneB, aggD, aField, aFieldV, aExtract, eq_self, ne_eq, if_true, if_false, not_false_eq_true, Nat.reduceAdd, Nat.reduceSub, Nat.reduceMul, Nat.reduceLT, Nat.reduceEqDiff, Nat.reduceBEq, reduceIte, Int.reduceEq, Int.reduceLT, Int.reduceLE, reduceCtorEq, TY_EvT2, and_fold, or_fold, not_fold, g1_0, g1_1, g1_5, w2, h3a, i4, j4, m4_0, m4_1, k5, s5, v4_5, h6a, w7] at he
          rw [drop_cons' hx1] at hd1
          have hf := (show _ = (R77_0 l w (l.drop (i + 1)) : Sum (Bool) (Unit)) from (if_neg h6).trans (rfl)).symm.trans hd1
          exact .next he (m - 1) (by omega) ⟨(i + 1), by first | omega | (simp; omega) | simp, by first | omega | (simp; omega) | simp, (by simp only [SY, setArgs, off, agreeKind, partVals, vals, allocV, boxed, ldA, rdCells, oneB, aggD, aField, aFieldV, aExtract, eq_self, ne_eq, if_true, if_false, not_false_eq_true, Nat.reduceAdd, Nat.reduceSub, Nat.reduceMul, Nat.reduceLT, Nat.reduceEqDiff, Nat.reduceBEq, reduceIte, Int.reduceEq, Int.reduceLT, Int.reduceLE, reduceCtorEq, g1_0, g1_1, g1_5] <;> rfl), (by simp only [SY, setArgs, off, agreeKind, partVals, vals, allocV, boxed, ldA, rdCells, oneB, aggD, aField, aFieldV, aExtract, eq_self, ne_eq, if_true, if_false, not_false_eq_true, Nat.reduceAdd, Nat.reduceSub, Nat.reduceMul, Nat.reduceLT, Nat.reduceEqDiff, Nat.reduceBEq, reduceIte, Int.reduceEq, Int.reduceLT, Int.reduceLE, reduceCtorEq, g1_0, g1_1, g1_5] <;> rfl), (by simp only [SY, setArgs, off, agreeKind, partVals, vals, allocV, boxed, ldA, rdCells, oneB, aggD, aField, aFieldV, aExtract, eq_self, ne_eq, if_true, if_false, not_false_eq_true, Nat.reduceAdd, Nat.reduceSub, Nat.reduceMul, Nat.reduceLT, Nat.reduceEqDiff, Nat.reduceBEq, reduceIte, Int.reduceEq, Int.reduceLT, Int.reduceLE, reduceCtorEq, g1_0, g1_1, g1_5] <;> rfl), g5, by omega, hf⟩
      · skip
        try simp (disch := first | omega | assumption) only [E0_G, SY, setArgs, off, agreeKind, partVals, vals, allocV, boxed, ldA, rdCells, oneB, aggD, aField, aFieldV, aExtract, eq_self, ne_eq, if_true, if_false, not_false_eq_true, Nat.reduceAdd, Nat.reduceSub, Nat.reduceMul, Nat.reduceLT, Nat.reduceEqDiff, Nat.reduceBEq, reduceIte, Int.reduceEq, Int.reduceLT, Int.reduceLE, reduceCtorEq, TY_EvT2, and_fold, or_fold, not_fold, g1_0, g1_1, g1_5, w2, h3a] at he
        rw [List.drop_eq_nil_of_le (show l.length ≤ i by omega)] at hd1
        have hf := (show _ = (.inr () : Sum (Bool) (Unit)) from rfl).symm.trans hd1
        exact .exit he (.inl ⟨rfl, ⟨i, ga1, by omega, by first | omega | assumption | simp, hf.symm⟩⟩))
  rcases hQ1 with ⟨rfl, hQ1⟩ | ⟨rfl, hQ1⟩
  · skip
    obtain ⟨i, ge1, gm1, hj1_0, hR1⟩ := hQ1
    try simp (disch := first | omega | assumption) only [E0_G, SY, setArgs, off, agreeKind, partVals, vals, allocV, boxed, ldA, rdCells, oneB, aggD, aField, aFieldV, aExtract, eq_self, ne_eq, if_true, if_false, not_false_eq_true, Nat.reduceAdd, Nat.reduceSub, Nat.reduceMul, Nat.reduceLT, Nat.reduceEqDiff, Nat.reduceBEq, reduceIte, Int.reduceEq, Int.reduceLT, Int.reduceLE, reduceCtorEq, TY_EvT2, and_fold, or_fold, not_fold] at hz
    have hr : r77 l w = false := (onSum_inr hR1).trans (rfl)
    exact fin hz (by rw [hr]) ge1
  · skip
    obtain ⟨r4, ge1_4, ge1, hR1⟩ := hQ1
    try simp (disch := first | omega | assumption) only [E0_G, SY, setArgs, off, agreeKind, partVals, vals, allocV, boxed, ldA, rdCells, oneB, aggD, aField, aFieldV, aExtract, eq_self, ne_eq, if_true, if_false, not_false_eq_true, Nat.reduceAdd, Nat.reduceSub, Nat.reduceMul, Nat.reduceLT, Nat.reduceEqDiff, Nat.reduceBEq, reduceIte, Int.reduceEq, Int.reduceLT, Int.reduceLE, reduceCtorEq, TY_EvT2, and_fold, or_fold, not_fold, ge1_4] at hz
    have hr : r77 l w = r4 := (onSum_inl hR1).trans (rfl)
    exact fin hz (by rw [hr]) ge1

end Great
end Go.Proofs
end
