/-
  BT: EvT1, EvT2.
-/
import Derived.Test.YtgbjgljchkodjaaGreatDoorBJ
import Derived.Test.YtgbjgljchkodjaaGreatDoorEvZ6
section
/-
  The great seat of stage 1: Strike and Twice in numbers; an index that a number picks.
-/
set_option linter.unusedSimpArgs false
set_option linter.unusedVariables false
namespace Go.Proofs
namespace Great
open Go Go.RowKit Go.Aev
set_option maxRecDepth 100000

end Great
end Go.Proofs
end
section
/-
  The great seat of stage 1: has, within, blurred, by the generator.
-/
set_option linter.unusedSimpArgs false
set_option linter.unusedVariables false
namespace Go.Proofs
namespace Great
open Go Go.RowKit Go.Aev
set_option maxRecDepth 100000
/-- What is known of the types. -/
theorem TY_EvT2 : type_of% (And.intro (And.intro (And.intro (And.intro (And.intro (And.intro Tryz.underlying3 tz3) (And.intro tt3 (And.intro t0_3 Tryz.underlying22))) (And.intro (And.intro tz22 (And.intro tt22 t0_22)) (And.intro Tryz.underlying56 (And.intro tz43 tt43)))) (And.intro (And.intro (And.intro t0_43 Tryz.underlying59) (And.intro tz44 (And.intro tt44 t0_44))) (And.intro (And.intro Tryz.underlying60 (And.intro tz45 tt45)) (And.intro t0_45 (And.intro Tryz.underlying62 tz51))))) (And.intro (And.intro (And.intro (And.intro tt51 t0_51) (And.intro Tryz.underlying63 (And.intro tz52 tt52))) (And.intro (And.intro t0_52 (And.intro Tryz.underlying43 tz55)) (And.intro tt55 (And.intro t0_55 Tryz.underlying44)))) (And.intro (And.intro (And.intro tz56 tt56) (And.intro t0_56 (And.intro Tryz.underlying45 tz57))) (And.intro (And.intro tt57 (And.intro t0_57 Tryz.underlying46)) (And.intro tz58 (And.intro tt58 t0_58)))))) (And.intro (And.intro (And.intro (And.intro (And.intro Tryz.underlying66 tz77) (And.intro tt77 (And.intro t0_77 Tryz.underlying73))) (And.intro (And.intro tz80 (And.intro tt80 t0_80)) (And.intro Tryz.underlying82 (And.intro tz90 tt90)))) (And.intro (And.intro (And.intro t0_90 Tryz.underlying89) (And.intro tz110 (And.intro tt110 t0_110))) (And.intro (And.intro Tryz.underlying94 (And.intro tz115 tt115)) (And.intro t0_115 (And.intro Tryz.underlying95 tz116))))) (And.intro (And.intro (And.intro (And.intro tt116 t0_116) (And.intro Tryz.underlying76 (And.intro tz123 tt123))) (And.intro (And.intro t0_123 (And.intro Tryz.underlying136 tz177)) (And.intro tt177 (And.intro t0_177 Tryz.underlying137)))) (And.intro (And.intro (And.intro tz178 tt178) (And.intro t0_178 (And.intro Tryz.underlying141 tz182))) (And.intro (And.intro tt182 (And.intro t0_182 Tryz.underlying142)) (And.intro tz183 (And.intro tt183 t0_183))))))) := (And.intro (And.intro (And.intro (And.intro (And.intro (And.intro Tryz.underlying3 tz3) (And.intro tt3 (And.intro t0_3 Tryz.underlying22))) (And.intro (And.intro tz22 (And.intro tt22 t0_22)) (And.intro Tryz.underlying56 (And.intro tz43 tt43)))) (And.intro (And.intro (And.intro t0_43 Tryz.underlying59) (And.intro tz44 (And.intro tt44 t0_44))) (And.intro (And.intro Tryz.underlying60 (And.intro tz45 tt45)) (And.intro t0_45 (And.intro Tryz.underlying62 tz51))))) (And.intro (And.intro (And.intro (And.intro tt51 t0_51) (And.intro Tryz.underlying63 (And.intro tz52 tt52))) (And.intro (And.intro t0_52 (And.intro Tryz.underlying43 tz55)) (And.intro tt55 (And.intro t0_55 Tryz.underlying44)))) (And.intro (And.intro (And.intro tz56 tt56) (And.intro t0_56 (And.intro Tryz.underlying45 tz57))) (And.intro (And.intro tt57 (And.intro t0_57 Tryz.underlying46)) (And.intro tz58 (And.intro tt58 t0_58)))))) (And.intro (And.intro (And.intro (And.intro (And.intro Tryz.underlying66 tz77) (And.intro tt77 (And.intro t0_77 Tryz.underlying73))) (And.intro (And.intro tz80 (And.intro tt80 t0_80)) (And.intro Tryz.underlying82 (And.intro tz90 tt90)))) (And.intro (And.intro (And.intro t0_90 Tryz.underlying89) (And.intro tz110 (And.intro tt110 t0_110))) (And.intro (And.intro Tryz.underlying94 (And.intro tz115 tt115)) (And.intro t0_115 (And.intro Tryz.underlying95 tz116))))) (And.intro (And.intro (And.intro (And.intro tt116 t0_116) (And.intro Tryz.underlying76 (And.intro tz123 tt123))) (And.intro (And.intro t0_123 (And.intro Tryz.underlying136 tz177)) (And.intro tt177 (And.intro t0_177 Tryz.underlying137)))) (And.intro (And.intro (And.intro tz178 tt178) (And.intro t0_178 (And.intro Tryz.underlying141 tz182))) (And.intro (And.intro tt182 (And.intro t0_182 Tryz.underlying142)) (And.intro tz183 (And.intro tt183 t0_183)))))))
def R1045_0 (l : List Int) (w : Int)  : List Int → Sum (Bool) (Unit)
  | [] => .inr ()
  | x1 :: l' => (if x1 = w then .inl true else R1045_0 l w l')
def r1045 (l : List Int) (w : Int) : Bool := (onSum (R1045_0 l w l) (fun (r4 : Bool) => r4) (fun (_ : Unit) => false))
set_option maxHeartbeats 2000000 in
theorem c1045 (l : List Int) (w : Int) (hn : l.length ≤ 1000) (S : AS) (v_l : Value) (hv_l : Lst S v_l l) :
    ∃ S', (evL Tryz.prog E0).call 45 #[v_l, .int .i64 w] S = some (.bool (r1045 l w), S') ∧ Agree S S' := by
  generalize hz : (evL Tryz.prog E0).call 45 _ _ = z
  rw [L_call, evCall_said rfl Tryz.func45 rfl (by decide) Tryz.ntmps45 Tryz.results45] at hz
  try simp (disch := first | omega | assumption) only [E0_G, SY, setArgs, off, agreeKind, partVals, vals, allocV, boxed, ldA, rdCells, oneB, aggD, aField, aFieldV, aExtract, eq_self, ne_eq, if_true, if_false, not_false_eq_true, Nat.reduceAdd, Nat.reduceSub, Nat.reduceMul, Nat.reduceLT, Nat.reduceEqDiff, Nat.reduceBEq, reduceIte, Int.reduceEq, Int.reduceLT, Int.reduceLE, reduceCtorEq, TY_EvT2, and_fold, or_fold, not_fold] at hz
  generalize hL1 : Rec.loop _ _ _ _ = L1 at hz
  obtain ⟨x1, t1, S1e, rfl, hQ1⟩ := loop_met hL1 (fun m t S' => ∃ (i : Nat), m + i = l.length ∧ i ≤ l.length ∧ t.get 0 = some (v_l) ∧ t.get 1 = some (.int .i64 w) ∧ t.get 5 = some (.int .i64 (i : Int)) ∧ Agree S S' ∧ S.next ≤ S'.next ∧ R1045_0 l w (l.drop i) = R1045_0 l w l)
    (fun x t S' => (x = .exit 0 ∧ ∃ (i : Nat), Agree S S' ∧ S.next ≤ S'.next ∧ i ≤ l.length ∧ R1045_0 l w l = .inr ()) ∨ (x = .ret ∧ ∃ (r4 : Bool), t.get 4 = some (.bool r4) ∧ Agree S S' ∧ R1045_0 l w l = .inl (r4))) (l.length - 0) ⟨0, by first | rfl | omega | (simp; omega) | simp, by first | rfl | omega | (simp; omega) | simp, by simp only [SY, setArgs, off, agreeKind, partVals, vals, allocV, boxed, ldA, rdCells, oneB, aggD, aField, aFieldV, aExtract, eq_self, ne_eq, if_true, if_false, not_false_eq_true, Nat.reduceAdd, Nat.reduceSub, Nat.reduceMul, Nat.reduceLT, Nat.reduceEqDiff, Nat.reduceBEq, reduceIte, Int.reduceEq, Int.reduceLT, Int.reduceLE, reduceCtorEq] <;> rfl, by simp only [SY, setArgs, off, agreeKind, partVals, vals, allocV, boxed, ldA, rdCells, oneB, aggD, aField, aFieldV, aExtract, eq_self, ne_eq, if_true, if_false, not_false_eq_true, Nat.reduceAdd, Nat.reduceSub, Nat.reduceMul, Nat.reduceLT, Nat.reduceEqDiff, Nat.reduceBEq, reduceIte, Int.reduceEq, Int.reduceLT, Int.reduceLE, reduceCtorEq] <;> rfl, by simp only [SY, setArgs, off, agreeKind, partVals, vals, allocV, boxed, ldA, rdCells, oneB, aggD, aField, aFieldV, aExtract, eq_self, ne_eq, if_true, if_false, not_false_eq_true, Nat.reduceAdd, Nat.reduceSub, Nat.reduceMul, Nat.reduceLT, Nat.reduceEqDiff, Nat.reduceBEq, reduceIte, Int.reduceEq, Int.reduceLT, Int.reduceLE, reduceCtorEq] <;> rfl, (Agree.refl S), Nat.le_refl _, rfl⟩ (by
      rintro m t S1 ⟨i, hi1_0, hi1_1, g1_0, g1_1, g1_5, ga1, gn1, hd1⟩
      refine .run fun z he => ?_
      have w2 := (hv_l.agree ga1).len (P := Tryz.prog) (t := 66) Tryz.underlying66
      try simp (disch := first | omega | assumption) only [E0_G, SY, setArgs, off, agreeKind, partVals, vals, allocV, boxed, ldA, rdCells, oneB, aggD, aField, aFieldV, aExtract, eq_self, ne_eq, if_true, if_false, not_false_eq_true, Nat.reduceAdd, Nat.reduceSub, Nat.reduceMul, Nat.reduceLT, Nat.reduceEqDiff, Nat.reduceBEq, reduceIte, Int.reduceEq, Int.reduceLT, Int.reduceLE, reduceCtorEq, TY_EvT2, and_fold, or_fold, not_fold, g1_0, g1_1, g1_5, w2] at he
      rcases dP ((i : Int) < (l.length : Int)) with ⟨h3a, h3⟩ | ⟨h3a, h3⟩
      · skip
        have hx1 : l[i]? = some (l[i]'(by first | omega | simp; omega)) := List.getElem?_eq_getElem _
        generalize l[i]'_ = x1 at hx1
        obtain ⟨id4, of4, cc4, ty4, wr4, ex4, i4, j4, l4, q4⟩ := (hv_l).at (P := Tryz.prog) (t := 66) Tryz.underlying66 tz3 hx1
        have jr4 := j4
        have j4 := (ga1.2 id4 l4).trans jr4
        have m4_0 : cc4[of4]? = some (.int .i64 x1) := q4 0 (show 0 < 1 by decide)
        try simp (disch := first | omega | assumption) only [E0_G, SY, setArgs, off, agreeKind, partVals, vals, allocV, boxed, ldA, rdCells, oneB, aggD, aField, aFieldV, aExtract, eq_self, ne_eq, if_true, if_false, not_false_eq_true, Nat.reduceAdd, Nat.reduceSub, Nat.reduceMul, Nat.reduceLT, Nat.reduceEqDiff, Nat.reduceBEq, reduceIte, Int.reduceEq, Int.reduceLT, Int.reduceLE, reduceCtorEq, TY_EvT2, and_fold, or_fold, not_fold, g1_0, g1_1, g1_5, w2, h3a, i4, j4, m4_0] at he
        rcases dP (x1 = w) with ⟨h5a, h5⟩ | ⟨h5a, h5⟩
        · skip
          try simp (disch := first | omega | assumption) only [E0_G, SY, setArgs, off, agreeKind, partVals, vals, allocV, boxed, ldA, rdCells, oneB, aggD, aField, aFieldV, aExtract, eq_self, ne_eq, if_true, if_false, not_false_eq_true, Nat.reduceAdd, Nat.reduceSub, Nat.reduceMul, Nat.reduceLT, Nat.reduceEqDiff, Nat.reduceBEq, reduceIte, Int.reduceEq, Int.reduceLT, Int.reduceLE, reduceCtorEq, TY_EvT2, and_fold, or_fold, not_fold, g1_0, g1_1, g1_5, w2, h3a, i4, j4, m4_0, h5a] at he
          rw [drop_cons' hx1] at hd1
          have hf := (show _ = (.inl true : Sum (Bool) (Unit)) from (if_pos h5).trans (rfl)).symm.trans hd1
          exact .ret he (.inr ⟨rfl, ⟨true, (by simp only [SY, setArgs, off, agreeKind, partVals, vals, allocV, boxed, ldA, rdCells, oneB, aggD, aField, aFieldV, aExtract, eq_self, ne_eq, if_true, if_false, not_false_eq_true, Nat.reduceAdd, Nat.reduceSub, Nat.reduceMul, Nat.reduceLT, Nat.reduceEqDiff, Nat.reduceBEq, reduceIte, Int.reduceEq, Int.reduceLT, Int.reduceLE, reduceCtorEq, g1_0, g1_1, g1_5] <;> rfl), ga1, hf.symm⟩⟩)
        · skip
          have w6 : IntKind.i64.wrap ((i : Int) + 1) = ((i + 1 : Nat) : Int) := by rw [IntWalk.i64_in] <;> omega
          try simp (disch := first | omega | assumption) only [E0_G, SY, setArgs, off, agreeKind, partVals, vals, allocV, boxed, ldA, rdCells, oneB, aggD, aField, aFieldV, aExtract, eq_self, ne_eq, if_true, if_false, not_false_eq_true, Nat.reduceAdd, Nat.reduceSub, Nat.reduceMul, Nat.reduceLT, Nat.reduceEqDiff, Nat.reduceBEq, reduceIte, Int.reduceEq, Int.reduceLT, Int.reduceLE, reduceCtorEq, TY_EvT2, and_fold, or_fold, not_fold, g1_0, g1_1, g1_5, w2, h3a, i4, j4, m4_0, h5a, w6] at he
          rw [drop_cons' hx1] at hd1
          have hf := (show _ = (R1045_0 l w (l.drop (i + 1)) : Sum (Bool) (Unit)) from (if_neg h5).trans (rfl)).symm.trans hd1
          exact .next he (m - 1) (by omega) ⟨(i + 1), by first | omega | (simp; omega) | simp, by first | omega | (simp; omega) | simp, (by simp only [SY, setArgs, off, agreeKind, partVals, vals, allocV, boxed, ldA, rdCells, oneB, aggD, aField, aFieldV, aExtract, eq_self, ne_eq, if_true, if_false, not_false_eq_true, Nat.reduceAdd, Nat.reduceSub, Nat.reduceMul, Nat.reduceLT, Nat.reduceEqDiff, Nat.reduceBEq, reduceIte, Int.reduceEq, Int.reduceLT, Int.reduceLE, reduceCtorEq, g1_0, g1_1, g1_5] <;> rfl), (by simp only [SY, setArgs, off, agreeKind, partVals, vals, allocV, boxed, ldA, rdCells, oneB, aggD, aField, aFieldV, aExtract, eq_self, ne_eq, if_true, if_false, not_false_eq_true, Nat.reduceAdd, Nat.reduceSub, Nat.reduceMul, Nat.reduceLT, Nat.reduceEqDiff, Nat.reduceBEq, reduceIte, Int.reduceEq, Int.reduceLT, Int.reduceLE, reduceCtorEq, g1_0, g1_1, g1_5] <;> rfl), (by simp only [SY, setArgs, off, agreeKind, partVals, vals, allocV, boxed, ldA, rdCells, oneB, aggD, aField, aFieldV, aExtract, eq_self, ne_eq, if_true, if_false, not_false_eq_true, Nat.reduceAdd, Nat.reduceSub, Nat.reduceMul, Nat.reduceLT, Nat.reduceEqDiff, Nat.reduceBEq, reduceIte, Int.reduceEq, Int.reduceLT, Int.reduceLE, reduceCtorEq, g1_0, g1_1, g1_5] <;> rfl), ga1, by omega, hf⟩
      · skip
        try simp (disch := first | omega | assumption) only [E0_G, SY, setArgs, off, agreeKind, partVals, vals, allocV, boxed, ldA, rdCells, oneB, aggD, aField, aFieldV, aExtract, eq_self, ne_eq, if_true, if_false, not_false_eq_true, Nat.reduceAdd, Nat.reduceSub, Nat.reduceMul, Nat.reduceLT, Nat.reduceEqDiff, Nat.reduceBEq, reduceIte, Int.reduceEq, Int.reduceLT, Int.reduceLE, reduceCtorEq, TY_EvT2, and_fold, or_fold, not_fold, g1_0, g1_1, g1_5, w2, h3a] at he
        rw [List.drop_eq_nil_of_le (show l.length ≤ i by omega)] at hd1
        have hf := (show _ = (.inr () : Sum (Bool) (Unit)) from rfl).symm.trans hd1
        exact .exit he (.inl ⟨rfl, ⟨i, ga1, by omega, by first | omega | assumption | simp, hf.symm⟩⟩))
  rcases hQ1 with ⟨rfl, hQ1⟩ | ⟨rfl, hQ1⟩
  · skip
    obtain ⟨i, ge1, gm1, hj1_0, hR1⟩ := hQ1
    try simp (disch := first | omega | assumption) only [E0_G, SY, setArgs, off, agreeKind, partVals, vals, allocV, boxed, ldA, rdCells, oneB, aggD, aField, aFieldV, aExtract, eq_self, ne_eq, if_true, if_false, not_false_eq_true, Nat.reduceAdd, Nat.reduceSub, Nat.reduceMul, Nat.reduceLT, Nat.reduceEqDiff, Nat.reduceBEq, reduceIte, Int.reduceEq, Int.reduceLT, Int.reduceLE, reduceCtorEq, TY_EvT2, and_fold, or_fold, not_fold] at hz
    have hr : r1045 l w = false := (onSum_inr hR1).trans (rfl)
    exact fin hz (by rw [hr]) ge1
  · skip
    obtain ⟨r4, ge1_4, ge1, hR1⟩ := hQ1
    try simp (disch := first | omega | assumption) only [E0_G, SY, setArgs, off, agreeKind, partVals, vals, allocV, boxed, ldA, rdCells, oneB, aggD, aField, aFieldV, aExtract, eq_self, ne_eq, if_true, if_false, not_false_eq_true, Nat.reduceAdd, Nat.reduceSub, Nat.reduceMul, Nat.reduceLT, Nat.reduceEqDiff, Nat.reduceBEq, reduceIte, Int.reduceEq, Int.reduceLT, Int.reduceLE, reduceCtorEq, TY_EvT2, and_fold, or_fold, not_fold, ge1_4] at hz
    have hr : r1045 l w = r4 := (onSum_inl hR1).trans (rfl)
    exact fin hz (by rw [hr]) ge1
end Great
end Go.Proofs
end
