/-
  The great seat of stage 1: at most a thousand cuts are sorted.
-/
import Derived.Test.YtgbjgljchkodjaaDoorEvQ12
import Derived.Test.YtgbjgljchkodjaaDoorBI
set_option linter.unusedSimpArgs false
set_option linter.unusedVariables false
namespace Go.Proofs
namespace Great
open Go Go.RowKit Go.Aev
set_option maxRecDepth 100000

set_option maxHeartbeats 4000000 in
theorem sortAll : SortOk 1000 := by
  intro l hl lo S v ho id hb
  by_cases h12 : l.length ≤ 12
  · exact sort12 l h12 lo S v ho id hb
  have hb := hb (by omega)
  generalize hz : (evL Tryd.prog E0).call 70 _ _ = z
  rw [L_call, evCall_said rfl Tryd.func70 rfl (by decide) Tryd.ntmps70 Tryd.results70] at hz
  have w1 := ho.rows.len (P := Tryd.prog) (t := 106) Tryd.underlying106
  have w2 : IntKind.u64.wrap (l.length : Int) = (l.length : Int) := IntWalk.u64_in _ (by omega)
  obtain ⟨r, k2, _⟩ := c180g l.length hl S
  obtain ⟨S1, l1, k1, kp1, ow1, hs1, hr1⟩ := c179g l.length 0 l.length (by omega) (by omega) l hl lo S v ho id hb (Nat.le_refl _) (r : Int) (fun h => by omega)
  have k1' : (evL Tryd.prog E0).call 76 #[v, .int .i64 0, .int .i64 (l.length : Int), .int .i64 (r : Int), .func (.func 71) #[] #[]] S = some (.tuple #[], S1) := k1
  simp (disch := first | omega | assumption) only [E0_G, SY, setArgs, off, agreeKind, partVals, vals, allocV, boxed, ldA, rdCells, oneB, aggD, aField, aFieldV, aExtract, eq_self, ne_eq, if_true, if_false, not_false_eq_true, Nat.reduceAdd, Nat.reduceSub, Nat.reduceMul, Nat.reduceLT, Nat.reduceEqDiff, Nat.reduceBEq, reduceIte, Int.reduceEq, Int.reduceLT, Int.reduceLE, reduceCtorEq, TY_EvA14, and_fold, or_fold, not_fold, Tryd.underlying123, w1, w2, k2, k1'] at hz
  refine ⟨S1, l1, hz.symm, kp1, ow1, hs1.perm, ksorted_of l1 fun u w huw hw => hr1 u w (Nat.zero_le _) huw ?_⟩
  rw [← hs1.len]; exact hw
end Great
end Go.Proofs
