/-
  BA: EvA1, EvA2.
-/
import Derived.Test.YtgbjgljchkodjaaGreatDoorBP
import Derived.Test.YtgbjgljchkodjaaGreatDoorAE4
section
/-
  The great seat of stage 1: marks and keys, by the generator.
-/
set_option linter.unusedSimpArgs false
set_option linter.unusedVariables false
namespace Go.Proofs
namespace Great
open Go Go.RowKit Go.Aev
set_option maxRecDepth 100000
theorem tz3 : szOf Tryz.prog 3 = some 1 := by kernel_rfl
theorem tt3 : inTab Tryz.prog 3 = true := by kernel_rfl
theorem t0_3 : zeroOf Tryz.prog 3 = some (.int .i64 0) := by kernel_rfl
theorem tz44 : szOf Tryz.prog 59 = some 3 := by kernel_rfl
theorem tt44 : inTab Tryz.prog 59 = true := by kernel_rfl
theorem t0_44 : zeroOf Tryz.prog 59 = some (.agg #[.int .i64 0, .int .i64 0, .int .i64 0]) := by kernel_rfl
theorem tz45 : szOf Tryz.prog 60 = some 3 := by kernel_rfl
theorem tt45 : inTab Tryz.prog 60 = true := by kernel_rfl
theorem t0_45 : zeroOf Tryz.prog 60 = some (.agg #[.int .i64 0, .int .i64 0, .int .i64 0]) := by kernel_rfl
theorem tz51 : szOf Tryz.prog 62 = some 3 := by kernel_rfl
theorem tt51 : inTab Tryz.prog 62 = true := by kernel_rfl
theorem t0_51 : zeroOf Tryz.prog 62 = some (.agg #[.int .i64 0, .int .i64 0, .int .i64 0]) := by kernel_rfl
theorem tz52 : szOf Tryz.prog 63 = some 3 := by kernel_rfl
theorem tt52 : inTab Tryz.prog 63 = true := by kernel_rfl
theorem t0_52 : zeroOf Tryz.prog 63 = some (.agg #[.int .i64 0, .int .i64 0, .int .i64 0]) := by kernel_rfl
theorem tz55 : szOf Tryz.prog 43 = some 2 := by kernel_rfl
theorem tt55 : inTab Tryz.prog 43 = true := by kernel_rfl
theorem t0_55 : zeroOf Tryz.prog 43 = some (.agg #[.int .i64 0, .int .i64 0]) := by kernel_rfl
theorem tz56 : szOf Tryz.prog 44 = some 2 := by kernel_rfl
theorem tt56 : inTab Tryz.prog 44 = true := by kernel_rfl
theorem t0_56 : zeroOf Tryz.prog 44 = some (.agg #[.int .i64 0, .int .i64 0]) := by kernel_rfl
theorem ti56 : (Tryz.prog.info? 44).map (fun i => Nat.ble i.bytes 65536) = some true := by kernel_rfl
theorem tv56 : (zeroOf Tryz.prog 44).isSome = true := by kernel_rfl
theorem tz57 : szOf Tryz.prog 45 = some 5 := by kernel_rfl
theorem tt57 : inTab Tryz.prog 45 = true := by kernel_rfl
theorem t0_57 : zeroOf Tryz.prog 45 = some (.agg #[.int .i64 0, .int .i64 0, .int .i64 0, .int .i64 0, .int .i64 0]) := by kernel_rfl
theorem tz58 : szOf Tryz.prog 46 = some 5 := by kernel_rfl
theorem tt58 : inTab Tryz.prog 46 = true := by kernel_rfl
theorem t0_58 : zeroOf Tryz.prog 46 = some (.agg #[.int .i64 0, .int .i64 0, .int .i64 0, .int .i64 0, .int .i64 0]) := by kernel_rfl
/-- What is known of the types. -/
theorem TY_EvA1 : type_of% (And.intro (And.intro (And.intro (And.intro (And.intro Tryz.underlying3 tz3) (And.intro tt3 t0_3)) (And.intro (And.intro Tryz.underlying59 tz44) (And.intro tt44 (And.intro t0_44 Tryz.underlying60)))) (And.intro (And.intro (And.intro tz45 tt45) (And.intro t0_45 Tryz.underlying62)) (And.intro (And.intro tz51 tt51) (And.intro t0_51 (And.intro Tryz.underlying63 tz52))))) (And.intro (And.intro (And.intro (And.intro tt52 t0_52) (And.intro Tryz.underlying43 tz55)) (And.intro (And.intro tt55 t0_55) (And.intro Tryz.underlying44 (And.intro tz56 tt56)))) (And.intro (And.intro (And.intro t0_56 Tryz.underlying45) (And.intro tz57 tt57)) (And.intro (And.intro t0_57 Tryz.underlying46) (And.intro tz58 (And.intro tt58 t0_58)))))) := (And.intro (And.intro (And.intro (And.intro (And.intro Tryz.underlying3 tz3) (And.intro tt3 t0_3)) (And.intro (And.intro Tryz.underlying59 tz44) (And.intro tt44 (And.intro t0_44 Tryz.underlying60)))) (And.intro (And.intro (And.intro tz45 tt45) (And.intro t0_45 Tryz.underlying62)) (And.intro (And.intro tz51 tt51) (And.intro t0_51 (And.intro Tryz.underlying63 tz52))))) (And.intro (And.intro (And.intro (And.intro tt52 t0_52) (And.intro Tryz.underlying43 tz55)) (And.intro (And.intro tt55 t0_55) (And.intro Tryz.underlying44 (And.intro tz56 tt56)))) (And.intro (And.intro (And.intro t0_56 Tryz.underlying45) (And.intro tz57 tt57)) (And.intro (And.intro t0_57 Tryz.underlying46) (And.intro tz58 (And.intro tt58 t0_58))))))

instance : Inhabited K := ⟨⟨0, 0, 0⟩⟩
instance : Flat K := ⟨[.i64, .i64, .i64], K.row, fun _ => rfl⟩
structure Ar where
  f : Int
  l : Int
instance : Inhabited Ar := ⟨⟨0, 0⟩⟩
instance : Flat Ar := ⟨[.i64, .i64], fun x => [x.f, x.l], fun _ => rfl⟩
structure Sp where
  lo : Int
  hi : Int
instance : Inhabited Sp := ⟨⟨0, 0⟩⟩
instance : Flat Sp := ⟨[.i64, .i64], fun x => [x.lo, x.hi], fun _ => rfl⟩
structure Mk where
  f : Int
  l : Int
  t : Int
  s : Int
  b : Int
instance : Inhabited Mk := ⟨⟨0, 0, 0, 0, 0⟩⟩
instance : Flat Mk := ⟨[.i64, .i64, .i64, .i64, .i64], fun x => [x.f, x.l, x.t, x.s, x.b], fun _ => rfl⟩
theorem sur_Ar (ns : List Int) (h : ns.length = 2) : ∃ x : Ar, Flat.fl x = ns := match ns, h with | [a, b], _ => ⟨⟨a, b⟩, rfl⟩
def r92 (x y : Int) (by_ : Int) : (Int × Int) := (if 43199 ≤ (IntKind.i64.wrap (y + (IntKind.i64.wrap (2 * by_)))) then (0, 43199) else (angle (IntKind.i64.wrap (x - by_)), IntKind.i64.wrap (y + (IntKind.i64.wrap (2 * by_)))))
set_option maxHeartbeats 2000000 in
theorem c92 (x y : Int) (by_ : Int)  (S : AS)  (ht : Tab S) :
    ∃ S', (evL Tryz.prog E0).call 61 #[.agg #[.int .i64 x, .int .i64 y], .int .i64 by_] S = some (.agg #[.int .i64 ((r92 x y by_).1), .int .i64 ((r92 x y by_).2)], S') ∧ Agree S S' := by
  generalize hz : (evL Tryz.prog E0).call 61 _ _ = z
  rw [L_call, evCall_said rfl Tryz.func61 rfl (by decide) Tryz.ntmps61 Tryz.results61] at hz
  obtain ⟨S1, e1, n1, b1, a1⟩ := push_open S (.cells [.int .i64 x, .int .i64 y] 44 0 true true)
  have g1 : Agree S S1 := a1
  have s1 : E0.same S S1 = true := symEnv_same a1
  obtain ⟨S2, e2, n2, b2, a2⟩ := push_open S1 (.cells [.int .i64 0, .int .i64 0] 44 0 true true)
  have v1_2 := (a2.2 S.next (by omega)).trans b1
  have g2 : Agree S S2 := g1.trans a2
  have s2 : E0.same S1 S2 = true := symEnv_same a2
  have t3 := (ht.agree g2).2
  try simp (disch := first | omega | assumption) only [E0_G, SY, setArgs, off, agreeKind, partVals, vals, allocV, boxed, ldA, rdCells, oneB, aggD, aField, aFieldV, aExtract, eq_self, ne_eq, if_true, if_false, not_false_eq_true, Nat.reduceAdd, Nat.reduceSub, Nat.reduceMul, Nat.reduceLT, Nat.reduceEqDiff, Nat.reduceBEq, reduceIte, Int.reduceEq, Int.reduceLT, Int.reduceLE, reduceCtorEq, TY_EvA1, and_fold, or_fold, not_fold, s1, e1, b1, v1_2, s2, e2, b2, t3] at hz
  rcases dP (43199 ≤ (IntKind.i64.wrap (y + (IntKind.i64.wrap (2 * by_))))) with ⟨h4a, h4⟩ | ⟨h4a, h4⟩
  · skip
    have t5 := (ht.agree g2).2
    obtain ⟨S6, k6, n6, b6, q6⟩ := st_at (o := 0) (c' := [.int .i64 0, .int .i64 43199]) (v := .agg #[.int .i64 0, .int .i64 43199]) tz56 b2 rfl rfl (show 0 + 2 ≤ 2 by decide) rfl
    have v1_6 := (q6 S.next (by omega)).trans v1_2
    have g6 : Agree S S6 := ⟨by have := (g2).1; omega, fun id hid => (q6 id (by have := (g2).1; omega)).trans ((g2).2 id hid)⟩
    try simp (disch := first | omega | assumption) only [E0_G, SY, setArgs, off, agreeKind, partVals, vals, allocV, boxed, ldA, rdCells, oneB, aggD, aField, aFieldV, aExtract, eq_self, ne_eq, if_true, if_false, not_false_eq_true, Nat.reduceAdd, Nat.reduceSub, Nat.reduceMul, Nat.reduceLT, Nat.reduceEqDiff, Nat.reduceBEq, reduceIte, Int.reduceEq, Int.reduceLT, Int.reduceLE, reduceCtorEq, TY_EvA1, and_fold, or_fold, not_fold, s1, e1, b1, v1_2, s2, e2, b2, t3, h4a, t5, v1_6, k6, b6] at hz
    have hr : r92 x y by_ = (0, 43199) := (if_pos h4).trans (rfl)
    exact fin hz (by rw [hr]) g6
  · skip
    have k7 := c76 (IntKind.i64.wrap (x - by_)) S2
    have y8 : aBuild Tryz.prog 44 [(0, .int .i64 (angle (IntKind.i64.wrap (x - by_)))), (1, .int .i64 (IntKind.i64.wrap (y + (IntKind.i64.wrap (2 * by_)))))] = some (.agg #[.int .i64 (angle (IntKind.i64.wrap (x - by_))), .int .i64 (IntKind.i64.wrap (y + (IntKind.i64.wrap (2 * by_))))]) := by kernel_rfl
    obtain ⟨S9, k9, n9, b9, q9⟩ := st_at (o := 0) (c' := [.int .i64 (angle (IntKind.i64.wrap (x - by_))), .int .i64 (IntKind.i64.wrap (y + (IntKind.i64.wrap (2 * by_))))]) (v := .agg #[.int .i64 (angle (IntKind.i64.wrap (x - by_))), .int .i64 (IntKind.i64.wrap (y + (IntKind.i64.wrap (2 * by_))))]) tz56 b2 rfl rfl (show 0 + 2 ≤ 2 by decide) rfl
    have v1_9 := (q9 S.next (by omega)).trans v1_2
    have g9 : Agree S S9 := ⟨by have := (g2).1; omega, fun id hid => (q9 id (by have := (g2).1; omega)).trans ((g2).2 id hid)⟩
    try simp (disch := first | omega | assumption) only [E0_G, SY, setArgs, off, agreeKind, partVals, vals, allocV, boxed, ldA, rdCells, oneB, aggD, aField, aFieldV, aExtract, eq_self, ne_eq, if_true, if_false, not_false_eq_true, Nat.reduceAdd, Nat.reduceSub, Nat.reduceMul, Nat.reduceLT, Nat.reduceEqDiff, Nat.reduceBEq, reduceIte, Int.reduceEq, Int.reduceLT, Int.reduceLE, reduceCtorEq, TY_EvA1, and_fold, or_fold, not_fold, s1, e1, b1, v1_2, s2, e2, b2, t3, h4a, k7, y8, v1_9, k9, b9] at hz
    have hr : r92 x y by_ = (angle (IntKind.i64.wrap (x - by_)), IntKind.i64.wrap (y + (IntKind.i64.wrap (2 * by_)))) := (if_neg h4).trans (rfl)
    exact fin hz (by rw [hr]) g9

def r94 (x y : Int) (by_ : Int) : (Int × Int) := (if 43199 ≤ (IntKind.i64.wrap (y + (IntKind.i64.wrap (2 * by_)))) then (0, 43199) else (angle (IntKind.i64.wrap (x - by_)), IntKind.i64.wrap (y + (IntKind.i64.wrap (2 * by_)))))
set_option maxHeartbeats 2000000 in
theorem c94 (x y : Int) (by_ : Int)  (S : AS)  :
    ∃ S', (evL Tryz.prog E0).call 63 #[.agg #[.int .i64 x, .int .i64 y], .int .i64 by_] S = some (.agg #[.int .i64 ((r94 x y by_).1), .int .i64 ((r94 x y by_).2)], S') ∧ Agree S S' := by
  generalize hz : (evL Tryz.prog E0).call 63 _ _ = z
  rw [L_call, evCall_said rfl Tryz.func63 rfl (by decide) Tryz.ntmps63 Tryz.results63] at hz
  obtain ⟨S1, e1, n1, b1, a1⟩ := push_open S (.cells [.int .i64 x, .int .i64 y] 44 0 true true)
  have g1 : Agree S S1 := a1
  have s1 : E0.same S S1 = true := symEnv_same a1
  obtain ⟨S2, e2, n2, b2, a2⟩ := push_open S1 (.cells [.int .i64 0, .int .i64 0] 44 0 true true)
  have v1_2 := (a2.2 S.next (by omega)).trans b1
  have g2 : Agree S S2 := g1.trans a2
  have s2 : E0.same S1 S2 = true := symEnv_same a2
  try simp (disch := first | omega | assumption) only [E0_G, SY, setArgs, off, agreeKind, partVals, vals, allocV, boxed, ldA, rdCells, oneB, aggD, aField, aFieldV, aExtract, eq_self, ne_eq, if_true, if_false, not_false_eq_true, Nat.reduceAdd, Nat.reduceSub, Nat.reduceMul, Nat.reduceLT, Nat.reduceEqDiff, Nat.reduceBEq, reduceIte, Int.reduceEq, Int.reduceLT, Int.reduceLE, reduceCtorEq, TY_EvA1, and_fold, or_fold, not_fold, s1, e1, b1, v1_2, s2, e2, b2] at hz
  rcases dP (43199 ≤ (IntKind.i64.wrap (y + (IntKind.i64.wrap (2 * by_))))) with ⟨h3a, h3⟩ | ⟨h3a, h3⟩
  · skip
    have y4 : aBuild Tryz.prog 44 [(1, .int .i64 43199)] = some (.agg #[.int .i64 0, .int .i64 43199]) := by kernel_rfl
    obtain ⟨S5, k5, n5, b5, q5⟩ := st_at (o := 0) (c' := [.int .i64 0, .int .i64 43199]) (v := .agg #[.int .i64 0, .int .i64 43199]) tz56 b2 rfl rfl (show 0 + 2 ≤ 2 by decide) rfl
    have v1_5 := (q5 S.next (by omega)).trans v1_2
    have g5 : Agree S S5 := ⟨by have := (g2).1; omega, fun id hid => (q5 id (by have := (g2).1; omega)).trans ((g2).2 id hid)⟩
    try simp (disch := first | omega | assumption) only [E0_G, SY, setArgs, off, agreeKind, partVals, vals, allocV, boxed, ldA, rdCells, oneB, aggD, aField, aFieldV, aExtract, eq_self, ne_eq, if_true, if_false, not_false_eq_true, Nat.reduceAdd, Nat.reduceSub, Nat.reduceMul, Nat.reduceLT, Nat.reduceEqDiff, Nat.reduceBEq, reduceIte, Int.reduceEq, Int.reduceLT, Int.reduceLE, reduceCtorEq, TY_EvA1, and_fold, or_fold, not_fold, s1, e1, b1, v1_2, s2, e2, b2, h3a, y4, v1_5, k5, b5] at hz
    have hr : r94 x y by_ = (0, 43199) := (if_pos h3).trans (rfl)
    exact fin hz (by rw [hr]) g5
  · skip
    try simp (disch := first | omega | assumption) only [E0_G, SY, setArgs, off, agreeKind, partVals, vals, allocV, boxed, ldA, rdCells, oneB, aggD, aField, aFieldV, aExtract, eq_self, ne_eq, if_true, if_false, not_false_eq_true, Nat.reduceAdd, Nat.reduceSub, Nat.reduceMul, Nat.reduceLT, Nat.reduceEqDiff, Nat.reduceBEq, reduceIte, Int.reduceEq, Int.reduceLT, Int.reduceLE, reduceCtorEq, TY_EvA1, and_fold, or_fold, not_fold, s1, e1, b1, v1_2, s2, e2, b2, h3a] at hz
    rw [code_draws _ _ _ (by kernel_rfl)] at hz
    generalize hnd6 : needy _ = nd6 at hz
    have nn6_11 : nd6 11 = false := by rw [← hnd6]; kernel_rfl
    have k7 := c115 (IntKind.i64.wrap (x - by_)) S2
    have y8 : aBuild Tryz.prog 44 [(0, .int .i64 (angle (IntKind.i64.wrap (x - by_)))), (1, .int .i64 (IntKind.i64.wrap (y + (IntKind.i64.wrap (2 * by_)))))] = some (.agg #[.int .i64 (angle (IntKind.i64.wrap (x - by_))), .int .i64 (IntKind.i64.wrap (y + (IntKind.i64.wrap (2 * by_))))]) := by kernel_rfl
    obtain ⟨S9, k9, n9, b9, q9⟩ := st_at (o := 0) (c' := [.int .i64 (angle (IntKind.i64.wrap (x - by_))), .int .i64 (IntKind.i64.wrap (y + (IntKind.i64.wrap (2 * by_))))]) (v := .agg #[.int .i64 (angle (IntKind.i64.wrap (x - by_))), .int .i64 (IntKind.i64.wrap (y + (IntKind.i64.wrap (2 * by_))))]) tz56 b2 rfl rfl (show 0 + 2 ≤ 2 by decide) rfl
    have v1_9 := (q9 S.next (by omega)).trans v1_2
    have g9 : Agree S S9 := ⟨by have := (g2).1; omega, fun id hid => (q9 id (by have := (g2).1; omega)).trans ((g2).2 id hid)⟩
    try simp (disch := first | omega | assumption) only [E0_G, SY, setArgs, off, agreeKind, partVals, vals, allocV, boxed, ldA, rdCells, oneB, aggD, aField, aFieldV, aExtract, eq_self, ne_eq, if_true, if_false, not_false_eq_true, Nat.reduceAdd, Nat.reduceSub, Nat.reduceMul, Nat.reduceLT, Nat.reduceEqDiff, Nat.reduceBEq, reduceIte, Int.reduceEq, Int.reduceLT, Int.reduceLE, reduceCtorEq, TY_EvA1, and_fold, or_fold, not_fold, s1, e1, b1, v1_2, s2, e2, b2, h3a, nn6_11, store_agree, store_refl E0_same, k7, y8, v1_9, k9, b9] at hz
    have hr : r94 x y by_ = (angle (IntKind.i64.wrap (x - by_)), IntKind.i64.wrap (y + (IntKind.i64.wrap (2 * by_)))) := (if_neg h3).trans (rfl)
    exact fin hz (by rw [hr]) g9
end Great
end Go.Proofs
end
section
/-
  The great seat of stage 1: lists, by the generator.
-/
set_option linter.unusedSimpArgs false
set_option linter.unusedVariables false
namespace Go.Proofs
namespace Great
open Go Go.RowKit Go.Aev
set_option maxRecDepth 100000
theorem tz22 : szOf Tryz.prog 22 = some 1 := by kernel_rfl
theorem tt22 : inTab Tryz.prog 22 = true := by kernel_rfl
theorem t0_22 : zeroOf Tryz.prog 22 = some (.slice none 0 0) := by kernel_rfl
theorem tz43 : szOf Tryz.prog 56 = some 1 := by kernel_rfl
theorem tt43 : inTab Tryz.prog 56 = true := by kernel_rfl
theorem t0_43 : zeroOf Tryz.prog 56 = some (.slice none 0 0) := by kernel_rfl
theorem tz77 : szOf Tryz.prog 66 = some 1 := by kernel_rfl
theorem tt77 : inTab Tryz.prog 66 = true := by kernel_rfl
theorem t0_77 : zeroOf Tryz.prog 66 = some (.slice none 0 0) := by kernel_rfl
theorem tz80 : szOf Tryz.prog 73 = some 1 := by kernel_rfl
theorem tt80 : inTab Tryz.prog 73 = true := by kernel_rfl
theorem t0_80 : zeroOf Tryz.prog 73 = some (.slice none 0 0) := by kernel_rfl
theorem tz123 : szOf Tryz.prog 76 = some 2 := by kernel_rfl
theorem tt123 : inTab Tryz.prog 76 = true := by kernel_rfl
theorem t0_123 : zeroOf Tryz.prog 76 = some (.agg #[.int .i64 0, .int .i64 0]) := by kernel_rfl
/-- What is known of the types. -/
theorem TY_EvA2 : type_of% (And.intro (And.intro (And.intro (And.intro (And.intro Tryz.underlying3 (And.intro tz3 tt3)) (And.intro (And.intro t0_3 Tryz.underlying22) (And.intro tz22 tt22))) (And.intro (And.intro t0_22 (And.intro Tryz.underlying56 tz43)) (And.intro (And.intro tt43 t0_43) (And.intro Tryz.underlying59 tz44)))) (And.intro (And.intro (And.intro tt44 (And.intro t0_44 Tryz.underlying60)) (And.intro (And.intro tz45 tt45) (And.intro t0_45 Tryz.underlying62))) (And.intro (And.intro tz51 (And.intro tt51 t0_51)) (And.intro (And.intro Tryz.underlying63 tz52) (And.intro tt52 t0_52))))) (And.intro (And.intro (And.intro (And.intro Tryz.underlying43 (And.intro tz55 tt55)) (And.intro (And.intro t0_55 Tryz.underlying44) (And.intro tz56 tt56))) (And.intro (And.intro t0_56 (And.intro Tryz.underlying45 tz57)) (And.intro (And.intro tt57 t0_57) (And.intro Tryz.underlying46 tz58)))) (And.intro (And.intro (And.intro tt58 (And.intro t0_58 Tryz.underlying66)) (And.intro (And.intro tz77 tt77) (And.intro t0_77 Tryz.underlying73))) (And.intro (And.intro tz80 (And.intro tt80 t0_80)) (And.intro (And.intro Tryz.underlying76 tz123) (And.intro tt123 t0_123)))))) := (And.intro (And.intro (And.intro (And.intro (And.intro Tryz.underlying3 (And.intro tz3 tt3)) (And.intro (And.intro t0_3 Tryz.underlying22) (And.intro tz22 tt22))) (And.intro (And.intro t0_22 (And.intro Tryz.underlying56 tz43)) (And.intro (And.intro tt43 t0_43) (And.intro Tryz.underlying59 tz44)))) (And.intro (And.intro (And.intro tt44 (And.intro t0_44 Tryz.underlying60)) (And.intro (And.intro tz45 tt45) (And.intro t0_45 Tryz.underlying62))) (And.intro (And.intro tz51 (And.intro tt51 t0_51)) (And.intro (And.intro Tryz.underlying63 tz52) (And.intro tt52 t0_52))))) (And.intro (And.intro (And.intro (And.intro Tryz.underlying43 (And.intro tz55 tt55)) (And.intro (And.intro t0_55 Tryz.underlying44) (And.intro tz56 tt56))) (And.intro (And.intro t0_56 (And.intro Tryz.underlying45 tz57)) (And.intro (And.intro tt57 t0_57) (And.intro Tryz.underlying46 tz58)))) (And.intro (And.intro (And.intro tt58 (And.intro t0_58 Tryz.underlying66)) (And.intro (And.intro tz77 tt77) (And.intro t0_77 Tryz.underlying73))) (And.intro (And.intro tz80 (And.intro tt80 t0_80)) (And.intro (And.intro Tryz.underlying76 tz123) (And.intro tt123 t0_123))))))
def R22_0 (a : List Ar) (b : List Ar)  : List Ar → Nat → Sum (Bool) (Unit)
  | [], i => .inr ()
  | x4 :: l', i => (if x4.f = (lget b i).f ∧ x4.l = (lget b i).l then R22_0 a b l' (i + 1) else .inl false)
def r22 (a : List Ar) (b : List Ar) : Bool := (if (a.length : Int) = (b.length : Int) then (onSum (R22_0 a b a 0) (fun (r4 : Bool) => r4) (fun (_ : Unit) => true)) else false)
set_option maxHeartbeats 2000000 in
theorem c22 (a : List Ar) (b : List Ar) (hn : a.length ≤ 100000) (S : AS) (v_a : Value) (hv_a : Lst S v_a a) (v_b : Value) (hv_b : Lst S v_b b) :
    ∃ S', (evL Tryz.prog E0).call 18 #[v_a, v_b] S = some (.bool (r22 a b), S') ∧ Agree S S' := by
  generalize hz : (evL Tryz.prog E0).call 18 _ _ = z
  rw [L_call, evCall_said rfl Tryz.func18 rfl (by decide) Tryz.ntmps18 Tryz.results18] at hz
  have w1 := (hv_a).len (P := Tryz.prog) (t := 22) Tryz.underlying22
  have w2 := (hv_b).len (P := Tryz.prog) (t := 22) Tryz.underlying22
  try simp (disch := first | omega | assumption) only [E0_G, SY, setArgs, off, agreeKind, partVals, vals, allocV, boxed, ldA, rdCells, oneB, aggD, aField, aFieldV, aExtract, eq_self, ne_eq, if_true, if_false, not_false_eq_true, Nat.reduceAdd, Nat.reduceSub, Nat.reduceMul, Nat.reduceLT, Nat.reduceEqDiff, Nat.reduceBEq, reduceIte, Int.reduceEq, Int.reduceLT, Int.reduceLE, reduceCtorEq, TY_EvA2, and_fold, or_fold, not_fold, w1, w2] at hz
  rcases dP ((a.length : Int) = (b.length : Int)) with ⟨h3a, h3⟩ | ⟨h3a, h3⟩
  · skip
    try simp (disch := first | omega | assumption) only [E0_G, SY, setArgs, off, agreeKind, partVals, vals, allocV, boxed, ldA, rdCells, oneB, aggD, aField, aFieldV, aExtract, eq_self, ne_eq, if_true, if_false, not_false_eq_true, Nat.reduceAdd, Nat.reduceSub, Nat.reduceMul, Nat.reduceLT, Nat.reduceEqDiff, Nat.reduceBEq, reduceIte, Int.reduceEq, Int.reduceLT, Int.reduceLE, reduceCtorEq, TY_EvA2, and_fold, or_fold, not_fold, w1, w2, h3a] at hz
    generalize hL4 : Rec.loop _ _ _ _ = L4 at hz
    obtain ⟨x4, t4, S4e, rfl, hQ4⟩ := loop_met hL4 (fun m t S' => ∃ (i : Nat), m + i = a.length ∧ i ≤ a.length ∧ t.get 0 = some (v_a) ∧ t.get 1 = some (v_b) ∧ t.get 5 = some (.int .i64 (i : Int)) ∧ Agree S S' ∧ S.next ≤ S'.next ∧ R22_0 a b (a.drop i) i = R22_0 a b a 0)
      (fun x t S' => (x = .exit 0 ∧ ∃ (i : Nat), Agree S S' ∧ S.next ≤ S'.next ∧ i ≤ a.length ∧ R22_0 a b a 0 = .inr ()) ∨ (x = .ret ∧ ∃ (r4 : Bool), t.get 4 = some (.bool r4) ∧ Agree S S' ∧ R22_0 a b a 0 = .inl (r4))) (a.length - 0) ⟨0, by first | rfl | omega | (simp; omega) | simp, by first | rfl | omega | (simp; omega) | simp, by simp only [SY, setArgs, off, agreeKind, partVals, vals, allocV, boxed, ldA, rdCells, oneB, aggD, aField, aFieldV, aExtract, eq_self, ne_eq, if_true, if_false, not_false_eq_true, Nat.reduceAdd, Nat.reduceSub, Nat.reduceMul, Nat.reduceLT, Nat.reduceEqDiff, Nat.reduceBEq, reduceIte, Int.reduceEq, Int.reduceLT, Int.reduceLE, reduceCtorEq] <;> rfl, by simp only [SY, setArgs, off, agreeKind, partVals, vals, allocV, boxed, ldA, rdCells, oneB, aggD, aField, aFieldV, aExtract, eq_self, ne_eq, if_true, if_false, not_false_eq_true, Nat.reduceAdd, Nat.reduceSub, Nat.reduceMul, Nat.reduceLT, Nat.reduceEqDiff, Nat.reduceBEq, reduceIte, Int.reduceEq, Int.reduceLT, Int.reduceLE, reduceCtorEq] <;> rfl, by simp only [SY, setArgs, off, agreeKind, partVals, vals, allocV, boxed, ldA, rdCells, oneB, aggD, aField, aFieldV, aExtract, eq_self, ne_eq, if_true, if_false, not_false_eq_true, Nat.reduceAdd, Nat.reduceSub, Nat.reduceMul, Nat.reduceLT, Nat.reduceEqDiff, Nat.reduceBEq, reduceIte, Int.reduceEq, Int.reduceLT, Int.reduceLE, reduceCtorEq] <;> rfl, (Agree.refl S), Nat.le_refl _, rfl⟩ (by
        rintro m t S4 ⟨i, hi4_0, hi4_1, g4_0, g4_1, g4_5, ga4, gn4, hd4⟩
        refine .run fun z he => ?_
        have w5 := (hv_a.agree ga4).len (P := Tryz.prog) (t := 22) Tryz.underlying22
        try simp (disch := first | omega | assumption) only [E0_G, SY, setArgs, off, agreeKind, partVals, vals, allocV, boxed, ldA, rdCells, oneB, aggD, aField, aFieldV, aExtract, eq_self, ne_eq, if_true, if_false, not_false_eq_true, Nat.reduceAdd, Nat.reduceSub, Nat.reduceMul, Nat.reduceLT, Nat.reduceEqDiff, Nat.reduceBEq, reduceIte, Int.reduceEq, Int.reduceLT, Int.reduceLE, reduceCtorEq, TY_EvA2, and_fold, or_fold, not_fold, g4_0, g4_1, g4_5, w1, w2, h3a, w5] at he
        rcases dP ((i : Int) < (a.length : Int)) with ⟨h6a, h6⟩ | ⟨h6a, h6⟩
        · skip
          try simp (disch := first | omega | assumption) only [E0_G, SY, setArgs, off, agreeKind, partVals, vals, allocV, boxed, ldA, rdCells, oneB, aggD, aField, aFieldV, aExtract, eq_self, ne_eq, if_true, if_false, not_false_eq_true, Nat.reduceAdd, Nat.reduceSub, Nat.reduceMul, Nat.reduceLT, Nat.reduceEqDiff, Nat.reduceBEq, reduceIte, Int.reduceEq, Int.reduceLT, Int.reduceLE, reduceCtorEq, TY_EvA2, and_fold, or_fold, not_fold, g4_0, g4_1, g4_5, w1, w2, h3a, w5, h6a] at he
          rw [code_draws _ _ _ (by kernel_rfl)] at he
          generalize hnd7 : needy _ = nd7 at he
          have hx4 : a[i]? = some (a[i]'(by first | omega | simp; omega)) := List.getElem?_eq_getElem _
          generalize a[i]'_ = x4 at hx4
          obtain ⟨id8, of8, cc8, ty8, wr8, ex8, i8, j8, l8, q8⟩ := (hv_a).at (P := Tryz.prog) (t := 22) Tryz.underlying22 tz56 hx4
          have j8 := (ga4.2 id8 l8).trans j8
          have m8_0 : cc8[of8]? = some (.int .i64 x4.f) := q8 0 (show 0 < 2 by decide)
          have m8_1 : cc8[of8 + 1]? = some (.int .i64 x4.l) := q8 1 (show 1 < 2 by decide)
          have hx9 : b[i]? = some (lget b i) := lget_some (by first | omega | simp; omega)
          obtain ⟨id9, of9, cc9, ty9, wr9, ex9, i9, j9, l9, q9⟩ := (hv_b).at (P := Tryz.prog) (t := 22) Tryz.underlying22 tz56 hx9
          have j9 := (ga4.2 id9 l9).trans j9
          have m9_0 : cc9[of9]? = some (.int .i64 ((lget b i).f)) := q9 0 (show 0 < 2 by decide)
          have m9_1 : cc9[of9 + 1]? = some (.int .i64 ((lget b i).l)) := q9 1 (show 1 < 2 by decide)
          have y10 : aEqAgg Tryz.prog 44 (.agg #[.int .i64 x4.f, .int .i64 x4.l]) (.agg #[.int .i64 ((lget b i).f), .int .i64 ((lget b i).l)]) = some (decide (x4.f = (lget b i).f ∧ x4.l = (lget b i).l)) := (show _ = some (decide (x4.f = (lget b i).f) && (decide (x4.l = (lget b i).l) && true)) by kernel_rfl).trans (congrArg some (by simp only [Bool.and_true, ← Bool.decide_and, and_assoc]))
          try simp (disch := first | omega | assumption) only [E0_G, SY, setArgs, off, agreeKind, partVals, vals, allocV, boxed, ldA, rdCells, oneB, aggD, aField, aFieldV, aExtract, eq_self, ne_eq, if_true, if_false, not_false_eq_true, Nat.reduceAdd, Nat.reduceSub, Nat.reduceMul, Nat.reduceLT, Nat.reduceEqDiff, Nat.reduceBEq, reduceIte, Int.reduceEq, Int.reduceLT, Int.reduceLE, reduceCtorEq, TY_EvA2, and_fold, or_fold, not_fold, g4_0, g4_1, g4_5, w1, w2, h3a, w5, h6a, store_agree, store_refl E0_same, i8, j8, m8_0, m8_1, i9, j9, m9_0, m9_1, y10] at he
          rcases dP (x4.f = (lget b i).f ∧ x4.l = (lget b i).l) with ⟨h11a, h11⟩ | ⟨h11a, h11⟩
          · skip
            have w12 : IntKind.i64.wrap ((i : Int) + 1) = ((i + 1 : Nat) : Int) := by rw [IntWalk.i64_in] <;> omega
            try simp (disch := first | omega | assumption) only [E0_G, SY, setArgs, off, agreeKind, partVals, vals, allocV, boxed, ldA, rdCells, oneB, aggD, aField, aFieldV, aExtract, eq_self, ne_eq, if_true, if_false, not_false_eq_true, Nat.reduceAdd, Nat.reduceSub, Nat.reduceMul, Nat.reduceLT, Nat.reduceEqDiff, Nat.reduceBEq, reduceIte, Int.reduceEq, Int.reduceLT, Int.reduceLE, reduceCtorEq, TY_EvA2, and_fold, or_fold, not_fold, g4_0, g4_1, g4_5, w1, w2, h3a, w5, h6a, store_agree, store_refl E0_same, i8, j8, m8_0, m8_1, i9, j9, m9_0, m9_1, y10, h11a, w12] at he
            rw [drop_cons' hx4] at hd4
            have hf := (show _ = (R22_0 a b (a.drop (i + 1)) (i + 1) : Sum (Bool) (Unit)) from (if_pos h11).trans (rfl)).symm.trans hd4
            exact .next he (m - 1) (by omega) ⟨(i + 1), by first | omega | (simp; omega) | simp, by first | omega | (simp; omega) | simp, (by simp only [SY, setArgs, off, agreeKind, partVals, vals, allocV, boxed, ldA, rdCells, oneB, aggD, aField, aFieldV, aExtract, eq_self, ne_eq, if_true, if_false, not_false_eq_true, Nat.reduceAdd, Nat.reduceSub, Nat.reduceMul, Nat.reduceLT, Nat.reduceEqDiff, Nat.reduceBEq, reduceIte, Int.reduceEq, Int.reduceLT, Int.reduceLE, reduceCtorEq, g4_0, g4_1, g4_5] <;> rfl), (by simp only [SY, setArgs, off, agreeKind, partVals, vals, allocV, boxed, ldA, rdCells, oneB, aggD, aField, aFieldV, aExtract, eq_self, ne_eq, if_true, if_false, not_false_eq_true, Nat.reduceAdd, Nat.reduceSub, Nat.reduceMul, Nat.reduceLT, Nat.reduceEqDiff, Nat.reduceBEq, reduceIte, Int.reduceEq, Int.reduceLT, Int.reduceLE, reduceCtorEq, g4_0, g4_1, g4_5] <;> rfl), (by simp only [SY, setArgs, off, agreeKind, partVals, vals, allocV, boxed, ldA, rdCells, oneB, aggD, aField, aFieldV, aExtract, eq_self, ne_eq, if_true, if_false, not_false_eq_true, Nat.reduceAdd, Nat.reduceSub, Nat.reduceMul, Nat.reduceLT, Nat.reduceEqDiff, Nat.reduceBEq, reduceIte, Int.reduceEq, Int.reduceLT, Int.reduceLE, reduceCtorEq, g4_0, g4_1, g4_5] <;> rfl), ga4, by omega, hf⟩
          · skip
            try simp (disch := first | omega | assumption) only [E0_G, SY, setArgs, off, agreeKind, partVals, vals, allocV, boxed, ldA, rdCells, oneB, aggD, aField, aFieldV, aExtract, eq_self, ne_eq, if_true, if_false, not_false_eq_true, Nat.reduceAdd, Nat.reduceSub, Nat.reduceMul, Nat.reduceLT, Nat.reduceEqDiff, Nat.reduceBEq, reduceIte, Int.reduceEq, Int.reduceLT, Int.reduceLE, reduceCtorEq, TY_EvA2, and_fold, or_fold, not_fold, g4_0, g4_1, g4_5, w1, w2, h3a, w5, h6a, store_agree, store_refl E0_same, i8, j8, m8_0, m8_1, i9, j9, m9_0, m9_1, y10, h11a] at he
            rw [drop_cons' hx4] at hd4
            have hf := (show _ = (.inl false : Sum (Bool) (Unit)) from (if_neg h11).trans (rfl)).symm.trans hd4
            exact .ret he (.inr ⟨rfl, ⟨false, (by simp only [SY, setArgs, off, agreeKind, partVals, vals, allocV, boxed, ldA, rdCells, oneB, aggD, aField, aFieldV, aExtract, eq_self, ne_eq, if_true, if_false, not_false_eq_true, Nat.reduceAdd, Nat.reduceSub, Nat.reduceMul, Nat.reduceLT, Nat.reduceEqDiff, Nat.reduceBEq, reduceIte, Int.reduceEq, Int.reduceLT, Int.reduceLE, reduceCtorEq, g4_0, g4_1, g4_5] <;> rfl), ga4, hf.symm⟩⟩)
        · skip
          try simp (disch := first | omega | assumption) only [E0_G, SY, setArgs, off, agreeKind, partVals, vals, allocV, boxed, ldA, rdCells, oneB, aggD, aField, aFieldV, aExtract, eq_self, ne_eq, if_true, if_false, not_false_eq_true, Nat.reduceAdd, Nat.reduceSub, Nat.reduceMul, Nat.reduceLT, Nat.reduceEqDiff, Nat.reduceBEq, reduceIte, Int.reduceEq, Int.reduceLT, Int.reduceLE, reduceCtorEq, TY_EvA2, and_fold, or_fold, not_fold, g4_0, g4_1, g4_5, w1, w2, h3a, w5, h6a] at he
          rw [List.drop_eq_nil_of_le (by omega)] at hd4
          have hf := (show _ = (.inr () : Sum (Bool) (Unit)) from rfl).symm.trans hd4
          exact .exit he (.inl ⟨rfl, ⟨i, ga4, by omega, by first | omega | assumption | simp, hf.symm⟩⟩))
    rcases hQ4 with ⟨rfl, hQ4⟩ | ⟨rfl, hQ4⟩
    · skip
      obtain ⟨i, ge4, gm4, hj4_0, hR4⟩ := hQ4
      try simp (disch := first | omega | assumption) only [E0_G, SY, setArgs, off, agreeKind, partVals, vals, allocV, boxed, ldA, rdCells, oneB, aggD, aField, aFieldV, aExtract, eq_self, ne_eq, if_true, if_false, not_false_eq_true, Nat.reduceAdd, Nat.reduceSub, Nat.reduceMul, Nat.reduceLT, Nat.reduceEqDiff, Nat.reduceBEq, reduceIte, Int.reduceEq, Int.reduceLT, Int.reduceLE, reduceCtorEq, TY_EvA2, and_fold, or_fold, not_fold, w1, w2, h3a] at hz
      have hr : r22 a b = true := (if_pos h3).trans ((onSum_inr hR4).trans (rfl))
      exact fin hz (by rw [hr]) ge4
    · skip
      obtain ⟨r4, ge4_4, ge4, hR4⟩ := hQ4
      try simp (disch := first | omega | assumption) only [E0_G, SY, setArgs, off, agreeKind, partVals, vals, allocV, boxed, ldA, rdCells, oneB, aggD, aField, aFieldV, aExtract, eq_self, ne_eq, if_true, if_false, not_false_eq_true, Nat.reduceAdd, Nat.reduceSub, Nat.reduceMul, Nat.reduceLT, Nat.reduceEqDiff, Nat.reduceBEq, reduceIte, Int.reduceEq, Int.reduceLT, Int.reduceLE, reduceCtorEq, TY_EvA2, and_fold, or_fold, not_fold, w1, w2, h3a, ge4_4] at hz
      have hr : r22 a b = r4 := (if_pos h3).trans ((onSum_inl hR4).trans (rfl))
      exact fin hz (by rw [hr]) ge4
  · skip
    try simp (disch := first | omega | assumption) only [E0_G, SY, setArgs, off, agreeKind, partVals, vals, allocV, boxed, ldA, rdCells, oneB, aggD, aField, aFieldV, aExtract, eq_self, ne_eq, if_true, if_false, not_false_eq_true, Nat.reduceAdd, Nat.reduceSub, Nat.reduceMul, Nat.reduceLT, Nat.reduceEqDiff, Nat.reduceBEq, reduceIte, Int.reduceEq, Int.reduceLT, Int.reduceLE, reduceCtorEq, TY_EvA2, and_fold, or_fold, not_fold, w1, w2, h3a] at hz
    have hr : r22 a b = false := (if_neg h3).trans (rfl)
    exact fin hz (by rw [hr]) (Agree.refl S)

end Great
end Go.Proofs
end
