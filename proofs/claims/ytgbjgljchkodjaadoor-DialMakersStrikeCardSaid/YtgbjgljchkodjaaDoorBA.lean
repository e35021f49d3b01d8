/-
  BA: EvA1, EvA2.
-/
import Derived.Test.YtgbjgljchkodjaaDoorBP
import Derived.Test.YtgbjgljchkodjaaDoorAE4
section
/-
  The great seat of stage 1: marks and keys, by the generator.
-/
set_option linter.unusedSimpArgs false
set_option linter.unusedVariables false
namespace Go.Proofs
namespace Great
open Go Go.RowKit Go.Aev
set_option maxRecDepth 100000
theorem tz3 : szOf Tryd.prog 3 = some 1 := by kernel_rfl
theorem tt3 : inTab Tryd.prog 3 = true := by kernel_rfl
theorem t0_3 : zeroOf Tryd.prog 3 = some (.int .i64 0) := by kernel_rfl
theorem ti3 : (Tryd.prog.info? 3).map (fun i => Nat.ble i.bytes 65536) = some true := by kernel_rfl
theorem tv3 : (zeroOf Tryd.prog 3).isSome = true := by kernel_rfl
theorem tz44 : szOf Tryd.prog 40 = some 3 := by kernel_rfl
theorem tt44 : inTab Tryd.prog 40 = true := by kernel_rfl
theorem t0_44 : zeroOf Tryd.prog 40 = some (.agg #[.int .i64 0, .int .i64 0, .int .i64 0]) := by kernel_rfl
theorem tz45 : szOf Tryd.prog 41 = some 3 := by kernel_rfl
theorem tt45 : inTab Tryd.prog 41 = true := by kernel_rfl
theorem t0_45 : zeroOf Tryd.prog 41 = some (.agg #[.int .i64 0, .int .i64 0, .int .i64 0]) := by kernel_rfl
theorem tz51 : szOf Tryd.prog 45 = some 3 := by kernel_rfl
theorem tt51 : inTab Tryd.prog 45 = true := by kernel_rfl
theorem t0_51 : zeroOf Tryd.prog 45 = some (.agg #[.int .i64 0, .int .i64 0, .int .i64 0]) := by kernel_rfl
theorem tz52 : szOf Tryd.prog 46 = some 3 := by kernel_rfl
theorem tt52 : inTab Tryd.prog 46 = true := by kernel_rfl
theorem t0_52 : zeroOf Tryd.prog 46 = some (.agg #[.int .i64 0, .int .i64 0, .int .i64 0]) := by kernel_rfl
theorem tz55 : szOf Tryd.prog 29 = some 2 := by kernel_rfl
theorem tt55 : inTab Tryd.prog 29 = true := by kernel_rfl
theorem t0_55 : zeroOf Tryd.prog 29 = some (.agg #[.int .i64 0, .int .i64 0]) := by kernel_rfl
theorem tz56 : szOf Tryd.prog 30 = some 2 := by kernel_rfl
theorem tt56 : inTab Tryd.prog 30 = true := by kernel_rfl
theorem t0_56 : zeroOf Tryd.prog 30 = some (.agg #[.int .i64 0, .int .i64 0]) := by kernel_rfl
theorem ti56 : (Tryd.prog.info? 30).map (fun i => Nat.ble i.bytes 65536) = some true := by kernel_rfl
theorem tv56 : (zeroOf Tryd.prog 30).isSome = true := by kernel_rfl
theorem tz57 : szOf Tryd.prog 38 = some 5 := by kernel_rfl
theorem tt57 : inTab Tryd.prog 38 = true := by kernel_rfl
theorem t0_57 : zeroOf Tryd.prog 38 = some (.agg #[.int .i64 0, .int .i64 0, .int .i64 0, .int .i64 0, .int .i64 0]) := by kernel_rfl
theorem tz58 : szOf Tryd.prog 39 = some 5 := by kernel_rfl
theorem tt58 : inTab Tryd.prog 39 = true := by kernel_rfl
theorem t0_58 : zeroOf Tryd.prog 39 = some (.agg #[.int .i64 0, .int .i64 0, .int .i64 0, .int .i64 0, .int .i64 0]) := by kernel_rfl
/-- What is known of the types. -/
theorem TY_EvA1 : type_of% (And.intro (And.intro (And.intro (And.intro (And.intro Tryd.underlying3 tz3) (And.intro tt3 t0_3)) (And.intro (And.intro Tryd.underlying40 tz44) (And.intro tt44 (And.intro t0_44 Tryd.underlying41)))) (And.intro (And.intro (And.intro tz45 tt45) (And.intro t0_45 Tryd.underlying45)) (And.intro (And.intro tz51 tt51) (And.intro t0_51 (And.intro Tryd.underlying46 tz52))))) (And.intro (And.intro (And.intro (And.intro tt52 t0_52) (And.intro Tryd.underlying29 tz55)) (And.intro (And.intro tt55 t0_55) (And.intro Tryd.underlying30 (And.intro tz56 tt56)))) (And.intro (And.intro (And.intro t0_56 Tryd.underlying38) (And.intro tz57 tt57)) (And.intro (And.intro t0_57 Tryd.underlying39) (And.intro tz58 (And.intro tt58 t0_58)))))) := (And.intro (And.intro (And.intro (And.intro (And.intro Tryd.underlying3 tz3) (And.intro tt3 t0_3)) (And.intro (And.intro Tryd.underlying40 tz44) (And.intro tt44 (And.intro t0_44 Tryd.underlying41)))) (And.intro (And.intro (And.intro tz45 tt45) (And.intro t0_45 Tryd.underlying45)) (And.intro (And.intro tz51 tt51) (And.intro t0_51 (And.intro Tryd.underlying46 tz52))))) (And.intro (And.intro (And.intro (And.intro tt52 t0_52) (And.intro Tryd.underlying29 tz55)) (And.intro (And.intro tt55 t0_55) (And.intro Tryd.underlying30 (And.intro tz56 tt56)))) (And.intro (And.intro (And.intro t0_56 Tryd.underlying38) (And.intro tz57 tt57)) (And.intro (And.intro t0_57 Tryd.underlying39) (And.intro tz58 (And.intro tt58 t0_58))))))

instance : Inhabited K := ⟨⟨0, 0, 0⟩⟩
instance : Flat K := ⟨[.i64, .i64, .i64], K.row, fun _ => rfl⟩
structure Ar where
  f : Int
  l : Int
instance : Inhabited Ar := ⟨⟨0, 0⟩⟩
instance : Flat Ar := ⟨[.i64, .i64], fun x => [x.f, x.l], fun _ => rfl⟩
structure Sp where
  lo : Int
  hi : Int
instance : Inhabited Sp := ⟨⟨0, 0⟩⟩
instance : Flat Sp := ⟨[.i64, .i64], fun x => [x.lo, x.hi], fun _ => rfl⟩
structure Mk where
  f : Int
  l : Int
  t : Int
  s : Int
  b : Int
instance : Inhabited Mk := ⟨⟨0, 0, 0, 0, 0⟩⟩
instance : Flat Mk := ⟨[.i64, .i64, .i64, .i64, .i64], fun x => [x.f, x.l, x.t, x.s, x.b], fun _ => rfl⟩
theorem sur_K (ns : List Int) (h : ns.length = 3) : ∃ x : K, Flat.fl x = ns := match ns, h with | [a, b, c], _ => ⟨⟨a, b, c⟩, rfl⟩
def r118 (a b c d e : Int) (set : Int) (f s l : Int) : Bool := (if (cnt (andV set e)) ≤ f then decide ((cnt (notV d set)) ≤ s) else false)
set_option maxHeartbeats 2000000 in
theorem c118 (a b c d e : Int) (set : Int) (f s l : Int)  (S : AS)  :
    ∃ S', (evL Tryd.prog E0).call 52 #[.agg #[.int .i64 a, .int .i64 b, .int .i64 c, .int .i64 d, .int .i64 e], .int .i64 set, .agg #[.int .i64 f, .int .i64 s, .int .i64 l]] S = some (.bool (r118 a b c d e set f s l), S') ∧ Agree S S' := by
  generalize hz : (evL Tryd.prog E0).call 52 _ _ = z
  rw [L_call, evCall_said rfl Tryd.func52 rfl (by decide) Tryd.ntmps52 Tryd.results52] at hz
  obtain ⟨S1, e1, n1, b1, a1⟩ := push_open S (.cells [.int .i64 a, .int .i64 b, .int .i64 c, .int .i64 d, .int .i64 e] 39 0 true true)
  have g1 : Agree S S1 := a1
  have s1 : E0.same S S1 = true := symEnv_same a1
  obtain ⟨S2, e2, n2, b2, a2⟩ := push_open S1 (.cells [.int .i64 f, .int .i64 s, .int .i64 l] 41 0 true true)
  have v1_2 := (a2.2 S.next (by omega)).trans b1
  have g2 : Agree S S2 := g1.trans a2
  have s2 : E0.same S1 S2 = true := symEnv_same a2
  try simp (disch := first | omega | assumption) only [E0_G, SY, setArgs, off, agreeKind, partVals, vals, allocV, boxed, ldA, rdCells, oneB, aggD, aField, aFieldV, aExtract, eq_self, ne_eq, if_true, if_false, not_false_eq_true, Nat.reduceAdd, Nat.reduceSub, Nat.reduceMul, Nat.reduceLT, Nat.reduceEqDiff, Nat.reduceBEq, reduceIte, Int.reduceEq, Int.reduceLT, Int.reduceLE, reduceCtorEq, TY_EvA1, and_fold, or_fold, not_fold, s1, e1, b1, v1_2, s2, e2, b2] at hz
  rw [code_draws _ _ _ (by kernel_rfl)] at hz
  generalize hnd3 : needy _ = nd3 at hz
  have k4 := c136 (andV set e) S2
  try simp (disch := first | omega | assumption) only [E0_G, SY, setArgs, off, agreeKind, partVals, vals, allocV, boxed, ldA, rdCells, oneB, aggD, aField, aFieldV, aExtract, eq_self, ne_eq, if_true, if_false, not_false_eq_true, Nat.reduceAdd, Nat.reduceSub, Nat.reduceMul, Nat.reduceLT, Nat.reduceEqDiff, Nat.reduceBEq, reduceIte, Int.reduceEq, Int.reduceLT, Int.reduceLE, reduceCtorEq, TY_EvA1, and_fold, or_fold, not_fold, s1, e1, b1, v1_2, s2, e2, b2, store_agree, store_refl E0_same, k4] at hz
  rcases dP ((cnt (andV set e)) ≤ f) with ⟨h5a, h5⟩ | ⟨h5a, h5⟩
  · skip
    have k6 := c136 (notV d set) S2
    try simp (disch := first | omega | assumption) only [E0_G, SY, setArgs, off, agreeKind, partVals, vals, allocV, boxed, ldA, rdCells, oneB, aggD, aField, aFieldV, aExtract, eq_self, ne_eq, if_true, if_false, not_false_eq_true, Nat.reduceAdd, Nat.reduceSub, Nat.reduceMul, Nat.reduceLT, Nat.reduceEqDiff, Nat.reduceBEq, reduceIte, Int.reduceEq, Int.reduceLT, Int.reduceLE, reduceCtorEq, TY_EvA1, and_fold, or_fold, not_fold, s1, e1, b1, v1_2, s2, e2, b2, store_agree, store_refl E0_same, k4, h5a, k6] at hz
    have hr : r118 a b c d e set f s l = decide ((cnt (notV d set)) ≤ s) := (if_pos h5).trans (rfl)
    exact fin hz (by rw [hr]) g2
  · skip
    try simp (disch := first | omega | assumption) only [E0_G, SY, setArgs, off, agreeKind, partVals, vals, allocV, boxed, ldA, rdCells, oneB, aggD, aField, aFieldV, aExtract, eq_self, ne_eq, if_true, if_false, not_false_eq_true, Nat.reduceAdd, Nat.reduceSub, Nat.reduceMul, Nat.reduceLT, Nat.reduceEqDiff, Nat.reduceBEq, reduceIte, Int.reduceEq, Int.reduceLT, Int.reduceLE, reduceCtorEq, TY_EvA1, and_fold, or_fold, not_fold, s1, e1, b1, v1_2, s2, e2, b2, store_agree, store_refl E0_same, k4, h5a] at hz
    have hr : r118 a b c d e set f s l = false := (if_neg h5).trans (rfl)
    exact fin hz (by rw [hr]) g2

def r117 (a b c d e : Int) (i t p : Int) (f s l : Int) : Bool := (if t = c then (r118 a b c d e p f s l) else false)
set_option maxHeartbeats 2000000 in
theorem c117 (a b c d e : Int) (i t p : Int) (f s l : Int)  (S : AS)  :
    ∃ S', (evL Tryd.prog E0).call 33 #[.agg #[.int .i64 a, .int .i64 b, .int .i64 c, .int .i64 d, .int .i64 e], .agg #[.int .i64 i, .int .i64 t, .int .i64 p], .agg #[.int .i64 f, .int .i64 s, .int .i64 l]] S = some (.bool (r117 a b c d e i t p f s l), S') ∧ Agree S S' := by
  generalize hz : (evL Tryd.prog E0).call 33 _ _ = z
  rw [L_call, evCall_said rfl Tryd.func33 rfl (by decide) Tryd.ntmps33 Tryd.results33] at hz
  obtain ⟨S1, e1, n1, b1, a1⟩ := push_open S (.cells [.int .i64 a, .int .i64 b, .int .i64 c, .int .i64 d, .int .i64 e] 39 0 true true)
  have g1 : Agree S S1 := a1
  have s1 : E0.same S S1 = true := symEnv_same a1
  obtain ⟨S2, e2, n2, b2, a2⟩ := push_open S1 (.cells [.int .i64 i, .int .i64 t, .int .i64 p] 46 0 true true)
  have v1_2 := (a2.2 S.next (by omega)).trans b1
  have g2 : Agree S S2 := g1.trans a2
  have s2 : E0.same S1 S2 = true := symEnv_same a2
  obtain ⟨S3, e3, n3, b3, a3⟩ := push_open S2 (.cells [.int .i64 f, .int .i64 s, .int .i64 l] 41 0 true true)
  have v1_3 := (a3.2 S.next (by omega)).trans v1_2
  have v2_3 := (a3.2 S1.next (by omega)).trans b2
  have g3 : Agree S S3 := g2.trans a3
  have s3 : E0.same S2 S3 = true := symEnv_same a3
  try simp (disch := first | omega | assumption) only [E0_G, SY, setArgs, off, agreeKind, partVals, vals, allocV, boxed, ldA, rdCells, oneB, aggD, aField, aFieldV, aExtract, eq_self, ne_eq, if_true, if_false, not_false_eq_true, Nat.reduceAdd, Nat.reduceSub, Nat.reduceMul, Nat.reduceLT, Nat.reduceEqDiff, Nat.reduceBEq, reduceIte, Int.reduceEq, Int.reduceLT, Int.reduceLE, reduceCtorEq, TY_EvA1, and_fold, or_fold, not_fold, s1, e1, b1, v1_2, s2, e2, b2, v1_3, v2_3, s3, e3, b3] at hz
  rcases dP (t = c) with ⟨h4a, h4⟩ | ⟨h4a, h4⟩
  · skip
    obtain ⟨S5, k5, a5⟩ := c118 a b c d e p f s l  S3  
    have l5 := a5.1
    have s5 : E0.same S3 S5 = true := symEnv_same a5
    have v1_5 := (a5.2 S.next (by omega)).trans v1_3
    have v2_5 := (a5.2 S1.next (by omega)).trans v2_3
    have v3_5 := (a5.2 S2.next (by omega)).trans b3
    have g5 : Agree S S5 := g3.trans a5
    try simp (disch := first | omega | assumption) only [E0_G, SY, setArgs, off, agreeKind, partVals, vals, allocV, boxed, ldA, rdCells, oneB, aggD, aField, aFieldV, aExtract, eq_self, ne_eq, if_true, if_false, not_false_eq_true, Nat.reduceAdd, Nat.reduceSub, Nat.reduceMul, Nat.reduceLT, Nat.reduceEqDiff, Nat.reduceBEq, reduceIte, Int.reduceEq, Int.reduceLT, Int.reduceLE, reduceCtorEq, TY_EvA1, and_fold, or_fold, not_fold, s1, e1, b1, v1_2, s2, e2, b2, v1_3, v2_3, s3, e3, b3, h4a, k5, s5, v1_5, v2_5, v3_5] at hz
    have hr : r117 a b c d e i t p f s l = (r118 a b c d e p f s l) := (if_pos h4).trans (rfl)
    exact fin hz (by rw [hr]) g5
  · skip
    try simp (disch := first | omega | assumption) only [E0_G, SY, setArgs, off, agreeKind, partVals, vals, allocV, boxed, ldA, rdCells, oneB, aggD, aField, aFieldV, aExtract, eq_self, ne_eq, if_true, if_false, not_false_eq_true, Nat.reduceAdd, Nat.reduceSub, Nat.reduceMul, Nat.reduceLT, Nat.reduceEqDiff, Nat.reduceBEq, reduceIte, Int.reduceEq, Int.reduceLT, Int.reduceLE, reduceCtorEq, TY_EvA1, and_fold, or_fold, not_fold, s1, e1, b1, v1_2, s2, e2, b2, v1_3, v2_3, s3, e3, b3, h4a] at hz
    have hr : r117 a b c d e i t p f s l = false := (if_neg h4).trans (rfl)
    exact fin hz (by rw [hr]) g3

def r92 (x y : Int) (by_ : Int) : (Int × Int) := (if 43199 ≤ (IntKind.i64.wrap (y + (IntKind.i64.wrap (2 * by_)))) then (0, 43199) else (angle (IntKind.i64.wrap (x - by_)), IntKind.i64.wrap (y + (IntKind.i64.wrap (2 * by_)))))
set_option maxHeartbeats 2000000 in
theorem c92 (x y : Int) (by_ : Int)  (S : AS)  (ht : Tab S) :
    ∃ S', (evL Tryd.prog E0).call 29 #[.agg #[.int .i64 x, .int .i64 y], .int .i64 by_] S = some (.agg #[.int .i64 ((r92 x y by_).1), .int .i64 ((r92 x y by_).2)], S') ∧ Agree S S' := by
  generalize hz : (evL Tryd.prog E0).call 29 _ _ = z
  rw [L_call, evCall_said rfl Tryd.func29 rfl (by decide) Tryd.ntmps29 Tryd.results29] at hz
  obtain ⟨S1, e1, n1, b1, a1⟩ := push_open S (.cells [.int .i64 x, .int .i64 y] 30 0 true true)
  have g1 : Agree S S1 := a1
  have s1 : E0.same S S1 = true := symEnv_same a1
  obtain ⟨S2, e2, n2, b2, a2⟩ := push_open S1 (.cells [.int .i64 0, .int .i64 0] 30 0 true true)
  have v1_2 := (a2.2 S.next (by omega)).trans b1
  have g2 : Agree S S2 := g1.trans a2
  have s2 : E0.same S1 S2 = true := symEnv_same a2
  have t3 := (ht.agree g2).2
  try simp (disch := first | omega | assumption) only [E0_G, SY, setArgs, off, agreeKind, partVals, vals, allocV, boxed, ldA, rdCells, oneB, aggD, aField, aFieldV, aExtract, eq_self, ne_eq, if_true, if_false, not_false_eq_true, Nat.reduceAdd, Nat.reduceSub, Nat.reduceMul, Nat.reduceLT, Nat.reduceEqDiff, Nat.reduceBEq, reduceIte, Int.reduceEq, Int.reduceLT, Int.reduceLE, reduceCtorEq, TY_EvA1, and_fold, or_fold, not_fold, s1, e1, b1, v1_2, s2, e2, b2, t3] at hz
  rcases dP (43199 ≤ (IntKind.i64.wrap (y + (IntKind.i64.wrap (2 * by_))))) with ⟨h4a, h4⟩ | ⟨h4a, h4⟩
  · skip
    have t5 := (ht.agree g2).2
    obtain ⟨S6, k6, n6, b6, q6⟩ := st_at (o := 0) (c' := [.int .i64 0, .int .i64 43199]) (v := .agg #[.int .i64 0, .int .i64 43199]) tz56 b2 rfl rfl (show 0 + 2 ≤ 2 by decide) rfl
    have v1_6 := (q6 S.next (by omega)).trans v1_2
    have g6 : Agree S S6 := ⟨by have := (g2).1; omega, fun id hid => (q6 id (by have := (g2).1; omega)).trans ((g2).2 id hid)⟩
    try simp (disch := first | omega | assumption) only [E0_G, SY, setArgs, off, agreeKind, partVals, vals, allocV, boxed, ldA, rdCells, oneB, aggD, aField, aFieldV, aExtract, eq_self, ne_eq, if_true, if_false, not_false_eq_true, Nat.reduceAdd, Nat.reduceSub, Nat.reduceMul, Nat.reduceLT, Nat.reduceEqDiff, Nat.reduceBEq, reduceIte, Int.reduceEq, Int.reduceLT, Int.reduceLE, reduceCtorEq, TY_EvA1, and_fold, or_fold, not_fold, s1, e1, b1, v1_2, s2, e2, b2, t3, h4a, t5, v1_6, k6, b6] at hz
    have hr : r92 x y by_ = (0, 43199) := (if_pos h4).trans (rfl)
    exact fin hz (by rw [hr]) g6
  · skip
    have k7 := c76 (IntKind.i64.wrap (x - by_)) S2
    have y8 : aBuild Tryd.prog 30 [(0, .int .i64 (angle (IntKind.i64.wrap (x - by_)))), (1, .int .i64 (IntKind.i64.wrap (y + (IntKind.i64.wrap (2 * by_)))))] = some (.agg #[.int .i64 (angle (IntKind.i64.wrap (x - by_))), .int .i64 (IntKind.i64.wrap (y + (IntKind.i64.wrap (2 * by_))))]) := by kernel_rfl
    obtain ⟨S9, k9, n9, b9, q9⟩ := st_at (o := 0) (c' := [.int .i64 (angle (IntKind.i64.wrap (x - by_))), .int .i64 (IntKind.i64.wrap (y + (IntKind.i64.wrap (2 * by_))))]) (v := .agg #[.int .i64 (angle (IntKind.i64.wrap (x - by_))), .int .i64 (IntKind.i64.wrap (y + (IntKind.i64.wrap (2 * by_))))]) tz56 b2 rfl rfl (show 0 + 2 ≤ 2 by decide) rfl
    have v1_9 := (q9 S.next (by omega)).trans v1_2
    have g9 : Agree S S9 := ⟨by have := (g2).1; omega, fun id hid => (q9 id (by have := (g2).1; omega)).trans ((g2).2 id hid)⟩
    try simp (disch := first | omega | assumption) only [E0_G, SY, setArgs, off, agreeKind, partVals, vals, allocV, boxed, ldA, rdCells, oneB, aggD, aField, aFieldV, aExtract, eq_self, ne_eq, if_true, if_false, not_false_eq_true, Nat.reduceAdd, Nat.reduceSub, Nat.reduceMul, Nat.reduceLT, Nat.reduceEqDiff, Nat.reduceBEq, reduceIte, Int.reduceEq, Int.reduceLT, Int.reduceLE, reduceCtorEq, TY_EvA1, and_fold, or_fold, not_fold, s1, e1, b1, v1_2, s2, e2, b2, t3, h4a, k7, y8, v1_9, k9, b9] at hz
    have hr : r92 x y by_ = (angle (IntKind.i64.wrap (x - by_)), IntKind.i64.wrap (y + (IntKind.i64.wrap (2 * by_)))) := (if_neg h4).trans (rfl)
    exact fin hz (by rw [hr]) g9

def r94 (x y : Int) (by_ : Int) : (Int × Int) := (if 43199 ≤ (IntKind.i64.wrap (y + (IntKind.i64.wrap (2 * by_)))) then (0, 43199) else (angle (IntKind.i64.wrap (x - by_)), IntKind.i64.wrap (y + (IntKind.i64.wrap (2 * by_)))))
end Great
end Go.Proofs
end
section
/-
  The great seat of stage 1: lists, by the generator.
-/
set_option linter.unusedSimpArgs false
set_option linter.unusedVariables false
namespace Go.Proofs
namespace Great
open Go Go.RowKit Go.Aev
set_option maxRecDepth 100000
theorem tz22 : szOf Tryd.prog 22 = some 1 := by kernel_rfl
theorem tt22 : inTab Tryd.prog 22 = true := by kernel_rfl
theorem t0_22 : zeroOf Tryd.prog 22 = some (.slice none 0 0) := by kernel_rfl
theorem tz43 : szOf Tryd.prog 37 = some 1 := by kernel_rfl
theorem tt43 : inTab Tryd.prog 37 = true := by kernel_rfl
theorem t0_43 : zeroOf Tryd.prog 37 = some (.slice none 0 0) := by kernel_rfl
theorem tz77 : szOf Tryd.prog 42 = some 1 := by kernel_rfl
theorem tt77 : inTab Tryd.prog 42 = true := by kernel_rfl
theorem t0_77 : zeroOf Tryd.prog 42 = some (.slice none 0 0) := by kernel_rfl
theorem tz123 : szOf Tryd.prog 109 = some 2 := by kernel_rfl
theorem tt123 : inTab Tryd.prog 109 = true := by kernel_rfl
theorem t0_123 : zeroOf Tryd.prog 109 = some (.agg #[.int .i64 0, .int .i64 0]) := by kernel_rfl
/-- What is known of the types. -/
theorem TY_EvA2 : type_of% (And.intro (And.intro (And.intro (And.intro (And.intro Tryd.underlying3 (And.intro tz3 tt3)) (And.intro t0_3 (And.intro Tryd.underlying22 tz22))) (And.intro (And.intro tt22 (And.intro t0_22 Tryd.underlying37)) (And.intro (And.intro tz43 tt43) (And.intro t0_43 Tryd.underlying40)))) (And.intro (And.intro (And.intro tz44 (And.intro tt44 t0_44)) (And.intro Tryd.underlying41 (And.intro tz45 tt45))) (And.intro (And.intro t0_45 (And.intro Tryd.underlying45 tz51)) (And.intro (And.intro tt51 t0_51) (And.intro Tryd.underlying46 tz52))))) (And.intro (And.intro (And.intro (And.intro tt52 (And.intro t0_52 Tryd.underlying29)) (And.intro tz55 (And.intro tt55 t0_55))) (And.intro (And.intro Tryd.underlying30 (And.intro tz56 tt56)) (And.intro (And.intro t0_56 Tryd.underlying38) (And.intro tz57 tt57)))) (And.intro (And.intro (And.intro t0_57 (And.intro Tryd.underlying39 tz58)) (And.intro tt58 (And.intro t0_58 Tryd.underlying42))) (And.intro (And.intro tz77 (And.intro tt77 t0_77)) (And.intro (And.intro Tryd.underlying109 tz123) (And.intro tt123 t0_123)))))) := (And.intro (And.intro (And.intro (And.intro (And.intro Tryd.underlying3 (And.intro tz3 tt3)) (And.intro t0_3 (And.intro Tryd.underlying22 tz22))) (And.intro (And.intro tt22 (And.intro t0_22 Tryd.underlying37)) (And.intro (And.intro tz43 tt43) (And.intro t0_43 Tryd.underlying40)))) (And.intro (And.intro (And.intro tz44 (And.intro tt44 t0_44)) (And.intro Tryd.underlying41 (And.intro tz45 tt45))) (And.intro (And.intro t0_45 (And.intro Tryd.underlying45 tz51)) (And.intro (And.intro tt51 t0_51) (And.intro Tryd.underlying46 tz52))))) (And.intro (And.intro (And.intro (And.intro tt52 (And.intro t0_52 Tryd.underlying29)) (And.intro tz55 (And.intro tt55 t0_55))) (And.intro (And.intro Tryd.underlying30 (And.intro tz56 tt56)) (And.intro (And.intro t0_56 Tryd.underlying38) (And.intro tz57 tt57)))) (And.intro (And.intro (And.intro t0_57 (And.intro Tryd.underlying39 tz58)) (And.intro tt58 (And.intro t0_58 Tryd.underlying42))) (And.intro (And.intro tz77 (And.intro tt77 t0_77)) (And.intro (And.intro Tryd.underlying109 tz123) (And.intro tt123 t0_123))))))
def R59_0 (ks : List K) (a b c d e : Int) (f s l : Int)  : List K → List Int → (List Int)
  | [], o => o
  | x10 :: l', o => (if (r117 a b c d e x10.i x10.t x10.p f s l) = true then R59_0 ks a b c d e f s l l' (o ++ ([x10.i])) else R59_0 ks a b c d e f s l l' o)
def r59 (ks : List K) (a b c d e : Int) (f s l : Int) : List Int × Int := (if bunch ks = true then (if (errV (MarkOk a b c d e)) = 0 then (if (errV (InkOk f s l)) = 0 then (R59_0 ks a b c d e f s l ks ([]), 0) else ([], 1)) else ([], 1)) else ([], 1))
set_option maxHeartbeats 2000000 in
theorem c59 (ks : List K) (a b c d e : Int) (f s l : Int) (hn : ks.length ≤ 1000)  (S : AS) (v_ks : Value) (hv_ks : Lst S v_ks ks) (ht : Tab S) :
    ∃ v' S', (evL Tryd.prog E0).call 15 #[v_ks, .agg #[.int .i64 a, .int .i64 b, .int .i64 c, .int .i64 d, .int .i64 e], .agg #[.int .i64 f, .int .i64 s, .int .i64 l]] S = some (.tuple #[v', .int .i64 (r59 ks a b c d e f s l).2], S') ∧ Agree S S' ∧ Own 3 S.next S' v' (r59 ks a b c d e f s l).1 := by
  generalize hz : (evL Tryd.prog E0).call 15 _ _ = z
  rw [L_call, evCall_said rfl Tryd.func15 rfl (by decide) Tryd.ntmps15 Tryd.results15] at hz
  obtain ⟨S1, e1, n1, b1, a1⟩ := push_open S (.cells [.int .i64 a, .int .i64 b, .int .i64 c, .int .i64 d, .int .i64 e] 39 0 true true)
  have g1 : Agree S S1 := a1
  have s1 : E0.same S S1 = true := symEnv_same a1
  obtain ⟨S2, e2, n2, b2, a2⟩ := push_open S1 (.cells [.int .i64 f, .int .i64 s, .int .i64 l] 41 0 true true)
  have v1_2 := (a2.2 S.next (by omega)).trans b1
  have g2 : Agree S S2 := g1.trans a2
  have s2 : E0.same S1 S2 = true := symEnv_same a2
  obtain ⟨S3, k3, a3⟩ := c109 (ks : List K) (by omega) S2 (v_ks) (hv_ks.agree g2)
  have l3 := a3.1
  have s3 : E0.same S2 S3 = true := symEnv_same a3
  have v1_3 := (a3.2 S.next (by omega)).trans v1_2
  have v2_3 := (a3.2 S1.next (by omega)).trans b2
  have g3 : Agree S S3 := g2.trans a3
  try simp (disch := first | omega | assumption) only [E0_G, SY, setArgs, off, agreeKind, partVals, vals, allocV, boxed, ldA, rdCells, oneB, aggD, aField, aFieldV, aExtract, eq_self, ne_eq, if_true, if_false, not_false_eq_true, Nat.reduceAdd, Nat.reduceSub, Nat.reduceMul, Nat.reduceLT, Nat.reduceEqDiff, Nat.reduceBEq, reduceIte, Int.reduceEq, Int.reduceLT, Int.reduceLE, reduceCtorEq, TY_EvA2, and_fold, or_fold, not_fold, s1, e1, b1, v1_2, s2, e2, b2, k3, s3, v1_3, v2_3] at hz
  rcases dB (bunch ks) with ⟨h4a, h4⟩ | ⟨h4a, h4⟩
  · skip
    obtain ⟨S5, k5, a5⟩ := c54 a b c d e S3 (ht.agree g3) 
    have l5 := a5.1
    have s5 : E0.same S3 S5 = true := symEnv_same a5
    have v1_5 := (a5.2 S.next (by omega)).trans v1_3
    have v2_5 := (a5.2 S1.next (by omega)).trans v2_3
    have g5 : Agree S S5 := g3.trans a5
    try simp (disch := first | omega | assumption) only [E0_G, SY, setArgs, off, agreeKind, partVals, vals, allocV, boxed, ldA, rdCells, oneB, aggD, aField, aFieldV, aExtract, eq_self, ne_eq, if_true, if_false, not_false_eq_true, Nat.reduceAdd, Nat.reduceSub, Nat.reduceMul, Nat.reduceLT, Nat.reduceEqDiff, Nat.reduceBEq, reduceIte, Int.reduceEq, Int.reduceLT, Int.reduceLE, reduceCtorEq, TY_EvA2, and_fold, or_fold, not_fold, s1, e1, b1, v1_2, s2, e2, b2, k3, s3, v1_3, v2_3, h4a, k5, s5, v1_5, v2_5] at hz
    rcases dP ((errV (MarkOk a b c d e)) = 0) with ⟨h6a, h6⟩ | ⟨h6a, h6⟩
    · skip
      obtain ⟨S7, k7, a7⟩ := c36 f s l S5  
      have l7 := a7.1
      have s7 : E0.same S5 S7 = true := symEnv_same a7
      have v1_7 := (a7.2 S.next (by omega)).trans v1_5
      have v2_7 := (a7.2 S1.next (by omega)).trans v2_5
      have g7 : Agree S S7 := g5.trans a7
      try simp (disch := first | omega | assumption) only [E0_G, SY, setArgs, off, agreeKind, partVals, vals, allocV, boxed, ldA, rdCells, oneB, aggD, aField, aFieldV, aExtract, eq_self, ne_eq, if_true, if_false, not_false_eq_true, Nat.reduceAdd, Nat.reduceSub, Nat.reduceMul, Nat.reduceLT, Nat.reduceEqDiff, Nat.reduceBEq, reduceIte, Int.reduceEq, Int.reduceLT, Int.reduceLE, reduceCtorEq, TY_EvA2, and_fold, or_fold, not_fold, s1, e1, b1, v1_2, s2, e2, b2, k3, s3, v1_3, v2_3, h4a, k5, s5, v1_5, v2_5, h6a, k7, s7, v1_7, v2_7] at hz
      rcases dP ((errV (InkOk f s l)) = 0) with ⟨h8a, h8⟩ | ⟨h8a, h8⟩
      · skip
        have w9 := (hv_ks.agree g7).len (P := Tryd.prog) (t := 37) Tryd.underlying37
        try simp (disch := first | omega | assumption) only [E0_G, SY, setArgs, off, agreeKind, partVals, vals, allocV, boxed, ldA, rdCells, oneB, aggD, aField, aFieldV, aExtract, eq_self, ne_eq, if_true, if_false, not_false_eq_true, Nat.reduceAdd, Nat.reduceSub, Nat.reduceMul, Nat.reduceLT, Nat.reduceEqDiff, Nat.reduceBEq, reduceIte, Int.reduceEq, Int.reduceLT, Int.reduceLE, reduceCtorEq, TY_EvA2, and_fold, or_fold, not_fold, s1, e1, b1, v1_2, s2, e2, b2, k3, s3, v1_3, v2_3, h4a, k5, s5, v1_5, v2_5, h6a, k7, s7, v1_7, v2_7, h8a, w9] at hz
        generalize hL10 : Rec.loop _ _ _ _ = L10 at hz
        obtain ⟨x10, t10, S10e, rfl, hQ10⟩ := loop_met hL10 (fun m t S' => ∃ (j : Nat) (v_o : Value) (o : List Int), m + j = ks.length ∧ o.length ≤ j ∧ j ≤ ks.length ∧ t.get 4 = some (.pointer (some ⟨S.next, 0, none⟩)) ∧ t.get 5 = some (.pointer (some ⟨S1.next, 0, none⟩)) ∧ t.get 8 = some (v_o) ∧ t.get 24 = some (v_ks) ∧ t.get 25 = some (.int .i64 (ks.length : Int)) ∧ t.get 26 = some (.int .i64 (j : Int)) ∧ S'.heap.get S.next = some (.cells [.int .i64 a, .int .i64 b, .int .i64 c, .int .i64 d, .int .i64 e] 39 0 true true) ∧ S'.heap.get S1.next = some (.cells [.int .i64 f, .int .i64 s, .int .i64 l] 41 0 true true) ∧ Agree S S' ∧ S7.next ≤ S'.next ∧ Own 3 S7.next S' v_o o ∧ R59_0 ks a b c d e f s l (ks.drop j) o = R59_0 ks a b c d e f s l ks ([]))
          (fun x t S' => x = .exit 0 ∧ ∃ (j : Nat) (v_o : Value) (o : List Int), t.get 8 = some (v_o) ∧ S'.heap.get S.next = some (.cells [.int .i64 a, .int .i64 b, .int .i64 c, .int .i64 d, .int .i64 e] 39 0 true true) ∧ S'.heap.get S1.next = some (.cells [.int .i64 f, .int .i64 s, .int .i64 l] 41 0 true true) ∧ Agree S S' ∧ S7.next ≤ S'.next ∧ Own 3 S7.next S' v_o o ∧ o.length ≤ j ∧ j ≤ ks.length ∧ R59_0 ks a b c d e f s l ks ([]) = o) (ks.length - 0) ⟨0, .slice none 0 0, [], by first | rfl | omega | (simp; omega) | simp, by first | rfl | omega | (simp; omega) | simp, by first | rfl | omega | (simp; omega) | simp, by simp only [SY, setArgs, off, agreeKind, partVals, vals, allocV, boxed, ldA, rdCells, oneB, aggD, aField, aFieldV, aExtract, eq_self, ne_eq, if_true, if_false, not_false_eq_true, Nat.reduceAdd, Nat.reduceSub, Nat.reduceMul, Nat.reduceLT, Nat.reduceEqDiff, Nat.reduceBEq, reduceIte, Int.reduceEq, Int.reduceLT, Int.reduceLE, reduceCtorEq] <;> rfl, by simp only [SY, setArgs, off, agreeKind, partVals, vals, allocV, boxed, ldA, rdCells, oneB, aggD, aField, aFieldV, aExtract, eq_self, ne_eq, if_true, if_false, not_false_eq_true, Nat.reduceAdd, Nat.reduceSub, Nat.reduceMul, Nat.reduceLT, Nat.reduceEqDiff, Nat.reduceBEq, reduceIte, Int.reduceEq, Int.reduceLT, Int.reduceLE, reduceCtorEq] <;> rfl, by simp only [SY, setArgs, off, agreeKind, partVals, vals, allocV, boxed, ldA, rdCells, oneB, aggD, aField, aFieldV, aExtract, eq_self, ne_eq, if_true, if_false, not_false_eq_true, Nat.reduceAdd, Nat.reduceSub, Nat.reduceMul, Nat.reduceLT, Nat.reduceEqDiff, Nat.reduceBEq, reduceIte, Int.reduceEq, Int.reduceLT, Int.reduceLE, reduceCtorEq] <;> rfl, by simp only [SY, setArgs, off, agreeKind, partVals, vals, allocV, boxed, ldA, rdCells, oneB, aggD, aField, aFieldV, aExtract, eq_self, ne_eq, if_true, if_false, not_false_eq_true, Nat.reduceAdd, Nat.reduceSub, Nat.reduceMul, Nat.reduceLT, Nat.reduceEqDiff, Nat.reduceBEq, reduceIte, Int.reduceEq, Int.reduceLT, Int.reduceLE, reduceCtorEq] <;> rfl, by simp only [SY, setArgs, off, agreeKind, partVals, vals, allocV, boxed, ldA, rdCells, oneB, aggD, aField, aFieldV, aExtract, eq_self, ne_eq, if_true, if_false, not_false_eq_true, Nat.reduceAdd, Nat.reduceSub, Nat.reduceMul, Nat.reduceLT, Nat.reduceEqDiff, Nat.reduceBEq, reduceIte, Int.reduceEq, Int.reduceLT, Int.reduceLE, reduceCtorEq] <;> rfl, by simp only [SY, setArgs, off, agreeKind, partVals, vals, allocV, boxed, ldA, rdCells, oneB, aggD, aField, aFieldV, aExtract, eq_self, ne_eq, if_true, if_false, not_false_eq_true, Nat.reduceAdd, Nat.reduceSub, Nat.reduceMul, Nat.reduceLT, Nat.reduceEqDiff, Nat.reduceBEq, reduceIte, Int.reduceEq, Int.reduceLT, Int.reduceLE, reduceCtorEq] <;> rfl, v1_7, v2_7, g7, Nat.le_refl _, Own.nil _ _ _, rfl⟩ (by
            rintro m t S10 ⟨j, v_o, o, hi10_0, hi10_1, hi10_2, g10_4, g10_5, g10_8, g10_24, g10_25, g10_26, bb10_1, bb10_2, ga10, gn10, ow_o, hd10⟩
            refine .run fun z he => ?_
            try simp (disch := first | omega | assumption) only [E0_G, SY, setArgs, off, agreeKind, partVals, vals, allocV, boxed, ldA, rdCells, oneB, aggD, aField, aFieldV, aExtract, eq_self, ne_eq, if_true, if_false, not_false_eq_true, Nat.reduceAdd, Nat.reduceSub, Nat.reduceMul, Nat.reduceLT, Nat.reduceEqDiff, Nat.reduceBEq, reduceIte, Int.reduceEq, Int.reduceLT, Int.reduceLE, reduceCtorEq, TY_EvA2, and_fold, or_fold, not_fold, g10_4, g10_5, g10_8, g10_24, g10_25, g10_26, bb10_1, bb10_2, h4a, h6a, h8a, w9] at he
            rcases dP ((j : Int) < (ks.length : Int)) with ⟨h11a, h11⟩ | ⟨h11a, h11⟩
            · skip
              have hx10 : ks[j]? = some (ks[j]'(by first | omega | simp; omega)) := List.getElem?_eq_getElem _
              generalize ks[j]'_ = x10 at hx10
              obtain ⟨id12, of12, cc12, ty12, wr12, ex12, i12, j12, l12, q12⟩ := (hv_ks).at (P := Tryd.prog) (t := 37) Tryd.underlying37 tz52 hx10
              have j12 := (ga10.2 id12 l12).trans j12
              have m12_0 : cc12[of12]? = some (.int .i64 x10.i) := q12 0 (show 0 < 3 by decide)
              have m12_1 : cc12[of12 + 1]? = some (.int .i64 x10.t) := q12 1 (show 1 < 3 by decide)
              have m12_2 : cc12[of12 + 2]? = some (.int .i64 x10.p) := q12 2 (show 2 < 3 by decide)
              obtain ⟨S13, e13, n13, b13, a13⟩ := push_open S10 (.cells [.int .i64 0, .int .i64 0, .int .i64 0] 46 0 true true)
              have v1_13 := (a13.2 S.next (by omega)).trans bb10_1
              have v2_13 := (a13.2 S1.next (by omega)).trans bb10_2
              have v12_13 := (a13.2 id12 (by omega)).trans j12
              have ow_14 := ow_o.agree a13
              have g13 : Agree S S13 := ga10.trans a13
              have s13 : E0.same S10 S13 = true := symEnv_same a13
              have ne15 : blkOf (v_o) ≠ some S10.next := ow_o.new (Nat.le_refl _)
              obtain ⟨S16, k16, n16, b16, q16⟩ := st_at (o := 0) (c' := [.int .i64 x10.i, .int .i64 x10.t, .int .i64 x10.p]) (v := .agg #[.int .i64 x10.i, .int .i64 x10.t, .int .i64 x10.p]) tz52 b13 rfl rfl (show 0 + 3 ≤ 3 by decide) rfl
              have v1_16 := (q16 S.next (by omega)).trans v1_13
              have v2_16 := (q16 S1.next (by omega)).trans v2_13
              have v12_16 := (q16 id12 (by omega)).trans v12_13
              have ow_17 := ow_14.frame (by omega) (fun id hid hb => q16 id (fun e => (show blkOf (v_o) ≠ some S10.next from by first | exact ow_14.ne (by omega) | exact ow_14.new (by omega) | assumption) (e ▸ hb)))
              have g16 : Agree S S16 := ⟨by have := (g13).1; omega, fun id hid => (q16 id (by have := (g13).1; omega)).trans ((g13).2 id hid)⟩
              obtain ⟨S18, k18, a18⟩ := c117 a b c d e x10.i x10.t x10.p f s l  S16  
              have l18 := a18.1
              have s18 : E0.same S16 S18 = true := symEnv_same a18
              have v1_18 := (a18.2 S.next (by omega)).trans v1_16
              have v2_18 := (a18.2 S1.next (by omega)).trans v2_16
              have v12_18 := (a18.2 id12 (by omega)).trans v12_16
              have v13_18 := (a18.2 S10.next (by omega)).trans b16
              have ow_19 := ow_17.agree a18
              have g18 : Agree S S18 := g16.trans a18
              try simp (disch := first | omega | assumption) only [E0_G, SY, setArgs, off, agreeKind, partVals, vals, allocV, boxed, ldA, rdCells, oneB, aggD, aField, aFieldV, aExtract, eq_self, ne_eq, if_true, if_false, not_false_eq_true, Nat.reduceAdd, Nat.reduceSub, Nat.reduceMul, Nat.reduceLT, Nat.reduceEqDiff, Nat.reduceBEq, reduceIte, Int.reduceEq, Int.reduceLT, Int.reduceLE, reduceCtorEq, TY_EvA2, and_fold, or_fold, not_fold, g10_4, g10_5, g10_8, g10_24, g10_25, g10_26, bb10_1, bb10_2, h4a, h6a, h8a, w9, h11a, i12, j12, m12_0, m12_1, m12_2, v1_13, v2_13, v12_13, s13, e13, b13, v1_16, v2_16, v12_16, k16, b16, k18, s18, v1_18, v2_18, v12_18, v13_18] at he
              rcases dB ((r117 a b c d e x10.i x10.t x10.p f s l)) with ⟨h20a, h20⟩ | ⟨h20a, h20⟩
              · skip
                have y21 : aBuildSlice Tryd.prog 42 1 [(0, .int .i64 x10.i)] S18 = some (.slice (some ⟨S18.next, 0, none⟩) 1 1, S18.push (.cells [.int .i64 x10.i] 3 1 true true)) := by kernel_rfl
                obtain ⟨S22, e22, n22, b22, a22⟩ := push_open S18 (.cells [.int .i64 x10.i] 3 1 true true)
                have v1_22 := (a22.2 S.next (by omega)).trans v1_18
                have v2_22 := (a22.2 S1.next (by omega)).trans v2_18
                have v12_22 := (a22.2 id12 (by omega)).trans v12_18
                have v13_22 := (a22.2 S10.next (by omega)).trans v13_18
                have ow_23 := ow_19.agree a22
                have g22 : Agree S S22 := g18.trans a22
                have s22 : E0.same S18 S22 = true := symEnv_same a22
                have ne24 : blkOf (v_o) ≠ some S18.next := ow_19.new (Nat.le_refl _)
                have o25 : Own 3 S18.next S22 (.slice (some ⟨S18.next, 0, none⟩) 1 1) ([x10.i] : List Int) := .inr ⟨_, true, rfl, Nat.le_refl _, by omega, b22⟩
                obtain ⟨u26, S26, k26, o26, n26, f26, d26⟩ := own_append (P := Tryd.prog) (t := 42) (tx := 42) (n := 0) (v := v_o) ow_23 (o25.rows) (by omega) (by first | omega | (simp; omega) | simp) (by first | omega | (simp; omega) | simp) Tryd.underlying42 Tryd.underlying42 ti3 tv3 rfl tz3
                have v1_26 := (f26 S.next (by omega) (by first | (simp [blkOf]; done) | exact ow_23.ne (by omega) | exact ow_23.new (by omega) | assumption)).trans v1_22
                have v2_26 := (f26 S1.next (by omega) (by first | (simp [blkOf]; done) | exact ow_23.ne (by omega) | exact ow_23.new (by omega) | assumption)).trans v2_22
                have v13_26 := (f26 S10.next (by omega) (by first | (simp [blkOf]; done) | exact ow_23.ne (by omega) | exact ow_23.new (by omega) | assumption)).trans v13_22
                have g26 : Agree S S26 := ⟨Nat.le_trans (g22).1 n26, fun id hid => (f26 id (by have := (g22).1; omega) (by first | (simp [blkOf]; done) | exact ow_23.ne (by omega) | assumption)).trans ((g22).2 id hid)⟩
                have ne27 : blkOf u26 ≠ some S.next := by first | exact o26.ne (by omega) | exact o26.new (by omega) | exact d26 _ (by omega) (by first | (simp [blkOf]; done) | exact ow_23.ne (by omega) | exact ow_23.new (by omega) | assumption)
                have ne28 : blkOf u26 ≠ some S1.next := by first | exact o26.ne (by omega) | exact o26.new (by omega) | exact d26 _ (by omega) (by first | (simp [blkOf]; done) | exact ow_23.ne (by omega) | exact ow_23.new (by omega) | assumption)
                have ne29 : blkOf u26 ≠ some S10.next := by first | exact o26.ne (by omega) | exact o26.new (by omega) | exact d26 _ (by omega) (by first | (simp [blkOf]; done) | exact ow_23.ne (by omega) | exact ow_23.new (by omega) | assumption)
                have w30 : IntKind.i64.wrap ((j : Int) + 1) = ((j + 1 : Nat) : Int) := by rw [IntWalk.i64_in] <;> omega
                try simp (disch := first | omega | assumption) only [E0_G, SY, setArgs, off, agreeKind, partVals, vals, allocV, boxed, ldA, rdCells, oneB, aggD, aField, aFieldV, aExtract, eq_self, ne_eq, if_true, if_false, not_false_eq_true, Nat.reduceAdd, Nat.reduceSub, Nat.reduceMul, Nat.reduceLT, Nat.reduceEqDiff, Nat.reduceBEq, reduceIte, Int.reduceEq, Int.reduceLT, Int.reduceLE, reduceCtorEq, TY_EvA2, and_fold, or_fold, not_fold, g10_4, g10_5, g10_8, g10_24, g10_25, g10_26, bb10_1, bb10_2, h4a, h6a, h8a, w9, h11a, i12, j12, m12_0, m12_1, m12_2, v1_13, v2_13, v12_13, s13, e13, b13, v1_16, v2_16, v12_16, k16, b16, k18, s18, v1_18, v2_18, v12_18, v13_18, h20a, y21, v1_22, v2_22, v12_22, v13_22, s22, e22, b22, v1_26, v2_26, v13_26, k26, w30] at he
                rw [drop_cons' hx10] at hd10
                have hf := (show _ = (R59_0 ks a b c d e f s l (ks.drop (j + 1)) (o ++ ([x10.i])) : (List Int)) from (if_pos h20).trans (rfl)).symm.trans hd10
                exact .next he (m - 1) (by omega) ⟨(j + 1), u26, o ++ ([x10.i]), by first | omega | (simp; omega) | simp, by first | omega | (simp; omega) | simp, by first | omega | (simp; omega) | simp, (by simp only [SY, setArgs, off, agreeKind, partVals, vals, allocV, boxed, ldA, rdCells, oneB, aggD, aField, aFieldV, aExtract, eq_self, ne_eq, if_true, if_false, not_false_eq_true, Nat.reduceAdd, Nat.reduceSub, Nat.reduceMul, Nat.reduceLT, Nat.reduceEqDiff, Nat.reduceBEq, reduceIte, Int.reduceEq, Int.reduceLT, Int.reduceLE, reduceCtorEq, g10_4, g10_5, g10_8, g10_24, g10_25, g10_26] <;> rfl), (by simp only [SY, setArgs, off, agreeKind, partVals, vals, allocV, boxed, ldA, rdCells, oneB, aggD, aField, aFieldV, aExtract, eq_self, ne_eq, if_true, if_false, not_false_eq_true, Nat.reduceAdd, Nat.reduceSub, Nat.reduceMul, Nat.reduceLT, Nat.reduceEqDiff, Nat.reduceBEq, reduceIte, Int.reduceEq, Int.reduceLT, Int.reduceLE, reduceCtorEq, g10_4, g10_5, g10_8, g10_24, g10_25, g10_26] <;> rfl), (by simp only [SY, setArgs, off, agreeKind, partVals, vals, allocV, boxed, ldA, rdCells, oneB, aggD, aField, aFieldV, aExtract, eq_self, ne_eq, if_true, if_false, not_false_eq_true, Nat.reduceAdd, Nat.reduceSub, Nat.reduceMul, Nat.reduceLT, Nat.reduceEqDiff, Nat.reduceBEq, reduceIte, Int.reduceEq, Int.reduceLT, Int.reduceLE, reduceCtorEq, g10_4, g10_5, g10_8, g10_24, g10_25, g10_26] <;> rfl), (by simp only [SY, setArgs, off, agreeKind, partVals, vals, allocV, boxed, ldA, rdCells, oneB, aggD, aField, aFieldV, aExtract, eq_self, ne_eq, if_true, if_false, not_false_eq_true, Nat.reduceAdd, Nat.reduceSub, Nat.reduceMul, Nat.reduceLT, Nat.reduceEqDiff, Nat.reduceBEq, reduceIte, Int.reduceEq, Int.reduceLT, Int.reduceLE, reduceCtorEq, g10_4, g10_5, g10_8, g10_24, g10_25, g10_26] <;> rfl), (by simp only [SY, setArgs, off, agreeKind, partVals, vals, allocV, boxed, ldA, rdCells, oneB, aggD, aField, aFieldV, aExtract, eq_self, ne_eq, if_true, if_false, not_false_eq_true, Nat.reduceAdd, Nat.reduceSub, Nat.reduceMul, Nat.reduceLT, Nat.reduceEqDiff, Nat.reduceBEq, reduceIte, Int.reduceEq, Int.reduceLT, Int.reduceLE, reduceCtorEq, g10_4, g10_5, g10_8, g10_24, g10_25, g10_26] <;> rfl), (by simp only [SY, setArgs, off, agreeKind, partVals, vals, allocV, boxed, ldA, rdCells, oneB, aggD, aField, aFieldV, aExtract, eq_self, ne_eq, if_true, if_false, not_false_eq_true, Nat.reduceAdd, Nat.reduceSub, Nat.reduceMul, Nat.reduceLT, Nat.reduceEqDiff, Nat.reduceBEq, reduceIte, Int.reduceEq, Int.reduceLT, Int.reduceLE, reduceCtorEq, g10_4, g10_5, g10_8, g10_24, g10_25, g10_26] <;> rfl), v1_26, v2_26, g26, by omega, (o26.low (by omega)), hf⟩
              · skip
                have w31 : IntKind.i64.wrap ((j : Int) + 1) = ((j + 1 : Nat) : Int) := by rw [IntWalk.i64_in] <;> omega
                try simp (disch := first | omega | assumption) only [E0_G, SY, setArgs, off, agreeKind, partVals, vals, allocV, boxed, ldA, rdCells, oneB, aggD, aField, aFieldV, aExtract, eq_self, ne_eq, if_true, if_false, not_false_eq_true, Nat.reduceAdd, Nat.reduceSub, Nat.reduceMul, Nat.reduceLT, Nat.reduceEqDiff, Nat.reduceBEq, reduceIte, Int.reduceEq, Int.reduceLT, Int.reduceLE, reduceCtorEq, TY_EvA2, and_fold, or_fold, not_fold, g10_4, g10_5, g10_8, g10_24, g10_25, g10_26, bb10_1, bb10_2, h4a, h6a, h8a, w9, h11a, i12, j12, m12_0, m12_1, m12_2, v1_13, v2_13, v12_13, s13, e13, b13, v1_16, v2_16, v12_16, k16, b16, k18, s18, v1_18, v2_18, v12_18, v13_18, h20a, w31] at he
                rw [drop_cons' hx10] at hd10
                have hf := (show _ = (R59_0 ks a b c d e f s l (ks.drop (j + 1)) o : (List Int)) from (if_neg h20).trans (rfl)).symm.trans hd10
                exact .next he (m - 1) (by omega) ⟨(j + 1), v_o, o, by first | omega | (simp; omega) | simp, by first | omega | (simp; omega) | simp, by first | omega | (simp; omega) | simp, (by simp only [SY, setArgs, off, agreeKind, partVals, vals, allocV, boxed, ldA, rdCells, oneB, aggD, aField, aFieldV, aExtract, eq_self, ne_eq, if_true, if_false, not_false_eq_true, Nat.reduceAdd, Nat.reduceSub, Nat.reduceMul, Nat.reduceLT, Nat.reduceEqDiff, Nat.reduceBEq, reduceIte, Int.reduceEq, Int.reduceLT, Int.reduceLE, reduceCtorEq, g10_4, g10_5, g10_8, g10_24, g10_25, g10_26] <;> rfl), (by simp only [SY, setArgs, off, agreeKind, partVals, vals, allocV, boxed, ldA, rdCells, oneB, aggD, aField, aFieldV, aExtract, eq_self, ne_eq, if_true, if_false, not_false_eq_true, Nat.reduceAdd, Nat.reduceSub, Nat.reduceMul, Nat.reduceLT, Nat.reduceEqDiff, Nat.reduceBEq, reduceIte, Int.reduceEq, Int.reduceLT, Int.reduceLE, reduceCtorEq, g10_4, g10_5, g10_8, g10_24, g10_25, g10_26] <;> rfl), (by simp only [SY, setArgs, off, agreeKind, partVals, vals, allocV, boxed, ldA, rdCells, oneB, aggD, aField, aFieldV, aExtract, eq_self, ne_eq, if_true, if_false, not_false_eq_true, Nat.reduceAdd, Nat.reduceSub, Nat.reduceMul, Nat.reduceLT, Nat.reduceEqDiff, Nat.reduceBEq, reduceIte, Int.reduceEq, Int.reduceLT, Int.reduceLE, reduceCtorEq, g10_4, g10_5, g10_8, g10_24, g10_25, g10_26] <;> rfl), (by simp only [SY, setArgs, off, agreeKind, partVals, vals, allocV, boxed, ldA, rdCells, oneB, aggD, aField, aFieldV, aExtract, eq_self, ne_eq, if_true, if_false, not_false_eq_true, Nat.reduceAdd, Nat.reduceSub, Nat.reduceMul, Nat.reduceLT, Nat.reduceEqDiff, Nat.reduceBEq, reduceIte, Int.reduceEq, Int.reduceLT, Int.reduceLE, reduceCtorEq, g10_4, g10_5, g10_8, g10_24, g10_25, g10_26] <;> rfl), (by simp only [SY, setArgs, off, agreeKind, partVals, vals, allocV, boxed, ldA, rdCells, oneB, aggD, aField, aFieldV, aExtract, eq_self, ne_eq, if_true, if_false, not_false_eq_true, Nat.reduceAdd, Nat.reduceSub, Nat.reduceMul, Nat.reduceLT, Nat.reduceEqDiff, Nat.reduceBEq, reduceIte, Int.reduceEq, Int.reduceLT, Int.reduceLE, reduceCtorEq, g10_4, g10_5, g10_8, g10_24, g10_25, g10_26] <;> rfl), (by simp only [SY, setArgs, off, agreeKind, partVals, vals, allocV, boxed, ldA, rdCells, oneB, aggD, aField, aFieldV, aExtract, eq_self, ne_eq, if_true, if_false, not_false_eq_true, Nat.reduceAdd, Nat.reduceSub, Nat.reduceMul, Nat.reduceLT, Nat.reduceEqDiff, Nat.reduceBEq, reduceIte, Int.reduceEq, Int.reduceLT, Int.reduceLE, reduceCtorEq, g10_4, g10_5, g10_8, g10_24, g10_25, g10_26] <;> rfl), v1_18, v2_18, g18, by omega, (ow_19.low (by omega)), hf⟩
            · skip
              try simp (disch := first | omega | assumption) only [E0_G, SY, setArgs, off, agreeKind, partVals, vals, allocV, boxed, ldA, rdCells, oneB, aggD, aField, aFieldV, aExtract, eq_self, ne_eq, if_true, if_false, not_false_eq_true, Nat.reduceAdd, Nat.reduceSub, Nat.reduceMul, Nat.reduceLT, Nat.reduceEqDiff, Nat.reduceBEq, reduceIte, Int.reduceEq, Int.reduceLT, Int.reduceLE, reduceCtorEq, TY_EvA2, and_fold, or_fold, not_fold, g10_4, g10_5, g10_8, g10_24, g10_25, g10_26, bb10_1, bb10_2, h4a, h6a, h8a, w9, h11a] at he
              rw [List.drop_eq_nil_of_le (by omega)] at hd10
              have hf := (show _ = (o : (List Int)) from rfl).symm.trans hd10
              exact .exit he ⟨rfl, ⟨j, v_o, o, (by simp only [SY, setArgs, off, agreeKind, partVals, vals, allocV, boxed, ldA, rdCells, oneB, aggD, aField, aFieldV, aExtract, eq_self, ne_eq, if_true, if_false, not_false_eq_true, Nat.reduceAdd, Nat.reduceSub, Nat.reduceMul, Nat.reduceLT, Nat.reduceEqDiff, Nat.reduceBEq, reduceIte, Int.reduceEq, Int.reduceLT, Int.reduceLE, reduceCtorEq, g10_4, g10_5, g10_8, g10_24, g10_25, g10_26] <;> rfl), bb10_1, bb10_2, ga10, by omega, (ow_o.low (by omega)), by first | omega | assumption | simp, by first | omega | assumption | simp, hf.symm⟩⟩)
        obtain ⟨rfl, j, v_o, o, ge10_8, be10_1, be10_2, ge10, gm10, oe_o10, hj10_0, hj10_1, hR10⟩ := hQ10
        obtain rfl : o = R59_0 ks a b c d e f s l ks ([]) := hR10.symm
        try simp (disch := first | omega | assumption) only [E0_G, SY, setArgs, off, agreeKind, partVals, vals, allocV, boxed, ldA, rdCells, oneB, aggD, aField, aFieldV, aExtract, eq_self, ne_eq, if_true, if_false, not_false_eq_true, Nat.reduceAdd, Nat.reduceSub, Nat.reduceMul, Nat.reduceLT, Nat.reduceEqDiff, Nat.reduceBEq, reduceIte, Int.reduceEq, Int.reduceLT, Int.reduceLE, reduceCtorEq, TY_EvA2, and_fold, or_fold, not_fold, h4a, h6a, h8a, w9, ge10_8, be10_1, be10_2] at hz
        have hr : r59 ks a b c d e f s l = (R59_0 ks a b c d e f s l ks ([]), 0) := (if_pos h4).trans ((if_pos h6).trans ((if_pos h8).trans (rfl)))
        exact ⟨v_o, S10e, by first | (rw [hr]; exact hz.symm) | exact hz.symm, ge10, by rw [hr]; exact oe_o10.low (by omega)⟩
      · skip
        try simp (disch := first | omega | assumption) only [E0_G, SY, setArgs, off, agreeKind, partVals, vals, allocV, boxed, ldA, rdCells, oneB, aggD, aField, aFieldV, aExtract, eq_self, ne_eq, if_true, if_false, not_false_eq_true, Nat.reduceAdd, Nat.reduceSub, Nat.reduceMul, Nat.reduceLT, Nat.reduceEqDiff, Nat.reduceBEq, reduceIte, Int.reduceEq, Int.reduceLT, Int.reduceLE, reduceCtorEq, TY_EvA2, and_fold, or_fold, not_fold, s1, e1, b1, v1_2, s2, e2, b2, k3, s3, v1_3, v2_3, h4a, k5, s5, v1_5, v2_5, h6a, k7, s7, v1_7, v2_7, h8a] at hz
        have hr : r59 ks a b c d e f s l = ([], 1) := (if_pos h4).trans ((if_pos h6).trans ((if_neg h8).trans (rfl)))
        exact ⟨.slice none 0 0, S7, by first | (rw [hr]; exact hz.symm) | exact hz.symm, g7, by rw [hr]; exact Own.nil _ _ _⟩
    · skip
      try simp (disch := first | omega | assumption) only [E0_G, SY, setArgs, off, agreeKind, partVals, vals, allocV, boxed, ldA, rdCells, oneB, aggD, aField, aFieldV, aExtract, eq_self, ne_eq, if_true, if_false, not_false_eq_true, Nat.reduceAdd, Nat.reduceSub, Nat.reduceMul, Nat.reduceLT, Nat.reduceEqDiff, Nat.reduceBEq, reduceIte, Int.reduceEq, Int.reduceLT, Int.reduceLE, reduceCtorEq, TY_EvA2, and_fold, or_fold, not_fold, s1, e1, b1, v1_2, s2, e2, b2, k3, s3, v1_3, v2_3, h4a, k5, s5, v1_5, v2_5, h6a] at hz
      have hr : r59 ks a b c d e f s l = ([], 1) := (if_pos h4).trans ((if_neg h6).trans (rfl))
      exact ⟨.slice none 0 0, S5, by first | (rw [hr]; exact hz.symm) | exact hz.symm, g5, by rw [hr]; exact Own.nil _ _ _⟩
  · skip
    try simp (disch := first | omega | assumption) only [E0_G, SY, setArgs, off, agreeKind, partVals, vals, allocV, boxed, ldA, rdCells, oneB, aggD, aField, aFieldV, aExtract, eq_self, ne_eq, if_true, if_false, not_false_eq_true, Nat.reduceAdd, Nat.reduceSub, Nat.reduceMul, Nat.reduceLT, Nat.reduceEqDiff, Nat.reduceBEq, reduceIte, Int.reduceEq, Int.reduceLT, Int.reduceLE, reduceCtorEq, TY_EvA2, and_fold, or_fold, not_fold, s1, e1, b1, v1_2, s2, e2, b2, k3, s3, v1_3, v2_3, h4a] at hz
    have hr : r59 ks a b c d e f s l = ([], 1) := (if_neg h4).trans (rfl)
    exact ⟨.slice none 0 0, S3, by first | (rw [hr]; exact hz.symm) | exact hz.symm, g3, by rw [hr]; exact Own.nil _ _ _⟩

def r61 (i t p : Int) (a b c d e : Int) (f s l : Int) : List Ar × Int := (if (errV (KeyOk i t p)) = 0 then (if (errV (MarkOk a b c d e)) = 0 then (if (errV (InkOk f s l)) = 0 then (if (r117 a b c d e i t p f s l) = true then ([(⟨((r92 a b l)).1, ((r92 a b l)).2⟩ : Ar)], 0) else ([], 0)) else ([], 1)) else ([], 1)) else ([], 1))
set_option maxHeartbeats 2000000 in
theorem c61 (i t p : Int) (a b c d e : Int) (f s l : Int)  (S : AS)  (ht : Tab S) :
    ∃ v' S', (evL Tryd.prog E0).call 16 #[.agg #[.int .i64 i, .int .i64 t, .int .i64 p], .agg #[.int .i64 a, .int .i64 b, .int .i64 c, .int .i64 d, .int .i64 e], .agg #[.int .i64 f, .int .i64 s, .int .i64 l]] S = some (.tuple #[v', .int .i64 (r61 i t p a b c d e f s l).2], S') ∧ Agree S S' ∧ Own 30 S.next S' v' (r61 i t p a b c d e f s l).1 := by
  generalize hz : (evL Tryd.prog E0).call 16 _ _ = z
  rw [L_call, evCall_said rfl Tryd.func16 rfl (by decide) Tryd.ntmps16 Tryd.results16] at hz
  obtain ⟨S1, e1, n1, b1, a1⟩ := push_open S (.cells [.int .i64 i, .int .i64 t, .int .i64 p] 46 0 true true)
  have g1 : Agree S S1 := a1
  have s1 : E0.same S S1 = true := symEnv_same a1
  obtain ⟨S2, e2, n2, b2, a2⟩ := push_open S1 (.cells [.int .i64 a, .int .i64 b, .int .i64 c, .int .i64 d, .int .i64 e] 39 0 true true)
  have v1_2 := (a2.2 S.next (by omega)).trans b1
  have g2 : Agree S S2 := g1.trans a2
  have s2 : E0.same S1 S2 = true := symEnv_same a2
  obtain ⟨S3, e3, n3, b3, a3⟩ := push_open S2 (.cells [.int .i64 f, .int .i64 s, .int .i64 l] 41 0 true true)
  have v1_3 := (a3.2 S.next (by omega)).trans v1_2
  have v2_3 := (a3.2 S1.next (by omega)).trans b2
  have g3 : Agree S S3 := g2.trans a3
  have s3 : E0.same S2 S3 = true := symEnv_same a3
  obtain ⟨S4, k4, a4⟩ := c38 i t p S3  
  have l4 := a4.1
  have s4 : E0.same S3 S4 = true := symEnv_same a4
  have v1_4 := (a4.2 S.next (by omega)).trans v1_3
  have v2_4 := (a4.2 S1.next (by omega)).trans v2_3
  have v3_4 := (a4.2 S2.next (by omega)).trans b3
  have g4 : Agree S S4 := g3.trans a4
  try simp (disch := first | omega | assumption) only [E0_G, SY, setArgs, off, agreeKind, partVals, vals, allocV, boxed, ldA, rdCells, oneB, aggD, aField, aFieldV, aExtract, eq_self, ne_eq, if_true, if_false, not_false_eq_true, Nat.reduceAdd, Nat.reduceSub, Nat.reduceMul, Nat.reduceLT, Nat.reduceEqDiff, Nat.reduceBEq, reduceIte, Int.reduceEq, Int.reduceLT, Int.reduceLE, reduceCtorEq, TY_EvA2, and_fold, or_fold, not_fold, s1, e1, b1, v1_2, s2, e2, b2, v1_3, v2_3, s3, e3, b3, k4, s4, v1_4, v2_4, v3_4] at hz
  rcases dP ((errV (KeyOk i t p)) = 0) with ⟨h5a, h5⟩ | ⟨h5a, h5⟩
  · skip
    obtain ⟨S6, k6, a6⟩ := c54 a b c d e S4 (ht.agree g4) 
    have l6 := a6.1
    have s6 : E0.same S4 S6 = true := symEnv_same a6
    have v1_6 := (a6.2 S.next (by omega)).trans v1_4
    have v2_6 := (a6.2 S1.next (by omega)).trans v2_4
    have v3_6 := (a6.2 S2.next (by omega)).trans v3_4
    have g6 : Agree S S6 := g4.trans a6
    try simp (disch := first | omega | assumption) only [E0_G, SY, setArgs, off, agreeKind, partVals, vals, allocV, boxed, ldA, rdCells, oneB, aggD, aField, aFieldV, aExtract, eq_self, ne_eq, if_true, if_false, not_false_eq_true, Nat.reduceAdd, Nat.reduceSub, Nat.reduceMul, Nat.reduceLT, Nat.reduceEqDiff, Nat.reduceBEq, reduceIte, Int.reduceEq, Int.reduceLT, Int.reduceLE, reduceCtorEq, TY_EvA2, and_fold, or_fold, not_fold, s1, e1, b1, v1_2, s2, e2, b2, v1_3, v2_3, s3, e3, b3, k4, s4, v1_4, v2_4, v3_4, h5a, k6, s6, v1_6, v2_6, v3_6] at hz
    rcases dP ((errV (MarkOk a b c d e)) = 0) with ⟨h7a, h7⟩ | ⟨h7a, h7⟩
    · skip
      obtain ⟨S8, k8, a8⟩ := c36 f s l S6  
      have l8 := a8.1
      have s8 : E0.same S6 S8 = true := symEnv_same a8
      have v1_8 := (a8.2 S.next (by omega)).trans v1_6
      have v2_8 := (a8.2 S1.next (by omega)).trans v2_6
      have v3_8 := (a8.2 S2.next (by omega)).trans v3_6
      have g8 : Agree S S8 := g6.trans a8
      try simp (disch := first | omega | assumption) only [E0_G, SY, setArgs, off, agreeKind, partVals, vals, allocV, boxed, ldA, rdCells, oneB, aggD, aField, aFieldV, aExtract, eq_self, ne_eq, if_true, if_false, not_false_eq_true, Nat.reduceAdd, Nat.reduceSub, Nat.reduceMul, Nat.reduceLT, Nat.reduceEqDiff, Nat.reduceBEq, reduceIte, Int.reduceEq, Int.reduceLT, Int.reduceLE, reduceCtorEq, TY_EvA2, and_fold, or_fold, not_fold, s1, e1, b1, v1_2, s2, e2, b2, v1_3, v2_3, s3, e3, b3, k4, s4, v1_4, v2_4, v3_4, h5a, k6, s6, v1_6, v2_6, v3_6, h7a, k8, s8, v1_8, v2_8, v3_8] at hz
      rcases dP ((errV (InkOk f s l)) = 0) with ⟨h9a, h9⟩ | ⟨h9a, h9⟩
      · skip
        obtain ⟨S10, k10, a10⟩ := c117 a b c d e i t p f s l  S8  
        have l10 := a10.1
        have s10 : E0.same S8 S10 = true := symEnv_same a10
        have v1_10 := (a10.2 S.next (by omega)).trans v1_8
        have v2_10 := (a10.2 S1.next (by omega)).trans v2_8
        have v3_10 := (a10.2 S2.next (by omega)).trans v3_8
        have g10 : Agree S S10 := g8.trans a10
        try simp (disch := first | omega | assumption) only [E0_G, SY, setArgs, off, agreeKind, partVals, vals, allocV, boxed, ldA, rdCells, oneB, aggD, aField, aFieldV, aExtract, eq_self, ne_eq, if_true, if_false, not_false_eq_true, Nat.reduceAdd, Nat.reduceSub, Nat.reduceMul, Nat.reduceLT, Nat.reduceEqDiff, Nat.reduceBEq, reduceIte, Int.reduceEq, Int.reduceLT, Int.reduceLE, reduceCtorEq, TY_EvA2, and_fold, or_fold, not_fold, s1, e1, b1, v1_2, s2, e2, b2, v1_3, v2_3, s3, e3, b3, k4, s4, v1_4, v2_4, v3_4, h5a, k6, s6, v1_6, v2_6, v3_6, h7a, k8, s8, v1_8, v2_8, v3_8, h9a, k10, s10, v1_10, v2_10, v3_10] at hz
        rcases dB ((r117 a b c d e i t p f s l)) with ⟨h11a, h11⟩ | ⟨h11a, h11⟩
        · skip
          obtain ⟨S12, k12, a12⟩ := c92 a b l  S10  (ht.agree g10)
          have l12 := a12.1
          have s12 : E0.same S10 S12 = true := symEnv_same a12
          have v1_12 := (a12.2 S.next (by omega)).trans v1_10
          have v2_12 := (a12.2 S1.next (by omega)).trans v2_10
          have v3_12 := (a12.2 S2.next (by omega)).trans v3_10
          have g12 : Agree S S12 := g10.trans a12
          have y13 : aBuildSlice Tryd.prog 22 1 [(0, .agg #[.int .i64 (((r92 a b l)).1), .int .i64 (((r92 a b l)).2)])] S12 = some (.slice (some ⟨S12.next, 0, none⟩) 1 1, S12.push (.cells [.int .i64 (((r92 a b l)).1), .int .i64 (((r92 a b l)).2)] 30 2 true true)) := by kernel_rfl
          obtain ⟨S14, e14, n14, b14, a14⟩ := push_open S12 (.cells [.int .i64 (((r92 a b l)).1), .int .i64 (((r92 a b l)).2)] 30 2 true true)
          have v1_14 := (a14.2 S.next (by omega)).trans v1_12
          have v2_14 := (a14.2 S1.next (by omega)).trans v2_12
          have v3_14 := (a14.2 S2.next (by omega)).trans v3_12
          have g14 : Agree S S14 := g12.trans a14
          have s14 : E0.same S12 S14 = true := symEnv_same a14
          have o15 : Own 30 S12.next S14 (.slice (some ⟨S12.next, 0, none⟩) 1 1) ([(⟨((r92 a b l)).1, ((r92 a b l)).2⟩ : Ar)] : List Ar) := .inr ⟨_, true, rfl, Nat.le_refl _, by omega, b14⟩
          try simp (disch := first | omega | assumption) only [E0_G, SY, setArgs, off, agreeKind, partVals, vals, allocV, boxed, ldA, rdCells, oneB, aggD, aField, aFieldV, aExtract, eq_self, ne_eq, if_true, if_false, not_false_eq_true, Nat.reduceAdd, Nat.reduceSub, Nat.reduceMul, Nat.reduceLT, Nat.reduceEqDiff, Nat.reduceBEq, reduceIte, Int.reduceEq, Int.reduceLT, Int.reduceLE, reduceCtorEq, TY_EvA2, and_fold, or_fold, not_fold, s1, e1, b1, v1_2, s2, e2, b2, v1_3, v2_3, s3, e3, b3, k4, s4, v1_4, v2_4, v3_4, h5a, k6, s6, v1_6, v2_6, v3_6, h7a, k8, s8, v1_8, v2_8, v3_8, h9a, k10, s10, v1_10, v2_10, v3_10, h11a, k12, s12, v1_12, v2_12, v3_12, y13, v1_14, v2_14, v3_14, s14, e14, b14] at hz
          have hr : r61 i t p a b c d e f s l = ([(⟨((r92 a b l)).1, ((r92 a b l)).2⟩ : Ar)], 0) := (if_pos h5).trans ((if_pos h7).trans ((if_pos h9).trans ((if_pos h11).trans (rfl))))
          exact ⟨.slice (some ⟨S12.next, 0, none⟩) 1 1, S14, by first | (rw [hr]; exact hz.symm) | exact hz.symm, g14, by rw [hr]; exact o15.low (by omega)⟩
        · skip
          try simp (disch := first | omega | assumption) only [E0_G, SY, setArgs, off, agreeKind, partVals, vals, allocV, boxed, ldA, rdCells, oneB, aggD, aField, aFieldV, aExtract, eq_self, ne_eq, if_true, if_false, not_false_eq_true, Nat.reduceAdd, Nat.reduceSub, Nat.reduceMul, Nat.reduceLT, Nat.reduceEqDiff, Nat.reduceBEq, reduceIte, Int.reduceEq, Int.reduceLT, Int.reduceLE, reduceCtorEq, TY_EvA2, and_fold, or_fold, not_fold, s1, e1, b1, v1_2, s2, e2, b2, v1_3, v2_3, s3, e3, b3, k4, s4, v1_4, v2_4, v3_4, h5a, k6, s6, v1_6, v2_6, v3_6, h7a, k8, s8, v1_8, v2_8, v3_8, h9a, k10, s10, v1_10, v2_10, v3_10, h11a] at hz
          have hr : r61 i t p a b c d e f s l = ([], 0) := (if_pos h5).trans ((if_pos h7).trans ((if_pos h9).trans ((if_neg h11).trans (rfl))))
          exact ⟨.slice none 0 0, S10, by first | (rw [hr]; exact hz.symm) | exact hz.symm, g10, by rw [hr]; exact Own.nil _ _ _⟩
      · skip
        try simp (disch := first | omega | assumption) only [E0_G, SY, setArgs, off, agreeKind, partVals, vals, allocV, boxed, ldA, rdCells, oneB, aggD, aField, aFieldV, aExtract, eq_self, ne_eq, if_true, if_false, not_false_eq_true, Nat.reduceAdd, Nat.reduceSub, Nat.reduceMul, Nat.reduceLT, Nat.reduceEqDiff, Nat.reduceBEq, reduceIte, Int.reduceEq, Int.reduceLT, Int.reduceLE, reduceCtorEq, TY_EvA2, and_fold, or_fold, not_fold, s1, e1, b1, v1_2, s2, e2, b2, v1_3, v2_3, s3, e3, b3, k4, s4, v1_4, v2_4, v3_4, h5a, k6, s6, v1_6, v2_6, v3_6, h7a, k8, s8, v1_8, v2_8, v3_8, h9a] at hz
        have hr : r61 i t p a b c d e f s l = ([], 1) := (if_pos h5).trans ((if_pos h7).trans ((if_neg h9).trans (rfl)))
        exact ⟨.slice none 0 0, S8, by first | (rw [hr]; exact hz.symm) | exact hz.symm, g8, by rw [hr]; exact Own.nil _ _ _⟩
    · skip
      try simp (disch := first | omega | assumption) only [E0_G, SY, setArgs, off, agreeKind, partVals, vals, allocV, boxed, ldA, rdCells, oneB, aggD, aField, aFieldV, aExtract, eq_self, ne_eq, if_true, if_false, not_false_eq_true, Nat.reduceAdd, Nat.reduceSub, Nat.reduceMul, Nat.reduceLT, Nat.reduceEqDiff, Nat.reduceBEq, reduceIte, Int.reduceEq, Int.reduceLT, Int.reduceLE, reduceCtorEq, TY_EvA2, and_fold, or_fold, not_fold, s1, e1, b1, v1_2, s2, e2, b2, v1_3, v2_3, s3, e3, b3, k4, s4, v1_4, v2_4, v3_4, h5a, k6, s6, v1_6, v2_6, v3_6, h7a] at hz
      have hr : r61 i t p a b c d e f s l = ([], 1) := (if_pos h5).trans ((if_neg h7).trans (rfl))
      exact ⟨.slice none 0 0, S6, by first | (rw [hr]; exact hz.symm) | exact hz.symm, g6, by rw [hr]; exact Own.nil _ _ _⟩
  · skip
    try simp (disch := first | omega | assumption) only [E0_G, SY, setArgs, off, agreeKind, partVals, vals, allocV, boxed, ldA, rdCells, oneB, aggD, aField, aFieldV, aExtract, eq_self, ne_eq, if_true, if_false, not_false_eq_true, Nat.reduceAdd, Nat.reduceSub, Nat.reduceMul, Nat.reduceLT, Nat.reduceEqDiff, Nat.reduceBEq, reduceIte, Int.reduceEq, Int.reduceLT, Int.reduceLE, reduceCtorEq, TY_EvA2, and_fold, or_fold, not_fold, s1, e1, b1, v1_2, s2, e2, b2, v1_3, v2_3, s3, e3, b3, k4, s4, v1_4, v2_4, v3_4, h5a] at hz
    have hr : r61 i t p a b c d e f s l = ([], 1) := (if_neg h5).trans (rfl)
    exact ⟨.slice none 0 0, S4, by first | (rw [hr]; exact hz.symm) | exact hz.symm, g4, by rw [hr]; exact Own.nil _ _ _⟩
end Great
end Go.Proofs
end
