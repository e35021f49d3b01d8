/-
  BA: EvA1, EvA2.
-/
import Derived.Test.YtgbjgljchkodjaaGreatDoorBP
import Derived.Test.YtgbjgljchkodjaaGreatDoorAE4
section
/-
  The great seat of stage 1: marks and keys, by the generator.
-/
set_option linter.unusedSimpArgs false
set_option linter.unusedVariables false
namespace Go.Proofs
namespace Great
open Go Go.RowKit Go.Aev
set_option maxRecDepth 100000
theorem tz3 : szOf Tryz.prog 3 = some 1 := by kernel_rfl
theorem tt3 : inTab Tryz.prog 3 = true := by kernel_rfl
theorem t0_3 : zeroOf Tryz.prog 3 = some (.int .i64 0) := by kernel_rfl
theorem tz44 : szOf Tryz.prog 59 = some 3 := by kernel_rfl
theorem tt44 : inTab Tryz.prog 59 = true := by kernel_rfl
theorem t0_44 : zeroOf Tryz.prog 59 = some (.agg #[.int .i64 0, .int .i64 0, .int .i64 0]) := by kernel_rfl
theorem tz45 : szOf Tryz.prog 60 = some 3 := by kernel_rfl
theorem tt45 : inTab Tryz.prog 60 = true := by kernel_rfl
theorem t0_45 : zeroOf Tryz.prog 60 = some (.agg #[.int .i64 0, .int .i64 0, .int .i64 0]) := by kernel_rfl
theorem tz51 : szOf Tryz.prog 62 = some 3 := by kernel_rfl
theorem tt51 : inTab Tryz.prog 62 = true := by kernel_rfl
theorem t0_51 : zeroOf Tryz.prog 62 = some (.agg #[.int .i64 0, .int .i64 0, .int .i64 0]) := by kernel_rfl
theorem tz52 : szOf Tryz.prog 63 = some 3 := by kernel_rfl
theorem tt52 : inTab Tryz.prog 63 = true := by kernel_rfl
theorem t0_52 : zeroOf Tryz.prog 63 = some (.agg #[.int .i64 0, .int .i64 0, .int .i64 0]) := by kernel_rfl
theorem tz55 : szOf Tryz.prog 43 = some 2 := by kernel_rfl
theorem tt55 : inTab Tryz.prog 43 = true := by kernel_rfl
theorem t0_55 : zeroOf Tryz.prog 43 = some (.agg #[.int .i64 0, .int .i64 0]) := by kernel_rfl
theorem tz56 : szOf Tryz.prog 44 = some 2 := by kernel_rfl
theorem tt56 : inTab Tryz.prog 44 = true := by kernel_rfl
theorem t0_56 : zeroOf Tryz.prog 44 = some (.agg #[.int .i64 0, .int .i64 0]) := by kernel_rfl
theorem ti56 : (Tryz.prog.info? 44).map (fun i => Nat.ble i.bytes 65536) = some true := by kernel_rfl
theorem tv56 : (zeroOf Tryz.prog 44).isSome = true := by kernel_rfl
theorem tz57 : szOf Tryz.prog 45 = some 5 := by kernel_rfl
theorem tt57 : inTab Tryz.prog 45 = true := by kernel_rfl
theorem t0_57 : zeroOf Tryz.prog 45 = some (.agg #[.int .i64 0, .int .i64 0, .int .i64 0, .int .i64 0, .int .i64 0]) := by kernel_rfl
theorem tz58 : szOf Tryz.prog 46 = some 5 := by kernel_rfl
theorem tt58 : inTab Tryz.prog 46 = true := by kernel_rfl
theorem t0_58 : zeroOf Tryz.prog 46 = some (.agg #[.int .i64 0, .int .i64 0, .int .i64 0, .int .i64 0, .int .i64 0]) := by kernel_rfl
/-- What is known of the types. -/
theorem TY_EvA1 : type_of% (And.intro (And.intro (And.intro (And.intro (And.intro Tryz.underlying3 tz3) (And.intro tt3 t0_3)) (And.intro (And.intro Tryz.underlying59 tz44) (And.intro tt44 (And.intro t0_44 Tryz.underlying60)))) (And.intro (And.intro (And.intro tz45 tt45) (And.intro t0_45 Tryz.underlying62)) (And.intro (And.intro tz51 tt51) (And.intro t0_51 (And.intro Tryz.underlying63 tz52))))) (And.intro (And.intro (And.intro (And.intro tt52 t0_52) (And.intro Tryz.underlying43 tz55)) (And.intro (And.intro tt55 t0_55) (And.intro Tryz.underlying44 (And.intro tz56 tt56)))) (And.intro (And.intro (And.intro t0_56 Tryz.underlying45) (And.intro tz57 tt57)) (And.intro (And.intro t0_57 Tryz.underlying46) (And.intro tz58 (And.intro tt58 t0_58)))))) := (And.intro (And.intro (And.intro (And.intro (And.intro Tryz.underlying3 tz3) (And.intro tt3 t0_3)) (And.intro (And.intro Tryz.underlying59 tz44) (And.intro tt44 (And.intro t0_44 Tryz.underlying60)))) (And.intro (And.intro (And.intro tz45 tt45) (And.intro t0_45 Tryz.underlying62)) (And.intro (And.intro tz51 tt51) (And.intro t0_51 (And.intro Tryz.underlying63 tz52))))) (And.intro (And.intro (And.intro (And.intro tt52 t0_52) (And.intro Tryz.underlying43 tz55)) (And.intro (And.intro tt55 t0_55) (And.intro Tryz.underlying44 (And.intro tz56 tt56)))) (And.intro (And.intro (And.intro t0_56 Tryz.underlying45) (And.intro tz57 tt57)) (And.intro (And.intro t0_57 Tryz.underlying46) (And.intro tz58 (And.intro tt58 t0_58))))))

instance : Inhabited K := ⟨⟨0, 0, 0⟩⟩
instance : Flat K := ⟨[.i64, .i64, .i64], K.row, fun _ => rfl⟩
structure Ar where
  f : Int
  l : Int
instance : Inhabited Ar := ⟨⟨0, 0⟩⟩
instance : Flat Ar := ⟨[.i64, .i64], fun x => [x.f, x.l], fun _ => rfl⟩
structure Sp where
  lo : Int
  hi : Int
instance : Inhabited Sp := ⟨⟨0, 0⟩⟩
instance : Flat Sp := ⟨[.i64, .i64], fun x => [x.lo, x.hi], fun _ => rfl⟩
structure Mk where
  f : Int
  l : Int
  t : Int
  s : Int
  b : Int
instance : Inhabited Mk := ⟨⟨0, 0, 0, 0, 0⟩⟩
instance : Flat Mk := ⟨[.i64, .i64, .i64, .i64, .i64], fun x => [x.f, x.l, x.t, x.s, x.b], fun _ => rfl⟩
theorem sur_K (ns : List Int) (h : ns.length = 3) : ∃ x : K, Flat.fl x = ns := match ns, h with | [a, b, c], _ => ⟨⟨a, b, c⟩, rfl⟩
def r118 (a b c d e : Int) (set : Int) (f s l : Int) : Bool := (if (cnt (andV set e)) ≤ f then decide ((cnt (notV d set)) ≤ s) else false)
set_option maxHeartbeats 2000000 in
theorem c118 (a b c d e : Int) (set : Int) (f s l : Int)  (S : AS)  :
    ∃ S', (evL Tryz.prog E0).call 76 #[.agg #[.int .i64 a, .int .i64 b, .int .i64 c, .int .i64 d, .int .i64 e], .int .i64 set, .agg #[.int .i64 f, .int .i64 s, .int .i64 l]] S = some (.bool (r118 a b c d e set f s l), S') ∧ Agree S S' := by
  generalize hz : (evL Tryz.prog E0).call 76 _ _ = z
  rw [L_call, evCall_said rfl Tryz.func76 rfl (by decide) Tryz.ntmps76 Tryz.results76] at hz
  obtain ⟨S1, e1, n1, b1, a1⟩ := push_open S (.cells [.int .i64 a, .int .i64 b, .int .i64 c, .int .i64 d, .int .i64 e] 46 0 true true)
  have g1 : Agree S S1 := a1
  have s1 : E0.same S S1 = true := symEnv_same a1
  obtain ⟨S2, e2, n2, b2, a2⟩ := push_open S1 (.cells [.int .i64 f, .int .i64 s, .int .i64 l] 60 0 true true)
  have v1_2 := (a2.2 S.next (by omega)).trans b1
  have g2 : Agree S S2 := g1.trans a2
  have s2 : E0.same S1 S2 = true := symEnv_same a2
  try simp (disch := first | omega | assumption) only [E0_G, SY, setArgs, off, agreeKind, partVals, vals, allocV, boxed, ldA, rdCells, oneB, aggD, aField, aFieldV, aExtract, eq_self, ne_eq, if_true, if_false, not_false_eq_true, Nat.reduceAdd, Nat.reduceSub, Nat.reduceMul, Nat.reduceLT, Nat.reduceEqDiff, Nat.reduceBEq, reduceIte, Int.reduceEq, Int.reduceLT, Int.reduceLE, reduceCtorEq, TY_EvA1, and_fold, or_fold, not_fold, s1, e1, b1, v1_2, s2, e2, b2] at hz
  rw [code_draws _ _ _ (by kernel_rfl)] at hz
  generalize hnd3 : needy _ = nd3 at hz
  have k4 := c136 (andV set e) S2
  try simp (disch := first | omega | assumption) only [E0_G, SY, setArgs, off, agreeKind, partVals, vals, allocV, boxed, ldA, rdCells, oneB, aggD, aField, aFieldV, aExtract, eq_self, ne_eq, if_true, if_false, not_false_eq_true, Nat.reduceAdd, Nat.reduceSub, Nat.reduceMul, Nat.reduceLT, Nat.reduceEqDiff, Nat.reduceBEq, reduceIte, Int.reduceEq, Int.reduceLT, Int.reduceLE, reduceCtorEq, TY_EvA1, and_fold, or_fold, not_fold, s1, e1, b1, v1_2, s2, e2, b2, store_agree, store_refl E0_same, k4] at hz
  rcases dP ((cnt (andV set e)) ≤ f) with ⟨h5a, h5⟩ | ⟨h5a, h5⟩
  · skip
    have k6 := c136 (notV d set) S2
    try simp (disch := first | omega | assumption) only [E0_G, SY, setArgs, off, agreeKind, partVals, vals, allocV, boxed, ldA, rdCells, oneB, aggD, aField, aFieldV, aExtract, eq_self, ne_eq, if_true, if_false, not_false_eq_true, Nat.reduceAdd, Nat.reduceSub, Nat.reduceMul, Nat.reduceLT, Nat.reduceEqDiff, Nat.reduceBEq, reduceIte, Int.reduceEq, Int.reduceLT, Int.reduceLE, reduceCtorEq, TY_EvA1, and_fold, or_fold, not_fold, s1, e1, b1, v1_2, s2, e2, b2, store_agree, store_refl E0_same, k4, h5a, k6] at hz
    have hr : r118 a b c d e set f s l = decide ((cnt (notV d set)) ≤ s) := (if_pos h5).trans (rfl)
    exact fin hz (by rw [hr]) g2
  · skip
    try simp (disch := first | omega | assumption) only [E0_G, SY, setArgs, off, agreeKind, partVals, vals, allocV, boxed, ldA, rdCells, oneB, aggD, aField, aFieldV, aExtract, eq_self, ne_eq, if_true, if_false, not_false_eq_true, Nat.reduceAdd, Nat.reduceSub, Nat.reduceMul, Nat.reduceLT, Nat.reduceEqDiff, Nat.reduceBEq, reduceIte, Int.reduceEq, Int.reduceLT, Int.reduceLE, reduceCtorEq, TY_EvA1, and_fold, or_fold, not_fold, s1, e1, b1, v1_2, s2, e2, b2, store_agree, store_refl E0_same, k4, h5a] at hz
    have hr : r118 a b c d e set f s l = false := (if_neg h5).trans (rfl)
    exact fin hz (by rw [hr]) g2

end Great
end Go.Proofs
end
section
/-
  The great seat of stage 1: lists, by the generator.
-/
set_option linter.unusedSimpArgs false
set_option linter.unusedVariables false
namespace Go.Proofs
namespace Great
open Go Go.RowKit Go.Aev
set_option maxRecDepth 100000
theorem tz22 : szOf Tryz.prog 22 = some 1 := by kernel_rfl
theorem tt22 : inTab Tryz.prog 22 = true := by kernel_rfl
theorem t0_22 : zeroOf Tryz.prog 22 = some (.slice none 0 0) := by kernel_rfl
theorem tz43 : szOf Tryz.prog 56 = some 1 := by kernel_rfl
theorem tt43 : inTab Tryz.prog 56 = true := by kernel_rfl
theorem t0_43 : zeroOf Tryz.prog 56 = some (.slice none 0 0) := by kernel_rfl
theorem tz77 : szOf Tryz.prog 66 = some 1 := by kernel_rfl
theorem tt77 : inTab Tryz.prog 66 = true := by kernel_rfl
theorem t0_77 : zeroOf Tryz.prog 66 = some (.slice none 0 0) := by kernel_rfl
theorem tz80 : szOf Tryz.prog 73 = some 1 := by kernel_rfl
theorem tt80 : inTab Tryz.prog 73 = true := by kernel_rfl
theorem t0_80 : zeroOf Tryz.prog 73 = some (.slice none 0 0) := by kernel_rfl
theorem tz123 : szOf Tryz.prog 76 = some 2 := by kernel_rfl
theorem tt123 : inTab Tryz.prog 76 = true := by kernel_rfl
theorem t0_123 : zeroOf Tryz.prog 76 = some (.agg #[.int .i64 0, .int .i64 0]) := by kernel_rfl
theorem ti123 : (Tryz.prog.info? 76).map (fun i => Nat.ble i.bytes 65536) = some true := by kernel_rfl
theorem tv123 : (zeroOf Tryz.prog 76).isSome = true := by kernel_rfl
end Great
end Go.Proofs
end
