/-
  BA: EvA1, EvA2.
-/
import Derived.Test.YtgbjgljchkodjaaDoorBP
import Derived.Test.YtgbjgljchkodjaaDoorAE4
section
/-
  The great seat of stage 1: marks and keys, by the generator.
-/
set_option linter.unusedSimpArgs false
set_option linter.unusedVariables false
namespace Go.Proofs
namespace Great
open Go Go.RowKit Go.Aev
set_option maxRecDepth 100000
theorem tz3 : szOf Tryd.prog 3 = some 1 := by kernel_rfl
theorem tt3 : inTab Tryd.prog 3 = true := by kernel_rfl
theorem t0_3 : zeroOf Tryd.prog 3 = some (.int .i64 0) := by kernel_rfl
theorem tz44 : szOf Tryd.prog 40 = some 3 := by kernel_rfl
theorem tt44 : inTab Tryd.prog 40 = true := by kernel_rfl
theorem t0_44 : zeroOf Tryd.prog 40 = some (.agg #[.int .i64 0, .int .i64 0, .int .i64 0]) := by kernel_rfl
theorem tz45 : szOf Tryd.prog 41 = some 3 := by kernel_rfl
theorem tt45 : inTab Tryd.prog 41 = true := by kernel_rfl
theorem t0_45 : zeroOf Tryd.prog 41 = some (.agg #[.int .i64 0, .int .i64 0, .int .i64 0]) := by kernel_rfl
theorem tz51 : szOf Tryd.prog 45 = some 3 := by kernel_rfl
theorem tt51 : inTab Tryd.prog 45 = true := by kernel_rfl
theorem t0_51 : zeroOf Tryd.prog 45 = some (.agg #[.int .i64 0, .int .i64 0, .int .i64 0]) := by kernel_rfl
theorem tz52 : szOf Tryd.prog 46 = some 3 := by kernel_rfl
theorem tt52 : inTab Tryd.prog 46 = true := by kernel_rfl
theorem t0_52 : zeroOf Tryd.prog 46 = some (.agg #[.int .i64 0, .int .i64 0, .int .i64 0]) := by kernel_rfl
theorem tz55 : szOf Tryd.prog 29 = some 2 := by kernel_rfl
theorem tt55 : inTab Tryd.prog 29 = true := by kernel_rfl
theorem t0_55 : zeroOf Tryd.prog 29 = some (.agg #[.int .i64 0, .int .i64 0]) := by kernel_rfl
theorem tz56 : szOf Tryd.prog 30 = some 2 := by kernel_rfl
theorem tt56 : inTab Tryd.prog 30 = true := by kernel_rfl
theorem t0_56 : zeroOf Tryd.prog 30 = some (.agg #[.int .i64 0, .int .i64 0]) := by kernel_rfl
theorem ti56 : (Tryd.prog.info? 30).map (fun i => Nat.ble i.bytes 65536) = some true := by kernel_rfl
theorem tv56 : (zeroOf Tryd.prog 30).isSome = true := by kernel_rfl
theorem tz57 : szOf Tryd.prog 38 = some 5 := by kernel_rfl
theorem tt57 : inTab Tryd.prog 38 = true := by kernel_rfl
theorem t0_57 : zeroOf Tryd.prog 38 = some (.agg #[.int .i64 0, .int .i64 0, .int .i64 0, .int .i64 0, .int .i64 0]) := by kernel_rfl
theorem tz58 : szOf Tryd.prog 39 = some 5 := by kernel_rfl
theorem tt58 : inTab Tryd.prog 39 = true := by kernel_rfl
theorem t0_58 : zeroOf Tryd.prog 39 = some (.agg #[.int .i64 0, .int .i64 0, .int .i64 0, .int .i64 0, .int .i64 0]) := by kernel_rfl
/-- What is known of the types. -/
theorem TY_EvA1 : type_of% (And.intro (And.intro (And.intro (And.intro (And.intro Tryd.underlying3 tz3) (And.intro tt3 t0_3)) (And.intro (And.intro Tryd.underlying40 tz44) (And.intro tt44 (And.intro t0_44 Tryd.underlying41)))) (And.intro (And.intro (And.intro tz45 tt45) (And.intro t0_45 Tryd.underlying45)) (And.intro (And.intro tz51 tt51) (And.intro t0_51 (And.intro Tryd.underlying46 tz52))))) (And.intro (And.intro (And.intro (And.intro tt52 t0_52) (And.intro Tryd.underlying29 tz55)) (And.intro (And.intro tt55 t0_55) (And.intro Tryd.underlying30 (And.intro tz56 tt56)))) (And.intro (And.intro (And.intro t0_56 Tryd.underlying38) (And.intro tz57 tt57)) (And.intro (And.intro t0_57 Tryd.underlying39) (And.intro tz58 (And.intro tt58 t0_58)))))) := (And.intro (And.intro (And.intro (And.intro (And.intro Tryd.underlying3 tz3) (And.intro tt3 t0_3)) (And.intro (And.intro Tryd.underlying40 tz44) (And.intro tt44 (And.intro t0_44 Tryd.underlying41)))) (And.intro (And.intro (And.intro tz45 tt45) (And.intro t0_45 Tryd.underlying45)) (And.intro (And.intro tz51 tt51) (And.intro t0_51 (And.intro Tryd.underlying46 tz52))))) (And.intro (And.intro (And.intro (And.intro tt52 t0_52) (And.intro Tryd.underlying29 tz55)) (And.intro (And.intro tt55 t0_55) (And.intro Tryd.underlying30 (And.intro tz56 tt56)))) (And.intro (And.intro (And.intro t0_56 Tryd.underlying38) (And.intro tz57 tt57)) (And.intro (And.intro t0_57 Tryd.underlying39) (And.intro tz58 (And.intro tt58 t0_58))))))

instance : Inhabited K := ⟨⟨0, 0, 0⟩⟩
instance : Flat K := ⟨[.i64, .i64, .i64], K.row, fun _ => rfl⟩
structure Ar where
  f : Int
  l : Int
instance : Inhabited Ar := ⟨⟨0, 0⟩⟩
instance : Flat Ar := ⟨[.i64, .i64], fun x => [x.f, x.l], fun _ => rfl⟩
structure Sp where
  lo : Int
  hi : Int
instance : Inhabited Sp := ⟨⟨0, 0⟩⟩
instance : Flat Sp := ⟨[.i64, .i64], fun x => [x.lo, x.hi], fun _ => rfl⟩
structure Mk where
  f : Int
  l : Int
  t : Int
  s : Int
  b : Int
instance : Inhabited Mk := ⟨⟨0, 0, 0, 0, 0⟩⟩
instance : Flat Mk := ⟨[.i64, .i64, .i64, .i64, .i64], fun x => [x.f, x.l, x.t, x.s, x.b], fun _ => rfl⟩
theorem sur_Ar (ns : List Int) (h : ns.length = 2) : ∃ x : Ar, Flat.fl x = ns := match ns, h with | [a, b], _ => ⟨⟨a, b⟩, rfl⟩
def r118 (a b c d e : Int) (set : Int) (f s l : Int) : Bool := (if (cnt (andV set e)) ≤ f then decide ((cnt (notV d set)) ≤ s) else false)
def r117 (a b c d e : Int) (i t p : Int) (f s l : Int) : Bool := (if t = c then (r118 a b c d e p f s l) else false)
def r92 (x y : Int) (by_ : Int) : (Int × Int) := (if 43199 ≤ (IntKind.i64.wrap (y + (IntKind.i64.wrap (2 * by_)))) then (0, 43199) else (angle (IntKind.i64.wrap (x - by_)), IntKind.i64.wrap (y + (IntKind.i64.wrap (2 * by_)))))
set_option maxHeartbeats 2000000 in
theorem c92 (x y : Int) (by_ : Int)  (S : AS)  (ht : Tab S) :
    ∃ S', (evL Tryd.prog E0).call 29 #[.agg #[.int .i64 x, .int .i64 y], .int .i64 by_] S = some (.agg #[.int .i64 ((r92 x y by_).1), .int .i64 ((r92 x y by_).2)], S') ∧ Agree S S' := by
  generalize hz : (evL Tryd.prog E0).call 29 _ _ = z
  rw [L_call, evCall_said rfl Tryd.func29 rfl (by decide) Tryd.ntmps29 Tryd.results29] at hz
  obtain ⟨S1, e1, n1, b1, a1⟩ := push_open S (.cells [.int .i64 x, .int .i64 y] 30 0 true true)
  have g1 : Agree S S1 := a1
  have s1 : E0.same S S1 = true := symEnv_same a1
  obtain ⟨S2, e2, n2, b2, a2⟩ := push_open S1 (.cells [.int .i64 0, .int .i64 0] 30 0 true true)
  have v1_2 := (a2.2 S.next (by omega)).trans b1
  have g2 : Agree S S2 := g1.trans a2
  have s2 : E0.same S1 S2 = true := symEnv_same a2
  have t3 := (ht.agree g2).2
  try simp (disch := first | omega | assumption) only [E0_G, SY, setArgs, off, agreeKind, partVals, vals, allocV, boxed, ldA, rdCells, oneB, aggD, aField, aFieldV, aExtract, eq_self, ne_eq, if_true, if_false, not_false_eq_true, Nat.reduceAdd, Nat.reduceSub, Nat.reduceMul, Nat.reduceLT, Nat.reduceEqDiff, Nat.reduceBEq, reduceIte, Int.reduceEq, Int.reduceLT, Int.reduceLE, reduceCtorEq, TY_EvA1, and_fold, or_fold, not_fold, s1, e1, b1, v1_2, s2, e2, b2, t3] at hz
  rcases dP (43199 ≤ (IntKind.i64.wrap (y + (IntKind.i64.wrap (2 * by_))))) with ⟨h4a, h4⟩ | ⟨h4a, h4⟩
  · skip
    have t5 := (ht.agree g2).2
    obtain ⟨S6, k6, n6, b6, q6⟩ := st_at (o := 0) (c' := [.int .i64 0, .int .i64 43199]) (v := .agg #[.int .i64 0, .int .i64 43199]) tz56 b2 rfl rfl (show 0 + 2 ≤ 2 by decide) rfl
    have v1_6 := (q6 S.next (by omega)).trans v1_2
    have g6 : Agree S S6 := ⟨by have := (g2).1; omega, fun id hid => (q6 id (by have := (g2).1; omega)).trans ((g2).2 id hid)⟩
    try simp (disch := first | omega | assumption) only [E0_G, SY, setArgs, off, agreeKind, partVals, vals, allocV, boxed, ldA, rdCells, oneB, aggD, aField, aFieldV, aExtract, eq_self, ne_eq, if_true, if_false, not_false_eq_true, Nat.reduceAdd, Nat.reduceSub, Nat.reduceMul, Nat.reduceLT, Nat.reduceEqDiff, Nat.reduceBEq, reduceIte, Int.reduceEq, Int.reduceLT, Int.reduceLE, reduceCtorEq, TY_EvA1, and_fold, or_fold, not_fold, s1, e1, b1, v1_2, s2, e2, b2, t3, h4a, t5, v1_6, k6, b6] at hz
    have hr : r92 x y by_ = (0, 43199) := (if_pos h4).trans (rfl)
    exact fin hz (by rw [hr]) g6
  · skip
    have k7 := c76 (IntKind.i64.wrap (x - by_)) S2
    have y8 : aBuild Tryd.prog 30 [(0, .int .i64 (angle (IntKind.i64.wrap (x - by_)))), (1, .int .i64 (IntKind.i64.wrap (y + (IntKind.i64.wrap (2 * by_)))))] = some (.agg #[.int .i64 (angle (IntKind.i64.wrap (x - by_))), .int .i64 (IntKind.i64.wrap (y + (IntKind.i64.wrap (2 * by_))))]) := by kernel_rfl
    obtain ⟨S9, k9, n9, b9, q9⟩ := st_at (o := 0) (c' := [.int .i64 (angle (IntKind.i64.wrap (x - by_))), .int .i64 (IntKind.i64.wrap (y + (IntKind.i64.wrap (2 * by_))))]) (v := .agg #[.int .i64 (angle (IntKind.i64.wrap (x - by_))), .int .i64 (IntKind.i64.wrap (y + (IntKind.i64.wrap (2 * by_))))]) tz56 b2 rfl rfl (show 0 + 2 ≤ 2 by decide) rfl
    have v1_9 := (q9 S.next (by omega)).trans v1_2
    have g9 : Agree S S9 := ⟨by have := (g2).1; omega, fun id hid => (q9 id (by have := (g2).1; omega)).trans ((g2).2 id hid)⟩
    try simp (disch := first | omega | assumption) only [E0_G, SY, setArgs, off, agreeKind, partVals, vals, allocV, boxed, ldA, rdCells, oneB, aggD, aField, aFieldV, aExtract, eq_self, ne_eq, if_true, if_false, not_false_eq_true, Nat.reduceAdd, Nat.reduceSub, Nat.reduceMul, Nat.reduceLT, Nat.reduceEqDiff, Nat.reduceBEq, reduceIte, Int.reduceEq, Int.reduceLT, Int.reduceLE, reduceCtorEq, TY_EvA1, and_fold, or_fold, not_fold, s1, e1, b1, v1_2, s2, e2, b2, t3, h4a, k7, y8, v1_9, k9, b9] at hz
    have hr : r92 x y by_ = (angle (IntKind.i64.wrap (x - by_)), IntKind.i64.wrap (y + (IntKind.i64.wrap (2 * by_)))) := (if_neg h4).trans (rfl)
    exact fin hz (by rw [hr]) g9

def r94 (x y : Int) (by_ : Int) : (Int × Int) := (if 43199 ≤ (IntKind.i64.wrap (y + (IntKind.i64.wrap (2 * by_)))) then (0, 43199) else (angle (IntKind.i64.wrap (x - by_)), IntKind.i64.wrap (y + (IntKind.i64.wrap (2 * by_)))))
end Great
end Go.Proofs
end
section
/-
  The great seat of stage 1: lists, by the generator.
-/
set_option linter.unusedSimpArgs false
set_option linter.unusedVariables false
namespace Go.Proofs
namespace Great
open Go Go.RowKit Go.Aev
set_option maxRecDepth 100000
theorem tz22 : szOf Tryd.prog 22 = some 1 := by kernel_rfl
theorem tt22 : inTab Tryd.prog 22 = true := by kernel_rfl
theorem t0_22 : zeroOf Tryd.prog 22 = some (.slice none 0 0) := by kernel_rfl
theorem tz43 : szOf Tryd.prog 37 = some 1 := by kernel_rfl
theorem tt43 : inTab Tryd.prog 37 = true := by kernel_rfl
theorem t0_43 : zeroOf Tryd.prog 37 = some (.slice none 0 0) := by kernel_rfl
theorem tz77 : szOf Tryd.prog 42 = some 1 := by kernel_rfl
theorem tt77 : inTab Tryd.prog 42 = true := by kernel_rfl
theorem t0_77 : zeroOf Tryd.prog 42 = some (.slice none 0 0) := by kernel_rfl
theorem tz123 : szOf Tryd.prog 109 = some 2 := by kernel_rfl
theorem tt123 : inTab Tryd.prog 109 = true := by kernel_rfl
theorem t0_123 : zeroOf Tryd.prog 109 = some (.agg #[.int .i64 0, .int .i64 0]) := by kernel_rfl
/-- What is known of the types. -/
theorem TY_EvA2 : type_of% (And.intro (And.intro (And.intro (And.intro (And.intro Tryd.underlying3 (And.intro tz3 tt3)) (And.intro t0_3 (And.intro Tryd.underlying22 tz22))) (And.intro (And.intro tt22 (And.intro t0_22 Tryd.underlying37)) (And.intro (And.intro tz43 tt43) (And.intro t0_43 Tryd.underlying40)))) (And.intro (And.intro (And.intro tz44 (And.intro tt44 t0_44)) (And.intro Tryd.underlying41 (And.intro tz45 tt45))) (And.intro (And.intro t0_45 (And.intro Tryd.underlying45 tz51)) (And.intro (And.intro tt51 t0_51) (And.intro Tryd.underlying46 tz52))))) (And.intro (And.intro (And.intro (And.intro tt52 (And.intro t0_52 Tryd.underlying29)) (And.intro tz55 (And.intro tt55 t0_55))) (And.intro (And.intro Tryd.underlying30 (And.intro tz56 tt56)) (And.intro (And.intro t0_56 Tryd.underlying38) (And.intro tz57 tt57)))) (And.intro (And.intro (And.intro t0_57 (And.intro Tryd.underlying39 tz58)) (And.intro tt58 (And.intro t0_58 Tryd.underlying42))) (And.intro (And.intro tz77 (And.intro tt77 t0_77)) (And.intro (And.intro Tryd.underlying109 tz123) (And.intro tt123 t0_123)))))) := (And.intro (And.intro (And.intro (And.intro (And.intro Tryd.underlying3 (And.intro tz3 tt3)) (And.intro t0_3 (And.intro Tryd.underlying22 tz22))) (And.intro (And.intro tt22 (And.intro t0_22 Tryd.underlying37)) (And.intro (And.intro tz43 tt43) (And.intro t0_43 Tryd.underlying40)))) (And.intro (And.intro (And.intro tz44 (And.intro tt44 t0_44)) (And.intro Tryd.underlying41 (And.intro tz45 tt45))) (And.intro (And.intro t0_45 (And.intro Tryd.underlying45 tz51)) (And.intro (And.intro tt51 t0_51) (And.intro Tryd.underlying46 tz52))))) (And.intro (And.intro (And.intro (And.intro tt52 (And.intro t0_52 Tryd.underlying29)) (And.intro tz55 (And.intro tt55 t0_55))) (And.intro (And.intro Tryd.underlying30 (And.intro tz56 tt56)) (And.intro (And.intro t0_56 Tryd.underlying38) (And.intro tz57 tt57)))) (And.intro (And.intro (And.intro t0_57 (And.intro Tryd.underlying39 tz58)) (And.intro tt58 (And.intro t0_58 Tryd.underlying42))) (And.intro (And.intro tz77 (And.intro tt77 t0_77)) (And.intro (And.intro Tryd.underlying109 tz123) (And.intro tt123 t0_123))))))
def R22_0 (a : List Ar) (b : List Ar)  : List Ar → Nat → Sum (Bool) (Unit)
  | [], i => .inr ()
  | x4 :: l', i => (if x4.f = (lget b i).f ∧ x4.l = (lget b i).l then R22_0 a b l' (i + 1) else .inl false)
def r22 (a : List Ar) (b : List Ar) : Bool := (if (a.length : Int) = (b.length : Int) then (onSum (R22_0 a b a 0) (fun (r4 : Bool) => r4) (fun (_ : Unit) => true)) else false)
set_option maxHeartbeats 2000000 in
theorem c22 (a : List Ar) (b : List Ar) (hn : a.length ≤ 100000) (S : AS) (v_a : Value) (hv_a : Lst S v_a a) (v_b : Value) (hv_b : Lst S v_b b) :
    ∃ S', (evL Tryd.prog E0).call 14 #[v_a, v_b] S = some (.bool (r22 a b), S') ∧ Agree S S' := by
  generalize hz : (evL Tryd.prog E0).call 14 _ _ = z
  rw [L_call, evCall_said rfl Tryd.func14 rfl (by decide) Tryd.ntmps14 Tryd.results14] at hz
  have w1 := (hv_a).len (P := Tryd.prog) (t := 22) Tryd.underlying22
  have w2 := (hv_b).len (P := Tryd.prog) (t := 22) Tryd.underlying22
  try simp (disch := first | omega | assumption) only [E0_G, SY, setArgs, off, agreeKind, partVals, vals, allocV, boxed, ldA, rdCells, oneB, aggD, aField, aFieldV, aExtract, eq_self, ne_eq, if_true, if_false, not_false_eq_true, Nat.reduceAdd, Nat.reduceSub, Nat.reduceMul, Nat.reduceLT, Nat.reduceEqDiff, Nat.reduceBEq, reduceIte, Int.reduceEq, Int.reduceLT, Int.reduceLE, reduceCtorEq, TY_EvA2, and_fold, or_fold, not_fold, w1, w2] at hz
  rcases dP ((a.length : Int) = (b.length : Int)) with ⟨h3a, h3⟩ | ⟨h3a, h3⟩
  · skip
    try simp (disch := first | omega | assumption) only [E0_G, SY, setArgs, off, agreeKind, partVals, vals, allocV, boxed, ldA, rdCells, oneB, aggD, aField, aFieldV, aExtract, eq_self, ne_eq, if_true, if_false, not_false_eq_true, Nat.reduceAdd, Nat.reduceSub, Nat.reduceMul, Nat.reduceLT, Nat.reduceEqDiff, Nat.reduceBEq, reduceIte, Int.reduceEq, Int.reduceLT, Int.reduceLE, reduceCtorEq, TY_EvA2, and_fold, or_fold, not_fold, w1, w2, h3a] at hz
    generalize hL4 : Rec.loop _ _ _ _ = L4 at hz
    obtain ⟨x4, t4, S4e, rfl, hQ4⟩ := loop_met hL4 (fun m t S' => ∃ (i : Nat), m + i = a.length ∧ i ≤ a.length ∧ t.get 0 = some (v_a) ∧ t.get 1 = some (v_b) ∧ t.get 5 = some (.int .i64 (i : Int)) ∧ Agree S S' ∧ S.next ≤ S'.next ∧ R22_0 a b (a.drop i) i = R22_0 a b a 0)
      (fun x t S' => (x = .exit 0 ∧ ∃ (i : Nat), Agree S S' ∧ S.next ≤ S'.next ∧ i ≤ a.length ∧ R22_0 a b a 0 = .inr ()) ∨ (x = .ret ∧ ∃ (r4 : Bool), t.get 4 = some (.bool r4) ∧ Agree S S' ∧ R22_0 a b a 0 = .inl (r4))) (a.length - 0) ⟨0, by first | rfl | omega | (simp; omega) | simp, by first | rfl | omega | (simp; omega) | simp, by simp only [SY, setArgs, off, agreeKind, partVals, vals, allocV, boxed, ldA, rdCells, oneB, aggD, aField, aFieldV, aExtract, eq_self, ne_eq, if_true, if_false, not_false_eq_true, Nat.reduceAdd, Nat.reduceSub, Nat.reduceMul, Nat.reduceLT, Nat.reduceEqDiff, Nat.reduceBEq, reduceIte, Int.reduceEq, Int.reduceLT, Int.reduceLE, reduceCtorEq] <;> rfl, by simp only [SY, setArgs, off, agreeKind, partVals, vals, allocV, boxed, ldA, rdCells, oneB, aggD, aField, aFieldV, aExtract, eq_self, ne_eq, if_true, if_false, not_false_eq_true, Nat.reduceAdd, Nat.reduceSub, Nat.reduceMul, Nat.reduceLT, Nat.reduceEqDiff, Nat.reduceBEq, reduceIte, Int.reduceEq, Int.reduceLT, Int.reduceLE, reduceCtorEq] <;> rfl, by simp only [SY, setArgs, off, agreeKind, partVals, vals, allocV, boxed, ldA, rdCells, oneB, aggD, aField, aFieldV, aExtract, eq_self, ne_eq, if_true, if_false, not_false_eq_true, Nat.reduceAdd, Nat.reduceSub, Nat.reduceMul, Nat.reduceLT, Nat.reduceEqDiff, Nat.reduceBEq, reduceIte, Int.reduceEq, Int.reduceLT, Int.reduceLE, reduceCtorEq] <;> rfl, (Agree.refl S), Nat.le_refl _, rfl⟩ (by
        rintro m t S4 ⟨i, hi4_0, hi4_1, g4_0, g4_1, g4_5, ga4, gn4, hd4⟩
        refine .run fun z he => ?_
        have w5 := (hv_a.agree ga4).len (P := Tryd.prog) (t := 22) Tryd.underlying22
        try simp (disch := first | omega | assumption) only [E0_G, SY, setArgs, off, agreeKind, partVals, vals, allocV, boxed, ldA, rdCells, oneB, aggD, aField, aFieldV, aExtract, eq_self, ne_eq, if_true, if_false, not_false_eq_true, Nat.reduceAdd, Nat.reduceSub, Nat.reduceMul, Nat.reduceLT, Nat.reduceEqDiff, Nat.reduceBEq, reduceIte, Int.reduceEq, Int.reduceLT, Int.reduceLE, reduceCtorEq, TY_EvA2, and_fold, or_fold, not_fold, g4_0, g4_1, g4_5, w1, w2, h3a, w5] at he
        rcases dP ((i : Int) < (a.length : Int)) with ⟨h6a, h6⟩ | ⟨h6a, h6⟩
        · skip
          try simp (disch := first | omega | assumption) only [E0_G, SY, setArgs, off, agreeKind, partVals, vals, allocV, boxed, ldA, rdCells, oneB, aggD, aField, aFieldV, aExtract, eq_self, ne_eq, if_true, if_false, not_false_eq_true, Nat.reduceAdd, Nat.reduceSub, Nat.reduceMul, Nat.reduceLT, Nat.reduceEqDiff, Nat.reduceBEq, reduceIte, Int.reduceEq, Int.reduceLT, Int.reduceLE, reduceCtorEq, TY_EvA2, and_fold, or_fold, not_fold, g4_0, g4_1, g4_5, w1, w2, h3a, w5, h6a] at he
          rw [code_draws _ _ _ (by kernel_rfl)] at he
          generalize hnd7 : needy _ = nd7 at he
          have hx4 : a[i]? = some (a[i]'(by first | omega | simp; omega)) := List.getElem?_eq_getElem _
          generalize a[i]'_ = x4 at hx4
          obtain ⟨id8, of8, cc8, ty8, wr8, ex8, i8, j8, l8, q8⟩ := (hv_a).at (P := Tryd.prog) (t := 22) Tryd.underlying22 tz56 hx4
          have j8 := (ga4.2 id8 l8).trans j8
          have m8_0 : cc8[of8]? = some (.int .i64 x4.f) := q8 0 (show 0 < 2 by decide)
          have m8_1 : cc8[of8 + 1]? = some (.int .i64 x4.l) := q8 1 (show 1 < 2 by decide)
          have hx9 : b[i]? = some (lget b i) := lget_some (by first | omega | simp; omega)
          obtain ⟨id9, of9, cc9, ty9, wr9, ex9, i9, j9, l9, q9⟩ := (hv_b).at (P := Tryd.prog) (t := 22) Tryd.underlying22 tz56 hx9
          have j9 := (ga4.2 id9 l9).trans j9
          have m9_0 : cc9[of9]? = some (.int .i64 ((lget b i).f)) := q9 0 (show 0 < 2 by decide)
          have m9_1 : cc9[of9 + 1]? = some (.int .i64 ((lget b i).l)) := q9 1 (show 1 < 2 by decide)
          have y10 : aEqAgg Tryd.prog 30 (.agg #[.int .i64 x4.f, .int .i64 x4.l]) (.agg #[.int .i64 ((lget b i).f), .int .i64 ((lget b i).l)]) = some (decide (x4.f = (lget b i).f ∧ x4.l = (lget b i).l)) := (show _ = some (decide (x4.f = (lget b i).f) && (decide (x4.l = (lget b i).l) && true)) by kernel_rfl).trans (congrArg some (by simp only [Bool.and_true, ← Bool.decide_and, and_assoc]))
          try simp (disch := first | omega | assumption) only [E0_G, SY, setArgs, off, agreeKind, partVals, vals, allocV, boxed, ldA, rdCells, oneB, aggD, aField, aFieldV, aExtract, eq_self, ne_eq, if_true, if_false, not_false_eq_true, Nat.reduceAdd, Nat.reduceSub, Nat.reduceMul, Nat.reduceLT, Nat.reduceEqDiff, Nat.reduceBEq, reduceIte, Int.reduceEq, Int.reduceLT, Int.reduceLE, reduceCtorEq, TY_EvA2, and_fold, or_fold, not_fold, g4_0, g4_1, g4_5, w1, w2, h3a, w5, h6a, store_agree, store_refl E0_same, i8, j8, m8_0, m8_1, i9, j9, m9_0, m9_1, y10] at he
          rcases dP (x4.f = (lget b i).f ∧ x4.l = (lget b i).l) with ⟨h11a, h11⟩ | ⟨h11a, h11⟩
          · skip
            have w12 : IntKind.i64.wrap ((i : Int) + 1) = ((i + 1 : Nat) : Int) := by rw [IntWalk.i64_in] <;> omega
            try simp (disch := first | omega | assumption) only [E0_G, SY, setArgs, off, agreeKind, partVals, vals, allocV, boxed, ldA, rdCells, oneB, aggD, aField, aFieldV, aExtract, eq_self, ne_eq, if_true, if_false, not_false_eq_true, Nat.reduceAdd, Nat.reduceSub, Nat.reduceMul, Nat.reduceLT, Nat.reduceEqDiff, Nat.reduceBEq, reduceIte, Int.reduceEq, Int.reduceLT, Int.reduceLE, reduceCtorEq, TY_EvA2, and_fold, or_fold, not_fold, g4_0, g4_1, g4_5, w1, w2, h3a, w5, h6a, store_agree, store_refl E0_same, i8, j8, m8_0, m8_1, i9, j9, m9_0, m9_1, y10, h11a, w12] at he
            rw [drop_cons' hx4] at hd4
            have hf := (show _ = (R22_0 a b (a.drop (i + 1)) (i + 1) : Sum (Bool) (Unit)) from (if_pos h11).trans (rfl)).symm.trans hd4
            exact .next he (m - 1) (by omega) ⟨(i + 1), by first | omega | (simp; omega) | simp, by first | omega | (simp; omega) | simp, (by simp only [SY, setArgs, off, agreeKind, partVals, vals, allocV, boxed, ldA, rdCells, oneB, aggD, aField, aFieldV, aExtract, eq_self, ne_eq, if_true, if_false, not_false_eq_true, Nat.reduceAdd, Nat.reduceSub, Nat.reduceMul, Nat.reduceLT, Nat.reduceEqDiff, Nat.reduceBEq, reduceIte, Int.reduceEq, Int.reduceLT, Int.reduceLE, reduceCtorEq, g4_0, g4_1, g4_5] <;> rfl), (by simp only [SY, setArgs, off, agreeKind, partVals, vals, allocV, boxed, ldA, rdCells, oneB, aggD, aField, aFieldV, aExtract, eq_self, ne_eq, if_true, if_false, not_false_eq_true, Nat.reduceAdd, Nat.reduceSub, Nat.reduceMul, Nat.reduceLT, Nat.reduceEqDiff, Nat.reduceBEq, reduceIte, Int.reduceEq, Int.reduceLT, Int.reduceLE, reduceCtorEq, g4_0, g4_1, g4_5] <;> rfl), (by simp only [SY, setArgs, off, agreeKind, partVals, vals, allocV, boxed, ldA, rdCells, oneB, aggD, aField, aFieldV, aExtract, eq_self, ne_eq, if_true, if_false, not_false_eq_true, Nat.reduceAdd, Nat.reduceSub, Nat.reduceMul, Nat.reduceLT, Nat.reduceEqDiff, Nat.reduceBEq, reduceIte, Int.reduceEq, Int.reduceLT, Int.reduceLE, reduceCtorEq, g4_0, g4_1, g4_5] <;> rfl), ga4, by omega, hf⟩
          · skip
            try simp (disch := first | omega | assumption) only [E0_G, SY, setArgs, off, agreeKind, partVals, vals, allocV, boxed, ldA, rdCells, oneB, aggD, aField, aFieldV, aExtract, eq_self, ne_eq, if_true, if_false, not_false_eq_true, Nat.reduceAdd, Nat.reduceSub, Nat.reduceMul, Nat.reduceLT, Nat.reduceEqDiff, Nat.reduceBEq, reduceIte, Int.reduceEq, Int.reduceLT, Int.reduceLE, reduceCtorEq, TY_EvA2, and_fold, or_fold, not_fold, g4_0, g4_1, g4_5, w1, w2, h3a, w5, h6a, store_agree, store_refl E0_same, i8, j8, m8_0, m8_1, i9, j9, m9_0, m9_1, y10, h11a] at he
            rw [drop_cons' hx4] at hd4
            have hf := (show _ = (.inl false : Sum (Bool) (Unit)) from (if_neg h11).trans (rfl)).symm.trans hd4
            exact .ret he (.inr ⟨rfl, ⟨false, (by simp only [SY, setArgs, off, agreeKind, partVals, vals, allocV, boxed, ldA, rdCells, oneB, aggD, aField, aFieldV, aExtract, eq_self, ne_eq, if_true, if_false, not_false_eq_true, Nat.reduceAdd, Nat.reduceSub, Nat.reduceMul, Nat.reduceLT, Nat.reduceEqDiff, Nat.reduceBEq, reduceIte, Int.reduceEq, Int.reduceLT, Int.reduceLE, reduceCtorEq, g4_0, g4_1, g4_5] <;> rfl), ga4, hf.symm⟩⟩)
        · skip
          try simp (disch := first | omega | assumption) only [E0_G, SY, setArgs, off, agreeKind, partVals, vals, allocV, boxed, ldA, rdCells, oneB, aggD, aField, aFieldV, aExtract, eq_self, ne_eq, if_true, if_false, not_false_eq_true, Nat.reduceAdd, Nat.reduceSub, Nat.reduceMul, Nat.reduceLT, Nat.reduceEqDiff, Nat.reduceBEq, reduceIte, Int.reduceEq, Int.reduceLT, Int.reduceLE, reduceCtorEq, TY_EvA2, and_fold, or_fold, not_fold, g4_0, g4_1, g4_5, w1, w2, h3a, w5, h6a] at he
          rw [List.drop_eq_nil_of_le (by omega)] at hd4
          have hf := (show _ = (.inr () : Sum (Bool) (Unit)) from rfl).symm.trans hd4
          exact .exit he (.inl ⟨rfl, ⟨i, ga4, by omega, by first | omega | assumption | simp, hf.symm⟩⟩))
    rcases hQ4 with ⟨rfl, hQ4⟩ | ⟨rfl, hQ4⟩
    · skip
      obtain ⟨i, ge4, gm4, hj4_0, hR4⟩ := hQ4
      try simp (disch := first | omega | assumption) only [E0_G, SY, setArgs, off, agreeKind, partVals, vals, allocV, boxed, ldA, rdCells, oneB, aggD, aField, aFieldV, aExtract, eq_self, ne_eq, if_true, if_false, not_false_eq_true, Nat.reduceAdd, Nat.reduceSub, Nat.reduceMul, Nat.reduceLT, Nat.reduceEqDiff, Nat.reduceBEq, reduceIte, Int.reduceEq, Int.reduceLT, Int.reduceLE, reduceCtorEq, TY_EvA2, and_fold, or_fold, not_fold, w1, w2, h3a] at hz
      have hr : r22 a b = true := (if_pos h3).trans ((onSum_inr hR4).trans (rfl))
      exact fin hz (by rw [hr]) ge4
    · skip
      obtain ⟨r4, ge4_4, ge4, hR4⟩ := hQ4
      try simp (disch := first | omega | assumption) only [E0_G, SY, setArgs, off, agreeKind, partVals, vals, allocV, boxed, ldA, rdCells, oneB, aggD, aField, aFieldV, aExtract, eq_self, ne_eq, if_true, if_false, not_false_eq_true, Nat.reduceAdd, Nat.reduceSub, Nat.reduceMul, Nat.reduceLT, Nat.reduceEqDiff, Nat.reduceBEq, reduceIte, Int.reduceEq, Int.reduceLT, Int.reduceLE, reduceCtorEq, TY_EvA2, and_fold, or_fold, not_fold, w1, w2, h3a, ge4_4] at hz
      have hr : r22 a b = r4 := (if_pos h3).trans ((onSum_inl hR4).trans (rfl))
      exact fin hz (by rw [hr]) ge4
  · skip
    try simp (disch := first | omega | assumption) only [E0_G, SY, setArgs, off, agreeKind, partVals, vals, allocV, boxed, ldA, rdCells, oneB, aggD, aField, aFieldV, aExtract, eq_self, ne_eq, if_true, if_false, not_false_eq_true, Nat.reduceAdd, Nat.reduceSub, Nat.reduceMul, Nat.reduceLT, Nat.reduceEqDiff, Nat.reduceBEq, reduceIte, Int.reduceEq, Int.reduceLT, Int.reduceLE, reduceCtorEq, TY_EvA2, and_fold, or_fold, not_fold, w1, w2, h3a] at hz
    have hr : r22 a b = false := (if_neg h3).trans (rfl)
    exact fin hz (by rw [hr]) (Agree.refl S)

def r61 (i t p : Int) (a b c d e : Int) (f s l : Int) : List Ar × Int := (if (errV (KeyOk i t p)) = 0 then (if (errV (MarkOk a b c d e)) = 0 then (if (errV (InkOk f s l)) = 0 then (if (r117 a b c d e i t p f s l) = true then ([(⟨((r92 a b l)).1, ((r92 a b l)).2⟩ : Ar)], 0) else ([], 0)) else ([], 1)) else ([], 1)) else ([], 1))
end Great
end Go.Proofs
end
