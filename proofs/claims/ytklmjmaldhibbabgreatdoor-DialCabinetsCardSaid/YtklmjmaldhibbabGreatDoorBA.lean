/-
  BA: EvB1, EvMB.
-/
import Derived.Test.YtklmjmaldhibbabGreatDoorBP
import Derived.Test.YtklmjmaldhibbabGreatDoorAE4
section
/-
  The great seat of stage 1: DialCabinets, by the generator.
-/
set_option linter.unusedSimpArgs false
set_option linter.unusedVariables false
namespace Go.Proofs
namespace Great
open Go Go.RowKit Go.Aev
set_option maxRecDepth 100000
theorem tz3 : szOf Tryz.prog 3 = some 1 := by kernel_rfl
theorem tt3 : inTab Tryz.prog 3 = true := by kernel_rfl
theorem t0_3 : zeroOf Tryz.prog 3 = some (.int .i64 0) := by kernel_rfl
theorem ti3 : (Tryz.prog.info? 3).map (fun i => Nat.ble i.bytes 65536) = some true := by kernel_rfl
theorem tv3 : (zeroOf Tryz.prog 3).isSome = true := by kernel_rfl
theorem tz22 : szOf Tryz.prog 51 = some 1 := by kernel_rfl
theorem tt22 : inTab Tryz.prog 51 = true := by kernel_rfl
theorem t0_22 : zeroOf Tryz.prog 51 = some (.slice none 0 0) := by kernel_rfl
theorem ti22 : (Tryz.prog.info? 51).map (fun i => Nat.ble i.bytes 65536) = some true := by kernel_rfl
theorem tv22 : (zeroOf Tryz.prog 51).isSome = true := by kernel_rfl
theorem tz43 : szOf Tryz.prog 31 = some 1 := by kernel_rfl
theorem tt43 : inTab Tryz.prog 31 = true := by kernel_rfl
theorem t0_43 : zeroOf Tryz.prog 31 = some (.slice none 0 0) := by kernel_rfl
theorem ti43 : (Tryz.prog.info? 31).map (fun i => Nat.ble i.bytes 65536) = some true := by kernel_rfl
theorem tv43 : (zeroOf Tryz.prog 31).isSome = true := by kernel_rfl
theorem tz44 : szOf Tryz.prog 34 = some 3 := by kernel_rfl
theorem tt44 : inTab Tryz.prog 34 = true := by kernel_rfl
theorem t0_44 : zeroOf Tryz.prog 34 = some (.agg #[.int .i64 0, .int .i64 0, .int .i64 0]) := by kernel_rfl
theorem ti44 : (Tryz.prog.info? 34).map (fun i => Nat.ble i.bytes 65536) = some true := by kernel_rfl
theorem tv44 : (zeroOf Tryz.prog 34).isSome = true := by kernel_rfl
theorem tz45 : szOf Tryz.prog 35 = some 3 := by kernel_rfl
theorem tt45 : inTab Tryz.prog 35 = true := by kernel_rfl
theorem t0_45 : zeroOf Tryz.prog 35 = some (.agg #[.int .i64 0, .int .i64 0, .int .i64 0]) := by kernel_rfl
theorem ti45 : (Tryz.prog.info? 35).map (fun i => Nat.ble i.bytes 65536) = some true := by kernel_rfl
theorem tv45 : (zeroOf Tryz.prog 35).isSome = true := by kernel_rfl
theorem tz51 : szOf Tryz.prog 37 = some 3 := by kernel_rfl
theorem tt51 : inTab Tryz.prog 37 = true := by kernel_rfl
theorem t0_51 : zeroOf Tryz.prog 37 = some (.agg #[.int .i64 0, .int .i64 0, .int .i64 0]) := by kernel_rfl
theorem ti51 : (Tryz.prog.info? 37).map (fun i => Nat.ble i.bytes 65536) = some true := by kernel_rfl
theorem tv51 : (zeroOf Tryz.prog 37).isSome = true := by kernel_rfl
theorem tz52 : szOf Tryz.prog 38 = some 3 := by kernel_rfl
theorem tt52 : inTab Tryz.prog 38 = true := by kernel_rfl
theorem t0_52 : zeroOf Tryz.prog 38 = some (.agg #[.int .i64 0, .int .i64 0, .int .i64 0]) := by kernel_rfl
theorem ti52 : (Tryz.prog.info? 38).map (fun i => Nat.ble i.bytes 65536) = some true := by kernel_rfl
theorem tv52 : (zeroOf Tryz.prog 38).isSome = true := by kernel_rfl
theorem tz55 : szOf Tryz.prog 40 = some 2 := by kernel_rfl
theorem tt55 : inTab Tryz.prog 40 = true := by kernel_rfl
theorem t0_55 : zeroOf Tryz.prog 40 = some (.agg #[.int .i64 0, .int .i64 0]) := by kernel_rfl
theorem ti55 : (Tryz.prog.info? 40).map (fun i => Nat.ble i.bytes 65536) = some true := by kernel_rfl
theorem tv55 : (zeroOf Tryz.prog 40).isSome = true := by kernel_rfl
theorem tz56 : szOf Tryz.prog 41 = some 2 := by kernel_rfl
theorem tt56 : inTab Tryz.prog 41 = true := by kernel_rfl
theorem t0_56 : zeroOf Tryz.prog 41 = some (.agg #[.int .i64 0, .int .i64 0]) := by kernel_rfl
theorem ti56 : (Tryz.prog.info? 41).map (fun i => Nat.ble i.bytes 65536) = some true := by kernel_rfl
theorem tv56 : (zeroOf Tryz.prog 41).isSome = true := by kernel_rfl
theorem tz57 : szOf Tryz.prog 42 = some 5 := by kernel_rfl
theorem tt57 : inTab Tryz.prog 42 = true := by kernel_rfl
theorem t0_57 : zeroOf Tryz.prog 42 = some (.agg #[.int .i64 0, .int .i64 0, .int .i64 0, .int .i64 0, .int .i64 0]) := by kernel_rfl
theorem ti57 : (Tryz.prog.info? 42).map (fun i => Nat.ble i.bytes 65536) = some true := by kernel_rfl
theorem tv57 : (zeroOf Tryz.prog 42).isSome = true := by kernel_rfl
theorem tz58 : szOf Tryz.prog 43 = some 5 := by kernel_rfl
theorem tt58 : inTab Tryz.prog 43 = true := by kernel_rfl
theorem t0_58 : zeroOf Tryz.prog 43 = some (.agg #[.int .i64 0, .int .i64 0, .int .i64 0, .int .i64 0, .int .i64 0]) := by kernel_rfl
theorem ti58 : (Tryz.prog.info? 43).map (fun i => Nat.ble i.bytes 65536) = some true := by kernel_rfl
theorem tv58 : (zeroOf Tryz.prog 43).isSome = true := by kernel_rfl
theorem tz77 : szOf Tryz.prog 48 = some 1 := by kernel_rfl
theorem tt77 : inTab Tryz.prog 48 = true := by kernel_rfl
theorem t0_77 : zeroOf Tryz.prog 48 = some (.slice none 0 0) := by kernel_rfl
theorem ti77 : (Tryz.prog.info? 48).map (fun i => Nat.ble i.bytes 65536) = some true := by kernel_rfl
theorem tv77 : (zeroOf Tryz.prog 48).isSome = true := by kernel_rfl
theorem tz80 : szOf Tryz.prog 58 = some 1 := by kernel_rfl
theorem tt80 : inTab Tryz.prog 58 = true := by kernel_rfl
theorem t0_80 : zeroOf Tryz.prog 58 = some (.slice none 0 0) := by kernel_rfl
theorem ti80 : (Tryz.prog.info? 58).map (fun i => Nat.ble i.bytes 65536) = some true := by kernel_rfl
theorem tv80 : (zeroOf Tryz.prog 58).isSome = true := by kernel_rfl
theorem tz123 : szOf Tryz.prog 61 = some 2 := by kernel_rfl
theorem tt123 : inTab Tryz.prog 61 = true := by kernel_rfl
theorem t0_123 : zeroOf Tryz.prog 61 = some (.agg #[.int .i64 0, .int .i64 0]) := by kernel_rfl
theorem ti123 : (Tryz.prog.info? 61).map (fun i => Nat.ble i.bytes 65536) = some true := by kernel_rfl
theorem tv123 : (zeroOf Tryz.prog 61).isSome = true := by kernel_rfl
/-- What is known of the types. -/
theorem TY_EvB1 : type_of% (And.intro (And.intro (And.intro (And.intro (And.intro Tryz.underlying3 (And.intro tz3 tt3)) (And.intro (And.intro t0_3 Tryz.underlying51) (And.intro tz22 tt22))) (And.intro (And.intro t0_22 (And.intro Tryz.underlying31 tz43)) (And.intro (And.intro tt43 t0_43) (And.intro Tryz.underlying34 tz44)))) (And.intro (And.intro (And.intro tt44 (And.intro t0_44 Tryz.underlying35)) (And.intro (And.intro tz45 tt45) (And.intro t0_45 Tryz.underlying37))) (And.intro (And.intro tz51 (And.intro tt51 t0_51)) (And.intro (And.intro Tryz.underlying38 tz52) (And.intro tt52 t0_52))))) (And.intro (And.intro (And.intro (And.intro Tryz.underlying40 (And.intro tz55 tt55)) (And.intro (And.intro t0_55 Tryz.underlying41) (And.intro tz56 tt56))) (And.intro (And.intro t0_56 (And.intro Tryz.underlying42 tz57)) (And.intro (And.intro tt57 t0_57) (And.intro Tryz.underlying43 tz58)))) (And.intro (And.intro (And.intro tt58 (And.intro t0_58 Tryz.underlying48)) (And.intro (And.intro tz77 tt77) (And.intro t0_77 Tryz.underlying58))) (And.intro (And.intro tz80 (And.intro tt80 t0_80)) (And.intro (And.intro Tryz.underlying61 tz123) (And.intro tt123 t0_123)))))) := (And.intro (And.intro (And.intro (And.intro (And.intro Tryz.underlying3 (And.intro tz3 tt3)) (And.intro (And.intro t0_3 Tryz.underlying51) (And.intro tz22 tt22))) (And.intro (And.intro t0_22 (And.intro Tryz.underlying31 tz43)) (And.intro (And.intro tt43 t0_43) (And.intro Tryz.underlying34 tz44)))) (And.intro (And.intro (And.intro tt44 (And.intro t0_44 Tryz.underlying35)) (And.intro (And.intro tz45 tt45) (And.intro t0_45 Tryz.underlying37))) (And.intro (And.intro tz51 (And.intro tt51 t0_51)) (And.intro (And.intro Tryz.underlying38 tz52) (And.intro tt52 t0_52))))) (And.intro (And.intro (And.intro (And.intro Tryz.underlying40 (And.intro tz55 tt55)) (And.intro (And.intro t0_55 Tryz.underlying41) (And.intro tz56 tt56))) (And.intro (And.intro t0_56 (And.intro Tryz.underlying42 tz57)) (And.intro (And.intro tt57 t0_57) (And.intro Tryz.underlying43 tz58)))) (And.intro (And.intro (And.intro tt58 (And.intro t0_58 Tryz.underlying48)) (And.intro (And.intro tz77 tt77) (And.intro t0_77 Tryz.underlying58))) (And.intro (And.intro tz80 (And.intro tt80 t0_80)) (And.intro (And.intro Tryz.underlying61 tz123) (And.intro tt123 t0_123))))))

instance : Inhabited K := ⟨⟨0, 0, 0⟩⟩
instance : Flat K := ⟨[.i64, .i64, .i64], K.row, fun _ => rfl⟩
structure Ar where
  f : Int
  l : Int
instance : Inhabited Ar := ⟨⟨0, 0⟩⟩
instance : Flat Ar := ⟨[.i64, .i64], fun x => [x.f, x.l], fun _ => rfl⟩
structure Sp where
  lo : Int
  hi : Int
instance : Inhabited Sp := ⟨⟨0, 0⟩⟩
instance : Flat Sp := ⟨[.i64, .i64], fun x => [x.lo, x.hi], fun _ => rfl⟩
structure Mk where
  f : Int
  l : Int
  t : Int
  s : Int
  b : Int
instance : Inhabited Mk := ⟨⟨0, 0, 0, 0, 0⟩⟩
instance : Flat Mk := ⟨[.i64, .i64, .i64, .i64, .i64], fun x => [x.f, x.l, x.t, x.s, x.b], fun _ => rfl⟩
theorem sur_K (ns : List Int) (h : ns.length = 3) : ∃ x : K, Flat.fl x = ns := match ns, h with | [a, b, c], _ => ⟨⟨a, b, c⟩, rfl⟩
theorem sur_Ar (ns : List Int) (h : ns.length = 2) : ∃ x : Ar, Flat.fl x = ns := match ns, h with | [a, b], _ => ⟨⟨a, b⟩, rfl⟩
theorem sur_Sp (ns : List Int) (h : ns.length = 2) : ∃ x : Sp, Flat.fl x = ns := match ns, h with | [a, b], _ => ⟨⟨a, b⟩, rfl⟩
theorem sur_Mk (ns : List Int) (h : ns.length = 5) : ∃ x : Mk, Flat.fl x = ns := match ns, h with | [a, b, c, d, e], _ => ⟨⟨a, b, c, d, e⟩, rfl⟩

def r118 (a b c d e : Int) (set : Int) (f s l : Int) : Bool := (if (cnt (andV set e)) ≤ f then decide ((cnt (notV d set)) ≤ s) else false)
set_option maxHeartbeats 2000000 in
theorem c118 (a b c d e : Int) (set : Int) (f s l : Int)  (S : AS)  :
    ∃ S', (evL Tryz.prog E0).call 51 #[.agg #[.int .i64 a, .int .i64 b, .int .i64 c, .int .i64 d, .int .i64 e], .int .i64 set, .agg #[.int .i64 f, .int .i64 s, .int .i64 l]] S = some (.bool (r118 a b c d e set f s l), S') ∧ Agree S S' := by
  generalize hz : (evL Tryz.prog E0).call 51 _ _ = z
  rw [L_call, evCall_said rfl Tryz.func51 rfl (by decide) Tryz.ntmps51 Tryz.results51] at hz
  obtain ⟨S1, e1, n1, b1, a1⟩ := push_open S (.cells [.int .i64 a, .int .i64 b, .int .i64 c, .int .i64 d, .int .i64 e] 43 0 true true)
  have g1 : Agree S S1 := a1
  have s1 : E0.same S S1 = true := symEnv_same a1
  obtain ⟨S2, e2, n2, b2, a2⟩ := push_open S1 (.cells [.int .i64 f, .int .i64 s, .int .i64 l] 35 0 true true)
  have v1_2 := (a2.2 S.next (by omega)).trans b1
  have g2 : Agree S S2 := g1.trans a2
  have s2 : E0.same S1 S2 = true := symEnv_same a2
  try simp (disch := first | omega | assumption) only [E0_G, SY, setArgs, off, agreeKind, partVals, vals, allocV, boxed, ldA, rdCells, oneB, aggD, aField, aFieldV, aExtract, eq_self, ne_eq, if_true, if_false, not_false_eq_true, Nat.reduceAdd, Nat.reduceSub, Nat.reduceMul, Nat.reduceLT, Nat.reduceEqDiff, Nat.reduceBEq, reduceIte, Int.reduceEq, Int.reduceLT, Int.reduceLE, reduceCtorEq, TY_EvB1, and_fold, or_fold, not_fold, s1, e1, b1, v1_2, s2, e2, b2] at hz
  rw [code_draws _ _ _ (by kernel_rfl)] at hz
  generalize hnd3 : needy _ = nd3 at hz
  have k4 := c136 (andV set e) S2
  try simp (disch := first | omega | assumption) only [E0_G, SY, setArgs, off, agreeKind, partVals, vals, allocV, boxed, ldA, rdCells, oneB, aggD, aField, aFieldV, aExtract, eq_self, ne_eq, if_true, if_false, not_false_eq_true, Nat.reduceAdd, Nat.reduceSub, Nat.reduceMul, Nat.reduceLT, Nat.reduceEqDiff, Nat.reduceBEq, reduceIte, Int.reduceEq, Int.reduceLT, Int.reduceLE, reduceCtorEq, TY_EvB1, and_fold, or_fold, not_fold, s1, e1, b1, v1_2, s2, e2, b2, store_agree, store_refl E0_same, k4] at hz
  rcases dP ((cnt (andV set e)) ≤ f) with ⟨h5a, h5⟩ | ⟨h5a, h5⟩
  · skip
    have k6 := c136 (notV d set) S2
    try simp (disch := first | omega | assumption) only [E0_G, SY, setArgs, off, agreeKind, partVals, vals, allocV, boxed, ldA, rdCells, oneB, aggD, aField, aFieldV, aExtract, eq_self, ne_eq, if_true, if_false, not_false_eq_true, Nat.reduceAdd, Nat.reduceSub, Nat.reduceMul, Nat.reduceLT, Nat.reduceEqDiff, Nat.reduceBEq, reduceIte, Int.reduceEq, Int.reduceLT, Int.reduceLE, reduceCtorEq, TY_EvB1, and_fold, or_fold, not_fold, s1, e1, b1, v1_2, s2, e2, b2, store_agree, store_refl E0_same, k4, h5a, k6] at hz
    have hr : r118 a b c d e set f s l = decide ((cnt (notV d set)) ≤ s) := (if_pos h5).trans (rfl)
    exact fin hz (by rw [hr]) g2
  · skip
    try simp (disch := first | omega | assumption) only [E0_G, SY, setArgs, off, agreeKind, partVals, vals, allocV, boxed, ldA, rdCells, oneB, aggD, aField, aFieldV, aExtract, eq_self, ne_eq, if_true, if_false, not_false_eq_true, Nat.reduceAdd, Nat.reduceSub, Nat.reduceMul, Nat.reduceLT, Nat.reduceEqDiff, Nat.reduceBEq, reduceIte, Int.reduceEq, Int.reduceLT, Int.reduceLE, reduceCtorEq, TY_EvB1, and_fold, or_fold, not_fold, s1, e1, b1, v1_2, s2, e2, b2, store_agree, store_refl E0_same, k4, h5a] at hz
    have hr : r118 a b c d e set f s l = false := (if_neg h5).trans (rfl)
    exact fin hz (by rw [hr]) g2

def r117 (a b c d e : Int) (i t p : Int) (f s l : Int) : Bool := (if t = c then (r118 a b c d e p f s l) else false)
set_option maxHeartbeats 2000000 in
theorem c117 (a b c d e : Int) (i t p : Int) (f s l : Int)  (S : AS)  :
    ∃ S', (evL Tryz.prog E0).call 48 #[.agg #[.int .i64 a, .int .i64 b, .int .i64 c, .int .i64 d, .int .i64 e], .agg #[.int .i64 i, .int .i64 t, .int .i64 p], .agg #[.int .i64 f, .int .i64 s, .int .i64 l]] S = some (.bool (r117 a b c d e i t p f s l), S') ∧ Agree S S' := by
  generalize hz : (evL Tryz.prog E0).call 48 _ _ = z
  rw [L_call, evCall_said rfl Tryz.func48 rfl (by decide) Tryz.ntmps48 Tryz.results48] at hz
  obtain ⟨S1, e1, n1, b1, a1⟩ := push_open S (.cells [.int .i64 a, .int .i64 b, .int .i64 c, .int .i64 d, .int .i64 e] 43 0 true true)
  have g1 : Agree S S1 := a1
  have s1 : E0.same S S1 = true := symEnv_same a1
  obtain ⟨S2, e2, n2, b2, a2⟩ := push_open S1 (.cells [.int .i64 i, .int .i64 t, .int .i64 p] 38 0 true true)
  have v1_2 := (a2.2 S.next (by omega)).trans b1
  have g2 : Agree S S2 := g1.trans a2
  have s2 : E0.same S1 S2 = true := symEnv_same a2
  obtain ⟨S3, e3, n3, b3, a3⟩ := push_open S2 (.cells [.int .i64 f, .int .i64 s, .int .i64 l] 35 0 true true)
  have v1_3 := (a3.2 S.next (by omega)).trans v1_2
  have v2_3 := (a3.2 S1.next (by omega)).trans b2
  have g3 : Agree S S3 := g2.trans a3
  have s3 : E0.same S2 S3 = true := symEnv_same a3
  try simp (disch := first | omega | assumption) only [E0_G, SY, setArgs, off, agreeKind, partVals, vals, allocV, boxed, ldA, rdCells, oneB, aggD, aField, aFieldV, aExtract, eq_self, ne_eq, if_true, if_false, not_false_eq_true, Nat.reduceAdd, Nat.reduceSub, Nat.reduceMul, Nat.reduceLT, Nat.reduceEqDiff, Nat.reduceBEq, reduceIte, Int.reduceEq, Int.reduceLT, Int.reduceLE, reduceCtorEq, TY_EvB1, and_fold, or_fold, not_fold, s1, e1, b1, v1_2, s2, e2, b2, v1_3, v2_3, s3, e3, b3] at hz
  rcases dP (t = c) with ⟨h4a, h4⟩ | ⟨h4a, h4⟩
  · skip
    obtain ⟨S5, k5, a5⟩ := c118 a b c d e p f s l  S3  
    have l5 := a5.1
    have s5 : E0.same S3 S5 = true := symEnv_same a5
    have v1_5 := (a5.2 S.next (by omega)).trans v1_3
    have v2_5 := (a5.2 S1.next (by omega)).trans v2_3
    have v3_5 := (a5.2 S2.next (by omega)).trans b3
    have g5 : Agree S S5 := g3.trans a5
    try simp (disch := first | omega | assumption) only [E0_G, SY, setArgs, off, agreeKind, partVals, vals, allocV, boxed, ldA, rdCells, oneB, aggD, aField, aFieldV, aExtract, eq_self, ne_eq, if_true, if_false, not_false_eq_true, Nat.reduceAdd, Nat.reduceSub, Nat.reduceMul, Nat.reduceLT, Nat.reduceEqDiff, Nat.reduceBEq, reduceIte, Int.reduceEq, Int.reduceLT, Int.reduceLE, reduceCtorEq, TY_EvB1, and_fold, or_fold, not_fold, s1, e1, b1, v1_2, s2, e2, b2, v1_3, v2_3, s3, e3, b3, h4a, k5, s5, v1_5, v2_5, v3_5] at hz
    have hr : r117 a b c d e i t p f s l = (r118 a b c d e p f s l) := (if_pos h4).trans (rfl)
    exact fin hz (by rw [hr]) g5
  · skip
    try simp (disch := first | omega | assumption) only [E0_G, SY, setArgs, off, agreeKind, partVals, vals, allocV, boxed, ldA, rdCells, oneB, aggD, aField, aFieldV, aExtract, eq_self, ne_eq, if_true, if_false, not_false_eq_true, Nat.reduceAdd, Nat.reduceSub, Nat.reduceMul, Nat.reduceLT, Nat.reduceEqDiff, Nat.reduceBEq, reduceIte, Int.reduceEq, Int.reduceLT, Int.reduceLE, reduceCtorEq, TY_EvB1, and_fold, or_fold, not_fold, s1, e1, b1, v1_2, s2, e2, b2, v1_3, v2_3, s3, e3, b3, h4a] at hz
    have hr : r117 a b c d e i t p f s l = false := (if_neg h4).trans (rfl)
    exact fin hz (by rw [hr]) g3

def R59_0 (ks : List K) (a b c d e : Int) (f s l : Int)  : List K → List Int → (List Int)
  | [], o => o
  | x10 :: l', o => (if (r117 a b c d e x10.i x10.t x10.p f s l) = true then R59_0 ks a b c d e f s l l' (o ++ ([x10.i])) else R59_0 ks a b c d e f s l l' o)
def r59 (ks : List K) (a b c d e : Int) (f s l : Int) : List Int × Int := (if bunch ks = true then (if (errV (MarkOk a b c d e)) = 0 then (if (errV (InkOk f s l)) = 0 then (R59_0 ks a b c d e f s l ks ([]), 0) else ([], 1)) else ([], 1)) else ([], 1))
set_option maxHeartbeats 2000000 in
theorem c59 (ks : List K) (a b c d e : Int) (f s l : Int) (hn : ks.length ≤ 1000)  (S : AS) (v_ks : Value) (hv_ks : Lst S v_ks ks) (ht : Tab S) :
    ∃ v' S', (evL Tryz.prog E0).call 17 #[v_ks, .agg #[.int .i64 a, .int .i64 b, .int .i64 c, .int .i64 d, .int .i64 e], .agg #[.int .i64 f, .int .i64 s, .int .i64 l]] S = some (.tuple #[v', .int .i64 (r59 ks a b c d e f s l).2], S') ∧ Agree S S' ∧ Own 3 S.next S' v' (r59 ks a b c d e f s l).1 := by
  generalize hz : (evL Tryz.prog E0).call 17 _ _ = z
  rw [L_call, evCall_said rfl Tryz.func17 rfl (by decide) Tryz.ntmps17 Tryz.results17] at hz
  obtain ⟨S1, e1, n1, b1, a1⟩ := push_open S (.cells [.int .i64 a, .int .i64 b, .int .i64 c, .int .i64 d, .int .i64 e] 43 0 true true)
  have g1 : Agree S S1 := a1
  have s1 : E0.same S S1 = true := symEnv_same a1
  obtain ⟨S2, e2, n2, b2, a2⟩ := push_open S1 (.cells [.int .i64 f, .int .i64 s, .int .i64 l] 35 0 true true)
  have v1_2 := (a2.2 S.next (by omega)).trans b1
  have g2 : Agree S S2 := g1.trans a2
  have s2 : E0.same S1 S2 = true := symEnv_same a2
  obtain ⟨S3, k3, a3⟩ := c109 (ks : List K) (by omega) S2 (v_ks) (hv_ks.agree g2)
  have l3 := a3.1
  have s3 : E0.same S2 S3 = true := symEnv_same a3
  have v1_3 := (a3.2 S.next (by omega)).trans v1_2
  have v2_3 := (a3.2 S1.next (by omega)).trans b2
  have g3 : Agree S S3 := g2.trans a3
  try simp (disch := first | omega | assumption) only [E0_G, SY, setArgs, off, agreeKind, partVals, vals, allocV, boxed, ldA, rdCells, oneB, aggD, aField, aFieldV, aExtract, eq_self, ne_eq, if_true, if_false, not_false_eq_true, Nat.reduceAdd, Nat.reduceSub, Nat.reduceMul, Nat.reduceLT, Nat.reduceEqDiff, Nat.reduceBEq, reduceIte, Int.reduceEq, Int.reduceLT, Int.reduceLE, reduceCtorEq, TY_EvB1, and_fold, or_fold, not_fold, s1, e1, b1, v1_2, s2, e2, b2, k3, s3, v1_3, v2_3] at hz
  rcases dB (bunch ks) with ⟨h4a, h4⟩ | ⟨h4a, h4⟩
  · skip
    obtain ⟨S5, k5, a5⟩ := c54 a b c d e S3 (ht.agree g3) 
    have l5 := a5.1
    have s5 : E0.same S3 S5 = true := symEnv_same a5
    have v1_5 := (a5.2 S.next (by omega)).trans v1_3
    have v2_5 := (a5.2 S1.next (by omega)).trans v2_3
    have g5 : Agree S S5 := g3.trans a5
    try simp (disch := first | omega | assumption) only [E0_G, SY, setArgs, off, agreeKind, partVals, vals, allocV, boxed, ldA, rdCells, oneB, aggD, aField, aFieldV, aExtract, eq_self, ne_eq, if_true, if_false, not_false_eq_true, Nat.reduceAdd, Nat.reduceSub, Nat.reduceMul, Nat.reduceLT, Nat.reduceEqDiff, Nat.reduceBEq, reduceIte, Int.reduceEq, Int.reduceLT, Int.reduceLE, reduceCtorEq, TY_EvB1, and_fold, or_fold, not_fold, s1, e1, b1, v1_2, s2, e2, b2, k3, s3, v1_3, v2_3, h4a, k5, s5, v1_5, v2_5] at hz
    rcases dP ((errV (MarkOk a b c d e)) = 0) with ⟨h6a, h6⟩ | ⟨h6a, h6⟩
    · skip
      obtain ⟨S7, k7, a7⟩ := c36 f s l S5  
      have l7 := a7.1
      have s7 : E0.same S5 S7 = true := symEnv_same a7
      have v1_7 := (a7.2 S.next (by omega)).trans v1_5
      have v2_7 := (a7.2 S1.next (by omega)).trans v2_5
      have g7 : Agree S S7 := g5.trans a7
      try simp (disch := first | omega | assumption) only [E0_G, SY, setArgs, off, agreeKind, partVals, vals, allocV, boxed, ldA, rdCells, oneB, aggD, aField, aFieldV, aExtract, eq_self, ne_eq, if_true, if_false, not_false_eq_true, Nat.reduceAdd, Nat.reduceSub, Nat.reduceMul, Nat.reduceLT, Nat.reduceEqDiff, Nat.reduceBEq, reduceIte, Int.reduceEq, Int.reduceLT, Int.reduceLE, reduceCtorEq, TY_EvB1, and_fold, or_fold, not_fold, s1, e1, b1, v1_2, s2, e2, b2, k3, s3, v1_3, v2_3, h4a, k5, s5, v1_5, v2_5, h6a, k7, s7, v1_7, v2_7] at hz
      rcases dP ((errV (InkOk f s l)) = 0) with ⟨h8a, h8⟩ | ⟨h8a, h8⟩
      · skip
        have w9 := (hv_ks.agree g7).len (P := Tryz.prog) (t := 31) Tryz.underlying31
        try simp (disch := first | omega | assumption) only [E0_G, SY, setArgs, off, agreeKind, partVals, vals, allocV, boxed, ldA, rdCells, oneB, aggD, aField, aFieldV, aExtract, eq_self, ne_eq, if_true, if_false, not_false_eq_true, Nat.reduceAdd, Nat.reduceSub, Nat.reduceMul, Nat.reduceLT, Nat.reduceEqDiff, Nat.reduceBEq, reduceIte, Int.reduceEq, Int.reduceLT, Int.reduceLE, reduceCtorEq, TY_EvB1, and_fold, or_fold, not_fold, s1, e1, b1, v1_2, s2, e2, b2, k3, s3, v1_3, v2_3, h4a, k5, s5, v1_5, v2_5, h6a, k7, s7, v1_7, v2_7, h8a, w9] at hz
        generalize hL10 : Rec.loop _ _ _ _ = L10 at hz
        obtain ⟨x10, t10, S10e, rfl, hQ10⟩ := loop_met hL10 (fun m t S' => ∃ (j : Nat) (v_o : Value) (o : List Int), m + j = ks.length ∧ o.length ≤ j ∧ j ≤ ks.length ∧ t.get 4 = some (.pointer (some ⟨S.next, 0, none⟩)) ∧ t.get 5 = some (.pointer (some ⟨S1.next, 0, none⟩)) ∧ t.get 8 = some (v_o) ∧ t.get 24 = some (v_ks) ∧ t.get 25 = some (.int .i64 (ks.length : Int)) ∧ t.get 26 = some (.int .i64 (j : Int)) ∧ S'.heap.get S.next = some (.cells [.int .i64 a, .int .i64 b, .int .i64 c, .int .i64 d, .int .i64 e] 43 0 true true) ∧ S'.heap.get S1.next = some (.cells [.int .i64 f, .int .i64 s, .int .i64 l] 35 0 true true) ∧ Agree S S' ∧ S7.next ≤ S'.next ∧ Own 3 S7.next S' v_o o ∧ R59_0 ks a b c d e f s l (ks.drop j) o = R59_0 ks a b c d e f s l ks ([]))
          (fun x t S' => x = .exit 0 ∧ ∃ (j : Nat) (v_o : Value) (o : List Int), t.get 8 = some (v_o) ∧ S'.heap.get S.next = some (.cells [.int .i64 a, .int .i64 b, .int .i64 c, .int .i64 d, .int .i64 e] 43 0 true true) ∧ S'.heap.get S1.next = some (.cells [.int .i64 f, .int .i64 s, .int .i64 l] 35 0 true true) ∧ Agree S S' ∧ S7.next ≤ S'.next ∧ Own 3 S7.next S' v_o o ∧ o.length ≤ j ∧ j ≤ ks.length ∧ R59_0 ks a b c d e f s l ks ([]) = o) (ks.length - 0) ⟨0, .slice none 0 0, [], by first | rfl | omega | (simp; omega) | simp, by first | rfl | omega | (simp; omega) | simp, by first | rfl | omega | (simp; omega) | simp, by simp only [SY, setArgs, off, agreeKind, partVals, vals, allocV, boxed, ldA, rdCells, oneB, aggD, aField, aFieldV, aExtract, eq_self, ne_eq, if_true, if_false, not_false_eq_true, Nat.reduceAdd, Nat.reduceSub, Nat.reduceMul, Nat.reduceLT, Nat.reduceEqDiff, Nat.reduceBEq, reduceIte, Int.reduceEq, Int.reduceLT, Int.reduceLE, reduceCtorEq] <;> rfl, by simp only [SY, setArgs, off, agreeKind, partVals, vals, allocV, boxed, ldA, rdCells, oneB, aggD, aField, aFieldV, aExtract, eq_self, ne_eq, if_true, if_false, not_false_eq_true, Nat.reduceAdd, Nat.reduceSub, Nat.reduceMul, Nat.reduceLT, Nat.reduceEqDiff, Nat.reduceBEq, reduceIte, Int.reduceEq, Int.reduceLT, Int.reduceLE, reduceCtorEq] <;> rfl, by simp only [SY, setArgs, off, agreeKind, partVals, vals, allocV, boxed, ldA, rdCells, oneB, aggD, aField, aFieldV, aExtract, eq_self, ne_eq, if_true, if_false, not_false_eq_true, Nat.reduceAdd, Nat.reduceSub, Nat.reduceMul, Nat.reduceLT, Nat.reduceEqDiff, Nat.reduceBEq, reduceIte, Int.reduceEq, Int.reduceLT, Int.reduceLE, reduceCtorEq] <;> rfl, by simp only [SY, setArgs, off, agreeKind, partVals, vals, allocV, boxed, ldA, rdCells, oneB, aggD, aField, aFieldV, aExtract, eq_self, ne_eq, if_true, if_false, not_false_eq_true, Nat.reduceAdd, Nat.reduceSub, Nat.reduceMul, Nat.reduceLT, Nat.reduceEqDiff, Nat.reduceBEq, reduceIte, Int.reduceEq, Int.reduceLT, Int.reduceLE, reduceCtorEq] <;> rfl, by simp only [SY, setArgs, off, agreeKind, partVals, vals, allocV, boxed, ldA, rdCells, oneB, aggD, aField, aFieldV, aExtract, eq_self, ne_eq, if_true, if_false, not_false_eq_true, Nat.reduceAdd, Nat.reduceSub, Nat.reduceMul, Nat.reduceLT, Nat.reduceEqDiff, Nat.reduceBEq, reduceIte, Int.reduceEq, Int.reduceLT, Int.reduceLE, reduceCtorEq] <;> rfl, by simp only [SY, setArgs, off, agreeKind, partVals, vals, allocV, boxed, ldA, rdCells, oneB, aggD, aField, aFieldV, aExtract, eq_self, ne_eq, if_true, if_false, not_false_eq_true, Nat.reduceAdd, Nat.reduceSub, Nat.reduceMul, Nat.reduceLT, Nat.reduceEqDiff, Nat.reduceBEq, reduceIte, Int.reduceEq, Int.reduceLT, Int.reduceLE, reduceCtorEq] <;> rfl, v1_7, v2_7, g7, Nat.le_refl _, Own.nil _ _ _, rfl⟩ (by
            rintro m t S10 ⟨j, v_o, o, hi10_0, hi10_1, hi10_2, g10_4, g10_5, g10_8, g10_24, g10_25, g10_26, bb10_1, bb10_2, ga10, gn10, ow_o, hd10⟩
            refine .run fun z he => ?_
            try simp (disch := first | omega | assumption) only [E0_G, SY, setArgs, off, agreeKind, partVals, vals, allocV, boxed, ldA, rdCells, oneB, aggD, aField, aFieldV, aExtract, eq_self, ne_eq, if_true, if_false, not_false_eq_true, Nat.reduceAdd, Nat.reduceSub, Nat.reduceMul, Nat.reduceLT, Nat.reduceEqDiff, Nat.reduceBEq, reduceIte, Int.reduceEq, Int.reduceLT, Int.reduceLE, reduceCtorEq, TY_EvB1, and_fold, or_fold, not_fold, g10_4, g10_5, g10_8, g10_24, g10_25, g10_26, bb10_1, bb10_2, h4a, h6a, h8a, w9] at he
            rcases dP ((j : Int) < (ks.length : Int)) with ⟨h11a, h11⟩ | ⟨h11a, h11⟩
            · skip
              have hx10 : ks[j]? = some (ks[j]'(by first | omega | simp; omega)) := List.getElem?_eq_getElem _
              generalize ks[j]'_ = x10 at hx10
              obtain ⟨id12, of12, cc12, ty12, wr12, ex12, i12, j12, l12, q12⟩ := (hv_ks).at (P := Tryz.prog) (t := 31) Tryz.underlying31 tz52 hx10
              have j12 := (ga10.2 id12 l12).trans j12
              have m12_0 : cc12[of12]? = some (.int .i64 x10.i) := q12 0 (show 0 < 3 by decide)
              have m12_1 : cc12[of12 + 1]? = some (.int .i64 x10.t) := q12 1 (show 1 < 3 by decide)
              have m12_2 : cc12[of12 + 2]? = some (.int .i64 x10.p) := q12 2 (show 2 < 3 by decide)
              obtain ⟨S13, e13, n13, b13, a13⟩ := push_open S10 (.cells [.int .i64 0, .int .i64 0, .int .i64 0] 38 0 true true)
              have v1_13 := (a13.2 S.next (by omega)).trans bb10_1
              have v2_13 := (a13.2 S1.next (by omega)).trans bb10_2
              have v12_13 := (a13.2 id12 (by omega)).trans j12
              have ow_14 := ow_o.agree a13
              have g13 : Agree S S13 := ga10.trans a13
              have s13 : E0.same S10 S13 = true := symEnv_same a13
              have ne15 : blkOf (v_o) ≠ some S10.next := ow_o.new (Nat.le_refl _)
              obtain ⟨S16, k16, n16, b16, q16⟩ := st_at (o := 0) (c' := [.int .i64 x10.i, .int .i64 x10.t, .int .i64 x10.p]) (v := .agg #[.int .i64 x10.i, .int .i64 x10.t, .int .i64 x10.p]) tz52 b13 rfl rfl (show 0 + 3 ≤ 3 by decide) rfl
              have v1_16 := (q16 S.next (by omega)).trans v1_13
              have v2_16 := (q16 S1.next (by omega)).trans v2_13
              have v12_16 := (q16 id12 (by omega)).trans v12_13
              have ow_17 := ow_14.frame (by omega) (fun id hid hb => q16 id (fun e => (show blkOf (v_o) ≠ some S10.next from by first | exact ow_14.ne (by omega) | exact ow_14.new (by omega) | assumption) (e ▸ hb)))
              have g16 : Agree S S16 := ⟨by have := (g13).1; omega, fun id hid => (q16 id (by have := (g13).1; omega)).trans ((g13).2 id hid)⟩
              obtain ⟨S18, k18, a18⟩ := c117 a b c d e x10.i x10.t x10.p f s l  S16  
              have l18 := a18.1
              have s18 : E0.same S16 S18 = true := symEnv_same a18
              have v1_18 := (a18.2 S.next (by omega)).trans v1_16
              have v2_18 := (a18.2 S1.next (by omega)).trans v2_16
              have v12_18 := (a18.2 id12 (by omega)).trans v12_16
              have v13_18 := (a18.2 S10.next (by omega)).trans b16
              have ow_19 := ow_17.agree a18
              have g18 : Agree S S18 := g16.trans a18
              try simp (disch := first | omega | assumption) only [E0_G, SY, setArgs, off, agreeKind, partVals, vals, allocV, boxed, ldA, rdCells, oneB, aggD, aField, aFieldV, aExtract, eq_self, ne_eq, if_true, if_false, not_false_eq_true, Nat.reduceAdd, Nat.reduceSub, Nat.reduceMul, Nat.reduceLT, Nat.reduceEqDiff, Nat.reduceBEq, reduceIte, Int.reduceEq, Int.reduceLT, Int.reduceLE, reduceCtorEq, TY_EvB1, and_fold, or_fold, not_fold, g10_4, g10_5, g10_8, g10_24, g10_25, g10_26, bb10_1, bb10_2, h4a, h6a, h8a, w9, h11a, i12, j12, m12_0, m12_1, m12_2, v1_13, v2_13, v12_13, s13, e13, b13, v1_16, v2_16, v12_16, k16, b16, k18, s18, v1_18, v2_18, v12_18, v13_18] at he
              rcases dB ((r117 a b c d e x10.i x10.t x10.p f s l)) with ⟨h20a, h20⟩ | ⟨h20a, h20⟩
              · skip
                have y21 : aBuildSlice Tryz.prog 48 1 [(0, .int .i64 x10.i)] S18 = some (.slice (some ⟨S18.next, 0, none⟩) 1 1, S18.push (.cells [.int .i64 x10.i] 3 1 true true)) := by kernel_rfl
                obtain ⟨S22, e22, n22, b22, a22⟩ := push_open S18 (.cells [.int .i64 x10.i] 3 1 true true)
                have v1_22 := (a22.2 S.next (by omega)).trans v1_18
                have v2_22 := (a22.2 S1.next (by omega)).trans v2_18
                have v12_22 := (a22.2 id12 (by omega)).trans v12_18
                have v13_22 := (a22.2 S10.next (by omega)).trans v13_18
                have ow_23 := ow_19.agree a22
                have g22 : Agree S S22 := g18.trans a22
                have s22 : E0.same S18 S22 = true := symEnv_same a22
                have ne24 : blkOf (v_o) ≠ some S18.next := ow_19.new (Nat.le_refl _)
                have o25 : Own 3 S18.next S22 (.slice (some ⟨S18.next, 0, none⟩) 1 1) ([x10.i] : List Int) := .inr ⟨_, true, rfl, Nat.le_refl _, by omega, b22⟩
                obtain ⟨u26, S26, k26, o26, n26, f26, d26⟩ := own_append (P := Tryz.prog) (t := 48) (tx := 48) (n := 0) (v := v_o) ow_23 (o25.rows) (by omega) (by first | omega | (simp; omega) | simp) (by first | omega | (simp; omega) | simp) Tryz.underlying48 Tryz.underlying48 ti3 tv3 rfl tz3
                have v1_26 := (f26 S.next (by omega) (by first | (simp [blkOf]; done) | exact ow_23.ne (by omega) | exact ow_23.new (by omega) | assumption)).trans v1_22
                have v2_26 := (f26 S1.next (by omega) (by first | (simp [blkOf]; done) | exact ow_23.ne (by omega) | exact ow_23.new (by omega) | assumption)).trans v2_22
                have v13_26 := (f26 S10.next (by omega) (by first | (simp [blkOf]; done) | exact ow_23.ne (by omega) | exact ow_23.new (by omega) | assumption)).trans v13_22
                have g26 : Agree S S26 := ⟨Nat.le_trans (g22).1 n26, fun id hid => (f26 id (by have := (g22).1; omega) (by first | (simp [blkOf]; done) | exact ow_23.ne (by omega) | assumption)).trans ((g22).2 id hid)⟩
                have ne27 : blkOf u26 ≠ some S.next := by first | exact o26.ne (by omega) | exact o26.new (by omega) | exact d26 _ (by omega) (by first | (simp [blkOf]; done) | exact ow_23.ne (by omega) | exact ow_23.new (by omega) | assumption)
                have ne28 : blkOf u26 ≠ some S1.next := by first | exact o26.ne (by omega) | exact o26.new (by omega) | exact d26 _ (by omega) (by first | (simp [blkOf]; done) | exact ow_23.ne (by omega) | exact ow_23.new (by omega) | assumption)
                have ne29 : blkOf u26 ≠ some S10.next := by first | exact o26.ne (by omega) | exact o26.new (by omega) | exact d26 _ (by omega) (by first | (simp [blkOf]; done) | exact ow_23.ne (by omega) | exact ow_23.new (by omega) | assumption)
                have w30 : IntKind.i64.wrap ((j : Int) + 1) = ((j + 1 : Nat) : Int) := by rw [IntWalk.i64_in] <;> omega
                try simp (disch := first | omega | assumption) only [E0_G, SY, setArgs, off, agreeKind, partVals, vals, allocV, boxed, ldA, rdCells, oneB, aggD, aField, aFieldV, aExtract, eq_self, ne_eq, if_true, if_false, not_false_eq_true, Nat.reduceAdd, Nat.reduceSub, Nat.reduceMul, Nat.reduceLT, Nat.reduceEqDiff, Nat.reduceBEq, reduceIte, Int.reduceEq, Int.reduceLT, Int.reduceLE, reduceCtorEq, TY_EvB1, and_fold, or_fold, not_fold, g10_4, g10_5, g10_8, g10_24, g10_25, g10_26, bb10_1, bb10_2, h4a, h6a, h8a, w9, h11a, i12, j12, m12_0, m12_1, m12_2, v1_13, v2_13, v12_13, s13, e13, b13, v1_16, v2_16, v12_16, k16, b16, k18, s18, v1_18, v2_18, v12_18, v13_18, h20a, y21, v1_22, v2_22, v12_22, v13_22, s22, e22, b22, v1_26, v2_26, v13_26, k26, w30] at he
                rw [drop_cons' hx10] at hd10
                have hf := (show _ = (R59_0 ks a b c d e f s l (ks.drop (j + 1)) (o ++ ([x10.i])) : (List Int)) from (if_pos h20).trans (rfl)).symm.trans hd10
                exact .next he (m - 1) (by omega) ⟨(j + 1), u26, o ++ ([x10.i]), by first | omega | (simp; omega) | simp, by first | omega | (simp; omega) | simp, by first | omega | (simp; omega) | simp, (by simp only [SY, setArgs, off, agreeKind, partVals, vals, allocV, boxed, ldA, rdCells, oneB, aggD, aField, aFieldV, aExtract, eq_self, ne_eq, if_true, if_false, not_false_eq_true, Nat.reduceAdd, Nat.reduceSub, Nat.reduceMul, Nat.reduceLT, Nat.reduceEqDiff, Nat.reduceBEq, reduceIte, Int.reduceEq, Int.reduceLT, Int.reduceLE, reduceCtorEq, g10_4, g10_5, g10_8, g10_24, g10_25, g10_26] <;> rfl), (by simp only [SY, setArgs, off, agreeKind, partVals, vals, allocV, boxed, ldA, rdCells, oneB, aggD, aField, aFieldV, aExtract, eq_self, ne_eq, if_true, if_false, not_false_eq_true, Nat.reduceAdd, Nat.reduceSub, Nat.reduceMul, Nat.reduceLT, Nat.reduceEqDiff, Nat.reduceBEq, reduceIte, Int.reduceEq, Int.reduceLT, Int.reduceLE, reduceCtorEq, g10_4, g10_5, g10_8, g10_24, g10_25, g10_26] <;> rfl), (by simp only [SY, setArgs, off, agreeKind, partVals, vals, allocV, boxed, ldA, rdCells, oneB, aggD, aField, aFieldV, aExtract, eq_self, ne_eq, if_true, if_false, not_false_eq_true, Nat.reduceAdd, Nat.reduceSub, Nat.reduceMul, Nat.reduceLT, Nat.reduceEqDiff, Nat.reduceBEq, reduceIte, Int.reduceEq, Int.reduceLT, Int.reduceLE, reduceCtorEq, g10_4, g10_5, g10_8, g10_24, g10_25, g10_26] <;> rfl), (by simp only [SY, setArgs, off, agreeKind, partVals, vals, allocV, boxed, ldA, rdCells, oneB, aggD, aField, aFieldV, aExtract, eq_self, ne_eq, if_true, if_false, not_false_eq_true, Nat.reduceAdd, Nat.reduceSub, Nat.reduceMul, Nat.reduceLT, Nat.reduceEqDiff, Nat.reduceBEq, reduceIte, Int.reduceEq, Int.reduceLT, Int.reduceLE, reduceCtorEq, g10_4, g10_5, g10_8, g10_24, g10_25, g10_26] <;> rfl), (by simp only [SY, setArgs, off, agreeKind, partVals, vals, allocV, boxed, ldA, rdCells, oneB, aggD, aField, aFieldV, aExtract, eq_self, ne_eq, if_true, if_false, not_false_eq_true, Nat.reduceAdd, Nat.reduceSub, Nat.reduceMul, Nat.reduceLT, Nat.reduceEqDiff, Nat.reduceBEq, reduceIte, Int.reduceEq, Int.reduceLT, Int.reduceLE, reduceCtorEq, g10_4, g10_5, g10_8, g10_24, g10_25, g10_26] <;> rfl), (by simp only [SY, setArgs, off, agreeKind, partVals, vals, allocV, boxed, ldA, rdCells, oneB, aggD, aField, aFieldV, aExtract, eq_self, ne_eq, if_true, if_false, not_false_eq_true, Nat.reduceAdd, Nat.reduceSub, Nat.reduceMul, Nat.reduceLT, Nat.reduceEqDiff, Nat.reduceBEq, reduceIte, Int.reduceEq, Int.reduceLT, Int.reduceLE, reduceCtorEq, g10_4, g10_5, g10_8, g10_24, g10_25, g10_26] <;> rfl), v1_26, v2_26, g26, by omega, (o26.low (by omega)), hf⟩
              · skip
                have w31 : IntKind.i64.wrap ((j : Int) + 1) = ((j + 1 : Nat) : Int) := by rw [IntWalk.i64_in] <;> omega
                try simp (disch := first | omega | assumption) only [E0_G, SY, setArgs, off, agreeKind, partVals, vals, allocV, boxed, ldA, rdCells, oneB, aggD, aField, aFieldV, aExtract, eq_self, ne_eq, if_true, if_false, not_false_eq_true, Nat.reduceAdd, Nat.reduceSub, Nat.reduceMul, Nat.reduceLT, Nat.reduceEqDiff, Nat.reduceBEq, reduceIte, Int.reduceEq, Int.reduceLT, Int.reduceLE, reduceCtorEq, TY_EvB1, and_fold, or_fold, not_fold, g10_4, g10_5, g10_8, g10_24, g10_25, g10_26, bb10_1, bb10_2, h4a, h6a, h8a, w9, h11a, i12, j12, m12_0, m12_1, m12_2, v1_13, v2_13, v12_13, s13, e13, b13, v1_16, v2_16, v12_16, k16, b16, k18, s18, v1_18, v2_18, v12_18, v13_18, h20a, w31] at he
                rw [drop_cons' hx10] at hd10
                have hf := (show _ = (R59_0 ks a b c d e f s l (ks.drop (j + 1)) o : (List Int)) from (if_neg h20).trans (rfl)).symm.trans hd10
                exact .next he (m - 1) (by omega) ⟨(j + 1), v_o, o, by first | omega | (simp; omega) | simp, by first | omega | (simp; omega) | simp, by first | omega | (simp; omega) | simp, (by simp only [SY, setArgs, off, agreeKind, partVals, vals, allocV, boxed, ldA, rdCells, oneB, aggD, aField, aFieldV, aExtract, eq_self, ne_eq, if_true, if_false, not_false_eq_true, Nat.reduceAdd, Nat.reduceSub, Nat.reduceMul, Nat.reduceLT, Nat.reduceEqDiff, Nat.reduceBEq, reduceIte, Int.reduceEq, Int.reduceLT, Int.reduceLE, reduceCtorEq, g10_4, g10_5, g10_8, g10_24, g10_25, g10_26] <;> rfl), (by simp only [SY, setArgs, off, agreeKind, partVals, vals, allocV, boxed, ldA, rdCells, oneB, aggD, aField, aFieldV, aExtract, eq_self, ne_eq, if_true, if_false, not_false_eq_true, Nat.reduceAdd, Nat.reduceSub, Nat.reduceMul, Nat.reduceLT, Nat.reduceEqDiff, Nat.reduceBEq, reduceIte, Int.reduceEq, Int.reduceLT, Int.reduceLE, reduceCtorEq, g10_4, g10_5, g10_8, g10_24, g10_25, g10_26] <;> rfl), (by simp only [SY, setArgs, off, agreeKind, partVals, vals, allocV, boxed, ldA, rdCells, oneB, aggD, aField, aFieldV, aExtract, eq_self, ne_eq, if_true, if_false, not_false_eq_true, Nat.reduceAdd, Nat.reduceSub, Nat.reduceMul, Nat.reduceLT, Nat.reduceEqDiff, Nat.reduceBEq, reduceIte, Int.reduceEq, Int.reduceLT, Int.reduceLE, reduceCtorEq, g10_4, g10_5, g10_8, g10_24, g10_25, g10_26] <;> rfl), (by simp only [SY, setArgs, off, agreeKind, partVals, vals, allocV, boxed, ldA, rdCells, oneB, aggD, aField, aFieldV, aExtract, eq_self, ne_eq, if_true, if_false, not_false_eq_true, Nat.reduceAdd, Nat.reduceSub, Nat.reduceMul, Nat.reduceLT, Nat.reduceEqDiff, Nat.reduceBEq, reduceIte, Int.reduceEq, Int.reduceLT, Int.reduceLE, reduceCtorEq, g10_4, g10_5, g10_8, g10_24, g10_25, g10_26] <;> rfl), (by simp only [SY, setArgs, off, agreeKind, partVals, vals, allocV, boxed, ldA, rdCells, oneB, aggD, aField, aFieldV, aExtract, eq_self, ne_eq, if_true, if_false, not_false_eq_true, Nat.reduceAdd, Nat.reduceSub, Nat.reduceMul, Nat.reduceLT, Nat.reduceEqDiff, Nat.reduceBEq, reduceIte, Int.reduceEq, Int.reduceLT, Int.reduceLE, reduceCtorEq, g10_4, g10_5, g10_8, g10_24, g10_25, g10_26] <;> rfl), (by simp only [SY, setArgs, off, agreeKind, partVals, vals, allocV, boxed, ldA, rdCells, oneB, aggD, aField, aFieldV, aExtract, eq_self, ne_eq, if_true, if_false, not_false_eq_true, Nat.reduceAdd, Nat.reduceSub, Nat.reduceMul, Nat.reduceLT, Nat.reduceEqDiff, Nat.reduceBEq, reduceIte, Int.reduceEq, Int.reduceLT, Int.reduceLE, reduceCtorEq, g10_4, g10_5, g10_8, g10_24, g10_25, g10_26] <;> rfl), v1_18, v2_18, g18, by omega, (ow_19.low (by omega)), hf⟩
            · skip
              try simp (disch := first | omega | assumption) only [E0_G, SY, setArgs, off, agreeKind, partVals, vals, allocV, boxed, ldA, rdCells, oneB, aggD, aField, aFieldV, aExtract, eq_self, ne_eq, if_true, if_false, not_false_eq_true, Nat.reduceAdd, Nat.reduceSub, Nat.reduceMul, Nat.reduceLT, Nat.reduceEqDiff, Nat.reduceBEq, reduceIte, Int.reduceEq, Int.reduceLT, Int.reduceLE, reduceCtorEq, TY_EvB1, and_fold, or_fold, not_fold, g10_4, g10_5, g10_8, g10_24, g10_25, g10_26, bb10_1, bb10_2, h4a, h6a, h8a, w9, h11a] at he
              rw [List.drop_eq_nil_of_le (by omega)] at hd10
              have hf := (show _ = (o : (List Int)) from rfl).symm.trans hd10
              exact .exit he ⟨rfl, ⟨j, v_o, o, (by simp only [SY, setArgs, off, agreeKind, partVals, vals, allocV, boxed, ldA, rdCells, oneB, aggD, aField, aFieldV, aExtract, eq_self, ne_eq, if_true, if_false, not_false_eq_true, Nat.reduceAdd, Nat.reduceSub, Nat.reduceMul, Nat.reduceLT, Nat.reduceEqDiff, Nat.reduceBEq, reduceIte, Int.reduceEq, Int.reduceLT, Int.reduceLE, reduceCtorEq, g10_4, g10_5, g10_8, g10_24, g10_25, g10_26] <;> rfl), bb10_1, bb10_2, ga10, by omega, (ow_o.low (by omega)), by first | omega | assumption | simp, by first | omega | assumption | simp, hf.symm⟩⟩)
        obtain ⟨rfl, j, v_o, o, ge10_8, be10_1, be10_2, ge10, gm10, oe_o10, hj10_0, hj10_1, hR10⟩ := hQ10
        obtain rfl : o = R59_0 ks a b c d e f s l ks ([]) := hR10.symm
        try simp (disch := first | omega | assumption) only [E0_G, SY, setArgs, off, agreeKind, partVals, vals, allocV, boxed, ldA, rdCells, oneB, aggD, aField, aFieldV, aExtract, eq_self, ne_eq, if_true, if_false, not_false_eq_true, Nat.reduceAdd, Nat.reduceSub, Nat.reduceMul, Nat.reduceLT, Nat.reduceEqDiff, Nat.reduceBEq, reduceIte, Int.reduceEq, Int.reduceLT, Int.reduceLE, reduceCtorEq, TY_EvB1, and_fold, or_fold, not_fold, h4a, h6a, h8a, w9, ge10_8, be10_1, be10_2] at hz
        have hr : r59 ks a b c d e f s l = (R59_0 ks a b c d e f s l ks ([]), 0) := (if_pos h4).trans ((if_pos h6).trans ((if_pos h8).trans (rfl)))
        exact ⟨v_o, S10e, by first | (rw [hr]; exact hz.symm) | exact hz.symm, ge10, by rw [hr]; exact oe_o10.low (by omega)⟩
      · skip
        try simp (disch := first | omega | assumption) only [E0_G, SY, setArgs, off, agreeKind, partVals, vals, allocV, boxed, ldA, rdCells, oneB, aggD, aField, aFieldV, aExtract, eq_self, ne_eq, if_true, if_false, not_false_eq_true, Nat.reduceAdd, Nat.reduceSub, Nat.reduceMul, Nat.reduceLT, Nat.reduceEqDiff, Nat.reduceBEq, reduceIte, Int.reduceEq, Int.reduceLT, Int.reduceLE, reduceCtorEq, TY_EvB1, and_fold, or_fold, not_fold, s1, e1, b1, v1_2, s2, e2, b2, k3, s3, v1_3, v2_3, h4a, k5, s5, v1_5, v2_5, h6a, k7, s7, v1_7, v2_7, h8a] at hz
        have hr : r59 ks a b c d e f s l = ([], 1) := (if_pos h4).trans ((if_pos h6).trans ((if_neg h8).trans (rfl)))
        exact ⟨.slice none 0 0, S7, by first | (rw [hr]; exact hz.symm) | exact hz.symm, g7, by rw [hr]; exact Own.nil _ _ _⟩
    · skip
      try simp (disch := first | omega | assumption) only [E0_G, SY, setArgs, off, agreeKind, partVals, vals, allocV, boxed, ldA, rdCells, oneB, aggD, aField, aFieldV, aExtract, eq_self, ne_eq, if_true, if_false, not_false_eq_true, Nat.reduceAdd, Nat.reduceSub, Nat.reduceMul, Nat.reduceLT, Nat.reduceEqDiff, Nat.reduceBEq, reduceIte, Int.reduceEq, Int.reduceLT, Int.reduceLE, reduceCtorEq, TY_EvB1, and_fold, or_fold, not_fold, s1, e1, b1, v1_2, s2, e2, b2, k3, s3, v1_3, v2_3, h4a, k5, s5, v1_5, v2_5, h6a] at hz
      have hr : r59 ks a b c d e f s l = ([], 1) := (if_pos h4).trans ((if_neg h6).trans (rfl))
      exact ⟨.slice none 0 0, S5, by first | (rw [hr]; exact hz.symm) | exact hz.symm, g5, by rw [hr]; exact Own.nil _ _ _⟩
  · skip
    try simp (disch := first | omega | assumption) only [E0_G, SY, setArgs, off, agreeKind, partVals, vals, allocV, boxed, ldA, rdCells, oneB, aggD, aField, aFieldV, aExtract, eq_self, ne_eq, if_true, if_false, not_false_eq_true, Nat.reduceAdd, Nat.reduceSub, Nat.reduceMul, Nat.reduceLT, Nat.reduceEqDiff, Nat.reduceBEq, reduceIte, Int.reduceEq, Int.reduceLT, Int.reduceLE, reduceCtorEq, TY_EvB1, and_fold, or_fold, not_fold, s1, e1, b1, v1_2, s2, e2, b2, k3, s3, v1_3, v2_3, h4a] at hz
    have hr : r59 ks a b c d e f s l = ([], 1) := (if_neg h4).trans (rfl)
    exact ⟨.slice none 0 0, S3, by first | (rw [hr]; exact hz.symm) | exact hz.symm, g3, by rw [hr]; exact Own.nil _ _ _⟩

theorem errV_z' {p : Prop} [Decidable p] : errV p = 0 ↔ p := by unfold errV; split <;> simp [*]

def R48_0 (ks : List K) (tr : Int) (fr : Int) (f s l : Int)  : Nat → Int → Sum (Int × Int) (Unit)
  | 0, p => .inr ()
  | m' + 1, p => (if p ≤ 4095 then (if ks.any (confK (⟨1, tr, p⟩ : K) f s) = true then R48_0 ks tr fr f s l m' (p + 1) else .inl (p, 0)) else .inr ())
def r48 (ks : List K) (tr : Int) (fr : Int) (f s l : Int) : Int × Int := (if bunch ks = true then (if 0 ≤ tr ∧ tr < 4 then (if 0 ≤ fr ∧ fr ≤ 4095 then (if fr = 0 then (0, 1) else (if (errV (InkOk f s l)) = 0 then (onSum (R48_0 ks tr fr f s l ((4097 - fr).toNat) fr) (fun (r8, r9) => (r8, r9)) (fun _ => (0, 5))) else (0, 1))) else (0, 1)) else (0, 1)) else (0, 1))
set_option maxHeartbeats 2000000 in
theorem c48 (ks : List K) (tr : Int) (fr : Int) (f s l : Int) (hn : ks.length ≤ 60) (S : AS) (v_ks : Value) (hv_ks : Lst S v_ks ks) :
    ∃ S', (evL Tryz.prog E0).call 24 #[v_ks, .int .i64 tr, .int .i64 fr, .agg #[.int .i64 f, .int .i64 s, .int .i64 l]] S = some (.tuple #[.int .i64 (r48 ks tr fr f s l).1, .int .i64 (r48 ks tr fr f s l).2], S') ∧ Agree S S' := by
  generalize hz : (evL Tryz.prog E0).call 24 _ _ = z
  rw [L_call, evCall_said rfl Tryz.func24 rfl (by decide) Tryz.ntmps24 Tryz.results24] at hz
  obtain ⟨S1, e1, n1, b1, a1⟩ := push_open S (.cells [.int .i64 f, .int .i64 s, .int .i64 l] 35 0 true true)
  have g1 : Agree S S1 := a1
  have s1 : E0.same S S1 = true := symEnv_same a1
  obtain ⟨S2, k2, a2⟩ := c109 (ks : List K) (by omega) S1 (v_ks) (hv_ks.agree g1)
  have l2 := a2.1
  have s2 : E0.same S1 S2 = true := symEnv_same a2
  have v1_2 := (a2.2 S.next (by omega)).trans b1
  have g2 : Agree S S2 := g1.trans a2
  try simp (disch := first | omega | assumption) only [E0_G, SY, setArgs, off, agreeKind, partVals, vals, allocV, boxed, ldA, rdCells, oneB, aggD, aField, aFieldV, aExtract, eq_self, ne_eq, if_true, if_false, not_false_eq_true, Nat.reduceAdd, Nat.reduceSub, Nat.reduceMul, Nat.reduceLT, Nat.reduceEqDiff, Nat.reduceBEq, reduceIte, Int.reduceEq, Int.reduceLT, Int.reduceLE, reduceCtorEq, TY_EvB1, and_fold, or_fold, not_fold, s1, e1, b1, k2, s2, v1_2] at hz
  rcases dB (bunch ks) with ⟨h3a, h3⟩ | ⟨h3a, h3⟩
  · skip
    have k4 := c100 tr S2
    try simp (disch := first | omega | assumption) only [E0_G, SY, setArgs, off, agreeKind, partVals, vals, allocV, boxed, ldA, rdCells, oneB, aggD, aField, aFieldV, aExtract, eq_self, ne_eq, if_true, if_false, not_false_eq_true, Nat.reduceAdd, Nat.reduceSub, Nat.reduceMul, Nat.reduceLT, Nat.reduceEqDiff, Nat.reduceBEq, reduceIte, Int.reduceEq, Int.reduceLT, Int.reduceLE, reduceCtorEq, TY_EvB1, and_fold, or_fold, not_fold, s1, e1, b1, k2, s2, v1_2, h3a, k4] at hz
    rcases dP (0 ≤ tr ∧ tr < 4) with ⟨h5a, h5⟩ | ⟨h5a, h5⟩
    · skip
      have k6 := c101 fr S2
      try simp (disch := first | omega | assumption) only [E0_G, SY, setArgs, off, agreeKind, partVals, vals, allocV, boxed, ldA, rdCells, oneB, aggD, aField, aFieldV, aExtract, eq_self, ne_eq, if_true, if_false, not_false_eq_true, Nat.reduceAdd, Nat.reduceSub, Nat.reduceMul, Nat.reduceLT, Nat.reduceEqDiff, Nat.reduceBEq, reduceIte, Int.reduceEq, Int.reduceLT, Int.reduceLE, reduceCtorEq, TY_EvB1, and_fold, or_fold, not_fold, s1, e1, b1, k2, s2, v1_2, h3a, k4, h5a, k6] at hz
      rcases dP (0 ≤ fr ∧ fr ≤ 4095) with ⟨h7a, h7⟩ | ⟨h7a, h7⟩
      · skip
        try simp (disch := first | omega | assumption) only [E0_G, SY, setArgs, off, agreeKind, partVals, vals, allocV, boxed, ldA, rdCells, oneB, aggD, aField, aFieldV, aExtract, eq_self, ne_eq, if_true, if_false, not_false_eq_true, Nat.reduceAdd, Nat.reduceSub, Nat.reduceMul, Nat.reduceLT, Nat.reduceEqDiff, Nat.reduceBEq, reduceIte, Int.reduceEq, Int.reduceLT, Int.reduceLE, reduceCtorEq, TY_EvB1, and_fold, or_fold, not_fold, s1, e1, b1, k2, s2, v1_2, h3a, k4, h5a, k6, h7a] at hz
        rcases dP (fr = 0) with ⟨h8a, h8⟩ | ⟨h8a, h8⟩
        · skip
          try simp (disch := first | omega | assumption) only [E0_G, SY, setArgs, off, agreeKind, partVals, vals, allocV, boxed, ldA, rdCells, oneB, aggD, aField, aFieldV, aExtract, eq_self, ne_eq, if_true, if_false, not_false_eq_true, Nat.reduceAdd, Nat.reduceSub, Nat.reduceMul, Nat.reduceLT, Nat.reduceEqDiff, Nat.reduceBEq, reduceIte, Int.reduceEq, Int.reduceLT, Int.reduceLE, reduceCtorEq, TY_EvB1, and_fold, or_fold, not_fold, s1, e1, b1, k2, s2, v1_2, h3a, k4, h5a, k6, h7a, h8a] at hz
          have hr : r48 ks tr fr f s l = (0, 1) := (if_pos h3).trans ((if_pos h5).trans ((if_pos h7).trans ((if_pos h8).trans (rfl))))
          exact fin hz (by rw [hr]) g2
        · skip
          obtain ⟨S9, k9, a9⟩ := c36 f s l S2  
          have l9 := a9.1
          have s9 : E0.same S2 S9 = true := symEnv_same a9
          have v1_9 := (a9.2 S.next (by omega)).trans v1_2
          have g9 : Agree S S9 := g2.trans a9
          try simp (disch := first | omega | assumption) only [E0_G, SY, setArgs, off, agreeKind, partVals, vals, allocV, boxed, ldA, rdCells, oneB, aggD, aField, aFieldV, aExtract, eq_self, ne_eq, if_true, if_false, not_false_eq_true, Nat.reduceAdd, Nat.reduceSub, Nat.reduceMul, Nat.reduceLT, Nat.reduceEqDiff, Nat.reduceBEq, reduceIte, Int.reduceEq, Int.reduceLT, Int.reduceLE, reduceCtorEq, TY_EvB1, and_fold, or_fold, not_fold, s1, e1, b1, k2, s2, v1_2, h3a, k4, h5a, k6, h7a, h8a, k9, s9, v1_9] at hz
          rcases dP ((errV (InkOk f s l)) = 0) with ⟨h10a, h10⟩ | ⟨h10a, h10⟩
          · skip
            try simp (disch := first | omega | assumption) only [E0_G, SY, setArgs, off, agreeKind, partVals, vals, allocV, boxed, ldA, rdCells, oneB, aggD, aField, aFieldV, aExtract, eq_self, ne_eq, if_true, if_false, not_false_eq_true, Nat.reduceAdd, Nat.reduceSub, Nat.reduceMul, Nat.reduceLT, Nat.reduceEqDiff, Nat.reduceBEq, reduceIte, Int.reduceEq, Int.reduceLT, Int.reduceLE, reduceCtorEq, TY_EvB1, and_fold, or_fold, not_fold, s1, e1, b1, k2, s2, v1_2, h3a, k4, h5a, k6, h7a, h8a, k9, s9, v1_9, h10a] at hz
            generalize hL11 : Rec.loop _ _ _ _ = L11 at hz
            obtain ⟨x11, t11, S11e, rfl, hQ11⟩ := loop_met hL11 (fun m t S' => ∃ (p : Int), (m : Int) = 4097 - p ∧ 1 ≤ p ∧ p ≤ 4096 ∧ t.get 0 = some (v_ks) ∧ t.get 1 = some (.int .i64 tr) ∧ t.get 7 = some (.pointer (some ⟨S.next, 0, none⟩)) ∧ t.get 10 = some (.int .i64 p) ∧ S'.heap.get S.next = some (.cells [.int .i64 f, .int .i64 s, .int .i64 l] 35 0 true true) ∧ Agree S S' ∧ S9.next ≤ S'.next ∧ R48_0 ks tr fr f s l m p = R48_0 ks tr fr f s l ((4097 - fr).toNat) fr)
              (fun x t S' => (x = .exit 0 ∧ ∃ (p : Int), S'.heap.get S.next = some (.cells [.int .i64 f, .int .i64 s, .int .i64 l] 35 0 true true) ∧ Agree S S' ∧ S9.next ≤ S'.next ∧ 1 ≤ p ∧ p ≤ 4096 ∧ R48_0 ks tr fr f s l ((4097 - fr).toNat) fr = .inr ()) ∨ (x = .ret ∧ ∃ (r8 : Int) (r9 : Int), t.get 8 = some (.int .i64 r8) ∧ t.get 9 = some (.int .i64 r9) ∧ Agree S S' ∧ R48_0 ks tr fr f s l ((4097 - fr).toNat) fr = .inl (r8, r9))) ((4097 - fr).toNat) ⟨fr, by first | rfl | omega | (simp; omega) | simp, by first | rfl | omega | (simp; omega) | simp, by first | rfl | omega | (simp; omega) | simp, by simp only [SY, setArgs, off, agreeKind, partVals, vals, allocV, boxed, ldA, rdCells, oneB, aggD, aField, aFieldV, aExtract, eq_self, ne_eq, if_true, if_false, not_false_eq_true, Nat.reduceAdd, Nat.reduceSub, Nat.reduceMul, Nat.reduceLT, Nat.reduceEqDiff, Nat.reduceBEq, reduceIte, Int.reduceEq, Int.reduceLT, Int.reduceLE, reduceCtorEq] <;> rfl, by simp only [SY, setArgs, off, agreeKind, partVals, vals, allocV, boxed, ldA, rdCells, oneB, aggD, aField, aFieldV, aExtract, eq_self, ne_eq, if_true, if_false, not_false_eq_true, Nat.reduceAdd, Nat.reduceSub, Nat.reduceMul, Nat.reduceLT, Nat.reduceEqDiff, Nat.reduceBEq, reduceIte, Int.reduceEq, Int.reduceLT, Int.reduceLE, reduceCtorEq] <;> rfl, by simp only [SY, setArgs, off, agreeKind, partVals, vals, allocV, boxed, ldA, rdCells, oneB, aggD, aField, aFieldV, aExtract, eq_self, ne_eq, if_true, if_false, not_false_eq_true, Nat.reduceAdd, Nat.reduceSub, Nat.reduceMul, Nat.reduceLT, Nat.reduceEqDiff, Nat.reduceBEq, reduceIte, Int.reduceEq, Int.reduceLT, Int.reduceLE, reduceCtorEq] <;> rfl, by simp only [SY, setArgs, off, agreeKind, partVals, vals, allocV, boxed, ldA, rdCells, oneB, aggD, aField, aFieldV, aExtract, eq_self, ne_eq, if_true, if_false, not_false_eq_true, Nat.reduceAdd, Nat.reduceSub, Nat.reduceMul, Nat.reduceLT, Nat.reduceEqDiff, Nat.reduceBEq, reduceIte, Int.reduceEq, Int.reduceLT, Int.reduceLE, reduceCtorEq] <;> rfl, v1_9, g9, Nat.le_refl _, rfl⟩ (by
                rintro m t S11 ⟨p, hi11_0, hi11_1, hi11_2, g11_0, g11_1, g11_7, g11_10, bb11_1, ga11, gn11, hd11⟩
                refine .run fun z he => ?_
                try simp (disch := first | omega | assumption) only [E0_G, SY, setArgs, off, agreeKind, partVals, vals, allocV, boxed, ldA, rdCells, oneB, aggD, aField, aFieldV, aExtract, eq_self, ne_eq, if_true, if_false, not_false_eq_true, Nat.reduceAdd, Nat.reduceSub, Nat.reduceMul, Nat.reduceLT, Nat.reduceEqDiff, Nat.reduceBEq, reduceIte, Int.reduceEq, Int.reduceLT, Int.reduceLE, reduceCtorEq, TY_EvB1, and_fold, or_fold, not_fold, g11_0, g11_1, g11_7, g11_10, bb11_1, h3a, h5a, h7a, h8a, h10a] at he
                rcases dP (p ≤ 4095) with ⟨h12a, h12⟩ | ⟨h12a, h12⟩
                · skip
                  have y13 : aBuild Tryz.prog 38 [(0, .int .i64 1), (1, .int .i64 tr), (2, .int .i64 p)] = some (.agg #[.int .i64 1, .int .i64 tr, .int .i64 p]) := by kernel_rfl
                  obtain ⟨S14, px14, py14, k14, a14, gx14, gy14, lx14, ly14⟩ := c99 (⟨1, tr, p⟩ : K) f s l S11
                  have l14 := a14.1
                  have s14 : E0.same S11 S14 = true := symEnv_same a14
                  have v1_14 := (a14.2 S.next (by omega)).trans bb11_1
                  have g14 : Agree S S14 := ga11.trans a14
                  have hl15 := bunch_ok h3
                  obtain ⟨S16, k16, a16⟩ := c98 (⟨1, tr, p⟩ : K) ks f s l (by show (0 : Int) ≤ p ∧ p ≤ 4095; omega) (fun x hx => (hl15.2 x hx).set) (by omega) (errV_z'.1 h10) S14 (v_ks) (hv_ks.agree g14) px14 py14 gx14 gy14 (by omega) (by omega)
                  have l16 := a16.1
                  have s16 : E0.same S14 S16 = true := symEnv_same a16
                  have v1_16 := (a16.2 S.next (by omega)).trans v1_14
                  have vx14_16 := (a16.2 px14 (by omega)).trans gx14
                  have vy14_16 := (a16.2 py14 (by omega)).trans gy14
                  have g16 : Agree S S16 := g14.trans a16
                  try simp (disch := first | omega | assumption) only [E0_G, SY, setArgs, off, agreeKind, partVals, vals, allocV, boxed, ldA, rdCells, oneB, aggD, aField, aFieldV, aExtract, eq_self, ne_eq, if_true, if_false, not_false_eq_true, Nat.reduceAdd, Nat.reduceSub, Nat.reduceMul, Nat.reduceLT, Nat.reduceEqDiff, Nat.reduceBEq, reduceIte, Int.reduceEq, Int.reduceLT, Int.reduceLE, reduceCtorEq, TY_EvB1, and_fold, or_fold, not_fold, g11_0, g11_1, g11_7, g11_10, bb11_1, h3a, h5a, h7a, h8a, h10a, h12a, y13, k14, s14, v1_14, k16, s16, v1_16, vx14_16, vy14_16] at he
                  rcases dB (ks.any (confK (⟨1, tr, p⟩ : K) f s)) with ⟨h17a, h17⟩ | ⟨h17a, h17⟩
                  · skip
                    have w18 : IntKind.i64.wrap (p + 1) = p + 1 := by rw [IntWalk.i64_in]; omega
                    try simp (disch := first | omega | assumption) only [E0_G, SY, setArgs, off, agreeKind, partVals, vals, allocV, boxed, ldA, rdCells, oneB, aggD, aField, aFieldV, aExtract, eq_self, ne_eq, if_true, if_false, not_false_eq_true, Nat.reduceAdd, Nat.reduceSub, Nat.reduceMul, Nat.reduceLT, Nat.reduceEqDiff, Nat.reduceBEq, reduceIte, Int.reduceEq, Int.reduceLT, Int.reduceLE, reduceCtorEq, TY_EvB1, and_fold, or_fold, not_fold, g11_0, g11_1, g11_7, g11_10, bb11_1, h3a, h5a, h7a, h8a, h10a, h12a, y13, k14, s14, v1_14, k16, s16, v1_16, vx14_16, vy14_16, h17a, w18] at he
                    obtain ⟨m', rfl⟩ : ∃ m', m = m' + 1 := ⟨m - 1, by omega⟩
                    have hf := (show _ = (R48_0 ks tr fr f s l m' (p + 1) : Sum (Int × Int) (Unit)) from (if_pos h12).trans ((if_pos h17).trans (rfl))).symm.trans hd11
                    exact .next he m' (by omega) ⟨p + 1, by first | omega | (simp; omega) | simp, by first | omega | (simp; omega) | simp, by first | omega | (simp; omega) | simp, (by simp only [SY, setArgs, off, agreeKind, partVals, vals, allocV, boxed, ldA, rdCells, oneB, aggD, aField, aFieldV, aExtract, eq_self, ne_eq, if_true, if_false, not_false_eq_true, Nat.reduceAdd, Nat.reduceSub, Nat.reduceMul, Nat.reduceLT, Nat.reduceEqDiff, Nat.reduceBEq, reduceIte, Int.reduceEq, Int.reduceLT, Int.reduceLE, reduceCtorEq, g11_0, g11_1, g11_7, g11_10] <;> rfl), (by simp only [SY, setArgs, off, agreeKind, partVals, vals, allocV, boxed, ldA, rdCells, oneB, aggD, aField, aFieldV, aExtract, eq_self, ne_eq, if_true, if_false, not_false_eq_true, Nat.reduceAdd, Nat.reduceSub, Nat.reduceMul, Nat.reduceLT, Nat.reduceEqDiff, Nat.reduceBEq, reduceIte, Int.reduceEq, Int.reduceLT, Int.reduceLE, reduceCtorEq, g11_0, g11_1, g11_7, g11_10] <;> rfl), (by simp only [SY, setArgs, off, agreeKind, partVals, vals, allocV, boxed, ldA, rdCells, oneB, aggD, aField, aFieldV, aExtract, eq_self, ne_eq, if_true, if_false, not_false_eq_true, Nat.reduceAdd, Nat.reduceSub, Nat.reduceMul, Nat.reduceLT, Nat.reduceEqDiff, Nat.reduceBEq, reduceIte, Int.reduceEq, Int.reduceLT, Int.reduceLE, reduceCtorEq, g11_0, g11_1, g11_7, g11_10] <;> rfl), (by simp only [SY, setArgs, off, agreeKind, partVals, vals, allocV, boxed, ldA, rdCells, oneB, aggD, aField, aFieldV, aExtract, eq_self, ne_eq, if_true, if_false, not_false_eq_true, Nat.reduceAdd, Nat.reduceSub, Nat.reduceMul, Nat.reduceLT, Nat.reduceEqDiff, Nat.reduceBEq, reduceIte, Int.reduceEq, Int.reduceLT, Int.reduceLE, reduceCtorEq, g11_0, g11_1, g11_7, g11_10] <;> rfl), v1_16, g16, by omega, hf⟩
                  · skip
                    try simp (disch := first | omega | assumption) only [E0_G, SY, setArgs, off, agreeKind, partVals, vals, allocV, boxed, ldA, rdCells, oneB, aggD, aField, aFieldV, aExtract, eq_self, ne_eq, if_true, if_false, not_false_eq_true, Nat.reduceAdd, Nat.reduceSub, Nat.reduceMul, Nat.reduceLT, Nat.reduceEqDiff, Nat.reduceBEq, reduceIte, Int.reduceEq, Int.reduceLT, Int.reduceLE, reduceCtorEq, TY_EvB1, and_fold, or_fold, not_fold, g11_0, g11_1, g11_7, g11_10, bb11_1, h3a, h5a, h7a, h8a, h10a, h12a, y13, k14, s14, v1_14, k16, s16, v1_16, vx14_16, vy14_16, h17a] at he
                    obtain ⟨m', rfl⟩ : ∃ m', m = m' + 1 := ⟨m - 1, by omega⟩
                    have hf := (show _ = (.inl (p, 0) : Sum (Int × Int) (Unit)) from (if_pos h12).trans ((if_neg h17).trans (rfl))).symm.trans hd11
                    exact .ret he (.inr ⟨rfl, ⟨p, 0, (by simp only [SY, setArgs, off, agreeKind, partVals, vals, allocV, boxed, ldA, rdCells, oneB, aggD, aField, aFieldV, aExtract, eq_self, ne_eq, if_true, if_false, not_false_eq_true, Nat.reduceAdd, Nat.reduceSub, Nat.reduceMul, Nat.reduceLT, Nat.reduceEqDiff, Nat.reduceBEq, reduceIte, Int.reduceEq, Int.reduceLT, Int.reduceLE, reduceCtorEq, g11_0, g11_1, g11_7, g11_10] <;> rfl), (by simp only [SY, setArgs, off, agreeKind, partVals, vals, allocV, boxed, ldA, rdCells, oneB, aggD, aField, aFieldV, aExtract, eq_self, ne_eq, if_true, if_false, not_false_eq_true, Nat.reduceAdd, Nat.reduceSub, Nat.reduceMul, Nat.reduceLT, Nat.reduceEqDiff, Nat.reduceBEq, reduceIte, Int.reduceEq, Int.reduceLT, Int.reduceLE, reduceCtorEq, g11_0, g11_1, g11_7, g11_10] <;> rfl), g16, hf.symm⟩⟩)
                · skip
                  try simp (disch := first | omega | assumption) only [E0_G, SY, setArgs, off, agreeKind, partVals, vals, allocV, boxed, ldA, rdCells, oneB, aggD, aField, aFieldV, aExtract, eq_self, ne_eq, if_true, if_false, not_false_eq_true, Nat.reduceAdd, Nat.reduceSub, Nat.reduceMul, Nat.reduceLT, Nat.reduceEqDiff, Nat.reduceBEq, reduceIte, Int.reduceEq, Int.reduceLT, Int.reduceLE, reduceCtorEq, TY_EvB1, and_fold, or_fold, not_fold, g11_0, g11_1, g11_7, g11_10, bb11_1, h3a, h5a, h7a, h8a, h10a, h12a] at he
                  obtain ⟨m', rfl⟩ : ∃ m', m = m' + 1 := ⟨m - 1, by omega⟩
                  have hf := (show _ = (.inr () : Sum (Int × Int) (Unit)) from (if_neg h12).trans (rfl)).symm.trans hd11
                  exact .exit he (.inl ⟨rfl, ⟨p, bb11_1, ga11, by omega, by first | omega | assumption | simp, by first | omega | assumption | simp, hf.symm⟩⟩))
            rcases hQ11 with ⟨rfl, hQ11⟩ | ⟨rfl, hQ11⟩
            · skip
              obtain ⟨p, be11_1, ge11, gm11, hj11_0, hj11_1, hR11⟩ := hQ11
              try simp (disch := first | omega | assumption) only [E0_G, SY, setArgs, off, agreeKind, partVals, vals, allocV, boxed, ldA, rdCells, oneB, aggD, aField, aFieldV, aExtract, eq_self, ne_eq, if_true, if_false, not_false_eq_true, Nat.reduceAdd, Nat.reduceSub, Nat.reduceMul, Nat.reduceLT, Nat.reduceEqDiff, Nat.reduceBEq, reduceIte, Int.reduceEq, Int.reduceLT, Int.reduceLE, reduceCtorEq, TY_EvB1, and_fold, or_fold, not_fold, h3a, h5a, h7a, h8a, h10a, be11_1] at hz
              have hr : r48 ks tr fr f s l = (0, 5) := (if_pos h3).trans ((if_pos h5).trans ((if_pos h7).trans ((if_neg h8).trans ((if_pos h10).trans ((onSum_inr hR11).trans (rfl))))))
              exact fin hz (by rw [hr]) ge11
            · skip
              obtain ⟨r8, r9, ge11_8, ge11_9, ge11, hR11⟩ := hQ11
              try simp (disch := first | omega | assumption) only [E0_G, SY, setArgs, off, agreeKind, partVals, vals, allocV, boxed, ldA, rdCells, oneB, aggD, aField, aFieldV, aExtract, eq_self, ne_eq, if_true, if_false, not_false_eq_true, Nat.reduceAdd, Nat.reduceSub, Nat.reduceMul, Nat.reduceLT, Nat.reduceEqDiff, Nat.reduceBEq, reduceIte, Int.reduceEq, Int.reduceLT, Int.reduceLE, reduceCtorEq, TY_EvB1, and_fold, or_fold, not_fold, h3a, h5a, h7a, h8a, h10a, ge11_8, ge11_9] at hz
              have hr : r48 ks tr fr f s l = (r8, r9) := (if_pos h3).trans ((if_pos h5).trans ((if_pos h7).trans ((if_neg h8).trans ((if_pos h10).trans ((onSum_inl hR11).trans (rfl))))))
              exact fin hz (by rw [hr]) ge11
          · skip
            try simp (disch := first | omega | assumption) only [E0_G, SY, setArgs, off, agreeKind, partVals, vals, allocV, boxed, ldA, rdCells, oneB, aggD, aField, aFieldV, aExtract, eq_self, ne_eq, if_true, if_false, not_false_eq_true, Nat.reduceAdd, Nat.reduceSub, Nat.reduceMul, Nat.reduceLT, Nat.reduceEqDiff, Nat.reduceBEq, reduceIte, Int.reduceEq, Int.reduceLT, Int.reduceLE, reduceCtorEq, TY_EvB1, and_fold, or_fold, not_fold, s1, e1, b1, k2, s2, v1_2, h3a, k4, h5a, k6, h7a, h8a, k9, s9, v1_9, h10a] at hz
            have hr : r48 ks tr fr f s l = (0, 1) := (if_pos h3).trans ((if_pos h5).trans ((if_pos h7).trans ((if_neg h8).trans ((if_neg h10).trans (rfl)))))
            exact fin hz (by rw [hr]) g9
      · skip
        try simp (disch := first | omega | assumption) only [E0_G, SY, setArgs, off, agreeKind, partVals, vals, allocV, boxed, ldA, rdCells, oneB, aggD, aField, aFieldV, aExtract, eq_self, ne_eq, if_true, if_false, not_false_eq_true, Nat.reduceAdd, Nat.reduceSub, Nat.reduceMul, Nat.reduceLT, Nat.reduceEqDiff, Nat.reduceBEq, reduceIte, Int.reduceEq, Int.reduceLT, Int.reduceLE, reduceCtorEq, TY_EvB1, and_fold, or_fold, not_fold, s1, e1, b1, k2, s2, v1_2, h3a, k4, h5a, k6, h7a] at hz
        have hr : r48 ks tr fr f s l = (0, 1) := (if_pos h3).trans ((if_pos h5).trans ((if_neg h7).trans (rfl)))
        exact fin hz (by rw [hr]) g2
    · skip
      try simp (disch := first | omega | assumption) only [E0_G, SY, setArgs, off, agreeKind, partVals, vals, allocV, boxed, ldA, rdCells, oneB, aggD, aField, aFieldV, aExtract, eq_self, ne_eq, if_true, if_false, not_false_eq_true, Nat.reduceAdd, Nat.reduceSub, Nat.reduceMul, Nat.reduceLT, Nat.reduceEqDiff, Nat.reduceBEq, reduceIte, Int.reduceEq, Int.reduceLT, Int.reduceLE, reduceCtorEq, TY_EvB1, and_fold, or_fold, not_fold, s1, e1, b1, k2, s2, v1_2, h3a, k4, h5a] at hz
      have hr : r48 ks tr fr f s l = (0, 1) := (if_pos h3).trans ((if_neg h5).trans (rfl))
      exact fin hz (by rw [hr]) g2
  · skip
    try simp (disch := first | omega | assumption) only [E0_G, SY, setArgs, off, agreeKind, partVals, vals, allocV, boxed, ldA, rdCells, oneB, aggD, aField, aFieldV, aExtract, eq_self, ne_eq, if_true, if_false, not_false_eq_true, Nat.reduceAdd, Nat.reduceSub, Nat.reduceMul, Nat.reduceLT, Nat.reduceEqDiff, Nat.reduceBEq, reduceIte, Int.reduceEq, Int.reduceLT, Int.reduceLE, reduceCtorEq, TY_EvB1, and_fold, or_fold, not_fold, s1, e1, b1, k2, s2, v1_2, h3a] at hz
    have hr : r48 ks tr fr f s l = (0, 1) := (if_neg h3).trans (rfl)
    exact fin hz (by rw [hr]) g2

theorem c15s (S : AS) : (evL Tryz.prog E0).call 8 #[] S = some (.bool true, S) := by rw [L_call]; rfl


theorem R59_0_len (ks : List K) (a b c d e f s l : Int) : ∀ (m : List K) (o : List Int), (R59_0 ks a b c d e f s l m o).length ≤ m.length + o.length := by
  intro m
  induction m with
  | nil => intro o; simp [R59_0]
  | cons x m ih =>
    intro o
    unfold R59_0
    split <;> (refine Nat.le_trans (ih _) ?_; simp; try omega)
theorem r59_len (ks : List K) (a b c d e f s l : Int) : (r59 ks a b c d e f s l).1.length ≤ ks.length := by
  unfold r59
  have := R59_0_len ks a b c d e f s l ks []
  split
  · split
    · split
      · simpa using this
      · simp
    · simp
  · simp

def r1006 (ks : List K) (a b c d e : Int) (f s l : Int) (tr : Int) (fr : Int) : Bool := (if 40 ≤ (ks.length : Int) then true else (if ((chk ks f s l).1) = 0 then (if ((r59 (ks : List K) a b c d e f s l).2) = 0 then (if (orV d e) = 4095 then (if 1 < (((r59 (ks : List K) a b c d e f s l).1).length : Int) then false else (if 0 < (ks.length : Int) then (if 1099511627776 < (IntKind.i64.wrap (((lget ks (ks.length - 1)).i) + 1)) then true else (if ((r48 (ks : List K) tr fr f s l).2) = 0 then (if ((chk (ks ++ ([(⟨IntKind.i64.wrap (((lget ks (ks.length - 1)).i) + 1), tr, (r48 (ks : List K) tr fr f s l).1⟩ : K)])) f s l).1) = 0 then (if ((chk (ks ++ ([(⟨IntKind.i64.wrap (((lget ks (ks.length - 1)).i) + 1), tr, (r48 (ks : List K) tr fr f s l).1⟩ : K)])) f s l).2) = (-1) then decide (fr ≤ ((r48 (ks : List K) tr fr f s l).1)) else false) else false) else decide (((r48 (ks : List K) tr fr f s l).1) = 0))) else (if ((r48 (ks : List K) tr fr f s l).2) = 0 then (if ((chk (ks ++ ([(⟨1, tr, (r48 (ks : List K) tr fr f s l).1⟩ : K)])) f s l).1) = 0 then (if ((chk (ks ++ ([(⟨1, tr, (r48 (ks : List K) tr fr f s l).1⟩ : K)])) f s l).2) = (-1) then decide (fr ≤ ((r48 (ks : List K) tr fr f s l).1)) else false) else false) else decide (((r48 (ks : List K) tr fr f s l).1) = 0)))) else (if 0 < (ks.length : Int) then (if 1099511627776 < (IntKind.i64.wrap (((lget ks (ks.length - 1)).i) + 1)) then true else (if ((r48 (ks : List K) tr fr f s l).2) = 0 then (if ((chk (ks ++ ([(⟨IntKind.i64.wrap (((lget ks (ks.length - 1)).i) + 1), tr, (r48 (ks : List K) tr fr f s l).1⟩ : K)])) f s l).1) = 0 then (if ((chk (ks ++ ([(⟨IntKind.i64.wrap (((lget ks (ks.length - 1)).i) + 1), tr, (r48 (ks : List K) tr fr f s l).1⟩ : K)])) f s l).2) = (-1) then decide (fr ≤ ((r48 (ks : List K) tr fr f s l).1)) else false) else false) else decide (((r48 (ks : List K) tr fr f s l).1) = 0))) else (if ((r48 (ks : List K) tr fr f s l).2) = 0 then (if ((chk (ks ++ ([(⟨1, tr, (r48 (ks : List K) tr fr f s l).1⟩ : K)])) f s l).1) = 0 then (if ((chk (ks ++ ([(⟨1, tr, (r48 (ks : List K) tr fr f s l).1⟩ : K)])) f s l).2) = (-1) then decide (fr ≤ ((r48 (ks : List K) tr fr f s l).1)) else false) else false) else decide (((r48 (ks : List K) tr fr f s l).1) = 0)))) else (if 0 < (ks.length : Int) then (if 1099511627776 < (IntKind.i64.wrap (((lget ks (ks.length - 1)).i) + 1)) then true else (if ((r48 (ks : List K) tr fr f s l).2) = 0 then (if ((chk (ks ++ ([(⟨IntKind.i64.wrap (((lget ks (ks.length - 1)).i) + 1), tr, (r48 (ks : List K) tr fr f s l).1⟩ : K)])) f s l).1) = 0 then (if ((chk (ks ++ ([(⟨IntKind.i64.wrap (((lget ks (ks.length - 1)).i) + 1), tr, (r48 (ks : List K) tr fr f s l).1⟩ : K)])) f s l).2) = (-1) then decide (fr ≤ ((r48 (ks : List K) tr fr f s l).1)) else false) else false) else decide (((r48 (ks : List K) tr fr f s l).1) = 0))) else (if ((r48 (ks : List K) tr fr f s l).2) = 0 then (if ((chk (ks ++ ([(⟨1, tr, (r48 (ks : List K) tr fr f s l).1⟩ : K)])) f s l).1) = 0 then (if ((chk (ks ++ ([(⟨1, tr, (r48 (ks : List K) tr fr f s l).1⟩ : K)])) f s l).2) = (-1) then decide (fr ≤ ((r48 (ks : List K) tr fr f s l).1)) else false) else false) else decide (((r48 (ks : List K) tr fr f s l).1) = 0)))) else true))
set_option maxHeartbeats 8000000 in
theorem c1006 (ks : List K) (a b c d e : Int) (f s l : Int) (tr : Int) (fr : Int)  (S : AS) (v_ks : Value) (hv_ks : Lst S v_ks ks) (ht : Tab S) :
    ∃ S', (evL Tryz.prog E0).call 6 #[v_ks, .agg #[.int .i64 a, .int .i64 b, .int .i64 c, .int .i64 d, .int .i64 e], .agg #[.int .i64 f, .int .i64 s, .int .i64 l], .int .i64 tr, .int .i64 fr] S = some (.bool (r1006 ks a b c d e f s l tr fr), S') ∧ Agree S S' := by
  generalize hz : (evL Tryz.prog E0).call 6 _ _ = z
  rw [L_call, evCall_said rfl Tryz.func6 rfl (by decide) Tryz.ntmps6 Tryz.results6] at hz
  obtain ⟨S1, e1, n1, b1, a1⟩ := push_open S (.cells [.int .i64 a, .int .i64 b, .int .i64 c, .int .i64 d, .int .i64 e] 43 0 true true)
  have g1 : Agree S S1 := a1
  have s1 : E0.same S S1 = true := symEnv_same a1
  obtain ⟨S2, e2, n2, b2, a2⟩ := push_open S1 (.cells [.int .i64 f, .int .i64 s, .int .i64 l] 35 0 true true)
  have v1_2 := (a2.2 S.next (by omega)).trans b1
  have g2 : Agree S S2 := g1.trans a2
  have s2 : E0.same S1 S2 = true := symEnv_same a2
  have w3 := (hv_ks.agree g2).len (P := Tryz.prog) (t := 31) Tryz.underlying31
  try simp (disch := first | omega | assumption) only [E0_G, SY, setArgs, off, agreeKind, partVals, vals, allocV, boxed, ldA, rdCells, oneB, aggD, aField, aFieldV, aExtract, eq_self, ne_eq, if_true, if_false, not_false_eq_true, Nat.reduceAdd, Nat.reduceSub, Nat.reduceMul, Nat.reduceLT, Nat.reduceEqDiff, Nat.reduceBEq, reduceIte, Int.reduceEq, Int.reduceLT, Int.reduceLE, reduceCtorEq, TY_EvB1, and_fold, or_fold, not_fold, s1, e1, b1, v1_2, s2, e2, b2, w3] at hz
  rcases dP (40 ≤ (ks.length : Int)) with ⟨h4a, h4⟩ | ⟨h4a, h4⟩
  · skip
    try simp (disch := first | omega | assumption) only [E0_G, SY, setArgs, off, agreeKind, partVals, vals, allocV, boxed, ldA, rdCells, oneB, aggD, aField, aFieldV, aExtract, eq_self, ne_eq, if_true, if_false, not_false_eq_true, Nat.reduceAdd, Nat.reduceSub, Nat.reduceMul, Nat.reduceLT, Nat.reduceEqDiff, Nat.reduceBEq, reduceIte, Int.reduceEq, Int.reduceLT, Int.reduceLE, reduceCtorEq, TY_EvB1, and_fold, or_fold, not_fold, s1, e1, b1, v1_2, s2, e2, b2, w3, h4a, c15s] at hz
    have hr : r1006 ks a b c d e f s l tr fr = true := (if_pos h4).trans (rfl)
    exact fin hz (by rw [hr]) g2
  · skip
    obtain ⟨S5, k5, a5⟩ := c34 (ks : List K) (by first | omega | (simp; omega)) f s l S2 (v_ks) (hv_ks.agree g2)
    have l5 := a5.1
    have s5 : E0.same S2 S5 = true := symEnv_same a5
    have v1_5 := (a5.2 S.next (by omega)).trans v1_2
    have v2_5 := (a5.2 S1.next (by omega)).trans b2
    have g5 : Agree S S5 := g2.trans a5
    try simp (disch := first | omega | assumption) only [E0_G, SY, setArgs, off, agreeKind, partVals, vals, allocV, boxed, ldA, rdCells, oneB, aggD, aField, aFieldV, aExtract, eq_self, ne_eq, if_true, if_false, not_false_eq_true, Nat.reduceAdd, Nat.reduceSub, Nat.reduceMul, Nat.reduceLT, Nat.reduceEqDiff, Nat.reduceBEq, reduceIte, Int.reduceEq, Int.reduceLT, Int.reduceLE, reduceCtorEq, TY_EvB1, and_fold, or_fold, not_fold, s1, e1, b1, v1_2, s2, e2, b2, w3, h4a, k5, s5, v1_5, v2_5] at hz
    rcases dP (((chk ks f s l).1) = 0) with ⟨h6a, h6⟩ | ⟨h6a, h6⟩
    · skip
      obtain ⟨u7, S7, k7, a7, oo7⟩ := c59 (ks : List K) a b c d e f s l (by first | omega | (simp; omega) | (simp; done) | assumption) S5 (v_ks) (hv_ks.agree g5) (ht.agree g5)
      have l7 := a7.1
      have s7 : E0.same S5 S7 = true := symEnv_same a7
      have v1_7 := (a7.2 S.next (by omega)).trans v1_5
      have v2_7 := (a7.2 S1.next (by omega)).trans v2_5
      have g7 : Agree S S7 := g5.trans a7
      have p7 := r59_len (ks : List K) a b c d e f s l
      try simp (disch := first | omega | assumption) only [E0_G, SY, setArgs, off, agreeKind, partVals, vals, allocV, boxed, ldA, rdCells, oneB, aggD, aField, aFieldV, aExtract, eq_self, ne_eq, if_true, if_false, not_false_eq_true, Nat.reduceAdd, Nat.reduceSub, Nat.reduceMul, Nat.reduceLT, Nat.reduceEqDiff, Nat.reduceBEq, reduceIte, Int.reduceEq, Int.reduceLT, Int.reduceLE, reduceCtorEq, TY_EvB1, and_fold, or_fold, not_fold, s1, e1, b1, v1_2, s2, e2, b2, w3, h4a, k5, s5, v1_5, v2_5, h6a, k7, s7, v1_7, v2_7] at hz
      rcases dP (((r59 (ks : List K) a b c d e f s l).2) = 0) with ⟨h8a, h8⟩ | ⟨h8a, h8⟩
      · skip
        try simp (disch := first | omega | assumption) only [E0_G, SY, setArgs, off, agreeKind, partVals, vals, allocV, boxed, ldA, rdCells, oneB, aggD, aField, aFieldV, aExtract, eq_self, ne_eq, if_true, if_false, not_false_eq_true, Nat.reduceAdd, Nat.reduceSub, Nat.reduceMul, Nat.reduceLT, Nat.reduceEqDiff, Nat.reduceBEq, reduceIte, Int.reduceEq, Int.reduceLT, Int.reduceLE, reduceCtorEq, TY_EvB1, and_fold, or_fold, not_fold, s1, e1, b1, v1_2, s2, e2, b2, w3, h4a, k5, s5, v1_5, v2_5, h6a, k7, s7, v1_7, v2_7, h8a] at hz
        rcases dP ((orV d e) = 4095) with ⟨h9a, h9⟩ | ⟨h9a, h9⟩
        · skip
          have w10 := (oo7.rows).len (P := Tryz.prog) (t := 48) Tryz.underlying48
          try simp (disch := first | omega | assumption) only [E0_G, SY, setArgs, off, agreeKind, partVals, vals, allocV, boxed, ldA, rdCells, oneB, aggD, aField, aFieldV, aExtract, eq_self, ne_eq, if_true, if_false, not_false_eq_true, Nat.reduceAdd, Nat.reduceSub, Nat.reduceMul, Nat.reduceLT, Nat.reduceEqDiff, Nat.reduceBEq, reduceIte, Int.reduceEq, Int.reduceLT, Int.reduceLE, reduceCtorEq, TY_EvB1, and_fold, or_fold, not_fold, s1, e1, b1, v1_2, s2, e2, b2, w3, h4a, k5, s5, v1_5, v2_5, h6a, k7, s7, v1_7, v2_7, h8a, h9a, w10] at hz
          rcases dP (1 < (((r59 (ks : List K) a b c d e f s l).1).length : Int)) with ⟨h11a, h11⟩ | ⟨h11a, h11⟩
          · skip
            try simp (disch := first | omega | assumption) only [E0_G, SY, setArgs, off, agreeKind, partVals, vals, allocV, boxed, ldA, rdCells, oneB, aggD, aField, aFieldV, aExtract, eq_self, ne_eq, if_true, if_false, not_false_eq_true, Nat.reduceAdd, Nat.reduceSub, Nat.reduceMul, Nat.reduceLT, Nat.reduceEqDiff, Nat.reduceBEq, reduceIte, Int.reduceEq, Int.reduceLT, Int.reduceLE, reduceCtorEq, TY_EvB1, and_fold, or_fold, not_fold, s1, e1, b1, v1_2, s2, e2, b2, w3, h4a, k5, s5, v1_5, v2_5, h6a, k7, s7, v1_7, v2_7, h8a, h9a, w10, h11a] at hz
            have hr : r1006 ks a b c d e f s l tr fr = false := (if_neg h4).trans ((if_pos h6).trans ((if_pos h8).trans ((if_pos h9).trans ((if_pos h11).trans (rfl)))))
            exact fin hz (by rw [hr]) g7
          · skip
            have w12 := (hv_ks.agree g7).len (P := Tryz.prog) (t := 31) Tryz.underlying31
            try simp (disch := first | omega | assumption) only [E0_G, SY, setArgs, off, agreeKind, partVals, vals, allocV, boxed, ldA, rdCells, oneB, aggD, aField, aFieldV, aExtract, eq_self, ne_eq, if_true, if_false, not_false_eq_true, Nat.reduceAdd, Nat.reduceSub, Nat.reduceMul, Nat.reduceLT, Nat.reduceEqDiff, Nat.reduceBEq, reduceIte, Int.reduceEq, Int.reduceLT, Int.reduceLE, reduceCtorEq, TY_EvB1, and_fold, or_fold, not_fold, s1, e1, b1, v1_2, s2, e2, b2, w3, h4a, k5, s5, v1_5, v2_5, h6a, k7, s7, v1_7, v2_7, h8a, h9a, w10, h11a, w12] at hz
            rcases dP (0 < (ks.length : Int)) with ⟨h13a, h13⟩ | ⟨h13a, h13⟩
            · skip
              have w14 := (hv_ks.agree g7).len (P := Tryz.prog) (t := 31) Tryz.underlying31
              have w15 : IntKind.i64.wrap ((ks.length : Int) - 1) = ((ks.length - 1 : Nat) : Int) := by rw [IntWalk.i64_in] <;> omega
              have hx16 : ks[(ks.length - 1)]? = some (lget ks (ks.length - 1)) := lget_some (by first | omega | simp; omega)
              obtain ⟨id16, of16, cc16, ty16, wr16, ex16, i16, j16, l16, q16⟩ := (hv_ks).at (P := Tryz.prog) (t := 31) Tryz.underlying31 tz52 hx16
              have j16 := (g7.2 id16 l16).trans j16
              have m16_0 : cc16[of16]? = some (.int .i64 ((lget ks (ks.length - 1)).i)) := q16 0 (show 0 < 3 by decide)
              have m16_1 : cc16[of16 + 1]? = some (.int .i64 ((lget ks (ks.length - 1)).t)) := q16 1 (show 1 < 3 by decide)
              have m16_2 : cc16[of16 + 2]? = some (.int .i64 ((lget ks (ks.length - 1)).p)) := q16 2 (show 2 < 3 by decide)
              try simp (disch := first | omega | assumption) only [E0_G, SY, setArgs, off, agreeKind, partVals, vals, allocV, boxed, ldA, rdCells, oneB, aggD, aField, aFieldV, aExtract, eq_self, ne_eq, if_true, if_false, not_false_eq_true, Nat.reduceAdd, Nat.reduceSub, Nat.reduceMul, Nat.reduceLT, Nat.reduceEqDiff, Nat.reduceBEq, reduceIte, Int.reduceEq, Int.reduceLT, Int.reduceLE, reduceCtorEq, TY_EvB1, and_fold, or_fold, not_fold, s1, e1, b1, v1_2, s2, e2, b2, w3, h4a, k5, s5, v1_5, v2_5, h6a, k7, s7, v1_7, v2_7, h8a, h9a, w10, h11a, w12, h13a, w14, w15, i16, j16, m16_0, m16_1, m16_2] at hz
              rcases dP (1099511627776 < (IntKind.i64.wrap (((lget ks (ks.length - 1)).i) + 1))) with ⟨h17a, h17⟩ | ⟨h17a, h17⟩
              · skip
                try simp (disch := first | omega | assumption) only [E0_G, SY, setArgs, off, agreeKind, partVals, vals, allocV, boxed, ldA, rdCells, oneB, aggD, aField, aFieldV, aExtract, eq_self, ne_eq, if_true, if_false, not_false_eq_true, Nat.reduceAdd, Nat.reduceSub, Nat.reduceMul, Nat.reduceLT, Nat.reduceEqDiff, Nat.reduceBEq, reduceIte, Int.reduceEq, Int.reduceLT, Int.reduceLE, reduceCtorEq, TY_EvB1, and_fold, or_fold, not_fold, s1, e1, b1, v1_2, s2, e2, b2, w3, h4a, k5, s5, v1_5, v2_5, h6a, k7, s7, v1_7, v2_7, h8a, h9a, w10, h11a, w12, h13a, w14, w15, i16, j16, m16_0, m16_1, m16_2, h17a, c15s] at hz
                have hr : r1006 ks a b c d e f s l tr fr = true := (if_neg h4).trans ((if_pos h6).trans ((if_pos h8).trans ((if_pos h9).trans ((if_neg h11).trans ((if_pos h13).trans ((if_pos h17).trans (rfl)))))))
                exact fin hz (by rw [hr]) g7
              · skip
                obtain ⟨S18, k18, a18⟩ := c48 (ks : List K) tr fr f s l (by first | omega | (simp; omega) | (simp; done) | assumption) S7 (v_ks) (hv_ks.agree g7) 
                have l18 := a18.1
                have s18 : E0.same S7 S18 = true := symEnv_same a18
                have v1_18 := (a18.2 S.next (by omega)).trans v1_7
                have v2_18 := (a18.2 S1.next (by omega)).trans v2_7
                have v16_18 := (a18.2 id16 (by omega)).trans j16
                have o7_19 := oo7.agree a18
                have g18 : Agree S S18 := g7.trans a18
                try simp (disch := first | omega | assumption) only [E0_G, SY, setArgs, off, agreeKind, partVals, vals, allocV, boxed, ldA, rdCells, oneB, aggD, aField, aFieldV, aExtract, eq_self, ne_eq, if_true, if_false, not_false_eq_true, Nat.reduceAdd, Nat.reduceSub, Nat.reduceMul, Nat.reduceLT, Nat.reduceEqDiff, Nat.reduceBEq, reduceIte, Int.reduceEq, Int.reduceLT, Int.reduceLE, reduceCtorEq, TY_EvB1, and_fold, or_fold, not_fold, s1, e1, b1, v1_2, s2, e2, b2, w3, h4a, k5, s5, v1_5, v2_5, h6a, k7, s7, v1_7, v2_7, h8a, h9a, w10, h11a, w12, h13a, w14, w15, i16, j16, m16_0, m16_1, m16_2, h17a, k18, s18, v1_18, v2_18, v16_18] at hz
                rcases dP (((r48 (ks : List K) tr fr f s l).2) = 0) with ⟨h20a, h20⟩ | ⟨h20a, h20⟩
                · skip
                  have y21 : aBuildSlice Tryz.prog 31 0 [] S18 = some (.slice (some ⟨S18.next, 0, none⟩) 0 0, S18.push (.cells [] 38 3 true true)) := by kernel_rfl
                  obtain ⟨S22, e22, n22, b22, a22⟩ := push_open S18 (.cells [] 38 3 true true)
                  have v1_22 := (a22.2 S.next (by omega)).trans v1_18
                  have v2_22 := (a22.2 S1.next (by omega)).trans v2_18
                  have v16_22 := (a22.2 id16 (by omega)).trans v16_18
                  have o7_23 := o7_19.agree a22
                  have g22 : Agree S S22 := g18.trans a22
                  have s22 : E0.same S18 S22 = true := symEnv_same a22
                  have ne24 : blkOf (u7) ≠ some S18.next := o7_19.new (Nat.le_refl _)
                  have o25 : Own 38 S18.next S22 (.slice (some ⟨S18.next, 0, none⟩) 0 0) ([] : List K) := .inr ⟨_, true, rfl, Nat.le_refl _, by omega, b22⟩
                  obtain ⟨u26, S26, k26, o26, n26, f26, d26⟩ := own_append (P := Tryz.prog) (t := 31) (tx := 31) (n := 2) (v := .slice (some ⟨S18.next, 0, none⟩) 0 0) o25 (hv_ks.agree g22) (by omega) (by first | omega | (simp; omega) | simp) (by first | omega | (simp; omega) | simp) Tryz.underlying31 Tryz.underlying31 ti52 tv52 rfl tz52
                  have v1_26 := (f26 S.next (by omega) (by first | (simp [blkOf]; done) | exact o25.ne (by omega) | exact o25.new (by omega) | assumption)).trans v1_22
                  have v2_26 := (f26 S1.next (by omega) (by first | (simp [blkOf]; done) | exact o25.ne (by omega) | exact o25.new (by omega) | assumption)).trans v2_22
                  have g26 : Agree S S26 := ⟨Nat.le_trans (g22).1 n26, fun id hid => (f26 id (by have := (g22).1; omega) (by first | (simp [blkOf]; done) | exact o25.ne (by omega) | assumption)).trans ((g22).2 id hid)⟩
                  have ne27 : blkOf u26 ≠ some S.next := by first | exact o26.ne (by omega) | exact o26.new (by omega) | exact d26 _ (by omega) (by first | (simp [blkOf]; done) | exact o25.ne (by omega) | exact o25.new (by omega) | assumption)
                  have ne28 : blkOf u26 ≠ some S1.next := by first | exact o26.ne (by omega) | exact o26.new (by omega) | exact d26 _ (by omega) (by first | (simp [blkOf]; done) | exact o25.ne (by omega) | exact o25.new (by omega) | assumption)
                  simp only [List.nil_append] at o26
                  have y29 : aBuild Tryz.prog 38 [(0, .int .i64 (IntKind.i64.wrap (((lget ks (ks.length - 1)).i) + 1))), (1, .int .i64 tr), (2, .int .i64 ((r48 (ks : List K) tr fr f s l).1))] = some (.agg #[.int .i64 (IntKind.i64.wrap (((lget ks (ks.length - 1)).i) + 1)), .int .i64 tr, .int .i64 ((r48 (ks : List K) tr fr f s l).1)]) := by kernel_rfl
                  have y30 : aBuildSlice Tryz.prog 31 1 [(0, .agg #[.int .i64 (IntKind.i64.wrap (((lget ks (ks.length - 1)).i) + 1)), .int .i64 tr, .int .i64 ((r48 (ks : List K) tr fr f s l).1)])] S26 = some (.slice (some ⟨S26.next, 0, none⟩) 1 1, S26.push (.cells [.int .i64 (IntKind.i64.wrap (((lget ks (ks.length - 1)).i) + 1)), .int .i64 tr, .int .i64 ((r48 (ks : List K) tr fr f s l).1)] 38 3 true true)) := by kernel_rfl
                  obtain ⟨S31, e31, n31, b31, a31⟩ := push_open S26 (.cells [.int .i64 (IntKind.i64.wrap (((lget ks (ks.length - 1)).i) + 1)), .int .i64 tr, .int .i64 ((r48 (ks : List K) tr fr f s l).1)] 38 3 true true)
                  have v1_31 := (a31.2 S.next (by omega)).trans v1_26
                  have v2_31 := (a31.2 S1.next (by omega)).trans v2_26
                  have o26_32 := o26.agree a31
                  have g31 : Agree S S31 := g26.trans a31
                  have s31 : E0.same S26 S31 = true := symEnv_same a31
                  have ne33 : blkOf (u26) ≠ some S26.next := o26.new (Nat.le_refl _)
                  have o34 : Own 38 S26.next S31 (.slice (some ⟨S26.next, 0, none⟩) 1 1) ([(⟨IntKind.i64.wrap (((lget ks (ks.length - 1)).i) + 1), tr, (r48 (ks : List K) tr fr f s l).1⟩ : K)] : List K) := .inr ⟨_, true, rfl, Nat.le_refl _, by omega, b31⟩
                  obtain ⟨u35, S35, k35, o35, n35, f35, d35⟩ := own_append (P := Tryz.prog) (t := 31) (tx := 31) (n := 2) (v := u26) o26_32 (o34.rows) (by omega) (by first | omega | (simp; omega) | simp) (by first | omega | (simp; omega) | simp) Tryz.underlying31 Tryz.underlying31 ti52 tv52 rfl tz52
                  have v1_35 := (f35 S.next (by omega) (by first | (simp [blkOf]; done) | exact o26_32.ne (by omega) | exact o26_32.new (by omega) | assumption)).trans v1_31
                  have v2_35 := (f35 S1.next (by omega) (by first | (simp [blkOf]; done) | exact o26_32.ne (by omega) | exact o26_32.new (by omega) | assumption)).trans v2_31
                  have g35 : Agree S S35 := ⟨Nat.le_trans (g31).1 n35, fun id hid => (f35 id (by have := (g31).1; omega) (by first | (simp [blkOf]; done) | exact o26_32.ne (by omega) | assumption)).trans ((g31).2 id hid)⟩
                  have ne36 : blkOf u35 ≠ some S.next := by first | exact o35.ne (by omega) | exact o35.new (by omega) | exact d35 _ (by omega) (by first | (simp [blkOf]; done) | exact o26_32.ne (by omega) | exact o26_32.new (by omega) | assumption)
                  have ne37 : blkOf u35 ≠ some S1.next := by first | exact o35.ne (by omega) | exact o35.new (by omega) | exact d35 _ (by omega) (by first | (simp [blkOf]; done) | exact o26_32.ne (by omega) | exact o26_32.new (by omega) | assumption)
                  obtain ⟨S38, k38, a38⟩ := c34 (ks ++ ([(⟨IntKind.i64.wrap (((lget ks (ks.length - 1)).i) + 1), tr, (r48 (ks : List K) tr fr f s l).1⟩ : K)]) : List K) (by first | omega | (simp; omega)) f s l S35 (u35) (o35.rows)
                  have l38 := a38.1
                  have s38 : E0.same S35 S38 = true := symEnv_same a38
                  have v1_38 := (a38.2 S.next (by omega)).trans v1_35
                  have v2_38 := (a38.2 S1.next (by omega)).trans v2_35
                  have o35_39 := o35.agree a38
                  have g38 : Agree S S38 := g35.trans a38
                  try simp (disch := first | omega | assumption) only [E0_G, SY, setArgs, off, agreeKind, partVals, vals, allocV, boxed, ldA, rdCells, oneB, aggD, aField, aFieldV, aExtract, eq_self, ne_eq, if_true, if_false, not_false_eq_true, Nat.reduceAdd, Nat.reduceSub, Nat.reduceMul, Nat.reduceLT, Nat.reduceEqDiff, Nat.reduceBEq, reduceIte, Int.reduceEq, Int.reduceLT, Int.reduceLE, reduceCtorEq, TY_EvB1, and_fold, or_fold, not_fold, s1, e1, b1, v1_2, s2, e2, b2, w3, h4a, k5, s5, v1_5, v2_5, h6a, k7, s7, v1_7, v2_7, h8a, h9a, w10, h11a, w12, h13a, w14, w15, i16, j16, m16_0, m16_1, m16_2, h17a, k18, s18, v1_18, v2_18, v16_18, h20a, y21, v1_22, v2_22, v16_22, s22, e22, b22, v1_26, v2_26, k26, y29, y30, v1_31, v2_31, s31, e31, b31, v1_35, v2_35, k35, k38, s38, v1_38, v2_38, c15s] at hz
                  rcases dP (((chk (ks ++ ([(⟨IntKind.i64.wrap (((lget ks (ks.length - 1)).i) + 1), tr, (r48 (ks : List K) tr fr f s l).1⟩ : K)])) f s l).1) = 0) with ⟨h40a, h40⟩ | ⟨h40a, h40⟩
                  · skip
                    try simp (disch := first | omega | assumption) only [E0_G, SY, setArgs, off, agreeKind, partVals, vals, allocV, boxed, ldA, rdCells, oneB, aggD, aField, aFieldV, aExtract, eq_self, ne_eq, if_true, if_false, not_false_eq_true, Nat.reduceAdd, Nat.reduceSub, Nat.reduceMul, Nat.reduceLT, Nat.reduceEqDiff, Nat.reduceBEq, reduceIte, Int.reduceEq, Int.reduceLT, Int.reduceLE, reduceCtorEq, TY_EvB1, and_fold, or_fold, not_fold, s1, e1, b1, v1_2, s2, e2, b2, w3, h4a, k5, s5, v1_5, v2_5, h6a, k7, s7, v1_7, v2_7, h8a, h9a, w10, h11a, w12, h13a, w14, w15, i16, j16, m16_0, m16_1, m16_2, h17a, k18, s18, v1_18, v2_18, v16_18, h20a, y21, v1_22, v2_22, v16_22, s22, e22, b22, v1_26, v2_26, k26, y29, y30, v1_31, v2_31, s31, e31, b31, v1_35, v2_35, k35, k38, s38, v1_38, v2_38, c15s, h40a] at hz
                    rcases dP (((chk (ks ++ ([(⟨IntKind.i64.wrap (((lget ks (ks.length - 1)).i) + 1), tr, (r48 (ks : List K) tr fr f s l).1⟩ : K)])) f s l).2) = (-1)) with ⟨h41a, h41⟩ | ⟨h41a, h41⟩
                    · skip
                      try simp (disch := first | omega | assumption) only [E0_G, SY, setArgs, off, agreeKind, partVals, vals, allocV, boxed, ldA, rdCells, oneB, aggD, aField, aFieldV, aExtract, eq_self, ne_eq, if_true, if_false, not_false_eq_true, Nat.reduceAdd, Nat.reduceSub, Nat.reduceMul, Nat.reduceLT, Nat.reduceEqDiff, Nat.reduceBEq, reduceIte, Int.reduceEq, Int.reduceLT, Int.reduceLE, reduceCtorEq, TY_EvB1, and_fold, or_fold, not_fold, s1, e1, b1, v1_2, s2, e2, b2, w3, h4a, k5, s5, v1_5, v2_5, h6a, k7, s7, v1_7, v2_7, h8a, h9a, w10, h11a, w12, h13a, w14, w15, i16, j16, m16_0, m16_1, m16_2, h17a, k18, s18, v1_18, v2_18, v16_18, h20a, y21, v1_22, v2_22, v16_22, s22, e22, b22, v1_26, v2_26, k26, y29, y30, v1_31, v2_31, s31, e31, b31, v1_35, v2_35, k35, k38, s38, v1_38, v2_38, c15s, h40a, h41a] at hz
                      have hr : r1006 ks a b c d e f s l tr fr = decide (fr ≤ ((r48 (ks : List K) tr fr f s l).1)) := (if_neg h4).trans ((if_pos h6).trans ((if_pos h8).trans ((if_pos h9).trans ((if_neg h11).trans ((if_pos h13).trans ((if_neg h17).trans ((if_pos h20).trans ((if_pos h40).trans ((if_pos h41).trans (rfl))))))))))
                      exact fin hz (by rw [hr]) g38
                    · skip
                      try simp (disch := first | omega | assumption) only [E0_G, SY, setArgs, off, agreeKind, partVals, vals, allocV, boxed, ldA, rdCells, oneB, aggD, aField, aFieldV, aExtract, eq_self, ne_eq, if_true, if_false, not_false_eq_true, Nat.reduceAdd, Nat.reduceSub, Nat.reduceMul, Nat.reduceLT, Nat.reduceEqDiff, Nat.reduceBEq, reduceIte, Int.reduceEq, Int.reduceLT, Int.reduceLE, reduceCtorEq, TY_EvB1, and_fold, or_fold, not_fold, s1, e1, b1, v1_2, s2, e2, b2, w3, h4a, k5, s5, v1_5, v2_5, h6a, k7, s7, v1_7, v2_7, h8a, h9a, w10, h11a, w12, h13a, w14, w15, i16, j16, m16_0, m16_1, m16_2, h17a, k18, s18, v1_18, v2_18, v16_18, h20a, y21, v1_22, v2_22, v16_22, s22, e22, b22, v1_26, v2_26, k26, y29, y30, v1_31, v2_31, s31, e31, b31, v1_35, v2_35, k35, k38, s38, v1_38, v2_38, c15s, h40a, h41a] at hz
                      have hr : r1006 ks a b c d e f s l tr fr = false := (if_neg h4).trans ((if_pos h6).trans ((if_pos h8).trans ((if_pos h9).trans ((if_neg h11).trans ((if_pos h13).trans ((if_neg h17).trans ((if_pos h20).trans ((if_pos h40).trans ((if_neg h41).trans (rfl))))))))))
                      exact fin hz (by rw [hr]) g38
                  · skip
                    try simp (disch := first | omega | assumption) only [E0_G, SY, setArgs, off, agreeKind, partVals, vals, allocV, boxed, ldA, rdCells, oneB, aggD, aField, aFieldV, aExtract, eq_self, ne_eq, if_true, if_false, not_false_eq_true, Nat.reduceAdd, Nat.reduceSub, Nat.reduceMul, Nat.reduceLT, Nat.reduceEqDiff, Nat.reduceBEq, reduceIte, Int.reduceEq, Int.reduceLT, Int.reduceLE, reduceCtorEq, TY_EvB1, and_fold, or_fold, not_fold, s1, e1, b1, v1_2, s2, e2, b2, w3, h4a, k5, s5, v1_5, v2_5, h6a, k7, s7, v1_7, v2_7, h8a, h9a, w10, h11a, w12, h13a, w14, w15, i16, j16, m16_0, m16_1, m16_2, h17a, k18, s18, v1_18, v2_18, v16_18, h20a, y21, v1_22, v2_22, v16_22, s22, e22, b22, v1_26, v2_26, k26, y29, y30, v1_31, v2_31, s31, e31, b31, v1_35, v2_35, k35, k38, s38, v1_38, v2_38, c15s, h40a] at hz
                    have hr : r1006 ks a b c d e f s l tr fr = false := (if_neg h4).trans ((if_pos h6).trans ((if_pos h8).trans ((if_pos h9).trans ((if_neg h11).trans ((if_pos h13).trans ((if_neg h17).trans ((if_pos h20).trans ((if_neg h40).trans (rfl)))))))))
                    exact fin hz (by rw [hr]) g38
                · skip
                  try simp (disch := first | omega | assumption) only [E0_G, SY, setArgs, off, agreeKind, partVals, vals, allocV, boxed, ldA, rdCells, oneB, aggD, aField, aFieldV, aExtract, eq_self, ne_eq, if_true, if_false, not_false_eq_true, Nat.reduceAdd, Nat.reduceSub, Nat.reduceMul, Nat.reduceLT, Nat.reduceEqDiff, Nat.reduceBEq, reduceIte, Int.reduceEq, Int.reduceLT, Int.reduceLE, reduceCtorEq, TY_EvB1, and_fold, or_fold, not_fold, s1, e1, b1, v1_2, s2, e2, b2, w3, h4a, k5, s5, v1_5, v2_5, h6a, k7, s7, v1_7, v2_7, h8a, h9a, w10, h11a, w12, h13a, w14, w15, i16, j16, m16_0, m16_1, m16_2, h17a, k18, s18, v1_18, v2_18, v16_18, h20a, c15s] at hz
                  have hr : r1006 ks a b c d e f s l tr fr = decide (((r48 (ks : List K) tr fr f s l).1) = 0) := (if_neg h4).trans ((if_pos h6).trans ((if_pos h8).trans ((if_pos h9).trans ((if_neg h11).trans ((if_pos h13).trans ((if_neg h17).trans ((if_neg h20).trans (rfl))))))))
                  exact fin hz (by rw [hr]) g18
            · skip
              obtain ⟨S42, k42, a42⟩ := c48 (ks : List K) tr fr f s l (by first | omega | (simp; omega) | (simp; done) | assumption) S7 (v_ks) (hv_ks.agree g7) 
              have l42 := a42.1
              have s42 : E0.same S7 S42 = true := symEnv_same a42
              have v1_42 := (a42.2 S.next (by omega)).trans v1_7
              have v2_42 := (a42.2 S1.next (by omega)).trans v2_7
              have o7_43 := oo7.agree a42
              have g42 : Agree S S42 := g7.trans a42
              try simp (disch := first | omega | assumption) only [E0_G, SY, setArgs, off, agreeKind, partVals, vals, allocV, boxed, ldA, rdCells, oneB, aggD, aField, aFieldV, aExtract, eq_self, ne_eq, if_true, if_false, not_false_eq_true, Nat.reduceAdd, Nat.reduceSub, Nat.reduceMul, Nat.reduceLT, Nat.reduceEqDiff, Nat.reduceBEq, reduceIte, Int.reduceEq, Int.reduceLT, Int.reduceLE, reduceCtorEq, TY_EvB1, and_fold, or_fold, not_fold, s1, e1, b1, v1_2, s2, e2, b2, w3, h4a, k5, s5, v1_5, v2_5, h6a, k7, s7, v1_7, v2_7, h8a, h9a, w10, h11a, w12, h13a, k42, s42, v1_42, v2_42] at hz
              rcases dP (((r48 (ks : List K) tr fr f s l).2) = 0) with ⟨h44a, h44⟩ | ⟨h44a, h44⟩
              · skip
                have y45 : aBuildSlice Tryz.prog 31 0 [] S42 = some (.slice (some ⟨S42.next, 0, none⟩) 0 0, S42.push (.cells [] 38 3 true true)) := by kernel_rfl
                obtain ⟨S46, e46, n46, b46, a46⟩ := push_open S42 (.cells [] 38 3 true true)
                have v1_46 := (a46.2 S.next (by omega)).trans v1_42
                have v2_46 := (a46.2 S1.next (by omega)).trans v2_42
                have o7_47 := o7_43.agree a46
                have g46 : Agree S S46 := g42.trans a46
                have s46 : E0.same S42 S46 = true := symEnv_same a46
                have ne48 : blkOf (u7) ≠ some S42.next := o7_43.new (Nat.le_refl _)
                have o49 : Own 38 S42.next S46 (.slice (some ⟨S42.next, 0, none⟩) 0 0) ([] : List K) := .inr ⟨_, true, rfl, Nat.le_refl _, by omega, b46⟩
                obtain ⟨u50, S50, k50, o50, n50, f50, d50⟩ := own_append (P := Tryz.prog) (t := 31) (tx := 31) (n := 2) (v := .slice (some ⟨S42.next, 0, none⟩) 0 0) o49 (hv_ks.agree g46) (by omega) (by first | omega | (simp; omega) | simp) (by first | omega | (simp; omega) | simp) Tryz.underlying31 Tryz.underlying31 ti52 tv52 rfl tz52
                have v1_50 := (f50 S.next (by omega) (by first | (simp [blkOf]; done) | exact o49.ne (by omega) | exact o49.new (by omega) | assumption)).trans v1_46
                have v2_50 := (f50 S1.next (by omega) (by first | (simp [blkOf]; done) | exact o49.ne (by omega) | exact o49.new (by omega) | assumption)).trans v2_46
                have g50 : Agree S S50 := ⟨Nat.le_trans (g46).1 n50, fun id hid => (f50 id (by have := (g46).1; omega) (by first | (simp [blkOf]; done) | exact o49.ne (by omega) | assumption)).trans ((g46).2 id hid)⟩
                have ne51 : blkOf u50 ≠ some S.next := by first | exact o50.ne (by omega) | exact o50.new (by omega) | exact d50 _ (by omega) (by first | (simp [blkOf]; done) | exact o49.ne (by omega) | exact o49.new (by omega) | assumption)
                have ne52 : blkOf u50 ≠ some S1.next := by first | exact o50.ne (by omega) | exact o50.new (by omega) | exact d50 _ (by omega) (by first | (simp [blkOf]; done) | exact o49.ne (by omega) | exact o49.new (by omega) | assumption)
                simp only [List.nil_append] at o50
                have y53 : aBuild Tryz.prog 38 [(0, .int .i64 1), (1, .int .i64 tr), (2, .int .i64 ((r48 (ks : List K) tr fr f s l).1))] = some (.agg #[.int .i64 1, .int .i64 tr, .int .i64 ((r48 (ks : List K) tr fr f s l).1)]) := by kernel_rfl
                have y54 : aBuildSlice Tryz.prog 31 1 [(0, .agg #[.int .i64 1, .int .i64 tr, .int .i64 ((r48 (ks : List K) tr fr f s l).1)])] S50 = some (.slice (some ⟨S50.next, 0, none⟩) 1 1, S50.push (.cells [.int .i64 1, .int .i64 tr, .int .i64 ((r48 (ks : List K) tr fr f s l).1)] 38 3 true true)) := by kernel_rfl
                obtain ⟨S55, e55, n55, b55, a55⟩ := push_open S50 (.cells [.int .i64 1, .int .i64 tr, .int .i64 ((r48 (ks : List K) tr fr f s l).1)] 38 3 true true)
                have v1_55 := (a55.2 S.next (by omega)).trans v1_50
                have v2_55 := (a55.2 S1.next (by omega)).trans v2_50
                have o50_56 := o50.agree a55
                have g55 : Agree S S55 := g50.trans a55
                have s55 : E0.same S50 S55 = true := symEnv_same a55
                have ne57 : blkOf (u50) ≠ some S50.next := o50.new (Nat.le_refl _)
                have o58 : Own 38 S50.next S55 (.slice (some ⟨S50.next, 0, none⟩) 1 1) ([(⟨1, tr, (r48 (ks : List K) tr fr f s l).1⟩ : K)] : List K) := .inr ⟨_, true, rfl, Nat.le_refl _, by omega, b55⟩
                obtain ⟨u59, S59, k59, o59, n59, f59, d59⟩ := own_append (P := Tryz.prog) (t := 31) (tx := 31) (n := 2) (v := u50) o50_56 (o58.rows) (by omega) (by first | omega | (simp; omega) | simp) (by first | omega | (simp; omega) | simp) Tryz.underlying31 Tryz.underlying31 ti52 tv52 rfl tz52
                have v1_59 := (f59 S.next (by omega) (by first | (simp [blkOf]; done) | exact o50_56.ne (by omega) | exact o50_56.new (by omega) | assumption)).trans v1_55
                have v2_59 := (f59 S1.next (by omega) (by first | (simp [blkOf]; done) | exact o50_56.ne (by omega) | exact o50_56.new (by omega) | assumption)).trans v2_55
                have g59 : Agree S S59 := ⟨Nat.le_trans (g55).1 n59, fun id hid => (f59 id (by have := (g55).1; omega) (by first | (simp [blkOf]; done) | exact o50_56.ne (by omega) | assumption)).trans ((g55).2 id hid)⟩
                have ne60 : blkOf u59 ≠ some S.next := by first | exact o59.ne (by omega) | exact o59.new (by omega) | exact d59 _ (by omega) (by first | (simp [blkOf]; done) | exact o50_56.ne (by omega) | exact o50_56.new (by omega) | assumption)
                have ne61 : blkOf u59 ≠ some S1.next := by first | exact o59.ne (by omega) | exact o59.new (by omega) | exact d59 _ (by omega) (by first | (simp [blkOf]; done) | exact o50_56.ne (by omega) | exact o50_56.new (by omega) | assumption)
                obtain ⟨S62, k62, a62⟩ := c34 (ks ++ ([(⟨1, tr, (r48 (ks : List K) tr fr f s l).1⟩ : K)]) : List K) (by first | omega | (simp; omega)) f s l S59 (u59) (o59.rows)
                have l62 := a62.1
                have s62 : E0.same S59 S62 = true := symEnv_same a62
                have v1_62 := (a62.2 S.next (by omega)).trans v1_59
                have v2_62 := (a62.2 S1.next (by omega)).trans v2_59
                have o59_63 := o59.agree a62
                have g62 : Agree S S62 := g59.trans a62
                try simp (disch := first | omega | assumption) only [E0_G, SY, setArgs, off, agreeKind, partVals, vals, allocV, boxed, ldA, rdCells, oneB, aggD, aField, aFieldV, aExtract, eq_self, ne_eq, if_true, if_false, not_false_eq_true, Nat.reduceAdd, Nat.reduceSub, Nat.reduceMul, Nat.reduceLT, Nat.reduceEqDiff, Nat.reduceBEq, reduceIte, Int.reduceEq, Int.reduceLT, Int.reduceLE, reduceCtorEq, TY_EvB1, and_fold, or_fold, not_fold, s1, e1, b1, v1_2, s2, e2, b2, w3, h4a, k5, s5, v1_5, v2_5, h6a, k7, s7, v1_7, v2_7, h8a, h9a, w10, h11a, w12, h13a, k42, s42, v1_42, v2_42, h44a, y45, v1_46, v2_46, s46, e46, b46, v1_50, v2_50, k50, y53, y54, v1_55, v2_55, s55, e55, b55, v1_59, v2_59, k59, k62, s62, v1_62, v2_62, c15s] at hz
                rcases dP (((chk (ks ++ ([(⟨1, tr, (r48 (ks : List K) tr fr f s l).1⟩ : K)])) f s l).1) = 0) with ⟨h64a, h64⟩ | ⟨h64a, h64⟩
                · skip
                  try simp (disch := first | omega | assumption) only [E0_G, SY, setArgs, off, agreeKind, partVals, vals, allocV, boxed, ldA, rdCells, oneB, aggD, aField, aFieldV, aExtract, eq_self, ne_eq, if_true, if_false, not_false_eq_true, Nat.reduceAdd, Nat.reduceSub, Nat.reduceMul, Nat.reduceLT, Nat.reduceEqDiff, Nat.reduceBEq, reduceIte, Int.reduceEq, Int.reduceLT, Int.reduceLE, reduceCtorEq, TY_EvB1, and_fold, or_fold, not_fold, s1, e1, b1, v1_2, s2, e2, b2, w3, h4a, k5, s5, v1_5, v2_5, h6a, k7, s7, v1_7, v2_7, h8a, h9a, w10, h11a, w12, h13a, k42, s42, v1_42, v2_42, h44a, y45, v1_46, v2_46, s46, e46, b46, v1_50, v2_50, k50, y53, y54, v1_55, v2_55, s55, e55, b55, v1_59, v2_59, k59, k62, s62, v1_62, v2_62, c15s, h64a] at hz
                  rcases dP (((chk (ks ++ ([(⟨1, tr, (r48 (ks : List K) tr fr f s l).1⟩ : K)])) f s l).2) = (-1)) with ⟨h65a, h65⟩ | ⟨h65a, h65⟩
                  · skip
                    try simp (disch := first | omega | assumption) only [E0_G, SY, setArgs, off, agreeKind, partVals, vals, allocV, boxed, ldA, rdCells, oneB, aggD, aField, aFieldV, aExtract, eq_self, ne_eq, if_true, if_false, not_false_eq_true, Nat.reduceAdd, Nat.reduceSub, Nat.reduceMul, Nat.reduceLT, Nat.reduceEqDiff, Nat.reduceBEq, reduceIte, Int.reduceEq, Int.reduceLT, Int.reduceLE, reduceCtorEq, TY_EvB1, and_fold, or_fold, not_fold, s1, e1, b1, v1_2, s2, e2, b2, w3, h4a, k5, s5, v1_5, v2_5, h6a, k7, s7, v1_7, v2_7, h8a, h9a, w10, h11a, w12, h13a, k42, s42, v1_42, v2_42, h44a, y45, v1_46, v2_46, s46, e46, b46, v1_50, v2_50, k50, y53, y54, v1_55, v2_55, s55, e55, b55, v1_59, v2_59, k59, k62, s62, v1_62, v2_62, c15s, h64a, h65a] at hz
                    have hr : r1006 ks a b c d e f s l tr fr = decide (fr ≤ ((r48 (ks : List K) tr fr f s l).1)) := (if_neg h4).trans ((if_pos h6).trans ((if_pos h8).trans ((if_pos h9).trans ((if_neg h11).trans ((if_neg h13).trans ((if_pos h44).trans ((if_pos h64).trans ((if_pos h65).trans (rfl)))))))))
                    exact fin hz (by rw [hr]) g62
                  · skip
                    try simp (disch := first | omega | assumption) only [E0_G, SY, setArgs, off, agreeKind, partVals, vals, allocV, boxed, ldA, rdCells, oneB, aggD, aField, aFieldV, aExtract, eq_self, ne_eq, if_true, if_false, not_false_eq_true, Nat.reduceAdd, Nat.reduceSub, Nat.reduceMul, Nat.reduceLT, Nat.reduceEqDiff, Nat.reduceBEq, reduceIte, Int.reduceEq, Int.reduceLT, Int.reduceLE, reduceCtorEq, TY_EvB1, and_fold, or_fold, not_fold, s1, e1, b1, v1_2, s2, e2, b2, w3, h4a, k5, s5, v1_5, v2_5, h6a, k7, s7, v1_7, v2_7, h8a, h9a, w10, h11a, w12, h13a, k42, s42, v1_42, v2_42, h44a, y45, v1_46, v2_46, s46, e46, b46, v1_50, v2_50, k50, y53, y54, v1_55, v2_55, s55, e55, b55, v1_59, v2_59, k59, k62, s62, v1_62, v2_62, c15s, h64a, h65a] at hz
                    have hr : r1006 ks a b c d e f s l tr fr = false := (if_neg h4).trans ((if_pos h6).trans ((if_pos h8).trans ((if_pos h9).trans ((if_neg h11).trans ((if_neg h13).trans ((if_pos h44).trans ((if_pos h64).trans ((if_neg h65).trans (rfl)))))))))
                    exact fin hz (by rw [hr]) g62
                · skip
                  try simp (disch := first | omega | assumption) only [E0_G, SY, setArgs, off, agreeKind, partVals, vals, allocV, boxed, ldA, rdCells, oneB, aggD, aField, aFieldV, aExtract, eq_self, ne_eq, if_true, if_false, not_false_eq_true, Nat.reduceAdd, Nat.reduceSub, Nat.reduceMul, Nat.reduceLT, Nat.reduceEqDiff, Nat.reduceBEq, reduceIte, Int.reduceEq, Int.reduceLT, Int.reduceLE, reduceCtorEq, TY_EvB1, and_fold, or_fold, not_fold, s1, e1, b1, v1_2, s2, e2, b2, w3, h4a, k5, s5, v1_5, v2_5, h6a, k7, s7, v1_7, v2_7, h8a, h9a, w10, h11a, w12, h13a, k42, s42, v1_42, v2_42, h44a, y45, v1_46, v2_46, s46, e46, b46, v1_50, v2_50, k50, y53, y54, v1_55, v2_55, s55, e55, b55, v1_59, v2_59, k59, k62, s62, v1_62, v2_62, c15s, h64a] at hz
                  have hr : r1006 ks a b c d e f s l tr fr = false := (if_neg h4).trans ((if_pos h6).trans ((if_pos h8).trans ((if_pos h9).trans ((if_neg h11).trans ((if_neg h13).trans ((if_pos h44).trans ((if_neg h64).trans (rfl))))))))
                  exact fin hz (by rw [hr]) g62
              · skip
                try simp (disch := first | omega | assumption) only [E0_G, SY, setArgs, off, agreeKind, partVals, vals, allocV, boxed, ldA, rdCells, oneB, aggD, aField, aFieldV, aExtract, eq_self, ne_eq, if_true, if_false, not_false_eq_true, Nat.reduceAdd, Nat.reduceSub, Nat.reduceMul, Nat.reduceLT, Nat.reduceEqDiff, Nat.reduceBEq, reduceIte, Int.reduceEq, Int.reduceLT, Int.reduceLE, reduceCtorEq, TY_EvB1, and_fold, or_fold, not_fold, s1, e1, b1, v1_2, s2, e2, b2, w3, h4a, k5, s5, v1_5, v2_5, h6a, k7, s7, v1_7, v2_7, h8a, h9a, w10, h11a, w12, h13a, k42, s42, v1_42, v2_42, h44a, c15s] at hz
                have hr : r1006 ks a b c d e f s l tr fr = decide (((r48 (ks : List K) tr fr f s l).1) = 0) := (if_neg h4).trans ((if_pos h6).trans ((if_pos h8).trans ((if_pos h9).trans ((if_neg h11).trans ((if_neg h13).trans ((if_neg h44).trans (rfl)))))))
                exact fin hz (by rw [hr]) g42
        · skip
          have w66 := (hv_ks.agree g7).len (P := Tryz.prog) (t := 31) Tryz.underlying31
          try simp (disch := first | omega | assumption) only [E0_G, SY, setArgs, off, agreeKind, partVals, vals, allocV, boxed, ldA, rdCells, oneB, aggD, aField, aFieldV, aExtract, eq_self, ne_eq, if_true, if_false, not_false_eq_true, Nat.reduceAdd, Nat.reduceSub, Nat.reduceMul, Nat.reduceLT, Nat.reduceEqDiff, Nat.reduceBEq, reduceIte, Int.reduceEq, Int.reduceLT, Int.reduceLE, reduceCtorEq, TY_EvB1, and_fold, or_fold, not_fold, s1, e1, b1, v1_2, s2, e2, b2, w3, h4a, k5, s5, v1_5, v2_5, h6a, k7, s7, v1_7, v2_7, h8a, h9a, w66] at hz
          rcases dP (0 < (ks.length : Int)) with ⟨h67a, h67⟩ | ⟨h67a, h67⟩
          · skip
            have w68 := (hv_ks.agree g7).len (P := Tryz.prog) (t := 31) Tryz.underlying31
            have w69 : IntKind.i64.wrap ((ks.length : Int) - 1) = ((ks.length - 1 : Nat) : Int) := by rw [IntWalk.i64_in] <;> omega
            have hx70 : ks[(ks.length - 1)]? = some (lget ks (ks.length - 1)) := lget_some (by first | omega | simp; omega)
            obtain ⟨id70, of70, cc70, ty70, wr70, ex70, i70, j70, l70, q70⟩ := (hv_ks).at (P := Tryz.prog) (t := 31) Tryz.underlying31 tz52 hx70
            have j70 := (g7.2 id70 l70).trans j70
            have m70_0 : cc70[of70]? = some (.int .i64 ((lget ks (ks.length - 1)).i)) := q70 0 (show 0 < 3 by decide)
            have m70_1 : cc70[of70 + 1]? = some (.int .i64 ((lget ks (ks.length - 1)).t)) := q70 1 (show 1 < 3 by decide)
            have m70_2 : cc70[of70 + 2]? = some (.int .i64 ((lget ks (ks.length - 1)).p)) := q70 2 (show 2 < 3 by decide)
            try simp (disch := first | omega | assumption) only [E0_G, SY, setArgs, off, agreeKind, partVals, vals, allocV, boxed, ldA, rdCells, oneB, aggD, aField, aFieldV, aExtract, eq_self, ne_eq, if_true, if_false, not_false_eq_true, Nat.reduceAdd, Nat.reduceSub, Nat.reduceMul, Nat.reduceLT, Nat.reduceEqDiff, Nat.reduceBEq, reduceIte, Int.reduceEq, Int.reduceLT, Int.reduceLE, reduceCtorEq, TY_EvB1, and_fold, or_fold, not_fold, s1, e1, b1, v1_2, s2, e2, b2, w3, h4a, k5, s5, v1_5, v2_5, h6a, k7, s7, v1_7, v2_7, h8a, h9a, w66, h67a, w68, w69, i70, j70, m70_0, m70_1, m70_2] at hz
            rcases dP (1099511627776 < (IntKind.i64.wrap (((lget ks (ks.length - 1)).i) + 1))) with ⟨h71a, h71⟩ | ⟨h71a, h71⟩
            · skip
              try simp (disch := first | omega | assumption) only [E0_G, SY, setArgs, off, agreeKind, partVals, vals, allocV, boxed, ldA, rdCells, oneB, aggD, aField, aFieldV, aExtract, eq_self, ne_eq, if_true, if_false, not_false_eq_true, Nat.reduceAdd, Nat.reduceSub, Nat.reduceMul, Nat.reduceLT, Nat.reduceEqDiff, Nat.reduceBEq, reduceIte, Int.reduceEq, Int.reduceLT, Int.reduceLE, reduceCtorEq, TY_EvB1, and_fold, or_fold, not_fold, s1, e1, b1, v1_2, s2, e2, b2, w3, h4a, k5, s5, v1_5, v2_5, h6a, k7, s7, v1_7, v2_7, h8a, h9a, w66, h67a, w68, w69, i70, j70, m70_0, m70_1, m70_2, h71a, c15s] at hz
              have hr : r1006 ks a b c d e f s l tr fr = true := (if_neg h4).trans ((if_pos h6).trans ((if_pos h8).trans ((if_neg h9).trans ((if_pos h67).trans ((if_pos h71).trans (rfl))))))
              exact fin hz (by rw [hr]) g7
            · skip
              obtain ⟨S72, k72, a72⟩ := c48 (ks : List K) tr fr f s l (by first | omega | (simp; omega) | (simp; done) | assumption) S7 (v_ks) (hv_ks.agree g7) 
              have l72 := a72.1
              have s72 : E0.same S7 S72 = true := symEnv_same a72
              have v1_72 := (a72.2 S.next (by omega)).trans v1_7
              have v2_72 := (a72.2 S1.next (by omega)).trans v2_7
              have v70_72 := (a72.2 id70 (by omega)).trans j70
              have o7_73 := oo7.agree a72
              have g72 : Agree S S72 := g7.trans a72
              try simp (disch := first | omega | assumption) only [E0_G, SY, setArgs, off, agreeKind, partVals, vals, allocV, boxed, ldA, rdCells, oneB, aggD, aField, aFieldV, aExtract, eq_self, ne_eq, if_true, if_false, not_false_eq_true, Nat.reduceAdd, Nat.reduceSub, Nat.reduceMul, Nat.reduceLT, Nat.reduceEqDiff, Nat.reduceBEq, reduceIte, Int.reduceEq, Int.reduceLT, Int.reduceLE, reduceCtorEq, TY_EvB1, and_fold, or_fold, not_fold, s1, e1, b1, v1_2, s2, e2, b2, w3, h4a, k5, s5, v1_5, v2_5, h6a, k7, s7, v1_7, v2_7, h8a, h9a, w66, h67a, w68, w69, i70, j70, m70_0, m70_1, m70_2, h71a, k72, s72, v1_72, v2_72, v70_72] at hz
              rcases dP (((r48 (ks : List K) tr fr f s l).2) = 0) with ⟨h74a, h74⟩ | ⟨h74a, h74⟩
              · skip
                have y75 : aBuildSlice Tryz.prog 31 0 [] S72 = some (.slice (some ⟨S72.next, 0, none⟩) 0 0, S72.push (.cells [] 38 3 true true)) := by kernel_rfl
                obtain ⟨S76, e76, n76, b76, a76⟩ := push_open S72 (.cells [] 38 3 true true)
                have v1_76 := (a76.2 S.next (by omega)).trans v1_72
                have v2_76 := (a76.2 S1.next (by omega)).trans v2_72
                have v70_76 := (a76.2 id70 (by omega)).trans v70_72
                have o7_77 := o7_73.agree a76
                have g76 : Agree S S76 := g72.trans a76
                have s76 : E0.same S72 S76 = true := symEnv_same a76
                have ne78 : blkOf (u7) ≠ some S72.next := o7_73.new (Nat.le_refl _)
                have o79 : Own 38 S72.next S76 (.slice (some ⟨S72.next, 0, none⟩) 0 0) ([] : List K) := .inr ⟨_, true, rfl, Nat.le_refl _, by omega, b76⟩
                obtain ⟨u80, S80, k80, o80, n80, f80, d80⟩ := own_append (P := Tryz.prog) (t := 31) (tx := 31) (n := 2) (v := .slice (some ⟨S72.next, 0, none⟩) 0 0) o79 (hv_ks.agree g76) (by omega) (by first | omega | (simp; omega) | simp) (by first | omega | (simp; omega) | simp) Tryz.underlying31 Tryz.underlying31 ti52 tv52 rfl tz52
                have v1_80 := (f80 S.next (by omega) (by first | (simp [blkOf]; done) | exact o79.ne (by omega) | exact o79.new (by omega) | assumption)).trans v1_76
                have v2_80 := (f80 S1.next (by omega) (by first | (simp [blkOf]; done) | exact o79.ne (by omega) | exact o79.new (by omega) | assumption)).trans v2_76
                have g80 : Agree S S80 := ⟨Nat.le_trans (g76).1 n80, fun id hid => (f80 id (by have := (g76).1; omega) (by first | (simp [blkOf]; done) | exact o79.ne (by omega) | assumption)).trans ((g76).2 id hid)⟩
                have ne81 : blkOf u80 ≠ some S.next := by first | exact o80.ne (by omega) | exact o80.new (by omega) | exact d80 _ (by omega) (by first | (simp [blkOf]; done) | exact o79.ne (by omega) | exact o79.new (by omega) | assumption)
                have ne82 : blkOf u80 ≠ some S1.next := by first | exact o80.ne (by omega) | exact o80.new (by omega) | exact d80 _ (by omega) (by first | (simp [blkOf]; done) | exact o79.ne (by omega) | exact o79.new (by omega) | assumption)
                simp only [List.nil_append] at o80
                have y83 : aBuild Tryz.prog 38 [(0, .int .i64 (IntKind.i64.wrap (((lget ks (ks.length - 1)).i) + 1))), (1, .int .i64 tr), (2, .int .i64 ((r48 (ks : List K) tr fr f s l).1))] = some (.agg #[.int .i64 (IntKind.i64.wrap (((lget ks (ks.length - 1)).i) + 1)), .int .i64 tr, .int .i64 ((r48 (ks : List K) tr fr f s l).1)]) := by kernel_rfl
                have y84 : aBuildSlice Tryz.prog 31 1 [(0, .agg #[.int .i64 (IntKind.i64.wrap (((lget ks (ks.length - 1)).i) + 1)), .int .i64 tr, .int .i64 ((r48 (ks : List K) tr fr f s l).1)])] S80 = some (.slice (some ⟨S80.next, 0, none⟩) 1 1, S80.push (.cells [.int .i64 (IntKind.i64.wrap (((lget ks (ks.length - 1)).i) + 1)), .int .i64 tr, .int .i64 ((r48 (ks : List K) tr fr f s l).1)] 38 3 true true)) := by kernel_rfl
                obtain ⟨S85, e85, n85, b85, a85⟩ := push_open S80 (.cells [.int .i64 (IntKind.i64.wrap (((lget ks (ks.length - 1)).i) + 1)), .int .i64 tr, .int .i64 ((r48 (ks : List K) tr fr f s l).1)] 38 3 true true)
                have v1_85 := (a85.2 S.next (by omega)).trans v1_80
                have v2_85 := (a85.2 S1.next (by omega)).trans v2_80
                have o80_86 := o80.agree a85
                have g85 : Agree S S85 := g80.trans a85
                have s85 : E0.same S80 S85 = true := symEnv_same a85
                have ne87 : blkOf (u80) ≠ some S80.next := o80.new (Nat.le_refl _)
                have o88 : Own 38 S80.next S85 (.slice (some ⟨S80.next, 0, none⟩) 1 1) ([(⟨IntKind.i64.wrap (((lget ks (ks.length - 1)).i) + 1), tr, (r48 (ks : List K) tr fr f s l).1⟩ : K)] : List K) := .inr ⟨_, true, rfl, Nat.le_refl _, by omega, b85⟩
                obtain ⟨u89, S89, k89, o89, n89, f89, d89⟩ := own_append (P := Tryz.prog) (t := 31) (tx := 31) (n := 2) (v := u80) o80_86 (o88.rows) (by omega) (by first | omega | (simp; omega) | simp) (by first | omega | (simp; omega) | simp) Tryz.underlying31 Tryz.underlying31 ti52 tv52 rfl tz52
                have v1_89 := (f89 S.next (by omega) (by first | (simp [blkOf]; done) | exact o80_86.ne (by omega) | exact o80_86.new (by omega) | assumption)).trans v1_85
                have v2_89 := (f89 S1.next (by omega) (by first | (simp [blkOf]; done) | exact o80_86.ne (by omega) | exact o80_86.new (by omega) | assumption)).trans v2_85
                have g89 : Agree S S89 := ⟨Nat.le_trans (g85).1 n89, fun id hid => (f89 id (by have := (g85).1; omega) (by first | (simp [blkOf]; done) | exact o80_86.ne (by omega) | assumption)).trans ((g85).2 id hid)⟩
                have ne90 : blkOf u89 ≠ some S.next := by first | exact o89.ne (by omega) | exact o89.new (by omega) | exact d89 _ (by omega) (by first | (simp [blkOf]; done) | exact o80_86.ne (by omega) | exact o80_86.new (by omega) | assumption)
                have ne91 : blkOf u89 ≠ some S1.next := by first | exact o89.ne (by omega) | exact o89.new (by omega) | exact d89 _ (by omega) (by first | (simp [blkOf]; done) | exact o80_86.ne (by omega) | exact o80_86.new (by omega) | assumption)
                obtain ⟨S92, k92, a92⟩ := c34 (ks ++ ([(⟨IntKind.i64.wrap (((lget ks (ks.length - 1)).i) + 1), tr, (r48 (ks : List K) tr fr f s l).1⟩ : K)]) : List K) (by first | omega | (simp; omega)) f s l S89 (u89) (o89.rows)
                have l92 := a92.1
                have s92 : E0.same S89 S92 = true := symEnv_same a92
                have v1_92 := (a92.2 S.next (by omega)).trans v1_89
                have v2_92 := (a92.2 S1.next (by omega)).trans v2_89
                have o89_93 := o89.agree a92
                have g92 : Agree S S92 := g89.trans a92
                try simp (disch := first | omega | assumption) only [E0_G, SY, setArgs, off, agreeKind, partVals, vals, allocV, boxed, ldA, rdCells, oneB, aggD, aField, aFieldV, aExtract, eq_self, ne_eq, if_true, if_false, not_false_eq_true, Nat.reduceAdd, Nat.reduceSub, Nat.reduceMul, Nat.reduceLT, Nat.reduceEqDiff, Nat.reduceBEq, reduceIte, Int.reduceEq, Int.reduceLT, Int.reduceLE, reduceCtorEq, TY_EvB1, and_fold, or_fold, not_fold, s1, e1, b1, v1_2, s2, e2, b2, w3, h4a, k5, s5, v1_5, v2_5, h6a, k7, s7, v1_7, v2_7, h8a, h9a, w66, h67a, w68, w69, i70, j70, m70_0, m70_1, m70_2, h71a, k72, s72, v1_72, v2_72, v70_72, h74a, y75, v1_76, v2_76, v70_76, s76, e76, b76, v1_80, v2_80, k80, y83, y84, v1_85, v2_85, s85, e85, b85, v1_89, v2_89, k89, k92, s92, v1_92, v2_92, c15s] at hz
                rcases dP (((chk (ks ++ ([(⟨IntKind.i64.wrap (((lget ks (ks.length - 1)).i) + 1), tr, (r48 (ks : List K) tr fr f s l).1⟩ : K)])) f s l).1) = 0) with ⟨h94a, h94⟩ | ⟨h94a, h94⟩
                · skip
                  try simp (disch := first | omega | assumption) only [E0_G, SY, setArgs, off, agreeKind, partVals, vals, allocV, boxed, ldA, rdCells, oneB, aggD, aField, aFieldV, aExtract, eq_self, ne_eq, if_true, if_false, not_false_eq_true, Nat.reduceAdd, Nat.reduceSub, Nat.reduceMul, Nat.reduceLT, Nat.reduceEqDiff, Nat.reduceBEq, reduceIte, Int.reduceEq, Int.reduceLT, Int.reduceLE, reduceCtorEq, TY_EvB1, and_fold, or_fold, not_fold, s1, e1, b1, v1_2, s2, e2, b2, w3, h4a, k5, s5, v1_5, v2_5, h6a, k7, s7, v1_7, v2_7, h8a, h9a, w66, h67a, w68, w69, i70, j70, m70_0, m70_1, m70_2, h71a, k72, s72, v1_72, v2_72, v70_72, h74a, y75, v1_76, v2_76, v70_76, s76, e76, b76, v1_80, v2_80, k80, y83, y84, v1_85, v2_85, s85, e85, b85, v1_89, v2_89, k89, k92, s92, v1_92, v2_92, c15s, h94a] at hz
                  rcases dP (((chk (ks ++ ([(⟨IntKind.i64.wrap (((lget ks (ks.length - 1)).i) + 1), tr, (r48 (ks : List K) tr fr f s l).1⟩ : K)])) f s l).2) = (-1)) with ⟨h95a, h95⟩ | ⟨h95a, h95⟩
                  · skip
                    try simp (disch := first | omega | assumption) only [E0_G, SY, setArgs, off, agreeKind, partVals, vals, allocV, boxed, ldA, rdCells, oneB, aggD, aField, aFieldV, aExtract, eq_self, ne_eq, if_true, if_false, not_false_eq_true, Nat.reduceAdd, Nat.reduceSub, Nat.reduceMul, Nat.reduceLT, Nat.reduceEqDiff, Nat.reduceBEq, reduceIte, Int.reduceEq, Int.reduceLT, Int.reduceLE, reduceCtorEq, TY_EvB1, and_fold, or_fold, not_fold, s1, e1, b1, v1_2, s2, e2, b2, w3, h4a, k5, s5, v1_5, v2_5, h6a, k7, s7, v1_7, v2_7, h8a, h9a, w66, h67a, w68, w69, i70, j70, m70_0, m70_1, m70_2, h71a, k72, s72, v1_72, v2_72, v70_72, h74a, y75, v1_76, v2_76, v70_76, s76, e76, b76, v1_80, v2_80, k80, y83, y84, v1_85, v2_85, s85, e85, b85, v1_89, v2_89, k89, k92, s92, v1_92, v2_92, c15s, h94a, h95a] at hz
                    have hr : r1006 ks a b c d e f s l tr fr = decide (fr ≤ ((r48 (ks : List K) tr fr f s l).1)) := (if_neg h4).trans ((if_pos h6).trans ((if_pos h8).trans ((if_neg h9).trans ((if_pos h67).trans ((if_neg h71).trans ((if_pos h74).trans ((if_pos h94).trans ((if_pos h95).trans (rfl)))))))))
                    exact fin hz (by rw [hr]) g92
                  · skip
                    try simp (disch := first | omega | assumption) only [E0_G, SY, setArgs, off, agreeKind, partVals, vals, allocV, boxed, ldA, rdCells, oneB, aggD, aField, aFieldV, aExtract, eq_self, ne_eq, if_true, if_false, not_false_eq_true, Nat.reduceAdd, Nat.reduceSub, Nat.reduceMul, Nat.reduceLT, Nat.reduceEqDiff, Nat.reduceBEq, reduceIte, Int.reduceEq, Int.reduceLT, Int.reduceLE, reduceCtorEq, TY_EvB1, and_fold, or_fold, not_fold, s1, e1, b1, v1_2, s2, e2, b2, w3, h4a, k5, s5, v1_5, v2_5, h6a, k7, s7, v1_7, v2_7, h8a, h9a, w66, h67a, w68, w69, i70, j70, m70_0, m70_1, m70_2, h71a, k72, s72, v1_72, v2_72, v70_72, h74a, y75, v1_76, v2_76, v70_76, s76, e76, b76, v1_80, v2_80, k80, y83, y84, v1_85, v2_85, s85, e85, b85, v1_89, v2_89, k89, k92, s92, v1_92, v2_92, c15s, h94a, h95a] at hz
                    have hr : r1006 ks a b c d e f s l tr fr = false := (if_neg h4).trans ((if_pos h6).trans ((if_pos h8).trans ((if_neg h9).trans ((if_pos h67).trans ((if_neg h71).trans ((if_pos h74).trans ((if_pos h94).trans ((if_neg h95).trans (rfl)))))))))
                    exact fin hz (by rw [hr]) g92
                · skip
                  try simp (disch := first | omega | assumption) only [E0_G, SY, setArgs, off, agreeKind, partVals, vals, allocV, boxed, ldA, rdCells, oneB, aggD, aField, aFieldV, aExtract, eq_self, ne_eq, if_true, if_false, not_false_eq_true, Nat.reduceAdd, Nat.reduceSub, Nat.reduceMul, Nat.reduceLT, Nat.reduceEqDiff, Nat.reduceBEq, reduceIte, Int.reduceEq, Int.reduceLT, Int.reduceLE, reduceCtorEq, TY_EvB1, and_fold, or_fold, not_fold, s1, e1, b1, v1_2, s2, e2, b2, w3, h4a, k5, s5, v1_5, v2_5, h6a, k7, s7, v1_7, v2_7, h8a, h9a, w66, h67a, w68, w69, i70, j70, m70_0, m70_1, m70_2, h71a, k72, s72, v1_72, v2_72, v70_72, h74a, y75, v1_76, v2_76, v70_76, s76, e76, b76, v1_80, v2_80, k80, y83, y84, v1_85, v2_85, s85, e85, b85, v1_89, v2_89, k89, k92, s92, v1_92, v2_92, c15s, h94a] at hz
                  have hr : r1006 ks a b c d e f s l tr fr = false := (if_neg h4).trans ((if_pos h6).trans ((if_pos h8).trans ((if_neg h9).trans ((if_pos h67).trans ((if_neg h71).trans ((if_pos h74).trans ((if_neg h94).trans (rfl))))))))
                  exact fin hz (by rw [hr]) g92
              · skip
                try simp (disch := first | omega | assumption) only [E0_G, SY, setArgs, off, agreeKind, partVals, vals, allocV, boxed, ldA, rdCells, oneB, aggD, aField, aFieldV, aExtract, eq_self, ne_eq, if_true, if_false, not_false_eq_true, Nat.reduceAdd, Nat.reduceSub, Nat.reduceMul, Nat.reduceLT, Nat.reduceEqDiff, Nat.reduceBEq, reduceIte, Int.reduceEq, Int.reduceLT, Int.reduceLE, reduceCtorEq, TY_EvB1, and_fold, or_fold, not_fold, s1, e1, b1, v1_2, s2, e2, b2, w3, h4a, k5, s5, v1_5, v2_5, h6a, k7, s7, v1_7, v2_7, h8a, h9a, w66, h67a, w68, w69, i70, j70, m70_0, m70_1, m70_2, h71a, k72, s72, v1_72, v2_72, v70_72, h74a, c15s] at hz
                have hr : r1006 ks a b c d e f s l tr fr = decide (((r48 (ks : List K) tr fr f s l).1) = 0) := (if_neg h4).trans ((if_pos h6).trans ((if_pos h8).trans ((if_neg h9).trans ((if_pos h67).trans ((if_neg h71).trans ((if_neg h74).trans (rfl)))))))
                exact fin hz (by rw [hr]) g72
          · skip
            obtain ⟨S96, k96, a96⟩ := c48 (ks : List K) tr fr f s l (by first | omega | (simp; omega) | (simp; done) | assumption) S7 (v_ks) (hv_ks.agree g7) 
            have l96 := a96.1
            have s96 : E0.same S7 S96 = true := symEnv_same a96
            have v1_96 := (a96.2 S.next (by omega)).trans v1_7
            have v2_96 := (a96.2 S1.next (by omega)).trans v2_7
            have o7_97 := oo7.agree a96
            have g96 : Agree S S96 := g7.trans a96
            try simp (disch := first | omega | assumption) only [E0_G, SY, setArgs, off, agreeKind, partVals, vals, allocV, boxed, ldA, rdCells, oneB, aggD, aField, aFieldV, aExtract, eq_self, ne_eq, if_true, if_false, not_false_eq_true, Nat.reduceAdd, Nat.reduceSub, Nat.reduceMul, Nat.reduceLT, Nat.reduceEqDiff, Nat.reduceBEq, reduceIte, Int.reduceEq, Int.reduceLT, Int.reduceLE, reduceCtorEq, TY_EvB1, and_fold, or_fold, not_fold, s1, e1, b1, v1_2, s2, e2, b2, w3, h4a, k5, s5, v1_5, v2_5, h6a, k7, s7, v1_7, v2_7, h8a, h9a, w66, h67a, k96, s96, v1_96, v2_96] at hz
            rcases dP (((r48 (ks : List K) tr fr f s l).2) = 0) with ⟨h98a, h98⟩ | ⟨h98a, h98⟩
            · skip
              have y99 : aBuildSlice Tryz.prog 31 0 [] S96 = some (.slice (some ⟨S96.next, 0, none⟩) 0 0, S96.push (.cells [] 38 3 true true)) := by kernel_rfl
              obtain ⟨S100, e100, n100, b100, a100⟩ := push_open S96 (.cells [] 38 3 true true)
              have v1_100 := (a100.2 S.next (by omega)).trans v1_96
              have v2_100 := (a100.2 S1.next (by omega)).trans v2_96
              have o7_101 := o7_97.agree a100
              have g100 : Agree S S100 := g96.trans a100
              have s100 : E0.same S96 S100 = true := symEnv_same a100
              have ne102 : blkOf (u7) ≠ some S96.next := o7_97.new (Nat.le_refl _)
              have o103 : Own 38 S96.next S100 (.slice (some ⟨S96.next, 0, none⟩) 0 0) ([] : List K) := .inr ⟨_, true, rfl, Nat.le_refl _, by omega, b100⟩
              obtain ⟨u104, S104, k104, o104, n104, f104, d104⟩ := own_append (P := Tryz.prog) (t := 31) (tx := 31) (n := 2) (v := .slice (some ⟨S96.next, 0, none⟩) 0 0) o103 (hv_ks.agree g100) (by omega) (by first | omega | (simp; omega) | simp) (by first | omega | (simp; omega) | simp) Tryz.underlying31 Tryz.underlying31 ti52 tv52 rfl tz52
              have v1_104 := (f104 S.next (by omega) (by first | (simp [blkOf]; done) | exact o103.ne (by omega) | exact o103.new (by omega) | assumption)).trans v1_100
              have v2_104 := (f104 S1.next (by omega) (by first | (simp [blkOf]; done) | exact o103.ne (by omega) | exact o103.new (by omega) | assumption)).trans v2_100
              have g104 : Agree S S104 := ⟨Nat.le_trans (g100).1 n104, fun id hid => (f104 id (by have := (g100).1; omega) (by first | (simp [blkOf]; done) | exact o103.ne (by omega) | assumption)).trans ((g100).2 id hid)⟩
              have ne105 : blkOf u104 ≠ some S.next := by first | exact o104.ne (by omega) | exact o104.new (by omega) | exact d104 _ (by omega) (by first | (simp [blkOf]; done) | exact o103.ne (by omega) | exact o103.new (by omega) | assumption)
              have ne106 : blkOf u104 ≠ some S1.next := by first | exact o104.ne (by omega) | exact o104.new (by omega) | exact d104 _ (by omega) (by first | (simp [blkOf]; done) | exact o103.ne (by omega) | exact o103.new (by omega) | assumption)
              simp only [List.nil_append] at o104
              have y107 : aBuild Tryz.prog 38 [(0, .int .i64 1), (1, .int .i64 tr), (2, .int .i64 ((r48 (ks : List K) tr fr f s l).1))] = some (.agg #[.int .i64 1, .int .i64 tr, .int .i64 ((r48 (ks : List K) tr fr f s l).1)]) := by kernel_rfl
              have y108 : aBuildSlice Tryz.prog 31 1 [(0, .agg #[.int .i64 1, .int .i64 tr, .int .i64 ((r48 (ks : List K) tr fr f s l).1)])] S104 = some (.slice (some ⟨S104.next, 0, none⟩) 1 1, S104.push (.cells [.int .i64 1, .int .i64 tr, .int .i64 ((r48 (ks : List K) tr fr f s l).1)] 38 3 true true)) := by kernel_rfl
              obtain ⟨S109, e109, n109, b109, a109⟩ := push_open S104 (.cells [.int .i64 1, .int .i64 tr, .int .i64 ((r48 (ks : List K) tr fr f s l).1)] 38 3 true true)
              have v1_109 := (a109.2 S.next (by omega)).trans v1_104
              have v2_109 := (a109.2 S1.next (by omega)).trans v2_104
              have o104_110 := o104.agree a109
              have g109 : Agree S S109 := g104.trans a109
              have s109 : E0.same S104 S109 = true := symEnv_same a109
              have ne111 : blkOf (u104) ≠ some S104.next := o104.new (Nat.le_refl _)
              have o112 : Own 38 S104.next S109 (.slice (some ⟨S104.next, 0, none⟩) 1 1) ([(⟨1, tr, (r48 (ks : List K) tr fr f s l).1⟩ : K)] : List K) := .inr ⟨_, true, rfl, Nat.le_refl _, by omega, b109⟩
              obtain ⟨u113, S113, k113, o113, n113, f113, d113⟩ := own_append (P := Tryz.prog) (t := 31) (tx := 31) (n := 2) (v := u104) o104_110 (o112.rows) (by omega) (by first | omega | (simp; omega) | simp) (by first | omega | (simp; omega) | simp) Tryz.underlying31 Tryz.underlying31 ti52 tv52 rfl tz52
              have v1_113 := (f113 S.next (by omega) (by first | (simp [blkOf]; done) | exact o104_110.ne (by omega) | exact o104_110.new (by omega) | assumption)).trans v1_109
              have v2_113 := (f113 S1.next (by omega) (by first | (simp [blkOf]; done) | exact o104_110.ne (by omega) | exact o104_110.new (by omega) | assumption)).trans v2_109
              have g113 : Agree S S113 := ⟨Nat.le_trans (g109).1 n113, fun id hid => (f113 id (by have := (g109).1; omega) (by first | (simp [blkOf]; done) | exact o104_110.ne (by omega) | assumption)).trans ((g109).2 id hid)⟩
              have ne114 : blkOf u113 ≠ some S.next := by first | exact o113.ne (by omega) | exact o113.new (by omega) | exact d113 _ (by omega) (by first | (simp [blkOf]; done) | exact o104_110.ne (by omega) | exact o104_110.new (by omega) | assumption)
              have ne115 : blkOf u113 ≠ some S1.next := by first | exact o113.ne (by omega) | exact o113.new (by omega) | exact d113 _ (by omega) (by first | (simp [blkOf]; done) | exact o104_110.ne (by omega) | exact o104_110.new (by omega) | assumption)
              obtain ⟨S116, k116, a116⟩ := c34 (ks ++ ([(⟨1, tr, (r48 (ks : List K) tr fr f s l).1⟩ : K)]) : List K) (by first | omega | (simp; omega)) f s l S113 (u113) (o113.rows)
              have l116 := a116.1
              have s116 : E0.same S113 S116 = true := symEnv_same a116
              have v1_116 := (a116.2 S.next (by omega)).trans v1_113
              have v2_116 := (a116.2 S1.next (by omega)).trans v2_113
              have o113_117 := o113.agree a116
              have g116 : Agree S S116 := g113.trans a116
              try simp (disch := first | omega | assumption) only [E0_G, SY, setArgs, off, agreeKind, partVals, vals, allocV, boxed, ldA, rdCells, oneB, aggD, aField, aFieldV, aExtract, eq_self, ne_eq, if_true, if_false, not_false_eq_true, Nat.reduceAdd, Nat.reduceSub, Nat.reduceMul, Nat.reduceLT, Nat.reduceEqDiff, Nat.reduceBEq, reduceIte, Int.reduceEq, Int.reduceLT, Int.reduceLE, reduceCtorEq, TY_EvB1, and_fold, or_fold, not_fold, s1, e1, b1, v1_2, s2, e2, b2, w3, h4a, k5, s5, v1_5, v2_5, h6a, k7, s7, v1_7, v2_7, h8a, h9a, w66, h67a, k96, s96, v1_96, v2_96, h98a, y99, v1_100, v2_100, s100, e100, b100, v1_104, v2_104, k104, y107, y108, v1_109, v2_109, s109, e109, b109, v1_113, v2_113, k113, k116, s116, v1_116, v2_116, c15s] at hz
              rcases dP (((chk (ks ++ ([(⟨1, tr, (r48 (ks : List K) tr fr f s l).1⟩ : K)])) f s l).1) = 0) with ⟨h118a, h118⟩ | ⟨h118a, h118⟩
              · skip
                try simp (disch := first | omega | assumption) only [E0_G, SY, setArgs, off, agreeKind, partVals, vals, allocV, boxed, ldA, rdCells, oneB, aggD, aField, aFieldV, aExtract, eq_self, ne_eq, if_true, if_false, not_false_eq_true, Nat.reduceAdd, Nat.reduceSub, Nat.reduceMul, Nat.reduceLT, Nat.reduceEqDiff, Nat.reduceBEq, reduceIte, Int.reduceEq, Int.reduceLT, Int.reduceLE, reduceCtorEq, TY_EvB1, and_fold, or_fold, not_fold, s1, e1, b1, v1_2, s2, e2, b2, w3, h4a, k5, s5, v1_5, v2_5, h6a, k7, s7, v1_7, v2_7, h8a, h9a, w66, h67a, k96, s96, v1_96, v2_96, h98a, y99, v1_100, v2_100, s100, e100, b100, v1_104, v2_104, k104, y107, y108, v1_109, v2_109, s109, e109, b109, v1_113, v2_113, k113, k116, s116, v1_116, v2_116, c15s, h118a] at hz
                rcases dP (((chk (ks ++ ([(⟨1, tr, (r48 (ks : List K) tr fr f s l).1⟩ : K)])) f s l).2) = (-1)) with ⟨h119a, h119⟩ | ⟨h119a, h119⟩
                · skip
                  try simp (disch := first | omega | assumption) only [E0_G, SY, setArgs, off, agreeKind, partVals, vals, allocV, boxed, ldA, rdCells, oneB, aggD, aField, aFieldV, aExtract, eq_self, ne_eq, if_true, if_false, not_false_eq_true, Nat.reduceAdd, Nat.reduceSub, Nat.reduceMul, Nat.reduceLT, Nat.reduceEqDiff, Nat.reduceBEq, reduceIte, Int.reduceEq, Int.reduceLT, Int.reduceLE, reduceCtorEq, TY_EvB1, and_fold, or_fold, not_fold, s1, e1, b1, v1_2, s2, e2, b2, w3, h4a, k5, s5, v1_5, v2_5, h6a, k7, s7, v1_7, v2_7, h8a, h9a, w66, h67a, k96, s96, v1_96, v2_96, h98a, y99, v1_100, v2_100, s100, e100, b100, v1_104, v2_104, k104, y107, y108, v1_109, v2_109, s109, e109, b109, v1_113, v2_113, k113, k116, s116, v1_116, v2_116, c15s, h118a, h119a] at hz
                  have hr : r1006 ks a b c d e f s l tr fr = decide (fr ≤ ((r48 (ks : List K) tr fr f s l).1)) := (if_neg h4).trans ((if_pos h6).trans ((if_pos h8).trans ((if_neg h9).trans ((if_neg h67).trans ((if_pos h98).trans ((if_pos h118).trans ((if_pos h119).trans (rfl))))))))
                  exact fin hz (by rw [hr]) g116
                · skip
                  try simp (disch := first | omega | assumption) only [E0_G, SY, setArgs, off, agreeKind, partVals, vals, allocV, boxed, ldA, rdCells, oneB, aggD, aField, aFieldV, aExtract, eq_self, ne_eq, if_true, if_false, not_false_eq_true, Nat.reduceAdd, Nat.reduceSub, Nat.reduceMul, Nat.reduceLT, Nat.reduceEqDiff, Nat.reduceBEq, reduceIte, Int.reduceEq, Int.reduceLT, Int.reduceLE, reduceCtorEq, TY_EvB1, and_fold, or_fold, not_fold, s1, e1, b1, v1_2, s2, e2, b2, w3, h4a, k5, s5, v1_5, v2_5, h6a, k7, s7, v1_7, v2_7, h8a, h9a, w66, h67a, k96, s96, v1_96, v2_96, h98a, y99, v1_100, v2_100, s100, e100, b100, v1_104, v2_104, k104, y107, y108, v1_109, v2_109, s109, e109, b109, v1_113, v2_113, k113, k116, s116, v1_116, v2_116, c15s, h118a, h119a] at hz
                  have hr : r1006 ks a b c d e f s l tr fr = false := (if_neg h4).trans ((if_pos h6).trans ((if_pos h8).trans ((if_neg h9).trans ((if_neg h67).trans ((if_pos h98).trans ((if_pos h118).trans ((if_neg h119).trans (rfl))))))))
                  exact fin hz (by rw [hr]) g116
              · skip
                try simp (disch := first | omega | assumption) only [E0_G, SY, setArgs, off, agreeKind, partVals, vals, allocV, boxed, ldA, rdCells, oneB, aggD, aField, aFieldV, aExtract, eq_self, ne_eq, if_true, if_false, not_false_eq_true, Nat.reduceAdd, Nat.reduceSub, Nat.reduceMul, Nat.reduceLT, Nat.reduceEqDiff, Nat.reduceBEq, reduceIte, Int.reduceEq, Int.reduceLT, Int.reduceLE, reduceCtorEq, TY_EvB1, and_fold, or_fold, not_fold, s1, e1, b1, v1_2, s2, e2, b2, w3, h4a, k5, s5, v1_5, v2_5, h6a, k7, s7, v1_7, v2_7, h8a, h9a, w66, h67a, k96, s96, v1_96, v2_96, h98a, y99, v1_100, v2_100, s100, e100, b100, v1_104, v2_104, k104, y107, y108, v1_109, v2_109, s109, e109, b109, v1_113, v2_113, k113, k116, s116, v1_116, v2_116, c15s, h118a] at hz
                have hr : r1006 ks a b c d e f s l tr fr = false := (if_neg h4).trans ((if_pos h6).trans ((if_pos h8).trans ((if_neg h9).trans ((if_neg h67).trans ((if_pos h98).trans ((if_neg h118).trans (rfl)))))))
                exact fin hz (by rw [hr]) g116
            · skip
              try simp (disch := first | omega | assumption) only [E0_G, SY, setArgs, off, agreeKind, partVals, vals, allocV, boxed, ldA, rdCells, oneB, aggD, aField, aFieldV, aExtract, eq_self, ne_eq, if_true, if_false, not_false_eq_true, Nat.reduceAdd, Nat.reduceSub, Nat.reduceMul, Nat.reduceLT, Nat.reduceEqDiff, Nat.reduceBEq, reduceIte, Int.reduceEq, Int.reduceLT, Int.reduceLE, reduceCtorEq, TY_EvB1, and_fold, or_fold, not_fold, s1, e1, b1, v1_2, s2, e2, b2, w3, h4a, k5, s5, v1_5, v2_5, h6a, k7, s7, v1_7, v2_7, h8a, h9a, w66, h67a, k96, s96, v1_96, v2_96, h98a, c15s] at hz
              have hr : r1006 ks a b c d e f s l tr fr = decide (((r48 (ks : List K) tr fr f s l).1) = 0) := (if_neg h4).trans ((if_pos h6).trans ((if_pos h8).trans ((if_neg h9).trans ((if_neg h67).trans ((if_neg h98).trans (rfl))))))
              exact fin hz (by rw [hr]) g96
      · skip
        have w120 := (hv_ks.agree g7).len (P := Tryz.prog) (t := 31) Tryz.underlying31
        try simp (disch := first | omega | assumption) only [E0_G, SY, setArgs, off, agreeKind, partVals, vals, allocV, boxed, ldA, rdCells, oneB, aggD, aField, aFieldV, aExtract, eq_self, ne_eq, if_true, if_false, not_false_eq_true, Nat.reduceAdd, Nat.reduceSub, Nat.reduceMul, Nat.reduceLT, Nat.reduceEqDiff, Nat.reduceBEq, reduceIte, Int.reduceEq, Int.reduceLT, Int.reduceLE, reduceCtorEq, TY_EvB1, and_fold, or_fold, not_fold, s1, e1, b1, v1_2, s2, e2, b2, w3, h4a, k5, s5, v1_5, v2_5, h6a, k7, s7, v1_7, v2_7, h8a, w120] at hz
        rcases dP (0 < (ks.length : Int)) with ⟨h121a, h121⟩ | ⟨h121a, h121⟩
        · skip
          have w122 := (hv_ks.agree g7).len (P := Tryz.prog) (t := 31) Tryz.underlying31
          have w123 : IntKind.i64.wrap ((ks.length : Int) - 1) = ((ks.length - 1 : Nat) : Int) := by rw [IntWalk.i64_in] <;> omega
          have hx124 : ks[(ks.length - 1)]? = some (lget ks (ks.length - 1)) := lget_some (by first | omega | simp; omega)
          obtain ⟨id124, of124, cc124, ty124, wr124, ex124, i124, j124, l124, q124⟩ := (hv_ks).at (P := Tryz.prog) (t := 31) Tryz.underlying31 tz52 hx124
          have j124 := (g7.2 id124 l124).trans j124
          have m124_0 : cc124[of124]? = some (.int .i64 ((lget ks (ks.length - 1)).i)) := q124 0 (show 0 < 3 by decide)
          have m124_1 : cc124[of124 + 1]? = some (.int .i64 ((lget ks (ks.length - 1)).t)) := q124 1 (show 1 < 3 by decide)
          have m124_2 : cc124[of124 + 2]? = some (.int .i64 ((lget ks (ks.length - 1)).p)) := q124 2 (show 2 < 3 by decide)
          try simp (disch := first | omega | assumption) only [E0_G, SY, setArgs, off, agreeKind, partVals, vals, allocV, boxed, ldA, rdCells, oneB, aggD, aField, aFieldV, aExtract, eq_self, ne_eq, if_true, if_false, not_false_eq_true, Nat.reduceAdd, Nat.reduceSub, Nat.reduceMul, Nat.reduceLT, Nat.reduceEqDiff, Nat.reduceBEq, reduceIte, Int.reduceEq, Int.reduceLT, Int.reduceLE, reduceCtorEq, TY_EvB1, and_fold, or_fold, not_fold, s1, e1, b1, v1_2, s2, e2, b2, w3, h4a, k5, s5, v1_5, v2_5, h6a, k7, s7, v1_7, v2_7, h8a, w120, h121a, w122, w123, i124, j124, m124_0, m124_1, m124_2] at hz
          rcases dP (1099511627776 < (IntKind.i64.wrap (((lget ks (ks.length - 1)).i) + 1))) with ⟨h125a, h125⟩ | ⟨h125a, h125⟩
          · skip
            try simp (disch := first | omega | assumption) only [E0_G, SY, setArgs, off, agreeKind, partVals, vals, allocV, boxed, ldA, rdCells, oneB, aggD, aField, aFieldV, aExtract, eq_self, ne_eq, if_true, if_false, not_false_eq_true, Nat.reduceAdd, Nat.reduceSub, Nat.reduceMul, Nat.reduceLT, Nat.reduceEqDiff, Nat.reduceBEq, reduceIte, Int.reduceEq, Int.reduceLT, Int.reduceLE, reduceCtorEq, TY_EvB1, and_fold, or_fold, not_fold, s1, e1, b1, v1_2, s2, e2, b2, w3, h4a, k5, s5, v1_5, v2_5, h6a, k7, s7, v1_7, v2_7, h8a, w120, h121a, w122, w123, i124, j124, m124_0, m124_1, m124_2, h125a, c15s] at hz
            have hr : r1006 ks a b c d e f s l tr fr = true := (if_neg h4).trans ((if_pos h6).trans ((if_neg h8).trans ((if_pos h121).trans ((if_pos h125).trans (rfl)))))
            exact fin hz (by rw [hr]) g7
          · skip
            obtain ⟨S126, k126, a126⟩ := c48 (ks : List K) tr fr f s l (by first | omega | (simp; omega) | (simp; done) | assumption) S7 (v_ks) (hv_ks.agree g7) 
            have l126 := a126.1
            have s126 : E0.same S7 S126 = true := symEnv_same a126
            have v1_126 := (a126.2 S.next (by omega)).trans v1_7
            have v2_126 := (a126.2 S1.next (by omega)).trans v2_7
            have v124_126 := (a126.2 id124 (by omega)).trans j124
            have o7_127 := oo7.agree a126
            have g126 : Agree S S126 := g7.trans a126
            try simp (disch := first | omega | assumption) only [E0_G, SY, setArgs, off, agreeKind, partVals, vals, allocV, boxed, ldA, rdCells, oneB, aggD, aField, aFieldV, aExtract, eq_self, ne_eq, if_true, if_false, not_false_eq_true, Nat.reduceAdd, Nat.reduceSub, Nat.reduceMul, Nat.reduceLT, Nat.reduceEqDiff, Nat.reduceBEq, reduceIte, Int.reduceEq, Int.reduceLT, Int.reduceLE, reduceCtorEq, TY_EvB1, and_fold, or_fold, not_fold, s1, e1, b1, v1_2, s2, e2, b2, w3, h4a, k5, s5, v1_5, v2_5, h6a, k7, s7, v1_7, v2_7, h8a, w120, h121a, w122, w123, i124, j124, m124_0, m124_1, m124_2, h125a, k126, s126, v1_126, v2_126, v124_126] at hz
            rcases dP (((r48 (ks : List K) tr fr f s l).2) = 0) with ⟨h128a, h128⟩ | ⟨h128a, h128⟩
            · skip
              have y129 : aBuildSlice Tryz.prog 31 0 [] S126 = some (.slice (some ⟨S126.next, 0, none⟩) 0 0, S126.push (.cells [] 38 3 true true)) := by kernel_rfl
              obtain ⟨S130, e130, n130, b130, a130⟩ := push_open S126 (.cells [] 38 3 true true)
              have v1_130 := (a130.2 S.next (by omega)).trans v1_126
              have v2_130 := (a130.2 S1.next (by omega)).trans v2_126
              have v124_130 := (a130.2 id124 (by omega)).trans v124_126
              have o7_131 := o7_127.agree a130
              have g130 : Agree S S130 := g126.trans a130
              have s130 : E0.same S126 S130 = true := symEnv_same a130
              have ne132 : blkOf (u7) ≠ some S126.next := o7_127.new (Nat.le_refl _)
              have o133 : Own 38 S126.next S130 (.slice (some ⟨S126.next, 0, none⟩) 0 0) ([] : List K) := .inr ⟨_, true, rfl, Nat.le_refl _, by omega, b130⟩
              obtain ⟨u134, S134, k134, o134, n134, f134, d134⟩ := own_append (P := Tryz.prog) (t := 31) (tx := 31) (n := 2) (v := .slice (some ⟨S126.next, 0, none⟩) 0 0) o133 (hv_ks.agree g130) (by omega) (by first | omega | (simp; omega) | simp) (by first | omega | (simp; omega) | simp) Tryz.underlying31 Tryz.underlying31 ti52 tv52 rfl tz52
              have v1_134 := (f134 S.next (by omega) (by first | (simp [blkOf]; done) | exact o133.ne (by omega) | exact o133.new (by omega) | assumption)).trans v1_130
              have v2_134 := (f134 S1.next (by omega) (by first | (simp [blkOf]; done) | exact o133.ne (by omega) | exact o133.new (by omega) | assumption)).trans v2_130
              have g134 : Agree S S134 := ⟨Nat.le_trans (g130).1 n134, fun id hid => (f134 id (by have := (g130).1; omega) (by first | (simp [blkOf]; done) | exact o133.ne (by omega) | assumption)).trans ((g130).2 id hid)⟩
              have ne135 : blkOf u134 ≠ some S.next := by first | exact o134.ne (by omega) | exact o134.new (by omega) | exact d134 _ (by omega) (by first | (simp [blkOf]; done) | exact o133.ne (by omega) | exact o133.new (by omega) | assumption)
              have ne136 : blkOf u134 ≠ some S1.next := by first | exact o134.ne (by omega) | exact o134.new (by omega) | exact d134 _ (by omega) (by first | (simp [blkOf]; done) | exact o133.ne (by omega) | exact o133.new (by omega) | assumption)
              simp only [List.nil_append] at o134
              have y137 : aBuild Tryz.prog 38 [(0, .int .i64 (IntKind.i64.wrap (((lget ks (ks.length - 1)).i) + 1))), (1, .int .i64 tr), (2, .int .i64 ((r48 (ks : List K) tr fr f s l).1))] = some (.agg #[.int .i64 (IntKind.i64.wrap (((lget ks (ks.length - 1)).i) + 1)), .int .i64 tr, .int .i64 ((r48 (ks : List K) tr fr f s l).1)]) := by kernel_rfl
              have y138 : aBuildSlice Tryz.prog 31 1 [(0, .agg #[.int .i64 (IntKind.i64.wrap (((lget ks (ks.length - 1)).i) + 1)), .int .i64 tr, .int .i64 ((r48 (ks : List K) tr fr f s l).1)])] S134 = some (.slice (some ⟨S134.next, 0, none⟩) 1 1, S134.push (.cells [.int .i64 (IntKind.i64.wrap (((lget ks (ks.length - 1)).i) + 1)), .int .i64 tr, .int .i64 ((r48 (ks : List K) tr fr f s l).1)] 38 3 true true)) := by kernel_rfl
              obtain ⟨S139, e139, n139, b139, a139⟩ := push_open S134 (.cells [.int .i64 (IntKind.i64.wrap (((lget ks (ks.length - 1)).i) + 1)), .int .i64 tr, .int .i64 ((r48 (ks : List K) tr fr f s l).1)] 38 3 true true)
              have v1_139 := (a139.2 S.next (by omega)).trans v1_134
              have v2_139 := (a139.2 S1.next (by omega)).trans v2_134
              have o134_140 := o134.agree a139
              have g139 : Agree S S139 := g134.trans a139
              have s139 : E0.same S134 S139 = true := symEnv_same a139
              have ne141 : blkOf (u134) ≠ some S134.next := o134.new (Nat.le_refl _)
              have o142 : Own 38 S134.next S139 (.slice (some ⟨S134.next, 0, none⟩) 1 1) ([(⟨IntKind.i64.wrap (((lget ks (ks.length - 1)).i) + 1), tr, (r48 (ks : List K) tr fr f s l).1⟩ : K)] : List K) := .inr ⟨_, true, rfl, Nat.le_refl _, by omega, b139⟩
              obtain ⟨u143, S143, k143, o143, n143, f143, d143⟩ := own_append (P := Tryz.prog) (t := 31) (tx := 31) (n := 2) (v := u134) o134_140 (o142.rows) (by omega) (by first | omega | (simp; omega) | simp) (by first | omega | (simp; omega) | simp) Tryz.underlying31 Tryz.underlying31 ti52 tv52 rfl tz52
              have v1_143 := (f143 S.next (by omega) (by first | (simp [blkOf]; done) | exact o134_140.ne (by omega) | exact o134_140.new (by omega) | assumption)).trans v1_139
              have v2_143 := (f143 S1.next (by omega) (by first | (simp [blkOf]; done) | exact o134_140.ne (by omega) | exact o134_140.new (by omega) | assumption)).trans v2_139
              have g143 : Agree S S143 := ⟨Nat.le_trans (g139).1 n143, fun id hid => (f143 id (by have := (g139).1; omega) (by first | (simp [blkOf]; done) | exact o134_140.ne (by omega) | assumption)).trans ((g139).2 id hid)⟩
              have ne144 : blkOf u143 ≠ some S.next := by first | exact o143.ne (by omega) | exact o143.new (by omega) | exact d143 _ (by omega) (by first | (simp [blkOf]; done) | exact o134_140.ne (by omega) | exact o134_140.new (by omega) | assumption)
              have ne145 : blkOf u143 ≠ some S1.next := by first | exact o143.ne (by omega) | exact o143.new (by omega) | exact d143 _ (by omega) (by first | (simp [blkOf]; done) | exact o134_140.ne (by omega) | exact o134_140.new (by omega) | assumption)
              obtain ⟨S146, k146, a146⟩ := c34 (ks ++ ([(⟨IntKind.i64.wrap (((lget ks (ks.length - 1)).i) + 1), tr, (r48 (ks : List K) tr fr f s l).1⟩ : K)]) : List K) (by first | omega | (simp; omega)) f s l S143 (u143) (o143.rows)
              have l146 := a146.1
              have s146 : E0.same S143 S146 = true := symEnv_same a146
              have v1_146 := (a146.2 S.next (by omega)).trans v1_143
              have v2_146 := (a146.2 S1.next (by omega)).trans v2_143
              have o143_147 := o143.agree a146
              have g146 : Agree S S146 := g143.trans a146
              try simp (disch := first | omega | assumption) only [E0_G, SY, setArgs, off, agreeKind, partVals, vals, allocV, boxed, ldA, rdCells, oneB, aggD, aField, aFieldV, aExtract, eq_self, ne_eq, if_true, if_false, not_false_eq_true, Nat.reduceAdd, Nat.reduceSub, Nat.reduceMul, Nat.reduceLT, Nat.reduceEqDiff, Nat.reduceBEq, reduceIte, Int.reduceEq, Int.reduceLT, Int.reduceLE, reduceCtorEq, TY_EvB1, and_fold, or_fold, not_fold, s1, e1, b1, v1_2, s2, e2, b2, w3, h4a, k5, s5, v1_5, v2_5, h6a, k7, s7, v1_7, v2_7, h8a, w120, h121a, w122, w123, i124, j124, m124_0, m124_1, m124_2, h125a, k126, s126, v1_126, v2_126, v124_126, h128a, y129, v1_130, v2_130, v124_130, s130, e130, b130, v1_134, v2_134, k134, y137, y138, v1_139, v2_139, s139, e139, b139, v1_143, v2_143, k143, k146, s146, v1_146, v2_146, c15s] at hz
              rcases dP (((chk (ks ++ ([(⟨IntKind.i64.wrap (((lget ks (ks.length - 1)).i) + 1), tr, (r48 (ks : List K) tr fr f s l).1⟩ : K)])) f s l).1) = 0) with ⟨h148a, h148⟩ | ⟨h148a, h148⟩
              · skip
                try simp (disch := first | omega | assumption) only [E0_G, SY, setArgs, off, agreeKind, partVals, vals, allocV, boxed, ldA, rdCells, oneB, aggD, aField, aFieldV, aExtract, eq_self, ne_eq, if_true, if_false, not_false_eq_true, Nat.reduceAdd, Nat.reduceSub, Nat.reduceMul, Nat.reduceLT, Nat.reduceEqDiff, Nat.reduceBEq, reduceIte, Int.reduceEq, Int.reduceLT, Int.reduceLE, reduceCtorEq, TY_EvB1, and_fold, or_fold, not_fold, s1, e1, b1, v1_2, s2, e2, b2, w3, h4a, k5, s5, v1_5, v2_5, h6a, k7, s7, v1_7, v2_7, h8a, w120, h121a, w122, w123, i124, j124, m124_0, m124_1, m124_2, h125a, k126, s126, v1_126, v2_126, v124_126, h128a, y129, v1_130, v2_130, v124_130, s130, e130, b130, v1_134, v2_134, k134, y137, y138, v1_139, v2_139, s139, e139, b139, v1_143, v2_143, k143, k146, s146, v1_146, v2_146, c15s, h148a] at hz
                rcases dP (((chk (ks ++ ([(⟨IntKind.i64.wrap (((lget ks (ks.length - 1)).i) + 1), tr, (r48 (ks : List K) tr fr f s l).1⟩ : K)])) f s l).2) = (-1)) with ⟨h149a, h149⟩ | ⟨h149a, h149⟩
                · skip
                  try simp (disch := first | omega | assumption) only [E0_G, SY, setArgs, off, agreeKind, partVals, vals, allocV, boxed, ldA, rdCells, oneB, aggD, aField, aFieldV, aExtract, eq_self, ne_eq, if_true, if_false, not_false_eq_true, Nat.reduceAdd, Nat.reduceSub, Nat.reduceMul, Nat.reduceLT, Nat.reduceEqDiff, Nat.reduceBEq, reduceIte, Int.reduceEq, Int.reduceLT, Int.reduceLE, reduceCtorEq, TY_EvB1, and_fold, or_fold, not_fold, s1, e1, b1, v1_2, s2, e2, b2, w3, h4a, k5, s5, v1_5, v2_5, h6a, k7, s7, v1_7, v2_7, h8a, w120, h121a, w122, w123, i124, j124, m124_0, m124_1, m124_2, h125a, k126, s126, v1_126, v2_126, v124_126, h128a, y129, v1_130, v2_130, v124_130, s130, e130, b130, v1_134, v2_134, k134, y137, y138, v1_139, v2_139, s139, e139, b139, v1_143, v2_143, k143, k146, s146, v1_146, v2_146, c15s, h148a, h149a] at hz
                  have hr : r1006 ks a b c d e f s l tr fr = decide (fr ≤ ((r48 (ks : List K) tr fr f s l).1)) := (if_neg h4).trans ((if_pos h6).trans ((if_neg h8).trans ((if_pos h121).trans ((if_neg h125).trans ((if_pos h128).trans ((if_pos h148).trans ((if_pos h149).trans (rfl))))))))
                  exact fin hz (by rw [hr]) g146
                · skip
                  try simp (disch := first | omega | assumption) only [E0_G, SY, setArgs, off, agreeKind, partVals, vals, allocV, boxed, ldA, rdCells, oneB, aggD, aField, aFieldV, aExtract, eq_self, ne_eq, if_true, if_false, not_false_eq_true, Nat.reduceAdd, Nat.reduceSub, Nat.reduceMul, Nat.reduceLT, Nat.reduceEqDiff, Nat.reduceBEq, reduceIte, Int.reduceEq, Int.reduceLT, Int.reduceLE, reduceCtorEq, TY_EvB1, and_fold, or_fold, not_fold, s1, e1, b1, v1_2, s2, e2, b2, w3, h4a, k5, s5, v1_5, v2_5, h6a, k7, s7, v1_7, v2_7, h8a, w120, h121a, w122, w123, i124, j124, m124_0, m124_1, m124_2, h125a, k126, s126, v1_126, v2_126, v124_126, h128a, y129, v1_130, v2_130, v124_130, s130, e130, b130, v1_134, v2_134, k134, y137, y138, v1_139, v2_139, s139, e139, b139, v1_143, v2_143, k143, k146, s146, v1_146, v2_146, c15s, h148a, h149a] at hz
                  have hr : r1006 ks a b c d e f s l tr fr = false := (if_neg h4).trans ((if_pos h6).trans ((if_neg h8).trans ((if_pos h121).trans ((if_neg h125).trans ((if_pos h128).trans ((if_pos h148).trans ((if_neg h149).trans (rfl))))))))
                  exact fin hz (by rw [hr]) g146
              · skip
                try simp (disch := first | omega | assumption) only [E0_G, SY, setArgs, off, agreeKind, partVals, vals, allocV, boxed, ldA, rdCells, oneB, aggD, aField, aFieldV, aExtract, eq_self, ne_eq, if_true, if_false, not_false_eq_true, Nat.reduceAdd, Nat.reduceSub, Nat.reduceMul, Nat.reduceLT, Nat.reduceEqDiff, Nat.reduceBEq, reduceIte, Int.reduceEq, Int.reduceLT, Int.reduceLE, reduceCtorEq, TY_EvB1, and_fold, or_fold, not_fold, s1, e1, b1, v1_2, s2, e2, b2, w3, h4a, k5, s5, v1_5, v2_5, h6a, k7, s7, v1_7, v2_7, h8a, w120, h121a, w122, w123, i124, j124, m124_0, m124_1, m124_2, h125a, k126, s126, v1_126, v2_126, v124_126, h128a, y129, v1_130, v2_130, v124_130, s130, e130, b130, v1_134, v2_134, k134, y137, y138, v1_139, v2_139, s139, e139, b139, v1_143, v2_143, k143, k146, s146, v1_146, v2_146, c15s, h148a] at hz
                have hr : r1006 ks a b c d e f s l tr fr = false := (if_neg h4).trans ((if_pos h6).trans ((if_neg h8).trans ((if_pos h121).trans ((if_neg h125).trans ((if_pos h128).trans ((if_neg h148).trans (rfl)))))))
                exact fin hz (by rw [hr]) g146
            · skip
              try simp (disch := first | omega | assumption) only [E0_G, SY, setArgs, off, agreeKind, partVals, vals, allocV, boxed, ldA, rdCells, oneB, aggD, aField, aFieldV, aExtract, eq_self, ne_eq, if_true, if_false, not_false_eq_true, Nat.reduceAdd, Nat.reduceSub, Nat.reduceMul, Nat.reduceLT, Nat.reduceEqDiff, Nat.reduceBEq, reduceIte, Int.reduceEq, Int.reduceLT, Int.reduceLE, reduceCtorEq, TY_EvB1, and_fold, or_fold, not_fold, s1, e1, b1, v1_2, s2, e2, b2, w3, h4a, k5, s5, v1_5, v2_5, h6a, k7, s7, v1_7, v2_7, h8a, w120, h121a, w122, w123, i124, j124, m124_0, m124_1, m124_2, h125a, k126, s126, v1_126, v2_126, v124_126, h128a, c15s] at hz
              have hr : r1006 ks a b c d e f s l tr fr = decide (((r48 (ks : List K) tr fr f s l).1) = 0) := (if_neg h4).trans ((if_pos h6).trans ((if_neg h8).trans ((if_pos h121).trans ((if_neg h125).trans ((if_neg h128).trans (rfl))))))
              exact fin hz (by rw [hr]) g126
        · skip
          obtain ⟨S150, k150, a150⟩ := c48 (ks : List K) tr fr f s l (by first | omega | (simp; omega) | (simp; done) | assumption) S7 (v_ks) (hv_ks.agree g7) 
          have l150 := a150.1
          have s150 : E0.same S7 S150 = true := symEnv_same a150
          have v1_150 := (a150.2 S.next (by omega)).trans v1_7
          have v2_150 := (a150.2 S1.next (by omega)).trans v2_7
          have o7_151 := oo7.agree a150
          have g150 : Agree S S150 := g7.trans a150
          try simp (disch := first | omega | assumption) only [E0_G, SY, setArgs, off, agreeKind, partVals, vals, allocV, boxed, ldA, rdCells, oneB, aggD, aField, aFieldV, aExtract, eq_self, ne_eq, if_true, if_false, not_false_eq_true, Nat.reduceAdd, Nat.reduceSub, Nat.reduceMul, Nat.reduceLT, Nat.reduceEqDiff, Nat.reduceBEq, reduceIte, Int.reduceEq, Int.reduceLT, Int.reduceLE, reduceCtorEq, TY_EvB1, and_fold, or_fold, not_fold, s1, e1, b1, v1_2, s2, e2, b2, w3, h4a, k5, s5, v1_5, v2_5, h6a, k7, s7, v1_7, v2_7, h8a, w120, h121a, k150, s150, v1_150, v2_150] at hz
          rcases dP (((r48 (ks : List K) tr fr f s l).2) = 0) with ⟨h152a, h152⟩ | ⟨h152a, h152⟩
          · skip
            have y153 : aBuildSlice Tryz.prog 31 0 [] S150 = some (.slice (some ⟨S150.next, 0, none⟩) 0 0, S150.push (.cells [] 38 3 true true)) := by kernel_rfl
            obtain ⟨S154, e154, n154, b154, a154⟩ := push_open S150 (.cells [] 38 3 true true)
            have v1_154 := (a154.2 S.next (by omega)).trans v1_150
            have v2_154 := (a154.2 S1.next (by omega)).trans v2_150
            have o7_155 := o7_151.agree a154
            have g154 : Agree S S154 := g150.trans a154
            have s154 : E0.same S150 S154 = true := symEnv_same a154
            have ne156 : blkOf (u7) ≠ some S150.next := o7_151.new (Nat.le_refl _)
            have o157 : Own 38 S150.next S154 (.slice (some ⟨S150.next, 0, none⟩) 0 0) ([] : List K) := .inr ⟨_, true, rfl, Nat.le_refl _, by omega, b154⟩
            obtain ⟨u158, S158, k158, o158, n158, f158, d158⟩ := own_append (P := Tryz.prog) (t := 31) (tx := 31) (n := 2) (v := .slice (some ⟨S150.next, 0, none⟩) 0 0) o157 (hv_ks.agree g154) (by omega) (by first | omega | (simp; omega) | simp) (by first | omega | (simp; omega) | simp) Tryz.underlying31 Tryz.underlying31 ti52 tv52 rfl tz52
            have v1_158 := (f158 S.next (by omega) (by first | (simp [blkOf]; done) | exact o157.ne (by omega) | exact o157.new (by omega) | assumption)).trans v1_154
            have v2_158 := (f158 S1.next (by omega) (by first | (simp [blkOf]; done) | exact o157.ne (by omega) | exact o157.new (by omega) | assumption)).trans v2_154
            have g158 : Agree S S158 := ⟨Nat.le_trans (g154).1 n158, fun id hid => (f158 id (by have := (g154).1; omega) (by first | (simp [blkOf]; done) | exact o157.ne (by omega) | assumption)).trans ((g154).2 id hid)⟩
            have ne159 : blkOf u158 ≠ some S.next := by first | exact o158.ne (by omega) | exact o158.new (by omega) | exact d158 _ (by omega) (by first | (simp [blkOf]; done) | exact o157.ne (by omega) | exact o157.new (by omega) | assumption)
            have ne160 : blkOf u158 ≠ some S1.next := by first | exact o158.ne (by omega) | exact o158.new (by omega) | exact d158 _ (by omega) (by first | (simp [blkOf]; done) | exact o157.ne (by omega) | exact o157.new (by omega) | assumption)
            simp only [List.nil_append] at o158
            have y161 : aBuild Tryz.prog 38 [(0, .int .i64 1), (1, .int .i64 tr), (2, .int .i64 ((r48 (ks : List K) tr fr f s l).1))] = some (.agg #[.int .i64 1, .int .i64 tr, .int .i64 ((r48 (ks : List K) tr fr f s l).1)]) := by kernel_rfl
            have y162 : aBuildSlice Tryz.prog 31 1 [(0, .agg #[.int .i64 1, .int .i64 tr, .int .i64 ((r48 (ks : List K) tr fr f s l).1)])] S158 = some (.slice (some ⟨S158.next, 0, none⟩) 1 1, S158.push (.cells [.int .i64 1, .int .i64 tr, .int .i64 ((r48 (ks : List K) tr fr f s l).1)] 38 3 true true)) := by kernel_rfl
            obtain ⟨S163, e163, n163, b163, a163⟩ := push_open S158 (.cells [.int .i64 1, .int .i64 tr, .int .i64 ((r48 (ks : List K) tr fr f s l).1)] 38 3 true true)
            have v1_163 := (a163.2 S.next (by omega)).trans v1_158
            have v2_163 := (a163.2 S1.next (by omega)).trans v2_158
            have o158_164 := o158.agree a163
            have g163 : Agree S S163 := g158.trans a163
            have s163 : E0.same S158 S163 = true := symEnv_same a163
            have ne165 : blkOf (u158) ≠ some S158.next := o158.new (Nat.le_refl _)
            have o166 : Own 38 S158.next S163 (.slice (some ⟨S158.next, 0, none⟩) 1 1) ([(⟨1, tr, (r48 (ks : List K) tr fr f s l).1⟩ : K)] : List K) := .inr ⟨_, true, rfl, Nat.le_refl _, by omega, b163⟩
            obtain ⟨u167, S167, k167, o167, n167, f167, d167⟩ := own_append (P := Tryz.prog) (t := 31) (tx := 31) (n := 2) (v := u158) o158_164 (o166.rows) (by omega) (by first | omega | (simp; omega) | simp) (by first | omega | (simp; omega) | simp) Tryz.underlying31 Tryz.underlying31 ti52 tv52 rfl tz52
            have v1_167 := (f167 S.next (by omega) (by first | (simp [blkOf]; done) | exact o158_164.ne (by omega) | exact o158_164.new (by omega) | assumption)).trans v1_163
            have v2_167 := (f167 S1.next (by omega) (by first | (simp [blkOf]; done) | exact o158_164.ne (by omega) | exact o158_164.new (by omega) | assumption)).trans v2_163
            have g167 : Agree S S167 := ⟨Nat.le_trans (g163).1 n167, fun id hid => (f167 id (by have := (g163).1; omega) (by first | (simp [blkOf]; done) | exact o158_164.ne (by omega) | assumption)).trans ((g163).2 id hid)⟩
            have ne168 : blkOf u167 ≠ some S.next := by first | exact o167.ne (by omega) | exact o167.new (by omega) | exact d167 _ (by omega) (by first | (simp [blkOf]; done) | exact o158_164.ne (by omega) | exact o158_164.new (by omega) | assumption)
            have ne169 : blkOf u167 ≠ some S1.next := by first | exact o167.ne (by omega) | exact o167.new (by omega) | exact d167 _ (by omega) (by first | (simp [blkOf]; done) | exact o158_164.ne (by omega) | exact o158_164.new (by omega) | assumption)
            obtain ⟨S170, k170, a170⟩ := c34 (ks ++ ([(⟨1, tr, (r48 (ks : List K) tr fr f s l).1⟩ : K)]) : List K) (by first | omega | (simp; omega)) f s l S167 (u167) (o167.rows)
            have l170 := a170.1
            have s170 : E0.same S167 S170 = true := symEnv_same a170
            have v1_170 := (a170.2 S.next (by omega)).trans v1_167
            have v2_170 := (a170.2 S1.next (by omega)).trans v2_167
            have o167_171 := o167.agree a170
            have g170 : Agree S S170 := g167.trans a170
            try simp (disch := first | omega | assumption) only [E0_G, SY, setArgs, off, agreeKind, partVals, vals, allocV, boxed, ldA, rdCells, oneB, aggD, aField, aFieldV, aExtract, eq_self, ne_eq, if_true, if_false, not_false_eq_true, Nat.reduceAdd, Nat.reduceSub, Nat.reduceMul, Nat.reduceLT, Nat.reduceEqDiff, Nat.reduceBEq, reduceIte, Int.reduceEq, Int.reduceLT, Int.reduceLE, reduceCtorEq, TY_EvB1, and_fold, or_fold, not_fold, s1, e1, b1, v1_2, s2, e2, b2, w3, h4a, k5, s5, v1_5, v2_5, h6a, k7, s7, v1_7, v2_7, h8a, w120, h121a, k150, s150, v1_150, v2_150, h152a, y153, v1_154, v2_154, s154, e154, b154, v1_158, v2_158, k158, y161, y162, v1_163, v2_163, s163, e163, b163, v1_167, v2_167, k167, k170, s170, v1_170, v2_170, c15s] at hz
            rcases dP (((chk (ks ++ ([(⟨1, tr, (r48 (ks : List K) tr fr f s l).1⟩ : K)])) f s l).1) = 0) with ⟨h172a, h172⟩ | ⟨h172a, h172⟩
            · skip
              try simp (disch := first | omega | assumption) only [E0_G, SY, setArgs, off, agreeKind, partVals, vals, allocV, boxed, ldA, rdCells, oneB, aggD, aField, aFieldV, aExtract, eq_self, ne_eq, if_true, if_false, not_false_eq_true, Nat.reduceAdd, Nat.reduceSub, Nat.reduceMul, Nat.reduceLT, Nat.reduceEqDiff, Nat.reduceBEq, reduceIte, Int.reduceEq, Int.reduceLT, Int.reduceLE, reduceCtorEq, TY_EvB1, and_fold, or_fold, not_fold, s1, e1, b1, v1_2, s2, e2, b2, w3, h4a, k5, s5, v1_5, v2_5, h6a, k7, s7, v1_7, v2_7, h8a, w120, h121a, k150, s150, v1_150, v2_150, h152a, y153, v1_154, v2_154, s154, e154, b154, v1_158, v2_158, k158, y161, y162, v1_163, v2_163, s163, e163, b163, v1_167, v2_167, k167, k170, s170, v1_170, v2_170, c15s, h172a] at hz
              rcases dP (((chk (ks ++ ([(⟨1, tr, (r48 (ks : List K) tr fr f s l).1⟩ : K)])) f s l).2) = (-1)) with ⟨h173a, h173⟩ | ⟨h173a, h173⟩
              · skip
                try simp (disch := first | omega | assumption) only [E0_G, SY, setArgs, off, agreeKind, partVals, vals, allocV, boxed, ldA, rdCells, oneB, aggD, aField, aFieldV, aExtract, eq_self, ne_eq, if_true, if_false, not_false_eq_true, Nat.reduceAdd, Nat.reduceSub, Nat.reduceMul, Nat.reduceLT, Nat.reduceEqDiff, Nat.reduceBEq, reduceIte, Int.reduceEq, Int.reduceLT, Int.reduceLE, reduceCtorEq, TY_EvB1, and_fold, or_fold, not_fold, s1, e1, b1, v1_2, s2, e2, b2, w3, h4a, k5, s5, v1_5, v2_5, h6a, k7, s7, v1_7, v2_7, h8a, w120, h121a, k150, s150, v1_150, v2_150, h152a, y153, v1_154, v2_154, s154, e154, b154, v1_158, v2_158, k158, y161, y162, v1_163, v2_163, s163, e163, b163, v1_167, v2_167, k167, k170, s170, v1_170, v2_170, c15s, h172a, h173a] at hz
                have hr : r1006 ks a b c d e f s l tr fr = decide (fr ≤ ((r48 (ks : List K) tr fr f s l).1)) := (if_neg h4).trans ((if_pos h6).trans ((if_neg h8).trans ((if_neg h121).trans ((if_pos h152).trans ((if_pos h172).trans ((if_pos h173).trans (rfl)))))))
                exact fin hz (by rw [hr]) g170
              · skip
                try simp (disch := first | omega | assumption) only [E0_G, SY, setArgs, off, agreeKind, partVals, vals, allocV, boxed, ldA, rdCells, oneB, aggD, aField, aFieldV, aExtract, eq_self, ne_eq, if_true, if_false, not_false_eq_true, Nat.reduceAdd, Nat.reduceSub, Nat.reduceMul, Nat.reduceLT, Nat.reduceEqDiff, Nat.reduceBEq, reduceIte, Int.reduceEq, Int.reduceLT, Int.reduceLE, reduceCtorEq, TY_EvB1, and_fold, or_fold, not_fold, s1, e1, b1, v1_2, s2, e2, b2, w3, h4a, k5, s5, v1_5, v2_5, h6a, k7, s7, v1_7, v2_7, h8a, w120, h121a, k150, s150, v1_150, v2_150, h152a, y153, v1_154, v2_154, s154, e154, b154, v1_158, v2_158, k158, y161, y162, v1_163, v2_163, s163, e163, b163, v1_167, v2_167, k167, k170, s170, v1_170, v2_170, c15s, h172a, h173a] at hz
                have hr : r1006 ks a b c d e f s l tr fr = false := (if_neg h4).trans ((if_pos h6).trans ((if_neg h8).trans ((if_neg h121).trans ((if_pos h152).trans ((if_pos h172).trans ((if_neg h173).trans (rfl)))))))
                exact fin hz (by rw [hr]) g170
            · skip
              try simp (disch := first | omega | assumption) only [E0_G, SY, setArgs, off, agreeKind, partVals, vals, allocV, boxed, ldA, rdCells, oneB, aggD, aField, aFieldV, aExtract, eq_self, ne_eq, if_true, if_false, not_false_eq_true, Nat.reduceAdd, Nat.reduceSub, Nat.reduceMul, Nat.reduceLT, Nat.reduceEqDiff, Nat.reduceBEq, reduceIte, Int.reduceEq, Int.reduceLT, Int.reduceLE, reduceCtorEq, TY_EvB1, and_fold, or_fold, not_fold, s1, e1, b1, v1_2, s2, e2, b2, w3, h4a, k5, s5, v1_5, v2_5, h6a, k7, s7, v1_7, v2_7, h8a, w120, h121a, k150, s150, v1_150, v2_150, h152a, y153, v1_154, v2_154, s154, e154, b154, v1_158, v2_158, k158, y161, y162, v1_163, v2_163, s163, e163, b163, v1_167, v2_167, k167, k170, s170, v1_170, v2_170, c15s, h172a] at hz
              have hr : r1006 ks a b c d e f s l tr fr = false := (if_neg h4).trans ((if_pos h6).trans ((if_neg h8).trans ((if_neg h121).trans ((if_pos h152).trans ((if_neg h172).trans (rfl))))))
              exact fin hz (by rw [hr]) g170
          · skip
            try simp (disch := first | omega | assumption) only [E0_G, SY, setArgs, off, agreeKind, partVals, vals, allocV, boxed, ldA, rdCells, oneB, aggD, aField, aFieldV, aExtract, eq_self, ne_eq, if_true, if_false, not_false_eq_true, Nat.reduceAdd, Nat.reduceSub, Nat.reduceMul, Nat.reduceLT, Nat.reduceEqDiff, Nat.reduceBEq, reduceIte, Int.reduceEq, Int.reduceLT, Int.reduceLE, reduceCtorEq, TY_EvB1, and_fold, or_fold, not_fold, s1, e1, b1, v1_2, s2, e2, b2, w3, h4a, k5, s5, v1_5, v2_5, h6a, k7, s7, v1_7, v2_7, h8a, w120, h121a, k150, s150, v1_150, v2_150, h152a, c15s] at hz
            have hr : r1006 ks a b c d e f s l tr fr = decide (((r48 (ks : List K) tr fr f s l).1) = 0) := (if_neg h4).trans ((if_pos h6).trans ((if_neg h8).trans ((if_neg h121).trans ((if_neg h152).trans (rfl)))))
            exact fin hz (by rw [hr]) g150
    · skip
      try simp (disch := first | omega | assumption) only [E0_G, SY, setArgs, off, agreeKind, partVals, vals, allocV, boxed, ldA, rdCells, oneB, aggD, aField, aFieldV, aExtract, eq_self, ne_eq, if_true, if_false, not_false_eq_true, Nat.reduceAdd, Nat.reduceSub, Nat.reduceMul, Nat.reduceLT, Nat.reduceEqDiff, Nat.reduceBEq, reduceIte, Int.reduceEq, Int.reduceLT, Int.reduceLE, reduceCtorEq, TY_EvB1, and_fold, or_fold, not_fold, s1, e1, b1, v1_2, s2, e2, b2, w3, h4a, k5, s5, v1_5, v2_5, h6a, c15s] at hz
      have hr : r1006 ks a b c d e f s l tr fr = true := (if_neg h4).trans ((if_neg h6).trans (rfl))
      exact fin hz (by rw [hr]) g5
end Great
end Go.Proofs
end
section
/-
  The great seat of stage 1, its other half: cabinets.
-/
set_option linter.unusedSimpArgs false
set_option linter.unusedVariables false
namespace Go.Proofs
namespace Great
open Go Go.RowKit Go.Aev
set_option maxRecDepth 100000
theorem r118_iff (a b c d e set f s l : Int) : (r118 a b c d e set f s l = true) = (cnt (andV set e) ≤ f ∧ cnt (notV d set) ≤ s) := by
  unfold r118
  split
  · simp [*]
  · simp only [Bool.false_eq_true, eq_iff_iff, false_iff]; omega
theorem r117_iff (a b c d e i t p f s l : Int) : (r117 a b c d e i t p f s l = true) = (t = c ∧ cnt (andV p e) ≤ f ∧ cnt (notV d p) ≤ s) := by
  unfold r117
  split <;> simp_all [r118_iff]

/-! ### A complete mark of two keys -/
theorem cb_split (u v x y : BitVec 12) (h : ∀ k, k < 12 → x.getLsbD k = true ∨ y.getLsbD k = true) : ∀ k, k ≤ 12 → cb (u &&& ~~~v) k ≤ cb (u &&& y) k + cb (x &&& ~~~v) k
  | 0, _ => Nat.le_refl _
  | k + 1, hk => by
    have ih := cb_split u v x y h k (by omega)
    have h1 := h k (by omega)
    have hk2 : k < 12 := by omega
    simp only [cb, BitVec.getLsbD_and, BitVec.getLsbD_not, hk2, decide_true, Bool.true_and]
    generalize u.getLsbD k = bu at h1 ⊢
    generalize v.getLsbD k = bv at h1 ⊢
    generalize x.getLsbD k = bx at h1 ⊢
    generalize y.getLsbD k = bw at h1 ⊢
    cases bu <;> cases bv <;> cases bx <;> cases bw <;> simp at h1 ⊢ <;> omega
theorem full_bits {x y : BitVec 12} (h : orV (val x) (val y) = 4095) (k : Nat) (hk : k < 12) : x.getLsbD k = true ∨ y.getLsbD k = true := by
  rw [or_val] at h
  have e : x ||| y = BitVec.allOnes 12 := BitVec.eq_of_toNat_eq (by unfold val at h; rw [BitVec.toNat_allOnes]; omega)
  have : (x ||| y).getLsbD k = true := by rw [e, BitVec.getLsbD_allOnes]; simpa using hk
  rw [BitVec.getLsbD_or] at this
  simpa using this
theorem conf_of_two {k1 k2 : K} {a b c d e f s l : Int} (h1 : 0 ≤ k1.p ∧ k1.p ≤ 4095) (h2 : 0 ≤ k2.p ∧ k2.p ≤ 4095) (hM : MarkOk a b c d e) (ho : orV d e = 4095)
    (p1 : r117 a b c d e k1.i k1.t k1.p f s l = true) (p2 : r117 a b c d e k2.i k2.t k2.p f s l = true) : ConfP k1.t k1.p k2.t k2.p f s := by
  rw [r117_iff] at p1 p2
  unfold MarkOk at hM
  obtain ⟨u, hu⟩ := val_of h1.1 h1.2
  obtain ⟨v, hv⟩ := val_of h2.1 h2.2
  obtain ⟨x, hx⟩ := val_of (a := d) (by omega) (by omega)
  obtain ⟨y, hy⟩ := val_of (a := e) (by omega) (by omega)
  rw [hx, hy] at ho
  have hb := full_bits ho
  rw [hu, hx, hy] at p1
  rw [hv, hx, hy] at p2
  simp only [and_val, not_val, cnt_val] at p1 p2
  have s1 := cb_split u v x y hb 12 (Nat.le_refl _)
  have s2 := cb_split v u x y hb 12 (Nat.le_refl _)
  unfold ConfP
  rw [hu, hv]
  simp only [not_val, cnt_val]
  refine ⟨?_, ?_, by omega⟩ <;> omega
theorem R59_len_one (ks : List K) (a b c d e f s l : Int) : ∀ (m : List K) (o : List Int), m.Pairwise (fun x y => ¬ (r117 a b c d e x.i x.t x.p f s l = true ∧ r117 a b c d e y.i y.t y.p f s l = true)) →
    (R59_0 ks a b c d e f s l m o).length ≤ o.length + 1 ∧ ((∀ x ∈ m, ¬ r117 a b c d e x.i x.t x.p f s l = true) → R59_0 ks a b c d e f s l m o = o) := by
  intro m
  induction m with
  | nil => intro o _; exact ⟨by simp [R59_0], fun _ => rfl⟩
  | cons x m ih =>
    intro o h
    rw [List.pairwise_cons] at h
    unfold R59_0
    by_cases hx : r117 a b c d e x.i x.t x.p f s l = true
    · rw [if_pos hx]
      have := (ih (o ++ [x.i]) h.2).2 (fun y hy hy2 => h.1 y hy ⟨hx, hy2⟩)
      exact ⟨by rw [this]; simp, fun hh => absurd hx (hh x (by simp))⟩
    · rw [if_neg hx]
      exact ⟨(ih o h.2).1, fun hh => (ih o h.2).2 (fun y hy => hh y (by simp [hy]))⟩

/-! ### Cabinets -/
theorem exFrom_all (e : Nat → Int) : ∀ (m k : Nat), (∀ i, k ≤ i → i < k + m → e i = 0) → exFrom e m k = (0, -1)
  | 0, k, _ => rfl
  | m + 1, k, h => by
    rw [exFrom_step, if_pos (h k (Nat.le_refl _) (by omega))]
    exact exFrom_all e m (k + 1) (fun i h1 h2 => h i (by omega) (by omega))
theorem chk_zero {ks : List K} {f s l : Int} (h : (chk ks f s l).1 = 0) : InkOk f s l ∧ ks.length ≤ 40 ∧ ∀ i, i < ks.length → keyE ks f s i = 0 := by
  unfold chk at h
  by_cases hI : InkOk f s l
  · rw [if_pos hI] at h
    unfold exV at h
    by_cases h40 : 40 < (ks.length : Int)
    · rw [if_pos h40] at h; exact absurd h (by decide)
    · rw [if_neg h40] at h
      exact ⟨hI, by omega, fun i hi => exFrom_zero _ _ _ h i (Nat.zero_le _) (by omega)⟩
  · rw [if_neg hI] at h; exact absurd h (by decide)
theorem chk_ok {ks : List K} {f s l : Int} (hI : InkOk f s l) (hn : ks.length ≤ 40) (h : ∀ i, i < ks.length → keyE ks f s i = 0) : chk ks f s l = (0, -1) := by
  unfold chk exV
  rw [if_pos hI, if_neg (by omega)]
  exact exFrom_all _ _ _ (fun i _ h2 => h i (by omega))
theorem keyE_zero {ks : List K} {f s : Int} {i : Nat} {k : K} (hk : ks[i]? = some k) : keyE ks f s i = 0 ↔ placeE ks i = 0 ∧ (ks.take i).any (confK k f s) = false := by
  unfold keyE
  by_cases hp : placeE ks i = 0
  · simp only [hp, ne_eq, not_true_eq_false, if_false, hk, true_and]
    cases (ks.take i).any (confK k f s) <;> simp
  · simp [hp]
theorem cab_pairs {ks : List K} {f s : Int} (h : ∀ i, i < ks.length → keyE ks f s i = 0) : ks.Pairwise (fun x y => confK y f s x = false) := by
  rw [List.pairwise_iff_getElem]
  intro i j hi hj hij
  have hj2 : ks[j]? = some ks[j] := List.getElem?_eq_getElem hj
  have h1 := ((keyE_zero hj2).1 (h j hj)).2
  have hi2 : (ks.take j)[i]? = some ks[i] := by rw [List.getElem?_take, if_pos hij, List.getElem?_eq_getElem hi]
  have hm := List.mem_of_getElem? hi2
  rw [List.any_eq_false] at h1
  exact Bool.eq_false_iff.2 (h1 _ hm)
theorem cab_keys {ks : List K} {f s : Int} (h : ∀ i, i < ks.length → keyE ks f s i = 0) : ∀ x ∈ ks, KeyOk x.i x.t x.p := by
  intro x hx
  obtain ⟨j, hj⟩ := List.getElem?_of_mem hx
  exact place_ok hj ((keyE_zero hj).1 (h j (List.getElem?_eq_some_iff.1 hj).1)).1
theorem placeE_app {ks m : List K} {i : Nat} (hi : i < ks.length) : placeE (ks ++ m) i = placeE ks i := by
  unfold placeE
  rw [List.getElem?_append_left hi]
  cases i with
  | zero => rfl
  | succ j => simp only [List.getElem?_append_left (show j < ks.length by omega)]
theorem keyE_app {ks m : List K} {f s : Int} {i : Nat} (hi : i < ks.length) : keyE (ks ++ m) f s i = keyE ks f s i := by
  unfold keyE
  rw [placeE_app hi, List.getElem?_append_left hi, List.take_append_of_le_length (by omega)]
theorem cab_more {ks : List K} {f s l : Int} (h : (chk ks f s l).1 = 0) (h40 : ks.length < 40) {k : K} (hk : KeyOk k.i k.t k.p) (hlast : ∀ x, ks[ks.length - 1]? = some x → x.i < k.i) (hc : ks.any (confK k f s) = false) : chk (ks ++ [k]) f s l = (0, -1) := by
  obtain ⟨hI, _, hz⟩ := chk_zero h
  refine chk_ok hI (by simp; omega) (fun i hi => ?_)
  simp only [List.length_append, List.length_cons, List.length_nil] at hi
  by_cases h1 : i < ks.length
  · rw [keyE_app h1]; exact hz i h1
  · obtain rfl : i = ks.length := by omega
    have hk2 : (ks ++ [k])[ks.length]? = some k := by simp
    refine (keyE_zero hk2).2 ⟨?_, ?_⟩
    · unfold placeE
      rw [hk2]
      simp only [hk, not_true_eq_false, if_false]
      cases hn : ks.length with
      | zero => rfl
      | succ j =>
        have hj : (ks ++ [k])[j]? = ks[j]? := List.getElem?_append_left (by omega)
        have hj2 : ks[j]? = some (ks[j]'(by omega)) := List.getElem?_eq_getElem _
        have := hlast _ (by rw [hn]; exact hj2)
        simp only [hj, hj2]
        rw [if_neg (by omega)]
    · rw [List.take_append_of_le_length (Nat.le_refl _), List.take_length]; exact hc

/-! ### What is proposed -/
theorem R48_spec (ks : List K) (tr fr f s l : Int) : ∀ (m : Nat) (p q e : Int), R48_0 ks tr fr f s l m p = .inl (q, e) → e = 0 ∧ p ≤ q ∧ q ≤ 4095 ∧ ks.any (confK ⟨1, tr, q⟩ f s) = false := by
  intro m
  induction m with
  | zero => intro p q e h; cases h
  | succ m ih =>
    intro p q e h
    unfold R48_0 at h
    by_cases h1 : p ≤ 4095
    · rw [if_pos h1] at h
      by_cases h2 : ks.any (confK ⟨1, tr, p⟩ f s) = true
      · rw [if_pos h2] at h
        have := ih _ _ _ h
        exact ⟨this.1, by omega, this.2.2⟩
      · rw [if_neg h2] at h
        cases h
        exact ⟨rfl, Int.le_refl _, h1, Bool.eq_false_iff.2 h2⟩
    · rw [if_neg h1] at h; cases h
theorem r48_spec (ks : List K) (tr fr f s l : Int) : ((r48 ks tr fr f s l).2 ≠ 0 ∧ (r48 ks tr fr f s l).1 = 0) ∨
    ((r48 ks tr fr f s l).2 = 0 ∧ 0 ≤ tr ∧ tr < 4 ∧ 1 ≤ fr ∧ fr ≤ (r48 ks tr fr f s l).1 ∧ (r48 ks tr fr f s l).1 ≤ 4095 ∧ ks.any (confK ⟨1, tr, (r48 ks tr fr f s l).1⟩ f s) = false) := by
  unfold r48
  by_cases hB : bunch ks = true
  case neg => rw [if_neg hB]; left; exact ⟨by decide, rfl⟩
  rw [if_pos hB]
  by_cases ht : 0 ≤ tr ∧ tr < 4
  case neg => rw [if_neg ht]; left; exact ⟨by decide, rfl⟩
  rw [if_pos ht]
  by_cases hf : 0 ≤ fr ∧ fr ≤ 4095
  case neg => rw [if_neg hf]; left; exact ⟨by decide, rfl⟩
  rw [if_pos hf]
  by_cases h0 : fr = 0
  case pos => rw [if_pos h0]; left; exact ⟨by decide, rfl⟩
  rw [if_neg h0]
  by_cases hI : errV (InkOk f s l) = 0
  case neg => rw [if_neg hI]; left; exact ⟨by decide, rfl⟩
  rw [if_pos hI]
  generalize hR : R48_0 ks tr fr f s l ((4097 - fr).toNat) fr = R
  cases R with
  | inr u => left; exact ⟨by simp [onSum], rfl⟩
  | inl q =>
    obtain ⟨q, e⟩ := q
    have := R48_spec ks tr fr f s l _ _ _ _ hR
    right
    simp only [onSum]
    exact ⟨this.1, ht.1, ht.2, by omega, this.2.1, this.2.2.1, this.2.2.2⟩
theorem makers_one {ks : List K} {a b c d e f s l : Int} (h : (chk ks f s l).1 = 0) (h2 : (r59 ks a b c d e f s l).2 = 0) (ho : orV d e = 4095) : (r59 ks a b c d e f s l).1.length ≤ 1 := by
  obtain ⟨hI, _, hz⟩ := chk_zero h
  unfold r59 at h2 ⊢
  by_cases hB : bunch ks = true
  case neg => rw [if_neg hB]; simp
  rw [if_pos hB] at h2 ⊢
  by_cases hM : errV (MarkOk a b c d e) = 0
  case neg => rw [if_neg hM]; simp
  rw [if_pos hM] at h2 ⊢
  by_cases hI2 : errV (InkOk f s l) = 0
  case neg => rw [if_neg hI2]; simp
  rw [if_pos hI2] at h2 ⊢
  have hk := cab_keys hz
  have hp := cab_pairs hz
  have hpw : ks.Pairwise (fun x y => ¬ (r117 a b c d e x.i x.t x.p f s l = true ∧ r117 a b c d e y.i y.t y.p f s l = true)) := by
    refine List.Pairwise.imp_of_mem (fun {x y} hx hy hc hh => ?_) hp
    have hx2 := hk x hx
    have hy2 := hk y hy
    unfold KeyOk at hx2 hy2
    have := conf_of_two (k1 := y) (k2 := x) ⟨by omega, by omega⟩ ⟨by omega, by omega⟩ (errV_z'.1 hM) ho hh.2 hh.1
    unfold confK at hc
    exact of_decide_eq_false hc this
  simpa using (R59_len_one ks a b c d e f s l ks [] hpw).1
theorem r1006_true (ks : List K) (a b c d e f s l tr fr : Int) : r1006 ks a b c d e f s l tr fr = true := by
  have key : ∀ k : K, (chk ks f s l).1 = 0 → ks.length < 40 → 1 ≤ k.i → k.i ≤ 1099511627776 → k.t = tr → k.p = (r48 ks tr fr f s l).1 → (∀ x, ks[ks.length - 1]? = some x → x.i < k.i) → (r48 ks tr fr f s l).2 = 0 →
      chk (ks ++ [k]) f s l = (0, -1) ∧ fr ≤ (r48 ks tr fr f s l).1 := by
    intro k h h40 i1 i2 ht hp hlast h2
    rcases r48_spec ks tr fr f s l with ⟨h3, _⟩ | ⟨_, h3, h4, h5, h6, h7, h8⟩
    · exact absurd h2 h3
    · refine ⟨cab_more h h40 (by unfold KeyOk; rw [ht, hp]; omega) hlast ?_, h6⟩
      have : confK k f s = confK ⟨1, tr, (r48 ks tr fr f s l).1⟩ f s := by unfold confK; rw [ht, hp]
      rw [this]; exact h8
  have no : ∀ h2 : ¬ (r48 ks tr fr f s l).2 = 0, (r48 ks tr fr f s l).1 = 0 := fun h2 => by
    rcases r48_spec ks tr fr f s l with ⟨_, h⟩ | ⟨h, _⟩
    · exact h
    · exact absurd h h2
  have rest : (chk ks f s l).1 = 0 → ks.length < 40 → (if 0 < (ks.length : Int) then (if 1099511627776 < (IntKind.i64.wrap (((lget ks (ks.length - 1)).i) + 1)) then true else (if ((r48 ks tr fr f s l).2) = 0 then (if ((chk (ks ++ ([(⟨IntKind.i64.wrap (((lget ks (ks.length - 1)).i) + 1), tr, (r48 ks tr fr f s l).1⟩ : K)])) f s l).1) = 0 then (if ((chk (ks ++ ([(⟨IntKind.i64.wrap (((lget ks (ks.length - 1)).i) + 1), tr, (r48 ks tr fr f s l).1⟩ : K)])) f s l).2) = (-1) then decide (fr ≤ ((r48 ks tr fr f s l).1)) else false) else false) else decide (((r48 ks tr fr f s l).1) = 0))) else (if ((r48 ks tr fr f s l).2) = 0 then (if ((chk (ks ++ ([(⟨1, tr, (r48 ks tr fr f s l).1⟩ : K)])) f s l).1) = 0 then (if ((chk (ks ++ ([(⟨1, tr, (r48 ks tr fr f s l).1⟩ : K)])) f s l).2) = (-1) then decide (fr ≤ ((r48 ks tr fr f s l).1)) else false) else false) else decide (((r48 ks tr fr f s l).1) = 0))) = true := by
    intro h h40
    by_cases h0 : 0 < (ks.length : Int)
    · rw [if_pos h0]
      have hl : ks[ks.length - 1]? = some (lget ks (ks.length - 1)) := lget_some (by omega)
      have hK := cab_keys (chk_zero h).2.2 _ (List.mem_of_getElem? hl)
      unfold KeyOk at hK
      have hw : IntKind.i64.wrap ((lget ks (ks.length - 1)).i + 1) = (lget ks (ks.length - 1)).i + 1 := by apply IntWalk.i64_in; omega
      rw [hw]
      by_cases hbig : 1099511627776 < (lget ks (ks.length - 1)).i + 1
      · rw [if_pos hbig]
      · rw [if_neg hbig]
        by_cases h2 : (r48 ks tr fr f s l).2 = 0
        · have := key ⟨(lget ks (ks.length - 1)).i + 1, tr, (r48 ks tr fr f s l).1⟩ h h40 (by show 1 ≤ (lget ks (ks.length - 1)).i + 1; omega) (by show (lget ks (ks.length - 1)).i + 1 ≤ _; omega) rfl rfl (fun x hx => by rw [hl] at hx; cases hx; show (lget ks (ks.length - 1)).i < (lget ks (ks.length - 1)).i + 1; omega) h2
          rw [if_pos h2, this.1, if_pos rfl, if_pos rfl]
          exact decide_eq_true this.2
        · rw [if_neg h2]; exact decide_eq_true (no h2)
    · rw [if_neg h0]
      by_cases h2 : (r48 ks tr fr f s l).2 = 0
      · have := key ⟨1, tr, (r48 ks tr fr f s l).1⟩ h h40 (Int.le_refl _) (by show (1 : Int) ≤ 1099511627776; decide) rfl rfl (fun x hx => by have := (List.getElem?_eq_some_iff.1 hx).1; omega) h2
        rw [if_pos h2, this.1, if_pos rfl, if_pos rfl]
        exact decide_eq_true this.2
      · rw [if_neg h2]; exact decide_eq_true (no h2)
  unfold r1006
  by_cases h40 : 40 ≤ (ks.length : Int)
  case pos => rw [if_pos h40]
  rw [if_neg h40]
  by_cases hc : (chk ks f s l).1 = 0
  case neg => rw [if_neg hc]
  rw [if_pos hc]
  have hr := rest hc (by omega)
  by_cases h2 : (r59 ks a b c d e f s l).2 = 0
  · rw [if_pos h2]
    by_cases ho : orV d e = 4095
    · have := makers_one hc h2 ho
      rw [if_pos ho, if_neg (by omega)]
      exact hr
    · rw [if_neg ho]; exact hr
  · rw [if_neg h2]; exact hr
end Great
end Go.Proofs
end
