/-
  BS: EvA14, EvS1, EvS2, EvL.
-/
import Derived.Test.YtgbjgljchkodjaaGreatDoorEvA13
import Derived.Test.YtgbjgljchkodjaaGreatDoorAE4
section
/-
  The great seat of stage 1: the order of the cuts, by the generator.
-/
set_option linter.unusedSimpArgs false
set_option linter.unusedVariables false
namespace Go.Proofs
namespace Great
open Go Go.RowKit Go.Aev
set_option maxRecDepth 100000
theorem tz182 : szOf Tryz.prog 141 = some 3 := by kernel_rfl
theorem tt182 : inTab Tryz.prog 141 = true := by kernel_rfl
theorem t0_182 : zeroOf Tryz.prog 141 = some (.agg #[.int .i64 0, .int .i64 0, .int .i64 0]) := by kernel_rfl
theorem tz183 : szOf Tryz.prog 142 = some 3 := by kernel_rfl
theorem tt183 : inTab Tryz.prog 142 = true := by kernel_rfl
theorem t0_183 : zeroOf Tryz.prog 142 = some (.agg #[.int .i64 0, .int .i64 0, .int .i64 0]) := by kernel_rfl
theorem ti183 : (Tryz.prog.info? 142).map (fun i => Nat.ble i.bytes 65536) = some true := by kernel_rfl
theorem tv183 : (zeroOf Tryz.prog 142).isSome = true := by kernel_rfl
/-- What is known of the types. -/
theorem TY_EvA14 : type_of% (And.intro (And.intro (And.intro (And.intro (And.intro (And.intro Tryz.underlying3 tz3) (And.intro tt3 (And.intro t0_3 Tryz.underlying22))) (And.intro (And.intro tz22 (And.intro tt22 t0_22)) (And.intro Tryz.underlying56 (And.intro tz43 tt43)))) (And.intro (And.intro (And.intro t0_43 Tryz.underlying59) (And.intro tz44 (And.intro tt44 t0_44))) (And.intro (And.intro Tryz.underlying60 (And.intro tz45 tt45)) (And.intro t0_45 (And.intro Tryz.underlying62 tz51))))) (And.intro (And.intro (And.intro (And.intro tt51 t0_51) (And.intro Tryz.underlying63 (And.intro tz52 tt52))) (And.intro (And.intro t0_52 (And.intro Tryz.underlying43 tz55)) (And.intro tt55 (And.intro t0_55 Tryz.underlying44)))) (And.intro (And.intro (And.intro tz56 tt56) (And.intro t0_56 (And.intro Tryz.underlying45 tz57))) (And.intro (And.intro tt57 (And.intro t0_57 Tryz.underlying46)) (And.intro tz58 (And.intro tt58 t0_58)))))) (And.intro (And.intro (And.intro (And.intro (And.intro Tryz.underlying66 tz77) (And.intro tt77 (And.intro t0_77 Tryz.underlying73))) (And.intro (And.intro tz80 (And.intro tt80 t0_80)) (And.intro Tryz.underlying82 (And.intro tz90 tt90)))) (And.intro (And.intro (And.intro t0_90 Tryz.underlying89) (And.intro tz110 (And.intro tt110 t0_110))) (And.intro (And.intro Tryz.underlying94 (And.intro tz115 tt115)) (And.intro t0_115 (And.intro Tryz.underlying95 tz116))))) (And.intro (And.intro (And.intro (And.intro tt116 t0_116) (And.intro Tryz.underlying76 (And.intro tz123 tt123))) (And.intro (And.intro t0_123 (And.intro Tryz.underlying136 tz177)) (And.intro tt177 (And.intro t0_177 Tryz.underlying137)))) (And.intro (And.intro (And.intro tz178 tt178) (And.intro t0_178 (And.intro Tryz.underlying141 tz182))) (And.intro (And.intro tt182 (And.intro t0_182 Tryz.underlying142)) (And.intro tz183 (And.intro tt183 t0_183))))))) := (And.intro (And.intro (And.intro (And.intro (And.intro (And.intro Tryz.underlying3 tz3) (And.intro tt3 (And.intro t0_3 Tryz.underlying22))) (And.intro (And.intro tz22 (And.intro tt22 t0_22)) (And.intro Tryz.underlying56 (And.intro tz43 tt43)))) (And.intro (And.intro (And.intro t0_43 Tryz.underlying59) (And.intro tz44 (And.intro tt44 t0_44))) (And.intro (And.intro Tryz.underlying60 (And.intro tz45 tt45)) (And.intro t0_45 (And.intro Tryz.underlying62 tz51))))) (And.intro (And.intro (And.intro (And.intro tt51 t0_51) (And.intro Tryz.underlying63 (And.intro tz52 tt52))) (And.intro (And.intro t0_52 (And.intro Tryz.underlying43 tz55)) (And.intro tt55 (And.intro t0_55 Tryz.underlying44)))) (And.intro (And.intro (And.intro tz56 tt56) (And.intro t0_56 (And.intro Tryz.underlying45 tz57))) (And.intro (And.intro tt57 (And.intro t0_57 Tryz.underlying46)) (And.intro tz58 (And.intro tt58 t0_58)))))) (And.intro (And.intro (And.intro (And.intro (And.intro Tryz.underlying66 tz77) (And.intro tt77 (And.intro t0_77 Tryz.underlying73))) (And.intro (And.intro tz80 (And.intro tt80 t0_80)) (And.intro Tryz.underlying82 (And.intro tz90 tt90)))) (And.intro (And.intro (And.intro t0_90 Tryz.underlying89) (And.intro tz110 (And.intro tt110 t0_110))) (And.intro (And.intro Tryz.underlying94 (And.intro tz115 tt115)) (And.intro t0_115 (And.intro Tryz.underlying95 tz116))))) (And.intro (And.intro (And.intro (And.intro tt116 t0_116) (And.intro Tryz.underlying76 (And.intro tz123 tt123))) (And.intro (And.intro t0_123 (And.intro Tryz.underlying136 tz177)) (And.intro tt177 (And.intro t0_177 Tryz.underlying137)))) (And.intro (And.intro (And.intro tz178 tt178) (And.intro t0_178 (And.intro Tryz.underlying141 tz182))) (And.intro (And.intro tt182 (And.intro t0_182 Tryz.underlying142)) (And.intro tz183 (And.intro tt183 t0_183)))))))

structure Ct where
  at_ : Int
  li : Int
  by_ : Int
instance : Inhabited Ct := ⟨⟨0, 0, 0⟩⟩
instance : Flat Ct := ⟨[.i64, .i64, .i64], fun x => [x.at_, x.li, x.by_], fun _ => rfl⟩
def r181 (x : Int) : Bool := false
set_option maxHeartbeats 2000000 in
theorem c181 (x : Int)  (S : AS)  :
    ∃ S', (evL Tryz.prog E0).call 115 #[.int .i64 x] S = some (.bool (r181 x), S') ∧ Agree S S' := by
  generalize hz : (evL Tryz.prog E0).call 115 _ _ = z
  rw [L_call, evCall_said rfl Tryz.func115 rfl (by decide) Tryz.ntmps115 Tryz.results115] at hz
  try simp (disch := first | omega | assumption) only [E0_G, SY, setArgs, off, agreeKind, partVals, vals, allocV, boxed, ldA, rdCells, oneB, aggD, aField, aFieldV, aExtract, eq_self, ne_eq, if_true, if_false, not_false_eq_true, Nat.reduceAdd, Nat.reduceSub, Nat.reduceMul, Nat.reduceLT, Nat.reduceEqDiff, Nat.reduceBEq, reduceIte, Int.reduceEq, Int.reduceLT, Int.reduceLE, reduceCtorEq, TY_EvA14, and_fold, or_fold, not_fold] at hz
  have hr : r181 x = false := rfl
  exact fin hz (by rw [hr]) (Agree.refl S)

def r165 (x : Int) (y : Int) : Int := (if (r181 x) = true then (if (r181 y) = true then 0 else -1) else (if (r181 y) = true then 1 else (if x < y then -1 else (if y < x then 1 else 0))))
set_option maxHeartbeats 2000000 in
theorem c165 (x : Int) (y : Int)  (S : AS)  :
    ∃ S', (evL Tryz.prog E0).call 109 #[.int .i64 x, .int .i64 y] S = some (.int .i64 (r165 x y), S') ∧ Agree S S' := by
  generalize hz : (evL Tryz.prog E0).call 109 _ _ = z
  rw [L_call, evCall_said rfl Tryz.func109 rfl (by decide) Tryz.ntmps109 Tryz.results109] at hz
  obtain ⟨S1, k1, a1⟩ := c181 x  S  
  have l1 := a1.1
  have s1 : E0.same S S1 = true := symEnv_same a1
  have g1 : Agree S S1 := a1
  obtain ⟨S2, k2, a2⟩ := c181 y  S1  
  have l2 := a2.1
  have s2 : E0.same S1 S2 = true := symEnv_same a2
  have g2 : Agree S S2 := g1.trans a2
  try simp (disch := first | omega | assumption) only [E0_G, SY, setArgs, off, agreeKind, partVals, vals, allocV, boxed, ldA, rdCells, oneB, aggD, aField, aFieldV, aExtract, eq_self, ne_eq, if_true, if_false, not_false_eq_true, Nat.reduceAdd, Nat.reduceSub, Nat.reduceMul, Nat.reduceLT, Nat.reduceEqDiff, Nat.reduceBEq, reduceIte, Int.reduceEq, Int.reduceLT, Int.reduceLE, reduceCtorEq, TY_EvA14, and_fold, or_fold, not_fold, k1, s1, k2, s2] at hz
  rcases dB ((r181 x)) with ⟨h3a, h3⟩ | ⟨h3a, h3⟩
  · skip
    try simp (disch := first | omega | assumption) only [E0_G, SY, setArgs, off, agreeKind, partVals, vals, allocV, boxed, ldA, rdCells, oneB, aggD, aField, aFieldV, aExtract, eq_self, ne_eq, if_true, if_false, not_false_eq_true, Nat.reduceAdd, Nat.reduceSub, Nat.reduceMul, Nat.reduceLT, Nat.reduceEqDiff, Nat.reduceBEq, reduceIte, Int.reduceEq, Int.reduceLT, Int.reduceLE, reduceCtorEq, TY_EvA14, and_fold, or_fold, not_fold, k1, s1, k2, s2, h3a] at hz
    rcases dB ((r181 y)) with ⟨h4a, h4⟩ | ⟨h4a, h4⟩
    · skip
      try simp (disch := first | omega | assumption) only [E0_G, SY, setArgs, off, agreeKind, partVals, vals, allocV, boxed, ldA, rdCells, oneB, aggD, aField, aFieldV, aExtract, eq_self, ne_eq, if_true, if_false, not_false_eq_true, Nat.reduceAdd, Nat.reduceSub, Nat.reduceMul, Nat.reduceLT, Nat.reduceEqDiff, Nat.reduceBEq, reduceIte, Int.reduceEq, Int.reduceLT, Int.reduceLE, reduceCtorEq, TY_EvA14, and_fold, or_fold, not_fold, k1, s1, k2, s2, h3a, h4a] at hz
      have hr : r165 x y = 0 := (if_pos h3).trans ((if_pos h4).trans (rfl))
      exact fin hz (by rw [hr]) g2
    · skip
      try simp (disch := first | omega | assumption) only [E0_G, SY, setArgs, off, agreeKind, partVals, vals, allocV, boxed, ldA, rdCells, oneB, aggD, aField, aFieldV, aExtract, eq_self, ne_eq, if_true, if_false, not_false_eq_true, Nat.reduceAdd, Nat.reduceSub, Nat.reduceMul, Nat.reduceLT, Nat.reduceEqDiff, Nat.reduceBEq, reduceIte, Int.reduceEq, Int.reduceLT, Int.reduceLE, reduceCtorEq, TY_EvA14, and_fold, or_fold, not_fold, k1, s1, k2, s2, h3a, h4a] at hz
      have hr : r165 x y = -1 := (if_pos h3).trans ((if_neg h4).trans (rfl))
      exact fin hz (by rw [hr]) g2
  · skip
    try simp (disch := first | omega | assumption) only [E0_G, SY, setArgs, off, agreeKind, partVals, vals, allocV, boxed, ldA, rdCells, oneB, aggD, aField, aFieldV, aExtract, eq_self, ne_eq, if_true, if_false, not_false_eq_true, Nat.reduceAdd, Nat.reduceSub, Nat.reduceMul, Nat.reduceLT, Nat.reduceEqDiff, Nat.reduceBEq, reduceIte, Int.reduceEq, Int.reduceLT, Int.reduceLE, reduceCtorEq, TY_EvA14, and_fold, or_fold, not_fold, k1, s1, k2, s2, h3a] at hz
    rcases dB ((r181 y)) with ⟨h5a, h5⟩ | ⟨h5a, h5⟩
    · skip
      try simp (disch := first | omega | assumption) only [E0_G, SY, setArgs, off, agreeKind, partVals, vals, allocV, boxed, ldA, rdCells, oneB, aggD, aField, aFieldV, aExtract, eq_self, ne_eq, if_true, if_false, not_false_eq_true, Nat.reduceAdd, Nat.reduceSub, Nat.reduceMul, Nat.reduceLT, Nat.reduceEqDiff, Nat.reduceBEq, reduceIte, Int.reduceEq, Int.reduceLT, Int.reduceLE, reduceCtorEq, TY_EvA14, and_fold, or_fold, not_fold, k1, s1, k2, s2, h3a, h5a] at hz
      have hr : r165 x y = 1 := (if_neg h3).trans ((if_pos h5).trans (rfl))
      exact fin hz (by rw [hr]) g2
    · skip
      try simp (disch := first | omega | assumption) only [E0_G, SY, setArgs, off, agreeKind, partVals, vals, allocV, boxed, ldA, rdCells, oneB, aggD, aField, aFieldV, aExtract, eq_self, ne_eq, if_true, if_false, not_false_eq_true, Nat.reduceAdd, Nat.reduceSub, Nat.reduceMul, Nat.reduceLT, Nat.reduceEqDiff, Nat.reduceBEq, reduceIte, Int.reduceEq, Int.reduceLT, Int.reduceLE, reduceCtorEq, TY_EvA14, and_fold, or_fold, not_fold, k1, s1, k2, s2, h3a, h5a] at hz
      rcases dP (x < y) with ⟨h6a, h6⟩ | ⟨h6a, h6⟩
      · skip
        try simp (disch := first | omega | assumption) only [E0_G, SY, setArgs, off, agreeKind, partVals, vals, allocV, boxed, ldA, rdCells, oneB, aggD, aField, aFieldV, aExtract, eq_self, ne_eq, if_true, if_false, not_false_eq_true, Nat.reduceAdd, Nat.reduceSub, Nat.reduceMul, Nat.reduceLT, Nat.reduceEqDiff, Nat.reduceBEq, reduceIte, Int.reduceEq, Int.reduceLT, Int.reduceLE, reduceCtorEq, TY_EvA14, and_fold, or_fold, not_fold, k1, s1, k2, s2, h3a, h5a, h6a] at hz
        have hr : r165 x y = -1 := (if_neg h3).trans ((if_neg h5).trans ((if_pos h6).trans (rfl)))
        exact fin hz (by rw [hr]) g2
      · skip
        try simp (disch := first | omega | assumption) only [E0_G, SY, setArgs, off, agreeKind, partVals, vals, allocV, boxed, ldA, rdCells, oneB, aggD, aField, aFieldV, aExtract, eq_self, ne_eq, if_true, if_false, not_false_eq_true, Nat.reduceAdd, Nat.reduceSub, Nat.reduceMul, Nat.reduceLT, Nat.reduceEqDiff, Nat.reduceBEq, reduceIte, Int.reduceEq, Int.reduceLT, Int.reduceLE, reduceCtorEq, TY_EvA14, and_fold, or_fold, not_fold, k1, s1, k2, s2, h3a, h5a, h6a] at hz
        rcases dP (y < x) with ⟨h7a, h7⟩ | ⟨h7a, h7⟩
        · skip
          try simp (disch := first | omega | assumption) only [E0_G, SY, setArgs, off, agreeKind, partVals, vals, allocV, boxed, ldA, rdCells, oneB, aggD, aField, aFieldV, aExtract, eq_self, ne_eq, if_true, if_false, not_false_eq_true, Nat.reduceAdd, Nat.reduceSub, Nat.reduceMul, Nat.reduceLT, Nat.reduceEqDiff, Nat.reduceBEq, reduceIte, Int.reduceEq, Int.reduceLT, Int.reduceLE, reduceCtorEq, TY_EvA14, and_fold, or_fold, not_fold, k1, s1, k2, s2, h3a, h5a, h6a, h7a] at hz
          have hr : r165 x y = 1 := (if_neg h3).trans ((if_neg h5).trans ((if_neg h6).trans ((if_pos h7).trans (rfl))))
          exact fin hz (by rw [hr]) g2
        · skip
          try simp (disch := first | omega | assumption) only [E0_G, SY, setArgs, off, agreeKind, partVals, vals, allocV, boxed, ldA, rdCells, oneB, aggD, aField, aFieldV, aExtract, eq_self, ne_eq, if_true, if_false, not_false_eq_true, Nat.reduceAdd, Nat.reduceSub, Nat.reduceMul, Nat.reduceLT, Nat.reduceEqDiff, Nat.reduceBEq, reduceIte, Int.reduceEq, Int.reduceLT, Int.reduceLE, reduceCtorEq, TY_EvA14, and_fold, or_fold, not_fold, k1, s1, k2, s2, h3a, h5a, h6a, h7a] at hz
          have hr : r165 x y = 0 := (if_neg h3).trans ((if_neg h5).trans ((if_neg h6).trans ((if_neg h7).trans (rfl))))
          exact fin hz (by rw [hr]) g2

def r164 (a b c : Int) (u v w : Int) : Int := (r165 a u)
set_option maxHeartbeats 2000000 in
theorem c164 (a b c : Int) (u v w : Int)  (S : AS)  :
    ∃ S', (evL Tryz.prog E0).call 108 #[.agg #[.int .i64 a, .int .i64 b, .int .i64 c], .agg #[.int .i64 u, .int .i64 v, .int .i64 w]] S = some (.int .i64 (r164 a b c u v w), S') ∧ Agree S S' := by
  generalize hz : (evL Tryz.prog E0).call 108 _ _ = z
  rw [L_call, evCall_said rfl Tryz.func108 rfl (by decide) Tryz.ntmps108 Tryz.results108] at hz
  obtain ⟨S1, e1, n1, b1, a1⟩ := push_open S (.cells [.int .i64 a, .int .i64 b, .int .i64 c] 142 0 true true)
  have g1 : Agree S S1 := a1
  have s1 : E0.same S S1 = true := symEnv_same a1
  obtain ⟨S2, e2, n2, b2, a2⟩ := push_open S1 (.cells [.int .i64 u, .int .i64 v, .int .i64 w] 142 0 true true)
  have v1_2 := (a2.2 S.next (by omega)).trans b1
  have g2 : Agree S S2 := g1.trans a2
  have s2 : E0.same S1 S2 = true := symEnv_same a2
  obtain ⟨S3, k3, a3⟩ := c165 a u  S2  
  have l3 := a3.1
  have s3 : E0.same S2 S3 = true := symEnv_same a3
  have v1_3 := (a3.2 S.next (by omega)).trans v1_2
  have v2_3 := (a3.2 S1.next (by omega)).trans b2
  have g3 : Agree S S3 := g2.trans a3
  try simp (disch := first | omega | assumption) only [E0_G, SY, setArgs, off, agreeKind, partVals, vals, allocV, boxed, ldA, rdCells, oneB, aggD, aField, aFieldV, aExtract, eq_self, ne_eq, if_true, if_false, not_false_eq_true, Nat.reduceAdd, Nat.reduceSub, Nat.reduceMul, Nat.reduceLT, Nat.reduceEqDiff, Nat.reduceBEq, reduceIte, Int.reduceEq, Int.reduceLT, Int.reduceLE, reduceCtorEq, TY_EvA14, and_fold, or_fold, not_fold, s1, e1, b1, v1_2, s2, e2, b2, k3, s3, v1_3, v2_3] at hz
  have hr : r164 a b c u v w = (r165 a u) := rfl
  exact fin hz (by rw [hr]) g3
end Great
end Go.Proofs
end
section
/-
  The great seat of stage 1: the cuts sorted by insertion.
-/
set_option linter.unusedSimpArgs false
set_option linter.unusedVariables false
namespace Go.Proofs
namespace Great
open Go Go.RowKit Go.Aev
set_option maxRecDepth 100000

def sdown : List Ct → Nat → List Ct
  | l, 0 => l
  | l, j + 1 => if (r164 (lget l (j + 1)).at_ (lget l (j + 1)).li (lget l (j + 1)).by_ (lget l j).at_ (lget l j).li (lget l j).by_) < 0 then sdown ((l.set (j + 1) (lget l j)).set j (lget l (j + 1))) j else l
def isort : Nat → Nat → List Ct → List Ct
  | 0, _, l => l
  | m + 1, i, l => isort m (i + 1) (sdown l i)

/-- What is not of an own list stays. -/
def Keep (v : Value) (S S' : AS) : Prop := S.next ≤ S'.next ∧ ∀ q, q < S.next → blkOf v ≠ some q → S'.heap.get q = S.heap.get q
theorem Keep.refl (v : Value) (S : AS) : Keep v S S := ⟨Nat.le_refl _, fun _ _ _ => rfl⟩
theorem Keep.trans {v : Value} {S S' S'' : AS} (h : Keep v S S') (h' : Keep v S' S'') : Keep v S S'' := ⟨Nat.le_trans h.1 h'.1, fun q hq hn => (h'.2 q (Nat.lt_of_lt_of_le hq h.1) hn).trans (h.2 q hq hn)⟩
theorem Keep.of {v : Value} {S S' : AS} (h : Agree S S') : Keep v S S' := ⟨h.1, fun q hq _ => h.2 q hq⟩
theorem Keep.put {v : Value} {S S' : AS} {id : Nat} (hn : S'.next = S.next) (hb : blkOf v = some id) (h : ∀ q, q ≠ id → S'.heap.get q = S.heap.get q) : Keep v S S' :=
  ⟨Nat.le_of_eq hn.symm, fun q _ hq => h q (fun e => hq (by rw [hb, e]))⟩

theorem own_cut {lo : Nat} {S : AS} {v : Value} {l : List Ct} (ho : Own 142 lo S v l) {id : Nat} (hb : blkOf v = some id) :
    lo ≤ id ∧ id < S.next ∧ ∃ c ex, S.heap.get id = some (.cells c 142 3 true ex) ∧ ∀ i : Nat, i < l.length → ∃ of, of = i * 3 ∧ aIndexAddr Tryz.prog 138 v (.int .i64 (i : Int)) = some (.pointer (some ⟨id, of, none⟩)) ∧
      c[of]? = some (.int .i64 (lget l i).at_) ∧ c[of + 1]? = some (.int .i64 (lget l i).li) ∧ c[of + 2]? = some (.int .i64 (lget l i).by_) := by
  have ho' := ho
  rcases ho with ⟨_, rfl⟩ | ⟨id', ex, rfl, h1, h2, h3⟩
  · simp [blkOf] at hb
  · obtain rfl : id' = id := by simpa [blkOf] using hb
    refine ⟨h1, h2, _, ex, h3, fun i hi => ?_⟩
    obtain ⟨id', c, ex', hb', h1', h2', h4, h5, h6⟩ := ho'.at (P := Tryz.prog) (t := 138) Tryz.underlying138 (by decide +kernel) (lget_some hi)
    obtain rfl : id' = _ := by simpa [blkOf] using hb'.symm
    rw [h3] at h5
    simp only [Option.some.injEq, ABlk.cells.injEq] at h5
    obtain ⟨rfl, -⟩ := h5
    exact ⟨_, rfl, h4, h6 0 (by decide), h6 1 (by decide), h6 2 (by decide)⟩

theorem lget_len {l : List Ct} {i : Nat} {x : Ct} : (l.set i x).length = l.length := List.length_set

set_option maxHeartbeats 4000000 in
theorem c194 (l : List Ct) (hn : l.length ≤ 1000) (lo : Nat) (S : AS) (v : Value) (ho : Own 142 lo S v l) (id : Nat) (hb : 0 < l.length → blkOf v = some id) :
    ∃ S', (evL Tryz.prog E0).call 121 #[v, .int .i64 0, .int .i64 (l.length : Int), .func (.func 108) #[] #[]] S = some (.tuple #[], S') ∧ Keep v S S' ∧ Own 142 lo S' v (isort (l.length - 1) 1 l) := by
  generalize hz : (evL Tryz.prog E0).call 121 _ _ = z
  rw [L_call, evCall_said rfl Tryz.func121 rfl (by decide) Tryz.ntmps121 Tryz.results121] at hz
  have w0 : IntKind.i64.wrap ((0 : Int) + 1) = ((1 : Nat) : Int) := by decide
  simp (disch := first | omega | assumption) only [E0_G, SY, setArgs, off, agreeKind, Nat.reduceAdd, Nat.reduceSub, Nat.reduceLT, Nat.reduceBEq, w0] at hz
  generalize hL1 : Rec.loop _ _ _ _ = L1 at hz
  obtain ⟨x1, t1, S1e, rfl, hQ1⟩ := loop_met hL1 (fun m t S' => ∃ (i : Nat) (o : List Ct), m + i = max l.length 1 ∧ 1 ≤ i ∧ o.length = l.length ∧ t.get 0 = some v ∧ t.get 1 = some (.int .i64 0) ∧ t.get 2 = some (.int .i64 (l.length : Int)) ∧ t.get 3 = some (.func (.func 108) #[] #[]) ∧ t.get 8 = some (.int .i64 (i : Int)) ∧ Keep v S S' ∧ Own 142 lo S' v o ∧ isort (l.length - i) i o = isort (l.length - 1) 1 l)
    (fun x t S' => x = .exit 0 ∧ ∃ (o : List Ct), Keep v S S' ∧ Own 142 lo S' v o ∧ o = isort (l.length - 1) 1 l) (max l.length 1 - 1)
    ⟨1, l, by omega, by omega, rfl, by simp only [SY, eq_self, Nat.reduceBEq] <;> rfl, by simp only [SY, eq_self, Nat.reduceBEq] <;> rfl, by simp only [SY, eq_self, Nat.reduceBEq] <;> rfl, by simp only [SY, eq_self, Nat.reduceBEq] <;> rfl, by simp only [SY, eq_self, Nat.reduceBEq] <;> rfl, Keep.refl v S, ho, rfl⟩ (by
      rintro m t S1 ⟨i, o, hm, hi1, hlo, g0, g1, g2, g3, g8, kp, ow, hd⟩
      refine .run fun z he => ?_
      simp (disch := first | omega | assumption) only [E0_G, SY, off, agreeKind, Nat.reduceAdd, Nat.reduceLT, Nat.reduceBEq, g2, g8] at he
      rcases dP ((i : Int) < (l.length : Int)) with ⟨h3a, h3⟩ | ⟨h3a, h3⟩
      · have hb := hb (by omega)
        have w15 : IntKind.i64.wrap ((i : Int) + 1) = ((i + 1 : Nat) : Int) := by rw [IntWalk.i64_in] <;> omega
        simp (disch := first | omega | assumption) only [E0_G, SY, off, agreeKind, Nat.reduceAdd, Nat.reduceLT, Nat.reduceBEq, g8, h3a] at he
        generalize hL2 : Rec.loop _ _ _ _ = L2 at he
        obtain ⟨x2, t2, S2e, rfl, hQ2⟩ := loop_met hL2 (fun m t S' => ∃ (o' : List Ct), m ≤ i ∧ o'.length = l.length ∧ t.get 0 = some v ∧ t.get 1 = some (.int .i64 0) ∧ t.get 2 = some (.int .i64 (l.length : Int)) ∧ t.get 3 = some (.func (.func 108) #[] #[]) ∧ t.get 8 = some (.int .i64 (i : Int)) ∧ t.get 9 = some (.int .i64 (m : Int)) ∧ Keep v S S' ∧ Own 142 lo S' v o' ∧ sdown o' m = sdown o i)
          (fun x t S' => x = .exit 2 ∧ ∃ (o' : List Ct), o'.length = l.length ∧ t.get 0 = some v ∧ t.get 1 = some (.int .i64 0) ∧ t.get 2 = some (.int .i64 (l.length : Int)) ∧ t.get 3 = some (.func (.func 108) #[] #[]) ∧ t.get 8 = some (.int .i64 (i : Int)) ∧ Keep v S S' ∧ Own 142 lo S' v o' ∧ o' = sdown o i) i
          ⟨o, Nat.le_refl _, hlo, by simp only [SY, eq_self, Nat.reduceBEq, g0] <;> rfl, by simp only [SY, eq_self, Nat.reduceBEq, g1] <;> rfl, by simp only [SY, eq_self, Nat.reduceBEq, g2] <;> rfl, by simp only [SY, eq_self, Nat.reduceBEq, g3] <;> rfl, by simp only [SY, eq_self, Nat.reduceBEq, g8] <;> rfl, by simp only [SY, eq_self, Nat.reduceBEq] <;> rfl, kp, ow, rfl⟩ (by
            clear he hL2 hL1 hz
            rintro m t S2 ⟨o', hm2, hlo2, f0, f1, f2, f3, f8, f9, kp2, ow2, hd2⟩
            refine .run fun z he => ?_
            simp (disch := first | omega | assumption) only [SY] at he
            rw [code_draws _ _ _ (by kernel_rfl)] at he
            generalize hnd : needy _ = nd at he
            rcases dP ((0 : Int) < (m : Int)) with ⟨h4a, h4⟩ | ⟨h4a, h4⟩
            · obtain ⟨j, rfl⟩ : ∃ j, m = j + 1 := ⟨m - 1, by omega⟩
              have w29 : IntKind.i64.wrap (((j + 1 : Nat) : Int) - 1) = (j : Int) := by rw [IntWalk.i64_in] <;> omega
              obtain ⟨b1, b2, cx, ex, hx, hc⟩ := own_cut ow2 hb
              obtain ⟨ofx, hofx, ax, px0, px1, px2⟩ := hc (j + 1) (by omega)
              obtain ⟨ofy, hofy, ay, py0, py1, py2⟩ := hc j (by omega)
              obtain ⟨S3, k3, a3⟩ := c164 (lget o' (j + 1)).at_ (lget o' (j + 1)).li (lget o' (j + 1)).by_ (lget o' j).at_ (lget o' j).li (lget o' j).by_ S2
              have s3 : E0.same S2 S3 = true := symEnv_same a3
              simp (disch := first | omega | assumption) only [E0_G, SY, agreeKind, vals, ldA, rdCells, aggD, Nat.reduceAdd, Nat.reduceLT, Nat.reduceBEq, TY_EvA14, f0, f1, f3, f9, store_agree, store_refl E0_same, h4a, w29, ax, hx, px0, px1, px2, ay, py0, py1, py2, k3] at he
              rcases dP (r164 (lget o' (j + 1)).at_ (lget o' (j + 1)).li (lget o' (j + 1)).by_ (lget o' j).at_ (lget o' j).li (lget o' j).by_ < 0) with ⟨h5a, h5⟩ | ⟨h5a, h5⟩
              · have hx3 := (a3.2 id b2).trans hx
                have ow3 := ow2.agree a3
                obtain ⟨S4, e4, n4, ow4, fr4⟩ := ow3.put (P := Tryz.prog) (u := .agg #[.int .i64 (lget o' j).at_, .int .i64 (lget o' j).li, .int .i64 (lget o' j).by_]) (by decide +kernel) (i := j + 1) (by omega) (x := lget o' j) rfl hb
                obtain ⟨S5, e5, n5, ow5, fr5⟩ := ow4.put (P := Tryz.prog) (u := .agg #[.int .i64 (lget o' (j + 1)).at_, .int .i64 (lget o' (j + 1)).li, .int .i64 (lget o' (j + 1)).by_]) (by decide +kernel) (i := j) (by rw [lget_len]; omega) (x := lget o' (j + 1)) rfl hb
                replace e4 : stA Tryz.prog 142 ⟨id, ofx, none⟩ (.agg #[.int .i64 (lget o' j).at_, .int .i64 (lget o' j).li, .int .i64 (lget o' j).by_]) S3 = some S4 := by rw [hofx]; exact e4
                replace e5 : stA Tryz.prog 142 ⟨id, ofy, none⟩ (.agg #[.int .i64 (lget o' (j + 1)).at_, .int .i64 (lget o' (j + 1)).li, .int .i64 (lget o' (j + 1)).by_]) S4 = some S5 := by rw [hofy]; exact e5
                simp (disch := first | omega | assumption) only [SY, h5a] at he
                rw [code_draws _ _ _ (by kernel_rfl)] at he
                generalize hnd6 : needy _ = nd6 at he
                simp (disch := first | omega | assumption) only [E0_G, SY, off, agreeKind, ldA, rdCells, aggD, Nat.reduceAdd, Nat.reduceLT, Nat.reduceBEq, TY_EvA14, f0, f9, store_refl E0_same, w29, ax, hx3, px0, px1, px2, ay, py0, py1, py2, e4, e5] at he
                have kq : Keep v S S5 := ((kp2.trans (Keep.of a3)).trans (Keep.put n4 hb fr4)).trans (Keep.put n5 hb fr5)
                have hd5 : sdown ((o'.set (j + 1) (lget o' j)).set j (lget o' (j + 1))) j = sdown o i := by rw [← hd2]; simp only [sdown]; rw [if_pos h5]
                exact .next he j (by omega) ⟨_, by omega, by rw [lget_len, lget_len]; exact hlo2, by simp only [SY, eq_self, Nat.reduceBEq, f0] <;> rfl, by simp only [SY, eq_self, Nat.reduceBEq, f1] <;> rfl, by simp only [SY, eq_self, Nat.reduceBEq, f2] <;> rfl, by simp only [SY, eq_self, Nat.reduceBEq, f3] <;> rfl, by simp only [SY, eq_self, Nat.reduceBEq, f8] <;> rfl, by simp only [SY, eq_self, Nat.reduceBEq, f9] <;> rfl, kq, ow5, hd5⟩
              · simp (disch := first | omega | assumption) only [SY, h5a] at he
                have hd5 : o' = sdown o i := by rw [← hd2]; simp only [sdown]; rw [if_neg h5]
                exact .exit he ⟨rfl, _, hlo2, by simp only [SY, eq_self, Nat.reduceBEq, f0] <;> rfl, by simp only [SY, eq_self, Nat.reduceBEq, f1] <;> rfl, by simp only [SY, eq_self, Nat.reduceBEq, f2] <;> rfl, by simp only [SY, eq_self, Nat.reduceBEq, f3] <;> rfl, by simp only [SY, eq_self, Nat.reduceBEq, f8] <;> rfl, kp2.trans (Keep.of a3), ow2.agree a3, hd5⟩
            · obtain rfl : m = 0 := by omega
              simp (disch := first | omega | assumption) only [E0_G, SY, agreeKind, Nat.reduceAdd, Nat.reduceLT, Nat.reduceBEq, f1, f9, store_refl E0_same, h4a] at he
              exact .exit he ⟨rfl, _, hlo2, by simp only [SY, eq_self, Nat.reduceBEq, f0] <;> rfl, by simp only [SY, eq_self, Nat.reduceBEq, f1] <;> rfl, by simp only [SY, eq_self, Nat.reduceBEq, f2] <;> rfl, by simp only [SY, eq_self, Nat.reduceBEq, f3] <;> rfl, by simp only [SY, eq_self, Nat.reduceBEq, f8] <;> rfl, kp2, ow2, hd2⟩)
        obtain ⟨rfl, o', hlo2, f0, f1, f2, f3, f8, kp2, ow2, rfl⟩ := hQ2
        simp (disch := first | omega | assumption) only [E0_G, SY, off, agreeKind, eq_self, if_true, Nat.reduceAdd, Nat.reduceLT, Nat.reduceBEq, f8, w15] at he
        have hd5 : isort (l.length - (i + 1)) (i + 1) (sdown o i) = isort (l.length - 1) 1 l := by
          rw [← hd, show l.length - i = (l.length - (i + 1)) + 1 by omega]; rfl
        exact .next he (m - 1) (by omega) ⟨i + 1, _, by omega, by omega, hlo2, by simp only [SY, eq_self, Nat.reduceBEq, f0] <;> rfl, by simp only [SY, eq_self, Nat.reduceBEq, f1] <;> rfl, by simp only [SY, eq_self, Nat.reduceBEq, f2] <;> rfl, by simp only [SY, eq_self, Nat.reduceBEq, f3] <;> rfl, by simp only [SY, eq_self, Nat.reduceBEq, f8] <;> rfl, kp2, ow2, hd5⟩
      · simp (disch := first | omega | assumption) only [SY, h3a] at he
        exact .exit he ⟨rfl, _, kp, ow, by rw [← hd, show l.length - i = 0 by omega]; rfl⟩)
  obtain ⟨rfl, o, kp, ow, rfl⟩ := hQ1
  simp (disch := first | omega | assumption) only [SY, eq_self, if_true] at hz
  exact ⟨_, hz.symm, kp, ow⟩
end Great
end Go.Proofs
end
section
/-
  The great seat of stage 1: the cuts sorted, at most twelve of them.
-/
set_option linter.unusedSimpArgs false
set_option linter.unusedVariables false
namespace Go.Proofs
namespace Great
open Go Go.RowKit Go.Aev
set_option maxRecDepth 100000

/-- Still to be paid: bits.Len of a small number (the engine has no element of a string yet: function 203 reads a table that is a string). -/
def Len12 : Prop := ∀ k : Nat, k ≤ 12 → ∀ S : AS, ∃ r : Int, (evL Tryz.prog E0).call 114 #[.int .u64 (k : Int)] S = some (.int .i64 r, S)

set_option maxHeartbeats 4000000 in
theorem c179 (l : List Ct) (hn : l.length ≤ 12) (r : Int) (lo : Nat) (S : AS) (v : Value) (ho : Own 142 lo S v l) (id : Nat) (hb : 0 < l.length → blkOf v = some id) :
    ∃ S', (evL Tryz.prog E0).call 113 #[v, .int .i64 0, .int .i64 (l.length : Int), .int .i64 r, .func (.func 108) #[] #[]] S = some (.tuple #[], S') ∧ Keep v S S' ∧ Own 142 lo S' v (isort (l.length - 1) 1 l) := by
  generalize hz : (evL Tryz.prog E0).call 113 _ _ = z
  rw [L_call, evCall_said rfl Tryz.func113 rfl (by decide) Tryz.ntmps113 Tryz.results113] at hz
  have w0 : IntKind.i64.wrap ((l.length : Int) - 0) = (l.length : Int) := by rw [IntWalk.i64_in] <;> omega
  obtain ⟨S1, k1, kp1, ow1⟩ := c194 l (by omega) lo S v ho id hb
  rcases dP ((l.length : Int) ≤ 12) with ⟨h3a, h3⟩ | ⟨h3a, h3⟩
  · simp (disch := first | omega | assumption) only [E0_G, SY, setArgs, off, agreeKind, partVals, vals, allocV, boxed, ldA, rdCells, oneB, aggD, aField, aFieldV, aExtract, eq_self, ne_eq, if_true, if_false, not_false_eq_true, Nat.reduceAdd, Nat.reduceSub, Nat.reduceMul, Nat.reduceLT, Nat.reduceEqDiff, Nat.reduceBEq, reduceIte, Int.reduceEq, Int.reduceLT, Int.reduceLE, reduceCtorEq, TY_EvA14, and_fold, or_fold, not_fold, w0] at hz
    rw [L_loop_step] at hz
    simp (disch := first | omega | assumption) only [E0_G, SY, setArgs, off, agreeKind, partVals, vals, allocV, boxed, ldA, rdCells, oneB, aggD, aField, aFieldV, aExtract, eq_self, ne_eq, if_true, if_false, not_false_eq_true, Nat.reduceAdd, Nat.reduceSub, Nat.reduceMul, Nat.reduceLT, Nat.reduceEqDiff, Nat.reduceBEq, reduceIte, Int.reduceEq, Int.reduceLT, Int.reduceLE, reduceCtorEq, TY_EvA14, and_fold, or_fold, not_fold, w0, h3a, k1] at hz
    exact ⟨_, hz.symm, kp1, ow1⟩
  · omega

set_option maxHeartbeats 4000000 in
theorem c163 (hB : Len12) (l : List Ct) (hn : l.length ≤ 12) (lo : Nat) (S : AS) (v : Value) (ho : Own 142 lo S v l) (id : Nat) (hb : 0 < l.length → blkOf v = some id) :
    ∃ S', (evL Tryz.prog E0).call 107 #[v, .func (.func 108) #[] #[]] S = some (.tuple #[], S') ∧ Keep v S S' ∧ Own 142 lo S' v (isort (l.length - 1) 1 l) := by
  generalize hz : (evL Tryz.prog E0).call 107 _ _ = z
  rw [L_call, evCall_said rfl Tryz.func107 rfl (by decide) Tryz.ntmps107 Tryz.results107] at hz
  have w1 := ho.rows.len (P := Tryz.prog) (t := 138) Tryz.underlying138
  obtain ⟨r, k2⟩ := hB l.length hn S
  obtain ⟨S1, k1, kp1, ow1⟩ := c179 l hn r lo S v ho id hb
  have w2 : IntKind.u64.wrap (l.length : Int) = (l.length : Int) := IntWalk.u64_in _ (by omega)
  simp (disch := first | omega | assumption) only [E0_G, SY, setArgs, off, agreeKind, partVals, vals, allocV, boxed, ldA, rdCells, oneB, aggD, aField, aFieldV, aExtract, eq_self, ne_eq, if_true, if_false, not_false_eq_true, Nat.reduceAdd, Nat.reduceSub, Nat.reduceMul, Nat.reduceLT, Nat.reduceEqDiff, Nat.reduceBEq, reduceIte, Int.reduceEq, Int.reduceLT, Int.reduceLE, reduceCtorEq, TY_EvA14, and_fold, or_fold, not_fold, Tryz.underlying103, w1, w2, k2, k1] at hz
  exact ⟨_, hz.symm, kp1, ow1⟩
def KSorted : List Ct → Prop
  | [] => True
  | x :: l => (∀ y ∈ l, x.at_ ≤ y.at_) ∧ KSorted l
/-- Lists of at most N cuts are sorted. -/
def SortOk (N : Nat) : Prop := ∀ (l : List Ct), l.length ≤ N → ∀ (lo : Nat) (S : AS) (v : Value), Own 142 lo S v l → ∀ id : Nat, (0 < l.length → blkOf v = some id) →
    ∃ S' l', (evL Tryz.prog E0).call 107 #[v, .func (.func 108) #[] #[]] S = some (.tuple #[], S') ∧ Keep v S S' ∧ Own 142 lo S' v l' ∧ l'.Perm l ∧ KSorted l'
end Great
end Go.Proofs
end
section
/-
  The great seat of stage 1: how many bits a small number has.
-/
set_option linter.unusedSimpArgs false
set_option linter.unusedVariables false
namespace Go.Proofs
namespace Great
open Go Go.RowKit Go.Aev
set_option maxRecDepth 100000

set_option maxHeartbeats 8000000 in
theorem c203 (k : Int) (hk : 0 ≤ k ∧ k ≤ 12) (S : AS) : ∃ r : Int, (evL Tryz.prog E0).call 130 #[.int .u64 k] S = some (.int .i64 r, S) := by
  generalize hz : (evL Tryz.prog E0).call 130 _ _ = z
  rw [L_call, evCall_said rfl Tryz.func130 rfl (by decide) Tryz.ntmps130 Tryz.results130] at hz
  have h1 : decide (4294967296 ≤ k) = false := decide_eq_false (by omega)
  have h2 : decide (65536 ≤ k) = false := decide_eq_false (by omega)
  have h3 : decide (256 ≤ k) = false := decide_eq_false (by omega)
  have h4 : IntKind.u8.wrap k = k := by rw [IntKind.wrap_u8]; omega
  simp (disch := first | omega | assumption) only [E0_G, SY, setArgs, off, agreeKind, partVals, vals, allocV, boxed, ldA, rdCells, oneB, aggD, aField, aFieldV, aExtract, eq_self, ne_eq, if_true, if_false, not_false_eq_true, Nat.reduceAdd, Nat.reduceSub, Nat.reduceMul, Nat.reduceLT, Nat.reduceEqDiff, Nat.reduceBEq, reduceIte, Int.reduceEq, Int.reduceLT, Int.reduceLE, reduceCtorEq, TY_EvA14, and_fold, or_fold, not_fold, Tryz.underlying155, Tryz.underlying5, Tryz.underlying3, h1, h2, h3, h4] at hz
  generalize hv : aIndexV _ _ _ _ = v at hz
  have hr : ∃ r : Int, v = some (.int .u8 r) ∧ 0 ≤ r ∧ r ≤ 8 := by
    obtain ⟨l, m⟩ := hk
    obtain rfl | rfl | rfl | rfl | rfl | rfl | rfl | rfl | rfl | rfl | rfl | rfl | rfl : k = 0 ∨ k = 1 ∨ k = 2 ∨ k = 3 ∨ k = 4 ∨ k = 5 ∨ k = 6 ∨ k = 7 ∨ k = 8 ∨ k = 9 ∨ k = 10 ∨ k = 11 ∨ k = 12 := by omega
    · exact ⟨0, hv.symm.trans (by kernel_rfl), by decide, by decide⟩
    · exact ⟨1, hv.symm.trans (by kernel_rfl), by decide, by decide⟩
    · exact ⟨2, hv.symm.trans (by kernel_rfl), by decide, by decide⟩
    · exact ⟨2, hv.symm.trans (by kernel_rfl), by decide, by decide⟩
    · exact ⟨3, hv.symm.trans (by kernel_rfl), by decide, by decide⟩
    · exact ⟨3, hv.symm.trans (by kernel_rfl), by decide, by decide⟩
    · exact ⟨3, hv.symm.trans (by kernel_rfl), by decide, by decide⟩
    · exact ⟨3, hv.symm.trans (by kernel_rfl), by decide, by decide⟩
    · exact ⟨4, hv.symm.trans (by kernel_rfl), by decide, by decide⟩
    · exact ⟨4, hv.symm.trans (by kernel_rfl), by decide, by decide⟩
    · exact ⟨4, hv.symm.trans (by kernel_rfl), by decide, by decide⟩
    · exact ⟨4, hv.symm.trans (by kernel_rfl), by decide, by decide⟩
    · exact ⟨4, hv.symm.trans (by kernel_rfl), by decide, by decide⟩
  obtain ⟨r, rfl, h5, h6⟩ := hr
  simp (disch := first | omega | assumption) only [E0_G, SY, setArgs, off, agreeKind, partVals, vals, allocV, boxed, ldA, rdCells, oneB, aggD, aField, aFieldV, aExtract, eq_self, ne_eq, if_true, if_false, not_false_eq_true, Nat.reduceAdd, Nat.reduceSub, Nat.reduceMul, Nat.reduceLT, Nat.reduceEqDiff, Nat.reduceBEq, reduceIte, Int.reduceEq, Int.reduceLT, Int.reduceLE, reduceCtorEq, TY_EvA14, and_fold, or_fold, not_fold, Tryz.underlying155, Tryz.underlying5, Tryz.underlying3, h1, h2, h3, h4] at hz
  exact ⟨_, hz.symm⟩
theorem len12 : Len12 := by
  intro k hk S
  generalize hz : (evL Tryz.prog E0).call 114 _ _ = z
  rw [L_call, evCall_said rfl Tryz.func114 rfl (by decide) Tryz.ntmps114 Tryz.results114] at hz
  obtain ⟨r, hr⟩ := c203 (k : Int) ⟨by omega, by omega⟩ S
  simp (disch := first | omega | assumption) only [E0_G, SY, setArgs, off, agreeKind, partVals, vals, allocV, boxed, ldA, rdCells, oneB, aggD, aField, aFieldV, aExtract, eq_self, ne_eq, if_true, if_false, not_false_eq_true, Nat.reduceAdd, Nat.reduceSub, Nat.reduceMul, Nat.reduceLT, Nat.reduceEqDiff, Nat.reduceBEq, reduceIte, Int.reduceEq, Int.reduceLT, Int.reduceLE, reduceCtorEq, TY_EvA14, and_fold, or_fold, not_fold, Tryz.underlying155, Tryz.underlying103, Tryz.underlying5, Tryz.underlying3, hr] at hz
  exact ⟨_, hz.symm⟩
end Great
end Go.Proofs
end
