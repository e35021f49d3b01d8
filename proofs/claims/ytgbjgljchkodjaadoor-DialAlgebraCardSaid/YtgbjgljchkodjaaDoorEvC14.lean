/-
  The great seat of stage 1: the law DialAlgebra, by the generator.
-/
import Derived.Test.YtgbjgljchkodjaaDoorEvM16
set_option linter.unusedSimpArgs false
set_option linter.unusedVariables false
namespace Go.Proofs
namespace Great
open Go Go.RowKit Go.Aev
set_option maxRecDepth 100000
theorem tz67 : szOf Tryd.prog 51 = some 3 := by kernel_rfl
theorem tt67 : inTab Tryd.prog 51 = true := by kernel_rfl
theorem t0_67 : zeroOf Tryd.prog 51 = some (.agg #[.int .i64 0, .int .i64 0, .int .i64 0]) := by kernel_rfl
theorem tz68 : szOf Tryd.prog 52 = some 3 := by kernel_rfl
theorem tt68 : inTab Tryd.prog 52 = true := by kernel_rfl
theorem t0_68 : zeroOf Tryd.prog 52 = some (.agg #[.int .i64 0, .int .i64 0, .int .i64 0]) := by kernel_rfl
/-- What is known of the types. -/
theorem TY_EvC14 : type_of% (And.intro (And.intro (And.intro (And.intro (And.intro (And.intro Tryd.underlying3 tz3) (And.intro tt3 t0_3)) (And.intro (And.intro Tryd.underlying22 tz22) (And.intro tt22 (And.intro t0_22 Tryd.underlying37)))) (And.intro (And.intro (And.intro tz43 tt43) (And.intro t0_43 (And.intro Tryd.underlying40 tz44))) (And.intro (And.intro tt44 t0_44) (And.intro Tryd.underlying41 (And.intro tz45 tt45))))) (And.intro (And.intro (And.intro (And.intro t0_45 Tryd.underlying45) (And.intro tz51 tt51)) (And.intro (And.intro t0_51 Tryd.underlying46) (And.intro tz52 (And.intro tt52 t0_52)))) (And.intro (And.intro (And.intro Tryd.underlying29 tz55) (And.intro tt55 (And.intro t0_55 Tryd.underlying30))) (And.intro (And.intro tz56 tt56) (And.intro t0_56 (And.intro Tryd.underlying38 tz57)))))) (And.intro (And.intro (And.intro (And.intro (And.intro tt57 t0_57) (And.intro Tryd.underlying39 tz58)) (And.intro (And.intro tt58 t0_58) (And.intro Tryd.underlying51 (And.intro tz67 tt67)))) (And.intro (And.intro (And.intro t0_67 Tryd.underlying52) (And.intro tz68 (And.intro tt68 t0_68))) (And.intro (And.intro Tryd.underlying42 tz77) (And.intro tt77 (And.intro t0_77 Tryd.underlying58))))) (And.intro (And.intro (And.intro (And.intro tz90 tt90) (And.intro t0_90 Tryd.underlying104)) (And.intro (And.intro tz177 tt177) (And.intro t0_177 (And.intro Tryd.underlying105 tz178)))) (And.intro (And.intro (And.intro tt178 t0_178) (And.intro Tryd.underlying110 (And.intro tz182 tt182))) (And.intro (And.intro t0_182 Tryd.underlying111) (And.intro tz183 (And.intro tt183 t0_183))))))) := (And.intro (And.intro (And.intro (And.intro (And.intro (And.intro Tryd.underlying3 tz3) (And.intro tt3 t0_3)) (And.intro (And.intro Tryd.underlying22 tz22) (And.intro tt22 (And.intro t0_22 Tryd.underlying37)))) (And.intro (And.intro (And.intro tz43 tt43) (And.intro t0_43 (And.intro Tryd.underlying40 tz44))) (And.intro (And.intro tt44 t0_44) (And.intro Tryd.underlying41 (And.intro tz45 tt45))))) (And.intro (And.intro (And.intro (And.intro t0_45 Tryd.underlying45) (And.intro tz51 tt51)) (And.intro (And.intro t0_51 Tryd.underlying46) (And.intro tz52 (And.intro tt52 t0_52)))) (And.intro (And.intro (And.intro Tryd.underlying29 tz55) (And.intro tt55 (And.intro t0_55 Tryd.underlying30))) (And.intro (And.intro tz56 tt56) (And.intro t0_56 (And.intro Tryd.underlying38 tz57)))))) (And.intro (And.intro (And.intro (And.intro (And.intro tt57 t0_57) (And.intro Tryd.underlying39 tz58)) (And.intro (And.intro tt58 t0_58) (And.intro Tryd.underlying51 (And.intro tz67 tt67)))) (And.intro (And.intro (And.intro t0_67 Tryd.underlying52) (And.intro tz68 (And.intro tt68 t0_68))) (And.intro (And.intro Tryd.underlying42 tz77) (And.intro tt77 (And.intro t0_77 Tryd.underlying58))))) (And.intro (And.intro (And.intro (And.intro tz90 tt90) (And.intro t0_90 Tryd.underlying104)) (And.intro (And.intro tz177 tt177) (And.intro t0_177 (And.intro Tryd.underlying105 tz178)))) (And.intro (And.intro (And.intro tt178 t0_178) (And.intro Tryd.underlying110 (And.intro tz182 tt182))) (And.intro (And.intro t0_182 Tryd.underlying111) (And.intro tz183 (And.intro tt183 t0_183)))))))

section
variable {i j : Nat} (a b : List Ar) (ha : Vk i a) (hb : Vk j b) (hi : i ≤ 200) (hj : j ≤ 200) (hij : i + j ≤ 250)
    (S : AS) (v_a : Value) (hv_a : Lst S v_a a) (v_b : Value) (hv_b : Lst S v_b b) (ht : Tab S)
include ha hb hi hj hij hv_a hv_b ht
theorem c17v : ∃ v' S', (evL Tryd.prog E0).call 8 #[v_a, v_b] S = some (.tuple #[v', .int .i64 0], S') ∧ Agree S S' ∧ Fre S.next S' v' (r24 a b) := by
  have p1 := r178_len a
  have p2 := r178_len b
  have p3 := ha.2
  have p4 := hb.2
  exact c17 sortAll (Nat.le_refl _) a b ha.1 hb.1 (by omega) (by omega) (by omega) S v_a hv_a v_b hv_b ht
theorem c18v : ∃ v' S', (evL Tryd.prog E0).call 9 #[v_a, v_b] S = some (.tuple #[v', .int .i64 0], S') ∧ Agree S S' ∧ Fre S.next S' v' (r25 a b) := by
  have p1 := r178_len a
  have p2 := r178_len b
  have p3 := ha.2
  have p4 := hb.2
  exact c18 sortAll (Nat.le_refl _) a b ha.1 hb.1 (by omega) (by omega) (by omega) S v_a hv_a v_b hv_b ht
theorem c19v : ∃ v' S', (evL Tryd.prog E0).call 10 #[v_a, v_b] S = some (.tuple #[v', .int .i64 0], S') ∧ Agree S S' ∧ Fre S.next S' v' (r26 a b) := by
  have p1 := r178_len a
  have p2 := r178_len b
  have p3 := ha.2
  have p4 := hb.2
  exact c19 sortAll (Nat.le_refl _) a b ha.1 hb.1 (by omega) (by omega) (by omega) S v_a hv_a v_b hv_b ht
end
theorem c16v {i : Nat} (a : List Ar) (ha : Vk i a) (hi : i ≤ 200) (S : AS) (v_a : Value) (hv_a : Lst S v_a a) (ht : Tab S) :
    ∃ v' S', (evL Tryd.prog E0).call 7 #[v_a] S = some (.tuple #[v', .int .i64 0], S') ∧ Agree S S' ∧ Fre S.next S' v' (r87 (r88 a)) := by
  have p1 := r178_len a
  have p3 := ha.2
  exact c16 sortAll (Nat.le_refl _) a ha.1 (by omega) (by omega) S v_a hv_a ht
theorem c28v {i : Nat} (a : List Ar) (ha : Vk i a) (hi : i ≤ 200) (S : AS) (v_a : Value) (hv_a : Lst S v_a a) (ht : Tab S) :
    ∃ S', (evL Tryd.prog E0).call 11 #[v_a] S = some (.tuple #[.int .i64 (r28 a).1, .int .i64 0], S') ∧ Agree S S' := by
  have p1 := r178_len a
  have p3 := ha.2
  exact c28 a sortAll (Nat.le_refl _) ha.1 (by omega) (by omega) S v_a hv_a ht
def R27_0v (l : List Ar) (w : Int)  : List Ar → List Ar → (List Ar)
  | [], o => o
  | x6 :: l', o => R27_0v l w l' (o ++ ([(⟨((r92 x6.f x6.l w)).1, ((r92 x6.f x6.l w)).2⟩ : Ar)]))
theorem R27v_31 (l : List Ar) (w : Int) : ∀ m o : List Ar, R27_0v l w m o = R31_0 l w m o := by
  intro m
  induction m with
  | nil => intro o; rfl
  | cons x m ih => intro o; rw [R27_0v, R31_0, ih]; rfl
theorem grown_vk {k : Nat} {l : List Ar} {w : Int} (hv : Vk k l) (hw : 0 ≤ w ∧ w ≤ 43200) : Vk k (R27_0v l w l []) := by rw [R27v_31]; exact (grow_ok hv hw).1
def r27v (l : List Ar) (w : Int) : List Ar × Int := (if (r91 (l : List Ar)) = 0 then (if w < 0 then ([], 1) else (if 43200 < w then ([], 1) else ((r87 (r88 (R27_0v l w l ([])))), 0))) else ([], (r91 (l : List Ar))))
set_option maxHeartbeats 4000000 in
theorem c27v (l : List Ar) (w : Int) {k : Nat} (hv : Vk k l) (hk : k ≤ 200)  (S : AS) (v_l : Value) (hv_l : Lst S v_l l) (ht : Tab S) :
    ∃ v' S', (evL Tryd.prog E0).call 13 #[v_l, .int .i64 w] S = some (.tuple #[v', .int .i64 (r27v l w).2], S') ∧ Agree S S' ∧ Fre S.next S' v' (r27v l w).1 := by
  have hq := hv.2
  generalize hz : (evL Tryd.prog E0).call 13 _ _ = z
  rw [L_call, evCall_said rfl Tryd.func13 rfl (by decide) Tryd.ntmps13 Tryd.results13] at hz
  obtain ⟨S1, k1, a1⟩ := c91 (l : List Ar) (by have := hv.2; omega) S (v_l) (hv_l) ht
  have l1 := a1.1
  have s1 : E0.same S S1 = true := symEnv_same a1
  have g1 : Agree S S1 := a1
  try simp (disch := first | omega | assumption) only [E0_G, SY, setArgs, off, agreeKind, partVals, vals, allocV, boxed, ldA, rdCells, oneB, aggD, aField, aFieldV, aExtract, eq_self, ne_eq, if_true, if_false, not_false_eq_true, Nat.reduceAdd, Nat.reduceSub, Nat.reduceMul, Nat.reduceLT, Nat.reduceEqDiff, Nat.reduceBEq, reduceIte, Int.reduceEq, Int.reduceLT, Int.reduceLE, reduceCtorEq, TY_EvC14, and_fold, or_fold, not_fold, k1, s1] at hz
  rcases dP ((r91 (l : List Ar)) = 0) with ⟨h2a, h2⟩ | ⟨h2a, h2⟩
  · skip
    try simp (disch := first | omega | assumption) only [E0_G, SY, setArgs, off, agreeKind, partVals, vals, allocV, boxed, ldA, rdCells, oneB, aggD, aField, aFieldV, aExtract, eq_self, ne_eq, if_true, if_false, not_false_eq_true, Nat.reduceAdd, Nat.reduceSub, Nat.reduceMul, Nat.reduceLT, Nat.reduceEqDiff, Nat.reduceBEq, reduceIte, Int.reduceEq, Int.reduceLT, Int.reduceLE, reduceCtorEq, TY_EvC14, and_fold, or_fold, not_fold, k1, s1, h2a] at hz
    rcases dP (w < 0) with ⟨h3a, h3⟩ | ⟨h3a, h3⟩
    · skip
      try simp (disch := first | omega | assumption) only [E0_G, SY, setArgs, off, agreeKind, partVals, vals, allocV, boxed, ldA, rdCells, oneB, aggD, aField, aFieldV, aExtract, eq_self, ne_eq, if_true, if_false, not_false_eq_true, Nat.reduceAdd, Nat.reduceSub, Nat.reduceMul, Nat.reduceLT, Nat.reduceEqDiff, Nat.reduceBEq, reduceIte, Int.reduceEq, Int.reduceLT, Int.reduceLE, reduceCtorEq, TY_EvC14, and_fold, or_fold, not_fold, k1, s1, h2a, h3a] at hz
      have hr : r27v l w = ([], 1) := (if_pos h2).trans ((if_pos h3).trans (rfl))
      exact ⟨.slice none 0 0, S1, by first | (rw [hr]; exact hz.symm) | exact hz.symm, g1, by rw [hr]; exact fre_nil _ _⟩
    · skip
      try simp (disch := first | omega | assumption) only [E0_G, SY, setArgs, off, agreeKind, partVals, vals, allocV, boxed, ldA, rdCells, oneB, aggD, aField, aFieldV, aExtract, eq_self, ne_eq, if_true, if_false, not_false_eq_true, Nat.reduceAdd, Nat.reduceSub, Nat.reduceMul, Nat.reduceLT, Nat.reduceEqDiff, Nat.reduceBEq, reduceIte, Int.reduceEq, Int.reduceLT, Int.reduceLE, reduceCtorEq, TY_EvC14, and_fold, or_fold, not_fold, k1, s1, h2a, h3a] at hz
      rcases dP (43200 < w) with ⟨h4a, h4⟩ | ⟨h4a, h4⟩
      · skip
        try simp (disch := first | omega | assumption) only [E0_G, SY, setArgs, off, agreeKind, partVals, vals, allocV, boxed, ldA, rdCells, oneB, aggD, aField, aFieldV, aExtract, eq_self, ne_eq, if_true, if_false, not_false_eq_true, Nat.reduceAdd, Nat.reduceSub, Nat.reduceMul, Nat.reduceLT, Nat.reduceEqDiff, Nat.reduceBEq, reduceIte, Int.reduceEq, Int.reduceLT, Int.reduceLE, reduceCtorEq, TY_EvC14, and_fold, or_fold, not_fold, k1, s1, h2a, h3a, h4a] at hz
        have hr : r27v l w = ([], 1) := (if_pos h2).trans ((if_neg h3).trans ((if_pos h4).trans (rfl)))
        exact ⟨.slice none 0 0, S1, by first | (rw [hr]; exact hz.symm) | exact hz.symm, g1, by rw [hr]; exact fre_nil _ _⟩
      · skip
        have w5 := (hv_l.agree g1).len (P := Tryd.prog) (t := 22) Tryd.underlying22
        try simp (disch := first | omega | assumption) only [E0_G, SY, setArgs, off, agreeKind, partVals, vals, allocV, boxed, ldA, rdCells, oneB, aggD, aField, aFieldV, aExtract, eq_self, ne_eq, if_true, if_false, not_false_eq_true, Nat.reduceAdd, Nat.reduceSub, Nat.reduceMul, Nat.reduceLT, Nat.reduceEqDiff, Nat.reduceBEq, reduceIte, Int.reduceEq, Int.reduceLT, Int.reduceLE, reduceCtorEq, TY_EvC14, and_fold, or_fold, not_fold, k1, s1, h2a, h3a, h4a, w5] at hz
        have hq := hv.2
        generalize hL6 : Rec.loop _ _ _ _ = L6 at hz
        obtain ⟨x6, t6, S6e, rfl, hQ6⟩ := loop_met hL6 (fun m t S' => ∃ (i : Nat) (v_o : Value) (o : List Ar), m + i = l.length ∧ o.length ≤ i ∧ i ≤ l.length ∧ t.get 1 = some (.int .i64 w) ∧ t.get 7 = some (v_o) ∧ t.get 21 = some (v_l) ∧ t.get 22 = some (.int .i64 (l.length : Int)) ∧ t.get 23 = some (.int .i64 (i : Int)) ∧ Agree S S' ∧ S1.next ≤ S'.next ∧ Own 30 S1.next S' v_o o ∧ R27_0v l w (l.drop i) o = R27_0v l w l ([]))
          (fun x t S' => x = .exit 0 ∧ ∃ (i : Nat) (v_o : Value) (o : List Ar), t.get 7 = some (v_o) ∧ Agree S S' ∧ S1.next ≤ S'.next ∧ Own 30 S1.next S' v_o o ∧ o.length ≤ i ∧ i ≤ l.length ∧ R27_0v l w l ([]) = o) (l.length - 0) ⟨0, .slice none 0 0, [], by first | rfl | omega | (simp; omega) | simp, by first | rfl | omega | (simp; omega) | simp, by first | rfl | omega | (simp; omega) | simp, by simp only [SY, setArgs, off, agreeKind, partVals, vals, allocV, boxed, ldA, rdCells, oneB, aggD, aField, aFieldV, aExtract, eq_self, ne_eq, if_true, if_false, not_false_eq_true, Nat.reduceAdd, Nat.reduceSub, Nat.reduceMul, Nat.reduceLT, Nat.reduceEqDiff, Nat.reduceBEq, reduceIte, Int.reduceEq, Int.reduceLT, Int.reduceLE, reduceCtorEq] <;> rfl, by simp only [SY, setArgs, off, agreeKind, partVals, vals, allocV, boxed, ldA, rdCells, oneB, aggD, aField, aFieldV, aExtract, eq_self, ne_eq, if_true, if_false, not_false_eq_true, Nat.reduceAdd, Nat.reduceSub, Nat.reduceMul, Nat.reduceLT, Nat.reduceEqDiff, Nat.reduceBEq, reduceIte, Int.reduceEq, Int.reduceLT, Int.reduceLE, reduceCtorEq] <;> rfl, by simp only [SY, setArgs, off, agreeKind, partVals, vals, allocV, boxed, ldA, rdCells, oneB, aggD, aField, aFieldV, aExtract, eq_self, ne_eq, if_true, if_false, not_false_eq_true, Nat.reduceAdd, Nat.reduceSub, Nat.reduceMul, Nat.reduceLT, Nat.reduceEqDiff, Nat.reduceBEq, reduceIte, Int.reduceEq, Int.reduceLT, Int.reduceLE, reduceCtorEq] <;> rfl, by simp only [SY, setArgs, off, agreeKind, partVals, vals, allocV, boxed, ldA, rdCells, oneB, aggD, aField, aFieldV, aExtract, eq_self, ne_eq, if_true, if_false, not_false_eq_true, Nat.reduceAdd, Nat.reduceSub, Nat.reduceMul, Nat.reduceLT, Nat.reduceEqDiff, Nat.reduceBEq, reduceIte, Int.reduceEq, Int.reduceLT, Int.reduceLE, reduceCtorEq] <;> rfl, by simp only [SY, setArgs, off, agreeKind, partVals, vals, allocV, boxed, ldA, rdCells, oneB, aggD, aField, aFieldV, aExtract, eq_self, ne_eq, if_true, if_false, not_false_eq_true, Nat.reduceAdd, Nat.reduceSub, Nat.reduceMul, Nat.reduceLT, Nat.reduceEqDiff, Nat.reduceBEq, reduceIte, Int.reduceEq, Int.reduceLT, Int.reduceLE, reduceCtorEq] <;> rfl, g1, Nat.le_refl _, Own.nil _ _ _, rfl⟩ (by
            rintro m t S6 ⟨i, v_o, o, hi6_0, hi6_1, hi6_2, g6_1, g6_7, g6_21, g6_22, g6_23, ga6, gn6, ow_o, hd6⟩
            refine .run fun z he => ?_
            try simp (disch := first | omega | assumption) only [E0_G, SY, setArgs, off, agreeKind, partVals, vals, allocV, boxed, ldA, rdCells, oneB, aggD, aField, aFieldV, aExtract, eq_self, ne_eq, if_true, if_false, not_false_eq_true, Nat.reduceAdd, Nat.reduceSub, Nat.reduceMul, Nat.reduceLT, Nat.reduceEqDiff, Nat.reduceBEq, reduceIte, Int.reduceEq, Int.reduceLT, Int.reduceLE, reduceCtorEq, TY_EvC14, and_fold, or_fold, not_fold, g6_1, g6_7, g6_21, g6_22, g6_23, h2a, h3a, h4a, w5] at he
            rcases dP ((i : Int) < (l.length : Int)) with ⟨h7a, h7⟩ | ⟨h7a, h7⟩
            · skip
              have hx6 : l[i]? = some (l[i]'(by first | omega | (simp; omega) | exact len_pos (by assumption) (A4_vl ..))) := List.getElem?_eq_getElem _
              generalize l[i]'_ = x6 at hx6
              obtain ⟨id8, of8, cc8, ty8, wr8, ex8, i8, j8, l8, q8⟩ := (hv_l).at (P := Tryd.prog) (t := 22) Tryd.underlying22 tz56 hx6
              have jr8 := j8
              have j8 := (ga6.2 id8 l8).trans jr8
              have m8_0 : cc8[of8]? = some (.int .i64 x6.f) := q8 0 (show 0 < 2 by decide)
              have m8_1 : cc8[of8 + 1]? = some (.int .i64 x6.l) := q8 1 (show 1 < 2 by decide)
              obtain ⟨S9, e9, n9, b9, a9⟩ := push_open S6 (.cells [.int .i64 0, .int .i64 0] 30 0 true true)
              have v8_9 := (a9.2 id8 (by omega)).trans j8
              have ow_10 := ow_o.agree a9
              have g9 : Agree S S9 := ga6.trans a9
              have s9 : E0.same S6 S9 = true := symEnv_same a9
              have ne11 : blkOf (v_o) ≠ some S6.next := ow_o.new (Nat.le_refl _)
              obtain ⟨S12, k12, n12, b12, q12⟩ := st_at (o := 0) (c' := [.int .i64 x6.f, .int .i64 x6.l]) (v := .agg #[.int .i64 x6.f, .int .i64 x6.l]) tz56 b9 rfl rfl (show 0 + 2 ≤ 2 by decide) rfl
              have v8_12 := (q12 id8 (by omega)).trans v8_9
              have ow_13 := ow_10.frame (by omega) (fun id hid hb => q12 id (fun e => (show blkOf (v_o) ≠ some S6.next from by first | exact ow_10.ne (by omega) | exact ow_10.new (by omega) | assumption) (e ▸ hb)))
              have g12 : Agree S S12 := ⟨by have := (g9).1; omega, fun id hid => (q12 id (by have := (g9).1; omega)).trans ((g9).2 id hid)⟩
              obtain ⟨S14, k14, a14⟩ := c92 x6.f x6.l w  S12  (ht.agree g12)
              have l14 := a14.1
              have s14 : E0.same S12 S14 = true := symEnv_same a14
              have v8_14 := (a14.2 id8 (by omega)).trans v8_12
              have v9_14 := (a14.2 S6.next (by omega)).trans b12
              have ow_15 := ow_13.agree a14
              have g14 : Agree S S14 := g12.trans a14
              have y16 : aBuildSlice Tryd.prog 22 1 [(0, .agg #[.int .i64 (((r92 x6.f x6.l w)).1), .int .i64 (((r92 x6.f x6.l w)).2)])] S14 = some (.slice (some ⟨S14.next, 0, none⟩) 1 1, S14.push (.cells [.int .i64 (((r92 x6.f x6.l w)).1), .int .i64 (((r92 x6.f x6.l w)).2)] 30 2 true true)) := by kernel_rfl
              obtain ⟨S17, e17, n17, b17, a17⟩ := push_open S14 (.cells [.int .i64 (((r92 x6.f x6.l w)).1), .int .i64 (((r92 x6.f x6.l w)).2)] 30 2 true true)
              have v8_17 := (a17.2 id8 (by omega)).trans v8_14
              have v9_17 := (a17.2 S6.next (by omega)).trans v9_14
              have ow_18 := ow_15.agree a17
              have g17 : Agree S S17 := g14.trans a17
              have s17 : E0.same S14 S17 = true := symEnv_same a17
              have ne19 : blkOf (v_o) ≠ some S14.next := ow_15.new (Nat.le_refl _)
              have o20 : Own 30 S14.next S17 (.slice (some ⟨S14.next, 0, none⟩) 1 1) ([(⟨((r92 x6.f x6.l w)).1, ((r92 x6.f x6.l w)).2⟩ : Ar)] : List Ar) := .inr ⟨_, true, rfl, Nat.le_refl _, by omega, b17⟩
              obtain ⟨u21, S21, k21, o21, n21, f21, d21⟩ := own_append (P := Tryd.prog) (t := 22) (tx := 22) (n := 1) (v := v_o) ow_18 (o20.rows) (by omega) (by first | omega | (simp; omega) | simp) (by first | omega | (simp; omega) | simp) Tryd.underlying22 Tryd.underlying22 ti56 tv56 rfl tz56
              have v9_21 := (f21 S6.next (by omega) (by first | (simp [blkOf]; done) | exact ow_18.ne (by omega) | exact ow_18.new (by omega) | assumption)).trans v9_17
              have g21 : Agree S S21 := ⟨Nat.le_trans (g17).1 n21, fun id hid => (f21 id (by have := (g17).1; omega) (by first | (simp [blkOf]; done) | exact ow_18.ne (by omega) | assumption)).trans ((g17).2 id hid)⟩
              have ne22 : blkOf u21 ≠ some S6.next := by first | exact o21.ne (by omega) | exact o21.new (by omega) | exact d21 _ (by omega) (by first | (simp [blkOf]; done) | exact ow_18.ne (by omega) | exact ow_18.new (by omega) | assumption)
              have w23 : IntKind.i64.wrap ((i : Int) + 1) = ((i + 1 : Nat) : Int) := by rw [IntWalk.i64_in] <;> omega
              try simp (disch := first | omega | assumption) only [E0_G, SY, setArgs, off, agreeKind, partVals, vals, allocV, boxed, ldA, rdCells, oneB, aggD, aField, aFieldV, aExtract, eq_self, ne_eq, if_true, if_false, not_false_eq_true, Nat.reduceAdd, Nat.reduceSub, Nat.reduceMul, Nat.reduceLT, Nat.reduceEqDiff, Nat.reduceBEq, reduceIte, Int.reduceEq, Int.reduceLT, Int.reduceLE, reduceCtorEq, TY_EvC14, and_fold, or_fold, not_fold, g6_1, g6_7, g6_21, g6_22, g6_23, h2a, h3a, h4a, w5, h7a, i8, j8, m8_0, m8_1, v8_9, s9, e9, b9, v8_12, k12, b12, k14, s14, v8_14, v9_14, y16, v8_17, v9_17, s17, e17, b17, v9_21, k21, w23] at he
              rw [drop_cons' hx6] at hd6
              have hf := (show _ = (R27_0v l w (l.drop (i + 1)) (o ++ ([(⟨((r92 x6.f x6.l w)).1, ((r92 x6.f x6.l w)).2⟩ : Ar)])) : (List Ar)) from rfl).symm.trans hd6
              exact .next he (m - 1) (by omega) ⟨(i + 1), u21, o ++ ([(⟨((r92 x6.f x6.l w)).1, ((r92 x6.f x6.l w)).2⟩ : Ar)]), by first | omega | (simp; omega) | simp, by first | omega | (simp; omega) | simp, by first | omega | (simp; omega) | simp, (by simp only [SY, setArgs, off, agreeKind, partVals, vals, allocV, boxed, ldA, rdCells, oneB, aggD, aField, aFieldV, aExtract, eq_self, ne_eq, if_true, if_false, not_false_eq_true, Nat.reduceAdd, Nat.reduceSub, Nat.reduceMul, Nat.reduceLT, Nat.reduceEqDiff, Nat.reduceBEq, reduceIte, Int.reduceEq, Int.reduceLT, Int.reduceLE, reduceCtorEq, g6_1, g6_7, g6_21, g6_22, g6_23] <;> rfl), (by simp only [SY, setArgs, off, agreeKind, partVals, vals, allocV, boxed, ldA, rdCells, oneB, aggD, aField, aFieldV, aExtract, eq_self, ne_eq, if_true, if_false, not_false_eq_true, Nat.reduceAdd, Nat.reduceSub, Nat.reduceMul, Nat.reduceLT, Nat.reduceEqDiff, Nat.reduceBEq, reduceIte, Int.reduceEq, Int.reduceLT, Int.reduceLE, reduceCtorEq, g6_1, g6_7, g6_21, g6_22, g6_23] <;> rfl), (by simp only [SY, setArgs, off, agreeKind, partVals, vals, allocV, boxed, ldA, rdCells, oneB, aggD, aField, aFieldV, aExtract, eq_self, ne_eq, if_true, if_false, not_false_eq_true, Nat.reduceAdd, Nat.reduceSub, Nat.reduceMul, Nat.reduceLT, Nat.reduceEqDiff, Nat.reduceBEq, reduceIte, Int.reduceEq, Int.reduceLT, Int.reduceLE, reduceCtorEq, g6_1, g6_7, g6_21, g6_22, g6_23] <;> rfl), (by simp only [SY, setArgs, off, agreeKind, partVals, vals, allocV, boxed, ldA, rdCells, oneB, aggD, aField, aFieldV, aExtract, eq_self, ne_eq, if_true, if_false, not_false_eq_true, Nat.reduceAdd, Nat.reduceSub, Nat.reduceMul, Nat.reduceLT, Nat.reduceEqDiff, Nat.reduceBEq, reduceIte, Int.reduceEq, Int.reduceLT, Int.reduceLE, reduceCtorEq, g6_1, g6_7, g6_21, g6_22, g6_23] <;> rfl), (by simp only [SY, setArgs, off, agreeKind, partVals, vals, allocV, boxed, ldA, rdCells, oneB, aggD, aField, aFieldV, aExtract, eq_self, ne_eq, if_true, if_false, not_false_eq_true, Nat.reduceAdd, Nat.reduceSub, Nat.reduceMul, Nat.reduceLT, Nat.reduceEqDiff, Nat.reduceBEq, reduceIte, Int.reduceEq, Int.reduceLT, Int.reduceLE, reduceCtorEq, g6_1, g6_7, g6_21, g6_22, g6_23] <;> rfl), g21, by omega, (o21.low (by omega)), hf⟩
            · skip
              try simp (disch := first | omega | assumption) only [E0_G, SY, setArgs, off, agreeKind, partVals, vals, allocV, boxed, ldA, rdCells, oneB, aggD, aField, aFieldV, aExtract, eq_self, ne_eq, if_true, if_false, not_false_eq_true, Nat.reduceAdd, Nat.reduceSub, Nat.reduceMul, Nat.reduceLT, Nat.reduceEqDiff, Nat.reduceBEq, reduceIte, Int.reduceEq, Int.reduceLT, Int.reduceLE, reduceCtorEq, TY_EvC14, and_fold, or_fold, not_fold, g6_1, g6_7, g6_21, g6_22, g6_23, h2a, h3a, h4a, w5, h7a] at he
              rw [List.drop_eq_nil_of_le (show l.length ≤ i by omega)] at hd6
              have hf := (show _ = (o : (List Ar)) from rfl).symm.trans hd6
              exact .exit he ⟨rfl, ⟨i, v_o, o, (by simp only [SY, setArgs, off, agreeKind, partVals, vals, allocV, boxed, ldA, rdCells, oneB, aggD, aField, aFieldV, aExtract, eq_self, ne_eq, if_true, if_false, not_false_eq_true, Nat.reduceAdd, Nat.reduceSub, Nat.reduceMul, Nat.reduceLT, Nat.reduceEqDiff, Nat.reduceBEq, reduceIte, Int.reduceEq, Int.reduceLT, Int.reduceLE, reduceCtorEq, g6_1, g6_7, g6_21, g6_22, g6_23] <;> rfl), ga6, by omega, (ow_o.low (by omega)), by first | omega | assumption | simp, by first | omega | assumption | simp, hf.symm⟩⟩)
        obtain ⟨rfl, i, v_o, o, ge6_7, ge6, gm6, oe_o6, hj6_0, hj6_1, hR6⟩ := hQ6
        obtain rfl : o = R27_0v l w l ([]) := hR6.symm
        obtain ⟨u25, S25, k25, a25, oo25⟩ := c16v (R27_0v l w l ([])) (grown_vk hv (by omega)) (by first | decide | omega) S6e (v_o) (oe_o6.rows) (ht.agree ge6)
        have l25 := a25.1
        have s25 : E0.same S6e S25 = true := symEnv_same a25
        have oe_26 := oe_o6.agree a25
        have g25 : Agree S S25 := ge6.trans a25
        try simp (disch := first | omega | assumption) only [E0_G, SY, setArgs, off, agreeKind, partVals, vals, allocV, boxed, ldA, rdCells, oneB, aggD, aField, aFieldV, aExtract, eq_self, ne_eq, if_true, if_false, not_false_eq_true, Nat.reduceAdd, Nat.reduceSub, Nat.reduceMul, Nat.reduceLT, Nat.reduceEqDiff, Nat.reduceBEq, reduceIte, Int.reduceEq, Int.reduceLT, Int.reduceLE, reduceCtorEq, TY_EvC14, and_fold, or_fold, not_fold, h2a, h3a, h4a, w5, ge6_7, k25, s25] at hz
        have hr : r27v l w = ((r87 (r88 (R27_0v l w l ([])))), 0) := (if_pos h2).trans ((if_neg h3).trans ((if_neg h4).trans (rfl)))
        exact ⟨u25, S25, by first | (rw [hr]; exact hz.symm) | exact hz.symm, g25, by rw [hr]; exact oo25.low (by omega)⟩
  · skip
    try simp (disch := first | omega | assumption) only [E0_G, SY, setArgs, off, agreeKind, partVals, vals, allocV, boxed, ldA, rdCells, oneB, aggD, aField, aFieldV, aExtract, eq_self, ne_eq, if_true, if_false, not_false_eq_true, Nat.reduceAdd, Nat.reduceSub, Nat.reduceMul, Nat.reduceLT, Nat.reduceEqDiff, Nat.reduceBEq, reduceIte, Int.reduceEq, Int.reduceLT, Int.reduceLE, reduceCtorEq, TY_EvC14, and_fold, or_fold, not_fold, k1, s1, h2a] at hz
    have hr : r27v l w = ([], (r91 (l : List Ar))) := (if_neg h2).trans (rfl)
    exact ⟨.slice none 0 0, S1, by first | (rw [hr]; exact hz.symm) | exact hz.symm, g1, by rw [hr]; exact fre_nil _ _⟩


theorem c27w {k : Nat} (l : List Ar) (w : Int) (hv : Vk k l) (hk : k ≤ 200) (hw : 0 ≤ w ∧ w ≤ 43200) (S : AS) (v_l : Value) (hv_l : Lst S v_l l) (ht : Tab S) :
    ∃ v' S', (evL Tryd.prog E0).call 13 #[v_l, .int .i64 w] S = some (.tuple #[v', .int .i64 0], S') ∧ Agree S S' ∧ Fre S.next S' v' (r31 l w) := by
  have h := c27v l w hv hk S v_l hv_l ht
  have e : r27v l w = (r31 l w, 0) := by
    have h0 : r91 l = 0 := r91_ok hv.1 (Nat.le_trans hv.2 hk)
    unfold r27v
    rw [if_pos h0, if_neg (by omega), if_neg (by omega), R27v_31]
    rfl
  rw [e] at h
  exact h

def r1003 (a : List Ar) (b : List Ar) (c : List Ar) (w : Int) (u : Int) : Bool := (if (r75 (a : List Ar)) = true then (if (r75 (b : List Ar)) = true then (if (r75 (c : List Ar)) = true then (if 90 < (((a.length + b.length) + c.length : Nat) : Int) then true else (if 43200 < (IntKind.i64.wrap ((angle w) + (angle u))) then (if (r22 ((r24 (a) (b)) : List Ar) ((r24 (b) (a)) : List Ar)) = true then (if (r22 ((r25 ((r24 (a) (b))) (c)) : List Ar) ((r24 ((r25 (a) (c))) ((r25 (b) (c)))) : List Ar)) = true then (if (r22 ((r26 ([(⟨0, 43199⟩ : Ar)]) ((r26 ([(⟨0, 43199⟩ : Ar)]) (a)))) : List Ar) ((r87 (r88 (a))) : List Ar)) = true then (if (IntKind.i64.wrap (((r28 ((r25 (a) (b)))).1) + ((r28 ((r26 (a) (b)))).1))) = ((r28 (a)).1) then (r22 ((r31 ((r31 (a) (angle w))) 0) : List Ar) ((r31 (a) (IntKind.i64.wrap ((angle w) + 0))) : List Ar)) else false) else false) else false) else false) else (if (r22 ((r24 (a) (b)) : List Ar) ((r24 (b) (a)) : List Ar)) = true then (if (r22 ((r25 ((r24 (a) (b))) (c)) : List Ar) ((r24 ((r25 (a) (c))) ((r25 (b) (c)))) : List Ar)) = true then (if (r22 ((r26 ([(⟨0, 43199⟩ : Ar)]) ((r26 ([(⟨0, 43199⟩ : Ar)]) (a)))) : List Ar) ((r87 (r88 (a))) : List Ar)) = true then (if (IntKind.i64.wrap (((r28 ((r25 (a) (b)))).1) + ((r28 ((r26 (a) (b)))).1))) = ((r28 (a)).1) then (r22 ((r31 ((r31 (a) (angle w))) (angle u)) : List Ar) ((r31 (a) (IntKind.i64.wrap ((angle w) + (angle u)))) : List Ar)) else false) else false) else false) else false))) else true) else true) else true)
set_option maxHeartbeats 16000000 in
theorem c1003 (a : List Ar) (b : List Ar) (c : List Ar) (w : Int) (u : Int)  (S : AS) (v_a : Value) (hv_a : Lst S v_a a) (v_b : Value) (hv_b : Lst S v_b b) (v_c : Value) (hv_c : Lst S v_c c) (ht : Tab S) :
    ∃ S', (evL Tryd.prog E0).call 3 #[v_a, v_b, v_c, .int .i64 w, .int .i64 u] S = some (.bool (r1003 a b c w u), S') ∧ Agree S S' := by
  generalize hz : (evL Tryd.prog E0).call 3 _ _ = z
  rw [L_call, evCall_said rfl Tryd.func3 rfl (by decide) Tryd.ntmps3 Tryd.results3] at hz
  obtain ⟨S1, k1, a1⟩ := c75 (a : List Ar)  S (v_a) (hv_a) 
  have l1 := a1.1
  have s1 : E0.same S S1 = true := symEnv_same a1
  have g1 : Agree S S1 := a1
  try simp (disch := first | omega | assumption) only [E0_G, SY, setArgs, off, agreeKind, partVals, vals, allocV, boxed, ldA, rdCells, oneB, aggD, aField, aFieldV, aExtract, eq_self, ne_eq, if_true, if_false, not_false_eq_true, Nat.reduceAdd, Nat.reduceSub, Nat.reduceMul, Nat.reduceLT, Nat.reduceEqDiff, Nat.reduceBEq, reduceIte, Int.reduceEq, Int.reduceLT, Int.reduceLE, reduceCtorEq, TY_EvC14, and_fold, or_fold, not_fold, k1, s1] at hz
  rcases dB ((r75 (a : List Ar))) with ⟨h2a, h2⟩ | ⟨h2a, h2⟩
  · skip
    obtain ⟨S3, k3, a3⟩ := c75 (b : List Ar)  S1 (v_b) (hv_b.agree g1) 
    have l3 := a3.1
    have s3 : E0.same S1 S3 = true := symEnv_same a3
    have g3 : Agree S S3 := g1.trans a3
    try simp (disch := first | omega | assumption) only [E0_G, SY, setArgs, off, agreeKind, partVals, vals, allocV, boxed, ldA, rdCells, oneB, aggD, aField, aFieldV, aExtract, eq_self, ne_eq, if_true, if_false, not_false_eq_true, Nat.reduceAdd, Nat.reduceSub, Nat.reduceMul, Nat.reduceLT, Nat.reduceEqDiff, Nat.reduceBEq, reduceIte, Int.reduceEq, Int.reduceLT, Int.reduceLE, reduceCtorEq, TY_EvC14, and_fold, or_fold, not_fold, k1, s1, h2a, k3, s3] at hz
    rcases dB ((r75 (b : List Ar))) with ⟨h4a, h4⟩ | ⟨h4a, h4⟩
    · skip
      obtain ⟨S5, k5, a5⟩ := c75 (c : List Ar)  S3 (v_c) (hv_c.agree g3) 
      have l5 := a5.1
      have s5 : E0.same S3 S5 = true := symEnv_same a5
      have g5 : Agree S S5 := g3.trans a5
      try simp (disch := first | omega | assumption) only [E0_G, SY, setArgs, off, agreeKind, partVals, vals, allocV, boxed, ldA, rdCells, oneB, aggD, aField, aFieldV, aExtract, eq_self, ne_eq, if_true, if_false, not_false_eq_true, Nat.reduceAdd, Nat.reduceSub, Nat.reduceMul, Nat.reduceLT, Nat.reduceEqDiff, Nat.reduceBEq, reduceIte, Int.reduceEq, Int.reduceLT, Int.reduceLE, reduceCtorEq, TY_EvC14, and_fold, or_fold, not_fold, k1, s1, h2a, k3, s3, h4a, k5, s5] at hz
      rcases dB ((r75 (c : List Ar))) with ⟨h6a, h6⟩ | ⟨h6a, h6⟩
      · skip
        have w7 := (hv_a.agree g5).len (P := Tryd.prog) (t := 22) Tryd.underlying22
        have w8 := (hv_b.agree g5).len (P := Tryd.prog) (t := 22) Tryd.underlying22
        have w9 : IntKind.i64.wrap ((a.length : Int) + (b.length : Int)) = ((a.length + b.length : Nat) : Int) := by have q1 := usual_len (show r75 a = true by assumption); have q2 := usual_len (show r75 b = true by assumption); have q3 := usual_len (show r75 c = true by assumption); rw [IntWalk.i64_in] <;> omega
        have w10 := (hv_c.agree g5).len (P := Tryd.prog) (t := 22) Tryd.underlying22
        have w11 : IntKind.i64.wrap (((a.length + b.length : Nat) : Int) + (c.length : Int)) = (((a.length + b.length) + c.length : Nat) : Int) := by have q1 := usual_len (show r75 a = true by assumption); have q2 := usual_len (show r75 b = true by assumption); have q3 := usual_len (show r75 c = true by assumption); rw [IntWalk.i64_in] <;> omega
        try simp (disch := first | omega | assumption) only [E0_G, SY, setArgs, off, agreeKind, partVals, vals, allocV, boxed, ldA, rdCells, oneB, aggD, aField, aFieldV, aExtract, eq_self, ne_eq, if_true, if_false, not_false_eq_true, Nat.reduceAdd, Nat.reduceSub, Nat.reduceMul, Nat.reduceLT, Nat.reduceEqDiff, Nat.reduceBEq, reduceIte, Int.reduceEq, Int.reduceLT, Int.reduceLE, reduceCtorEq, TY_EvC14, and_fold, or_fold, not_fold, k1, s1, h2a, k3, s3, h4a, k5, s5, h6a, w7, w8, w9, w10, w11] at hz
        rcases dP (90 < (((a.length + b.length) + c.length : Nat) : Int)) with ⟨h12a, h12⟩ | ⟨h12a, h12⟩
        · skip
          try simp (disch := first | omega | assumption) only [E0_G, SY, setArgs, off, agreeKind, partVals, vals, allocV, boxed, ldA, rdCells, oneB, aggD, aField, aFieldV, aExtract, eq_self, ne_eq, if_true, if_false, not_false_eq_true, Nat.reduceAdd, Nat.reduceSub, Nat.reduceMul, Nat.reduceLT, Nat.reduceEqDiff, Nat.reduceBEq, reduceIte, Int.reduceEq, Int.reduceLT, Int.reduceLE, reduceCtorEq, TY_EvC14, and_fold, or_fold, not_fold, k1, s1, h2a, k3, s3, h4a, k5, s5, h6a, w7, w8, w9, w10, w11, h12a, c15s] at hz
          have hr : r1003 a b c w u = true := (if_pos h2).trans ((if_pos h4).trans ((if_pos h6).trans ((if_pos h12).trans (rfl))))
          exact fin hz (by rw [hr]) g5
        · skip
          obtain ⟨u13, S13, k13, a13, oo13⟩ := c16v (a) (usual_vk (show r75 a = true by assumption)) (by first | decide | omega) S5 (v_a) (hv_a.agree g5) (ht.agree g5)
          have l13 := a13.1
          have s13 : E0.same S5 S13 = true := symEnv_same a13
          have g13 : Agree S S13 := g5.trans a13
          obtain ⟨u14, S14, k14, a14, oo14⟩ := c17v (a) (b) (usual_vk (show r75 a = true by assumption)) (usual_vk (show r75 b = true by assumption)) (by decide) (by decide) (by decide) S13 (v_a) (hv_a.agree g13) (v_b) (hv_b.agree g13) (ht.agree g13)
          have l14 := a14.1
          have s14 : E0.same S13 S14 = true := symEnv_same a14
          have o13_15 := oo13.agree a14
          have g14 : Agree S S14 := g13.trans a14
          obtain ⟨u16, S16, k16, a16, oo16⟩ := c17v (b) (a) (usual_vk (show r75 b = true by assumption)) (usual_vk (show r75 a = true by assumption)) (by decide) (by decide) (by decide) S14 (v_b) (hv_b.agree g14) (v_a) (hv_a.agree g14) (ht.agree g14)
          have l16 := a16.1
          have s16 : E0.same S14 S16 = true := symEnv_same a16
          have o13_17 := o13_15.agree a16
          have o14_18 := oo14.agree a16
          have g16 : Agree S S16 := g14.trans a16
          obtain ⟨u19, S19, k19, a19, oo19⟩ := c18v ((r24 (a) (b))) (c) (r24_vk (usual_vk (show r75 a = true by assumption)) (usual_vk (show r75 b = true by assumption))) (usual_vk (show r75 c = true by assumption)) (by decide) (by decide) (by decide) S16 (u14) (o14_18.rows) (v_c) (hv_c.agree g16) (ht.agree g16)
          have l19 := a19.1
          have s19 : E0.same S16 S19 = true := symEnv_same a19
          have o13_20 := o13_17.agree a19
          have o14_21 := o14_18.agree a19
          have o16_22 := oo16.agree a19
          have g19 : Agree S S19 := g16.trans a19
          obtain ⟨u23, S23, k23, a23, oo23⟩ := c18v (a) (c) (usual_vk (show r75 a = true by assumption)) (usual_vk (show r75 c = true by assumption)) (by decide) (by decide) (by decide) S19 (v_a) (hv_a.agree g19) (v_c) (hv_c.agree g19) (ht.agree g19)
          have l23 := a23.1
          have s23 : E0.same S19 S23 = true := symEnv_same a23
          have o13_24 := o13_20.agree a23
          have o14_25 := o14_21.agree a23
          have o16_26 := o16_22.agree a23
          have o19_27 := oo19.agree a23
          have g23 : Agree S S23 := g19.trans a23
          obtain ⟨u28, S28, k28, a28, oo28⟩ := c18v (b) (c) (usual_vk (show r75 b = true by assumption)) (usual_vk (show r75 c = true by assumption)) (by decide) (by decide) (by decide) S23 (v_b) (hv_b.agree g23) (v_c) (hv_c.agree g23) (ht.agree g23)
          have l28 := a28.1
          have s28 : E0.same S23 S28 = true := symEnv_same a28
          have o13_29 := o13_24.agree a28
          have o14_30 := o14_25.agree a28
          have o16_31 := o16_26.agree a28
          have o19_32 := o19_27.agree a28
          have o23_33 := oo23.agree a28
          have g28 : Agree S S28 := g23.trans a28
          obtain ⟨u34, S34, k34, a34, oo34⟩ := c17v ((r25 (a) (c))) ((r25 (b) (c))) (r25_vk (usual_vk (show r75 a = true by assumption)) (usual_vk (show r75 c = true by assumption))) (r25_vk (usual_vk (show r75 b = true by assumption)) (usual_vk (show r75 c = true by assumption))) (by decide) (by decide) (by decide) S28 (u23) (o23_33.rows) (u28) (oo28.rows) (ht.agree g28)
          have l34 := a34.1
          have s34 : E0.same S28 S34 = true := symEnv_same a34
          have o13_35 := o13_29.agree a34
          have o14_36 := o14_30.agree a34
          have o16_37 := o16_31.agree a34
          have o19_38 := o19_32.agree a34
          have o23_39 := o23_33.agree a34
          have o28_40 := oo28.agree a34
          have g34 : Agree S S34 := g28.trans a34
          have y41 : aBuild Tryd.prog 30 [(1, .int .i64 43199)] = some (.agg #[.int .i64 0, .int .i64 43199]) := by kernel_rfl
          have y42 : aBuildSlice Tryd.prog 22 1 [(0, .agg #[.int .i64 0, .int .i64 43199])] S34 = some (.slice (some ⟨S34.next, 0, none⟩) 1 1, S34.push (.cells [.int .i64 0, .int .i64 43199] 30 2 true true)) := by kernel_rfl
          obtain ⟨S43, e43, n43, b43, a43⟩ := push_open S34 (.cells [.int .i64 0, .int .i64 43199] 30 2 true true)
          have o13_44 := o13_35.agree a43
          have o14_45 := o14_36.agree a43
          have o16_46 := o16_37.agree a43
          have o19_47 := o19_38.agree a43
          have o23_48 := o23_39.agree a43
          have o28_49 := o28_40.agree a43
          have o34_50 := oo34.agree a43
          have g43 : Agree S S43 := g34.trans a43
          have s43 : E0.same S34 S43 = true := symEnv_same a43
          have ne51 : blkOf (u13) ≠ some S34.next := o13_35.new (Nat.le_refl _)
          have ne52 : blkOf (u14) ≠ some S34.next := o14_36.new (Nat.le_refl _)
          have ne53 : blkOf (u16) ≠ some S34.next := o16_37.new (Nat.le_refl _)
          have ne54 : blkOf (u19) ≠ some S34.next := o19_38.new (Nat.le_refl _)
          have ne55 : blkOf (u23) ≠ some S34.next := o23_39.new (Nat.le_refl _)
          have ne56 : blkOf (u28) ≠ some S34.next := o28_40.new (Nat.le_refl _)
          have ne57 : blkOf (u34) ≠ some S34.next := oo34.new (Nat.le_refl _)
          have o58 : Own 30 S34.next S43 (.slice (some ⟨S34.next, 0, none⟩) 1 1) ([(⟨0, 43199⟩ : Ar)] : List Ar) := .inr ⟨_, true, rfl, Nat.le_refl _, by omega, b43⟩
          obtain ⟨u59, S59, k59, a59, oo59⟩ := c19v ([(⟨0, 43199⟩ : Ar)]) (a) (show Vk 1 ([(⟨0, 43199⟩ : Ar)]) from whole_vk) (usual_vk (show r75 a = true by assumption)) (by decide) (by decide) (by decide) S43 (.slice (some ⟨S34.next, 0, none⟩) 1 1) (o58.rows) (v_a) (hv_a.agree g43) (ht.agree g43)
          have l59 := a59.1
          have s59 : E0.same S43 S59 = true := symEnv_same a59
          have o13_60 := o13_44.agree a59
          have o14_61 := o14_45.agree a59
          have o16_62 := o16_46.agree a59
          have o19_63 := o19_47.agree a59
          have o23_64 := o23_48.agree a59
          have o28_65 := o28_49.agree a59
          have o34_66 := o34_50.agree a59
          have o58_67 := o58.agree a59
          have g59 : Agree S S59 := g43.trans a59
          obtain ⟨u68, S68, k68, a68, oo68⟩ := c19v ([(⟨0, 43199⟩ : Ar)]) ((r26 ([(⟨0, 43199⟩ : Ar)]) (a))) (show Vk 1 ([(⟨0, 43199⟩ : Ar)]) from whole_vk) (r26_vk (show Vk 1 ([(⟨0, 43199⟩ : Ar)]) from whole_vk) (usual_vk (show r75 a = true by assumption))) (by decide) (by decide) (by decide) S59 (.slice (some ⟨S34.next, 0, none⟩) 1 1) (o58_67.rows) (u59) (oo59.rows) (ht.agree g59)
          have l68 := a68.1
          have s68 : E0.same S59 S68 = true := symEnv_same a68
          have o13_69 := o13_60.agree a68
          have o14_70 := o14_61.agree a68
          have o16_71 := o16_62.agree a68
          have o19_72 := o19_63.agree a68
          have o23_73 := o23_64.agree a68
          have o28_74 := o28_65.agree a68
          have o34_75 := o34_66.agree a68
          have o58_76 := o58_67.agree a68
          have o59_77 := oo59.agree a68
          have g68 : Agree S S68 := g59.trans a68
          obtain ⟨u78, S78, k78, a78, oo78⟩ := c18v (a) (b) (usual_vk (show r75 a = true by assumption)) (usual_vk (show r75 b = true by assumption)) (by decide) (by decide) (by decide) S68 (v_a) (hv_a.agree g68) (v_b) (hv_b.agree g68) (ht.agree g68)
          have l78 := a78.1
          have s78 : E0.same S68 S78 = true := symEnv_same a78
          have o13_79 := o13_69.agree a78
          have o14_80 := o14_70.agree a78
          have o16_81 := o16_71.agree a78
          have o19_82 := o19_72.agree a78
          have o23_83 := o23_73.agree a78
          have o28_84 := o28_74.agree a78
          have o34_85 := o34_75.agree a78
          have o58_86 := o58_76.agree a78
          have o59_87 := o59_77.agree a78
          have o68_88 := oo68.agree a78
          have g78 : Agree S S78 := g68.trans a78
          obtain ⟨u89, S89, k89, a89, oo89⟩ := c19v (a) (b) (usual_vk (show r75 a = true by assumption)) (usual_vk (show r75 b = true by assumption)) (by decide) (by decide) (by decide) S78 (v_a) (hv_a.agree g78) (v_b) (hv_b.agree g78) (ht.agree g78)
          have l89 := a89.1
          have s89 : E0.same S78 S89 = true := symEnv_same a89
          have o13_90 := o13_79.agree a89
          have o14_91 := o14_80.agree a89
          have o16_92 := o16_81.agree a89
          have o19_93 := o19_82.agree a89
          have o23_94 := o23_83.agree a89
          have o28_95 := o28_84.agree a89
          have o34_96 := o34_85.agree a89
          have o58_97 := o58_86.agree a89
          have o59_98 := o59_87.agree a89
          have o68_99 := o68_88.agree a89
          have o78_100 := oo78.agree a89
          have g89 : Agree S S89 := g78.trans a89
          obtain ⟨S101, k101, a101⟩ := c28v ((r25 (a) (b))) (r25_vk (usual_vk (show r75 a = true by assumption)) (usual_vk (show r75 b = true by assumption))) (by decide) S89 (u78) (o78_100.rows) (ht.agree g89)
          have l101 := a101.1
          have s101 : E0.same S89 S101 = true := symEnv_same a101
          have o13_102 := o13_90.agree a101
          have o14_103 := o14_91.agree a101
          have o16_104 := o16_92.agree a101
          have o19_105 := o19_93.agree a101
          have o23_106 := o23_94.agree a101
          have o28_107 := o28_95.agree a101
          have o34_108 := o34_96.agree a101
          have o58_109 := o58_97.agree a101
          have o59_110 := o59_98.agree a101
          have o68_111 := o68_99.agree a101
          have o78_112 := o78_100.agree a101
          have o89_113 := oo89.agree a101
          have g101 : Agree S S101 := g89.trans a101
          obtain ⟨S114, k114, a114⟩ := c28v ((r26 (a) (b))) (r26_vk (usual_vk (show r75 a = true by assumption)) (usual_vk (show r75 b = true by assumption))) (by decide) S101 (u89) (o89_113.rows) (ht.agree g101)
          have l114 := a114.1
          have s114 : E0.same S101 S114 = true := symEnv_same a114
          have o13_115 := o13_102.agree a114
          have o14_116 := o14_103.agree a114
          have o16_117 := o16_104.agree a114
          have o19_118 := o19_105.agree a114
          have o23_119 := o23_106.agree a114
          have o28_120 := o28_107.agree a114
          have o34_121 := o34_108.agree a114
          have o58_122 := o58_109.agree a114
          have o59_123 := o59_110.agree a114
          have o68_124 := o68_111.agree a114
          have o78_125 := o78_112.agree a114
          have o89_126 := o89_113.agree a114
          have g114 : Agree S S114 := g101.trans a114
          obtain ⟨S127, k127, a127⟩ := c28v (a) (usual_vk (show r75 a = true by assumption)) (by decide) S114 (v_a) (hv_a.agree g114) (ht.agree g114)
          have l127 := a127.1
          have s127 : E0.same S114 S127 = true := symEnv_same a127
          have o13_128 := o13_115.agree a127
          have o14_129 := o14_116.agree a127
          have o16_130 := o16_117.agree a127
          have o19_131 := o19_118.agree a127
          have o23_132 := o23_119.agree a127
          have o28_133 := o28_120.agree a127
          have o34_134 := o34_121.agree a127
          have o58_135 := o58_122.agree a127
          have o59_136 := o59_123.agree a127
          have o68_137 := o68_124.agree a127
          have o78_138 := o78_125.agree a127
          have o89_139 := o89_126.agree a127
          have g127 : Agree S S127 := g114.trans a127
          have k140 := c76 w S127
          have k141 := c76 u S127
          try simp (disch := first | omega | assumption) only [E0_G, SY, setArgs, off, agreeKind, partVals, vals, allocV, boxed, ldA, rdCells, oneB, aggD, aField, aFieldV, aExtract, eq_self, ne_eq, if_true, if_false, not_false_eq_true, Nat.reduceAdd, Nat.reduceSub, Nat.reduceMul, Nat.reduceLT, Nat.reduceEqDiff, Nat.reduceBEq, reduceIte, Int.reduceEq, Int.reduceLT, Int.reduceLE, reduceCtorEq, TY_EvC14, and_fold, or_fold, not_fold, k1, s1, h2a, k3, s3, h4a, k5, s5, h6a, w7, w8, w9, w10, w11, h12a, k13, s13, k14, s14, k16, s16, k19, s19, k23, s23, k28, s28, k34, s34, y41, y42, s43, e43, b43, k59, s59, k68, s68, k78, s78, k89, s89, k101, s101, k114, s114, k127, s127, k140, k141] at hz
          rcases dP (43200 < (IntKind.i64.wrap ((angle w) + (angle u)))) with ⟨h142a, h142⟩ | ⟨h142a, h142⟩
          · skip
            obtain ⟨u143, S143, k143, a143, oo143⟩ := c27w (a) (angle w) (usual_vk (show r75 a = true by assumption)) (by decide) (show 0 ≤ (angle w) ∧ (angle w) ≤ 43200 from by have := angle_range w; have := angle_range u; first | omega | (rw [wr64 (by omega)] at *; omega) | (rw [wr64 (by omega)]; omega)) S127 (v_a) (hv_a.agree g127) (ht.agree g127)
            have l143 := a143.1
            have s143 : E0.same S127 S143 = true := symEnv_same a143
            have o13_144 := o13_128.agree a143
            have o14_145 := o14_129.agree a143
            have o16_146 := o16_130.agree a143
            have o19_147 := o19_131.agree a143
            have o23_148 := o23_132.agree a143
            have o28_149 := o28_133.agree a143
            have o34_150 := o34_134.agree a143
            have o58_151 := o58_135.agree a143
            have o59_152 := o59_136.agree a143
            have o68_153 := o68_137.agree a143
            have o78_154 := o78_138.agree a143
            have o89_155 := o89_139.agree a143
            have g143 : Agree S S143 := g127.trans a143
            obtain ⟨u156, S156, k156, a156, oo156⟩ := c27w ((r31 (a) (angle w))) 0 (r31_vk (usual_vk (show r75 a = true by assumption)) (show 0 ≤ (angle w) ∧ (angle w) ≤ 43200 from by have := angle_range w; have := angle_range u; first | omega | (rw [wr64 (by omega)] at *; omega) | (rw [wr64 (by omega)]; omega))) (by decide) (show 0 ≤ 0 ∧ 0 ≤ 43200 from by have := angle_range w; have := angle_range u; first | omega | (rw [wr64 (by omega)] at *; omega) | (rw [wr64 (by omega)]; omega)) S143 (u143) (oo143.rows) (ht.agree g143)
            have l156 := a156.1
            have s156 : E0.same S143 S156 = true := symEnv_same a156
            have o13_157 := o13_144.agree a156
            have o14_158 := o14_145.agree a156
            have o16_159 := o16_146.agree a156
            have o19_160 := o19_147.agree a156
            have o23_161 := o23_148.agree a156
            have o28_162 := o28_149.agree a156
            have o34_163 := o34_150.agree a156
            have o58_164 := o58_151.agree a156
            have o59_165 := o59_152.agree a156
            have o68_166 := o68_153.agree a156
            have o78_167 := o78_154.agree a156
            have o89_168 := o89_155.agree a156
            have o143_169 := oo143.agree a156
            have g156 : Agree S S156 := g143.trans a156
            obtain ⟨u170, S170, k170, a170, oo170⟩ := c27w (a) (IntKind.i64.wrap ((angle w) + 0)) (usual_vk (show r75 a = true by assumption)) (by decide) (show 0 ≤ (IntKind.i64.wrap ((angle w) + 0)) ∧ (IntKind.i64.wrap ((angle w) + 0)) ≤ 43200 from by have := angle_range w; have := angle_range u; first | omega | (rw [wr64 (by omega)] at *; omega) | (rw [wr64 (by omega)]; omega)) S156 (v_a) (hv_a.agree g156) (ht.agree g156)
            have l170 := a170.1
            have s170 : E0.same S156 S170 = true := symEnv_same a170
            have o13_171 := o13_157.agree a170
            have o14_172 := o14_158.agree a170
            have o16_173 := o16_159.agree a170
            have o19_174 := o19_160.agree a170
            have o23_175 := o23_161.agree a170
            have o28_176 := o28_162.agree a170
            have o34_177 := o34_163.agree a170
            have o58_178 := o58_164.agree a170
            have o59_179 := o59_165.agree a170
            have o68_180 := o68_166.agree a170
            have o78_181 := o78_167.agree a170
            have o89_182 := o89_168.agree a170
            have o143_183 := o143_169.agree a170
            have o156_184 := oo156.agree a170
            have g170 : Agree S S170 := g156.trans a170
            obtain ⟨S185, k185, a185⟩ := c22 ((r24 (a) (b)) : List Ar) ((r24 (b) (a)) : List Ar) (by have := ((r24_vk (usual_vk (show r75 a = true by assumption)) (usual_vk (show r75 b = true by assumption)))).2; omega) S170 (u14) (o14_172.rows) (u16) (o16_173.rows) 
            have l185 := a185.1
            have s185 : E0.same S170 S185 = true := symEnv_same a185
            have o13_186 := o13_171.agree a185
            have o14_187 := o14_172.agree a185
            have o16_188 := o16_173.agree a185
            have o19_189 := o19_174.agree a185
            have o23_190 := o23_175.agree a185
            have o28_191 := o28_176.agree a185
            have o34_192 := o34_177.agree a185
            have o58_193 := o58_178.agree a185
            have o59_194 := o59_179.agree a185
            have o68_195 := o68_180.agree a185
            have o78_196 := o78_181.agree a185
            have o89_197 := o89_182.agree a185
            have o143_198 := o143_183.agree a185
            have o156_199 := o156_184.agree a185
            have o170_200 := oo170.agree a185
            have g185 : Agree S S185 := g170.trans a185
            try simp (disch := first | omega | assumption) only [E0_G, SY, setArgs, off, agreeKind, partVals, vals, allocV, boxed, ldA, rdCells, oneB, aggD, aField, aFieldV, aExtract, eq_self, ne_eq, if_true, if_false, not_false_eq_true, Nat.reduceAdd, Nat.reduceSub, Nat.reduceMul, Nat.reduceLT, Nat.reduceEqDiff, Nat.reduceBEq, reduceIte, Int.reduceEq, Int.reduceLT, Int.reduceLE, reduceCtorEq, TY_EvC14, and_fold, or_fold, not_fold, k1, s1, h2a, k3, s3, h4a, k5, s5, h6a, w7, w8, w9, w10, w11, h12a, k13, s13, k14, s14, k16, s16, k19, s19, k23, s23, k28, s28, k34, s34, y41, y42, s43, e43, b43, k59, s59, k68, s68, k78, s78, k89, s89, k101, s101, k114, s114, k127, s127, k140, k141, h142a, k143, s143, k156, s156, k170, s170, c15s, k185, s185] at hz
            rcases dB ((r22 ((r24 (a) (b)) : List Ar) ((r24 (b) (a)) : List Ar))) with ⟨h201a, h201⟩ | ⟨h201a, h201⟩
            · skip
              obtain ⟨S202, k202, a202⟩ := c22 ((r25 ((r24 (a) (b))) (c)) : List Ar) ((r24 ((r25 (a) (c))) ((r25 (b) (c)))) : List Ar) (by have := ((r25_vk (r24_vk (usual_vk (show r75 a = true by assumption)) (usual_vk (show r75 b = true by assumption))) (usual_vk (show r75 c = true by assumption)))).2; omega) S185 (u19) (o19_189.rows) (u34) (o34_192.rows) 
              have l202 := a202.1
              have s202 : E0.same S185 S202 = true := symEnv_same a202
              have o13_203 := o13_186.agree a202
              have o14_204 := o14_187.agree a202
              have o16_205 := o16_188.agree a202
              have o19_206 := o19_189.agree a202
              have o23_207 := o23_190.agree a202
              have o28_208 := o28_191.agree a202
              have o34_209 := o34_192.agree a202
              have o58_210 := o58_193.agree a202
              have o59_211 := o59_194.agree a202
              have o68_212 := o68_195.agree a202
              have o78_213 := o78_196.agree a202
              have o89_214 := o89_197.agree a202
              have o143_215 := o143_198.agree a202
              have o156_216 := o156_199.agree a202
              have o170_217 := o170_200.agree a202
              have g202 : Agree S S202 := g185.trans a202
              try simp (disch := first | omega | assumption) only [E0_G, SY, setArgs, off, agreeKind, partVals, vals, allocV, boxed, ldA, rdCells, oneB, aggD, aField, aFieldV, aExtract, eq_self, ne_eq, if_true, if_false, not_false_eq_true, Nat.reduceAdd, Nat.reduceSub, Nat.reduceMul, Nat.reduceLT, Nat.reduceEqDiff, Nat.reduceBEq, reduceIte, Int.reduceEq, Int.reduceLT, Int.reduceLE, reduceCtorEq, TY_EvC14, and_fold, or_fold, not_fold, k1, s1, h2a, k3, s3, h4a, k5, s5, h6a, w7, w8, w9, w10, w11, h12a, k13, s13, k14, s14, k16, s16, k19, s19, k23, s23, k28, s28, k34, s34, y41, y42, s43, e43, b43, k59, s59, k68, s68, k78, s78, k89, s89, k101, s101, k114, s114, k127, s127, k140, k141, h142a, k143, s143, k156, s156, k170, s170, c15s, k185, s185, h201a, k202, s202] at hz
              rcases dB ((r22 ((r25 ((r24 (a) (b))) (c)) : List Ar) ((r24 ((r25 (a) (c))) ((r25 (b) (c)))) : List Ar))) with ⟨h218a, h218⟩ | ⟨h218a, h218⟩
              · skip
                obtain ⟨S219, k219, a219⟩ := c22 ((r26 ([(⟨0, 43199⟩ : Ar)]) ((r26 ([(⟨0, 43199⟩ : Ar)]) (a)))) : List Ar) ((r87 (r88 (a))) : List Ar) (by have := ((r26_vk (show Vk 1 ([(⟨0, 43199⟩ : Ar)]) from whole_vk) (r26_vk (show Vk 1 ([(⟨0, 43199⟩ : Ar)]) from whole_vk) (usual_vk (show r75 a = true by assumption))))).2; omega) S202 (u68) (o68_212.rows) (u13) (o13_203.rows) 
                have l219 := a219.1
                have s219 : E0.same S202 S219 = true := symEnv_same a219
                have o13_220 := o13_203.agree a219
                have o14_221 := o14_204.agree a219
                have o16_222 := o16_205.agree a219
                have o19_223 := o19_206.agree a219
                have o23_224 := o23_207.agree a219
                have o28_225 := o28_208.agree a219
                have o34_226 := o34_209.agree a219
                have o58_227 := o58_210.agree a219
                have o59_228 := o59_211.agree a219
                have o68_229 := o68_212.agree a219
                have o78_230 := o78_213.agree a219
                have o89_231 := o89_214.agree a219
                have o143_232 := o143_215.agree a219
                have o156_233 := o156_216.agree a219
                have o170_234 := o170_217.agree a219
                have g219 : Agree S S219 := g202.trans a219
                try simp (disch := first | omega | assumption) only [E0_G, SY, setArgs, off, agreeKind, partVals, vals, allocV, boxed, ldA, rdCells, oneB, aggD, aField, aFieldV, aExtract, eq_self, ne_eq, if_true, if_false, not_false_eq_true, Nat.reduceAdd, Nat.reduceSub, Nat.reduceMul, Nat.reduceLT, Nat.reduceEqDiff, Nat.reduceBEq, reduceIte, Int.reduceEq, Int.reduceLT, Int.reduceLE, reduceCtorEq, TY_EvC14, and_fold, or_fold, not_fold, k1, s1, h2a, k3, s3, h4a, k5, s5, h6a, w7, w8, w9, w10, w11, h12a, k13, s13, k14, s14, k16, s16, k19, s19, k23, s23, k28, s28, k34, s34, y41, y42, s43, e43, b43, k59, s59, k68, s68, k78, s78, k89, s89, k101, s101, k114, s114, k127, s127, k140, k141, h142a, k143, s143, k156, s156, k170, s170, c15s, k185, s185, h201a, k202, s202, h218a, k219, s219] at hz
                rcases dB ((r22 ((r26 ([(⟨0, 43199⟩ : Ar)]) ((r26 ([(⟨0, 43199⟩ : Ar)]) (a)))) : List Ar) ((r87 (r88 (a))) : List Ar))) with ⟨h235a, h235⟩ | ⟨h235a, h235⟩
                · skip
                  try simp (disch := first | omega | assumption) only [E0_G, SY, setArgs, off, agreeKind, partVals, vals, allocV, boxed, ldA, rdCells, oneB, aggD, aField, aFieldV, aExtract, eq_self, ne_eq, if_true, if_false, not_false_eq_true, Nat.reduceAdd, Nat.reduceSub, Nat.reduceMul, Nat.reduceLT, Nat.reduceEqDiff, Nat.reduceBEq, reduceIte, Int.reduceEq, Int.reduceLT, Int.reduceLE, reduceCtorEq, TY_EvC14, and_fold, or_fold, not_fold, k1, s1, h2a, k3, s3, h4a, k5, s5, h6a, w7, w8, w9, w10, w11, h12a, k13, s13, k14, s14, k16, s16, k19, s19, k23, s23, k28, s28, k34, s34, y41, y42, s43, e43, b43, k59, s59, k68, s68, k78, s78, k89, s89, k101, s101, k114, s114, k127, s127, k140, k141, h142a, k143, s143, k156, s156, k170, s170, c15s, k185, s185, h201a, k202, s202, h218a, k219, s219, h235a] at hz
                  rcases dP ((IntKind.i64.wrap (((r28 ((r25 (a) (b)))).1) + ((r28 ((r26 (a) (b)))).1))) = ((r28 (a)).1)) with ⟨h236a, h236⟩ | ⟨h236a, h236⟩
                  · skip
                    obtain ⟨S237, k237, a237⟩ := c22 ((r31 ((r31 (a) (angle w))) 0) : List Ar) ((r31 (a) (IntKind.i64.wrap ((angle w) + 0))) : List Ar) (by have := ((r31_vk (r31_vk (usual_vk (show r75 a = true by assumption)) (show 0 ≤ (angle w) ∧ (angle w) ≤ 43200 from by have := angle_range w; have := angle_range u; first | omega | (rw [wr64 (by omega)] at *; omega) | (rw [wr64 (by omega)]; omega))) (show 0 ≤ 0 ∧ 0 ≤ 43200 from by have := angle_range w; have := angle_range u; first | omega | (rw [wr64 (by omega)] at *; omega) | (rw [wr64 (by omega)]; omega)))).2; omega) S219 (u156) (o156_233.rows) (u170) (o170_234.rows) 
                    have l237 := a237.1
                    have s237 : E0.same S219 S237 = true := symEnv_same a237
                    have o13_238 := o13_220.agree a237
                    have o14_239 := o14_221.agree a237
                    have o16_240 := o16_222.agree a237
                    have o19_241 := o19_223.agree a237
                    have o23_242 := o23_224.agree a237
                    have o28_243 := o28_225.agree a237
                    have o34_244 := o34_226.agree a237
                    have o58_245 := o58_227.agree a237
                    have o59_246 := o59_228.agree a237
                    have o68_247 := o68_229.agree a237
                    have o78_248 := o78_230.agree a237
                    have o89_249 := o89_231.agree a237
                    have o143_250 := o143_232.agree a237
                    have o156_251 := o156_233.agree a237
                    have o170_252 := o170_234.agree a237
                    have g237 : Agree S S237 := g219.trans a237
                    try simp (disch := first | omega | assumption) only [E0_G, SY, setArgs, off, agreeKind, partVals, vals, allocV, boxed, ldA, rdCells, oneB, aggD, aField, aFieldV, aExtract, eq_self, ne_eq, if_true, if_false, not_false_eq_true, Nat.reduceAdd, Nat.reduceSub, Nat.reduceMul, Nat.reduceLT, Nat.reduceEqDiff, Nat.reduceBEq, reduceIte, Int.reduceEq, Int.reduceLT, Int.reduceLE, reduceCtorEq, TY_EvC14, and_fold, or_fold, not_fold, k1, s1, h2a, k3, s3, h4a, k5, s5, h6a, w7, w8, w9, w10, w11, h12a, k13, s13, k14, s14, k16, s16, k19, s19, k23, s23, k28, s28, k34, s34, y41, y42, s43, e43, b43, k59, s59, k68, s68, k78, s78, k89, s89, k101, s101, k114, s114, k127, s127, k140, k141, h142a, k143, s143, k156, s156, k170, s170, c15s, k185, s185, h201a, k202, s202, h218a, k219, s219, h235a, h236a, k237, s237] at hz
                    have hr : r1003 a b c w u = (r22 ((r31 ((r31 (a) (angle w))) 0) : List Ar) ((r31 (a) (IntKind.i64.wrap ((angle w) + 0))) : List Ar)) := (if_pos h2).trans ((if_pos h4).trans ((if_pos h6).trans ((if_neg h12).trans ((if_pos h142).trans ((if_pos h201).trans ((if_pos h218).trans ((if_pos h235).trans ((if_pos h236).trans (rfl)))))))))
                    exact fin hz (by rw [hr]) g237
                  · skip
                    try simp (disch := first | omega | assumption) only [E0_G, SY, setArgs, off, agreeKind, partVals, vals, allocV, boxed, ldA, rdCells, oneB, aggD, aField, aFieldV, aExtract, eq_self, ne_eq, if_true, if_false, not_false_eq_true, Nat.reduceAdd, Nat.reduceSub, Nat.reduceMul, Nat.reduceLT, Nat.reduceEqDiff, Nat.reduceBEq, reduceIte, Int.reduceEq, Int.reduceLT, Int.reduceLE, reduceCtorEq, TY_EvC14, and_fold, or_fold, not_fold, k1, s1, h2a, k3, s3, h4a, k5, s5, h6a, w7, w8, w9, w10, w11, h12a, k13, s13, k14, s14, k16, s16, k19, s19, k23, s23, k28, s28, k34, s34, y41, y42, s43, e43, b43, k59, s59, k68, s68, k78, s78, k89, s89, k101, s101, k114, s114, k127, s127, k140, k141, h142a, k143, s143, k156, s156, k170, s170, c15s, k185, s185, h201a, k202, s202, h218a, k219, s219, h235a, h236a] at hz
                    have hr : r1003 a b c w u = false := (if_pos h2).trans ((if_pos h4).trans ((if_pos h6).trans ((if_neg h12).trans ((if_pos h142).trans ((if_pos h201).trans ((if_pos h218).trans ((if_pos h235).trans ((if_neg h236).trans (rfl)))))))))
                    exact fin hz (by rw [hr]) g219
                · skip
                  try simp (disch := first | omega | assumption) only [E0_G, SY, setArgs, off, agreeKind, partVals, vals, allocV, boxed, ldA, rdCells, oneB, aggD, aField, aFieldV, aExtract, eq_self, ne_eq, if_true, if_false, not_false_eq_true, Nat.reduceAdd, Nat.reduceSub, Nat.reduceMul, Nat.reduceLT, Nat.reduceEqDiff, Nat.reduceBEq, reduceIte, Int.reduceEq, Int.reduceLT, Int.reduceLE, reduceCtorEq, TY_EvC14, and_fold, or_fold, not_fold, k1, s1, h2a, k3, s3, h4a, k5, s5, h6a, w7, w8, w9, w10, w11, h12a, k13, s13, k14, s14, k16, s16, k19, s19, k23, s23, k28, s28, k34, s34, y41, y42, s43, e43, b43, k59, s59, k68, s68, k78, s78, k89, s89, k101, s101, k114, s114, k127, s127, k140, k141, h142a, k143, s143, k156, s156, k170, s170, c15s, k185, s185, h201a, k202, s202, h218a, k219, s219, h235a] at hz
                  have hr : r1003 a b c w u = false := (if_pos h2).trans ((if_pos h4).trans ((if_pos h6).trans ((if_neg h12).trans ((if_pos h142).trans ((if_pos h201).trans ((if_pos h218).trans ((if_neg h235).trans (rfl))))))))
                  exact fin hz (by rw [hr]) g219
              · skip
                try simp (disch := first | omega | assumption) only [E0_G, SY, setArgs, off, agreeKind, partVals, vals, allocV, boxed, ldA, rdCells, oneB, aggD, aField, aFieldV, aExtract, eq_self, ne_eq, if_true, if_false, not_false_eq_true, Nat.reduceAdd, Nat.reduceSub, Nat.reduceMul, Nat.reduceLT, Nat.reduceEqDiff, Nat.reduceBEq, reduceIte, Int.reduceEq, Int.reduceLT, Int.reduceLE, reduceCtorEq, TY_EvC14, and_fold, or_fold, not_fold, k1, s1, h2a, k3, s3, h4a, k5, s5, h6a, w7, w8, w9, w10, w11, h12a, k13, s13, k14, s14, k16, s16, k19, s19, k23, s23, k28, s28, k34, s34, y41, y42, s43, e43, b43, k59, s59, k68, s68, k78, s78, k89, s89, k101, s101, k114, s114, k127, s127, k140, k141, h142a, k143, s143, k156, s156, k170, s170, c15s, k185, s185, h201a, k202, s202, h218a] at hz
                have hr : r1003 a b c w u = false := (if_pos h2).trans ((if_pos h4).trans ((if_pos h6).trans ((if_neg h12).trans ((if_pos h142).trans ((if_pos h201).trans ((if_neg h218).trans (rfl)))))))
                exact fin hz (by rw [hr]) g202
            · skip
              try simp (disch := first | omega | assumption) only [E0_G, SY, setArgs, off, agreeKind, partVals, vals, allocV, boxed, ldA, rdCells, oneB, aggD, aField, aFieldV, aExtract, eq_self, ne_eq, if_true, if_false, not_false_eq_true, Nat.reduceAdd, Nat.reduceSub, Nat.reduceMul, Nat.reduceLT, Nat.reduceEqDiff, Nat.reduceBEq, reduceIte, Int.reduceEq, Int.reduceLT, Int.reduceLE, reduceCtorEq, TY_EvC14, and_fold, or_fold, not_fold, k1, s1, h2a, k3, s3, h4a, k5, s5, h6a, w7, w8, w9, w10, w11, h12a, k13, s13, k14, s14, k16, s16, k19, s19, k23, s23, k28, s28, k34, s34, y41, y42, s43, e43, b43, k59, s59, k68, s68, k78, s78, k89, s89, k101, s101, k114, s114, k127, s127, k140, k141, h142a, k143, s143, k156, s156, k170, s170, c15s, k185, s185, h201a] at hz
              have hr : r1003 a b c w u = false := (if_pos h2).trans ((if_pos h4).trans ((if_pos h6).trans ((if_neg h12).trans ((if_pos h142).trans ((if_neg h201).trans (rfl))))))
              exact fin hz (by rw [hr]) g185
          · skip
            obtain ⟨u253, S253, k253, a253, oo253⟩ := c27w (a) (angle w) (usual_vk (show r75 a = true by assumption)) (by decide) (show 0 ≤ (angle w) ∧ (angle w) ≤ 43200 from by have := angle_range w; have := angle_range u; first | omega | (rw [wr64 (by omega)] at *; omega) | (rw [wr64 (by omega)]; omega)) S127 (v_a) (hv_a.agree g127) (ht.agree g127)
            have l253 := a253.1
            have s253 : E0.same S127 S253 = true := symEnv_same a253
            have o13_254 := o13_128.agree a253
            have o14_255 := o14_129.agree a253
            have o16_256 := o16_130.agree a253
            have o19_257 := o19_131.agree a253
            have o23_258 := o23_132.agree a253
            have o28_259 := o28_133.agree a253
            have o34_260 := o34_134.agree a253
            have o58_261 := o58_135.agree a253
            have o59_262 := o59_136.agree a253
            have o68_263 := o68_137.agree a253
            have o78_264 := o78_138.agree a253
            have o89_265 := o89_139.agree a253
            have g253 : Agree S S253 := g127.trans a253
            obtain ⟨u266, S266, k266, a266, oo266⟩ := c27w ((r31 (a) (angle w))) (angle u) (r31_vk (usual_vk (show r75 a = true by assumption)) (show 0 ≤ (angle w) ∧ (angle w) ≤ 43200 from by have := angle_range w; have := angle_range u; first | omega | (rw [wr64 (by omega)] at *; omega) | (rw [wr64 (by omega)]; omega))) (by decide) (show 0 ≤ (angle u) ∧ (angle u) ≤ 43200 from by have := angle_range w; have := angle_range u; first | omega | (rw [wr64 (by omega)] at *; omega) | (rw [wr64 (by omega)]; omega)) S253 (u253) (oo253.rows) (ht.agree g253)
            have l266 := a266.1
            have s266 : E0.same S253 S266 = true := symEnv_same a266
            have o13_267 := o13_254.agree a266
            have o14_268 := o14_255.agree a266
            have o16_269 := o16_256.agree a266
            have o19_270 := o19_257.agree a266
            have o23_271 := o23_258.agree a266
            have o28_272 := o28_259.agree a266
            have o34_273 := o34_260.agree a266
            have o58_274 := o58_261.agree a266
            have o59_275 := o59_262.agree a266
            have o68_276 := o68_263.agree a266
            have o78_277 := o78_264.agree a266
            have o89_278 := o89_265.agree a266
            have o253_279 := oo253.agree a266
            have g266 : Agree S S266 := g253.trans a266
            obtain ⟨u280, S280, k280, a280, oo280⟩ := c27w (a) (IntKind.i64.wrap ((angle w) + (angle u))) (usual_vk (show r75 a = true by assumption)) (by decide) (show 0 ≤ (IntKind.i64.wrap ((angle w) + (angle u))) ∧ (IntKind.i64.wrap ((angle w) + (angle u))) ≤ 43200 from by have := angle_range w; have := angle_range u; first | omega | (rw [wr64 (by omega)] at *; omega) | (rw [wr64 (by omega)]; omega)) S266 (v_a) (hv_a.agree g266) (ht.agree g266)
            have l280 := a280.1
            have s280 : E0.same S266 S280 = true := symEnv_same a280
            have o13_281 := o13_267.agree a280
            have o14_282 := o14_268.agree a280
            have o16_283 := o16_269.agree a280
            have o19_284 := o19_270.agree a280
            have o23_285 := o23_271.agree a280
            have o28_286 := o28_272.agree a280
            have o34_287 := o34_273.agree a280
            have o58_288 := o58_274.agree a280
            have o59_289 := o59_275.agree a280
            have o68_290 := o68_276.agree a280
            have o78_291 := o78_277.agree a280
            have o89_292 := o89_278.agree a280
            have o253_293 := o253_279.agree a280
            have o266_294 := oo266.agree a280
            have g280 : Agree S S280 := g266.trans a280
            obtain ⟨S295, k295, a295⟩ := c22 ((r24 (a) (b)) : List Ar) ((r24 (b) (a)) : List Ar) (by have := ((r24_vk (usual_vk (show r75 a = true by assumption)) (usual_vk (show r75 b = true by assumption)))).2; omega) S280 (u14) (o14_282.rows) (u16) (o16_283.rows) 
            have l295 := a295.1
            have s295 : E0.same S280 S295 = true := symEnv_same a295
            have o13_296 := o13_281.agree a295
            have o14_297 := o14_282.agree a295
            have o16_298 := o16_283.agree a295
            have o19_299 := o19_284.agree a295
            have o23_300 := o23_285.agree a295
            have o28_301 := o28_286.agree a295
            have o34_302 := o34_287.agree a295
            have o58_303 := o58_288.agree a295
            have o59_304 := o59_289.agree a295
            have o68_305 := o68_290.agree a295
            have o78_306 := o78_291.agree a295
            have o89_307 := o89_292.agree a295
            have o253_308 := o253_293.agree a295
            have o266_309 := o266_294.agree a295
            have o280_310 := oo280.agree a295
            have g295 : Agree S S295 := g280.trans a295
            try simp (disch := first | omega | assumption) only [E0_G, SY, setArgs, off, agreeKind, partVals, vals, allocV, boxed, ldA, rdCells, oneB, aggD, aField, aFieldV, aExtract, eq_self, ne_eq, if_true, if_false, not_false_eq_true, Nat.reduceAdd, Nat.reduceSub, Nat.reduceMul, Nat.reduceLT, Nat.reduceEqDiff, Nat.reduceBEq, reduceIte, Int.reduceEq, Int.reduceLT, Int.reduceLE, reduceCtorEq, TY_EvC14, and_fold, or_fold, not_fold, k1, s1, h2a, k3, s3, h4a, k5, s5, h6a, w7, w8, w9, w10, w11, h12a, k13, s13, k14, s14, k16, s16, k19, s19, k23, s23, k28, s28, k34, s34, y41, y42, s43, e43, b43, k59, s59, k68, s68, k78, s78, k89, s89, k101, s101, k114, s114, k127, s127, k140, k141, h142a, k253, s253, k266, s266, k280, s280, c15s, k295, s295] at hz
            rcases dB ((r22 ((r24 (a) (b)) : List Ar) ((r24 (b) (a)) : List Ar))) with ⟨h311a, h311⟩ | ⟨h311a, h311⟩
            · skip
              obtain ⟨S312, k312, a312⟩ := c22 ((r25 ((r24 (a) (b))) (c)) : List Ar) ((r24 ((r25 (a) (c))) ((r25 (b) (c)))) : List Ar) (by have := ((r25_vk (r24_vk (usual_vk (show r75 a = true by assumption)) (usual_vk (show r75 b = true by assumption))) (usual_vk (show r75 c = true by assumption)))).2; omega) S295 (u19) (o19_299.rows) (u34) (o34_302.rows) 
              have l312 := a312.1
              have s312 : E0.same S295 S312 = true := symEnv_same a312
              have o13_313 := o13_296.agree a312
              have o14_314 := o14_297.agree a312
              have o16_315 := o16_298.agree a312
              have o19_316 := o19_299.agree a312
              have o23_317 := o23_300.agree a312
              have o28_318 := o28_301.agree a312
              have o34_319 := o34_302.agree a312
              have o58_320 := o58_303.agree a312
              have o59_321 := o59_304.agree a312
              have o68_322 := o68_305.agree a312
              have o78_323 := o78_306.agree a312
              have o89_324 := o89_307.agree a312
              have o253_325 := o253_308.agree a312
              have o266_326 := o266_309.agree a312
              have o280_327 := o280_310.agree a312
              have g312 : Agree S S312 := g295.trans a312
              try simp (disch := first | omega | assumption) only [E0_G, SY, setArgs, off, agreeKind, partVals, vals, allocV, boxed, ldA, rdCells, oneB, aggD, aField, aFieldV, aExtract, eq_self, ne_eq, if_true, if_false, not_false_eq_true, Nat.reduceAdd, Nat.reduceSub, Nat.reduceMul, Nat.reduceLT, Nat.reduceEqDiff, Nat.reduceBEq, reduceIte, Int.reduceEq, Int.reduceLT, Int.reduceLE, reduceCtorEq, TY_EvC14, and_fold, or_fold, not_fold, k1, s1, h2a, k3, s3, h4a, k5, s5, h6a, w7, w8, w9, w10, w11, h12a, k13, s13, k14, s14, k16, s16, k19, s19, k23, s23, k28, s28, k34, s34, y41, y42, s43, e43, b43, k59, s59, k68, s68, k78, s78, k89, s89, k101, s101, k114, s114, k127, s127, k140, k141, h142a, k253, s253, k266, s266, k280, s280, c15s, k295, s295, h311a, k312, s312] at hz
              rcases dB ((r22 ((r25 ((r24 (a) (b))) (c)) : List Ar) ((r24 ((r25 (a) (c))) ((r25 (b) (c)))) : List Ar))) with ⟨h328a, h328⟩ | ⟨h328a, h328⟩
              · skip
                obtain ⟨S329, k329, a329⟩ := c22 ((r26 ([(⟨0, 43199⟩ : Ar)]) ((r26 ([(⟨0, 43199⟩ : Ar)]) (a)))) : List Ar) ((r87 (r88 (a))) : List Ar) (by have := ((r26_vk (show Vk 1 ([(⟨0, 43199⟩ : Ar)]) from whole_vk) (r26_vk (show Vk 1 ([(⟨0, 43199⟩ : Ar)]) from whole_vk) (usual_vk (show r75 a = true by assumption))))).2; omega) S312 (u68) (o68_322.rows) (u13) (o13_313.rows) 
                have l329 := a329.1
                have s329 : E0.same S312 S329 = true := symEnv_same a329
                have o13_330 := o13_313.agree a329
                have o14_331 := o14_314.agree a329
                have o16_332 := o16_315.agree a329
                have o19_333 := o19_316.agree a329
                have o23_334 := o23_317.agree a329
                have o28_335 := o28_318.agree a329
                have o34_336 := o34_319.agree a329
                have o58_337 := o58_320.agree a329
                have o59_338 := o59_321.agree a329
                have o68_339 := o68_322.agree a329
                have o78_340 := o78_323.agree a329
                have o89_341 := o89_324.agree a329
                have o253_342 := o253_325.agree a329
                have o266_343 := o266_326.agree a329
                have o280_344 := o280_327.agree a329
                have g329 : Agree S S329 := g312.trans a329
                try simp (disch := first | omega | assumption) only [E0_G, SY, setArgs, off, agreeKind, partVals, vals, allocV, boxed, ldA, rdCells, oneB, aggD, aField, aFieldV, aExtract, eq_self, ne_eq, if_true, if_false, not_false_eq_true, Nat.reduceAdd, Nat.reduceSub, Nat.reduceMul, Nat.reduceLT, Nat.reduceEqDiff, Nat.reduceBEq, reduceIte, Int.reduceEq, Int.reduceLT, Int.reduceLE, reduceCtorEq, TY_EvC14, and_fold, or_fold, not_fold, k1, s1, h2a, k3, s3, h4a, k5, s5, h6a, w7, w8, w9, w10, w11, h12a, k13, s13, k14, s14, k16, s16, k19, s19, k23, s23, k28, s28, k34, s34, y41, y42, s43, e43, b43, k59, s59, k68, s68, k78, s78, k89, s89, k101, s101, k114, s114, k127, s127, k140, k141, h142a, k253, s253, k266, s266, k280, s280, c15s, k295, s295, h311a, k312, s312, h328a, k329, s329] at hz
                rcases dB ((r22 ((r26 ([(⟨0, 43199⟩ : Ar)]) ((r26 ([(⟨0, 43199⟩ : Ar)]) (a)))) : List Ar) ((r87 (r88 (a))) : List Ar))) with ⟨h345a, h345⟩ | ⟨h345a, h345⟩
                · skip
                  try simp (disch := first | omega | assumption) only [E0_G, SY, setArgs, off, agreeKind, partVals, vals, allocV, boxed, ldA, rdCells, oneB, aggD, aField, aFieldV, aExtract, eq_self, ne_eq, if_true, if_false, not_false_eq_true, Nat.reduceAdd, Nat.reduceSub, Nat.reduceMul, Nat.reduceLT, Nat.reduceEqDiff, Nat.reduceBEq, reduceIte, Int.reduceEq, Int.reduceLT, Int.reduceLE, reduceCtorEq, TY_EvC14, and_fold, or_fold, not_fold, k1, s1, h2a, k3, s3, h4a, k5, s5, h6a, w7, w8, w9, w10, w11, h12a, k13, s13, k14, s14, k16, s16, k19, s19, k23, s23, k28, s28, k34, s34, y41, y42, s43, e43, b43, k59, s59, k68, s68, k78, s78, k89, s89, k101, s101, k114, s114, k127, s127, k140, k141, h142a, k253, s253, k266, s266, k280, s280, c15s, k295, s295, h311a, k312, s312, h328a, k329, s329, h345a] at hz
                  rcases dP ((IntKind.i64.wrap (((r28 ((r25 (a) (b)))).1) + ((r28 ((r26 (a) (b)))).1))) = ((r28 (a)).1)) with ⟨h346a, h346⟩ | ⟨h346a, h346⟩
                  · skip
                    obtain ⟨S347, k347, a347⟩ := c22 ((r31 ((r31 (a) (angle w))) (angle u)) : List Ar) ((r31 (a) (IntKind.i64.wrap ((angle w) + (angle u)))) : List Ar) (by have := ((r31_vk (r31_vk (usual_vk (show r75 a = true by assumption)) (show 0 ≤ (angle w) ∧ (angle w) ≤ 43200 from by have := angle_range w; have := angle_range u; first | omega | (rw [wr64 (by omega)] at *; omega) | (rw [wr64 (by omega)]; omega))) (show 0 ≤ (angle u) ∧ (angle u) ≤ 43200 from by have := angle_range w; have := angle_range u; first | omega | (rw [wr64 (by omega)] at *; omega) | (rw [wr64 (by omega)]; omega)))).2; omega) S329 (u266) (o266_343.rows) (u280) (o280_344.rows) 
                    have l347 := a347.1
                    have s347 : E0.same S329 S347 = true := symEnv_same a347
                    have o13_348 := o13_330.agree a347
                    have o14_349 := o14_331.agree a347
                    have o16_350 := o16_332.agree a347
                    have o19_351 := o19_333.agree a347
                    have o23_352 := o23_334.agree a347
                    have o28_353 := o28_335.agree a347
                    have o34_354 := o34_336.agree a347
                    have o58_355 := o58_337.agree a347
                    have o59_356 := o59_338.agree a347
                    have o68_357 := o68_339.agree a347
                    have o78_358 := o78_340.agree a347
                    have o89_359 := o89_341.agree a347
                    have o253_360 := o253_342.agree a347
                    have o266_361 := o266_343.agree a347
                    have o280_362 := o280_344.agree a347
                    have g347 : Agree S S347 := g329.trans a347
                    try simp (disch := first | omega | assumption) only [E0_G, SY, setArgs, off, agreeKind, partVals, vals, allocV, boxed, ldA, rdCells, oneB, aggD, aField, aFieldV, aExtract, eq_self, ne_eq, if_true, if_false, not_false_eq_true, Nat.reduceAdd, Nat.reduceSub, Nat.reduceMul, Nat.reduceLT, Nat.reduceEqDiff, Nat.reduceBEq, reduceIte, Int.reduceEq, Int.reduceLT, Int.reduceLE, reduceCtorEq, TY_EvC14, and_fold, or_fold, not_fold, k1, s1, h2a, k3, s3, h4a, k5, s5, h6a, w7, w8, w9, w10, w11, h12a, k13, s13, k14, s14, k16, s16, k19, s19, k23, s23, k28, s28, k34, s34, y41, y42, s43, e43, b43, k59, s59, k68, s68, k78, s78, k89, s89, k101, s101, k114, s114, k127, s127, k140, k141, h142a, k253, s253, k266, s266, k280, s280, c15s, k295, s295, h311a, k312, s312, h328a, k329, s329, h345a, h346a, k347, s347] at hz
                    have hr : r1003 a b c w u = (r22 ((r31 ((r31 (a) (angle w))) (angle u)) : List Ar) ((r31 (a) (IntKind.i64.wrap ((angle w) + (angle u)))) : List Ar)) := (if_pos h2).trans ((if_pos h4).trans ((if_pos h6).trans ((if_neg h12).trans ((if_neg h142).trans ((if_pos h311).trans ((if_pos h328).trans ((if_pos h345).trans ((if_pos h346).trans (rfl)))))))))
                    exact fin hz (by rw [hr]) g347
                  · skip
                    try simp (disch := first | omega | assumption) only [E0_G, SY, setArgs, off, agreeKind, partVals, vals, allocV, boxed, ldA, rdCells, oneB, aggD, aField, aFieldV, aExtract, eq_self, ne_eq, if_true, if_false, not_false_eq_true, Nat.reduceAdd, Nat.reduceSub, Nat.reduceMul, Nat.reduceLT, Nat.reduceEqDiff, Nat.reduceBEq, reduceIte, Int.reduceEq, Int.reduceLT, Int.reduceLE, reduceCtorEq, TY_EvC14, and_fold, or_fold, not_fold, k1, s1, h2a, k3, s3, h4a, k5, s5, h6a, w7, w8, w9, w10, w11, h12a, k13, s13, k14, s14, k16, s16, k19, s19, k23, s23, k28, s28, k34, s34, y41, y42, s43, e43, b43, k59, s59, k68, s68, k78, s78, k89, s89, k101, s101, k114, s114, k127, s127, k140, k141, h142a, k253, s253, k266, s266, k280, s280, c15s, k295, s295, h311a, k312, s312, h328a, k329, s329, h345a, h346a] at hz
                    have hr : r1003 a b c w u = false := (if_pos h2).trans ((if_pos h4).trans ((if_pos h6).trans ((if_neg h12).trans ((if_neg h142).trans ((if_pos h311).trans ((if_pos h328).trans ((if_pos h345).trans ((if_neg h346).trans (rfl)))))))))
                    exact fin hz (by rw [hr]) g329
                · skip
                  try simp (disch := first | omega | assumption) only [E0_G, SY, setArgs, off, agreeKind, partVals, vals, allocV, boxed, ldA, rdCells, oneB, aggD, aField, aFieldV, aExtract, eq_self, ne_eq, if_true, if_false, not_false_eq_true, Nat.reduceAdd, Nat.reduceSub, Nat.reduceMul, Nat.reduceLT, Nat.reduceEqDiff, Nat.reduceBEq, reduceIte, Int.reduceEq, Int.reduceLT, Int.reduceLE, reduceCtorEq, TY_EvC14, and_fold, or_fold, not_fold, k1, s1, h2a, k3, s3, h4a, k5, s5, h6a, w7, w8, w9, w10, w11, h12a, k13, s13, k14, s14, k16, s16, k19, s19, k23, s23, k28, s28, k34, s34, y41, y42, s43, e43, b43, k59, s59, k68, s68, k78, s78, k89, s89, k101, s101, k114, s114, k127, s127, k140, k141, h142a, k253, s253, k266, s266, k280, s280, c15s, k295, s295, h311a, k312, s312, h328a, k329, s329, h345a] at hz
                  have hr : r1003 a b c w u = false := (if_pos h2).trans ((if_pos h4).trans ((if_pos h6).trans ((if_neg h12).trans ((if_neg h142).trans ((if_pos h311).trans ((if_pos h328).trans ((if_neg h345).trans (rfl))))))))
                  exact fin hz (by rw [hr]) g329
              · skip
                try simp (disch := first | omega | assumption) only [E0_G, SY, setArgs, off, agreeKind, partVals, vals, allocV, boxed, ldA, rdCells, oneB, aggD, aField, aFieldV, aExtract, eq_self, ne_eq, if_true, if_false, not_false_eq_true, Nat.reduceAdd, Nat.reduceSub, Nat.reduceMul, Nat.reduceLT, Nat.reduceEqDiff, Nat.reduceBEq, reduceIte, Int.reduceEq, Int.reduceLT, Int.reduceLE, reduceCtorEq, TY_EvC14, and_fold, or_fold, not_fold, k1, s1, h2a, k3, s3, h4a, k5, s5, h6a, w7, w8, w9, w10, w11, h12a, k13, s13, k14, s14, k16, s16, k19, s19, k23, s23, k28, s28, k34, s34, y41, y42, s43, e43, b43, k59, s59, k68, s68, k78, s78, k89, s89, k101, s101, k114, s114, k127, s127, k140, k141, h142a, k253, s253, k266, s266, k280, s280, c15s, k295, s295, h311a, k312, s312, h328a] at hz
                have hr : r1003 a b c w u = false := (if_pos h2).trans ((if_pos h4).trans ((if_pos h6).trans ((if_neg h12).trans ((if_neg h142).trans ((if_pos h311).trans ((if_neg h328).trans (rfl)))))))
                exact fin hz (by rw [hr]) g312
            · skip
              try simp (disch := first | omega | assumption) only [E0_G, SY, setArgs, off, agreeKind, partVals, vals, allocV, boxed, ldA, rdCells, oneB, aggD, aField, aFieldV, aExtract, eq_self, ne_eq, if_true, if_false, not_false_eq_true, Nat.reduceAdd, Nat.reduceSub, Nat.reduceMul, Nat.reduceLT, Nat.reduceEqDiff, Nat.reduceBEq, reduceIte, Int.reduceEq, Int.reduceLT, Int.reduceLE, reduceCtorEq, TY_EvC14, and_fold, or_fold, not_fold, k1, s1, h2a, k3, s3, h4a, k5, s5, h6a, w7, w8, w9, w10, w11, h12a, k13, s13, k14, s14, k16, s16, k19, s19, k23, s23, k28, s28, k34, s34, y41, y42, s43, e43, b43, k59, s59, k68, s68, k78, s78, k89, s89, k101, s101, k114, s114, k127, s127, k140, k141, h142a, k253, s253, k266, s266, k280, s280, c15s, k295, s295, h311a] at hz
              have hr : r1003 a b c w u = false := (if_pos h2).trans ((if_pos h4).trans ((if_pos h6).trans ((if_neg h12).trans ((if_neg h142).trans ((if_neg h311).trans (rfl))))))
              exact fin hz (by rw [hr]) g295
      · skip
        try simp (disch := first | omega | assumption) only [E0_G, SY, setArgs, off, agreeKind, partVals, vals, allocV, boxed, ldA, rdCells, oneB, aggD, aField, aFieldV, aExtract, eq_self, ne_eq, if_true, if_false, not_false_eq_true, Nat.reduceAdd, Nat.reduceSub, Nat.reduceMul, Nat.reduceLT, Nat.reduceEqDiff, Nat.reduceBEq, reduceIte, Int.reduceEq, Int.reduceLT, Int.reduceLE, reduceCtorEq, TY_EvC14, and_fold, or_fold, not_fold, k1, s1, h2a, k3, s3, h4a, k5, s5, h6a, c15s] at hz
        have hr : r1003 a b c w u = true := (if_pos h2).trans ((if_pos h4).trans ((if_neg h6).trans (rfl)))
        exact fin hz (by rw [hr]) g5
    · skip
      try simp (disch := first | omega | assumption) only [E0_G, SY, setArgs, off, agreeKind, partVals, vals, allocV, boxed, ldA, rdCells, oneB, aggD, aField, aFieldV, aExtract, eq_self, ne_eq, if_true, if_false, not_false_eq_true, Nat.reduceAdd, Nat.reduceSub, Nat.reduceMul, Nat.reduceLT, Nat.reduceEqDiff, Nat.reduceBEq, reduceIte, Int.reduceEq, Int.reduceLT, Int.reduceLE, reduceCtorEq, TY_EvC14, and_fold, or_fold, not_fold, k1, s1, h2a, k3, s3, h4a, c15s] at hz
      have hr : r1003 a b c w u = true := (if_pos h2).trans ((if_neg h4).trans (rfl))
      exact fin hz (by rw [hr]) g3
  · skip
    try simp (disch := first | omega | assumption) only [E0_G, SY, setArgs, off, agreeKind, partVals, vals, allocV, boxed, ldA, rdCells, oneB, aggD, aField, aFieldV, aExtract, eq_self, ne_eq, if_true, if_false, not_false_eq_true, Nat.reduceAdd, Nat.reduceSub, Nat.reduceMul, Nat.reduceLT, Nat.reduceEqDiff, Nat.reduceBEq, reduceIte, Int.reduceEq, Int.reduceLT, Int.reduceLE, reduceCtorEq, TY_EvC14, and_fold, or_fold, not_fold, k1, s1, h2a, c15s] at hz
    have hr : r1003 a b c w u = true := (if_neg h2).trans (rfl)
    exact fin hz (by rw [hr]) g1
end Great
end Go.Proofs
