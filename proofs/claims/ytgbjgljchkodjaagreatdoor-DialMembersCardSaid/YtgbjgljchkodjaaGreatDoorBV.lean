/-
  BV: EvT8, EvC8.
-/
import Derived.Test.YtgbjgljchkodjaaGreatDoorBI
import Derived.Test.YtgbjgljchkodjaaGreatDoorBJ
import Derived.Test.YtgbjgljchkodjaaGreatDoorEvQ13
import Derived.Test.YtgbjgljchkodjaaGreatDoorBE
section
/-
  The great seat of stage 1: Size, by the generator.
-/
set_option linter.unusedSimpArgs false
set_option linter.unusedVariables false
namespace Go.Proofs
namespace Great
open Go Go.RowKit Go.Aev
set_option maxRecDepth 100000
theorem wrapA_len (o : List Ar) : (wrapA o).length ≤ o.length := by
  unfold wrapA
  split
  · rw [List.length_drop, List.length_set]; omega
  · exact Nat.le_refl _
end Great
end Go.Proofs
end
section
/-
  The great seat of stage 1: Normal, Union, Meet and Minus of all lists that few admits, with their errors.
-/
set_option linter.unusedSimpArgs false
set_option linter.unusedVariables false
namespace Go.Proofs
namespace Great
open Go Go.RowKit Go.Aev
set_option maxRecDepth 100000

theorem r91_20 (l : List Ar) : r91 l = r20 l := by
  show (r132 l 200).1 = r20 l
  unfold r132 r20
  by_cases h : (200 : Int) < (l.length : Int)
  · rw [if_pos h, if_pos h]
  rw [if_neg h, if_neg h]
  have key : ∀ (k : List Ar) (j i : Nat), (onSum (R132_0 l 200 k j) (fun (r6, r7) => (r6, r7)) (fun _ => ((0 : Int), (-1 : Int)))).1 = onSum (R20_0 l k i) (fun (r2 : Int) => r2) (fun (_ : Unit) => 0) := by
    intro k
    induction k with
    | nil => intro j i; rfl
    | cons x k ih =>
      intro j i
      rw [R132_0, R20_0]
      by_cases hx : ArcOk x.f x.l
      · have e : r133 (j : Int) x.f x.l = 0 := if_pos hx
        rw [if_pos e, if_pos hx]; exact ih _ _
      · have e : r133 (j : Int) x.f x.l = 1 := if_neg hx
        rw [if_neg (by omega), if_neg hx, e]; rfl
  exact key l 0 0
theorem r20_ok {l : List Ar} (h : r20 l = 0) : (∀ x ∈ l, ArcOk x.f x.l) ∧ l.length ≤ 200 := by
  unfold r20 at h
  by_cases h1 : (200 : Int) < (l.length : Int)
  · rw [if_pos h1] at h; omega
  rw [if_neg h1] at h
  have key : ∀ (k : List Ar) (i : Nat), onSum (R20_0 l k i) (fun (r2 : Int) => r2) (fun (_ : Unit) => (0 : Int)) = 0 → ∀ x ∈ k, ArcOk x.f x.l := by
    intro k
    induction k with
    | nil => intro i _ x hx; simp at hx
    | cons x k ih =>
      intro i hk y hy
      rw [R20_0] at hk
      by_cases hx : ArcOk x.f x.l
      · rw [if_pos hx] at hk
        rcases List.mem_cons.1 hy with rfl | hy
        · exact hx
        · exact ih _ hk y hy
      · rw [if_neg hx] at hk
        have : (1 : Int) = 0 := hk
        omega
  exact ⟨key l 0 h, by omega⟩
theorem few_ok {l : List Ar} (h : r14 l = true) (h2 : r20 l = 0) : l.length ≤ 60 := by
  have h3 := (r20_ok h2).2
  unfold r14 at h
  by_cases h1 : (l.length : Int) ≤ 60
  · omega
  rw [if_neg h1, if_neg (by omega)] at h
  simp at h
theorem few_len {l : List Ar} (h : r14 l = true) : l.length ≤ 300 := by
  unfold r14 at h
  by_cases h1 : (l.length : Int) ≤ 60
  · omega
  rw [if_neg h1] at h
  by_cases h2 : (200 : Int) < (l.length : Int)
  · rw [if_pos h2] at h
    have := of_decide_eq_true h
    omega
  · rw [if_neg h2] at h; simp at h

theorem fre_nil (lo : Nat) (S : AS) : Fre lo S (.slice none 0 0) ([] : List Ar) := ⟨Lst.nil S, fun q hq => by simp [blkOf] at hq⟩
theorem fre_eq {lo : Nat} {S : AS} {v : Value} {l m : List Ar} (h : Fre lo S v l) (e : l = m) : Fre lo S v m := e ▸ h
set_option maxHeartbeats 8000000 in
theorem c82e (a b : List Ar) (hna : a.length ≤ 1000) (hnb : b.length ≤ 1000) (he : ¬ r21 a b = 0) (kf : FuncId) (S : AS) (ht : Tab S) (pa pb : Option Addr) (na ca nb cb : Nat) (hv_a : Lst S (.slice pa na ca) a) (hv_b : Lst S (.slice pb nb cb) b) :
    ∃ S', (evL Tryz.prog E0).call 51 #[.agg #[.slice pa na ca, .slice pb nb cb], .func (.func kf) #[] #[]] S = some (.tuple #[.slice none 0 0, .int .i64 (r21 a b)], S') ∧ Agree S S' := by
  generalize hz : (evL Tryz.prog E0).call 51 _ _ = z
  rw [L_call, evCall_said rfl Tryz.func51 rfl (by decide) Tryz.ntmps51 Tryz.results51] at hz
  obtain ⟨S1, e1, n1, b1, a1⟩ := push_open S (.cells [.slice pa na ca, .slice pb nb cb] 84 0 true true)
  have x0 : aIndexV Tryz.prog 84 (.agg #[.slice pa na ca, .slice pb nb cb]) (.int .i64 0) = some (.slice pa na ca) := by kernel_rfl
  have x1 : aIndexV Tryz.prog 84 (.agg #[.slice pa na ca, .slice pb nb cb]) (.int .i64 1) = some (.slice pb nb cb) := by kernel_rfl
  have w1 : IntKind.i64.wrap ((0 : Int) + 1) = 1 := by decide
  obtain ⟨S2, k2, a2⟩ := c91 a hna S1 _ (hv_a.agree a1) (ht.agree a1)
  rw [r91_20] at k2
  obtain ⟨S3, k3, a3⟩ := c91 b hnb S2 _ (hv_b.agree (a1.trans a2)) (ht.agree (a1.trans a2))
  rw [r91_20] at k3
  simp (disch := first | omega | assumption) only [E0_G, SY, setArgs, off, agreeKind, partVals, vals, allocV, boxed, ldA, rdCells, oneB, aggD, aField, aFieldV, aExtract, eq_self, ne_eq, if_true, if_false, not_false_eq_true, Nat.reduceAdd, Nat.reduceSub, Nat.reduceMul, Nat.reduceLT, Nat.reduceEqDiff, Nat.reduceBEq, reduceIte, Int.reduceEq, Int.reduceLT, Int.reduceLE, reduceCtorEq, TY_EvA13, TY_EvA14, and_fold, or_fold, not_fold, e1, b1, tz105, tt105, Tryz.underlying84] at hz
  rw [L_loop_step] at hz
  rcases dP (r20 a = 0) with ⟨h0a, h0⟩ | ⟨h0a, h0⟩
  · have e : r21 a b = r20 b := if_pos h0
    rw [e] at he ⊢
    rcases dP (r20 b = 0) with ⟨h5a, h5⟩ | ⟨h5a, h5⟩
    · exact absurd h5 he
    rw [h0] at k2
    simp (disch := first | omega | assumption) only [E0_G, SY, setArgs, off, agreeKind, partVals, vals, allocV, boxed, ldA, rdCells, oneB, aggD, aField, aFieldV, aExtract, eq_self, ne_eq, if_true, if_false, not_false_eq_true, Nat.reduceAdd, Nat.reduceSub, Nat.reduceMul, Nat.reduceLT, Nat.reduceEqDiff, Nat.reduceBEq, reduceIte, Int.reduceEq, Int.reduceLT, Int.reduceLE, reduceCtorEq, TY_EvA13, TY_EvA14, and_fold, or_fold, not_fold, x0, k2, w1] at hz
    rw [L_loop_step] at hz
    simp (disch := first | omega | assumption) only [E0_G, SY, setArgs, off, agreeKind, partVals, vals, allocV, boxed, ldA, rdCells, oneB, aggD, aField, aFieldV, aExtract, eq_self, ne_eq, if_true, if_false, not_false_eq_true, Nat.reduceAdd, Nat.reduceSub, Nat.reduceMul, Nat.reduceLT, Nat.reduceEqDiff, Nat.reduceBEq, reduceIte, Int.reduceEq, Int.reduceLT, Int.reduceLE, reduceCtorEq, TY_EvA13, TY_EvA14, and_fold, or_fold, not_fold, x1, k3, h5a] at hz
    exact ⟨S3, hz.symm, (a1.trans a2).trans a3⟩
  · have e : r21 a b = r20 a := if_neg h0
    rw [e]
    simp (disch := first | omega | assumption) only [E0_G, SY, setArgs, off, agreeKind, partVals, vals, allocV, boxed, ldA, rdCells, oneB, aggD, aField, aFieldV, aExtract, eq_self, ne_eq, if_true, if_false, not_false_eq_true, Nat.reduceAdd, Nat.reduceSub, Nat.reduceMul, Nat.reduceLT, Nat.reduceEqDiff, Nat.reduceBEq, reduceIte, Int.reduceEq, Int.reduceLT, Int.reduceLE, reduceCtorEq, TY_EvA13, TY_EvA14, and_fold, or_fold, not_fold, x0, k2, h0a] at hz
    exact ⟨S2, hz.symm, a1.trans a2⟩

/-- What is made of two lists, unless one of them is wrong. -/
def two (g : List Ar → List Ar → List Ar) (a b : List Ar) : List Ar := if r21 a b = 0 then g a b else []
theorem both_ok {a b : List Ar} (h : r21 a b = 0) : r20 a = 0 ∧ r20 b = 0 := by
  unfold r21 at h
  by_cases h1 : r20 a = 0
  · rw [if_pos h1] at h; exact ⟨h1, h⟩
  · rw [if_neg h1] at h; exact absurd h h1
section
variable (hs : SortOk 1000) (a b : List Ar) (ha : r14 a = true) (hb : r14 b = true)
    (S : AS) (v_a : Value) (hv_a : Lst S v_a a) (v_b : Value) (hv_b : Lst S v_b b) (ht : Tab S)
include hs ha hb hv_a hv_b ht
set_option maxHeartbeats 2000000 in
theorem c17f : ∃ v' S', (evL Tryz.prog E0).call 13 #[v_a, v_b] S = some (.tuple #[v', .int .i64 (r21 a b)], S') ∧ Agree S S' ∧ Fre S.next S' v' (two r24 a b) := by
  have la := few_len ha
  have lb := few_len hb
  by_cases he : r21 a b = 0
  · obtain ⟨h1, h2⟩ := both_ok he
    have f1 := few_ok ha h1
    have f2 := few_ok hb h2
    have p1 := r178_len a
    have p2 := r178_len b
    obtain ⟨v', S', k, ag, fr⟩ := c17 hs (Nat.le_refl _) a b (r20_ok h1).1 (r20_ok h2).1 (by omega) (by omega) (by omega) S v_a hv_a v_b hv_b ht
    rw [he]
    exact ⟨v', S', k, ag, fre_eq fr (if_pos he).symm⟩
  generalize hz : (evL Tryz.prog E0).call 13 _ _ = z
  rw [L_call, evCall_said rfl Tryz.func13 rfl (by decide) Tryz.ntmps13 Tryz.results13] at hz
  obtain ⟨pa, na, ca, rfl⟩ := lst_slice hv_a
  obtain ⟨pb, nb, cb, rfl⟩ := lst_slice hv_b
  obtain ⟨S', k, ag⟩ := c82e a b (by omega) (by omega) he 52 S ht pa pb na ca nb cb hv_a hv_b
  have y1 : aBuild Tryz.prog 84 [(0, .slice pa na ca), (1, .slice pb nb cb)] = some (.agg #[.slice pa na ca, .slice pb nb cb]) := by kernel_rfl
  simp (disch := first | omega | assumption) only [E0_G, SY, setArgs, off, agreeKind, partVals, vals, allocV, boxed, ldA, rdCells, oneB, aggD, aField, aFieldV, aExtract, eq_self, ne_eq, if_true, if_false, not_false_eq_true, Nat.reduceAdd, Nat.reduceSub, Nat.reduceMul, Nat.reduceLT, Nat.reduceEqDiff, Nat.reduceBEq, reduceIte, Int.reduceEq, Int.reduceLT, Int.reduceLE, reduceCtorEq, TY_EvA13, TY_EvA14, and_fold, or_fold, not_fold, y1, k] at hz
  exact ⟨_, S', hz.symm, ag, fre_eq (fre_nil _ _) (if_neg he).symm⟩
set_option maxHeartbeats 2000000 in
theorem c18f : ∃ v' S', (evL Tryz.prog E0).call 14 #[v_a, v_b] S = some (.tuple #[v', .int .i64 (r21 a b)], S') ∧ Agree S S' ∧ Fre S.next S' v' (two r25 a b) := by
  have la := few_len ha
  have lb := few_len hb
  by_cases he : r21 a b = 0
  · obtain ⟨h1, h2⟩ := both_ok he
    have f1 := few_ok ha h1
    have f2 := few_ok hb h2
    have p1 := r178_len a
    have p2 := r178_len b
    obtain ⟨v', S', k, ag, fr⟩ := c18 hs (Nat.le_refl _) a b (r20_ok h1).1 (r20_ok h2).1 (by omega) (by omega) (by omega) S v_a hv_a v_b hv_b ht
    rw [he]
    exact ⟨v', S', k, ag, fre_eq fr (if_pos he).symm⟩
  generalize hz : (evL Tryz.prog E0).call 14 _ _ = z
  rw [L_call, evCall_said rfl Tryz.func14 rfl (by decide) Tryz.ntmps14 Tryz.results14] at hz
  obtain ⟨pa, na, ca, rfl⟩ := lst_slice hv_a
  obtain ⟨pb, nb, cb, rfl⟩ := lst_slice hv_b
  obtain ⟨S', k, ag⟩ := c82e a b (by omega) (by omega) he 53 S ht pa pb na ca nb cb hv_a hv_b
  have y1 : aBuild Tryz.prog 84 [(0, .slice pa na ca), (1, .slice pb nb cb)] = some (.agg #[.slice pa na ca, .slice pb nb cb]) := by kernel_rfl
  simp (disch := first | omega | assumption) only [E0_G, SY, setArgs, off, agreeKind, partVals, vals, allocV, boxed, ldA, rdCells, oneB, aggD, aField, aFieldV, aExtract, eq_self, ne_eq, if_true, if_false, not_false_eq_true, Nat.reduceAdd, Nat.reduceSub, Nat.reduceMul, Nat.reduceLT, Nat.reduceEqDiff, Nat.reduceBEq, reduceIte, Int.reduceEq, Int.reduceLT, Int.reduceLE, reduceCtorEq, TY_EvA13, TY_EvA14, and_fold, or_fold, not_fold, y1, k] at hz
  exact ⟨_, S', hz.symm, ag, fre_eq (fre_nil _ _) (if_neg he).symm⟩
set_option maxHeartbeats 2000000 in
theorem c19f : ∃ v' S', (evL Tryz.prog E0).call 15 #[v_a, v_b] S = some (.tuple #[v', .int .i64 (r21 a b)], S') ∧ Agree S S' ∧ Fre S.next S' v' (two r26 a b) := by
  have la := few_len ha
  have lb := few_len hb
  by_cases he : r21 a b = 0
  · obtain ⟨h1, h2⟩ := both_ok he
    have f1 := few_ok ha h1
    have f2 := few_ok hb h2
    have p1 := r178_len a
    have p2 := r178_len b
    obtain ⟨v', S', k, ag, fr⟩ := c19 hs (Nat.le_refl _) a b (r20_ok h1).1 (r20_ok h2).1 (by omega) (by omega) (by omega) S v_a hv_a v_b hv_b ht
    rw [he]
    exact ⟨v', S', k, ag, fre_eq fr (if_pos he).symm⟩
  generalize hz : (evL Tryz.prog E0).call 15 _ _ = z
  rw [L_call, evCall_said rfl Tryz.func15 rfl (by decide) Tryz.ntmps15 Tryz.results15] at hz
  obtain ⟨pa, na, ca, rfl⟩ := lst_slice hv_a
  obtain ⟨pb, nb, cb, rfl⟩ := lst_slice hv_b
  obtain ⟨S', k, ag⟩ := c82e a b (by omega) (by omega) he 54 S ht pa pb na ca nb cb hv_a hv_b
  have y1 : aBuild Tryz.prog 84 [(0, .slice pa na ca), (1, .slice pb nb cb)] = some (.agg #[.slice pa na ca, .slice pb nb cb]) := by kernel_rfl
  simp (disch := first | omega | assumption) only [E0_G, SY, setArgs, off, agreeKind, partVals, vals, allocV, boxed, ldA, rdCells, oneB, aggD, aField, aFieldV, aExtract, eq_self, ne_eq, if_true, if_false, not_false_eq_true, Nat.reduceAdd, Nat.reduceSub, Nat.reduceMul, Nat.reduceLT, Nat.reduceEqDiff, Nat.reduceBEq, reduceIte, Int.reduceEq, Int.reduceLT, Int.reduceLE, reduceCtorEq, TY_EvA13, TY_EvA14, and_fold, or_fold, not_fold, y1, k] at hz
  exact ⟨_, S', hz.symm, ag, fre_eq (fre_nil _ _) (if_neg he).symm⟩
end
/-- The normal list, unless the list is wrong. -/
def nrm (a : List Ar) : List Ar := if r20 a = 0 then r23 a else []
theorem c16f (hs : SortOk 1000) (a : List Ar) (ha : r14 a = true) (S : AS) (v_a : Value) (hv_a : Lst S v_a a) (ht : Tab S) :
    ∃ v' S', (evL Tryz.prog E0).call 12 #[v_a] S = some (.tuple #[v', .int .i64 (r20 a)], S') ∧ Agree S S' ∧ Fre S.next S' v' (nrm a) := by
  generalize hz : (evL Tryz.prog E0).call 12 _ _ = z
  rw [L_call, evCall_said rfl Tryz.func12 rfl (by decide) Tryz.ntmps12 Tryz.results12] at hz
  obtain ⟨v', S', k, ag, fr⟩ := c17f hs a [] ha rfl S v_a hv_a (.slice none 0 0) (Lst.nil S) ht
  have e0 : r21 a [] = r20 a := by
    unfold r21
    split
    · next h => rw [h]; rfl
    · rfl
  have e : two r24 a [] = nrm a := by unfold two nrm r24 r23; rw [e0, List.append_nil, List.nil_append]
  rw [e] at fr
  rw [e0] at k
  simp (disch := first | omega | assumption) only [E0_G, SY, setArgs, off, agreeKind, partVals, vals, allocV, boxed, ldA, rdCells, oneB, aggD, aField, aFieldV, aExtract, eq_self, ne_eq, if_true, if_false, not_false_eq_true, Nat.reduceAdd, Nat.reduceSub, Nat.reduceMul, Nat.reduceLT, Nat.reduceEqDiff, Nat.reduceBEq, reduceIte, Int.reduceEq, Int.reduceLT, Int.reduceLE, reduceCtorEq, TY_EvA13, TY_EvA14, and_fold, or_fold, not_fold, k] at hz
  exact ⟨v', S', hz.symm, ag, fr⟩
theorem r87_le {l : List Sp} (h : SCan 0 l) (hu : Up l) : (r87 l).length ≤ l.length := by
  rw [r87_wrapA h hu]
  have := wrapA_len (l.map toAr)
  rw [List.length_map] at this
  exact this
theorem nrm_le (a : List Ar) : (nrm a).length ≤ 100000 := by
  unfold nrm
  split
  · next h =>
    obtain ⟨h1, h2⟩ := r20_ok h
    obtain ⟨c1, c2, _⟩ := r88_ok h1
    have := r87_le c1 c2
    have := r88_len a
    unfold r23; omega
  · simp
theorem two24_le (a b : List Ar) : (two r24 a b).length ≤ 100000 := by
  unfold two
  split
  · next h =>
    obtain ⟨h1, h2⟩ := r20_ok (both_ok h).1
    obtain ⟨h3, h4⟩ := r20_ok (both_ok h).2
    obtain ⟨c1, c2, _⟩ := r88_ok (l := [] ++ a ++ b) (by
      intro x hx
      simp only [List.nil_append, List.mem_append] at hx
      rcases hx with hx | hx
      · exact h1 x hx
      · exact h3 x hx)
    have := r87_le c1 c2
    have := r88_len ([] ++ a ++ b)
    simp only [List.nil_append, List.length_append] at *
    unfold r24; simp only [List.nil_append]; omega
  · simp
theorem two25_le {a b : List Ar} (hb : r14 b = true) : (two r25 a b).length ≤ 100000 := by
  unfold two
  split
  · next h =>
    have f2 := few_ok hb (both_ok h).2
    obtain ⟨h1, h2⟩ := r20_ok (both_ok h).1
    obtain ⟨h3, h4⟩ := r20_ok (both_ok h).2
    obtain ⟨c1, c2, _⟩ := r88_ok h1
    obtain ⟨d1, d2, _⟩ := r88_ok h3
    obtain ⟨m1, m2, _⟩ := r89_ok c1 c2 d1 d2
    have := r87_le m1 m2
    have := r88_len a
    have := r88_len b
    have := r89_len (r88 a) (r88 b) (by omega)
    unfold r25; omega
  · simp
theorem two26_le {a b : List Ar} (hb : r14 b = true) : (two r26 a b).length ≤ 100000 := by
  unfold two
  split
  · next h =>
    have f2 := few_ok hb (both_ok h).2
    obtain ⟨h1, h2⟩ := r20_ok (both_ok h).1
    obtain ⟨h3, h4⟩ := r20_ok (both_ok h).2
    obtain ⟨c1, c2, _⟩ := r88_ok h1
    obtain ⟨d1, d2, _⟩ := r88_ok h3
    obtain ⟨e1, e2, _⟩ := r90_ok d1 d2
    obtain ⟨m1, m2, _⟩ := r89_ok c1 c2 e1 e2
    have := r87_le m1 m2
    have := r88_len a
    have := r88_len b
    have := r90_len (r88 b)
    have := r89_len (r88 a) (r90 (r88 b)) (by omega)
    unfold r26; omega
  · simp
end Great
end Go.Proofs
end
