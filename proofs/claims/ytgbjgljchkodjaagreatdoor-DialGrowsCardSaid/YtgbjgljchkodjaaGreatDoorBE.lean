/-
  BE: EvA11, EvA12.
-/
import Derived.Test.YtgbjgljchkodjaaGreatDoorBC
section
/-
  The great seat of stage 1: rest and common, by the generator.
-/
set_option linter.unusedSimpArgs false
set_option linter.unusedVariables false
namespace Go.Proofs
namespace Great
open Go Go.RowKit Go.Aev
set_option maxRecDepth 100000
theorem tz90 : szOf Tryz.prog 82 = some 1 := by kernel_rfl
theorem tt90 : inTab Tryz.prog 82 = true := by kernel_rfl
theorem t0_90 : zeroOf Tryz.prog 82 = some (.slice none 0 0) := by kernel_rfl
theorem tz177 : szOf Tryz.prog 136 = some 2 := by kernel_rfl
theorem tt177 : inTab Tryz.prog 136 = true := by kernel_rfl
theorem t0_177 : zeroOf Tryz.prog 136 = some (.agg #[.int .i64 0, .int .i64 0]) := by kernel_rfl
theorem tz178 : szOf Tryz.prog 137 = some 2 := by kernel_rfl
theorem tt178 : inTab Tryz.prog 137 = true := by kernel_rfl
theorem t0_178 : zeroOf Tryz.prog 137 = some (.agg #[.int .i64 0, .int .i64 0]) := by kernel_rfl
/-- What is known of the types. -/
theorem TY_EvA11 : type_of% (And.intro (And.intro (And.intro (And.intro (And.intro (And.intro Tryz.underlying3 tz3) (And.intro tt3 (And.intro t0_3 Tryz.underlying22))) (And.intro (And.intro tz22 tt22) (And.intro t0_22 (And.intro Tryz.underlying56 tz43)))) (And.intro (And.intro (And.intro tt43 t0_43) (And.intro Tryz.underlying59 (And.intro tz44 tt44))) (And.intro (And.intro t0_44 Tryz.underlying60) (And.intro tz45 (And.intro tt45 t0_45))))) (And.intro (And.intro (And.intro (And.intro Tryz.underlying62 tz51) (And.intro tt51 (And.intro t0_51 Tryz.underlying63))) (And.intro (And.intro tz52 tt52) (And.intro t0_52 (And.intro Tryz.underlying43 tz55)))) (And.intro (And.intro (And.intro tt55 t0_55) (And.intro Tryz.underlying44 (And.intro tz56 tt56))) (And.intro (And.intro t0_56 Tryz.underlying45) (And.intro tz57 (And.intro tt57 t0_57)))))) (And.intro (And.intro (And.intro (And.intro (And.intro Tryz.underlying46 tz58) (And.intro tt58 (And.intro t0_58 Tryz.underlying66))) (And.intro (And.intro tz77 tt77) (And.intro t0_77 (And.intro Tryz.underlying73 tz80)))) (And.intro (And.intro (And.intro tt80 t0_80) (And.intro Tryz.underlying82 (And.intro tz90 tt90))) (And.intro (And.intro t0_90 Tryz.underlying89) (And.intro tz110 (And.intro tt110 t0_110))))) (And.intro (And.intro (And.intro (And.intro Tryz.underlying94 tz115) (And.intro tt115 (And.intro t0_115 Tryz.underlying95))) (And.intro (And.intro tz116 tt116) (And.intro t0_116 (And.intro Tryz.underlying76 tz123)))) (And.intro (And.intro (And.intro tt123 t0_123) (And.intro Tryz.underlying136 (And.intro tz177 tt177))) (And.intro (And.intro t0_177 Tryz.underlying137) (And.intro tz178 (And.intro tt178 t0_178))))))) := (And.intro (And.intro (And.intro (And.intro (And.intro (And.intro Tryz.underlying3 tz3) (And.intro tt3 (And.intro t0_3 Tryz.underlying22))) (And.intro (And.intro tz22 tt22) (And.intro t0_22 (And.intro Tryz.underlying56 tz43)))) (And.intro (And.intro (And.intro tt43 t0_43) (And.intro Tryz.underlying59 (And.intro tz44 tt44))) (And.intro (And.intro t0_44 Tryz.underlying60) (And.intro tz45 (And.intro tt45 t0_45))))) (And.intro (And.intro (And.intro (And.intro Tryz.underlying62 tz51) (And.intro tt51 (And.intro t0_51 Tryz.underlying63))) (And.intro (And.intro tz52 tt52) (And.intro t0_52 (And.intro Tryz.underlying43 tz55)))) (And.intro (And.intro (And.intro tt55 t0_55) (And.intro Tryz.underlying44 (And.intro tz56 tt56))) (And.intro (And.intro t0_56 Tryz.underlying45) (And.intro tz57 (And.intro tt57 t0_57)))))) (And.intro (And.intro (And.intro (And.intro (And.intro Tryz.underlying46 tz58) (And.intro tt58 (And.intro t0_58 Tryz.underlying66))) (And.intro (And.intro tz77 tt77) (And.intro t0_77 (And.intro Tryz.underlying73 tz80)))) (And.intro (And.intro (And.intro tt80 t0_80) (And.intro Tryz.underlying82 (And.intro tz90 tt90))) (And.intro (And.intro t0_90 Tryz.underlying89) (And.intro tz110 (And.intro tt110 t0_110))))) (And.intro (And.intro (And.intro (And.intro Tryz.underlying94 tz115) (And.intro tt115 (And.intro t0_115 Tryz.underlying95))) (And.intro (And.intro tz116 tt116) (And.intro t0_116 (And.intro Tryz.underlying76 tz123)))) (And.intro (And.intro (And.intro tt123 t0_123) (And.intro Tryz.underlying136 (And.intro tz177 tt177))) (And.intro (And.intro t0_177 Tryz.underlying137) (And.intro tz178 (And.intro tt178 t0_178)))))))
def R20_0 (l : List Ar)  : List Ar → Nat → Sum (Int) (Unit)
  | [], i => .inr ()
  | x3 :: l', i => (if ArcOk x3.f x3.l then R20_0 l l' (i + 1) else .inl 1)
def r20 (l : List Ar) : Int := (if 200 < (l.length : Int) then 2 else (onSum (R20_0 l l 0) (fun (r2 : Int) => r2) (fun (_ : Unit) => 0)))
set_option maxHeartbeats 2000000 in
theorem c20 (l : List Ar) (hn : l.length ≤ 400) (S : AS) (v_l : Value) (hv_l : Lst S v_l l) :
    ∃ S', (evL Tryz.prog E0).call 16 #[v_l] S = some (.int .i64 (r20 l), S') ∧ Agree S S' := by
  generalize hz : (evL Tryz.prog E0).call 16 _ _ = z
  rw [L_call, evCall_said rfl Tryz.func16 rfl (by decide) Tryz.ntmps16 Tryz.results16] at hz
  have w1 := (hv_l).len (P := Tryz.prog) (t := 22) Tryz.underlying22
  try simp (disch := first | omega | assumption) only [E0_G, SY, setArgs, off, agreeKind, Nat.reduceAdd, Nat.reduceSub, Nat.reduceLT, Nat.reduceBEq, w1] at hz
  rcases dP (200 < (l.length : Int)) with ⟨h2a, h2⟩ | ⟨h2a, h2⟩
  · skip
    try simp (disch := first | omega | assumption) only [E0_G, SY, off, agreeKind, Nat.reduceLT, Nat.reduceBEq, h2a] at hz
    have hr : r20 l = 2 := (if_pos h2).trans (rfl)
    exact fin hz (by rw [hr]) (Agree.refl S)
  · skip
    try simp (disch := first | omega | assumption) only [E0_G, SY, off, agreeKind, Nat.reduceLT, h2a] at hz
    generalize hL3 : Rec.loop _ _ _ _ = L3 at hz
    obtain ⟨x3, t3, S3e, rfl, hQ3⟩ := loop_met hL3 (fun m t S' => ∃ (i : Nat), m + i = l.length ∧ i ≤ l.length ∧ t.get 0 = some (v_l) ∧ t.get 3 = some (.int .i64 (i : Int)) ∧ Agree S S' ∧ S.next ≤ S'.next ∧ R20_0 l (l.drop i) i = R20_0 l l 0)
      (fun x t S' => (x = .exit 0 ∧ ∃ (i : Nat), Agree S S' ∧ S.next ≤ S'.next ∧ i ≤ l.length ∧ R20_0 l l 0 = .inr ()) ∨ (x = .ret ∧ ∃ (r2 : Int), t.get 2 = some (.int .i64 r2) ∧ Agree S S' ∧ R20_0 l l 0 = .inl (r2))) (l.length - 0) ⟨0, by first | rfl | omega | (simp; omega) | simp, by first | rfl | omega | (simp; omega) | simp, by simp only [SY, eq_self, Nat.reduceBEq] <;> rfl, by simp only [SY, Nat.reduceBEq] <;> rfl, (Agree.refl S), Nat.le_refl _, rfl⟩ (by
        rintro m t S3 ⟨i, hi3_0, hi3_1, g3_0, g3_3, ga3, gn3, hd3⟩
        refine .run fun z he => ?_
        have w4 := (hv_l.agree ga3).len (P := Tryz.prog) (t := 22) Tryz.underlying22
        try simp (disch := first | omega | assumption) only [E0_G, SY, off, agreeKind, Nat.reduceAdd, Nat.reduceLT, Nat.reduceBEq, g3_0, g3_3, w1] at he
        rcases dP ((i : Int) < (l.length : Int)) with ⟨h5a, h5⟩ | ⟨h5a, h5⟩
        · skip
          have hx3 : l[i]? = some (l[i]'(by first | omega | simp; omega)) := List.getElem?_eq_getElem _
          generalize l[i]'_ = x3 at hx3
          obtain ⟨id6, of6, cc6, ty6, wr6, ex6, i6, j6, l6, q6⟩ := (hv_l).at (P := Tryz.prog) (t := 22) Tryz.underlying22 tz56 hx3
          have jr6 := j6
          have j6 := (ga3.2 id6 l6).trans jr6
          have m6_0 : cc6[of6]? = some (.int .i64 x3.f) := q6 0 (show 0 < 2 by decide)
          have m6_1 : cc6[of6 + 1]? = some (.int .i64 x3.l) := q6 1 (show 1 < 2 by decide)
          obtain ⟨S7, k7, a7⟩ := c86 x3.f x3.l S3  
          have l7 := a7.1
          have s7 : E0.same S3 S7 = true := symEnv_same a7
          have v6_7 := (a7.2 id6 (by omega)).trans j6
          have g7 : Agree S S7 := ga3.trans a7
          try simp (disch := first | omega | assumption) only [E0_G, SY, off, agreeKind, vals, ldA, rdCells, aggD, Nat.reduceAdd, Nat.reduceLT, Nat.reduceBEq, TY_EvA11, g3_0, g3_3, h5a, i6, j6, m6_0, m6_1, k7] at he
          rcases dP (ArcOk x3.f x3.l) with ⟨h8a, h8⟩ | ⟨h8a, h8⟩
          · skip
            have w9 : IntKind.i64.wrap ((i : Int) + 1) = ((i + 1 : Nat) : Int) := by rw [IntWalk.i64_in] <;> omega
            try simp (disch := first | omega | assumption) only [E0_G, SY, off, agreeKind, Nat.reduceAdd, Nat.reduceLT, Nat.reduceBEq, g3_3, h8a, w9] at he
            rw [drop_cons' hx3] at hd3
            have hf := (show _ = (R20_0 l (l.drop (i + 1)) (i + 1) : Sum (Int) (Unit)) from (if_pos h8).trans (rfl)).symm.trans hd3
            exact .next he (m - 1) (by omega) ⟨(i + 1), by first | omega | (simp; omega) | simp, by first | omega | (simp; omega) | simp, (by simp only [SY, eq_self, Nat.reduceBEq, g3_0] <;> rfl), (by simp only [SY, eq_self, Nat.reduceBEq, g3_3] <;> rfl), g7, by omega, hf⟩
          · skip
            try simp (disch := first | omega | assumption) only [E0_G, SY, off, agreeKind, Nat.reduceLT, h8a] at he
            rw [drop_cons' hx3] at hd3
            have hf := (show _ = (.inl 1 : Sum (Int) (Unit)) from (if_neg h8).trans (rfl)).symm.trans hd3
            exact .ret he (.inr ⟨rfl, ⟨1, (by simp only [SY, eq_self, Nat.reduceBEq] <;> rfl), g7, hf.symm⟩⟩)
        · skip
          try simp (disch := first | omega | assumption) only [SY, h5a] at he
          rw [List.drop_eq_nil_of_le (show l.length ≤ i by omega)] at hd3
          have hf := (show _ = (.inr () : Sum (Int) (Unit)) from rfl).symm.trans hd3
          exact .exit he (.inl ⟨rfl, ⟨i, ga3, by omega, by first | omega | assumption | simp, hf.symm⟩⟩))
    rcases hQ3 with ⟨rfl, hQ3⟩ | ⟨rfl, hQ3⟩
    · skip
      obtain ⟨i, ge3, gm3, hj3_0, hR3⟩ := hQ3
      try simp (disch := first | omega | assumption) only [E0_G, SY, off, agreeKind, eq_self, if_true, Nat.reduceLT, Nat.reduceBEq] at hz
      have hr : r20 l = 0 := (if_neg h2).trans ((onSum_inr hR3).trans (rfl))
      exact fin hz (by rw [hr]) ge3
    · skip
      obtain ⟨r2, ge3_2, ge3, hR3⟩ := hQ3
      try simp (disch := first | omega | assumption) only [SY, ge3_2] at hz
      have hr : r20 l = r2 := (if_neg h2).trans ((onSum_inl hR3).trans (rfl))
      exact fin hz (by rw [hr]) ge3

def r21 (a : List Ar) (b : List Ar) : Int := (if (r20 (a : List Ar)) = 0 then (r20 (b : List Ar)) else (r20 (a : List Ar)))
set_option maxHeartbeats 2000000 in
theorem c21 (a : List Ar) (b : List Ar) (hna : a.length ≤ 400) (hnb : b.length ≤ 400) (S : AS) (v_a : Value) (hv_a : Lst S v_a a) (v_b : Value) (hv_b : Lst S v_b b) :
    ∃ S', (evL Tryz.prog E0).call 17 #[v_a, v_b] S = some (.int .i64 (r21 a b), S') ∧ Agree S S' := by
  generalize hz : (evL Tryz.prog E0).call 17 _ _ = z
  rw [L_call, evCall_said rfl Tryz.func17 rfl (by decide) Tryz.ntmps17 Tryz.results17] at hz
  obtain ⟨S1, k1, a1⟩ := c20 (a : List Ar) (by first | omega | (simp; omega) | (simp; done) | assumption) S (v_a) (hv_a) 
  have l1 := a1.1
  have s1 : E0.same S S1 = true := symEnv_same a1
  have g1 : Agree S S1 := a1
  try simp (disch := first | omega | assumption) only [E0_G, SY, setArgs, off, agreeKind, vals, Nat.reduceAdd, Nat.reduceSub, Nat.reduceLT, Nat.reduceBEq, k1] at hz
  rcases dP ((r20 (a : List Ar)) = 0) with ⟨h2a, h2⟩ | ⟨h2a, h2⟩
  · skip
    obtain ⟨S3, k3, a3⟩ := c20 (b : List Ar) (by first | omega | (simp; omega) | (simp; done) | assumption) S1 (v_b) (hv_b.agree g1) 
    have l3 := a3.1
    have s3 : E0.same S1 S3 = true := symEnv_same a3
    have g3 : Agree S S3 := g1.trans a3
    try simp (disch := first | omega | assumption) only [E0_G, SY, off, agreeKind, vals, Nat.reduceAdd, Nat.reduceLT, Nat.reduceBEq, h2a, k3] at hz
    have hr : r21 a b = (r20 (b : List Ar)) := (if_pos h2).trans (rfl)
    exact fin hz (by rw [hr]) g3
  · skip
    try simp (disch := first | omega | assumption) only [E0_G, SY, off, agreeKind, Nat.reduceAdd, Nat.reduceLT, Nat.reduceBEq, h2a] at hz
    have hr : r21 a b = (r20 (a : List Ar)) := (if_neg h2).trans (rfl)
    exact fin hz (by rw [hr]) g1

def R90_0 (l : List Sp)  : List Sp → Int → List Sp → Int × (List Sp)
  | [], p, o => (p, o)
  | x1 :: l', p, o => (if p < x1.lo then R90_0 l l' (IntKind.i64.wrap (x1.hi + 1)) (o ++ ([(⟨p, IntKind.i64.wrap (x1.lo - 1)⟩ : Sp)])) else R90_0 l l' (IntKind.i64.wrap (x1.hi + 1)) o)
def r90 (l : List Sp) : List Sp := (if ((R90_0 l l 0 ([])).1) < 43200 then ((R90_0 l l 0 ([])).2) ++ ([(⟨(R90_0 l l 0 ([])).1, 43199⟩ : Sp)]) else (R90_0 l l 0 ([])).2)
set_option maxHeartbeats 2000000 in
theorem c90 (l : List Sp) (hn : l.length ≤ 1000) (S : AS) (v_l : Value) (hv_l : Lst S v_l l) :
    ∃ v' S', (evL Tryz.prog E0).call 59 #[v_l] S = some (v', S') ∧ Agree S S' ∧ Own 95 S.next S' v' (r90 l) := by
  generalize hz : (evL Tryz.prog E0).call 59 _ _ = z
  rw [L_call, evCall_said rfl Tryz.func59 rfl (by decide) Tryz.ntmps59 Tryz.results59] at hz
  try simp (disch := first | omega | assumption) only [E0_G, SY, setArgs, off, agreeKind, Nat.reduceAdd, Nat.reduceSub, Nat.reduceLT] at hz
  generalize hL1 : Rec.loop _ _ _ _ = L1 at hz
  obtain ⟨x1, t1, S1e, rfl, hQ1⟩ := loop_met hL1 (fun m t S' => ∃ (p : Int) (i : Nat) (v_o : Value) (o : List Sp), m + i = l.length ∧ o.length ≤ i ∧ i ≤ l.length ∧ t.get 0 = some (v_l) ∧ t.get 3 = some (v_o) ∧ t.get 4 = some (.int .i64 p) ∧ t.get 5 = some (.int .i64 (i : Int)) ∧ Agree S S' ∧ S.next ≤ S'.next ∧ Own 95 S.next S' v_o o ∧ R90_0 l (l.drop i) p o = R90_0 l l 0 ([]))
    (fun x t S' => x = .exit 0 ∧ ∃ (p : Int) (i : Nat) (v_o : Value) (o : List Sp), t.get 3 = some (v_o) ∧ t.get 4 = some (.int .i64 p) ∧ Agree S S' ∧ S.next ≤ S'.next ∧ Own 95 S.next S' v_o o ∧ o.length ≤ i ∧ i ≤ l.length ∧ R90_0 l l 0 ([]) = (p, o)) (l.length - 0) ⟨0, 0, .slice none 0 0, [], by first | rfl | omega | (simp; omega) | simp, by first | rfl | omega | (simp; omega) | simp, by first | rfl | omega | (simp; omega) | simp, by simp only [SY, eq_self, Nat.reduceBEq] <;> rfl, by simp only [SY, eq_self, Nat.reduceBEq] <;> rfl, by simp only [SY, eq_self, Nat.reduceBEq] <;> rfl, by simp only [SY, Nat.reduceBEq] <;> rfl, (Agree.refl S), Nat.le_refl _, Own.nil _ _ _, rfl⟩ (by
      rintro m t S1 ⟨p, i, v_o, o, hi1_0, hi1_1, hi1_2, g1_0, g1_3, g1_4, g1_5, ga1, gn1, ow_o, hd1⟩
      refine .run fun z he => ?_
      have w2 := (hv_l.agree ga1).len (P := Tryz.prog) (t := 89) Tryz.underlying89
      try simp (disch := first | omega | assumption) only [E0_G, SY, off, agreeKind, Nat.reduceAdd, Nat.reduceLT, Nat.reduceBEq, g1_0, g1_5, w2] at he
      rcases dP ((i : Int) < (l.length : Int)) with ⟨h3a, h3⟩ | ⟨h3a, h3⟩
      · skip
        have hx1 : l[i]? = some (l[i]'(by first | omega | simp; omega)) := List.getElem?_eq_getElem _
        generalize l[i]'_ = x1 at hx1
        obtain ⟨id4, of4, cc4, ty4, wr4, ex4, i4, j4, l4, q4⟩ := (hv_l).at (P := Tryz.prog) (t := 89) Tryz.underlying89 tz116 hx1
        have jr4 := j4
        have j4 := (ga1.2 id4 l4).trans jr4
        have m4_0 : cc4[of4]? = some (.int .i64 x1.lo) := q4 0 (show 0 < 2 by decide)
        have m4_1 : cc4[of4 + 1]? = some (.int .i64 x1.hi) := q4 1 (show 1 < 2 by decide)
        try simp (disch := first | omega | assumption) only [E0_G, SY, off, agreeKind, ldA, aggD, aField, Nat.reduceAdd, Nat.reduceLT, Nat.reduceBEq, TY_EvA11, g1_0, g1_4, g1_5, h3a, i4, j4, m4_0] at he
        rcases dP (p < x1.lo) with ⟨h5a, h5⟩ | ⟨h5a, h5⟩
        · skip
          obtain ⟨id6, of6, cc6, ty6, wr6, ex6, i6, j6, l6, q6⟩ := (hv_l).at (P := Tryz.prog) (t := 89) Tryz.underlying89 tz116 hx1
          have jr6 := j6
          have j6 := (ga1.2 id6 l6).trans jr6
          have j6_4 := (ga1.2 id4 l4).trans jr4
          have m6_0 : cc6[of6]? = some (.int .i64 x1.lo) := q6 0 (show 0 < 2 by decide)
          have m6_1 : cc6[of6 + 1]? = some (.int .i64 x1.hi) := q6 1 (show 1 < 2 by decide)
          have y7 : aBuild Tryz.prog 95 [(0, .int .i64 p), (1, .int .i64 (IntKind.i64.wrap (x1.lo - 1)))] = some (.agg #[.int .i64 p, .int .i64 (IntKind.i64.wrap (x1.lo - 1))]) := by kernel_rfl
          have y8 : aBuildSlice Tryz.prog 89 1 [(0, .agg #[.int .i64 p, .int .i64 (IntKind.i64.wrap (x1.lo - 1))])] S1 = some (.slice (some ⟨S1.next, 0, none⟩) 1 1, S1.push (.cells [.int .i64 p, .int .i64 (IntKind.i64.wrap (x1.lo - 1))] 95 2 true true)) := by kernel_rfl
          obtain ⟨S9, e9, n9, b9, a9⟩ := push_open S1 (.cells [.int .i64 p, .int .i64 (IntKind.i64.wrap (x1.lo - 1))] 95 2 true true)
          have v4_9 := (a9.2 id4 (by omega)).trans j4
          have v6_9 := (a9.2 id6 (by omega)).trans j6
          have ow_10 := ow_o.agree a9
          have g9 : Agree S S9 := ga1.trans a9
          have s9 : E0.same S1 S9 = true := symEnv_same a9
          have ne11 : blkOf (v_o) ≠ some S1.next := ow_o.new (Nat.le_refl _)
          have o12 : Own 95 S1.next S9 (.slice (some ⟨S1.next, 0, none⟩) 1 1) ([(⟨p, IntKind.i64.wrap (x1.lo - 1)⟩ : Sp)] : List Sp) := .inr ⟨_, true, rfl, Nat.le_refl _, by omega, b9⟩
          obtain ⟨u13, S13, k13, o13, n13, f13, d13⟩ := own_append (P := Tryz.prog) (t := 89) (tx := 89) (n := 1) (v := v_o) ow_10 (o12.rows) (by omega) (by first | omega | (simp; omega) | simp) (by first | omega | (simp; omega) | simp) Tryz.underlying89 Tryz.underlying89 ti116 tv116 rfl tz116
          have g13 : Agree S S13 := ⟨Nat.le_trans (g9).1 n13, fun id hid => (f13 id (by have := (g9).1; omega) (by first | (simp [blkOf]; done) | exact ow_10.ne (by omega) | assumption)).trans ((g9).2 id hid)⟩
          obtain ⟨id14, of14, cc14, ty14, wr14, ex14, i14, j14, l14, q14⟩ := (hv_l).at (P := Tryz.prog) (t := 89) Tryz.underlying89 tz116 hx1
          have jr14 := j14
          have j14 := (g13.2 id14 l14).trans jr14
          have j14_4 := (g13.2 id4 l4).trans jr4
          have j14_6 := (g13.2 id6 l6).trans jr6
          have m14_0 : cc14[of14]? = some (.int .i64 x1.lo) := q14 0 (show 0 < 2 by decide)
          have m14_1 : cc14[of14 + 1]? = some (.int .i64 x1.hi) := q14 1 (show 1 < 2 by decide)
          have w15 : IntKind.i64.wrap ((i : Int) + 1) = ((i + 1 : Nat) : Int) := by rw [IntWalk.i64_in] <;> omega
          try simp (disch := first | omega | assumption) only [E0_G, SY, off, agreeKind, partVals, ldA, aggD, aField, Nat.reduceAdd, Nat.reduceLT, Nat.reduceBEq, TY_EvA11, g1_0, g1_3, g1_4, g1_5, i4, j4, m4_0, m4_1, h5a, y7, y8, e9, k13, j14_4, w15] at he
          rw [drop_cons' hx1] at hd1
          have hf := (show _ = (R90_0 l (l.drop (i + 1)) (IntKind.i64.wrap (x1.hi + 1)) (o ++ ([(⟨p, IntKind.i64.wrap (x1.lo - 1)⟩ : Sp)])) : Int × (List Sp)) from (if_pos h5).trans (rfl)).symm.trans hd1
          exact .next he (m - 1) (by omega) ⟨IntKind.i64.wrap (x1.hi + 1), (i + 1), u13, o ++ ([(⟨p, IntKind.i64.wrap (x1.lo - 1)⟩ : Sp)]), by first | omega | (simp; omega) | simp, by first | omega | (simp; omega) | simp, by first | omega | (simp; omega) | simp, (by simp only [SY, eq_self, Nat.reduceBEq, g1_0] <;> rfl), (by simp only [SY, eq_self, Nat.reduceBEq, g1_3] <;> rfl), (by simp only [SY, eq_self, Nat.reduceBEq, g1_4] <;> rfl), (by simp only [SY, eq_self, Nat.reduceBEq, g1_5] <;> rfl), g13, by omega, (o13.low (by omega)), hf⟩
        · skip
          obtain ⟨id16, of16, cc16, ty16, wr16, ex16, i16, j16, l16, q16⟩ := (hv_l).at (P := Tryz.prog) (t := 89) Tryz.underlying89 tz116 hx1
          have jr16 := j16
          have j16 := (ga1.2 id16 l16).trans jr16
          have j16_4 := (ga1.2 id4 l4).trans jr4
          have m16_0 : cc16[of16]? = some (.int .i64 x1.lo) := q16 0 (show 0 < 2 by decide)
          have m16_1 : cc16[of16 + 1]? = some (.int .i64 x1.hi) := q16 1 (show 1 < 2 by decide)
          have w17 : IntKind.i64.wrap ((i : Int) + 1) = ((i + 1 : Nat) : Int) := by rw [IntWalk.i64_in] <;> omega
          try simp (disch := first | omega | assumption) only [E0_G, SY, off, agreeKind, ldA, aggD, aField, Nat.reduceAdd, Nat.reduceLT, Nat.reduceBEq, TY_EvA11, g1_0, g1_5, i4, j4, m4_1, h5a, w17] at he
          rw [drop_cons' hx1] at hd1
          have hf := (show _ = (R90_0 l (l.drop (i + 1)) (IntKind.i64.wrap (x1.hi + 1)) o : Int × (List Sp)) from (if_neg h5).trans (rfl)).symm.trans hd1
          exact .next he (m - 1) (by omega) ⟨IntKind.i64.wrap (x1.hi + 1), (i + 1), v_o, o, by first | omega | (simp; omega) | simp, by first | omega | (simp; omega) | simp, by first | omega | (simp; omega) | simp, (by simp only [SY, eq_self, Nat.reduceBEq, g1_0] <;> rfl), (by simp only [SY, eq_self, Nat.reduceBEq, g1_3] <;> rfl), (by simp only [SY, eq_self, Nat.reduceBEq, g1_4] <;> rfl), (by simp only [SY, eq_self, Nat.reduceBEq, g1_5] <;> rfl), ga1, by omega, (ow_o.low (by omega)), hf⟩
      · skip
        try simp (disch := first | omega | assumption) only [SY, h3a] at he
        rw [List.drop_eq_nil_of_le (show l.length ≤ i by omega)] at hd1
        have hf := (show _ = ((p, o) : Int × (List Sp)) from rfl).symm.trans hd1
        exact .exit he ⟨rfl, ⟨p, i, v_o, o, (by simp only [SY, eq_self, Nat.reduceBEq, g1_3] <;> rfl), (by simp only [SY, eq_self, Nat.reduceBEq, g1_4] <;> rfl), ga1, by omega, (ow_o.low (by omega)), by first | omega | assumption | simp, by first | omega | assumption | simp, hf.symm⟩⟩)
  obtain ⟨rfl, p, i, v_o, o, ge1_3, ge1_4, ge1, gm1, oe_o1, hj1_0, hj1_1, hR1⟩ := hQ1
  obtain rfl : p = (R90_0 l l 0 ([])).1 := by rw [hR1]
  obtain rfl : o = (R90_0 l l 0 ([])).2 := by rw [hR1]
  try simp (disch := first | omega | assumption) only [E0_G, SY, off, agreeKind, eq_self, if_true, Nat.reduceAdd, Nat.reduceLT, Nat.reduceBEq, ge1_4] at hz
  rcases dP (((R90_0 l l 0 ([])).1) < 43200) with ⟨h19a, h19⟩ | ⟨h19a, h19⟩
  · skip
    have y20 : aBuild Tryz.prog 95 [(0, .int .i64 ((R90_0 l l 0 ([])).1)), (1, .int .i64 43199)] = some (.agg #[.int .i64 ((R90_0 l l 0 ([])).1), .int .i64 43199]) := by kernel_rfl
    have y21 : aBuildSlice Tryz.prog 89 1 [(0, .agg #[.int .i64 ((R90_0 l l 0 ([])).1), .int .i64 43199])] S1e = some (.slice (some ⟨S1e.next, 0, none⟩) 1 1, S1e.push (.cells [.int .i64 ((R90_0 l l 0 ([])).1), .int .i64 43199] 95 2 true true)) := by kernel_rfl
    obtain ⟨S22, e22, n22, b22, a22⟩ := push_open S1e (.cells [.int .i64 ((R90_0 l l 0 ([])).1), .int .i64 43199] 95 2 true true)
    have oe_23 := oe_o1.agree a22
    have g22 : Agree S S22 := ge1.trans a22
    have s22 : E0.same S1e S22 = true := symEnv_same a22
    have ne24 : blkOf (v_o) ≠ some S1e.next := oe_o1.new (Nat.le_refl _)
    have o25 : Own 95 S1e.next S22 (.slice (some ⟨S1e.next, 0, none⟩) 1 1) ([(⟨(R90_0 l l 0 ([])).1, 43199⟩ : Sp)] : List Sp) := .inr ⟨_, true, rfl, Nat.le_refl _, by omega, b22⟩
    obtain ⟨u26, S26, k26, o26, n26, f26, d26⟩ := own_append (P := Tryz.prog) (t := 89) (tx := 89) (n := 1) (v := v_o) oe_23 (o25.rows) (by omega) (by first | omega | (simp; omega) | simp) (by first | omega | (simp; omega) | simp) Tryz.underlying89 Tryz.underlying89 ti116 tv116 rfl tz116
    have g26 : Agree S S26 := ⟨Nat.le_trans (g22).1 n26, fun id hid => (f26 id (by have := (g22).1; omega) (by first | (simp [blkOf]; done) | exact oe_23.ne (by omega) | assumption)).trans ((g22).2 id hid)⟩
    try simp (disch := first | omega | assumption) only [E0_G, SY, off, agreeKind, partVals, Nat.reduceAdd, Nat.reduceLT, Nat.reduceBEq, ge1_3, ge1_4, h19a, y20, y21, e22, k26] at hz
    have hr : r90 l = ((R90_0 l l 0 ([])).2) ++ ([(⟨(R90_0 l l 0 ([])).1, 43199⟩ : Sp)]) := (if_pos h19).trans (rfl)
    exact ⟨u26, S26, by first | (rw [hr]; exact hz.symm) | exact hz.symm, g26, by rw [hr]; exact o26.low (by omega)⟩
  · skip
    try simp (disch := first | omega | assumption) only [E0_G, SY, off, agreeKind, Nat.reduceAdd, Nat.reduceLT, Nat.reduceBEq, ge1_3, h19a] at hz
    have hr : r90 l = (R90_0 l l 0 ([])).2 := (if_neg h19).trans (rfl)
    exact ⟨v_o, S1e, by first | (rw [hr]; exact hz.symm) | exact hz.symm, ge1, by rw [hr]; exact oe_o1.low (by omega)⟩

def R89_1 (a : List Sp) (b : List Sp) (i : Nat) (o : List Sp) : List Sp → List Sp → (List Sp)
  | [], p => p
  | x4 :: l', p => (if (max ((lget a i).lo) x4.lo) ≤ (min ((lget a i).hi) x4.hi) then R89_1 a b i o l' (r131 (p : List Sp) (max ((lget a i).lo) x4.lo) (min ((lget a i).hi) x4.hi)) else R89_1 a b i o l' p)
def R89_0 (a : List Sp) (b : List Sp)  : List Sp → Nat → List Sp → (List Sp)
  | [], i, o => o
  | _x :: l', i, o => R89_0 a b l' (i + 1) (R89_1 a b i o b o)
def r89 (a : List Sp) (b : List Sp) : List Sp := R89_0 a b a 0 ([])
set_option maxHeartbeats 2000000 in
theorem c89 (a : List Sp) (b : List Sp) (hna : a.length ≤ 130) (hnb : b.length ≤ 130) (S : AS) (v_a : Value) (hv_a : Lst S v_a a) (v_b : Value) (hv_b : Lst S v_b b) :
    ∃ v' S', (evL Tryz.prog E0).call 58 #[v_a, v_b] S = some (v', S') ∧ Agree S S' ∧ Own 95 S.next S' v' (r89 a b) := by
  generalize hz : (evL Tryz.prog E0).call 58 _ _ = z
  rw [L_call, evCall_said rfl Tryz.func58 rfl (by decide) Tryz.ntmps58 Tryz.results58] at hz
  try simp (disch := first | omega | assumption) only [E0_G, SY, setArgs, off, agreeKind, Nat.reduceAdd, Nat.reduceSub, Nat.reduceLT] at hz
  generalize hL1 : Rec.loop _ _ _ _ = L1 at hz
  obtain ⟨x1, t1, S1e, rfl, hQ1⟩ := loop_met hL1 (fun m t S' => ∃ (i : Nat) (v_o : Value) (o : List Sp), m + i = a.length ∧ o.length ≤ i * 130 ∧ i ≤ a.length ∧ t.get 0 = some (v_a) ∧ t.get 1 = some (v_b) ∧ t.get 5 = some (v_o) ∧ t.get 6 = some (.int .i64 (i : Int)) ∧ Agree S S' ∧ S.next ≤ S'.next ∧ Own 95 S.next S' v_o o ∧ R89_0 a b (a.drop i) i o = R89_0 a b a 0 ([]))
    (fun x t S' => x = .exit 0 ∧ ∃ (i : Nat) (v_o : Value) (o : List Sp), t.get 5 = some (v_o) ∧ Agree S S' ∧ S.next ≤ S'.next ∧ Own 95 S.next S' v_o o ∧ o.length ≤ i * 130 ∧ i ≤ a.length ∧ R89_0 a b a 0 ([]) = o) (a.length - 0) ⟨0, .slice none 0 0, [], by first | rfl | omega | (simp; omega) | simp, by first | rfl | omega | (simp; omega) | simp, by first | rfl | omega | (simp; omega) | simp, by simp only [SY, eq_self, Nat.reduceBEq] <;> rfl, by simp only [SY, eq_self, Nat.reduceBEq] <;> rfl, by simp only [SY, eq_self, Nat.reduceBEq] <;> rfl, by simp only [SY, Nat.reduceBEq] <;> rfl, (Agree.refl S), Nat.le_refl _, Own.nil _ _ _, rfl⟩ (by
      rintro m t S1 ⟨i, v_o, o, hi1_0, hi1_1, hi1_2, g1_0, g1_1, g1_5, g1_6, ga1, gn1, ow_o, hd1⟩
      refine .run fun z he => ?_
      have w2 := (hv_a.agree ga1).len (P := Tryz.prog) (t := 89) Tryz.underlying89
      try simp (disch := first | omega | assumption) only [E0_G, SY, off, agreeKind, Nat.reduceAdd, Nat.reduceLT, Nat.reduceBEq, g1_0, g1_6, w2] at he
      rcases dP ((i : Int) < (a.length : Int)) with ⟨h3a, h3⟩ | ⟨h3a, h3⟩
      · skip
        try simp (disch := first | omega | assumption) only [E0_G, SY, off, agreeKind, Nat.reduceLT, h3a] at he
        generalize hL4 : Rec.loop _ _ _ _ = L4 at he
        obtain ⟨x4, t4, S4e, rfl, hQ4⟩ := loop_met hL4 (fun m t S' => ∃ (k : Nat) (v_p : Value) (p : List Sp), m + k = b.length ∧ p.length ≤ i * 130 + k ∧ k ≤ b.length ∧ t.get 0 = some (v_a) ∧ t.get 1 = some (v_b) ∧ t.get 5 = some (v_p) ∧ t.get 6 = some (.int .i64 (i : Int)) ∧ t.get 7 = some (.int .i64 (k : Int)) ∧ Agree S S' ∧ S1.next ≤ S'.next ∧ Own 95 S.next S' v_p p ∧ R89_1 a b i o (b.drop k) p = R89_1 a b i o b o)
          (fun x t S' => x = .exit 2 ∧ ∃ (k : Nat) (v_p : Value) (p : List Sp), t.get 0 = some (v_a) ∧ t.get 1 = some (v_b) ∧ t.get 5 = some (v_p) ∧ t.get 6 = some (.int .i64 (i : Int)) ∧ Agree S S' ∧ S1.next ≤ S'.next ∧ Own 95 S.next S' v_p p ∧ p.length ≤ i * 130 + k ∧ k ≤ b.length ∧ R89_1 a b i o b o = p) (b.length - 0) ⟨0, v_o, o, by first | rfl | omega | (simp; omega) | simp, by first | rfl | omega | (simp; omega) | simp, by first | rfl | omega | (simp; omega) | simp, by simp only [SY, eq_self, Nat.reduceBEq, g1_0] <;> rfl, by simp only [SY, eq_self, Nat.reduceBEq, g1_1] <;> rfl, by simp only [SY, eq_self, Nat.reduceBEq, g1_5] <;> rfl, by simp only [SY, eq_self, Nat.reduceBEq, g1_6] <;> rfl, by simp only [SY, Nat.reduceBEq] <;> rfl, ga1, Nat.le_refl _, ow_o, rfl⟩ (by
            rintro m t S4 ⟨k, v_p, p, hi4_0, hi4_1, hi4_2, g4_0, g4_1, g4_5, g4_6, g4_7, ga4, gn4, ow_p, hd4⟩
            refine .run fun z he => ?_
            have w5 := (hv_b.agree ga4).len (P := Tryz.prog) (t := 89) Tryz.underlying89
            try simp (disch := first | omega | assumption) only [E0_G, SY, off, agreeKind, Nat.reduceAdd, Nat.reduceLT, Nat.reduceBEq, g4_1, g4_7, w5] at he
            rcases dP ((k : Int) < (b.length : Int)) with ⟨h6a, h6⟩ | ⟨h6a, h6⟩
            · skip
              try simp (disch := first | omega | assumption) only [SY, h6a] at he
              rw [code_draws _ _ _ (by kernel_rfl)] at he
              generalize hnd7 : needy _ = nd7 at he
              have nn7_24 : nd7 24 = false := by rw [← hnd7]; kernel_rfl
              have hx8 : a[i]? = some (lget a i) := lget_some (by first | omega | simp; omega)
              obtain ⟨id8, of8, cc8, ty8, wr8, ex8, i8, j8, l8, q8⟩ := (hv_a).at (P := Tryz.prog) (t := 89) Tryz.underlying89 tz116 hx8
              have jr8 := j8
              have j8 := (ga4.2 id8 l8).trans jr8
              have m8_0 : cc8[of8]? = some (.int .i64 ((lget a i).lo)) := q8 0 (show 0 < 2 by decide)
              have m8_1 : cc8[of8 + 1]? = some (.int .i64 ((lget a i).hi)) := q8 1 (show 1 < 2 by decide)
              have hx4 : b[k]? = some (b[k]'(by first | omega | simp; omega)) := List.getElem?_eq_getElem _
              generalize b[k]'_ = x4 at hx4
              obtain ⟨id9, of9, cc9, ty9, wr9, ex9, i9, j9, l9, q9⟩ := (hv_b).at (P := Tryz.prog) (t := 89) Tryz.underlying89 tz116 hx4
              have jr9 := j9
              have j9 := (ga4.2 id9 l9).trans jr9
              have m9_0 : cc9[of9]? = some (.int .i64 x4.lo) := q9 0 (show 0 < 2 by decide)
              have m9_1 : cc9[of9 + 1]? = some (.int .i64 x4.hi) := q9 1 (show 1 < 2 by decide)
              obtain ⟨id10, of10, cc10, ty10, wr10, ex10, i10, j10, l10, q10⟩ := (hv_a).at (P := Tryz.prog) (t := 89) Tryz.underlying89 tz116 hx8
              have jr10 := j10
              have j10 := (ga4.2 id10 l10).trans jr10
              have j10_8 := (ga4.2 id8 l8).trans jr8
              have m10_0 : cc10[of10]? = some (.int .i64 ((lget a i).lo)) := q10 0 (show 0 < 2 by decide)
              have m10_1 : cc10[of10 + 1]? = some (.int .i64 ((lget a i).hi)) := q10 1 (show 1 < 2 by decide)
              obtain ⟨id11, of11, cc11, ty11, wr11, ex11, i11, j11, l11, q11⟩ := (hv_b).at (P := Tryz.prog) (t := 89) Tryz.underlying89 tz116 hx4
              have jr11 := j11
              have j11 := (ga4.2 id11 l11).trans jr11
              have j11_9 := (ga4.2 id9 l9).trans jr9
              have m11_0 : cc11[of11]? = some (.int .i64 x4.lo) := q11 0 (show 0 < 2 by decide)
              have m11_1 : cc11[of11 + 1]? = some (.int .i64 x4.hi) := q11 1 (show 1 < 2 by decide)
              have y12 : aBuild Tryz.prog 95 [(0, .int .i64 (max ((lget a i).lo) x4.lo)), (1, .int .i64 (min ((lget a i).hi) x4.hi))] = some (.agg #[.int .i64 (max ((lget a i).lo) x4.lo), .int .i64 (min ((lget a i).hi) x4.hi)]) := by kernel_rfl
              obtain ⟨S13, e13, n13, b13, a13⟩ := push_open S4 (.cells [.int .i64 0, .int .i64 0] 95 0 true true)
              have v8_13 := (a13.2 id8 (by omega)).trans j8
              have v9_13 := (a13.2 id9 (by omega)).trans j9
              have v10_13 := (a13.2 id10 (by omega)).trans j10
              have v11_13 := (a13.2 id11 (by omega)).trans j11
              have ow_14 := ow_p.agree a13
              have g13 : Agree S S13 := ga4.trans a13
              have s13 : E0.same S4 S13 = true := symEnv_same a13
              have ne15 : blkOf (v_p) ≠ some S4.next := ow_p.new (Nat.le_refl _)
              obtain ⟨S16, k16, n16, b16, q16⟩ := st_at (o := 0) (c' := [.int .i64 (max ((lget a i).lo) x4.lo), .int .i64 (min ((lget a i).hi) x4.hi)]) (v := .agg #[.int .i64 (max ((lget a i).lo) x4.lo), .int .i64 (min ((lget a i).hi) x4.hi)]) tz116 b13 rfl rfl (show 0 + 2 ≤ 2 by decide) rfl
              have v8_16 := (q16 id8 (by omega)).trans v8_13
              have v9_16 := (q16 id9 (by omega)).trans v9_13
              have v10_16 := (q16 id10 (by omega)).trans v10_13
              have v11_16 := (q16 id11 (by omega)).trans v11_13
              have ow_17 := ow_14.frame (by omega) (fun id hid hb => q16 id (fun e => (show blkOf (v_p) ≠ some S4.next from by first | exact ow_14.ne (by omega) | exact ow_14.new (by omega) | assumption) (e ▸ hb)))
              have g16 : Agree S S16 := ⟨by have := (g13).1; omega, fun id hid => (q16 id (by have := (g13).1; omega)).trans ((g13).2 id hid)⟩
              try simp (disch := first | omega | assumption) only [E0_G, SY, off, agreeKind, partVals, allocV, ldA, aggD, aField, Nat.reduceAdd, Nat.reduceLT, Nat.reduceBEq, TY_EvA11, g4_0, g4_1, g4_6, g4_7, nn7_24, store_agree, store_refl E0_same, i8, j8, m8_0, m8_1, i9, j9, m9_0, m9_1, y12, e13, k16, b16] at he
              rcases dP ((max ((lget a i).lo) x4.lo) ≤ (min ((lget a i).hi) x4.hi)) with ⟨h18a, h18⟩ | ⟨h18a, h18⟩
              · skip
                obtain ⟨u19, S19, k19, a19, oo19⟩ := c131 (p : List Sp) (max ((lget a i).lo) x4.lo) (min ((lget a i).hi) x4.hi) (by first | omega | (simp; omega) | (simp; done) | assumption) S16 (v_p) (ow_17.rows) 
                have l19 := a19.1
                have s19 : E0.same S16 S19 = true := symEnv_same a19
                have v8_19 := (a19.2 id8 (by omega)).trans v8_16
                have v9_19 := (a19.2 id9 (by omega)).trans v9_16
                have v10_19 := (a19.2 id10 (by omega)).trans v10_16
                have v11_19 := (a19.2 id11 (by omega)).trans v11_16
                have v13_19 := (a19.2 S4.next (by omega)).trans b16
                have ow_20 := ow_17.agree a19
                have g19 : Agree S S19 := g16.trans a19
                have p19 := r131_len (p : List Sp) (max ((lget a i).lo) x4.lo) (min ((lget a i).hi) x4.hi)
                have w21 : IntKind.i64.wrap ((k : Int) + 1) = ((k + 1 : Nat) : Int) := by rw [IntWalk.i64_in] <;> omega
                try simp (disch := first | omega | assumption) only [E0_G, SY, off, agreeKind, vals, ldA, rdCells, aggD, Nat.reduceAdd, Nat.reduceLT, Nat.reduceBEq, TY_EvA11, g4_5, g4_7, store_agree, store_refl E0_same, b16, h18a, k19, w21] at he
                rw [drop_cons' hx4] at hd4
                have hf := (show _ = (R89_1 a b i o (b.drop (k + 1)) (r131 (p : List Sp) (max ((lget a i).lo) x4.lo) (min ((lget a i).hi) x4.hi)) : (List Sp)) from (if_pos h18).trans (rfl)).symm.trans hd4
                exact .next he (m - 1) (by omega) ⟨(k + 1), u19, (r131 (p : List Sp) (max ((lget a i).lo) x4.lo) (min ((lget a i).hi) x4.hi)), by first | omega | (simp; omega) | simp, by first | omega | (simp; omega) | simp, by first | omega | (simp; omega) | simp, (by simp only [SY, eq_self, Nat.reduceBEq, g4_0] <;> rfl), (by simp only [SY, eq_self, Nat.reduceBEq, g4_1] <;> rfl), (by simp only [SY, eq_self, Nat.reduceBEq, g4_5] <;> rfl), (by simp only [SY, eq_self, Nat.reduceBEq, g4_6] <;> rfl), (by simp only [SY, eq_self, Nat.reduceBEq, g4_7] <;> rfl), g19, by omega, (oo19.low (by omega)), hf⟩
              · skip
                have w22 : IntKind.i64.wrap ((k : Int) + 1) = ((k + 1 : Nat) : Int) := by rw [IntWalk.i64_in] <;> omega
                try simp (disch := first | omega | assumption) only [E0_G, SY, off, agreeKind, Nat.reduceAdd, Nat.reduceLT, Nat.reduceBEq, g4_7, store_refl E0_same, h18a, w22] at he
                rw [drop_cons' hx4] at hd4
                have hf := (show _ = (R89_1 a b i o (b.drop (k + 1)) p : (List Sp)) from (if_neg h18).trans (rfl)).symm.trans hd4
                exact .next he (m - 1) (by omega) ⟨(k + 1), v_p, p, by first | omega | (simp; omega) | simp, by first | omega | (simp; omega) | simp, by first | omega | (simp; omega) | simp, (by simp only [SY, eq_self, Nat.reduceBEq, g4_0] <;> rfl), (by simp only [SY, eq_self, Nat.reduceBEq, g4_1] <;> rfl), (by simp only [SY, eq_self, Nat.reduceBEq, g4_5] <;> rfl), (by simp only [SY, eq_self, Nat.reduceBEq, g4_6] <;> rfl), (by simp only [SY, eq_self, Nat.reduceBEq, g4_7] <;> rfl), g16, by omega, (ow_17.low (by omega)), hf⟩
            · skip
              try simp (disch := first | omega | assumption) only [SY, h6a] at he
              rw [List.drop_eq_nil_of_le (show b.length ≤ k by omega)] at hd4
              have hf := (show _ = (p : (List Sp)) from rfl).symm.trans hd4
              exact .exit he ⟨rfl, ⟨k, v_p, p, (by simp only [SY, eq_self, Nat.reduceBEq, g4_0] <;> rfl), (by simp only [SY, eq_self, Nat.reduceBEq, g4_1] <;> rfl), (by simp only [SY, eq_self, Nat.reduceBEq, g4_5] <;> rfl), (by simp only [SY, eq_self, Nat.reduceBEq, g4_6] <;> rfl), ga4, by omega, (ow_p.low (by omega)), by first | omega | assumption | simp, by first | omega | assumption | simp, hf.symm⟩⟩)
        obtain ⟨rfl, k, v_p, p, ge4_0, ge4_1, ge4_5, ge4_6, ge4, gm4, oe_p4, hj4_0, hj4_1, hR4⟩ := hQ4
        obtain rfl : p = R89_1 a b i o b o := hR4.symm
        have w24 : IntKind.i64.wrap ((i : Int) + 1) = ((i + 1 : Nat) : Int) := by rw [IntWalk.i64_in] <;> omega
        try simp (disch := first | omega | assumption) only [E0_G, SY, off, agreeKind, eq_self, if_true, Nat.reduceAdd, Nat.reduceLT, Nat.reduceBEq, ge4_6, w24] at he
        rw [drop_cons' (List.getElem?_eq_getElem (show i < _ by omega))] at hd1
        have hf := (show _ = (R89_0 a b (a.drop (i + 1)) (i + 1) (R89_1 a b i o b o) : (List Sp)) from rfl).symm.trans hd1
        exact .next he (m - 1) (by omega) ⟨(i + 1), v_p, R89_1 a b i o b o, by first | omega | (simp; omega) | simp, by first | omega | (simp; omega) | simp, by first | omega | (simp; omega) | simp, (by simp only [SY, eq_self, Nat.reduceBEq, ge4_0] <;> rfl), (by simp only [SY, eq_self, Nat.reduceBEq, ge4_1] <;> rfl), (by simp only [SY, eq_self, Nat.reduceBEq, ge4_5] <;> rfl), (by simp only [SY, eq_self, Nat.reduceBEq, ge4_6] <;> rfl), ge4, by omega, (oe_p4.low (by omega)), hf⟩
      · skip
        try simp (disch := first | omega | assumption) only [SY, h3a] at he
        rw [List.drop_eq_nil_of_le (show a.length ≤ i by omega)] at hd1
        have hf := (show _ = (o : (List Sp)) from rfl).symm.trans hd1
        exact .exit he ⟨rfl, ⟨i, v_o, o, (by simp only [SY, eq_self, Nat.reduceBEq, g1_5] <;> rfl), ga1, by omega, (ow_o.low (by omega)), by first | omega | assumption | simp, by first | omega | assumption | simp, hf.symm⟩⟩)
  obtain ⟨rfl, i, v_o, o, ge1_5, ge1, gm1, oe_o1, hj1_0, hj1_1, hR1⟩ := hQ1
  obtain rfl : o = R89_0 a b a 0 ([]) := hR1.symm
  try simp (disch := first | omega | assumption) only [E0_G, SY, off, agreeKind, eq_self, if_true, Nat.reduceAdd, Nat.reduceLT, Nat.reduceBEq, ge1_5] at hz
  have hr : r89 a b = R89_0 a b a 0 ([]) := rfl
  exact ⟨v_o, S1e, by first | (rw [hr]; exact hz.symm) | exact hz.symm, ge1, by rw [hr]; exact oe_o1.low (by omega)⟩
end Great
end Go.Proofs
end
section
/-
  The great seat of stage 1: the specification's sets, by the generator.
-/
set_option linter.unusedSimpArgs false
set_option linter.unusedVariables false
namespace Go.Proofs
namespace Great
open Go Go.RowKit Go.Aev
set_option maxRecDepth 100000
/-- What is known of the types. -/
theorem TY_EvA12 : type_of% (And.intro (And.intro (And.intro (And.intro (And.intro (And.intro Tryz.underlying3 tz3) (And.intro tt3 (And.intro t0_3 Tryz.underlying22))) (And.intro (And.intro tz22 tt22) (And.intro t0_22 (And.intro Tryz.underlying56 tz43)))) (And.intro (And.intro (And.intro tt43 t0_43) (And.intro Tryz.underlying59 (And.intro tz44 tt44))) (And.intro (And.intro t0_44 Tryz.underlying60) (And.intro tz45 (And.intro tt45 t0_45))))) (And.intro (And.intro (And.intro (And.intro Tryz.underlying62 tz51) (And.intro tt51 (And.intro t0_51 Tryz.underlying63))) (And.intro (And.intro tz52 tt52) (And.intro t0_52 (And.intro Tryz.underlying43 tz55)))) (And.intro (And.intro (And.intro tt55 t0_55) (And.intro Tryz.underlying44 (And.intro tz56 tt56))) (And.intro (And.intro t0_56 Tryz.underlying45) (And.intro tz57 (And.intro tt57 t0_57)))))) (And.intro (And.intro (And.intro (And.intro (And.intro Tryz.underlying46 tz58) (And.intro tt58 (And.intro t0_58 Tryz.underlying66))) (And.intro (And.intro tz77 tt77) (And.intro t0_77 (And.intro Tryz.underlying73 tz80)))) (And.intro (And.intro (And.intro tt80 t0_80) (And.intro Tryz.underlying82 (And.intro tz90 tt90))) (And.intro (And.intro t0_90 Tryz.underlying89) (And.intro tz110 (And.intro tt110 t0_110))))) (And.intro (And.intro (And.intro (And.intro Tryz.underlying94 tz115) (And.intro tt115 (And.intro t0_115 Tryz.underlying95))) (And.intro (And.intro tz116 tt116) (And.intro t0_116 (And.intro Tryz.underlying76 tz123)))) (And.intro (And.intro (And.intro tt123 t0_123) (And.intro Tryz.underlying136 (And.intro tz177 tt177))) (And.intro (And.intro t0_177 Tryz.underlying137) (And.intro tz178 (And.intro tt178 t0_178))))))) := (And.intro (And.intro (And.intro (And.intro (And.intro (And.intro Tryz.underlying3 tz3) (And.intro tt3 (And.intro t0_3 Tryz.underlying22))) (And.intro (And.intro tz22 tt22) (And.intro t0_22 (And.intro Tryz.underlying56 tz43)))) (And.intro (And.intro (And.intro tt43 t0_43) (And.intro Tryz.underlying59 (And.intro tz44 tt44))) (And.intro (And.intro t0_44 Tryz.underlying60) (And.intro tz45 (And.intro tt45 t0_45))))) (And.intro (And.intro (And.intro (And.intro Tryz.underlying62 tz51) (And.intro tt51 (And.intro t0_51 Tryz.underlying63))) (And.intro (And.intro tz52 tt52) (And.intro t0_52 (And.intro Tryz.underlying43 tz55)))) (And.intro (And.intro (And.intro tt55 t0_55) (And.intro Tryz.underlying44 (And.intro tz56 tt56))) (And.intro (And.intro t0_56 Tryz.underlying45) (And.intro tz57 (And.intro tt57 t0_57)))))) (And.intro (And.intro (And.intro (And.intro (And.intro Tryz.underlying46 tz58) (And.intro tt58 (And.intro t0_58 Tryz.underlying66))) (And.intro (And.intro tz77 tt77) (And.intro t0_77 (And.intro Tryz.underlying73 tz80)))) (And.intro (And.intro (And.intro tt80 t0_80) (And.intro Tryz.underlying82 (And.intro tz90 tt90))) (And.intro (And.intro t0_90 Tryz.underlying89) (And.intro tz110 (And.intro tt110 t0_110))))) (And.intro (And.intro (And.intro (And.intro Tryz.underlying94 tz115) (And.intro tt115 (And.intro t0_115 Tryz.underlying95))) (And.intro (And.intro tz116 tt116) (And.intro t0_116 (And.intro Tryz.underlying76 tz123)))) (And.intro (And.intro (And.intro tt123 t0_123) (And.intro Tryz.underlying136 (And.intro tz177 tt177))) (And.intro (And.intro t0_177 Tryz.underlying137) (And.intro tz178 (And.intro tt178 t0_178)))))))

theorem R90_0_len (l : List Sp) : ∀ (m : List Sp) (p : Int) (o : List Sp), (R90_0 l m p o).2.length ≤ m.length + o.length := by
  intro m
  induction m with
  | nil => intro p o; simp [R90_0]
  | cons x m ih =>
    intro p o
    unfold R90_0
    split <;> (refine Nat.le_trans (ih _ _) ?_; simp; try omega)
theorem r90_len (l : List Sp) : (r90 l).length ≤ l.length + 1 := by
  have := R90_0_len l l 0 []
  unfold r90
  split <;> (simp at this ⊢; omega)
theorem R89_1_len (a b : List Sp) (i : Nat) (o : List Sp) : ∀ (m p : List Sp), (R89_1 a b i o m p).length ≤ m.length + p.length := by
  intro m
  induction m with
  | nil => intro p; simp [R89_1]
  | cons x m ih =>
    intro p
    unfold R89_1
    split
    · refine Nat.le_trans (ih _) ?_
      have := r131_len p (max ((lget a i).lo) x.lo) (min ((lget a i).hi) x.hi)
      simp; omega
    · refine Nat.le_trans (ih _) ?_
      simp
theorem R89_0_len (a b : List Sp) (hb : b.length ≤ 130) : ∀ (m : List Sp) (i : Nat) (o : List Sp), (R89_0 a b m i o).length ≤ m.length * 130 + o.length := by
  intro m
  induction m with
  | nil => intro i o; simp [R89_0]
  | cons x m ih =>
    intro i o
    unfold R89_0
    refine Nat.le_trans (ih _ _) ?_
    have := R89_1_len a b i o b o
    simp only [List.length_cons]; omega
theorem r89_len (a b : List Sp) (hb : b.length ≤ 130) : (r89 a b).length ≤ a.length * 130 := by simpa [r89] using R89_0_len a b hb a 0 []

def r14 (l : List Ar) : Bool := (if (l.length : Int) ≤ 60 then true else (if 200 < (l.length : Int) then decide ((l.length : Int) ≤ 300) else false))
set_option maxHeartbeats 2000000 in
theorem c14 (l : List Ar)  (S : AS) (v_l : Value) (hv_l : Lst S v_l l) :
    ∃ S', (evL Tryz.prog E0).call 10 #[v_l] S = some (.bool (r14 l), S') ∧ Agree S S' := by
  generalize hz : (evL Tryz.prog E0).call 10 _ _ = z
  rw [L_call, evCall_said rfl Tryz.func10 rfl (by decide) Tryz.ntmps10 Tryz.results10] at hz
  have w1 := (hv_l).len (P := Tryz.prog) (t := 22) Tryz.underlying22
  try simp (disch := first | omega | assumption) only [E0_G, SY, setArgs, off, agreeKind, Nat.reduceAdd, Nat.reduceSub, Nat.reduceLT, Nat.reduceBEq, w1] at hz
  rcases dP ((l.length : Int) ≤ 60) with ⟨h2a, h2⟩ | ⟨h2a, h2⟩
  · skip
    try simp (disch := first | omega | assumption) only [E0_G, SY, off, agreeKind, Nat.reduceAdd, Nat.reduceLT, Nat.reduceBEq, h2a] at hz
    have hr : r14 l = true := (if_pos h2).trans (rfl)
    exact fin hz (by rw [hr]) (Agree.refl S)
  · skip
    have w3 := (hv_l).len (P := Tryz.prog) (t := 22) Tryz.underlying22
    try simp (disch := first | omega | assumption) only [E0_G, SY, off, agreeKind, Nat.reduceAdd, Nat.reduceLT, Nat.reduceBEq, w1, h2a] at hz
    rcases dP (200 < (l.length : Int)) with ⟨h4a, h4⟩ | ⟨h4a, h4⟩
    · skip
      have w5 := (hv_l).len (P := Tryz.prog) (t := 22) Tryz.underlying22
      try simp (disch := first | omega | assumption) only [E0_G, SY, off, agreeKind, Nat.reduceAdd, Nat.reduceLT, Nat.reduceBEq, w1, h4a] at hz
      have hr : r14 l = decide ((l.length : Int) ≤ 300) := (if_neg h2).trans ((if_pos h4).trans (rfl))
      exact fin hz (by rw [hr]) (Agree.refl S)
    · skip
      try simp (disch := first | omega | assumption) only [E0_G, SY, off, agreeKind, Nat.reduceAdd, Nat.reduceLT, Nat.reduceBEq, h4a] at hz
      have hr : r14 l = false := (if_neg h2).trans ((if_neg h4).trans (rfl))
      exact fin hz (by rw [hr]) (Agree.refl S)

def r23 (l : List Ar) : List Ar := (r87 ((r88 (l : List Ar)) : List Sp))
set_option maxHeartbeats 2000000 in
theorem c23 (l : List Ar) (hn : l.length ≤ 400) (S : AS) (v_l : Value) (hv_l : Lst S v_l l) :
    ∃ v' S', (evL Tryz.prog E0).call 19 #[v_l] S = some (v', S') ∧ Agree S S' ∧ Own 44 S.next S' v' (r23 l) := by
  generalize hz : (evL Tryz.prog E0).call 19 _ _ = z
  rw [L_call, evCall_said rfl Tryz.func19 rfl (by decide) Tryz.ntmps19 Tryz.results19] at hz
  obtain ⟨u1, S1, k1, a1, oo1⟩ := c88 (l : List Ar) (by first | omega | (simp; omega) | (simp; done) | assumption) S (v_l) (hv_l) 
  have l1 := a1.1
  have s1 : E0.same S S1 = true := symEnv_same a1
  have g1 : Agree S S1 := a1
  have p1 := r88_len (l : List Ar)
  obtain ⟨u2, S2, k2, a2, oo2⟩ := c87 ((r88 (l : List Ar)) : List Sp) (by first | omega | (simp; omega) | (simp; done) | assumption) S1 (u1) (oo1.rows) 
  have l2 := a2.1
  have s2 : E0.same S1 S2 = true := symEnv_same a2
  have o1_3 := oo1.agree a2
  have g2 : Agree S S2 := g1.trans a2
  try simp (disch := first | omega | assumption) only [E0_G, SY, setArgs, off, agreeKind, vals, Nat.reduceAdd, Nat.reduceSub, Nat.reduceLT, Nat.reduceBEq, k1, k2] at hz
  have hr : r23 l = (r87 ((r88 (l : List Ar)) : List Sp)) := rfl
  exact ⟨u2, S2, by first | (rw [hr]; exact hz.symm) | exact hz.symm, g2, by rw [hr]; exact oo2.low (by omega)⟩

def r24 (a : List Ar) (b : List Ar) : List Ar := (r87 ((r88 ((([]) ++ a) ++ b : List Ar)) : List Sp))
set_option maxHeartbeats 2000000 in
theorem c24 (a : List Ar) (b : List Ar) (hna : a.length ≤ 60) (hnb : b.length ≤ 60) (S : AS) (v_a : Value) (hv_a : Lst S v_a a) (v_b : Value) (hv_b : Lst S v_b b) :
    ∃ v' S', (evL Tryz.prog E0).call 20 #[v_a, v_b] S = some (v', S') ∧ Agree S S' ∧ Own 44 S.next S' v' (r24 a b) := by
  generalize hz : (evL Tryz.prog E0).call 20 _ _ = z
  rw [L_call, evCall_said rfl Tryz.func20 rfl (by decide) Tryz.ntmps20 Tryz.results20] at hz
  have y1 : aBuildSlice Tryz.prog 22 0 [] S = some (.slice (some ⟨S.next, 0, none⟩) 0 0, S.push (.cells [] 44 2 true true)) := by kernel_rfl
  obtain ⟨S2, e2, n2, b2, a2⟩ := push_open S (.cells [] 44 2 true true)
  have g2 : Agree S S2 := a2
  have s2 : E0.same S S2 = true := symEnv_same a2
  have o3 : Own 44 S.next S2 (.slice (some ⟨S.next, 0, none⟩) 0 0) ([] : List Ar) := .inr ⟨_, true, rfl, Nat.le_refl _, by omega, b2⟩
  obtain ⟨u4, S4, k4, o4, n4, f4, d4⟩ := own_append (P := Tryz.prog) (t := 22) (tx := 22) (n := 1) (v := .slice (some ⟨S.next, 0, none⟩) 0 0) o3 (hv_a.agree g2) (by omega) (by first | omega | (simp; omega) | simp) (by first | omega | (simp; omega) | simp) Tryz.underlying22 Tryz.underlying22 ti56 tv56 rfl tz56
  have g4 : Agree S S4 := ⟨Nat.le_trans (g2).1 n4, fun id hid => (f4 id (by have := (g2).1; omega) (by first | (simp [blkOf]; done) | exact o3.ne (by omega) | assumption)).trans ((g2).2 id hid)⟩
  obtain ⟨u5, S5, k5, o5, n5, f5, d5⟩ := own_append (P := Tryz.prog) (t := 22) (tx := 22) (n := 1) (v := u4) o4 (hv_b.agree g4) (by omega) (by first | omega | (simp; omega) | simp) (by first | omega | (simp; omega) | simp) Tryz.underlying22 Tryz.underlying22 ti56 tv56 rfl tz56
  have g5 : Agree S S5 := ⟨Nat.le_trans (g4).1 n5, fun id hid => (f5 id (by have := (g4).1; omega) (by first | (simp [blkOf]; done) | exact o4.ne (by omega) | assumption)).trans ((g4).2 id hid)⟩
  obtain ⟨u6, S6, k6, a6, oo6⟩ := c88 ((([]) ++ a) ++ b : List Ar) (by first | omega | (simp; omega) | (simp; done) | assumption) S5 (u5) (o5.rows) 
  have l6 := a6.1
  have s6 : E0.same S5 S6 = true := symEnv_same a6
  have o5_7 := o5.agree a6
  have g6 : Agree S S6 := g5.trans a6
  have p6 := r88_len ((([]) ++ a) ++ b : List Ar)
  try simp only [List.length_append, List.length_nil] at p6
  obtain ⟨u8, S8, k8, a8, oo8⟩ := c87 ((r88 ((([]) ++ a) ++ b : List Ar)) : List Sp) (by first | omega | (simp; omega) | (simp; done) | assumption) S6 (u6) (oo6.rows) 
  have l8 := a8.1
  have s8 : E0.same S6 S8 = true := symEnv_same a8
  have o5_9 := o5_7.agree a8
  have o6_10 := oo6.agree a8
  have g8 : Agree S S8 := g6.trans a8
  try simp (disch := first | omega | assumption) only [E0_G, SY, setArgs, off, agreeKind, partVals, vals, Nat.reduceAdd, Nat.reduceSub, Nat.reduceLT, Nat.reduceBEq, y1, e2, k4, k5, k6, k8] at hz
  have hr : r24 a b = (r87 ((r88 ((([]) ++ a) ++ b : List Ar)) : List Sp)) := rfl
  exact ⟨u8, S8, by first | (rw [hr]; exact hz.symm) | exact hz.symm, g8, by rw [hr]; exact oo8.low (by omega)⟩

def r25 (a : List Ar) (b : List Ar) : List Ar := (r87 ((r89 ((r88 (a : List Ar)) : List Sp) ((r88 (b : List Ar)) : List Sp)) : List Sp))
set_option maxHeartbeats 2000000 in
theorem c25 (a : List Ar) (b : List Ar) (hna : a.length ≤ 60) (hnb : b.length ≤ 60) (S : AS) (v_a : Value) (hv_a : Lst S v_a a) (v_b : Value) (hv_b : Lst S v_b b) :
    ∃ v' S', (evL Tryz.prog E0).call 21 #[v_a, v_b] S = some (v', S') ∧ Agree S S' ∧ Own 44 S.next S' v' (r25 a b) := by
  generalize hz : (evL Tryz.prog E0).call 21 _ _ = z
  rw [L_call, evCall_said rfl Tryz.func21 rfl (by decide) Tryz.ntmps21 Tryz.results21] at hz
  obtain ⟨u1, S1, k1, a1, oo1⟩ := c88 (a : List Ar) (by first | omega | (simp; omega) | (simp; done) | assumption) S (v_a) (hv_a) 
  have l1 := a1.1
  have s1 : E0.same S S1 = true := symEnv_same a1
  have g1 : Agree S S1 := a1
  have p1 := r88_len (a : List Ar)
  obtain ⟨u2, S2, k2, a2, oo2⟩ := c88 (b : List Ar) (by first | omega | (simp; omega) | (simp; done) | assumption) S1 (v_b) (hv_b.agree g1) 
  have l2 := a2.1
  have s2 : E0.same S1 S2 = true := symEnv_same a2
  have o1_3 := oo1.agree a2
  have g2 : Agree S S2 := g1.trans a2
  have p2 := r88_len (b : List Ar)
  obtain ⟨u4, S4, k4, a4, oo4⟩ := c89 ((r88 (a : List Ar)) : List Sp) ((r88 (b : List Ar)) : List Sp) (by first | omega | (simp; omega) | (simp; done) | assumption) (by first | omega | (simp; omega) | (simp; done) | assumption) S2 (u1) (o1_3.rows) (u2) (oo2.rows) 
  have l4 := a4.1
  have s4 : E0.same S2 S4 = true := symEnv_same a4
  have o1_5 := o1_3.agree a4
  have o2_6 := oo2.agree a4
  have g4 : Agree S S4 := g2.trans a4
  have p4 := r89_len ((r88 (a : List Ar)) : List Sp) ((r88 (b : List Ar)) : List Sp) (by omega)
  obtain ⟨u7, S7, k7, a7, oo7⟩ := c87 ((r89 ((r88 (a : List Ar)) : List Sp) ((r88 (b : List Ar)) : List Sp)) : List Sp) (by first | omega | (simp; omega) | (simp; done) | assumption) S4 (u4) (oo4.rows) 
  have l7 := a7.1
  have s7 : E0.same S4 S7 = true := symEnv_same a7
  have o1_8 := o1_5.agree a7
  have o2_9 := o2_6.agree a7
  have o4_10 := oo4.agree a7
  have g7 : Agree S S7 := g4.trans a7
  try simp (disch := first | omega | assumption) only [E0_G, SY, setArgs, off, agreeKind, vals, Nat.reduceAdd, Nat.reduceSub, Nat.reduceLT, Nat.reduceBEq, k1, k2, k4, k7] at hz
  have hr : r25 a b = (r87 ((r89 ((r88 (a : List Ar)) : List Sp) ((r88 (b : List Ar)) : List Sp)) : List Sp)) := rfl
  exact ⟨u7, S7, by first | (rw [hr]; exact hz.symm) | exact hz.symm, g7, by rw [hr]; exact oo7.low (by omega)⟩

def r26 (a : List Ar) (b : List Ar) : List Ar := (r87 ((r89 ((r88 (a : List Ar)) : List Sp) ((r90 ((r88 (b : List Ar)) : List Sp)) : List Sp)) : List Sp))
set_option maxHeartbeats 2000000 in
theorem c26 (a : List Ar) (b : List Ar) (hna : a.length ≤ 60) (hnb : b.length ≤ 60) (S : AS) (v_a : Value) (hv_a : Lst S v_a a) (v_b : Value) (hv_b : Lst S v_b b) :
    ∃ v' S', (evL Tryz.prog E0).call 22 #[v_a, v_b] S = some (v', S') ∧ Agree S S' ∧ Own 44 S.next S' v' (r26 a b) := by
  generalize hz : (evL Tryz.prog E0).call 22 _ _ = z
  rw [L_call, evCall_said rfl Tryz.func22 rfl (by decide) Tryz.ntmps22 Tryz.results22] at hz
  obtain ⟨u1, S1, k1, a1, oo1⟩ := c88 (a : List Ar) (by first | omega | (simp; omega) | (simp; done) | assumption) S (v_a) (hv_a) 
  have l1 := a1.1
  have s1 : E0.same S S1 = true := symEnv_same a1
  have g1 : Agree S S1 := a1
  have p1 := r88_len (a : List Ar)
  obtain ⟨u2, S2, k2, a2, oo2⟩ := c88 (b : List Ar) (by first | omega | (simp; omega) | (simp; done) | assumption) S1 (v_b) (hv_b.agree g1) 
  have l2 := a2.1
  have s2 : E0.same S1 S2 = true := symEnv_same a2
  have o1_3 := oo1.agree a2
  have g2 : Agree S S2 := g1.trans a2
  have p2 := r88_len (b : List Ar)
  obtain ⟨u4, S4, k4, a4, oo4⟩ := c90 ((r88 (b : List Ar)) : List Sp) (by first | omega | (simp; omega) | (simp; done) | assumption) S2 (u2) (oo2.rows) 
  have l4 := a4.1
  have s4 : E0.same S2 S4 = true := symEnv_same a4
  have o1_5 := o1_3.agree a4
  have o2_6 := oo2.agree a4
  have g4 : Agree S S4 := g2.trans a4
  have p4 := r90_len ((r88 (b : List Ar)) : List Sp)
  obtain ⟨u7, S7, k7, a7, oo7⟩ := c89 ((r88 (a : List Ar)) : List Sp) ((r90 ((r88 (b : List Ar)) : List Sp)) : List Sp) (by first | omega | (simp; omega) | (simp; done) | assumption) (by first | omega | (simp; omega) | (simp; done) | assumption) S4 (u1) (o1_5.rows) (u4) (oo4.rows) 
  have l7 := a7.1
  have s7 : E0.same S4 S7 = true := symEnv_same a7
  have o1_8 := o1_5.agree a7
  have o2_9 := o2_6.agree a7
  have o4_10 := oo4.agree a7
  have g7 : Agree S S7 := g4.trans a7
  have p7 := r89_len ((r88 (a : List Ar)) : List Sp) ((r90 ((r88 (b : List Ar)) : List Sp)) : List Sp) (by omega)
  obtain ⟨u11, S11, k11, a11, oo11⟩ := c87 ((r89 ((r88 (a : List Ar)) : List Sp) ((r90 ((r88 (b : List Ar)) : List Sp)) : List Sp)) : List Sp) (by first | omega | (simp; omega) | (simp; done) | assumption) S7 (u7) (oo7.rows) 
  have l11 := a11.1
  have s11 : E0.same S7 S11 = true := symEnv_same a11
  have o1_12 := o1_8.agree a11
  have o2_13 := o2_9.agree a11
  have o4_14 := o4_10.agree a11
  have o7_15 := oo7.agree a11
  have g11 : Agree S S11 := g7.trans a11
  try simp (disch := first | omega | assumption) only [E0_G, SY, setArgs, off, agreeKind, vals, Nat.reduceAdd, Nat.reduceSub, Nat.reduceLT, Nat.reduceBEq, k1, k2, k4, k7, k11] at hz
  have hr : r26 a b = (r87 ((r89 ((r88 (a : List Ar)) : List Sp) ((r90 ((r88 (b : List Ar)) : List Sp)) : List Sp)) : List Sp)) := rfl
  exact ⟨u11, S11, by first | (rw [hr]; exact hz.symm) | exact hz.symm, g11, by rw [hr]; exact oo11.low (by omega)⟩

def R32_0 (l : List Ar)  : List Sp → Int → Int
  | [], n => n
  | x2 :: l', n => R32_0 l l' (IntKind.i64.wrap ((IntKind.i64.wrap ((IntKind.i64.wrap (n + x2.hi)) - x2.lo)) + 1))
def r32 (l : List Ar) : Int := R32_0 l (r88 (l : List Ar)) 0
set_option maxHeartbeats 2000000 in
theorem c32 (l : List Ar) (hn : l.length ≤ 400) (S : AS) (v_l : Value) (hv_l : Lst S v_l l) :
    ∃ S', (evL Tryz.prog E0).call 28 #[v_l] S = some (.int .i64 (r32 l), S') ∧ Agree S S' := by
  generalize hz : (evL Tryz.prog E0).call 28 _ _ = z
  rw [L_call, evCall_said rfl Tryz.func28 rfl (by decide) Tryz.ntmps28 Tryz.results28] at hz
  obtain ⟨u1, S1, k1, a1, oo1⟩ := c88 (l : List Ar) (by first | omega | (simp; omega) | (simp; done) | assumption) S (v_l) (hv_l) 
  have l1 := a1.1
  have s1 : E0.same S S1 = true := symEnv_same a1
  have g1 : Agree S S1 := a1
  have p1 := r88_len (l : List Ar)
  try simp (disch := first | omega | assumption) only [E0_G, SY, setArgs, off, agreeKind, vals, Nat.reduceAdd, Nat.reduceSub, Nat.reduceLT, Nat.reduceBEq, k1] at hz
  generalize hL2 : Rec.loop _ _ _ _ = L2 at hz
  obtain ⟨x2, t2, S2e, rfl, hQ2⟩ := loop_met hL2 (fun m t S' => ∃ (n : Int) (i : Nat), m + i = (r88 (l : List Ar)).length ∧ i ≤ (r88 (l : List Ar)).length ∧ t.get 3 = some (u1) ∧ t.get 4 = some (.int .i64 n) ∧ t.get 5 = some (.int .i64 (i : Int)) ∧ Agree S S' ∧ S1.next ≤ S'.next ∧ Own 95 S.next S' u1 (r88 (l : List Ar)) ∧ R32_0 l ((r88 (l : List Ar)).drop i) n = R32_0 l (r88 (l : List Ar)) 0)
    (fun x t S' => x = .exit 0 ∧ ∃ (n : Int) (i : Nat), t.get 4 = some (.int .i64 n) ∧ Agree S S' ∧ S1.next ≤ S'.next ∧ Own 95 S.next S' u1 (r88 (l : List Ar)) ∧ i ≤ (r88 (l : List Ar)).length ∧ R32_0 l (r88 (l : List Ar)) 0 = n) ((r88 (l : List Ar)).length - 0) ⟨0, 0, by first | rfl | omega | (simp; omega) | simp, by first | rfl | omega | (simp; omega) | simp, by simp only [SY, eq_self, Nat.reduceBEq] <;> rfl, by simp only [SY, eq_self, Nat.reduceBEq] <;> rfl, by simp only [SY, Nat.reduceBEq] <;> rfl, g1, Nat.le_refl _, oo1, rfl⟩ (by
      rintro m t S2 ⟨n, i, hi2_0, hi2_1, g2_3, g2_4, g2_5, ga2, gn2, cw2_0, hd2⟩
      refine .run fun z he => ?_
      have w3 := (cw2_0.rows).len (P := Tryz.prog) (t := 89) Tryz.underlying89
      try simp (disch := first | omega | assumption) only [E0_G, SY, off, agreeKind, Nat.reduceAdd, Nat.reduceLT, Nat.reduceBEq, g2_3, g2_5, w3] at he
      rcases dP ((i : Int) < ((r88 (l : List Ar)).length : Int)) with ⟨h4a, h4⟩ | ⟨h4a, h4⟩
      · skip
        try simp (disch := first | omega | assumption) only [SY, h4a] at he
        rw [code_draws _ _ _ (by kernel_rfl)] at he
        generalize hnd5 : needy _ = nd5 at he
        have hx2 : (r88 (l : List Ar))[i]? = some ((r88 (l : List Ar))[i]'(by first | omega | simp; omega)) := List.getElem?_eq_getElem _
        generalize (r88 (l : List Ar))[i]'_ = x2 at hx2
        obtain ⟨id6, of6, cc6, ty6, wr6, ex6, i6, j6, l6, q6⟩ := (cw2_0.rows).at (P := Tryz.prog) (t := 89) Tryz.underlying89 tz116 hx2
        have m6_0 : cc6[of6]? = some (.int .i64 x2.lo) := q6 0 (show 0 < 2 by decide)
        have m6_1 : cc6[of6 + 1]? = some (.int .i64 x2.hi) := q6 1 (show 1 < 2 by decide)
        obtain ⟨id7, of7, cc7, ty7, wr7, ex7, i7, j7, l7, q7⟩ := (cw2_0.rows).at (P := Tryz.prog) (t := 89) Tryz.underlying89 tz116 hx2
        have m7_0 : cc7[of7]? = some (.int .i64 x2.lo) := q7 0 (show 0 < 2 by decide)
        have m7_1 : cc7[of7 + 1]? = some (.int .i64 x2.hi) := q7 1 (show 1 < 2 by decide)
        have w8 : IntKind.i64.wrap ((i : Int) + 1) = ((i + 1 : Nat) : Int) := by rw [IntWalk.i64_in] <;> omega
        try simp (disch := first | omega | assumption) only [E0_G, SY, off, agreeKind, ldA, aggD, aField, Nat.reduceAdd, Nat.reduceLT, Nat.reduceBEq, TY_EvA12, g2_3, g2_4, g2_5, store_refl E0_same, i6, j6, m6_0, m6_1, w8] at he
        rw [drop_cons' hx2] at hd2
        have hf := (show _ = (R32_0 l ((r88 (l : List Ar)).drop (i + 1)) (IntKind.i64.wrap ((IntKind.i64.wrap ((IntKind.i64.wrap (n + x2.hi)) - x2.lo)) + 1)) : Int) from rfl).symm.trans hd2
        exact .next he (m - 1) (by omega) ⟨IntKind.i64.wrap ((IntKind.i64.wrap ((IntKind.i64.wrap (n + x2.hi)) - x2.lo)) + 1), (i + 1), by first | omega | (simp; omega) | simp, by first | omega | (simp; omega) | simp, (by simp only [SY, eq_self, Nat.reduceBEq, g2_3] <;> rfl), (by simp only [SY, eq_self, Nat.reduceBEq, g2_4] <;> rfl), (by simp only [SY, eq_self, Nat.reduceBEq, g2_5] <;> rfl), ga2, by omega, cw2_0, hf⟩
      · skip
        try simp (disch := first | omega | assumption) only [SY, h4a] at he
        rw [List.drop_eq_nil_of_le (show (r88 (l : List Ar)).length ≤ i by omega)] at hd2
        have hf := (show _ = (n : Int) from rfl).symm.trans hd2
        exact .exit he ⟨rfl, ⟨n, i, (by simp only [SY, eq_self, Nat.reduceBEq, g2_4] <;> rfl), ga2, by omega, cw2_0, by first | omega | assumption | simp, hf.symm⟩⟩)
  obtain ⟨rfl, n, i, ge2_4, ge2, gm2, ce2_0, hj2_0, hR2⟩ := hQ2
  obtain rfl : n = R32_0 l (r88 (l : List Ar)) 0 := hR2.symm
  try simp (disch := first | omega | assumption) only [E0_G, SY, off, agreeKind, eq_self, if_true, Nat.reduceAdd, Nat.reduceLT, Nat.reduceBEq, ge2_4] at hz
  have hr : r32 l = R32_0 l (r88 (l : List Ar)) 0 := rfl
  exact fin hz (by rw [hr]) ge2

def r33 (a : List Ar) (b : List Ar) : Bool := decide (((r89 ((r90 ((r88 (a : List Ar)) : List Sp)) : List Sp) ((r88 (b : List Ar)) : List Sp)).length : Int) = 0)
set_option maxHeartbeats 2000000 in
theorem c33 (a : List Ar) (b : List Ar) (hna : a.length ≤ 60) (hnb : b.length ≤ 60) (S : AS) (v_a : Value) (hv_a : Lst S v_a a) (v_b : Value) (hv_b : Lst S v_b b) :
    ∃ S', (evL Tryz.prog E0).call 29 #[v_a, v_b] S = some (.bool (r33 a b), S') ∧ Agree S S' := by
  generalize hz : (evL Tryz.prog E0).call 29 _ _ = z
  rw [L_call, evCall_said rfl Tryz.func29 rfl (by decide) Tryz.ntmps29 Tryz.results29] at hz
  obtain ⟨u1, S1, k1, a1, oo1⟩ := c88 (a : List Ar) (by first | omega | (simp; omega) | (simp; done) | assumption) S (v_a) (hv_a) 
  have l1 := a1.1
  have s1 : E0.same S S1 = true := symEnv_same a1
  have g1 : Agree S S1 := a1
  have p1 := r88_len (a : List Ar)
  obtain ⟨u2, S2, k2, a2, oo2⟩ := c90 ((r88 (a : List Ar)) : List Sp) (by first | omega | (simp; omega) | (simp; done) | assumption) S1 (u1) (oo1.rows) 
  have l2 := a2.1
  have s2 : E0.same S1 S2 = true := symEnv_same a2
  have o1_3 := oo1.agree a2
  have g2 : Agree S S2 := g1.trans a2
  have p2 := r90_len ((r88 (a : List Ar)) : List Sp)
  obtain ⟨u4, S4, k4, a4, oo4⟩ := c88 (b : List Ar) (by first | omega | (simp; omega) | (simp; done) | assumption) S2 (v_b) (hv_b.agree g2) 
  have l4 := a4.1
  have s4 : E0.same S2 S4 = true := symEnv_same a4
  have o1_5 := o1_3.agree a4
  have o2_6 := oo2.agree a4
  have g4 : Agree S S4 := g2.trans a4
  have p4 := r88_len (b : List Ar)
  obtain ⟨u7, S7, k7, a7, oo7⟩ := c89 ((r90 ((r88 (a : List Ar)) : List Sp)) : List Sp) ((r88 (b : List Ar)) : List Sp) (by first | omega | (simp; omega) | (simp; done) | assumption) (by first | omega | (simp; omega) | (simp; done) | assumption) S4 (u2) (o2_6.rows) (u4) (oo4.rows) 
  have l7 := a7.1
  have s7 : E0.same S4 S7 = true := symEnv_same a7
  have o1_8 := o1_5.agree a7
  have o2_9 := o2_6.agree a7
  have o4_10 := oo4.agree a7
  have g7 : Agree S S7 := g4.trans a7
  have p7 := r89_len ((r90 ((r88 (a : List Ar)) : List Sp)) : List Sp) ((r88 (b : List Ar)) : List Sp) (by omega)
  have w11 := (oo7.rows).len (P := Tryz.prog) (t := 89) Tryz.underlying89
  try simp (disch := first | omega | assumption) only [E0_G, SY, setArgs, off, agreeKind, vals, Nat.reduceAdd, Nat.reduceSub, Nat.reduceLT, Nat.reduceBEq, k1, k2, k4, k7, w11] at hz
  have hr : r33 a b = decide (((r89 ((r90 ((r88 (a : List Ar)) : List Sp)) : List Sp) ((r88 (b : List Ar)) : List Sp)).length : Int) = 0) := rfl
  exact fin hz (by rw [hr]) g7
end Great
end Go.Proofs
end
