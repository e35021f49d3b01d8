/-
  The great seat of stage 1: Blur and the specification's Sharpen, by the generator.
-/
import Derived.Test.YtgbjgljchkodjaaGreatDoorBE
import Derived.Test.YtgbjgljchkodjaaGreatDoorBP
set_option linter.unusedSimpArgs false
set_option linter.unusedVariables false
namespace Go.Proofs
namespace Great
open Go Go.RowKit Go.Aev
set_option maxRecDepth 100000
/-- What is known of the types. -/
theorem TY_EvA13 : type_of% (And.intro (And.intro (And.intro (And.intro (And.intro (And.intro Tryz.underlying3 tz3) (And.intro tt3 (And.intro t0_3 Tryz.underlying22))) (And.intro (And.intro tz22 tt22) (And.intro t0_22 (And.intro Tryz.underlying56 tz43)))) (And.intro (And.intro (And.intro tt43 t0_43) (And.intro Tryz.underlying59 (And.intro tz44 tt44))) (And.intro (And.intro t0_44 Tryz.underlying60) (And.intro tz45 (And.intro tt45 t0_45))))) (And.intro (And.intro (And.intro (And.intro Tryz.underlying62 tz51) (And.intro tt51 (And.intro t0_51 Tryz.underlying63))) (And.intro (And.intro tz52 tt52) (And.intro t0_52 (And.intro Tryz.underlying43 tz55)))) (And.intro (And.intro (And.intro tt55 t0_55) (And.intro Tryz.underlying44 (And.intro tz56 tt56))) (And.intro (And.intro t0_56 Tryz.underlying45) (And.intro tz57 (And.intro tt57 t0_57)))))) (And.intro (And.intro (And.intro (And.intro (And.intro Tryz.underlying46 tz58) (And.intro tt58 (And.intro t0_58 Tryz.underlying66))) (And.intro (And.intro tz77 tt77) (And.intro t0_77 (And.intro Tryz.underlying73 tz80)))) (And.intro (And.intro (And.intro tt80 t0_80) (And.intro Tryz.underlying82 (And.intro tz90 tt90))) (And.intro (And.intro t0_90 Tryz.underlying89) (And.intro tz110 (And.intro tt110 t0_110))))) (And.intro (And.intro (And.intro (And.intro Tryz.underlying94 tz115) (And.intro tt115 (And.intro t0_115 Tryz.underlying95))) (And.intro (And.intro tz116 tt116) (And.intro t0_116 (And.intro Tryz.underlying76 tz123)))) (And.intro (And.intro (And.intro tt123 t0_123) (And.intro Tryz.underlying136 (And.intro tz177 tt177))) (And.intro (And.intro t0_177 Tryz.underlying137) (And.intro tz178 (And.intro tt178 t0_178))))))) := (And.intro (And.intro (And.intro (And.intro (And.intro (And.intro Tryz.underlying3 tz3) (And.intro tt3 (And.intro t0_3 Tryz.underlying22))) (And.intro (And.intro tz22 tt22) (And.intro t0_22 (And.intro Tryz.underlying56 tz43)))) (And.intro (And.intro (And.intro tt43 t0_43) (And.intro Tryz.underlying59 (And.intro tz44 tt44))) (And.intro (And.intro t0_44 Tryz.underlying60) (And.intro tz45 (And.intro tt45 t0_45))))) (And.intro (And.intro (And.intro (And.intro Tryz.underlying62 tz51) (And.intro tt51 (And.intro t0_51 Tryz.underlying63))) (And.intro (And.intro tz52 tt52) (And.intro t0_52 (And.intro Tryz.underlying43 tz55)))) (And.intro (And.intro (And.intro tt55 t0_55) (And.intro Tryz.underlying44 (And.intro tz56 tt56))) (And.intro (And.intro t0_56 Tryz.underlying45) (And.intro tz57 (And.intro tt57 t0_57)))))) (And.intro (And.intro (And.intro (And.intro (And.intro Tryz.underlying46 tz58) (And.intro tt58 (And.intro t0_58 Tryz.underlying66))) (And.intro (And.intro tz77 tt77) (And.intro t0_77 (And.intro Tryz.underlying73 tz80)))) (And.intro (And.intro (And.intro tt80 t0_80) (And.intro Tryz.underlying82 (And.intro tz90 tt90))) (And.intro (And.intro t0_90 Tryz.underlying89) (And.intro tz110 (And.intro tt110 t0_110))))) (And.intro (And.intro (And.intro (And.intro Tryz.underlying94 tz115) (And.intro tt115 (And.intro t0_115 Tryz.underlying95))) (And.intro (And.intro tz116 tt116) (And.intro t0_116 (And.intro Tryz.underlying76 tz123)))) (And.intro (And.intro (And.intro tt123 t0_123) (And.intro Tryz.underlying136 (And.intro tz177 tt177))) (And.intro (And.intro t0_177 Tryz.underlying137) (And.intro tz178 (And.intro tt178 t0_178)))))))
def r133 (w : Int) (x y : Int) : Int := (if ArcOk x y then 0 else 1)
set_option maxHeartbeats 2000000 in
theorem c133 (w : Int) (x y : Int)  (S : AS)  (ht : Tab S) :
    ∃ S', (evL Tryz.prog E0).call 85 #[.int .i64 w, .agg #[.int .i64 x, .int .i64 y]] S = some (.int .i64 (r133 w x y), S') ∧ Agree S S' := by
  generalize hz : (evL Tryz.prog E0).call 85 _ _ = z
  rw [L_call, evCall_said rfl Tryz.func85 rfl (by decide) Tryz.ntmps85 Tryz.results85] at hz
  obtain ⟨S1, e1, n1, b1, a1⟩ := push_open S (.cells [.int .i64 x, .int .i64 y] 44 0 true true)
  have g1 : Agree S S1 := a1
  have s1 : E0.same S S1 = true := symEnv_same a1
  obtain ⟨S2, k2, a2⟩ := c116 x y S1 (ht.agree g1) 
  have l2 := a2.1
  have s2 : E0.same S1 S2 = true := symEnv_same a2
  have v1_2 := (a2.2 S.next (by omega)).trans b1
  have g2 : Agree S S2 := g1.trans a2
  try simp (disch := first | omega | assumption) only [E0_G, SY, setArgs, off, agreeKind, vals, boxed, ldA, rdCells, aggD, Nat.reduceAdd, Nat.reduceSub, Nat.reduceLT, Nat.reduceBEq, TY_EvA13, e1, b1, k2] at hz
  rcases dP (ArcOk x y) with ⟨h3a, h3⟩ | ⟨h3a, h3⟩
  · skip
    try simp (disch := first | omega | assumption) only [E0_G, SY, off, agreeKind, Nat.reduceLT, Nat.reduceBEq, h3a] at hz
    have hr : r133 w x y = 0 := (if_pos h3).trans (rfl)
    exact fin hz (by rw [hr]) g2
  · skip
    try simp (disch := first | omega | assumption) only [E0_G, SY, off, agreeKind, Nat.reduceLT, Nat.reduceBEq, h3a] at hz
    have hr : r133 w x y = 1 := (if_neg h3).trans (rfl)
    exact fin hz (by rw [hr]) g2

def R132_0 (l : List Ar) (w : Int)  : List Ar → Nat → Sum (Int × Int) (Unit)
  | [], j => .inr ()
  | x4 :: l', j => (if (r133 (j : Int) x4.f x4.l) = 0 then R132_0 l w l' (j + 1) else .inl ((r133 (j : Int) x4.f x4.l), (j : Int)))
def r132 (l : List Ar) (w : Int) : Int × Int := (if w < (l.length : Int) then (2, -1) else (onSum (R132_0 l w l 0) (fun (r6, r7) => (r6, r7)) (fun _ => (0, -1))))
set_option maxHeartbeats 2000000 in
theorem c132 (l : List Ar) (w : Int) (hn : l.length ≤ 1000)  (S : AS) (v_l : Value) (hv_l : Lst S v_l l) (ht : Tab S) :
    ∃ S', (evL Tryz.prog E0).call 84 #[v_l, .int .i64 w, .func (.func 85) #[] #[]] S = some (.tuple #[.int .i64 (r132 l w).1, .int .i64 (r132 l w).2], S') ∧ Agree S S' := by
  generalize hz : (evL Tryz.prog E0).call 84 _ _ = z
  rw [L_call, evCall_said rfl Tryz.func84 rfl (by decide) Tryz.ntmps84 Tryz.results84] at hz
  have w1 := (hv_l).len (P := Tryz.prog) (t := 22) Tryz.underlying22
  try simp (disch := first | omega | assumption) only [E0_G, SY, setArgs, off, agreeKind, Nat.reduceAdd, Nat.reduceSub, Nat.reduceLT, Nat.reduceBEq, w1] at hz
  rcases dP (w < (l.length : Int)) with ⟨h2a, h2⟩ | ⟨h2a, h2⟩
  · skip
    try simp (disch := first | omega | assumption) only [E0_G, SY, off, agreeKind, Nat.reduceAdd, Nat.reduceLT, Nat.reduceBEq, h2a] at hz
    have hr : r132 l w = (2, -1) := (if_pos h2).trans (rfl)
    exact fin hz (by rw [hr]) (Agree.refl S)
  · skip
    have w3 := (hv_l).len (P := Tryz.prog) (t := 22) Tryz.underlying22
    try simp (disch := first | omega | assumption) only [E0_G, SY, off, agreeKind, Nat.reduceAdd, Nat.reduceLT, Nat.reduceBEq, w1, h2a] at hz
    generalize hL4 : Rec.loop _ _ _ _ = L4 at hz
    obtain ⟨x4, t4, S4e, rfl, hQ4⟩ := loop_met hL4 (fun m t S' => ∃ (j : Nat), m + j = l.length ∧ j ≤ l.length ∧ t.get 2 = some (.func (.func 85) #[] #[]) ∧ t.get 15 = some (v_l) ∧ t.get 16 = some (.int .i64 (l.length : Int)) ∧ t.get 17 = some (.int .i64 (j : Int)) ∧ Agree S S' ∧ S.next ≤ S'.next ∧ R132_0 l w (l.drop j) j = R132_0 l w l 0)
      (fun x t S' => (x = .exit 0 ∧ ∃ (j : Nat), Agree S S' ∧ S.next ≤ S'.next ∧ j ≤ l.length ∧ R132_0 l w l 0 = .inr ()) ∨ (x = .ret ∧ ∃ (r6 : Int) (r7 : Int), t.get 6 = some (.int .i64 r6) ∧ t.get 7 = some (.int .i64 r7) ∧ Agree S S' ∧ R132_0 l w l 0 = .inl (r6, r7))) (l.length - 0) ⟨0, by first | rfl | omega | (simp; omega) | simp, by first | rfl | omega | (simp; omega) | simp, by simp only [SY, eq_self, Nat.reduceBEq] <;> rfl, by simp only [SY, eq_self, Nat.reduceBEq] <;> rfl, by simp only [SY, eq_self, Nat.reduceBEq] <;> rfl, by simp only [SY, Nat.reduceBEq] <;> rfl, (Agree.refl S), Nat.le_refl _, rfl⟩ (by
        rintro m t S4 ⟨j, hi4_0, hi4_1, g4_2, g4_15, g4_16, g4_17, ga4, gn4, hd4⟩
        refine .run fun z he => ?_
        try simp (disch := first | omega | assumption) only [E0_G, SY, off, agreeKind, Nat.reduceLT, Nat.reduceBEq, g4_16, g4_17] at he
        rcases dP ((j : Int) < (l.length : Int)) with ⟨h5a, h5⟩ | ⟨h5a, h5⟩
        · skip
          have hx4 : l[j]? = some (l[j]'(by first | omega | simp; omega)) := List.getElem?_eq_getElem _
          generalize l[j]'_ = x4 at hx4
          obtain ⟨id6, of6, cc6, ty6, wr6, ex6, i6, j6, l6, q6⟩ := (hv_l).at (P := Tryz.prog) (t := 22) Tryz.underlying22 tz56 hx4
          have jr6 := j6
          have j6 := (ga4.2 id6 l6).trans jr6
          have m6_0 : cc6[of6]? = some (.int .i64 x4.f) := q6 0 (show 0 < 2 by decide)
          have m6_1 : cc6[of6 + 1]? = some (.int .i64 x4.l) := q6 1 (show 1 < 2 by decide)
          obtain ⟨S7, e7, n7, b7, a7⟩ := push_open S4 (.cells [.int .i64 0, .int .i64 0] 44 0 true true)
          have v6_7 := (a7.2 id6 (by omega)).trans j6
          have g7 : Agree S S7 := ga4.trans a7
          have s7 : E0.same S4 S7 = true := symEnv_same a7
          obtain ⟨S8, k8, n8, b8, q8⟩ := st_at (o := 0) (c' := [.int .i64 x4.f, .int .i64 x4.l]) (v := .agg #[.int .i64 x4.f, .int .i64 x4.l]) tz56 b7 rfl rfl (show 0 + 2 ≤ 2 by decide) rfl
          have v6_8 := (q8 id6 (by omega)).trans v6_7
          have g8 : Agree S S8 := ⟨by have := (g7).1; omega, fun id hid => (q8 id (by have := (g7).1; omega)).trans ((g7).2 id hid)⟩
          obtain ⟨S9, k9, a9⟩ := c133 (j : Int) x4.f x4.l  S8  (ht.agree g8)
          have l9 := a9.1
          have s9 : E0.same S8 S9 = true := symEnv_same a9
          have v6_9 := (a9.2 id6 (by omega)).trans v6_8
          have v7_9 := (a9.2 S4.next (by omega)).trans b8
          have g9 : Agree S S9 := g8.trans a9
          try simp (disch := first | omega | assumption) only [E0_G, SY, off, agreeKind, vals, allocV, ldA, rdCells, aggD, Nat.reduceAdd, Nat.reduceLT, Nat.reduceBEq, TY_EvA13, g4_2, g4_15, g4_17, h5a, i6, j6, m6_0, m6_1, e7, k8, b8, k9] at he
          rcases dP ((r133 (j : Int) x4.f x4.l) = 0) with ⟨h10a, h10⟩ | ⟨h10a, h10⟩
          · skip
            have w11 : IntKind.i64.wrap ((j : Int) + 1) = ((j + 1 : Nat) : Int) := by rw [IntWalk.i64_in] <;> omega
            try simp (disch := first | omega | assumption) only [E0_G, SY, off, agreeKind, Nat.reduceAdd, Nat.reduceLT, Nat.reduceBEq, g4_17, h10a, w11] at he
            rw [drop_cons' hx4] at hd4
            have hf := (show _ = (R132_0 l w (l.drop (j + 1)) (j + 1) : Sum (Int × Int) (Unit)) from (if_pos h10).trans (rfl)).symm.trans hd4
            exact .next he (m - 1) (by omega) ⟨(j + 1), by first | omega | (simp; omega) | simp, by first | omega | (simp; omega) | simp, (by simp only [SY, eq_self, Nat.reduceBEq, g4_2] <;> rfl), (by simp only [SY, eq_self, Nat.reduceBEq, g4_15] <;> rfl), (by simp only [SY, eq_self, Nat.reduceBEq, g4_16] <;> rfl), (by simp only [SY, eq_self, Nat.reduceBEq, g4_17] <;> rfl), g9, by omega, hf⟩
          · skip
            try simp (disch := first | omega | assumption) only [E0_G, SY, off, agreeKind, Nat.reduceAdd, Nat.reduceLT, Nat.reduceBEq, h10a] at he
            rw [drop_cons' hx4] at hd4
            have hf := (show _ = (.inl ((r133 (j : Int) x4.f x4.l), (j : Int)) : Sum (Int × Int) (Unit)) from (if_neg h10).trans (rfl)).symm.trans hd4
            exact .ret he (.inr ⟨rfl, ⟨(r133 (j : Int) x4.f x4.l), (j : Int), (by simp only [SY, eq_self, Nat.reduceBEq] <;> rfl), (by simp only [SY, eq_self, Nat.reduceBEq] <;> rfl), g9, hf.symm⟩⟩)
        · skip
          try simp (disch := first | omega | assumption) only [SY, h5a] at he
          rw [List.drop_eq_nil_of_le (show l.length ≤ j by omega)] at hd4
          have hf := (show _ = (.inr () : Sum (Int × Int) (Unit)) from rfl).symm.trans hd4
          exact .exit he (.inl ⟨rfl, ⟨j, ga4, by omega, by first | omega | assumption | simp, hf.symm⟩⟩))
    rcases hQ4 with ⟨rfl, hQ4⟩ | ⟨rfl, hQ4⟩
    · skip
      obtain ⟨j, ge4, gm4, hj4_0, hR4⟩ := hQ4
      try simp (disch := first | omega | assumption) only [E0_G, SY, off, agreeKind, eq_self, if_true, Nat.reduceAdd, Nat.reduceLT, Nat.reduceBEq] at hz
      have hr : r132 l w = (0, -1) := (if_neg h2).trans ((onSum_inr hR4).trans (rfl))
      exact fin hz (by rw [hr]) ge4
    · skip
      obtain ⟨r6, r7, ge4_6, ge4_7, ge4, hR4⟩ := hQ4
      try simp (disch := first | omega | assumption) only [SY, ge4_6, ge4_7] at hz
      have hr : r132 l w = (r6, r7) := (if_neg h2).trans ((onSum_inl hR4).trans (rfl))
      exact fin hz (by rw [hr]) ge4

def r91 (l : List Ar) : Int := (r132 (l : List Ar) 200).1
set_option maxHeartbeats 2000000 in
theorem c91 (l : List Ar) (hn : l.length ≤ 1000)  (S : AS) (v_l : Value) (hv_l : Lst S v_l l) (ht : Tab S) :
    ∃ S', (evL Tryz.prog E0).call 60 #[v_l] S = some (.int .i64 (r91 l), S') ∧ Agree S S' := by
  generalize hz : (evL Tryz.prog E0).call 60 _ _ = z
  rw [L_call, evCall_said rfl Tryz.func60 rfl (by decide) Tryz.ntmps60 Tryz.results60] at hz
  obtain ⟨S1, k1, a1⟩ := c132 (l : List Ar) 200 (by first | omega | (simp; omega) | (simp; done) | assumption) S (v_l) (hv_l) ht
  have l1 := a1.1
  have s1 : E0.same S S1 = true := symEnv_same a1
  have g1 : Agree S S1 := a1
  try simp (disch := first | omega | assumption) only [E0_G, SY, setArgs, off, agreeKind, vals, aExtract, Nat.reduceAdd, Nat.reduceSub, Nat.reduceLT, Nat.reduceBEq, k1] at hz
  have hr : r91 l = (r132 (l : List Ar) 200).1 := rfl
  exact fin hz (by rw [hr]) g1

end Great
end Go.Proofs
