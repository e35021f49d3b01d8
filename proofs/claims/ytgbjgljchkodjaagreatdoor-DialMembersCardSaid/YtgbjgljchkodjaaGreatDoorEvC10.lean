/-
  The great seat of stage 1: Grow, Size and Covers of all lists that few admits.
-/
import Derived.Test.YtgbjgljchkodjaaGreatDoorEvC9
set_option linter.unusedSimpArgs false
set_option linter.unusedVariables false
namespace Go.Proofs
namespace Great
open Go Go.RowKit Go.Aev
set_option maxRecDepth 100000
/-- What is known of the types. -/
theorem TY_EvC10 : type_of% (And.intro (And.intro (And.intro (And.intro (And.intro (And.intro Tryz.underlying3 tz3) (And.intro tt3 (And.intro t0_3 Tryz.underlying22))) (And.intro (And.intro tz22 (And.intro tt22 t0_22)) (And.intro Tryz.underlying56 (And.intro tz43 tt43)))) (And.intro (And.intro (And.intro t0_43 Tryz.underlying59) (And.intro tz44 (And.intro tt44 t0_44))) (And.intro (And.intro Tryz.underlying60 (And.intro tz45 tt45)) (And.intro t0_45 (And.intro Tryz.underlying62 tz51))))) (And.intro (And.intro (And.intro (And.intro tt51 t0_51) (And.intro Tryz.underlying63 (And.intro tz52 tt52))) (And.intro (And.intro t0_52 (And.intro Tryz.underlying43 tz55)) (And.intro tt55 (And.intro t0_55 Tryz.underlying44)))) (And.intro (And.intro (And.intro tz56 tt56) (And.intro t0_56 (And.intro Tryz.underlying45 tz57))) (And.intro (And.intro tt57 (And.intro t0_57 Tryz.underlying46)) (And.intro tz58 (And.intro tt58 t0_58)))))) (And.intro (And.intro (And.intro (And.intro (And.intro Tryz.underlying66 tz77) (And.intro tt77 (And.intro t0_77 Tryz.underlying73))) (And.intro (And.intro tz80 (And.intro tt80 t0_80)) (And.intro Tryz.underlying82 (And.intro tz90 tt90)))) (And.intro (And.intro (And.intro t0_90 Tryz.underlying89) (And.intro tz110 (And.intro tt110 t0_110))) (And.intro (And.intro Tryz.underlying94 (And.intro tz115 tt115)) (And.intro t0_115 (And.intro Tryz.underlying95 tz116))))) (And.intro (And.intro (And.intro (And.intro tt116 t0_116) (And.intro Tryz.underlying76 (And.intro tz123 tt123))) (And.intro (And.intro t0_123 (And.intro Tryz.underlying136 tz177)) (And.intro tt177 (And.intro t0_177 Tryz.underlying137)))) (And.intro (And.intro (And.intro tz178 tt178) (And.intro t0_178 (And.intro Tryz.underlying141 tz182))) (And.intro (And.intro tt182 (And.intro t0_182 Tryz.underlying142)) (And.intro tz183 (And.intro tt183 t0_183))))))) := (And.intro (And.intro (And.intro (And.intro (And.intro (And.intro Tryz.underlying3 tz3) (And.intro tt3 (And.intro t0_3 Tryz.underlying22))) (And.intro (And.intro tz22 (And.intro tt22 t0_22)) (And.intro Tryz.underlying56 (And.intro tz43 tt43)))) (And.intro (And.intro (And.intro t0_43 Tryz.underlying59) (And.intro tz44 (And.intro tt44 t0_44))) (And.intro (And.intro Tryz.underlying60 (And.intro tz45 tt45)) (And.intro t0_45 (And.intro Tryz.underlying62 tz51))))) (And.intro (And.intro (And.intro (And.intro tt51 t0_51) (And.intro Tryz.underlying63 (And.intro tz52 tt52))) (And.intro (And.intro t0_52 (And.intro Tryz.underlying43 tz55)) (And.intro tt55 (And.intro t0_55 Tryz.underlying44)))) (And.intro (And.intro (And.intro tz56 tt56) (And.intro t0_56 (And.intro Tryz.underlying45 tz57))) (And.intro (And.intro tt57 (And.intro t0_57 Tryz.underlying46)) (And.intro tz58 (And.intro tt58 t0_58)))))) (And.intro (And.intro (And.intro (And.intro (And.intro Tryz.underlying66 tz77) (And.intro tt77 (And.intro t0_77 Tryz.underlying73))) (And.intro (And.intro tz80 (And.intro tt80 t0_80)) (And.intro Tryz.underlying82 (And.intro tz90 tt90)))) (And.intro (And.intro (And.intro t0_90 Tryz.underlying89) (And.intro tz110 (And.intro tt110 t0_110))) (And.intro (And.intro Tryz.underlying94 (And.intro tz115 tt115)) (And.intro t0_115 (And.intro Tryz.underlying95 tz116))))) (And.intro (And.intro (And.intro (And.intro tt116 t0_116) (And.intro Tryz.underlying76 (And.intro tz123 tt123))) (And.intro (And.intro t0_123 (And.intro Tryz.underlying136 tz177)) (And.intro tt177 (And.intro t0_177 Tryz.underlying137)))) (And.intro (And.intro (And.intro tz178 tt178) (And.intro t0_178 (And.intro Tryz.underlying141 tz182))) (And.intro (And.intro tt182 (And.intro t0_182 Tryz.underlying142)) (And.intro tz183 (And.intro tt183 t0_183)))))))

section
variable (hs : SortOk 1000) (a b : List Ar) (ha : r14 a = true) (hb : r14 b = true)
    (S : AS) (v_a : Value) (hv_a : Lst S v_a a) (v_b : Value) (hv_b : Lst S v_b b) (ht : Tab S)
include hs ha hb hv_a hv_b ht
/-- Whether a has what b has, if both are lists. -/
def cvr (a b : List Ar) : Bool := if r21 a b = 0 then decide (((r26 b a).length : Int) = 0) else false
set_option maxHeartbeats 2000000 in
theorem c29f : ∃ S', (evL Tryz.prog E0).call 25 #[v_a, v_b] S = some (.tuple #[.bool (cvr a b), .int .i64 (r21 a b)], S') ∧ Agree S S' := by
  have la := few_len ha
  have lb := few_len hb
  unfold cvr
  rcases dP (r21 a b = 0) with ⟨hea, he⟩ | ⟨hea, he⟩
  · obtain ⟨h1, h2⟩ := both_ok he
    have f1 := few_ok ha h1
    have f2 := few_ok hb h2
    have p1 := r178_len a
    have p2 := r178_len b
    obtain ⟨S', k, ag⟩ := c29 hs (Nat.le_refl _) a b (r20_ok h1).1 (r20_ok h2).1 (by omega) (by omega) (by omega) S v_a hv_a v_b hv_b ht
    rw [if_pos he, he]
    exact ⟨S', k, ag⟩
  rw [if_neg he]
  generalize hz : (evL Tryz.prog E0).call 25 _ _ = z
  rw [L_call, evCall_said rfl Tryz.func25 rfl (by decide) Tryz.ntmps25 Tryz.results25] at hz
  obtain ⟨pa, na, ca, rfl⟩ := lst_slice hv_a
  obtain ⟨pb, nb, cb, rfl⟩ := lst_slice hv_b
  obtain ⟨S', k, ag⟩ := c82e a b (by omega) (by omega) he 62 S ht pa pb na ca nb cb hv_a hv_b
  have y1 : aBuild Tryz.prog 84 [(0, .slice pa na ca), (1, .slice pb nb cb)] = some (.agg #[.slice pa na ca, .slice pb nb cb]) := by kernel_rfl
  simp (disch := first | omega | assumption) only [E0_G, SY, setArgs, off, agreeKind, partVals, vals, aExtract, Nat.reduceAdd, Nat.reduceSub, Nat.reduceLT, Nat.reduceBEq, y1, k, hea] at hz
  exact ⟨S', hz.symm, ag⟩
end

def R27_0 (l : List Ar) (w : Int)  : List Ar → List Ar → (List Ar)
  | [], o => o
  | x6 :: l', o => R27_0 l w l' (o ++ ([(⟨((r92 x6.f x6.l w)).1, ((r92 x6.f x6.l w)).2⟩ : Ar)]))
theorem R27_len (l : List Ar) (w : Int) : ∀ (m o : List Ar), (R27_0 l w m o).length = m.length + o.length := by
  intro m
  induction m with
  | nil => intro o; simp [R27_0]
  | cons x m ih => intro o; rw [R27_0, ih]; simp; omega
theorem few_wide {l : List Ar} (h : r14 l = true) (h2 : r20 l = 0) (w : Int) (o : List Ar) (ho : o = R27_0 l w l []) : r14 o = true := by
  have := few_ok h h2
  have := R27_len l w l []
  subst ho
  unfold r14
  exact if_pos (by simp at *; omega)
def r27 (l : List Ar) (w : Int) : List Ar × Int := (if (r91 (l : List Ar)) = 0 then (if w < 0 then ([], 1) else (if 43200 < w then ([], 1) else ((nrm (R27_0 l w l ([]))), (r20 (R27_0 l w l ([])))))) else ([], (r91 (l : List Ar))))
set_option maxHeartbeats 4000000 in
theorem c27 (l : List Ar) (w : Int) (hs : SortOk 1000) (hf : r14 l = true)  (S : AS) (v_l : Value) (hv_l : Lst S v_l l) (ht : Tab S) :
    ∃ v' S', (evL Tryz.prog E0).call 23 #[v_l, .int .i64 w] S = some (.tuple #[v', .int .i64 (r27 l w).2], S') ∧ Agree S S' ∧ Fre S.next S' v' (r27 l w).1 := by
  have hq := few_len hf
  generalize hz : (evL Tryz.prog E0).call 23 _ _ = z
  rw [L_call, evCall_said rfl Tryz.func23 rfl (by decide) Tryz.ntmps23 Tryz.results23] at hz
  obtain ⟨S1, k1, a1⟩ := c91 (l : List Ar) (by have := few_len (show r14 l = true by assumption); omega) S (v_l) (hv_l) ht
  have l1 := a1.1
  have s1 : E0.same S S1 = true := symEnv_same a1
  have g1 : Agree S S1 := a1
  try simp (disch := first | omega | assumption) only [E0_G, SY, setArgs, off, agreeKind, vals, Nat.reduceAdd, Nat.reduceSub, Nat.reduceLT, Nat.reduceBEq, k1] at hz
  rcases dP ((r91 (l : List Ar)) = 0) with ⟨h2a, h2⟩ | ⟨h2a, h2⟩
  · skip
    try simp (disch := first | omega | assumption) only [E0_G, SY, off, agreeKind, Nat.reduceAdd, Nat.reduceLT, Nat.reduceBEq, h2a] at hz
    rcases dP (w < 0) with ⟨h3a, h3⟩ | ⟨h3a, h3⟩
    · skip
      try simp (disch := first | omega | assumption) only [E0_G, SY, off, agreeKind, Nat.reduceAdd, Nat.reduceLT, Nat.reduceBEq, h3a] at hz
      have hr : r27 l w = ([], 1) := (if_pos h2).trans ((if_pos h3).trans (rfl))
      exact ⟨.slice none 0 0, S1, by first | (rw [hr]; exact hz.symm) | exact hz.symm, g1, by rw [hr]; exact fre_nil _ _⟩
    · skip
      try simp (disch := first | omega | assumption) only [E0_G, SY, off, agreeKind, Nat.reduceAdd, Nat.reduceLT, Nat.reduceBEq, h3a] at hz
      rcases dP (43200 < w) with ⟨h4a, h4⟩ | ⟨h4a, h4⟩
      · skip
        try simp (disch := first | omega | assumption) only [E0_G, SY, off, agreeKind, Nat.reduceAdd, Nat.reduceLT, Nat.reduceBEq, h4a] at hz
        have hr : r27 l w = ([], 1) := (if_pos h2).trans ((if_neg h3).trans ((if_pos h4).trans (rfl)))
        exact ⟨.slice none 0 0, S1, by first | (rw [hr]; exact hz.symm) | exact hz.symm, g1, by rw [hr]; exact fre_nil _ _⟩
      · skip
        have w5 := (hv_l.agree g1).len (P := Tryz.prog) (t := 22) Tryz.underlying22
        try simp (disch := first | omega | assumption) only [E0_G, SY, off, agreeKind, Nat.reduceAdd, Nat.reduceLT, Nat.reduceBEq, h4a, w5] at hz
        generalize hL6 : Rec.loop _ _ _ _ = L6 at hz
        obtain ⟨x6, t6, S6e, rfl, hQ6⟩ := loop_met hL6 (fun m t S' => ∃ (i : Nat) (v_o : Value) (o : List Ar), m + i = l.length ∧ o.length ≤ i ∧ i ≤ l.length ∧ t.get 1 = some (.int .i64 w) ∧ t.get 7 = some (v_o) ∧ t.get 21 = some (v_l) ∧ t.get 22 = some (.int .i64 (l.length : Int)) ∧ t.get 23 = some (.int .i64 (i : Int)) ∧ Agree S S' ∧ S1.next ≤ S'.next ∧ Own 44 S1.next S' v_o o ∧ R27_0 l w (l.drop i) o = R27_0 l w l ([]))
          (fun x t S' => x = .exit 0 ∧ ∃ (i : Nat) (v_o : Value) (o : List Ar), t.get 7 = some (v_o) ∧ Agree S S' ∧ S1.next ≤ S'.next ∧ Own 44 S1.next S' v_o o ∧ o.length ≤ i ∧ i ≤ l.length ∧ R27_0 l w l ([]) = o) (l.length - 0) ⟨0, .slice none 0 0, [], by first | rfl | omega | (simp; omega) | simp, by first | rfl | omega | (simp; omega) | simp, by first | rfl | omega | (simp; omega) | simp, by simp only [SY, eq_self, Nat.reduceBEq] <;> rfl, by simp only [SY, eq_self, Nat.reduceBEq] <;> rfl, by simp only [SY, eq_self, Nat.reduceBEq] <;> rfl, by simp only [SY, eq_self, Nat.reduceBEq] <;> rfl, by simp only [SY, Nat.reduceBEq] <;> rfl, g1, Nat.le_refl _, Own.nil _ _ _, rfl⟩ (by
            rintro m t S6 ⟨i, v_o, o, hi6_0, hi6_1, hi6_2, g6_1, g6_7, g6_21, g6_22, g6_23, ga6, gn6, ow_o, hd6⟩
            refine .run fun z he => ?_
            try simp (disch := first | omega | assumption) only [E0_G, SY, off, agreeKind, Nat.reduceLT, Nat.reduceBEq, g6_22, g6_23] at he
            rcases dP ((i : Int) < (l.length : Int)) with ⟨h7a, h7⟩ | ⟨h7a, h7⟩
            · skip
              have hx6 : l[i]? = some (l[i]'(by first | omega | (simp; omega) | exact len_pos (by assumption) (A4_vl ..))) := List.getElem?_eq_getElem _
              generalize l[i]'_ = x6 at hx6
              obtain ⟨id8, of8, cc8, ty8, wr8, ex8, i8, j8, l8, q8⟩ := (hv_l).at (P := Tryz.prog) (t := 22) Tryz.underlying22 tz56 hx6
              have jr8 := j8
              have j8 := (ga6.2 id8 l8).trans jr8
              have m8_0 : cc8[of8]? = some (.int .i64 x6.f) := q8 0 (show 0 < 2 by decide)
              have m8_1 : cc8[of8 + 1]? = some (.int .i64 x6.l) := q8 1 (show 1 < 2 by decide)
              obtain ⟨S9, e9, n9, b9, a9⟩ := push_open S6 (.cells [.int .i64 0, .int .i64 0] 44 0 true true)
              have v8_9 := (a9.2 id8 (by omega)).trans j8
              have ow_10 := ow_o.agree a9
              have g9 : Agree S S9 := ga6.trans a9
              have s9 : E0.same S6 S9 = true := symEnv_same a9
              have ne11 : blkOf (v_o) ≠ some S6.next := ow_o.new (Nat.le_refl _)
              obtain ⟨S12, k12, n12, b12, q12⟩ := st_at (o := 0) (c' := [.int .i64 x6.f, .int .i64 x6.l]) (v := .agg #[.int .i64 x6.f, .int .i64 x6.l]) tz56 b9 rfl rfl (show 0 + 2 ≤ 2 by decide) rfl
              have v8_12 := (q12 id8 (by omega)).trans v8_9
              have ow_13 := ow_10.frame (by omega) (fun id hid hb => q12 id (fun e => (show blkOf (v_o) ≠ some S6.next from by first | exact ow_10.ne (by omega) | exact ow_10.new (by omega) | assumption) (e ▸ hb)))
              have g12 : Agree S S12 := ⟨by have := (g9).1; omega, fun id hid => (q12 id (by have := (g9).1; omega)).trans ((g9).2 id hid)⟩
              obtain ⟨S14, k14, a14⟩ := c92 x6.f x6.l w  S12  (ht.agree g12)
              have l14 := a14.1
              have s14 : E0.same S12 S14 = true := symEnv_same a14
              have v8_14 := (a14.2 id8 (by omega)).trans v8_12
              have v9_14 := (a14.2 S6.next (by omega)).trans b12
              have ow_15 := ow_13.agree a14
              have g14 : Agree S S14 := g12.trans a14
              have y16 : aBuildSlice Tryz.prog 22 1 [(0, .agg #[.int .i64 (((r92 x6.f x6.l w)).1), .int .i64 (((r92 x6.f x6.l w)).2)])] S14 = some (.slice (some ⟨S14.next, 0, none⟩) 1 1, S14.push (.cells [.int .i64 (((r92 x6.f x6.l w)).1), .int .i64 (((r92 x6.f x6.l w)).2)] 44 2 true true)) := by kernel_rfl
              obtain ⟨S17, e17, n17, b17, a17⟩ := push_open S14 (.cells [.int .i64 (((r92 x6.f x6.l w)).1), .int .i64 (((r92 x6.f x6.l w)).2)] 44 2 true true)
              have v8_17 := (a17.2 id8 (by omega)).trans v8_14
              have v9_17 := (a17.2 S6.next (by omega)).trans v9_14
              have ow_18 := ow_15.agree a17
              have g17 : Agree S S17 := g14.trans a17
              have s17 : E0.same S14 S17 = true := symEnv_same a17
              have ne19 : blkOf (v_o) ≠ some S14.next := ow_15.new (Nat.le_refl _)
              have o20 : Own 44 S14.next S17 (.slice (some ⟨S14.next, 0, none⟩) 1 1) ([(⟨((r92 x6.f x6.l w)).1, ((r92 x6.f x6.l w)).2⟩ : Ar)] : List Ar) := .inr ⟨_, true, rfl, Nat.le_refl _, by omega, b17⟩
              obtain ⟨u21, S21, k21, o21, n21, f21, d21⟩ := own_append (P := Tryz.prog) (t := 22) (tx := 22) (n := 1) (v := v_o) ow_18 (o20.rows) (by omega) (by first | omega | (simp; omega) | simp) (by first | omega | (simp; omega) | simp) Tryz.underlying22 Tryz.underlying22 ti56 tv56 rfl tz56
              have v9_21 := (f21 S6.next (by omega) (by first | (simp [blkOf]; done) | exact ow_18.ne (by omega) | exact ow_18.new (by omega) | assumption)).trans v9_17
              have g21 : Agree S S21 := ⟨Nat.le_trans (g17).1 n21, fun id hid => (f21 id (by have := (g17).1; omega) (by first | (simp [blkOf]; done) | exact ow_18.ne (by omega) | assumption)).trans ((g17).2 id hid)⟩
              have ne22 : blkOf u21 ≠ some S6.next := by first | exact o21.ne (by omega) | exact o21.new (by omega) | exact d21 _ (by omega) (by first | (simp [blkOf]; done) | exact ow_18.ne (by omega) | exact ow_18.new (by omega) | assumption)
              have w23 : IntKind.i64.wrap ((i : Int) + 1) = ((i + 1 : Nat) : Int) := by rw [IntWalk.i64_in] <;> omega
              try simp (disch := first | omega | assumption) only [E0_G, SY, off, agreeKind, partVals, vals, allocV, ldA, rdCells, aggD, Nat.reduceAdd, Nat.reduceLT, Nat.reduceBEq, TY_EvC10, g6_1, g6_7, g6_21, g6_23, h7a, i8, j8, m8_0, m8_1, e9, k12, b12, k14, y16, e17, k21, w23] at he
              rw [drop_cons' hx6] at hd6
              have hf := (show _ = (R27_0 l w (l.drop (i + 1)) (o ++ ([(⟨((r92 x6.f x6.l w)).1, ((r92 x6.f x6.l w)).2⟩ : Ar)])) : (List Ar)) from rfl).symm.trans hd6
              exact .next he (m - 1) (by omega) ⟨(i + 1), u21, o ++ ([(⟨((r92 x6.f x6.l w)).1, ((r92 x6.f x6.l w)).2⟩ : Ar)]), by first | omega | (simp; omega) | simp, by first | omega | (simp; omega) | simp, by first | omega | (simp; omega) | simp, (by simp only [SY, eq_self, Nat.reduceBEq, g6_1] <;> rfl), (by simp only [SY, eq_self, Nat.reduceBEq, g6_7] <;> rfl), (by simp only [SY, eq_self, Nat.reduceBEq, g6_21] <;> rfl), (by simp only [SY, eq_self, Nat.reduceBEq, g6_22] <;> rfl), (by simp only [SY, eq_self, Nat.reduceBEq, g6_23] <;> rfl), g21, by omega, (o21.low (by omega)), hf⟩
            · skip
              try simp (disch := first | omega | assumption) only [SY, h7a] at he
              rw [List.drop_eq_nil_of_le (show l.length ≤ i by omega)] at hd6
              have hf := (show _ = (o : (List Ar)) from rfl).symm.trans hd6
              exact .exit he ⟨rfl, ⟨i, v_o, o, (by simp only [SY, eq_self, Nat.reduceBEq, g6_7] <;> rfl), ga6, by omega, (ow_o.low (by omega)), by first | omega | assumption | simp, by first | omega | assumption | simp, hf.symm⟩⟩)
        obtain ⟨rfl, i, v_o, o, ge6_7, ge6, gm6, oe_o6, hj6_0, hj6_1, hR6⟩ := hQ6
        obtain rfl : o = R27_0 l w l ([]) := hR6.symm
        obtain ⟨u25, S25, k25, a25, oo25⟩ := c16f hs (R27_0 l w l ([])) (few_wide (by assumption) (by rw [← r91_20]; assumption) _ _ (by first | rfl | assumption)) S6e (v_o) (oe_o6.rows) (ht.agree ge6)
        have l25 := a25.1
        have s25 : E0.same S6e S25 = true := symEnv_same a25
        have oe_26 := oe_o6.agree a25
        have g25 : Agree S S25 := ge6.trans a25
        try simp (disch := first | omega | assumption) only [E0_G, SY, off, agreeKind, vals, aExtract, eq_self, if_true, Nat.reduceAdd, Nat.reduceLT, Nat.reduceBEq, ge6_7, k25] at hz
        have hr : r27 l w = ((nrm (R27_0 l w l ([]))), (r20 (R27_0 l w l ([])))) := (if_pos h2).trans ((if_neg h3).trans ((if_neg h4).trans (rfl)))
        exact ⟨u25, S25, by first | (rw [hr]; exact hz.symm) | exact hz.symm, g25, by rw [hr]; exact oo25.low (by omega)⟩
  · skip
    try simp (disch := first | omega | assumption) only [E0_G, SY, off, agreeKind, Nat.reduceAdd, Nat.reduceLT, Nat.reduceBEq, h2a] at hz
    have hr : r27 l w = ([], (r91 (l : List Ar))) := (if_neg h2).trans (rfl)
    exact ⟨.slice none 0 0, S1, by first | (rw [hr]; exact hz.symm) | exact hz.symm, g1, by rw [hr]; exact fre_nil _ _⟩

end Great
end Go.Proofs
