/-
  BQQ: EvQ8, EvQ9.
-/
import Derived.Test.YtgbjgljchkodjaaDoorBR
section
/-
  The great seat of stage 1: cuts in place: patterns are broken.
-/
set_option linter.unusedSimpArgs false
set_option linter.unusedVariables false
namespace Go.Proofs
namespace Great
open Go Go.RowKit Go.Aev
set_option maxRecDepth 100000
set_option maxHeartbeats 8000000 in
theorem c196 (l : List Ct) (hn : l.length ≤ 1000) (lo : Nat) (S : AS) (v : Value) (ho : Own 111 lo S v l) (id : Nat) (hb : blkOf v = some id) (a b : Nat) (hab : a + 13 ≤ b) (hbl : b ≤ l.length) :
    ∃ S' l', (evL Tryd.prog E0).call 86 #[v, .int .i64 (a : Int), .int .i64 (b : Int), .func (.func 71) #[] #[]] S = some (.tuple #[], S') ∧ Keep v S S' ∧ Own 111 lo S' v l' ∧ Sw a b l l' := by
  generalize hz : (evL Tryd.prog E0).call 86 _ _ = z
  rw [L_call, evCall_said rfl Tryd.func86 rfl (by decide) Tryd.ntmps86 Tryd.results86] at hz
  obtain ⟨S1, e1, n1, b1, a1⟩ := push_open S (.cells [.int .u64 0] 144 0 true true)
  have hnb : blkOf v ≠ some S.next := ho.new (Nat.le_refl _)
  have np : id ≠ S.next := fun e => hnb (by rw [hb, e])
  obtain ⟨S2, e2, n2, b2, q2⟩ := st_at (P := Tryd.prog) (o := 0) (c' := [.int .u64 ((b - a : Nat) : Int)]) (v := .int .u64 ((b - a : Nat) : Int)) tz237 b1 rfl rfl (show 0 + 1 ≤ 1 by decide) rfl
  have o2 : Own 111 lo S2 v l := (ho.agree a1).frame (by omega) fun id' hid hb' => q2 id' (fun e => hnb (by rw [hb', e]))
  have kp2 : Keep v S S2 := ⟨by omega, fun q hq _ => (q2 q (by omega)).trans (a1.2 q hq)⟩
  obtain ⟨md, k3, md1, md2⟩ := c215 (b - a) (by omega) (by omega) S2
  have w0 : IntKind.i64.wrap ((b : Int) - (a : Int)) = ((b - a : Nat) : Int) := by rw [IntWalk.i64_in] <;> omega
  have w8 : decide ((8 : Int) ≤ ((b - a : Nat) : Int)) = true := decide_eq_true (by omega)
  have wu : IntKind.u64.wrap ((b - a : Nat) : Int) = ((b - a : Nat) : Int) := IntWalk.u64_in _ (by omega)
  have w1 : IntKind.i64.wrap (Int.tdiv ((b - a : Nat) : Int) 4) = (((b - a) / 4 : Nat) : Int) := by rw [show Int.tdiv ((b - a : Nat) : Int) 4 = (((b - a) / 4 : Nat) : Int) from rfl, IntWalk.i64_in] <;> omega
  have w2 : IntKind.i64.wrap ((((b - a) / 4 : Nat) : Int) * 2) = (((b - a) / 4 * 2 : Nat) : Int) := by rw [IntWalk.i64_in] <;> omega
  have w3 : IntKind.i64.wrap ((a : Int) + (((b - a) / 4 * 2 : Nat) : Int)) = ((a + (b - a) / 4 * 2 : Nat) : Int) := by rw [IntWalk.i64_in] <;> omega
  have w4 : IntKind.i64.wrap (((a + (b - a) / 4 * 2 : Nat) : Int) - 1) = ((a + (b - a) / 4 * 2 - 1 : Nat) : Int) := by rw [IntWalk.i64_in] <;> omega
  have w5 : IntKind.i64.wrap (((a + (b - a) / 4 * 2 : Nat) : Int) + 1) = ((a + (b - a) / 4 * 2 + 1 : Nat) : Int) := by rw [IntWalk.i64_in] <;> omega
  simp (disch := first | omega | assumption) only [E0_G, SY, setArgs, off, agreeKind, vals, allocV, Nat.reduceAdd, Nat.reduceSub, Nat.reduceLT, Nat.reduceBEq, Int.reduceEq, TY_EvA14, store_refl E0_same, w0, w8, wu, w1, w2, w3, w4, e1, e2, tt237, t0_237, Tryd.underlying144, Tryd.underlying123, Tryd.underlying125, k3] at hz
  generalize hL1 : Rec.loop _ _ _ _ = L1 at hz
  obtain ⟨x1, t1, S1e, rfl, hQ1⟩ := loop_met hL1 (fun m t S' => ∃ (i : Nat) (o : List Ct) (w : Int), m + i = a + (b - a) / 4 * 2 + 2 ∧ a + (b - a) / 4 * 2 - 1 ≤ i ∧ Sw a b l o ∧ S'.heap.get S.next = some (.cells [.int .u64 w] 144 0 true true) ∧ S.next < S'.next ∧ t.get 0 = some (v) ∧ t.get 1 = some (.int .i64 (a : Int)) ∧ t.get 8 = some (.int .i64 ((b - a : Nat) : Int)) ∧ t.get 9 = some (.pointer (some ⟨S.next, 0, none⟩)) ∧ t.get 10 = some (.int .u64 (md : Int)) ∧ t.get 11 = some (.int .i64 (i : Int)) ∧ Keep v S S' ∧ Own 111 lo S' v o)
    (fun x t S' => x = .exit 0 ∧ ∃ (o : List Ct), Sw a b l o ∧ Keep v S S' ∧ Own 111 lo S' v o) 3
    ⟨a + (b - a) / 4 * 2 - 1, l, _, by omega, by omega, Sw.refl, b2, by omega, by simp only [SY, eq_self, Nat.reduceBEq] <;> rfl, by simp only [SY, eq_self, Nat.reduceBEq] <;> rfl, by simp only [SY, eq_self, Nat.reduceBEq] <;> rfl, by simp only [SY, eq_self, Nat.reduceBEq] <;> rfl, by simp only [SY, eq_self, Nat.reduceBEq] <;> rfl, by simp only [SY, eq_self, Nat.reduceBEq] <;> rfl, kp2, o2⟩ (by
      rintro m t S3 ⟨i, o, w, hm, hi, hs, hbx, hnx, g0, g1, g8, g9, g10, g11, kp, ow⟩
      refine .run fun z he => ?_
      have hlo := hs.len
      simp (disch := first | omega | assumption) only [E0_G, SY, off, agreeKind, Nat.reduceAdd, Nat.reduceLT, Nat.reduceBEq, Int.reduceEq, store_refl E0_same, g1, g8, g11, w1, w2, w3, w5] at he
      rcases dP ((i : Int) ≤ ((a + (b - a) / 4 * 2 + 1 : Nat) : Int)) with ⟨h3a, h3⟩ | ⟨h3a, h3⟩
      · skip
        obtain ⟨S4, x, w', k4, kc4, b4⟩ := c216 S3 S.next w hbx hnx
        have l4 := kc4.1
        have o4 := kc4.own ow hnb
        have u1 : IntKind.u64.wrap ((md : Int) - 1) = ((md - 1 : Nat) : Int) := by rw [IntWalk.u64_in] <;> omega
        obtain ⟨q, u2, u3⟩ := u64_and x ((md - 1 : Nat) : Int) (by omega)
        have u4 : IntKind.i64.wrap (q : Int) = (q : Int) := by rw [IntWalk.i64_in]; omega
        have u5 : IntKind.i64.wrap ((i : Int) + 1) = ((i + 1 : Nat) : Int) := by rw [IntWalk.i64_in] <;> omega
        simp (disch := first | omega | assumption) only [E0_G, SY, off, agreeKind, vals, Nat.reduceAdd, Nat.reduceLT, Nat.reduceBEq, TY_EvA14, store_refl E0_same, g8, g9, g10, h3a, Tryd.underlying123, Tryd.underlying125, k4, u1, u2, u4] at he
        have kp4 : Keep v S S4 := ⟨by have := kp.1; omega, fun q' hq hn => (kc4.2 q' (by omega) (by omega)).trans (kp.2 q' hq hn)⟩
        rcases dP (((b - a : Nat) : Int) ≤ (q : Int)) with ⟨h5a, h5⟩ | ⟨h5a, h5⟩
        · skip
          have u7 : IntKind.i64.wrap ((q : Int) - ((b - a : Nat) : Int)) = ((q - (b - a) : Nat) : Int) := by rw [IntWalk.i64_in] <;> omega
          simp (disch := first | omega | assumption) only [E0_G, SY, off, agreeKind, Nat.reduceAdd, Nat.reduceLT, Nat.reduceBEq, store_refl E0_same, g8, h5a, u7] at he
          have u6 : IntKind.i64.wrap ((a : Int) + (((q - (b - a) : Nat) : Int) : Int)) = ((a + (q - (b - a)) : Nat) : Int) := by rw [IntWalk.i64_in] <;> omega
          rw [code_draws _ _ _ (by kernel_rfl)] at he
          generalize hnd1 : needy _ = nd1 at he
          obtain ⟨loD, ltD, ccD, exD, hxD, hcD⟩ := own_cut o4 hb
          obtain ⟨ofDj, hoDj, iaDj, pDj0, pDj1, pDj2⟩ := hcD ((a + (q - (b - a)))) (by omega)
          obtain ⟨ofDi, hoDi, iaDi, pDi0, pDi1, pDi2⟩ := hcD (i) (by omega)
          obtain ⟨SxD, SyD, exD, eyD, owD, kpD, nxD⟩ := own_swp o4 hb (i := i) (j := (a + (q - (b - a)))) (by omega) (by omega) hoDi hoDj
          simp (disch := first | omega | assumption) only [E0_G, SY, off, agreeKind, ldA, rdCells, aggD, Nat.reduceAdd, Nat.reduceLT, Nat.reduceBEq, TY_EvA14, store_refl E0_same, g0, g1, g11, u6, u5, hxD, iaDj, pDj0, pDj1, pDj2, iaDi, pDi0, pDi1, pDi2, exD, eyD] at he
          exact .next he (m - 1) (by omega) ⟨i + 1, _, w', by omega, by omega, Sw.step i (a + (q - (b - a))) hs (by omega) (by omega) (by omega) (by omega) hbl, (kpD.2 S.next (by omega) hnb).trans b4, by omega, by simp only [SY, eq_self, Nat.reduceBEq, g0] <;> rfl, by simp only [SY, eq_self, Nat.reduceBEq, g1] <;> rfl, by simp only [SY, eq_self, Nat.reduceBEq, g8] <;> rfl, by simp only [SY, eq_self, Nat.reduceBEq, g9] <;> rfl, by simp only [SY, eq_self, Nat.reduceBEq, g10] <;> rfl, by simp only [SY, eq_self, Nat.reduceBEq, g11] <;> rfl, kp4.trans kpD, owD⟩
        · skip
          simp (disch := first | omega | assumption) only [SY, store_refl E0_same, h5a] at he
          have u6 : IntKind.i64.wrap ((a : Int) + (q : Int)) = ((a + (q) : Nat) : Int) := by rw [IntWalk.i64_in] <;> omega
          rw [code_draws _ _ _ (by kernel_rfl)] at he
          generalize hnd2 : needy _ = nd2 at he
          obtain ⟨loD, ltD, ccD, exD, hxD, hcD⟩ := own_cut o4 hb
          obtain ⟨ofDj, hoDj, iaDj, pDj0, pDj1, pDj2⟩ := hcD ((a + (q))) (by omega)
          obtain ⟨ofDi, hoDi, iaDi, pDi0, pDi1, pDi2⟩ := hcD (i) (by omega)
          obtain ⟨SxD, SyD, exD, eyD, owD, kpD, nxD⟩ := own_swp o4 hb (i := i) (j := (a + (q))) (by omega) (by omega) hoDi hoDj
          simp (disch := first | omega | assumption) only [E0_G, SY, off, agreeKind, ldA, rdCells, aggD, Nat.reduceAdd, Nat.reduceLT, Nat.reduceBEq, TY_EvA14, store_refl E0_same, g0, g1, g11, u6, u5, hxD, iaDj, pDj0, pDj1, pDj2, iaDi, pDi0, pDi1, pDi2, exD, eyD] at he
          exact .next he (m - 1) (by omega) ⟨i + 1, _, w', by omega, by omega, Sw.step i (a + (q)) hs (by omega) (by omega) (by omega) (by omega) hbl, (kpD.2 S.next (by omega) hnb).trans b4, by omega, by simp only [SY, eq_self, Nat.reduceBEq, g0] <;> rfl, by simp only [SY, eq_self, Nat.reduceBEq, g1] <;> rfl, by simp only [SY, eq_self, Nat.reduceBEq, g8] <;> rfl, by simp only [SY, eq_self, Nat.reduceBEq, g9] <;> rfl, by simp only [SY, eq_self, Nat.reduceBEq, g10] <;> rfl, by simp only [SY, eq_self, Nat.reduceBEq, g11] <;> rfl, kp4.trans kpD, owD⟩
      · skip
        simp (disch := first | omega | assumption) only [SY, store_refl E0_same, h3a] at he
        exact .exit he ⟨rfl, o, hs, kp, ow⟩)
  obtain ⟨rfl, o, hs, kp, ow⟩ := hQ1
  simp (disch := first | omega | assumption) only [SY, eq_self, if_true, store_refl E0_same] at hz
  exact ⟨_, o, hz.symm, kp, ow, hs⟩
end Great
end Go.Proofs
end
section
/-
  The great seat of stage 1: cuts in place: what is equal to the pivot.
-/
set_option linter.unusedSimpArgs false
set_option linter.unusedVariables false
namespace Go.Proofs
namespace Great
open Go Go.RowKit Go.Aev
set_option maxRecDepth 100000
theorem le_up {o : List Ct} {a i : Nat} {pv : Int} (h : ∀ u : Nat, a < u → u < i → (lget o u).at_ ≤ pv) (hi : ¬ pv < (lget o i).at_) : ∀ u : Nat, a < u → u < i + 1 → (lget o u).at_ ≤ pv := by
  intro u h1 h2
  by_cases e : u = i
  · subst e; omega
  · exact h u h1 (by omega)
theorem lt_dn {o : List Ct} {j b : Nat} {pv : Int} (h : ∀ u : Nat, j < u → u < b → pv < (lget o u).at_) (hj : pv < (lget o j).at_) : ∀ u : Nat, j - 1 < u → u < b → pv < (lget o u).at_ := by
  intro u h1 h2
  by_cases e : u = j
  · subst e; exact hj
  · exact h u (by omega) h2
theorem swp_head {l : List Ct} {a q : Nat} (ha : a < l.length) (hq : q < l.length) : (lget (swp l a q) a).at_ = (lget l q).at_ := by
  rw [lget_swp _ _ _ _ ha hq]
  split
  · rename_i h; rw [h]
  · rw [if_pos rfl]
set_option maxHeartbeats 8000000 in
theorem c200 (l : List Ct) (hn : l.length ≤ 1000) (lo : Nat) (S : AS) (v : Value) (ho : Own 111 lo S v l) (id : Nat) (hb : blkOf v = some id) (a b q : Nat) (hab : a < b) (hbl : b ≤ l.length) (hq : a ≤ q ∧ q < b) :
    ∃ S' l' x, (evL Tryd.prog E0).call 90 #[v, .int .i64 (a : Int), .int .i64 (b : Int), .int .i64 (q : Int), .func (.func 71) #[] #[]] S = some (.int .i64 ((x : Nat) : Int), S') ∧ Keep v S S' ∧ Own 111 lo S' v l' ∧ Sw a b l l' ∧ (a + 1 ≤ x ∧ x ≤ b) ∧
      (∀ u, a ≤ u → u < x → (lget l' u).at_ ≤ (lget l q).at_) ∧ ∀ u, x ≤ u → u < b → (lget l q).at_ < (lget l' u).at_ := by
  generalize hz : (evL Tryd.prog E0).call 90 _ _ = z
  rw [L_call, evCall_said rfl Tryd.func90 rfl (by decide) Tryd.ntmps90 Tryd.results90] at hz
  have w1 : IntKind.i64.wrap ((a : Int) + 1) = ((a + 1 : Nat) : Int) := by rw [IntWalk.i64_in] <;> omega
  have w2 : IntKind.i64.wrap ((b : Int) - 1) = ((b - 1 : Nat) : Int) := by rw [IntWalk.i64_in] <;> omega
  simp (disch := first | omega | assumption) only [E0_G, SY, setArgs, off, agreeKind, Nat.reduceAdd, Nat.reduceSub, Nat.reduceLT] at hz
  rw [code_draws _ _ _ (by kernel_rfl)] at hz
  generalize hnd1 : needy _ = nd1 at hz
  obtain ⟨loD, ltD, ccD, exD, hxD, hcD⟩ := own_cut ho hb
  obtain ⟨ofDj, hoDj, iaDj, pDj0, pDj1, pDj2⟩ := hcD (q) (by omega)
  obtain ⟨ofDi, hoDi, iaDi, pDi0, pDi1, pDi2⟩ := hcD (a) (by omega)
  obtain ⟨SxD, SyD, exD, eyD, owD, kpD, nxD⟩ := own_swp ho hb (i := a) (j := q) (by omega) (by omega) hoDi hoDj
  simp (disch := first | omega | assumption) only [E0_G, SY, off, agreeKind, ldA, rdCells, aggD, Nat.reduceAdd, Nat.reduceLT, Nat.reduceBEq, TY_EvA14, store_refl E0_same, w1, w2, hxD, iaDj, pDj0, pDj1, pDj2, iaDi, pDi0, pDi1, pDi2, exD, eyD] at hz
  have hpv := swp_head (l := l) (a := a) (q := q) (by omega) (by omega)
  have hl1 : (swp l a q).length = l.length := swp_len _ _ _
  have hs0 : Sw a b l (swp l a q) := Sw.step a q Sw.refl (Nat.le_refl _) hab hq.1 hq.2 hbl
  generalize swp l a q = l1 at *
  generalize (lget l q).at_ = pv at *
  generalize hL1 : Rec.loop _ _ _ _ = L1 at hz
  obtain ⟨x1, t1, S1e, rfl, hQ1⟩ := loop_met hL1 (fun m t S' => ∃ (i j : Nat) (o : List Ct), m + i = j + 2 ∧ a + 1 ≤ i ∧ i ≤ j + 1 ∧ a ≤ j ∧ j < b ∧ Sw (a + 1) b l1 o ∧ (∀ u : Nat, a < u → u < i → (lget o u).at_ ≤ pv) ∧ (∀ u : Nat, j < u → u < b → pv < (lget o u).at_) ∧ t.get 0 = some (v) ∧ t.get 1 = some (.int .i64 (a : Int)) ∧ t.get 4 = some (.func (.func 71) #[] #[]) ∧ t.get 11 = some (.int .i64 (i : Int)) ∧ t.get 12 = some (.int .i64 (j : Int)) ∧ Keep v S S' ∧ Own 111 lo S' v o)
    (fun x t S' => x = .exit 0 ∧ ∃ (i j : Nat) (o : List Ct), a + 1 ≤ i ∧ i ≤ j + 1 ∧ a ≤ j ∧ j < b ∧ i = j + 1 ∧ Sw (a + 1) b l1 o ∧ (∀ u : Nat, a < u → u < i → (lget o u).at_ ≤ pv) ∧ (∀ u : Nat, j < u → u < b → pv < (lget o u).at_) ∧ t.get 11 = some (.int .i64 (i : Int)) ∧ Keep v S S' ∧ Own 111 lo S' v o) (b - 1 + 2 - (a + 1))
    ⟨a + 1, b - 1, l1, by omega, by omega, by omega, by omega, by omega, Sw.refl, (fun u h1 h2 => by omega), (fun u h1 h2 => by omega), by simp only [SY, eq_self, Nat.reduceBEq] <;> rfl, by simp only [SY, eq_self, Nat.reduceBEq] <;> rfl, by simp only [SY, eq_self, Nat.reduceBEq] <;> rfl, by simp only [SY, eq_self, Nat.reduceBEq] <;> rfl, by simp only [SY, eq_self, Nat.reduceBEq] <;> rfl, kpD, owD⟩ (by
      rintro m t S1 ⟨i, j, o, hm, hi1, hij, haj, hjb, hs, hlow, hupp, g0, g1, g4, g11, g12, kp, ow⟩
      refine .run fun z he => ?_
      have hlo := hs.len
      have hpa : (lget o a).at_ = pv := by rw [hs.out a (by omega)]; exact hpv
      simp (disch := first | omega | assumption) only [SY] at he
      generalize hL2 : Rec.loop _ _ _ _ = L2 at he
      obtain ⟨x2, t2, S2e, rfl, hQ2⟩ := loop_met hL2 (fun m t S' => ∃ (i' : Nat), m + i' = j + 2 ∧ i ≤ i' ∧ i' ≤ j + 1 ∧ (∀ u : Nat, a < u → u < i' → (lget o u).at_ ≤ pv) ∧ t.get 0 = some (v) ∧ t.get 1 = some (.int .i64 (a : Int)) ∧ t.get 4 = some (.func (.func 71) #[] #[]) ∧ t.get 11 = some (.int .i64 (i' : Int)) ∧ t.get 12 = some (.int .i64 (j : Int)) ∧ Keep v S S' ∧ Own 111 lo S' v o)
        (fun x t S' => x = .exit 2 ∧ ∃ (i' : Nat), i ≤ i' ∧ i' ≤ j + 1 ∧ (∀ u : Nat, a < u → u < i' → (lget o u).at_ ≤ pv) ∧ (j < i' ∨ pv < (lget o i').at_) ∧ t.get 0 = some (v) ∧ t.get 1 = some (.int .i64 (a : Int)) ∧ t.get 4 = some (.func (.func 71) #[] #[]) ∧ t.get 11 = some (.int .i64 (i' : Int)) ∧ t.get 12 = some (.int .i64 (j : Int)) ∧ Keep v S S' ∧ Own 111 lo S' v o) (j + 2 - i)
        ⟨i, by omega, by omega, by omega, hlow, by simp only [eq_self, g0] <;> rfl, by simp only [eq_self, g1] <;> rfl, by simp only [eq_self, g4] <;> rfl, by simp only [eq_self, g11] <;> rfl, by simp only [eq_self, g12] <;> rfl, kp, ow⟩ (by
          clear he hL2 hL1 hz
          rintro m t S2 ⟨i', hm2, hi2, hij2, hlow2, g0, g1, g4, g11, g12, kp2, ow2⟩
          refine .run fun z he => ?_
          simp (disch := first | omega | assumption) only [SY, store_refl E0_same] at he
          rw [code_draws _ _ _ (by kernel_rfl)] at he
          generalize hnd2 : needy _ = nd2 at he
          rcases dP ((i' : Int) ≤ (j : Int)) with ⟨h4a, h4⟩ | ⟨h4a, h4⟩
          · skip
            obtain ⟨loB, ltB, ccB, exB, hxB, hcB⟩ := own_cut ow2 hb
            obtain ⟨ofBx, hoBx, iaBx, pBx0, pBx1, pBx2⟩ := hcB (a) (by omega)
            obtain ⟨ofBy, hoBy, iaBy, pBy0, pBy1, pBy2⟩ := hcB (i') (by omega)
            obtain ⟨SC, kC, aC⟩ := c164 (lget o a).at_ (lget o a).li (lget o a).by_ (lget o i').at_ (lget o i').li (lget o i').by_ S2
            have sC : E0.same S2 SC = true := symEnv_same aC
            simp (disch := first | omega | assumption) only [E0_G, SY, agreeKind, vals, ldA, rdCells, aggD, Nat.reduceAdd, Nat.reduceLT, Nat.reduceBEq, TY_EvA14, store_agree, store_refl E0_same, g0, g1, g4, g11, g12, h4a, hxB, iaBx, pBx0, pBx1, pBx2, iaBy, pBy0, pBy1, pBy2, kC] at he
            rcases dP (r164 (lget o a).at_ (lget o a).li (lget o a).by_ (lget o i').at_ (lget o i').li (lget o i').by_ < 0) with ⟨h5a, h5⟩ | ⟨h5a, h5⟩
            · skip
              simp (disch := first | omega | assumption) only [SY, store_refl E0_same, h5a] at he
              rw [r164_lt, hpa] at h5
              exact .exit he ⟨rfl, i', hi2, hij2, hlow2, .inr h5, by simp only [SY, eq_self, Nat.reduceBEq, g0] <;> rfl, by simp only [SY, eq_self, Nat.reduceBEq, g1] <;> rfl, by simp only [SY, eq_self, Nat.reduceBEq, g4] <;> rfl, by simp only [SY, eq_self, Nat.reduceBEq, g11] <;> rfl, by simp only [SY, eq_self, Nat.reduceBEq, g12] <;> rfl, kp2.trans (Keep.of aC), ow2.agree aC⟩
            · skip
              have u1 : IntKind.i64.wrap ((i' : Int) + 1) = ((i' + 1 : Nat) : Int) := by rw [IntWalk.i64_in] <;> omega
              simp (disch := first | omega | assumption) only [E0_G, SY, off, agreeKind, Nat.reduceAdd, Nat.reduceLT, Nat.reduceBEq, store_refl E0_same, g11, h5a, u1] at he
              rw [r164_lt, hpa] at h5
              exact .next he (m - 1) (by omega) ⟨i' + 1, by omega, by omega, by omega, le_up hlow2 h5, by simp only [SY, eq_self, Nat.reduceBEq, g0] <;> rfl, by simp only [SY, eq_self, Nat.reduceBEq, g1] <;> rfl, by simp only [SY, eq_self, Nat.reduceBEq, g4] <;> rfl, by simp only [SY, eq_self, Nat.reduceBEq, g11] <;> rfl, by simp only [SY, eq_self, Nat.reduceBEq, g12] <;> rfl, kp2.trans (Keep.of aC), ow2.agree aC⟩
          · skip
            simp (disch := first | omega | assumption) only [E0_G, SY, agreeKind, Nat.reduceAdd, Nat.reduceLT, Nat.reduceBEq, store_refl E0_same, g11, g12, h4a] at he
            exact .exit he ⟨rfl, i', hi2, hij2, hlow2, .inl (by omega), by simp only [SY, eq_self, Nat.reduceBEq, g0] <;> rfl, by simp only [SY, eq_self, Nat.reduceBEq, g1] <;> rfl, by simp only [SY, eq_self, Nat.reduceBEq, g4] <;> rfl, by simp only [SY, eq_self, Nat.reduceBEq, g11] <;> rfl, by simp only [SY, eq_self, Nat.reduceBEq, g12] <;> rfl, kp2, ow2⟩)
      obtain ⟨rfl, i2, hi2, hij2, hlow2, hst2, g0, g1, g4, g11, g12, kp2, ow2⟩ := hQ2
      simp (disch := first | omega | assumption) only [SY, eq_self, if_true, store_refl E0_same] at he
      generalize hL3 : Rec.loop _ _ _ _ = L3 at he
      obtain ⟨x3, t3, S3e, rfl, hQ3⟩ := loop_met hL3 (fun m t S' => ∃ (j' : Nat), m + i2 = j' + 2 ∧ j' ≤ j ∧ i2 ≤ j' + 1 ∧ a ≤ j' ∧ (∀ u : Nat, j' < u → u < b → pv < (lget o u).at_) ∧ t.get 0 = some (v) ∧ t.get 1 = some (.int .i64 (a : Int)) ∧ t.get 4 = some (.func (.func 71) #[] #[]) ∧ t.get 11 = some (.int .i64 (i2 : Int)) ∧ t.get 12 = some (.int .i64 (j' : Int)) ∧ Keep v S S' ∧ Own 111 lo S' v o)
        (fun x t S' => x = .exit 4 ∧ ∃ (j' : Nat), j' ≤ j ∧ i2 ≤ j' + 1 ∧ a ≤ j' ∧ (∀ u : Nat, j' < u → u < b → pv < (lget o u).at_) ∧ (j' < i2 ∨ ¬ pv < (lget o j').at_) ∧ t.get 0 = some (v) ∧ t.get 1 = some (.int .i64 (a : Int)) ∧ t.get 4 = some (.func (.func 71) #[] #[]) ∧ t.get 11 = some (.int .i64 (i2 : Int)) ∧ t.get 12 = some (.int .i64 (j' : Int)) ∧ Keep v S S' ∧ Own 111 lo S' v o) (j + 2 - i2)
        ⟨j, by omega, by omega, by omega, by omega, hupp, by simp only [eq_self, g0] <;> rfl, by simp only [eq_self, g1] <;> rfl, by simp only [eq_self, g4] <;> rfl, by simp only [eq_self, g11] <;> rfl, by simp only [eq_self, g12] <;> rfl, kp2, ow2⟩ (by
          clear he hL3 hL1 hz
          clear g0 g1 g4 g11 g12
          rintro m t S3 ⟨j', hm3, hj3, hij3, haj3, hupp3, g0, g1, g4, g11, g12, kp3, ow3⟩
          refine .run fun z he => ?_
          simp (disch := first | omega | assumption) only [SY, store_refl E0_same] at he
          rw [code_draws _ _ _ (by kernel_rfl)] at he
          generalize hnd3 : needy _ = nd3 at he
          rcases dP ((i2 : Int) ≤ (j' : Int)) with ⟨h4a, h4⟩ | ⟨h4a, h4⟩
          · skip
            obtain ⟨loB, ltB, ccB, exB, hxB, hcB⟩ := own_cut ow3 hb
            obtain ⟨ofBx, hoBx, iaBx, pBx0, pBx1, pBx2⟩ := hcB (a) (by omega)
            obtain ⟨ofBy, hoBy, iaBy, pBy0, pBy1, pBy2⟩ := hcB (j') (by omega)
            obtain ⟨SC, kC, aC⟩ := c164 (lget o a).at_ (lget o a).li (lget o a).by_ (lget o j').at_ (lget o j').li (lget o j').by_ S3
            have sC : E0.same S3 SC = true := symEnv_same aC
            simp (disch := first | omega | assumption) only [E0_G, SY, agreeKind, vals, ldA, rdCells, aggD, Nat.reduceAdd, Nat.reduceLT, Nat.reduceBEq, TY_EvA14, store_agree, store_refl E0_same, g0, g1, g4, g11, g12, h4a, hxB, iaBx, pBx0, pBx1, pBx2, iaBy, pBy0, pBy1, pBy2, kC] at he
            rcases dP (r164 (lget o a).at_ (lget o a).li (lget o a).by_ (lget o j').at_ (lget o j').li (lget o j').by_ < 0) with ⟨h5a, h5⟩ | ⟨h5a, h5⟩
            · skip
              have u1 : IntKind.i64.wrap ((j' : Int) - 1) = ((j' - 1 : Nat) : Int) := by rw [IntWalk.i64_in] <;> omega
              simp (disch := first | omega | assumption) only [E0_G, SY, off, agreeKind, Nat.reduceAdd, Nat.reduceLT, Nat.reduceBEq, store_refl E0_same, g12, h5a, u1] at he
              rw [r164_lt, hpa] at h5
              exact .next he (m - 1) (by omega) ⟨j' - 1, by omega, by omega, by omega, by omega, lt_dn hupp3 h5, by simp only [SY, eq_self, Nat.reduceBEq, g0] <;> rfl, by simp only [SY, eq_self, Nat.reduceBEq, g1] <;> rfl, by simp only [SY, eq_self, Nat.reduceBEq, g4] <;> rfl, by simp only [SY, eq_self, Nat.reduceBEq, g11] <;> rfl, by simp only [SY, eq_self, Nat.reduceBEq, g12] <;> rfl, kp3.trans (Keep.of aC), ow3.agree aC⟩
            · skip
              simp (disch := first | omega | assumption) only [SY, store_refl E0_same, h5a] at he
              rw [r164_lt, hpa] at h5
              exact .exit he ⟨rfl, j', hj3, hij3, haj3, hupp3, .inr h5, by simp only [SY, eq_self, Nat.reduceBEq, g0] <;> rfl, by simp only [SY, eq_self, Nat.reduceBEq, g1] <;> rfl, by simp only [SY, eq_self, Nat.reduceBEq, g4] <;> rfl, by simp only [SY, eq_self, Nat.reduceBEq, g11] <;> rfl, by simp only [SY, eq_self, Nat.reduceBEq, g12] <;> rfl, kp3.trans (Keep.of aC), ow3.agree aC⟩
          · skip
            simp (disch := first | omega | assumption) only [E0_G, SY, agreeKind, Nat.reduceAdd, Nat.reduceLT, Nat.reduceBEq, store_refl E0_same, g11, g12, h4a] at he
            exact .exit he ⟨rfl, j', hj3, hij3, haj3, hupp3, .inl (by omega), by simp only [SY, eq_self, Nat.reduceBEq, g0] <;> rfl, by simp only [SY, eq_self, Nat.reduceBEq, g1] <;> rfl, by simp only [SY, eq_self, Nat.reduceBEq, g4] <;> rfl, by simp only [SY, eq_self, Nat.reduceBEq, g11] <;> rfl, by simp only [SY, eq_self, Nat.reduceBEq, g12] <;> rfl, kp3, ow3⟩)
      obtain ⟨rfl, j2, hj3, hij3, haj3, hupp3, hst3, g0', g1', g4', g11', g12', kp3, ow3⟩ := hQ3
      simp (disch := first | omega | assumption) only [E0_G, SY, off, agreeKind, eq_self, if_true, Nat.reduceAdd, Nat.reduceLT, Nat.reduceBEq, store_refl E0_same, g11', g12'] at he
      rcases dP ((j2 : Int) < (i2 : Int)) with ⟨h6a, h6⟩ | ⟨h6a, h6⟩
      · skip
        simp (disch := first | omega | assumption) only [SY, if_false, reduceCtorEq, store_refl E0_same, h6a] at he
        exact .exit he ⟨rfl, i2, j2, o, by omega, by omega, by omega, by omega, by omega, hs, hlow2, hupp3, by simp only [SY, eq_self, Nat.reduceBEq, g11'] <;> rfl, kp3, ow3⟩
      · skip
        have u1 : IntKind.i64.wrap ((i2 : Int) + 1) = ((i2 + 1 : Nat) : Int) := by rw [IntWalk.i64_in] <;> omega
        have u2 : IntKind.i64.wrap ((j2 : Int) - 1) = ((j2 - 1 : Nat) : Int) := by rw [IntWalk.i64_in] <;> omega
        simp (disch := first | omega | assumption) only [SY, store_refl E0_same, h6a] at he
        rw [code_draws _ _ _ (by kernel_rfl)] at he
        generalize hnd4 : needy _ = nd4 at he
        obtain ⟨loF, ltF, ccF, exF, hxF, hcF⟩ := own_cut ow3 hb
        obtain ⟨ofFj, hoFj, iaFj, pFj0, pFj1, pFj2⟩ := hcF (j2) (by omega)
        obtain ⟨ofFi, hoFi, iaFi, pFi0, pFi1, pFi2⟩ := hcF (i2) (by omega)
        obtain ⟨SxF, SyF, exF, eyF, owF, kpF, nxF⟩ := own_swp ow3 hb (i := i2) (j := j2) (by omega) (by omega) hoFi hoFj
        simp (disch := first | omega | assumption) only [E0_G, SY, off, agreeKind, ldA, rdCells, aggD, Nat.reduceAdd, Nat.reduceLT, Nat.reduceBEq, TY_EvA14, store_refl E0_same, g0', g11', g12', u1, u2, hxF, iaFj, pFj0, pFj1, pFj2, iaFi, pFi0, pFi1, pFi2, exF, eyF] at he
        have hne : i2 ≠ j2 := fun e => by subst e; omega
        have gg := fun u => lget_swp o i2 j2 u (by omega) (by omega)
        exact .next he (j2 - 1 + 2 - (i2 + 1)) (by omega) ⟨i2 + 1, j2 - 1, _, by omega, by omega, by omega, by omega, by omega, Sw.step i2 j2 hs (by omega) (by omega) (by omega) (by omega) (by omega),
          (fun u h1 h2 => by
            rw [gg]
            by_cases e1 : j2 = u
            · omega
            · rw [if_neg e1]
              by_cases e2 : i2 = u
              · rw [if_pos e2]; omega
              · rw [if_neg e2]; exact hlow2 u h1 (by omega)),
          (fun u h1 h2 => by
            rw [gg]
            by_cases e1 : j2 = u
            · rw [if_pos e1]; omega
            · rw [if_neg e1, if_neg (by omega)]; exact hupp3 u (by omega) h2), by simp only [SY, eq_self, Nat.reduceBEq, g0'] <;> rfl, by simp only [SY, eq_self, Nat.reduceBEq, g1'] <;> rfl, by simp only [SY, eq_self, Nat.reduceBEq, g4'] <;> rfl, by simp only [SY, eq_self, Nat.reduceBEq, g11'] <;> rfl, by simp only [SY, eq_self, Nat.reduceBEq, g12'] <;> rfl, kp3.trans kpF, owF⟩)
  obtain ⟨rfl, i, j, o, hi1, hij, haj, hjb, he1, hs, hlow, hupp, g11, kp, ow⟩ := hQ1
  simp (disch := first | omega | assumption) only [E0_G, SY, off, agreeKind, eq_self, if_true, Nat.reduceAdd, Nat.reduceLT, Nat.reduceBEq, store_refl E0_same, g11] at hz
  have hpa : (lget o a).at_ = pv := by rw [hs.out a (by omega)]; exact hpv
  exact ⟨_, o, i, hz.symm, kp, ow, hs0.trans (hs.mono (by omega) (Nat.le_refl _) (by omega)), ⟨by omega, by omega⟩,
    (fun u h1 h2 => by
      by_cases e : u = a
      · subst e; omega
      · exact hlow u (by omega) h2), (fun u h1 h2 => hupp u (by omega) h2)⟩
end Great
end Go.Proofs
end
