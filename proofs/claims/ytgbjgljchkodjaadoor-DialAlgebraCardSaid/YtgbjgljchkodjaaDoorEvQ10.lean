/-
  The great seat of stage 1: cuts in place: parted by the pivot.
-/
import Derived.Test.YtgbjgljchkodjaaDoorBQQ
set_option linter.unusedSimpArgs false
set_option linter.unusedVariables false
namespace Go.Proofs
namespace Great
open Go Go.RowKit Go.Aev
set_option maxRecDepth 100000
theorem lt_up {o : List Ct} {a i : Nat} {pv : Int} (h : ∀ u : Nat, a < u → u < i → (lget o u).at_ < pv) (hi : (lget o i).at_ < pv) : ∀ u : Nat, a < u → u < i + 1 → (lget o u).at_ < pv := by
  intro u h1 h2
  by_cases e : u = i
  · subst e; omega
  · exact h u h1 (by omega)
theorem le_dn {o : List Ct} {j b : Nat} {pv : Int} (h : ∀ u : Nat, j < u → u < b → pv ≤ (lget o u).at_) (hj : ¬ (lget o j).at_ < pv) : ∀ u : Nat, j - 1 < u → u < b → pv ≤ (lget o u).at_ := by
  intro u h1 h2
  by_cases e : u = j
  · subst e; omega
  · exact h u (by omega) h2
theorem part_swap {o : List Ct} {a b i j : Nat} {pv : Int} (hi : a < i) (hij : i ≤ j) (hjb : j < b) (hb : b ≤ o.length) (hlow : ∀ u : Nat, a < u → u < i → (lget o u).at_ < pv) (hupp : ∀ u : Nat, j < u → u < b → pv ≤ (lget o u).at_) (h1 : ¬ (lget o i).at_ < pv) (h2 : (lget o j).at_ < pv) :
    i + 1 ≤ j ∧ (∀ u : Nat, a < u → u < i + 1 → (lget (swp o i j) u).at_ < pv) ∧ ∀ u : Nat, j - 1 < u → u < b → pv ≤ (lget (swp o i j) u).at_ := by
  have hne : i ≠ j := fun e => by subst e; omega
  have gg := fun u => lget_swp o i j u (by omega) (by omega)
  refine ⟨by omega, fun u h1' h2' => ?_, fun u h1' h2' => ?_⟩
  · rw [gg, if_neg (by omega)]
    by_cases e2 : i = u
    · rw [if_pos e2]; exact h2
    · rw [if_neg e2]; exact hlow u h1' (by omega)
  · rw [gg]
    by_cases e1 : j = u
    · rw [if_pos e1]; omega
    · rw [if_neg e1, if_neg (by omega)]; exact hupp u (by omega) h2'
theorem part_end {o : List Ct} {a b j : Nat} {pv : Int} (haj : a ≤ j) (hjb : j < b) (hb : b ≤ o.length) (hp : (lget o a).at_ = pv) (hlow : ∀ u : Nat, a < u → u < j + 1 → (lget o u).at_ < pv) (hupp : ∀ u : Nat, j < u → u < b → pv ≤ (lget o u).at_) :
    (lget (swp o j a) j).at_ = pv ∧ (∀ u : Nat, a ≤ u → u < j → (lget (swp o j a) u).at_ ≤ pv) ∧ ∀ u : Nat, j < u → u < b → pv ≤ (lget (swp o j a) u).at_ := by
  have gg := fun u => lget_swp o j a u (by omega) (by omega)
  refine ⟨?_, fun u h1 h2 => ?_, fun u h1 h2 => ?_⟩
  · rw [gg]
    by_cases e1 : a = j
    · rw [if_pos e1, ← e1]; exact hp
    · rw [if_neg e1, if_pos rfl]; exact hp
  · rw [gg]
    by_cases e1 : a = u
    · rw [if_pos e1]; have := hlow j (by omega) (by omega); omega
    · rw [if_neg e1, if_neg (by omega)]; have := hlow u (by omega) (by omega); omega
  · rw [gg, if_neg (by omega), if_neg (by omega)]; exact hupp u h1 h2
set_option maxHeartbeats 16000000 in
theorem c201 (l : List Ct) (hn : l.length ≤ 1000) (lo : Nat) (S : AS) (v : Value) (ho : Own 111 lo S v l) (id : Nat) (hb : blkOf v = some id) (a b q : Nat) (hab : a < b) (hbl : b ≤ l.length) (hq : a ≤ q ∧ q < b) :
    ∃ S' l' x y, (evL Tryd.prog E0).call 91 #[v, .int .i64 (a : Int), .int .i64 (b : Int), .int .i64 (q : Int), .func (.func 71) #[] #[]] S = some (.tuple #[.int .i64 ((x : Nat) : Int), .bool y], S') ∧ Keep v S S' ∧ Own 111 lo S' v l' ∧ Sw a b l l' ∧ (a ≤ x ∧ x < b) ∧
      (∀ u, a ≤ u → u < x → (lget l' u).at_ ≤ (lget l' x).at_) ∧ ∀ u, x < u → u < b → (lget l' x).at_ ≤ (lget l' u).at_ := by
  generalize hz : (evL Tryd.prog E0).call 91 _ _ = z
  rw [L_call, evCall_said rfl Tryd.func91 rfl (by decide) Tryd.ntmps91 Tryd.results91] at hz
  have w1 : IntKind.i64.wrap ((a : Int) + 1) = ((a + 1 : Nat) : Int) := by rw [IntWalk.i64_in] <;> omega
  have w2 : IntKind.i64.wrap ((b : Int) - 1) = ((b - 1 : Nat) : Int) := by rw [IntWalk.i64_in] <;> omega
  simp (disch := first | omega | assumption) only [E0_G, SY, setArgs, off, agreeKind, Nat.reduceAdd, Nat.reduceSub, Nat.reduceLT] at hz
  rw [code_draws _ _ _ (by kernel_rfl)] at hz
  generalize hnd1 : needy _ = nd1 at hz
  obtain ⟨loD, ltD, ccD, exD, hxD, hcD⟩ := own_cut ho hb
  obtain ⟨ofDj, hoDj, iaDj, pDj0, pDj1, pDj2⟩ := hcD (q) (by omega)
  obtain ⟨ofDi, hoDi, iaDi, pDi0, pDi1, pDi2⟩ := hcD (a) (by omega)
  obtain ⟨SxD, SyD, exD, eyD, owD, kpD, nxD⟩ := own_swp ho hb (i := a) (j := q) (by omega) (by omega) hoDi hoDj
  simp (disch := first | omega | assumption) only [E0_G, SY, off, agreeKind, ldA, rdCells, aggD, Nat.reduceAdd, Nat.reduceLT, Nat.reduceBEq, TY_EvA14, store_refl E0_same, w1, w2, hxD, iaDj, pDj0, pDj1, pDj2, iaDi, pDi0, pDi1, pDi2, exD, eyD] at hz
  have hpv := swp_head (l := l) (a := a) (q := q) (by omega) (by omega)
  have hl1 : (swp l a q).length = l.length := swp_len _ _ _
  have hs0 : Sw a b l (swp l a q) := Sw.step a q Sw.refl (Nat.le_refl _) hab hq.1 hq.2 hbl
  generalize swp l a q = l1 at *
  generalize (lget l q).at_ = pv at *
  generalize hL1 : Rec.loop _ _ _ _ = L1 at hz
  obtain ⟨x1, t1, S1e, rfl, hQ1⟩ := loop_met hL1 (fun m t S' => ∃ (i' : Nat), m + i' = (b - 1) + 2 ∧ a + 1 ≤ i' ∧ i' ≤ (b - 1) + 1 ∧ (∀ u : Nat, a < u → u < i' → (lget l1 u).at_ < pv) ∧ t.get 0 = some (v) ∧ t.get 1 = some (.int .i64 (a : Int)) ∧ t.get 4 = some (.func (.func 71) #[] #[]) ∧ t.get 12 = some (.int .i64 (i' : Int)) ∧ t.get 13 = some (.int .i64 (((b - 1) : Nat) : Int)) ∧ Keep v S S' ∧ Own 111 lo S' v l1)
    (fun x t S' => x = .exit 0 ∧ ∃ (i' : Nat), a + 1 ≤ i' ∧ i' ≤ (b - 1) + 1 ∧ (∀ u : Nat, a < u → u < i' → (lget l1 u).at_ < pv) ∧ ((b - 1) < i' ∨ ¬ (lget l1 i').at_ < pv) ∧ t.get 0 = some (v) ∧ t.get 1 = some (.int .i64 (a : Int)) ∧ t.get 4 = some (.func (.func 71) #[] #[]) ∧ t.get 12 = some (.int .i64 (i' : Int)) ∧ t.get 13 = some (.int .i64 (((b - 1) : Nat) : Int)) ∧ Keep v S S' ∧ Own 111 lo S' v l1) ((b - 1) + 2 - (a + 1))
    ⟨(a + 1), by omega, by omega, by omega, (fun u h1 h2 => by omega), by simp only [SY, eq_self, Nat.reduceBEq] <;> rfl, by simp only [SY, eq_self, Nat.reduceBEq] <;> rfl, by simp only [SY, eq_self, Nat.reduceBEq] <;> rfl, by simp only [SY, eq_self, Nat.reduceBEq] <;> rfl, by simp only [SY, eq_self, Nat.reduceBEq] <;> rfl, kpD, owD⟩ (by
      clear hL1 hz
      rintro m t S2 ⟨i', hm2, hi2, hij2, hlow2, g0, g1, g4, g12, g13, kp2, ow2⟩
      refine .run fun z he => ?_
      simp (disch := first | omega | assumption) only [SY, store_refl E0_same] at he
      rw [code_draws _ _ _ (by kernel_rfl)] at he
      generalize hnd2 : needy _ = nd2 at he
      rcases dP ((i' : Int) ≤ (((b - 1) : Nat) : Int)) with ⟨h4a, h4⟩ | ⟨h4a, h4⟩
      · skip
        obtain ⟨loB, ltB, ccB, exB, hxB, hcB⟩ := own_cut ow2 hb
        obtain ⟨ofBy, hoBy, iaBy, pBy0, pBy1, pBy2⟩ := hcB (i') (by omega)
        obtain ⟨ofBx, hoBx, iaBx, pBx0, pBx1, pBx2⟩ := hcB (a) (by omega)
        obtain ⟨SC, kC, aC⟩ := c164 (lget l1 i').at_ (lget l1 i').li (lget l1 i').by_ (lget l1 a).at_ (lget l1 a).li (lget l1 a).by_ S2
        have sC : E0.same S2 SC = true := symEnv_same aC
        simp (disch := first | omega | assumption) only [E0_G, SY, agreeKind, vals, ldA, rdCells, aggD, Nat.reduceAdd, Nat.reduceLT, Nat.reduceBEq, TY_EvA14, store_agree, store_refl E0_same, g0, g1, g4, g12, g13, h4a, hxB, iaBy, pBy0, pBy1, pBy2, iaBx, pBx0, pBx1, pBx2, kC] at he
        rcases dP (r164 (lget l1 i').at_ (lget l1 i').li (lget l1 i').by_ (lget l1 a).at_ (lget l1 a).li (lget l1 a).by_ < 0) with ⟨h5a, h5⟩ | ⟨h5a, h5⟩
        · skip
          have u1 : IntKind.i64.wrap ((i' : Int) + 1) = ((i' + 1 : Nat) : Int) := by rw [IntWalk.i64_in] <;> omega
          simp (disch := first | omega | assumption) only [E0_G, SY, off, agreeKind, Nat.reduceAdd, Nat.reduceLT, Nat.reduceBEq, store_refl E0_same, g12, h5a, u1] at he
          rw [r164_lt, hpv] at h5
          exact .next he (m - 1) (by omega) ⟨i' + 1, by omega, by omega, by omega, lt_up hlow2 h5, by simp only [SY, eq_self, Nat.reduceBEq, g0] <;> rfl, by simp only [SY, eq_self, Nat.reduceBEq, g1] <;> rfl, by simp only [SY, eq_self, Nat.reduceBEq, g4] <;> rfl, by simp only [SY, eq_self, Nat.reduceBEq, g12] <;> rfl, by simp only [SY, eq_self, Nat.reduceBEq, g13] <;> rfl, kp2.trans (Keep.of aC), ow2.agree aC⟩
        · skip
          simp (disch := first | omega | assumption) only [SY, store_refl E0_same, h5a] at he
          rw [r164_lt, hpv] at h5
          exact .exit he ⟨rfl, i', hi2, hij2, hlow2, .inr h5, by simp only [SY, eq_self, Nat.reduceBEq, g0] <;> rfl, by simp only [SY, eq_self, Nat.reduceBEq, g1] <;> rfl, by simp only [SY, eq_self, Nat.reduceBEq, g4] <;> rfl, by simp only [SY, eq_self, Nat.reduceBEq, g12] <;> rfl, by simp only [SY, eq_self, Nat.reduceBEq, g13] <;> rfl, kp2.trans (Keep.of aC), ow2.agree aC⟩
      · skip
        simp (disch := first | omega | assumption) only [E0_G, SY, agreeKind, Nat.reduceAdd, Nat.reduceLT, Nat.reduceBEq, store_refl E0_same, g12, g13, h4a] at he
        exact .exit he ⟨rfl, i', hi2, hij2, hlow2, .inl (by omega), by simp only [SY, eq_self, Nat.reduceBEq, g0] <;> rfl, by simp only [SY, eq_self, Nat.reduceBEq, g1] <;> rfl, by simp only [SY, eq_self, Nat.reduceBEq, g4] <;> rfl, by simp only [SY, eq_self, Nat.reduceBEq, g12] <;> rfl, by simp only [SY, eq_self, Nat.reduceBEq, g13] <;> rfl, kp2, ow2⟩)
  obtain ⟨rfl, i1, hi1, hij1, hlow1, hst1, g0_1, g1_1, g4_1, g12_1, g13_1, kp1, ow1⟩ := hQ1
  simp (disch := first | omega | assumption) only [SY, eq_self, if_true, store_refl E0_same] at hz
  generalize hL2 : Rec.loop _ _ _ _ = L2 at hz
  obtain ⟨x2, t2, S2e, rfl, hQ2⟩ := loop_met hL2 (fun m t S' => ∃ (j' : Nat), m + i1 = j' + 2 ∧ j' ≤ (b - 1) ∧ i1 ≤ j' + 1 ∧ a ≤ j' ∧ (∀ u : Nat, j' < u → u < b → pv ≤ (lget l1 u).at_) ∧ t.get 0 = some (v) ∧ t.get 1 = some (.int .i64 (a : Int)) ∧ t.get 4 = some (.func (.func 71) #[] #[]) ∧ t.get 12 = some (.int .i64 (i1 : Int)) ∧ t.get 13 = some (.int .i64 (j' : Int)) ∧ Keep v S S' ∧ Own 111 lo S' v l1)
    (fun x t S' => x = .exit 2 ∧ ∃ (j' : Nat), j' ≤ (b - 1) ∧ i1 ≤ j' + 1 ∧ a ≤ j' ∧ (∀ u : Nat, j' < u → u < b → pv ≤ (lget l1 u).at_) ∧ (j' < i1 ∨ (lget l1 j').at_ < pv) ∧ t.get 0 = some (v) ∧ t.get 1 = some (.int .i64 (a : Int)) ∧ t.get 4 = some (.func (.func 71) #[] #[]) ∧ t.get 12 = some (.int .i64 (i1 : Int)) ∧ t.get 13 = some (.int .i64 (j' : Int)) ∧ Keep v S S' ∧ Own 111 lo S' v l1) ((b - 1) + 2 - i1)
    ⟨((b - 1)), by omega, by omega, by omega, by omega, (fun u h1 h2 => by omega), by simp only [eq_self, g0_1] <;> rfl, by simp only [eq_self, g1_1] <;> rfl, by simp only [eq_self, g4_1] <;> rfl, by simp only [eq_self, g12_1] <;> rfl, by simp only [eq_self, g13_1] <;> rfl, kp1, ow1⟩ (by
      clear hL2 hz
      rintro m t S3 ⟨j', hm3, hj3, hij3, haj3, hupp3, g0, g1, g4, g12, g13, kp3, ow3⟩
      refine .run fun z he => ?_
      simp (disch := first | omega | assumption) only [SY, store_refl E0_same] at he
      rw [code_draws _ _ _ (by kernel_rfl)] at he
      generalize hnd3 : needy _ = nd3 at he
      rcases dP ((i1 : Int) ≤ (j' : Int)) with ⟨h4a, h4⟩ | ⟨h4a, h4⟩
      · skip
        obtain ⟨loB, ltB, ccB, exB, hxB, hcB⟩ := own_cut ow3 hb
        obtain ⟨ofBy, hoBy, iaBy, pBy0, pBy1, pBy2⟩ := hcB (j') (by omega)
        obtain ⟨ofBx, hoBx, iaBx, pBx0, pBx1, pBx2⟩ := hcB (a) (by omega)
        obtain ⟨SC, kC, aC⟩ := c164 (lget l1 j').at_ (lget l1 j').li (lget l1 j').by_ (lget l1 a).at_ (lget l1 a).li (lget l1 a).by_ S3
        have sC : E0.same S3 SC = true := symEnv_same aC
        simp (disch := first | omega | assumption) only [E0_G, SY, agreeKind, vals, ldA, rdCells, aggD, Nat.reduceAdd, Nat.reduceLT, Nat.reduceBEq, TY_EvA14, store_agree, store_refl E0_same, g0, g1, g4, g12, g13, h4a, hxB, iaBy, pBy0, pBy1, pBy2, iaBx, pBx0, pBx1, pBx2, kC] at he
        rcases dP (r164 (lget l1 j').at_ (lget l1 j').li (lget l1 j').by_ (lget l1 a).at_ (lget l1 a).li (lget l1 a).by_ < 0) with ⟨h5a, h5⟩ | ⟨h5a, h5⟩
        · skip
          simp (disch := first | omega | assumption) only [SY, store_refl E0_same, h5a] at he
          rw [r164_lt, hpv] at h5
          exact .exit he ⟨rfl, j', hj3, hij3, haj3, hupp3, .inr h5, by simp only [SY, eq_self, Nat.reduceBEq, g0] <;> rfl, by simp only [SY, eq_self, Nat.reduceBEq, g1] <;> rfl, by simp only [SY, eq_self, Nat.reduceBEq, g4] <;> rfl, by simp only [SY, eq_self, Nat.reduceBEq, g12] <;> rfl, by simp only [SY, eq_self, Nat.reduceBEq, g13] <;> rfl, kp3.trans (Keep.of aC), ow3.agree aC⟩
        · skip
          have u1 : IntKind.i64.wrap ((j' : Int) - 1) = ((j' - 1 : Nat) : Int) := by rw [IntWalk.i64_in] <;> omega
          simp (disch := first | omega | assumption) only [E0_G, SY, off, agreeKind, Nat.reduceAdd, Nat.reduceLT, Nat.reduceBEq, store_refl E0_same, g13, h5a, u1] at he
          rw [r164_lt, hpv] at h5
          exact .next he (m - 1) (by omega) ⟨j' - 1, by omega, by omega, by omega, by omega, le_dn hupp3 h5, by simp only [SY, eq_self, Nat.reduceBEq, g0] <;> rfl, by simp only [SY, eq_self, Nat.reduceBEq, g1] <;> rfl, by simp only [SY, eq_self, Nat.reduceBEq, g4] <;> rfl, by simp only [SY, eq_self, Nat.reduceBEq, g12] <;> rfl, by simp only [SY, eq_self, Nat.reduceBEq, g13] <;> rfl, kp3.trans (Keep.of aC), ow3.agree aC⟩
      · skip
        simp (disch := first | omega | assumption) only [E0_G, SY, agreeKind, Nat.reduceAdd, Nat.reduceLT, Nat.reduceBEq, store_refl E0_same, g12, g13, h4a] at he
        exact .exit he ⟨rfl, j', hj3, hij3, haj3, hupp3, .inl (by omega), by simp only [SY, eq_self, Nat.reduceBEq, g0] <;> rfl, by simp only [SY, eq_self, Nat.reduceBEq, g1] <;> rfl, by simp only [SY, eq_self, Nat.reduceBEq, g4] <;> rfl, by simp only [SY, eq_self, Nat.reduceBEq, g12] <;> rfl, by simp only [SY, eq_self, Nat.reduceBEq, g13] <;> rfl, kp3, ow3⟩)
  obtain ⟨rfl, j2, hj2, hij2, haj2, hupp2, hst2, g0_2, g1_2, g4_2, g12_2, g13_2, kp2, ow2⟩ := hQ2
  simp (disch := first | omega | assumption) only [E0_G, SY, off, agreeKind, eq_self, if_true, Nat.reduceAdd, Nat.reduceLT, Nat.reduceBEq, store_refl E0_same, g12_2, g13_2] at hz
  rcases dP ((j2 : Int) < (i1 : Int)) with ⟨h6a, h6⟩ | ⟨h6a, h6⟩
  · skip
    simp (disch := first | omega | assumption) only [SY, store_refl E0_same, h6a] at hz
    rw [code_draws _ _ _ (by kernel_rfl)] at hz
    generalize hnd4 : needy _ = nd4 at hz
    obtain ⟨loZ, ltZ, ccZ, exZ, hxZ, hcZ⟩ := own_cut ow2 hb
    obtain ⟨ofZj, hoZj, iaZj, pZj0, pZj1, pZj2⟩ := hcZ (a) (by omega)
    obtain ⟨ofZi, hoZi, iaZi, pZi0, pZi1, pZi2⟩ := hcZ (j2) (by omega)
    obtain ⟨SxZ, SyZ, exZ, eyZ, owZ, kpZ, nxZ⟩ := own_swp ow2 hb (i := j2) (j := a) (by omega) (by omega) hoZi hoZj
    simp (disch := first | omega | assumption) only [E0_G, SY, off, agreeKind, ldA, rdCells, aggD, Nat.reduceAdd, Nat.reduceLT, Nat.reduceBEq, TY_EvA14, store_refl E0_same, g0_2, g1_2, g13_2, hxZ, iaZj, pZj0, pZj1, pZj2, iaZi, pZi0, pZi1, pZi2, exZ, eyZ] at hz
    obtain ⟨z1, z2, z3⟩ := part_end (o := l1) (a := a) (b := b) (j := j2) (pv := pv) (by omega) (by omega) (by omega) hpv (fun u h1 h2 => hlow1 u h1 (by omega)) hupp2
    exact ⟨_, swp l1 j2 a, j2, true, hz.symm, kp2.trans kpZ, owZ, Sw.step j2 a hs0 (by omega) (by omega) (Nat.le_refl _) hab hbl, ⟨by omega, by omega⟩, by rw [z1]; exact z2, by rw [z1]; exact z3⟩
  · skip
    have u1 : IntKind.i64.wrap ((i1 : Int) + 1) = ((i1 + 1 : Nat) : Int) := by rw [IntWalk.i64_in] <;> omega
    have u2 : IntKind.i64.wrap ((j2 : Int) - 1) = ((j2 - 1 : Nat) : Int) := by rw [IntWalk.i64_in] <;> omega
    simp (disch := first | omega | assumption) only [SY, store_refl E0_same, h6a] at hz
    rw [code_draws _ _ _ (by kernel_rfl)] at hz
    generalize hnd5 : needy _ = nd5 at hz
    obtain ⟨loE, ltE, ccE, exE, hxE, hcE⟩ := own_cut ow2 hb
    obtain ⟨ofEj, hoEj, iaEj, pEj0, pEj1, pEj2⟩ := hcE (j2) (by omega)
    obtain ⟨ofEi, hoEi, iaEi, pEi0, pEi1, pEi2⟩ := hcE (i1) (by omega)
    obtain ⟨SxE, SyE, exE, eyE, owE, kpE, nxE⟩ := own_swp ow2 hb (i := i1) (j := j2) (by omega) (by omega) hoEi hoEj
    simp (disch := first | omega | assumption) only [E0_G, SY, off, agreeKind, ldA, rdCells, aggD, Nat.reduceAdd, Nat.reduceLT, Nat.reduceBEq, TY_EvA14, store_refl E0_same, g0_2, g12_2, g13_2, u1, u2, hxE, iaEj, pEj0, pEj1, pEj2, iaEi, pEi0, pEi1, pEi2, exE, eyE] at hz
    obtain ⟨e1, e2, e3⟩ := part_swap (o := l1) (a := a) (b := b) (i := i1) (j := j2) (pv := pv) (by omega) (by omega) (by omega) (by omega) hlow1 hupp2 (by omega) (by omega)
    generalize hL5 : Rec.loop _ _ _ _ = L5 at hz
    obtain ⟨x5, t5, S5e, rfl, hQ5⟩ := loop_met hL5 (fun m t S' => ∃ (i j : Nat) (o : List Ct), m + i = j + 2 ∧ a + 1 ≤ i ∧ i ≤ j + 1 ∧ a ≤ j ∧ j < b ∧ Sw (a + 1) b l1 o ∧ (∀ u : Nat, a < u → u < i → (lget o u).at_ < pv) ∧ (∀ u : Nat, j < u → u < b → pv ≤ (lget o u).at_) ∧ t.get 0 = some (v) ∧ t.get 1 = some (.int .i64 (a : Int)) ∧ t.get 4 = some (.func (.func 71) #[] #[]) ∧ t.get 12 = some (.int .i64 (i : Int)) ∧ t.get 13 = some (.int .i64 (j : Int)) ∧ Keep v S S' ∧ Own 111 lo S' v o)
      (fun x t S' => x = .exit 4 ∧ ∃ (j : Nat) (o : List Ct), a ≤ j ∧ j < b ∧ Sw (a + 1) b l1 o ∧ (∀ u : Nat, a < u → u < j + 1 → (lget o u).at_ < pv) ∧ (∀ u : Nat, j < u → u < b → pv ≤ (lget o u).at_) ∧ t.get 0 = some (v) ∧ t.get 1 = some (.int .i64 (a : Int)) ∧ t.get 4 = some (.func (.func 71) #[] #[]) ∧ t.get 13 = some (.int .i64 (j : Int)) ∧ Keep v S S' ∧ Own 111 lo S' v o) (j2 - 1 + 2 - (i1 + 1))
      ⟨i1 + 1, j2 - 1, _, by omega, by omega, by omega, by omega, by omega, Sw.step i1 j2 Sw.refl (by omega) (by omega) (by omega) (by omega) (by omega), e2, e3, by simp only [SY, eq_self, Nat.reduceBEq, g0_2] <;> rfl, by simp only [SY, eq_self, Nat.reduceBEq, g1_2] <;> rfl, by simp only [SY, eq_self, Nat.reduceBEq, g4_2] <;> rfl, by simp only [SY, eq_self, Nat.reduceBEq, g12_2] <;> rfl, by simp only [SY, eq_self, Nat.reduceBEq, g13_2] <;> rfl, kp2.trans kpE, owE⟩ (by
        clear g0_1 g1_1 g4_1 g12_1 g13_1 g0_2 g1_2 g4_2 g12_2 g13_2
        rintro m t S1 ⟨i, j, o, hm, hi1', hij, haj, hjb, hs, hlow, hupp, g0, g1, g4, g12, g13, kp, ow⟩
        refine .run fun z he => ?_
        have hlo := hs.len
        have hpa : (lget o a).at_ = pv := by rw [hs.out a (by omega)]; exact hpv
        simp (disch := first | omega | assumption) only [SY] at he
        generalize hL6 : Rec.loop _ _ _ _ = L6 at he
        obtain ⟨x6, t6, S6e, rfl, hQ6⟩ := loop_met hL6 (fun m t S' => ∃ (i' : Nat), m + i' = j + 2 ∧ i ≤ i' ∧ i' ≤ j + 1 ∧ (∀ u : Nat, a < u → u < i' → (lget o u).at_ < pv) ∧ t.get 0 = some (v) ∧ t.get 1 = some (.int .i64 (a : Int)) ∧ t.get 4 = some (.func (.func 71) #[] #[]) ∧ t.get 12 = some (.int .i64 (i' : Int)) ∧ t.get 13 = some (.int .i64 (j : Int)) ∧ Keep v S S' ∧ Own 111 lo S' v o)
          (fun x t S' => x = .exit 6 ∧ ∃ (i' : Nat), i ≤ i' ∧ i' ≤ j + 1 ∧ (∀ u : Nat, a < u → u < i' → (lget o u).at_ < pv) ∧ (j < i' ∨ ¬ (lget o i').at_ < pv) ∧ t.get 0 = some (v) ∧ t.get 1 = some (.int .i64 (a : Int)) ∧ t.get 4 = some (.func (.func 71) #[] #[]) ∧ t.get 12 = some (.int .i64 (i' : Int)) ∧ t.get 13 = some (.int .i64 (j : Int)) ∧ Keep v S S' ∧ Own 111 lo S' v o) (j + 2 - (i))
          ⟨(i), by omega, by omega, by omega, hlow, by simp only [eq_self, g0] <;> rfl, by simp only [eq_self, g1] <;> rfl, by simp only [eq_self, g4] <;> rfl, by simp only [eq_self, g12] <;> rfl, by simp only [eq_self, g13] <;> rfl, kp, ow⟩ (by
            clear he hL6 hL5 hz
            rintro m t S2 ⟨i', hm2, hi2, hij2, hlow2, f0, f1, f4, f12, f13, kp2, ow2⟩
            refine .run fun z he => ?_
            simp (disch := first | omega | assumption) only [SY, store_refl E0_same] at he
            rw [code_draws _ _ _ (by kernel_rfl)] at he
            generalize hnd6 : needy _ = nd6 at he
            rcases dP ((i' : Int) ≤ (j : Int)) with ⟨h4a, h4⟩ | ⟨h4a, h4⟩
            · skip
              obtain ⟨loB, ltB, ccB, exB, hxB, hcB⟩ := own_cut ow2 hb
              obtain ⟨ofBy, hoBy, iaBy, pBy0, pBy1, pBy2⟩ := hcB (i') (by omega)
              obtain ⟨ofBx, hoBx, iaBx, pBx0, pBx1, pBx2⟩ := hcB (a) (by omega)
              obtain ⟨SC, kC, aC⟩ := c164 (lget o i').at_ (lget o i').li (lget o i').by_ (lget o a).at_ (lget o a).li (lget o a).by_ S2
              have sC : E0.same S2 SC = true := symEnv_same aC
              simp (disch := first | omega | assumption) only [E0_G, SY, agreeKind, vals, ldA, rdCells, aggD, Nat.reduceAdd, Nat.reduceLT, Nat.reduceBEq, TY_EvA14, store_agree, store_refl E0_same, f0, f1, f4, f12, f13, h4a, hxB, iaBy, pBy0, pBy1, pBy2, iaBx, pBx0, pBx1, pBx2, kC] at he
              rcases dP (r164 (lget o i').at_ (lget o i').li (lget o i').by_ (lget o a).at_ (lget o a).li (lget o a).by_ < 0) with ⟨h5a, h5⟩ | ⟨h5a, h5⟩
              · skip
                have u1 : IntKind.i64.wrap ((i' : Int) + 1) = ((i' + 1 : Nat) : Int) := by rw [IntWalk.i64_in] <;> omega
                simp (disch := first | omega | assumption) only [E0_G, SY, off, agreeKind, Nat.reduceAdd, Nat.reduceLT, Nat.reduceBEq, store_refl E0_same, f12, h5a, u1] at he
                rw [r164_lt, hpa] at h5
                exact .next he (m - 1) (by omega) ⟨i' + 1, by omega, by omega, by omega, lt_up hlow2 h5, by simp only [SY, eq_self, Nat.reduceBEq, f0] <;> rfl, by simp only [SY, eq_self, Nat.reduceBEq, f1] <;> rfl, by simp only [SY, eq_self, Nat.reduceBEq, f4] <;> rfl, by simp only [SY, eq_self, Nat.reduceBEq, f12] <;> rfl, by simp only [SY, eq_self, Nat.reduceBEq, f13] <;> rfl, kp2.trans (Keep.of aC), ow2.agree aC⟩
              · skip
                simp (disch := first | omega | assumption) only [SY, store_refl E0_same, h5a] at he
                rw [r164_lt, hpa] at h5
                exact .exit he ⟨rfl, i', hi2, hij2, hlow2, .inr h5, by simp only [SY, eq_self, Nat.reduceBEq, f0] <;> rfl, by simp only [SY, eq_self, Nat.reduceBEq, f1] <;> rfl, by simp only [SY, eq_self, Nat.reduceBEq, f4] <;> rfl, by simp only [SY, eq_self, Nat.reduceBEq, f12] <;> rfl, by simp only [SY, eq_self, Nat.reduceBEq, f13] <;> rfl, kp2.trans (Keep.of aC), ow2.agree aC⟩
            · skip
              simp (disch := first | omega | assumption) only [E0_G, SY, agreeKind, Nat.reduceAdd, Nat.reduceLT, Nat.reduceBEq, store_refl E0_same, f12, f13, h4a] at he
              exact .exit he ⟨rfl, i', hi2, hij2, hlow2, .inl (by omega), by simp only [SY, eq_self, Nat.reduceBEq, f0] <;> rfl, by simp only [SY, eq_self, Nat.reduceBEq, f1] <;> rfl, by simp only [SY, eq_self, Nat.reduceBEq, f4] <;> rfl, by simp only [SY, eq_self, Nat.reduceBEq, f12] <;> rfl, by simp only [SY, eq_self, Nat.reduceBEq, f13] <;> rfl, kp2, ow2⟩)
        obtain ⟨rfl, i6, hi6, hij6, hlow6, hst6, f0_6, f1_6, f4_6, f12_6, f13_6, kp6, ow6⟩ := hQ6
        simp (disch := first | omega | assumption) only [SY, eq_self, if_true, store_refl E0_same] at he
        generalize hL7 : Rec.loop _ _ _ _ = L7 at he
        obtain ⟨x7, t7, S7e, rfl, hQ7⟩ := loop_met hL7 (fun m t S' => ∃ (j' : Nat), m + i6 = j' + 2 ∧ j' ≤ j ∧ i6 ≤ j' + 1 ∧ a ≤ j' ∧ (∀ u : Nat, j' < u → u < b → pv ≤ (lget o u).at_) ∧ t.get 0 = some (v) ∧ t.get 1 = some (.int .i64 (a : Int)) ∧ t.get 4 = some (.func (.func 71) #[] #[]) ∧ t.get 12 = some (.int .i64 (i6 : Int)) ∧ t.get 13 = some (.int .i64 (j' : Int)) ∧ Keep v S S' ∧ Own 111 lo S' v o)
          (fun x t S' => x = .exit 8 ∧ ∃ (j' : Nat), j' ≤ j ∧ i6 ≤ j' + 1 ∧ a ≤ j' ∧ (∀ u : Nat, j' < u → u < b → pv ≤ (lget o u).at_) ∧ (j' < i6 ∨ (lget o j').at_ < pv) ∧ t.get 0 = some (v) ∧ t.get 1 = some (.int .i64 (a : Int)) ∧ t.get 4 = some (.func (.func 71) #[] #[]) ∧ t.get 12 = some (.int .i64 (i6 : Int)) ∧ t.get 13 = some (.int .i64 (j' : Int)) ∧ Keep v S S' ∧ Own 111 lo S' v o) (j + 2 - i6)
          ⟨(j), by omega, by omega, by omega, by omega, hupp, by simp only [eq_self, f0_6] <;> rfl, by simp only [eq_self, f1_6] <;> rfl, by simp only [eq_self, f4_6] <;> rfl, by simp only [eq_self, f12_6] <;> rfl, by simp only [eq_self, f13_6] <;> rfl, kp6, ow6⟩ (by
            clear he hL7 hL5 hz
            rintro m t S3 ⟨j', hm3, hj3, hij3, haj3, hupp3, f0, f1, f4, f12, f13, kp3, ow3⟩
            refine .run fun z he => ?_
            simp (disch := first | omega | assumption) only [SY, store_refl E0_same] at he
            rw [code_draws _ _ _ (by kernel_rfl)] at he
            generalize hnd7 : needy _ = nd7 at he
            rcases dP ((i6 : Int) ≤ (j' : Int)) with ⟨h4a, h4⟩ | ⟨h4a, h4⟩
            · skip
              obtain ⟨loB, ltB, ccB, exB, hxB, hcB⟩ := own_cut ow3 hb
              obtain ⟨ofBy, hoBy, iaBy, pBy0, pBy1, pBy2⟩ := hcB (j') (by omega)
              obtain ⟨ofBx, hoBx, iaBx, pBx0, pBx1, pBx2⟩ := hcB (a) (by omega)
              obtain ⟨SC, kC, aC⟩ := c164 (lget o j').at_ (lget o j').li (lget o j').by_ (lget o a).at_ (lget o a).li (lget o a).by_ S3
              have sC : E0.same S3 SC = true := symEnv_same aC
              simp (disch := first | omega | assumption) only [E0_G, SY, agreeKind, vals, ldA, rdCells, aggD, Nat.reduceAdd, Nat.reduceLT, Nat.reduceBEq, TY_EvA14, store_agree, store_refl E0_same, f0, f1, f4, f12, f13, h4a, hxB, iaBy, pBy0, pBy1, pBy2, iaBx, pBx0, pBx1, pBx2, kC] at he
              rcases dP (r164 (lget o j').at_ (lget o j').li (lget o j').by_ (lget o a).at_ (lget o a).li (lget o a).by_ < 0) with ⟨h5a, h5⟩ | ⟨h5a, h5⟩
              · skip
                simp (disch := first | omega | assumption) only [SY, store_refl E0_same, h5a] at he
                rw [r164_lt, hpa] at h5
                exact .exit he ⟨rfl, j', hj3, hij3, haj3, hupp3, .inr h5, by simp only [SY, eq_self, Nat.reduceBEq, f0] <;> rfl, by simp only [SY, eq_self, Nat.reduceBEq, f1] <;> rfl, by simp only [SY, eq_self, Nat.reduceBEq, f4] <;> rfl, by simp only [SY, eq_self, Nat.reduceBEq, f12] <;> rfl, by simp only [SY, eq_self, Nat.reduceBEq, f13] <;> rfl, kp3.trans (Keep.of aC), ow3.agree aC⟩
              · skip
                have u1 : IntKind.i64.wrap ((j' : Int) - 1) = ((j' - 1 : Nat) : Int) := by rw [IntWalk.i64_in] <;> omega
                simp (disch := first | omega | assumption) only [E0_G, SY, off, agreeKind, Nat.reduceAdd, Nat.reduceLT, Nat.reduceBEq, store_refl E0_same, f13, h5a, u1] at he
                rw [r164_lt, hpa] at h5
                exact .next he (m - 1) (by omega) ⟨j' - 1, by omega, by omega, by omega, by omega, le_dn hupp3 h5, by simp only [SY, eq_self, Nat.reduceBEq, f0] <;> rfl, by simp only [SY, eq_self, Nat.reduceBEq, f1] <;> rfl, by simp only [SY, eq_self, Nat.reduceBEq, f4] <;> rfl, by simp only [SY, eq_self, Nat.reduceBEq, f12] <;> rfl, by simp only [SY, eq_self, Nat.reduceBEq, f13] <;> rfl, kp3.trans (Keep.of aC), ow3.agree aC⟩
            · skip
              simp (disch := first | omega | assumption) only [E0_G, SY, agreeKind, Nat.reduceAdd, Nat.reduceLT, Nat.reduceBEq, store_refl E0_same, f12, f13, h4a] at he
              exact .exit he ⟨rfl, j', hj3, hij3, haj3, hupp3, .inl (by omega), by simp only [SY, eq_self, Nat.reduceBEq, f0] <;> rfl, by simp only [SY, eq_self, Nat.reduceBEq, f1] <;> rfl, by simp only [SY, eq_self, Nat.reduceBEq, f4] <;> rfl, by simp only [SY, eq_self, Nat.reduceBEq, f12] <;> rfl, by simp only [SY, eq_self, Nat.reduceBEq, f13] <;> rfl, kp3, ow3⟩)
        obtain ⟨rfl, j7, hj7, hij7, haj7, hupp7, hst7, f0_7, f1_7, f4_7, f12_7, f13_7, kp7, ow7⟩ := hQ7
        simp (disch := first | omega | assumption) only [E0_G, SY, off, agreeKind, eq_self, if_true, Nat.reduceAdd, Nat.reduceLT, Nat.reduceBEq, store_refl E0_same, f12_7, f13_7] at he
        rcases dP ((j7 : Int) < (i6 : Int)) with ⟨h8a, h8⟩ | ⟨h8a, h8⟩
        · skip
          simp (disch := first | omega | assumption) only [SY, if_false, Nat.reduceEqDiff, store_refl E0_same, h8a] at he
          exact .exit he ⟨rfl, j7, o, by omega, by omega, hs, (fun u h1 h2 => hlow6 u h1 (by omega)), hupp7, by simp only [SY, eq_self, Nat.reduceBEq, f0_7] <;> rfl, by simp only [SY, eq_self, Nat.reduceBEq, f1_7] <;> rfl, by simp only [SY, eq_self, Nat.reduceBEq, f4_7] <;> rfl, by simp only [SY, eq_self, Nat.reduceBEq, f13_7] <;> rfl, kp7, ow7⟩
        · skip
          have x1 : IntKind.i64.wrap ((i6 : Int) + 1) = ((i6 + 1 : Nat) : Int) := by rw [IntWalk.i64_in] <;> omega
          have x2 : IntKind.i64.wrap ((j7 : Int) - 1) = ((j7 - 1 : Nat) : Int) := by rw [IntWalk.i64_in] <;> omega
          simp (disch := first | omega | assumption) only [SY, store_refl E0_same, h8a] at he
          rw [code_draws _ _ _ (by kernel_rfl)] at he
          generalize hnd8 : needy _ = nd8 at he
          obtain ⟨loF, ltF, ccF, exF, hxF, hcF⟩ := own_cut ow7 hb
          obtain ⟨ofFj, hoFj, iaFj, pFj0, pFj1, pFj2⟩ := hcF (j7) (by omega)
          obtain ⟨ofFi, hoFi, iaFi, pFi0, pFi1, pFi2⟩ := hcF (i6) (by omega)
          obtain ⟨SxF, SyF, exF, eyF, owF, kpF, nxF⟩ := own_swp ow7 hb (i := i6) (j := j7) (by omega) (by omega) hoFi hoFj
          simp (disch := first | omega | assumption) only [E0_G, SY, off, agreeKind, ldA, rdCells, aggD, Nat.reduceAdd, Nat.reduceLT, Nat.reduceBEq, TY_EvA14, store_refl E0_same, f0_7, f12_7, f13_7, x1, x2, hxF, iaFj, pFj0, pFj1, pFj2, iaFi, pFi0, pFi1, pFi2, exF, eyF] at he
          obtain ⟨y1, y2, y3⟩ := part_swap (o := o) (a := a) (b := b) (i := i6) (j := j7) (pv := pv) (by omega) (by omega) (by omega) (by omega) hlow6 hupp7 (by omega) (by omega)
          exact .next he (j7 - 1 + 2 - (i6 + 1)) (by omega) ⟨i6 + 1, j7 - 1, _, by omega, by omega, by omega, by omega, by omega, Sw.step i6 j7 hs (by omega) (by omega) (by omega) (by omega) (by omega), y2, y3, by simp only [SY, eq_self, Nat.reduceBEq, f0_7] <;> rfl, by simp only [SY, eq_self, Nat.reduceBEq, f1_7] <;> rfl, by simp only [SY, eq_self, Nat.reduceBEq, f4_7] <;> rfl, by simp only [SY, eq_self, Nat.reduceBEq, f12_7] <;> rfl, by simp only [SY, eq_self, Nat.reduceBEq, f13_7] <;> rfl, kp7.trans kpF, owF⟩)
    obtain ⟨rfl, j, o, haj, hjb, hs, hlow, hupp, k0, k1, k4, k13, kp, ow⟩ := hQ5
    have hlo := hs.len
    have hpa : (lget o a).at_ = pv := by rw [hs.out a (by omega)]; exact hpv
    simp (disch := first | omega | assumption) only [SY, eq_self, if_true, store_refl E0_same] at hz
    rw [code_draws _ _ _ (by kernel_rfl)] at hz
    generalize hnd9 : needy _ = nd9 at hz
    obtain ⟨loZ, ltZ, ccZ, exZ, hxZ, hcZ⟩ := own_cut ow hb
    obtain ⟨ofZj, hoZj, iaZj, pZj0, pZj1, pZj2⟩ := hcZ (a) (by omega)
    obtain ⟨ofZi, hoZi, iaZi, pZi0, pZi1, pZi2⟩ := hcZ (j) (by omega)
    obtain ⟨SxZ, SyZ, exZ, eyZ, owZ, kpZ, nxZ⟩ := own_swp ow hb (i := j) (j := a) (by omega) (by omega) hoZi hoZj
    simp (disch := first | omega | assumption) only [E0_G, SY, off, agreeKind, ldA, rdCells, aggD, Nat.reduceAdd, Nat.reduceLT, Nat.reduceBEq, TY_EvA14, store_refl E0_same, k0, k1, k13, hxZ, iaZj, pZj0, pZj1, pZj2, iaZi, pZi0, pZi1, pZi2, exZ, eyZ] at hz
    obtain ⟨z1, z2, z3⟩ := part_end (o := o) (a := a) (b := b) (j := j) (pv := pv) (by omega) (by omega) (by omega) hpa hlow hupp
    exact ⟨_, swp o j a, j, false, hz.symm, kp.trans kpZ, owZ, Sw.step j a (hs0.trans (hs.mono (by omega) (Nat.le_refl _) (by omega))) (by omega) (by omega) (Nat.le_refl _) hab hbl, ⟨by omega, by omega⟩, by rw [z1]; exact z2, by rw [z1]; exact z3⟩
end Great
end Go.Proofs
