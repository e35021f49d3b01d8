/-
  The great seat of stage 1: cuts in place: a part of an insertion.
-/
import Derived.Test.YtgbjgljchkodjaaDoorEvQ10
set_option linter.unusedSimpArgs false
set_option linter.unusedVariables false
namespace Go.Proofs
namespace Great
open Go Go.RowKit Go.Aev
set_option maxRecDepth 100000
/-- What is ahead of a range is no greater than what is in it. -/
def Pre (a b : Nat) (l : List Ct) : Prop := 0 < a → ∀ u : Nat, a ≤ u → u < b → (lget l (a - 1)).at_ ≤ (lget l u).at_
theorem Pre.sw {a b : Nat} {l l' : List Ct} (h : Pre a b l) (hs : Sw a b l l') : Pre a b l' := by
  intro ha
  rw [hs.out (a - 1) (by omega)]
  exact hs.all (P := fun x => (lget l (a - 1)).at_ ≤ x.at_) (h ha)
theorem Srt.more {a i : Nat} {o : List Ct} (h : Srt a i o) (hi : a < i) (c : ¬ (lget o i).at_ < (lget o (i - 1)).at_) : Srt a (i + 1) o := by
  intro u v h1 h2 h3
  by_cases e : v = i
  · subst e
    by_cases e2 : u = v - 1
    · subst e2; omega
    · have := h u (v - 1) h1 (by omega) (by omega)
      omega
  · exact h u v h1 h2 (by omega)
set_option maxHeartbeats 16000000 in
theorem c199 (l : List Ct) (hn : l.length ≤ 1000) (lo : Nat) (S : AS) (v : Value) (ho : Own 111 lo S v l) (id : Nat) (hb : blkOf v = some id) (a b : Nat) (hab : a + 13 ≤ b) (hbl : b ≤ l.length) (hpre : Pre a b l) :
    ∃ S' l' y, (evL Tryd.prog E0).call 89 #[v, .int .i64 (a : Int), .int .i64 (b : Int), .func (.func 71) #[] #[]] S = some (.bool y, S') ∧ Keep v S S' ∧ Own 111 lo S' v l' ∧ Sw a b l l' ∧ (y = true → Srt a b l') := by
  generalize hz : (evL Tryd.prog E0).call 89 _ _ = z
  rw [L_call, evCall_said rfl Tryd.func89 rfl (by decide) Tryd.ntmps89 Tryd.results89] at hz
  have w1 : IntKind.i64.wrap ((a : Int) + 1) = ((a + 1 : Nat) : Int) := by rw [IntWalk.i64_in] <;> omega
  have w2 : IntKind.i64.wrap ((b : Int) - (a : Int)) = ((b - a : Nat) : Int) := by rw [IntWalk.i64_in] <;> omega
  simp (disch := first | omega | assumption) only [E0_G, SY, setArgs, off, agreeKind, Nat.reduceAdd, Nat.reduceSub, Nat.reduceLT, Nat.reduceBEq, store_refl E0_same, w1] at hz
  generalize hL1 : Rec.loop _ _ _ _ = L1 at hz
  obtain ⟨x1, t1, S1e, rfl, hQ1⟩ := loop_met hL1 (fun m t S' => ∃ (i c : Nat) (o : List Ct), m + c = 6 ∧ c ≤ 5 ∧ a + 1 ≤ i ∧ i ≤ b ∧ Sw a b l o ∧ Srt a i o ∧ t.get 0 = some (v) ∧ t.get 1 = some (.int .i64 (a : Int)) ∧ t.get 2 = some (.int .i64 (b : Int)) ∧ t.get 3 = some (.func (.func 71) #[] #[]) ∧ t.get 9 = some (.int .i64 (i : Int)) ∧ t.get 10 = some (.int .i64 (c : Int)) ∧ Keep v S S' ∧ Own 111 lo S' v o)
    (fun x t S' => (x = .exit 0 ∧ ∃ (o : List Ct), Sw a b l o ∧ Keep v S S' ∧ Own 111 lo S' v o) ∨ (x = .ret ∧ ∃ (o : List Ct) (y : Bool), t.get 8 = some (.bool y) ∧ Sw a b l o ∧ (y = true → Srt a b o) ∧ Keep v S S' ∧ Own 111 lo S' v o)) 6
    ⟨a + 1, 0, l, by omega, by omega, by omega, by omega, Sw.refl, Srt.small (Nat.le_refl _), by simp only [SY, eq_self, Nat.reduceBEq] <;> rfl, by simp only [SY, eq_self, Nat.reduceBEq] <;> rfl, by simp only [SY, eq_self, Nat.reduceBEq] <;> rfl, by simp only [SY, eq_self, Nat.reduceBEq] <;> rfl, by simp only [SY, eq_self, Nat.reduceBEq] <;> rfl, by simp only [SY, Nat.reduceBEq] <;> rfl, Keep.refl v S, ho⟩ (by
      rintro m t S1 ⟨i, c, o, hm, hc5, hi1, hib, hs, hr, g0, g1, g2, g3, g9, g10, kp, ow⟩
      refine .run fun z he => ?_
      have hlo := hs.len
      simp (disch := first | omega | assumption) only [E0_G, SY, off, agreeKind, Nat.reduceAdd, Nat.reduceLT, Nat.reduceBEq, store_refl E0_same, g10] at he
      rcases dP ((c : Int) < 5) with ⟨h3a, h3⟩ | ⟨h3a, h3⟩
      · skip
        simp (disch := first | omega | assumption) only [SY, store_refl E0_same, h3a] at he
        generalize hL2 : Rec.loop _ _ _ _ = L2 at he
        obtain ⟨x2, t2, S2e, rfl, hQ2⟩ := loop_met hL2 (fun m t S' => ∃ (i' : Nat), m + i' = b + 1 ∧ a + 1 ≤ i' ∧ i' ≤ b ∧ Srt a i' o ∧ t.get 0 = some (v) ∧ t.get 1 = some (.int .i64 (a : Int)) ∧ t.get 2 = some (.int .i64 (b : Int)) ∧ t.get 3 = some (.func (.func 71) #[] #[]) ∧ t.get 9 = some (.int .i64 (i' : Int)) ∧ t.get 10 = some (.int .i64 (c : Int)) ∧ Keep v S S' ∧ Own 111 lo S' v o)
          (fun x t S' => x = .exit 2 ∧ ∃ (i' : Nat), a + 1 ≤ i' ∧ i' ≤ b ∧ Srt a i' o ∧ (i' = b ∨ (lget o i').at_ < (lget o (i' - 1)).at_) ∧ t.get 0 = some (v) ∧ t.get 1 = some (.int .i64 (a : Int)) ∧ t.get 2 = some (.int .i64 (b : Int)) ∧ t.get 3 = some (.func (.func 71) #[] #[]) ∧ t.get 9 = some (.int .i64 (i' : Int)) ∧ t.get 10 = some (.int .i64 (c : Int)) ∧ Keep v S S' ∧ Own 111 lo S' v o) (b + 1 - i)
          ⟨i, by omega, by omega, by omega, hr, by simp only [SY, eq_self, Nat.reduceBEq, g0] <;> rfl, by simp only [SY, eq_self, Nat.reduceBEq, g1] <;> rfl, by simp only [SY, eq_self, Nat.reduceBEq, g2] <;> rfl, by simp only [SY, eq_self, Nat.reduceBEq, g3] <;> rfl, by simp only [SY, eq_self, Nat.reduceBEq, g9] <;> rfl, by simp only [SY, eq_self, Nat.reduceBEq, g10] <;> rfl, kp, ow⟩ (by
            clear he hL2 hL1 hz
            rintro m t S2 ⟨i', hm2, hi2, hib2, hr2, g0, g1, g2, g3, g9, g10, kp2, ow2⟩
            refine .run fun z he => ?_
            simp (disch := first | omega | assumption) only [SY, store_refl E0_same] at he
            rw [code_draws _ _ _ (by kernel_rfl)] at he
            generalize hnd1 : needy _ = nd1 at he
            rcases dP ((i' : Int) < (b : Int)) with ⟨h4a, h4⟩ | ⟨h4a, h4⟩
            · skip
              have u1 : IntKind.i64.wrap ((i' : Int) - 1) = ((i' - 1 : Nat) : Int) := by rw [IntWalk.i64_in] <;> omega
              have u2 : IntKind.i64.wrap ((i' : Int) + 1) = ((i' + 1 : Nat) : Int) := by rw [IntWalk.i64_in] <;> omega
              obtain ⟨loB, ltB, ccB, exB, hxB, hcB⟩ := own_cut ow2 hb
              obtain ⟨ofBx, hoBx, iaBx, pBx0, pBx1, pBx2⟩ := hcB (i') (by omega)
              obtain ⟨ofBy, hoBy, iaBy, pBy0, pBy1, pBy2⟩ := hcB (i' - 1) (by omega)
              obtain ⟨SC, kC, aC⟩ := c164 (lget o i').at_ (lget o i').li (lget o i').by_ (lget o (i' - 1)).at_ (lget o (i' - 1)).li (lget o (i' - 1)).by_ S2
              have sC : E0.same S2 SC = true := symEnv_same aC
              simp (disch := first | omega | assumption) only [E0_G, SY, agreeKind, vals, ldA, rdCells, aggD, Nat.reduceAdd, Nat.reduceLT, Nat.reduceBEq, TY_EvA14, store_agree, store_refl E0_same, g0, g2, g3, g9, h4a, u1, hxB, iaBx, pBx0, pBx1, pBx2, iaBy, pBy0, pBy1, pBy2, kC] at he
              rcases dP (r164 (lget o i').at_ (lget o i').li (lget o i').by_ (lget o (i' - 1)).at_ (lget o (i' - 1)).li (lget o (i' - 1)).by_ < 0) with ⟨h5a, h5⟩ | ⟨h5a, h5⟩
              · skip
                simp (disch := first | omega | assumption) only [SY, store_refl E0_same, h5a] at he
                rw [r164_lt] at h5
                exact .exit he ⟨rfl, i', hi2, hib2, hr2, .inr h5, by simp only [SY, eq_self, Nat.reduceBEq, g0] <;> rfl, by simp only [SY, eq_self, Nat.reduceBEq, g1] <;> rfl, by simp only [SY, eq_self, Nat.reduceBEq, g2] <;> rfl, by simp only [SY, eq_self, Nat.reduceBEq, g3] <;> rfl, by simp only [SY, eq_self, Nat.reduceBEq, g9] <;> rfl, by simp only [SY, eq_self, Nat.reduceBEq, g10] <;> rfl, kp2.trans (Keep.of aC), ow2.agree aC⟩
              · skip
                simp (disch := first | omega | assumption) only [E0_G, SY, off, agreeKind, Nat.reduceAdd, Nat.reduceLT, Nat.reduceBEq, store_refl E0_same, g9, h5a, u2] at he
                rw [r164_lt] at h5
                exact .next he (m - 1) (by omega) ⟨i' + 1, by omega, by omega, by omega, hr2.more (by omega) h5, by simp only [SY, eq_self, Nat.reduceBEq, g0] <;> rfl, by simp only [SY, eq_self, Nat.reduceBEq, g1] <;> rfl, by simp only [SY, eq_self, Nat.reduceBEq, g2] <;> rfl, by simp only [SY, eq_self, Nat.reduceBEq, g3] <;> rfl, by simp only [SY, eq_self, Nat.reduceBEq, g9] <;> rfl, by simp only [SY, eq_self, Nat.reduceBEq, g10] <;> rfl, kp2.trans (Keep.of aC), ow2.agree aC⟩
            · skip
              simp (disch := first | omega | assumption) only [E0_G, SY, agreeKind, Nat.reduceAdd, Nat.reduceLT, Nat.reduceBEq, store_refl E0_same, g2, g9, h4a] at he
              exact .exit he ⟨rfl, i', hi2, hib2, hr2, .inl (by omega), by simp only [SY, eq_self, Nat.reduceBEq, g0] <;> rfl, by simp only [SY, eq_self, Nat.reduceBEq, g1] <;> rfl, by simp only [SY, eq_self, Nat.reduceBEq, g2] <;> rfl, by simp only [SY, eq_self, Nat.reduceBEq, g3] <;> rfl, by simp only [SY, eq_self, Nat.reduceBEq, g9] <;> rfl, by simp only [SY, eq_self, Nat.reduceBEq, g10] <;> rfl, kp2, ow2⟩)
        obtain ⟨rfl, i2, hi2, hib2, hr2, hst2, e0, e1, e2, e3, e9, e10, kp2, ow2⟩ := hQ2
        clear g0 g1 g2 g3 g9 g10
        simp (disch := first | omega | assumption) only [E0_G, SY, off, agreeKind, eq_self, if_true, Nat.reduceAdd, Nat.reduceLT, Nat.reduceBEq, store_refl E0_same, e2, e9] at he
        rcases dP ((i2 : Int) = (b : Int)) with ⟨h4a, h4⟩ | ⟨h4a, h4⟩
        · skip
          simp (disch := first | omega | assumption) only [E0_G, SY, off, agreeKind, Nat.reduceLT, store_refl E0_same, h4a] at he
          exact .ret he (.inr ⟨rfl, o, true, by simp only [SY, eq_self, Nat.reduceBEq] <;> rfl, hs, (fun _ => by rw [show b = i2 by omega]; exact hr2), kp2, ow2⟩)
        · skip
          have hst : (lget o i2).at_ < (lget o (i2 - 1)).at_ := by omega
          simp (disch := first | omega | assumption) only [E0_G, SY, off, agreeKind, Nat.reduceAdd, Nat.reduceLT, Nat.reduceBEq, store_refl E0_same, e1, e2, h4a, w2] at he
          rcases dP (((b - a : Nat) : Int) < 50) with ⟨h5a, h5⟩ | ⟨h5a, h5⟩
          · skip
            simp (disch := first | omega | assumption) only [E0_G, SY, off, agreeKind, Nat.reduceLT, store_refl E0_same, h5a] at he
            exact .ret he (.inr ⟨rfl, o, false, by simp only [SY, eq_self, Nat.reduceBEq] <;> rfl, hs, (fun h => by cases h), kp2, ow2⟩)
          · skip
            have u1 : IntKind.i64.wrap ((i2 : Int) - 1) = ((i2 - 1 : Nat) : Int) := by rw [IntWalk.i64_in] <;> omega
            have u2 : IntKind.i64.wrap ((i2 : Int) + 1) = ((i2 + 1 : Nat) : Int) := by rw [IntWalk.i64_in] <;> omega
            have u3 : IntKind.i64.wrap ((i2 : Int) - (a : Int)) = ((i2 - a : Nat) : Int) := by rw [IntWalk.i64_in] <;> omega
            have u4 : IntKind.i64.wrap ((b : Int) - (i2 : Int)) = ((b - i2 : Nat) : Int) := by rw [IntWalk.i64_in] <;> omega
            have u5 : IntKind.i64.wrap ((c : Int) + 1) = ((c + 1 : Nat) : Int) := by rw [IntWalk.i64_in] <;> omega
            simp (disch := first | omega | assumption) only [SY, store_refl E0_same, h5a] at he
            rw [code_draws _ _ _ (by kernel_rfl)] at he
            generalize hnd2 : needy _ = nd2 at he
            obtain ⟨loD, ltD, ccD, exD, hxD, hcD⟩ := own_cut ow2 hb
            obtain ⟨ofDj, hoDj, iaDj, pDj0, pDj1, pDj2⟩ := hcD ((i2 - 1)) (by omega)
            obtain ⟨ofDi, hoDi, iaDi, pDi0, pDi1, pDi2⟩ := hcD (i2) (by omega)
            obtain ⟨SxD, SyD, exD, eyD, owD, kpD, nxD⟩ := own_swp ow2 hb (i := i2) (j := (i2 - 1)) (by omega) (by omega) hoDi hoDj
            simp (disch := first | omega | assumption) only [E0_G, SY, off, agreeKind, ldA, rdCells, aggD, Nat.reduceAdd, Nat.reduceLT, Nat.reduceBEq, TY_EvA14, store_refl E0_same, e0, e1, e9, u1, u3, hxD, iaDj, pDj0, pDj1, pDj2, iaDi, pDi0, pDi1, pDi2, exD, eyD] at he
            have hs1 : Sw a b l (swp o i2 (i2 - 1)) := Sw.step i2 (i2 - 1) hs (by omega) (by omega) (by omega) (by omega) hbl
            have hp1 := hpre.sw hs1
            have hl1 : (swp o i2 (i2 - 1)).length = l.length := hs1.len
            have hP1 : ∀ u w : Nat, a ≤ u → u < w → w ≤ i2 - 1 → w ≠ i2 - 1 → (lget (swp o i2 (i2 - 1)) u).at_ ≤ (lget (swp o i2 (i2 - 1)) w).at_ := by
              intro u w h1 h2 h3 h4
              rw [lget_swp _ _ _ _ (by omega) (by omega), lget_swp _ _ _ _ (by omega) (by omega), if_neg (by omega), if_neg (by omega), if_neg (by omega), if_neg (by omega)]
              exact hr2 u w h1 h2 (by omega)
            generalize swp o i2 (i2 - 1) = o1 at *
            have kp3 := kp2.trans kpD
            rcases dP ((2 : Int) ≤ ((i2 - a : Nat) : Int)) with ⟨h6a, h6⟩ | ⟨h6a, h6⟩
            · skip
              simp (disch := first | omega | assumption) only [E0_G, SY, off, agreeKind, Nat.reduceAdd, Nat.reduceLT, Nat.reduceBEq, store_refl E0_same, e9, u1, h6a] at he
              generalize hL3 : Rec.loop _ _ _ _ = L3 at he
              obtain ⟨x3, t3, S3e, rfl, hQ3⟩ := loop_met hL3 (fun m t S' => ∃ (j : Nat) (p : List Ct), m = j + 1 ∧ a ≤ j ∧ j ≤ i2 - 1 ∧ Sw a b o1 p ∧ (∀ u w : Nat, a ≤ u → u < w → w ≤ i2 - 1 → w ≠ j → (lget p u).at_ ≤ (lget p w).at_) ∧ t.get 0 = some (v) ∧ t.get 1 = some (.int .i64 (a : Int)) ∧ t.get 2 = some (.int .i64 (b : Int)) ∧ t.get 3 = some (.func (.func 71) #[] #[]) ∧ t.get 9 = some (.int .i64 (i2 : Int)) ∧ t.get 10 = some (.int .i64 (c : Int)) ∧ t.get 11 = some (.int .i64 (j : Int)) ∧ Keep v S S' ∧ Own 111 lo S' v p)
                (fun x t S' => x = .exit 4 ∧ ∃ (p : List Ct), Sw a b o1 p ∧ Srt a i2 p ∧ t.get 0 = some (v) ∧ t.get 1 = some (.int .i64 (a : Int)) ∧ t.get 2 = some (.int .i64 (b : Int)) ∧ t.get 3 = some (.func (.func 71) #[] #[]) ∧ t.get 9 = some (.int .i64 (i2 : Int)) ∧ t.get 10 = some (.int .i64 (c : Int)) ∧ Keep v S S' ∧ Own 111 lo S' v p) (i2 - 1 + 1)
                ⟨i2 - 1, o1, rfl, by omega, by omega, Sw.refl, hP1, by simp only [SY, eq_self, Nat.reduceBEq, e0] <;> rfl, by simp only [SY, eq_self, Nat.reduceBEq, e1] <;> rfl, by simp only [SY, eq_self, Nat.reduceBEq, e2] <;> rfl, by simp only [SY, eq_self, Nat.reduceBEq, e3] <;> rfl, by simp only [SY, eq_self, Nat.reduceBEq, e9] <;> rfl, by simp only [SY, eq_self, Nat.reduceBEq, e10] <;> rfl, by simp only [SY, eq_self, Nat.reduceBEq] <;> rfl, kp3, owD⟩ (by
                  clear he hL3 hL1 hz e0 e1 e2 e3 e9 e10
                  rintro m t S3 ⟨j, p, hm3, hj3, hji3, hs3, hP3, f0, f1, f2, f3, f9, f10, f11, kp4, ow3⟩
                  refine .run fun z he => ?_
                  have hlp := hs3.len
                  have hpp := hp1.sw hs3
                  have hii : i2 - 1 + 1 = i2 := by omega
                  simp (disch := first | omega | assumption) only [E0_G, SY, off, agreeKind, Nat.reduceAdd, Nat.reduceLT, Nat.reduceBEq, store_refl E0_same, f11] at he
                  rcases dP ((1 : Int) ≤ (j : Int)) with ⟨h8a, h8⟩ | ⟨h8a, h8⟩
                  · skip
                    have x1 : IntKind.i64.wrap ((j : Int) - 1) = ((j - 1 : Nat) : Int) := by rw [IntWalk.i64_in] <;> omega
                    simp (disch := first | omega | assumption) only [SY, store_refl E0_same, h8a] at he
                    rw [code_draws _ _ _ (by kernel_rfl)] at he
                    generalize hnd3 : needy _ = nd3 at he
                    obtain ⟨loB, ltB, ccB, exB, hxB, hcB⟩ := own_cut ow3 hb
                    obtain ⟨ofBx, hoBx, iaBx, pBx0, pBx1, pBx2⟩ := hcB (j) (by omega)
                    obtain ⟨ofBy, hoBy, iaBy, pBy0, pBy1, pBy2⟩ := hcB (j - 1) (by omega)
                    obtain ⟨SC, kC, aC⟩ := c164 (lget p j).at_ (lget p j).li (lget p j).by_ (lget p (j - 1)).at_ (lget p (j - 1)).li (lget p (j - 1)).by_ S3
                    have sC : E0.same S3 SC = true := symEnv_same aC
                    simp (disch := first | omega | assumption) only [E0_G, SY, agreeKind, vals, ldA, rdCells, aggD, Nat.reduceAdd, Nat.reduceLT, Nat.reduceBEq, TY_EvA14, store_agree, store_refl E0_same, f0, f3, f11, x1, hxB, iaBx, pBx0, pBx1, pBx2, iaBy, pBy0, pBy1, pBy2, kC] at he
                    rcases dP (r164 (lget p j).at_ (lget p j).li (lget p j).by_ (lget p (j - 1)).at_ (lget p (j - 1)).li (lget p (j - 1)).by_ < 0) with ⟨h9a, h9⟩ | ⟨h9a, h9⟩
                    · skip
                      simp (disch := first | omega | assumption) only [SY, store_refl E0_same, h9a] at he
                      rw [r164_lt] at h9
                      have haj : a < j := by
                        rcases Nat.lt_or_ge a j with h | h
                        · exact h
                        · have e : j = a := by omega
                          subst e
                          have := hpp (by omega) j (Nat.le_refl _) (by omega)
                          omega
                      have ow5 := ow3.agree aC
                      rw [code_draws _ _ _ (by kernel_rfl)] at he
                      generalize hnd4 : needy _ = nd4 at he
                      obtain ⟨loE, ltE, ccE, exE, hxE, hcE⟩ := own_cut ow5 hb
                      obtain ⟨ofEj, hoEj, iaEj, pEj0, pEj1, pEj2⟩ := hcE ((j - 1)) (by omega)
                      obtain ⟨ofEi, hoEi, iaEi, pEi0, pEi1, pEi2⟩ := hcE (j) (by omega)
                      obtain ⟨SxE, SyE, exE, eyE, owE, kpE, nxE⟩ := own_swp ow5 hb (i := j) (j := (j - 1)) (by omega) (by omega) hoEi hoEj
                      simp (disch := first | omega | assumption) only [E0_G, SY, off, agreeKind, ldA, rdCells, aggD, Nat.reduceAdd, Nat.reduceLT, Nat.reduceBEq, TY_EvA14, store_refl E0_same, f0, f11, x1, hxE, iaEj, pEj0, pEj1, pEj2, iaEi, pEi0, pEi1, pEi2, exE, eyE] at he
                      exact .next he (m - 1) (by omega) ⟨j - 1, _, by omega, by omega, by omega, Sw.step j (j - 1) hs3 (by omega) (by omega) (by omega) (by omega) (by omega), ins_step haj hji3 (by omega) hP3 h9, by simp only [SY, eq_self, Nat.reduceBEq, f0] <;> rfl, by simp only [SY, eq_self, Nat.reduceBEq, f1] <;> rfl, by simp only [SY, eq_self, Nat.reduceBEq, f2] <;> rfl, by simp only [SY, eq_self, Nat.reduceBEq, f3] <;> rfl, by simp only [SY, eq_self, Nat.reduceBEq, f9] <;> rfl, by simp only [SY, eq_self, Nat.reduceBEq, f10] <;> rfl, by simp only [SY, eq_self, Nat.reduceBEq, f11] <;> rfl, (kp4.trans (Keep.of aC)).trans kpE, owE⟩
                    · skip
                      simp (disch := first | omega | assumption) only [SY, if_false, Nat.reduceEqDiff, store_refl E0_same, h9a] at he
                      rw [r164_lt] at h9
                      exact .exit he ⟨rfl, p, hs3, hii ▸ ins_stop hji3 hP3 (.inr h9), by simp only [SY, eq_self, Nat.reduceBEq, f0] <;> rfl, by simp only [SY, eq_self, Nat.reduceBEq, f1] <;> rfl, by simp only [SY, eq_self, Nat.reduceBEq, f2] <;> rfl, by simp only [SY, eq_self, Nat.reduceBEq, f3] <;> rfl, by simp only [SY, eq_self, Nat.reduceBEq, f9] <;> rfl, by simp only [SY, eq_self, Nat.reduceBEq, f10] <;> rfl, kp4.trans (Keep.of aC), ow3.agree aC⟩
                  · skip
                    simp (disch := first | omega | assumption) only [SY, store_refl E0_same, h8a] at he
                    exact .exit he ⟨rfl, p, hs3, hii ▸ ins_stop hji3 hP3 (.inl (by omega)), by simp only [SY, eq_self, Nat.reduceBEq, f0] <;> rfl, by simp only [SY, eq_self, Nat.reduceBEq, f1] <;> rfl, by simp only [SY, eq_self, Nat.reduceBEq, f2] <;> rfl, by simp only [SY, eq_self, Nat.reduceBEq, f3] <;> rfl, by simp only [SY, eq_self, Nat.reduceBEq, f9] <;> rfl, by simp only [SY, eq_self, Nat.reduceBEq, f10] <;> rfl, kp4, ow3⟩)
              obtain ⟨rfl, o2, hs3, hr3, l0, l1, l2, l3, l9, l10, kp4', ow3⟩ := hQ3
              simp (disch := first | omega | assumption) only [E0_G, SY, off, agreeKind, eq_self, if_true, Nat.reduceAdd, Nat.reduceLT, Nat.reduceBEq, store_refl E0_same, l2, l9, u4] at he
              have hlo2 : (o2).length = l.length := ((hs1.trans hs3)).len
              rcases dP ((2 : Int) ≤ ((b - i2 : Nat) : Int)) with ⟨h7a, h7⟩ | ⟨h7a, h7⟩
              · skip
                simp (disch := first | omega | assumption) only [E0_G, SY, off, agreeKind, Nat.reduceAdd, Nat.reduceLT, Nat.reduceBEq, store_refl E0_same, l9, u2, h7a] at he
                generalize hL4 : Rec.loop _ _ _ _ = L4 at he
                obtain ⟨x4, t4, S4e, rfl, hQ4⟩ := loop_met hL4 (fun m t S' => ∃ (j : Nat) (p : List Ct), m + j = b + 1 ∧ i2 + 1 ≤ j ∧ j ≤ b ∧ Sw i2 b o2 p ∧ t.get 0 = some (v) ∧ t.get 1 = some (.int .i64 (a : Int)) ∧ t.get 2 = some (.int .i64 (b : Int)) ∧ t.get 3 = some (.func (.func 71) #[] #[]) ∧ t.get 9 = some (.int .i64 (i2 : Int)) ∧ t.get 10 = some (.int .i64 (c : Int)) ∧ t.get 12 = some (.int .i64 (j : Int)) ∧ Keep v S S' ∧ Own 111 lo S' v p)
                  (fun x t S' => x = .exit 6 ∧ ∃ (p : List Ct), Sw i2 b o2 p ∧ t.get 0 = some (v) ∧ t.get 1 = some (.int .i64 (a : Int)) ∧ t.get 2 = some (.int .i64 (b : Int)) ∧ t.get 3 = some (.func (.func 71) #[] #[]) ∧ t.get 9 = some (.int .i64 (i2 : Int)) ∧ t.get 10 = some (.int .i64 (c : Int)) ∧ Keep v S S' ∧ Own 111 lo S' v p) (b + 1 - (i2 + 1))
                  ⟨i2 + 1, o2, by omega, by omega, by omega, Sw.refl, by simp only [SY, eq_self, Nat.reduceBEq, l0] <;> rfl, by simp only [SY, eq_self, Nat.reduceBEq, l1] <;> rfl, by simp only [SY, eq_self, Nat.reduceBEq, l2] <;> rfl, by simp only [SY, eq_self, Nat.reduceBEq, l3] <;> rfl, by simp only [SY, eq_self, Nat.reduceBEq, l9] <;> rfl, by simp only [SY, eq_self, Nat.reduceBEq, l10] <;> rfl, by simp only [SY, eq_self, Nat.reduceBEq] <;> rfl, kp4', ow3⟩ (by
                    clear he hL4 hL1 hz l0 l1 l2 l3 l9 l10
                    rintro m t S4 ⟨j, p, hm4, hj4, hjb4, hs4, f0, f1, f2, f3, f9, f10, f12, kp4, ow4⟩
                    refine .run fun z he => ?_
                    have hlp := hs4.len
                    simp (disch := first | omega | assumption) only [E0_G, SY, off, agreeKind, Nat.reduceAdd, Nat.reduceLT, Nat.reduceBEq, store_refl E0_same, f2, f12] at he
                    rcases dP ((j : Int) < (b : Int)) with ⟨h8a, h8⟩ | ⟨h8a, h8⟩
                    · skip
                      have x1 : IntKind.i64.wrap ((j : Int) - 1) = ((j - 1 : Nat) : Int) := by rw [IntWalk.i64_in] <;> omega
                      have x2 : IntKind.i64.wrap ((j : Int) + 1) = ((j + 1 : Nat) : Int) := by rw [IntWalk.i64_in] <;> omega
                      simp (disch := first | omega | assumption) only [SY, store_refl E0_same, h8a] at he
                      rw [code_draws _ _ _ (by kernel_rfl)] at he
                      generalize hnd5 : needy _ = nd5 at he
                      obtain ⟨loB, ltB, ccB, exB, hxB, hcB⟩ := own_cut ow4 hb
                      obtain ⟨ofBx, hoBx, iaBx, pBx0, pBx1, pBx2⟩ := hcB (j) (by omega)
                      obtain ⟨ofBy, hoBy, iaBy, pBy0, pBy1, pBy2⟩ := hcB (j - 1) (by omega)
                      obtain ⟨SC, kC, aC⟩ := c164 (lget p j).at_ (lget p j).li (lget p j).by_ (lget p (j - 1)).at_ (lget p (j - 1)).li (lget p (j - 1)).by_ S4
                      have sC : E0.same S4 SC = true := symEnv_same aC
                      simp (disch := first | omega | assumption) only [E0_G, SY, agreeKind, vals, ldA, rdCells, aggD, Nat.reduceAdd, Nat.reduceLT, Nat.reduceBEq, TY_EvA14, store_agree, store_refl E0_same, f0, f3, f12, x1, hxB, iaBx, pBx0, pBx1, pBx2, iaBy, pBy0, pBy1, pBy2, kC] at he
                      rcases dP (r164 (lget p j).at_ (lget p j).li (lget p j).by_ (lget p (j - 1)).at_ (lget p (j - 1)).li (lget p (j - 1)).by_ < 0) with ⟨h9a, h9⟩ | ⟨h9a, h9⟩
                      · skip
                        simp (disch := first | omega | assumption) only [SY, store_refl E0_same, h9a] at he
                        have ow5 := ow4.agree aC
                        rw [code_draws _ _ _ (by kernel_rfl)] at he
                        generalize hnd6 : needy _ = nd6 at he
                        obtain ⟨loE, ltE, ccE, exE, hxE, hcE⟩ := own_cut ow5 hb
                        obtain ⟨ofEj, hoEj, iaEj, pEj0, pEj1, pEj2⟩ := hcE ((j - 1)) (by omega)
                        obtain ⟨ofEi, hoEi, iaEi, pEi0, pEi1, pEi2⟩ := hcE (j) (by omega)
                        obtain ⟨SxE, SyE, exE, eyE, owE, kpE, nxE⟩ := own_swp ow5 hb (i := j) (j := (j - 1)) (by omega) (by omega) hoEi hoEj
                        simp (disch := first | omega | assumption) only [E0_G, SY, off, agreeKind, ldA, rdCells, aggD, Nat.reduceAdd, Nat.reduceLT, Nat.reduceBEq, TY_EvA14, store_refl E0_same, f0, f12, x1, x2, hxE, iaEj, pEj0, pEj1, pEj2, iaEi, pEi0, pEi1, pEi2, exE, eyE] at he
                        exact .next he (m - 1) (by omega) ⟨j + 1, _, by omega, by omega, by omega, Sw.step j (j - 1) hs4 (by omega) (by omega) (by omega) (by omega) (by omega), by simp only [SY, eq_self, Nat.reduceBEq, f0] <;> rfl, by simp only [SY, eq_self, Nat.reduceBEq, f1] <;> rfl, by simp only [SY, eq_self, Nat.reduceBEq, f2] <;> rfl, by simp only [SY, eq_self, Nat.reduceBEq, f3] <;> rfl, by simp only [SY, eq_self, Nat.reduceBEq, f9] <;> rfl, by simp only [SY, eq_self, Nat.reduceBEq, f10] <;> rfl, by simp only [SY, eq_self, Nat.reduceBEq, f12] <;> rfl, (kp4.trans (Keep.of aC)).trans kpE, owE⟩
                      · skip
                        simp (disch := first | omega | assumption) only [SY, if_false, Nat.reduceEqDiff, store_refl E0_same, h9a] at he
                        exact .exit he ⟨rfl, p, hs4, by simp only [SY, eq_self, Nat.reduceBEq, f0] <;> rfl, by simp only [SY, eq_self, Nat.reduceBEq, f1] <;> rfl, by simp only [SY, eq_self, Nat.reduceBEq, f2] <;> rfl, by simp only [SY, eq_self, Nat.reduceBEq, f3] <;> rfl, by simp only [SY, eq_self, Nat.reduceBEq, f9] <;> rfl, by simp only [SY, eq_self, Nat.reduceBEq, f10] <;> rfl, kp4.trans (Keep.of aC), ow4.agree aC⟩
                    · skip
                      simp (disch := first | omega | assumption) only [SY, store_refl E0_same, h8a] at he
                      exact .exit he ⟨rfl, p, hs4, by simp only [SY, eq_self, Nat.reduceBEq, f0] <;> rfl, by simp only [SY, eq_self, Nat.reduceBEq, f1] <;> rfl, by simp only [SY, eq_self, Nat.reduceBEq, f2] <;> rfl, by simp only [SY, eq_self, Nat.reduceBEq, f3] <;> rfl, by simp only [SY, eq_self, Nat.reduceBEq, f9] <;> rfl, by simp only [SY, eq_self, Nat.reduceBEq, f10] <;> rfl, kp4, ow4⟩)
                obtain ⟨rfl, p, hs4, k0, k1, k2, k3, k9, k10, kp4, ow4⟩ := hQ4
                simp (disch := first | omega | assumption) only [E0_G, SY, off, agreeKind, eq_self, if_true, Nat.reduceAdd, Nat.reduceLT, Nat.reduceBEq, store_refl E0_same, k10, u5] at he
                exact .next he (m - 1) (by omega) ⟨i2, c + 1, p, by omega, by omega, hi2, hib2, ((hs1.trans hs3)).trans (hs4.mono (by omega) (Nat.le_refl _) (by omega)), (fun u w h1 h2 h3' => by rw [hs4.out u (by omega), hs4.out w (by omega)]; exact hr3 u w h1 h2 h3'), by simp only [SY, eq_self, Nat.reduceBEq, k0] <;> rfl, by simp only [SY, eq_self, Nat.reduceBEq, k1] <;> rfl, by simp only [SY, eq_self, Nat.reduceBEq, k2] <;> rfl, by simp only [SY, eq_self, Nat.reduceBEq, k3] <;> rfl, by simp only [SY, eq_self, Nat.reduceBEq, k9] <;> rfl, by simp only [SY, eq_self, Nat.reduceBEq, k10] <;> rfl, kp4, ow4⟩
              · skip
                simp (disch := first | omega | assumption) only [E0_G, SY, off, agreeKind, Nat.reduceAdd, Nat.reduceLT, Nat.reduceBEq, store_refl E0_same, l10, u5, h7a] at he
                exact .next he (m - 1) (by omega) ⟨i2, c + 1, o2, by omega, by omega, hi2, hib2, (hs1.trans hs3), hr3, by simp only [SY, eq_self, Nat.reduceBEq, l0] <;> rfl, by simp only [SY, eq_self, Nat.reduceBEq, l1] <;> rfl, by simp only [SY, eq_self, Nat.reduceBEq, l2] <;> rfl, by simp only [SY, eq_self, Nat.reduceBEq, l3] <;> rfl, by simp only [SY, eq_self, Nat.reduceBEq, l9] <;> rfl, by simp only [SY, eq_self, Nat.reduceBEq, l10] <;> rfl, kp4', ow3⟩
            · skip
              simp (disch := first | omega | assumption) only [E0_G, SY, off, agreeKind, Nat.reduceAdd, Nat.reduceLT, Nat.reduceBEq, store_refl E0_same, e2, e9, u4, h6a] at he
              have hlo2 : (o1).length = l.length := (hs1).len
              rcases dP ((2 : Int) ≤ ((b - i2 : Nat) : Int)) with ⟨h7a, h7⟩ | ⟨h7a, h7⟩
              · skip
                simp (disch := first | omega | assumption) only [E0_G, SY, off, agreeKind, Nat.reduceAdd, Nat.reduceLT, Nat.reduceBEq, store_refl E0_same, e9, u2, h7a] at he
                generalize hL4 : Rec.loop _ _ _ _ = L4 at he
                obtain ⟨x4, t4, S4e, rfl, hQ4⟩ := loop_met hL4 (fun m t S' => ∃ (j : Nat) (p : List Ct), m + j = b + 1 ∧ i2 + 1 ≤ j ∧ j ≤ b ∧ Sw i2 b o1 p ∧ t.get 0 = some (v) ∧ t.get 1 = some (.int .i64 (a : Int)) ∧ t.get 2 = some (.int .i64 (b : Int)) ∧ t.get 3 = some (.func (.func 71) #[] #[]) ∧ t.get 9 = some (.int .i64 (i2 : Int)) ∧ t.get 10 = some (.int .i64 (c : Int)) ∧ t.get 12 = some (.int .i64 (j : Int)) ∧ Keep v S S' ∧ Own 111 lo S' v p)
                  (fun x t S' => x = .exit 6 ∧ ∃ (p : List Ct), Sw i2 b o1 p ∧ t.get 0 = some (v) ∧ t.get 1 = some (.int .i64 (a : Int)) ∧ t.get 2 = some (.int .i64 (b : Int)) ∧ t.get 3 = some (.func (.func 71) #[] #[]) ∧ t.get 9 = some (.int .i64 (i2 : Int)) ∧ t.get 10 = some (.int .i64 (c : Int)) ∧ Keep v S S' ∧ Own 111 lo S' v p) (b + 1 - (i2 + 1))
                  ⟨i2 + 1, o1, by omega, by omega, by omega, Sw.refl, by simp only [SY, eq_self, Nat.reduceBEq, e0] <;> rfl, by simp only [SY, eq_self, Nat.reduceBEq, e1] <;> rfl, by simp only [SY, eq_self, Nat.reduceBEq, e2] <;> rfl, by simp only [SY, eq_self, Nat.reduceBEq, e3] <;> rfl, by simp only [SY, eq_self, Nat.reduceBEq, e9] <;> rfl, by simp only [SY, eq_self, Nat.reduceBEq, e10] <;> rfl, by simp only [SY, eq_self, Nat.reduceBEq] <;> rfl, kp3, owD⟩ (by
                    clear he hL4 hL1 hz e0 e1 e2 e3 e9 e10
                    rintro m t S4 ⟨j, p, hm4, hj4, hjb4, hs4, f0, f1, f2, f3, f9, f10, f12, kp4, ow4⟩
                    refine .run fun z he => ?_
                    have hlp := hs4.len
                    simp (disch := first | omega | assumption) only [E0_G, SY, off, agreeKind, Nat.reduceAdd, Nat.reduceLT, Nat.reduceBEq, store_refl E0_same, f2, f12] at he
                    rcases dP ((j : Int) < (b : Int)) with ⟨h8a, h8⟩ | ⟨h8a, h8⟩
                    · skip
                      have x1 : IntKind.i64.wrap ((j : Int) - 1) = ((j - 1 : Nat) : Int) := by rw [IntWalk.i64_in] <;> omega
                      have x2 : IntKind.i64.wrap ((j : Int) + 1) = ((j + 1 : Nat) : Int) := by rw [IntWalk.i64_in] <;> omega
                      simp (disch := first | omega | assumption) only [SY, store_refl E0_same, h8a] at he
                      rw [code_draws _ _ _ (by kernel_rfl)] at he
                      generalize hnd7 : needy _ = nd7 at he
                      obtain ⟨loB, ltB, ccB, exB, hxB, hcB⟩ := own_cut ow4 hb
                      obtain ⟨ofBx, hoBx, iaBx, pBx0, pBx1, pBx2⟩ := hcB (j) (by omega)
                      obtain ⟨ofBy, hoBy, iaBy, pBy0, pBy1, pBy2⟩ := hcB (j - 1) (by omega)
                      obtain ⟨SC, kC, aC⟩ := c164 (lget p j).at_ (lget p j).li (lget p j).by_ (lget p (j - 1)).at_ (lget p (j - 1)).li (lget p (j - 1)).by_ S4
                      have sC : E0.same S4 SC = true := symEnv_same aC
                      simp (disch := first | omega | assumption) only [E0_G, SY, agreeKind, vals, ldA, rdCells, aggD, Nat.reduceAdd, Nat.reduceLT, Nat.reduceBEq, TY_EvA14, store_agree, store_refl E0_same, f0, f3, f12, x1, hxB, iaBx, pBx0, pBx1, pBx2, iaBy, pBy0, pBy1, pBy2, kC] at he
                      rcases dP (r164 (lget p j).at_ (lget p j).li (lget p j).by_ (lget p (j - 1)).at_ (lget p (j - 1)).li (lget p (j - 1)).by_ < 0) with ⟨h9a, h9⟩ | ⟨h9a, h9⟩
                      · skip
                        simp (disch := first | omega | assumption) only [SY, store_refl E0_same, h9a] at he
                        have ow5 := ow4.agree aC
                        rw [code_draws _ _ _ (by kernel_rfl)] at he
                        generalize hnd8 : needy _ = nd8 at he
                        obtain ⟨loE, ltE, ccE, exE, hxE, hcE⟩ := own_cut ow5 hb
                        obtain ⟨ofEj, hoEj, iaEj, pEj0, pEj1, pEj2⟩ := hcE ((j - 1)) (by omega)
                        obtain ⟨ofEi, hoEi, iaEi, pEi0, pEi1, pEi2⟩ := hcE (j) (by omega)
                        obtain ⟨SxE, SyE, exE, eyE, owE, kpE, nxE⟩ := own_swp ow5 hb (i := j) (j := (j - 1)) (by omega) (by omega) hoEi hoEj
                        simp (disch := first | omega | assumption) only [E0_G, SY, off, agreeKind, ldA, rdCells, aggD, Nat.reduceAdd, Nat.reduceLT, Nat.reduceBEq, TY_EvA14, store_refl E0_same, f0, f12, x1, x2, hxE, iaEj, pEj0, pEj1, pEj2, iaEi, pEi0, pEi1, pEi2, exE, eyE] at he
                        exact .next he (m - 1) (by omega) ⟨j + 1, _, by omega, by omega, by omega, Sw.step j (j - 1) hs4 (by omega) (by omega) (by omega) (by omega) (by omega), by simp only [SY, eq_self, Nat.reduceBEq, f0] <;> rfl, by simp only [SY, eq_self, Nat.reduceBEq, f1] <;> rfl, by simp only [SY, eq_self, Nat.reduceBEq, f2] <;> rfl, by simp only [SY, eq_self, Nat.reduceBEq, f3] <;> rfl, by simp only [SY, eq_self, Nat.reduceBEq, f9] <;> rfl, by simp only [SY, eq_self, Nat.reduceBEq, f10] <;> rfl, by simp only [SY, eq_self, Nat.reduceBEq, f12] <;> rfl, (kp4.trans (Keep.of aC)).trans kpE, owE⟩
                      · skip
                        simp (disch := first | omega | assumption) only [SY, if_false, Nat.reduceEqDiff, store_refl E0_same, h9a] at he
                        exact .exit he ⟨rfl, p, hs4, by simp only [SY, eq_self, Nat.reduceBEq, f0] <;> rfl, by simp only [SY, eq_self, Nat.reduceBEq, f1] <;> rfl, by simp only [SY, eq_self, Nat.reduceBEq, f2] <;> rfl, by simp only [SY, eq_self, Nat.reduceBEq, f3] <;> rfl, by simp only [SY, eq_self, Nat.reduceBEq, f9] <;> rfl, by simp only [SY, eq_self, Nat.reduceBEq, f10] <;> rfl, kp4.trans (Keep.of aC), ow4.agree aC⟩
                    · skip
                      simp (disch := first | omega | assumption) only [SY, store_refl E0_same, h8a] at he
                      exact .exit he ⟨rfl, p, hs4, by simp only [SY, eq_self, Nat.reduceBEq, f0] <;> rfl, by simp only [SY, eq_self, Nat.reduceBEq, f1] <;> rfl, by simp only [SY, eq_self, Nat.reduceBEq, f2] <;> rfl, by simp only [SY, eq_self, Nat.reduceBEq, f3] <;> rfl, by simp only [SY, eq_self, Nat.reduceBEq, f9] <;> rfl, by simp only [SY, eq_self, Nat.reduceBEq, f10] <;> rfl, kp4, ow4⟩)
                obtain ⟨rfl, p, hs4, k0, k1, k2, k3, k9, k10, kp4, ow4⟩ := hQ4
                simp (disch := first | omega | assumption) only [E0_G, SY, off, agreeKind, eq_self, if_true, Nat.reduceAdd, Nat.reduceLT, Nat.reduceBEq, store_refl E0_same, k10, u5] at he
                exact .next he (m - 1) (by omega) ⟨i2, c + 1, p, by omega, by omega, hi2, hib2, (hs1).trans (hs4.mono (by omega) (Nat.le_refl _) (by omega)), (fun u w h1 h2 h3' => by rw [hs4.out u (by omega), hs4.out w (by omega)]; exact (Srt.small (by omega)) u w h1 h2 h3'), by simp only [SY, eq_self, Nat.reduceBEq, k0] <;> rfl, by simp only [SY, eq_self, Nat.reduceBEq, k1] <;> rfl, by simp only [SY, eq_self, Nat.reduceBEq, k2] <;> rfl, by simp only [SY, eq_self, Nat.reduceBEq, k3] <;> rfl, by simp only [SY, eq_self, Nat.reduceBEq, k9] <;> rfl, by simp only [SY, eq_self, Nat.reduceBEq, k10] <;> rfl, kp4, ow4⟩
              · skip
                simp (disch := first | omega | assumption) only [E0_G, SY, off, agreeKind, Nat.reduceAdd, Nat.reduceLT, Nat.reduceBEq, store_refl E0_same, e10, u5, h7a] at he
                exact .next he (m - 1) (by omega) ⟨i2, c + 1, o1, by omega, by omega, hi2, hib2, hs1, (Srt.small (by omega)), by simp only [SY, eq_self, Nat.reduceBEq, e0] <;> rfl, by simp only [SY, eq_self, Nat.reduceBEq, e1] <;> rfl, by simp only [SY, eq_self, Nat.reduceBEq, e2] <;> rfl, by simp only [SY, eq_self, Nat.reduceBEq, e3] <;> rfl, by simp only [SY, eq_self, Nat.reduceBEq, e9] <;> rfl, by simp only [SY, eq_self, Nat.reduceBEq, e10] <;> rfl, kp3, owD⟩
      · skip
        simp (disch := first | omega | assumption) only [SY, store_refl E0_same, h3a] at he
        exact .exit he (.inl ⟨rfl, o, hs, kp, ow⟩))
  rcases hQ1 with ⟨rfl, o, hs, kp, ow⟩ | ⟨rfl, o, y, g8, hs, hr, kp, ow⟩
  · skip
    simp (disch := first | omega | assumption) only [E0_G, SY, off, agreeKind, eq_self, if_true, Nat.reduceLT, Nat.reduceBEq, store_refl E0_same] at hz
    exact ⟨_, o, false, hz.symm, kp, ow, hs, fun h => by cases h⟩
  · skip
    simp (disch := first | omega | assumption) only [SY, store_refl E0_same, g8] at hz
    exact ⟨_, o, y, hz.symm, kp, ow, hs, hr⟩
end Great
end Go.Proofs
