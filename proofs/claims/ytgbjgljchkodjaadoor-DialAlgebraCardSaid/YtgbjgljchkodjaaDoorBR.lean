/-
  BR: EvQ5, EvQ6, EvQ7.
-/
import Derived.Test.YtgbjgljchkodjaaDoorBQ
section
/-
  The great seat of stage 1: cuts in place: by a heap.
-/
set_option linter.unusedSimpArgs false
set_option linter.unusedVariables false
namespace Go.Proofs
namespace Great
open Go Go.RowKit Go.Aev
set_option maxRecDepth 100000
theorem heap_max {f hi : Nat} {l : List Ct} (h : Hp f 0 hi l) : ∀ j : Nat, j < hi → (lget l (f + j)).at_ ≤ (lget l (f + 0)).at_ := by
  intro j
  induction j using Nat.strongRecOn with
  | ind j ih =>
    intro hj
    cases j with
    | zero => exact Int.le_refl _
    | succ j =>
      have h1 := h (j / 2) (j + 1) (Nat.zero_le _) (by omega) hj
      have h2 := ih (j / 2) (by omega) (by omega)
      omega
theorem heap_swap {f k : Nat} {l : List Ct} (h : Hp f 0 k l) (hk : 1 ≤ k) (hl : f + k ≤ l.length) : Hp f 1 (k - 1) (swp l f (f + (k - 1))) := by
  intro n c h1 h2 h3
  rw [lget_swp _ _ _ _ (by omega) (by omega), lget_swp _ _ _ _ (by omega) (by omega), if_neg (by omega), if_neg (by omega), if_neg (by omega), if_neg (by omega)]
  exact h n c (by omega) h2 (by omega)
/-- The greatest element goes to the end of the heap. -/
theorem heap_take {a b k : Nat} {o o2 : List Ct} (hk : 1 ≤ k) (hab : a + k ≤ b) (hb : b ≤ o.length) (hH : Hp a 0 k o) (ht : Srt (a + k) b o) (hc : ∀ u v : Nat, a ≤ u → u < a + k → a + k ≤ v → v < b → (lget o u).at_ ≤ (lget o v).at_)
    (hs : Sw a (a + (k - 1)) (swp o a (a + (k - 1))) o2) : Srt (a + (k - 1)) b o2 ∧ ∀ u v : Nat, a ≤ u → u < a + (k - 1) → a + (k - 1) ≤ v → v < b → (lget o2 u).at_ ≤ (lget o2 v).at_ := by
  have g := fun q => lget_swp o a (a + (k - 1)) q (by omega) (by omega)
  have hmax := heap_max hH
  have far : ∀ v, a + (k - 1) < v → lget o2 v = lget o v := fun v hv => by
    rw [hs.out v (by omega), g, if_neg (by omega), if_neg (by omega)]
  have top : lget o2 (a + (k - 1)) = lget o a := by rw [hs.out _ (by omega), g, if_pos rfl]
  constructor
  · intro u v h1 h2 h3
    by_cases e : u = a + (k - 1)
    · subst e
      rw [top, far v h2]
      exact hc a v (Nat.le_refl _) (by omega) (by omega) h3
    · rw [far u (by omega), far v (by omega)]
      exact ht u v (by omega) h2 h3
  · intro u v h1 h2 h3 h4
    refine hs.all (P := fun x => x.at_ ≤ (lget o2 v).at_) (fun q q1 q2 => ?_) u h1 h2
    rw [g, if_neg (by omega)]
    by_cases e : v = a + (k - 1)
    · subst e
      rw [top]
      by_cases e2 : a = q
      · rw [if_pos e2]; exact hmax (k - 1) (by omega)
      · rw [if_neg e2]
        have := hmax (q - a) (by omega)
        rw [show a + (q - a) = q by omega] at this
        exact this
    · rw [far v (by omega)]
      by_cases e2 : a = q
      · rw [if_pos e2]; exact hc (a + (k - 1)) v (by omega) (by omega) (by omega) h4
      · rw [if_neg e2]; exact hc q v q1 (by omega) (by omega) h4
set_option maxHeartbeats 8000000 in
theorem c195 (l : List Ct) (hn : l.length ≤ 1000) (lo : Nat) (S : AS) (v : Value) (ho : Own 111 lo S v l) (id : Nat) (hb : blkOf v = some id) (a b : Nat) (hab : a < b) (hbl : b ≤ l.length) :
    ∃ S' l', (evL Tryd.prog E0).call 85 #[v, .int .i64 (a : Int), .int .i64 (b : Int), .func (.func 71) #[] #[]] S = some (.tuple #[], S') ∧ Keep v S S' ∧ Own 111 lo S' v l' ∧ Sw a b l l' ∧ Srt a b l' := by
  generalize hz : (evL Tryd.prog E0).call 85 _ _ = z
  rw [L_call, evCall_said rfl Tryd.func85 rfl (by decide) Tryd.ntmps85 Tryd.results85] at hz
  have w0 : IntKind.i64.wrap ((b : Int) - (a : Int)) = ((b - a : Nat) : Int) := by rw [IntWalk.i64_in] <;> omega
  have w1 : IntKind.i64.wrap (((b - a : Nat) : Int) - 1) = ((b - a - 1 : Nat) : Int) := by rw [IntWalk.i64_in] <;> omega
  have w2 : IntKind.i64.wrap (Int.tdiv ((b - a - 1 : Nat) : Int) 2) = (((b - a - 1) / 2 + 1 : Nat) : Int) - 1 := by rw [show Int.tdiv ((b - a - 1 : Nat) : Int) 2 = (((b - a - 1) / 2 : Nat) : Int) from rfl, IntWalk.i64_in] <;> omega
  simp (disch := first | omega | assumption) only [E0_G, SY, setArgs, off, agreeKind, Nat.reduceAdd, Nat.reduceSub, Nat.reduceLT, Nat.reduceBEq, Int.reduceEq, store_refl E0_same, w0, w1, w2] at hz
  generalize hL1 : Rec.loop _ _ _ _ = L1 at hz
  obtain ⟨x1, t1, S1e, rfl, hQ1⟩ := loop_met hL1 (fun m t S' => ∃ (k : Nat) (o : List Ct), m = k ∧ k ≤ b - a ∧ Sw a b l o ∧ Hp a k (b - a) o ∧ t.get 0 = some (v) ∧ t.get 3 = some (.func (.func 71) #[] #[]) ∧ t.get 8 = some (.int .i64 (a : Int)) ∧ t.get 9 = some (.int .i64 0) ∧ t.get 10 = some (.int .i64 ((b - a : Nat) : Int)) ∧ t.get 11 = some (.int .i64 ((k : Int) - 1)) ∧ Keep v S S' ∧ Own 111 lo S' v o)
    (fun x t S' => x = .exit 0 ∧ ∃ (o : List Ct), Sw a b l o ∧ Hp a 0 (b - a) o ∧ t.get 0 = some (v) ∧ t.get 3 = some (.func (.func 71) #[] #[]) ∧ t.get 8 = some (.int .i64 (a : Int)) ∧ t.get 9 = some (.int .i64 0) ∧ t.get 10 = some (.int .i64 ((b - a : Nat) : Int)) ∧ Keep v S S' ∧ Own 111 lo S' v o) ((b - a - 1) / 2 + 1)
    ⟨(b - a - 1) / 2 + 1, l, rfl, by omega, Sw.refl, (fun k c h1 h2 h3 => by omega), by simp only [SY, eq_self, Nat.reduceBEq] <;> rfl, by simp only [SY, eq_self, Nat.reduceBEq] <;> rfl, by simp only [SY, eq_self, Nat.reduceBEq] <;> rfl, by simp only [SY, eq_self, Nat.reduceBEq] <;> rfl, by simp only [SY, eq_self, Nat.reduceBEq] <;> rfl, by simp only [SY, eq_self, Nat.reduceBEq] <;> rfl, Keep.refl v S, ho⟩ (by
      rintro m t S1 ⟨k, o, hm, hk, hs, hh, g0, g3, g8, g9, g10, g11, kp, ow⟩
      refine .run fun z he => ?_
      have hlo := hs.len
      simp (disch := first | omega | assumption) only [E0_G, SY, off, agreeKind, Nat.reduceAdd, Nat.reduceLT, Nat.reduceBEq, store_refl E0_same, g11] at he
      rcases dP ((0 : Int) ≤ (k : Int) - 1) with ⟨h3a, h3⟩ | ⟨h3a, h3⟩
      · skip
        obtain ⟨S2, o2, k2, kp2, ow2, hs2, hh2⟩ := c214 o (by omega) lo S1 v ow id hb (k - 1) (b - a) a (by omega) (by omega) (by rw [show k - 1 + 1 = k by omega]; exact hh)
        have k2' : (evL Tryd.prog E0).call 98 #[v, .int .i64 ((k : Int) - 1), .int .i64 ((b - a : Nat) : Int), .int .i64 (a : Int), .func (.func 71) #[] #[]] S1 = some (.tuple #[], S2) := by rw [show (k : Int) - 1 = ((k - 1 : Nat) : Int) by omega]; exact k2
        have w3 : IntKind.i64.wrap ((k : Int) - 1 - 1) = ((k - 1 : Nat) : Int) - 1 := by rw [IntWalk.i64_in] <;> omega
        simp (disch := first | omega | assumption) only [E0_G, SY, off, agreeKind, vals, Nat.reduceAdd, Nat.reduceLT, Nat.reduceBEq, store_refl E0_same, g0, g3, g8, g10, g11, h3a, k2', w3] at he
        exact .next he (m - 1) (by omega) ⟨k - 1, o2, by omega, by omega, hs.trans (hs2.mono (Nat.le_refl _) (by omega) (by omega)), hh2, by simp only [SY, eq_self, Nat.reduceBEq, g0] <;> rfl, by simp only [SY, eq_self, Nat.reduceBEq, g3] <;> rfl, by simp only [SY, eq_self, Nat.reduceBEq, g8] <;> rfl, by simp only [SY, eq_self, Nat.reduceBEq, g9] <;> rfl, by simp only [SY, eq_self, Nat.reduceBEq, g10] <;> rfl, by simp only [SY, eq_self, Nat.reduceBEq, g11] <;> rfl, kp.trans kp2, ow2⟩
      · skip
        simp (disch := first | omega | assumption) only [SY, store_refl E0_same, h3a] at he
        exact .exit he ⟨rfl, o, hs, by rw [show (0 : Nat) = k by omega]; exact hh, by simp only [SY, eq_self, Nat.reduceBEq, g0] <;> rfl, by simp only [SY, eq_self, Nat.reduceBEq, g3] <;> rfl, by simp only [SY, eq_self, Nat.reduceBEq, g8] <;> rfl, by simp only [SY, eq_self, Nat.reduceBEq, g9] <;> rfl, by simp only [SY, eq_self, Nat.reduceBEq, g10] <;> rfl, kp, ow⟩)
  obtain ⟨rfl, o1, hs1, hh1, g0, g3, g8, g9, g10, kp1, ow1⟩ := hQ1
  have w4 : IntKind.i64.wrap (((b - a : Nat) : Int) - 1) = ((b - a : Nat) : Int) - 1 := by rw [IntWalk.i64_in] <;> omega
  simp (disch := first | omega | assumption) only [E0_G, SY, off, agreeKind, eq_self, if_true, Nat.reduceAdd, Nat.reduceLT, Nat.reduceBEq, store_refl E0_same, g10, w4] at hz
  generalize hL2 : Rec.loop _ _ _ _ = L2 at hz
  obtain ⟨x2, t2, S2e, rfl, hQ2⟩ := loop_met hL2 (fun m t S' => ∃ (k : Nat) (o : List Ct), m = k ∧ k ≤ b - a ∧ Sw a b l o ∧ Hp a 0 k o ∧ Srt (a + k) b o ∧ (∀ u v : Nat, a ≤ u → u < a + k → a + k ≤ v → v < b → (lget o u).at_ ≤ (lget o v).at_) ∧ t.get 0 = some (v) ∧ t.get 3 = some (.func (.func 71) #[] #[]) ∧ t.get 8 = some (.int .i64 (a : Int)) ∧ t.get 9 = some (.int .i64 0) ∧ t.get 12 = some (.int .i64 ((k : Int) - 1)) ∧ Keep v S S' ∧ Own 111 lo S' v o)
    (fun x t S' => x = .exit 2 ∧ ∃ (o : List Ct), Sw a b l o ∧ Srt a b o ∧ Keep v S S' ∧ Own 111 lo S' v o) (b - a)
    ⟨b - a, o1, rfl, by omega, hs1, hh1, (fun u w h1 h2 h3 => by omega), (fun u w h1 h2 h3 h4 => by omega), by simp only [SY, eq_self, Nat.reduceBEq, g0] <;> rfl, by simp only [SY, eq_self, Nat.reduceBEq, g3] <;> rfl, by simp only [SY, eq_self, Nat.reduceBEq, g8] <;> rfl, by simp only [SY, eq_self, Nat.reduceBEq, g9] <;> rfl, by simp only [SY, eq_self, Nat.reduceBEq] <;> rfl, kp1, ow1⟩ (by
      rintro m t S1 ⟨k, o, hm, hk, hs, hh, ht, hc, g0, g3, g8, g9, g12, kp, ow⟩
      refine .run fun z he => ?_
      have hlo := hs.len
      simp (disch := first | omega | assumption) only [E0_G, SY, off, agreeKind, Nat.reduceAdd, Nat.reduceLT, Nat.reduceBEq, store_refl E0_same, g12] at he
      rcases dP ((0 : Int) ≤ (k : Int) - 1) with ⟨h3a, h3⟩ | ⟨h3a, h3⟩
      · skip
        have w5 : IntKind.i64.wrap ((a : Int) + ((k : Int) - 1)) = ((a + (k - 1) : Nat) : Int) := by rw [IntWalk.i64_in] <;> omega
        have w3 : IntKind.i64.wrap ((k : Int) - 1 - 1) = ((k - 1 : Nat) : Int) - 1 := by rw [IntWalk.i64_in] <;> omega
        simp (disch := first | omega | assumption) only [SY, store_refl E0_same, h3a] at he
        rw [code_draws _ _ _ (by kernel_rfl)] at he
        generalize hnd1 : needy _ = nd1 at he
        obtain ⟨loD, ltD, ccD, exD, hxD, hcD⟩ := own_cut ow hb
        obtain ⟨ofDj, hoDj, iaDj, pDj0, pDj1, pDj2⟩ := hcD ((a + (k - 1))) (by omega)
        obtain ⟨ofDi, hoDi, iaDi, pDi0, pDi1, pDi2⟩ := hcD (a) (by omega)
        obtain ⟨SxD, SyD, exD, eyD, owD, kpD, nxD⟩ := own_swp ow hb (i := a) (j := (a + (k - 1))) (by omega) (by omega) hoDi hoDj
        simp (disch := first | omega | assumption) only [E0_G, SY, off, agreeKind, vals, ldA, rdCells, aggD, Nat.reduceAdd, Nat.reduceLT, Nat.reduceBEq, TY_EvA14, store_refl E0_same, g0, g3, g8, g9, g12, w5, hxD, iaDj, pDj0, pDj1, pDj2, iaDi, pDi0, pDi1, pDi2, exD, eyD] at he
        obtain ⟨S2, o2, k2, kp2, ow2, hs2, hh2⟩ := c214 _ (by rw [swp_len]; omega) lo SyD v owD id hb 0 (k - 1) a (by rw [swp_len]; omega) (by omega) (heap_swap hh (by omega) (by omega))
        have k2' : (evL Tryd.prog E0).call 98 #[v, .int .i64 0, .int .i64 ((k : Int) - 1), .int .i64 (a : Int), .func (.func 71) #[] #[]] SyD = some (.tuple #[], S2) := by rw [show (k : Int) - 1 = ((k - 1 : Nat) : Int) by omega]; exact k2
        simp (disch := first | omega | assumption) only [E0_G, SY, off, agreeKind, Nat.reduceAdd, Nat.reduceLT, Nat.reduceBEq, store_refl E0_same, g12, k2', w3] at he
        obtain ⟨t1', t2'⟩ := heap_take (by omega) (by omega) (by omega) hh ht hc hs2
        exact .next he (m - 1) (by omega) ⟨k - 1, o2, by omega, by omega, (Sw.step a (a + (k - 1)) hs (by omega) (by omega) (by omega) (by omega) hbl).trans (hs2.mono (Nat.le_refl _) (by omega) (by rw [swp_len]; omega)), hh2, t1', t2', by simp only [SY, eq_self, Nat.reduceBEq, g0] <;> rfl, by simp only [SY, eq_self, Nat.reduceBEq, g3] <;> rfl, by simp only [SY, eq_self, Nat.reduceBEq, g8] <;> rfl, by simp only [SY, eq_self, Nat.reduceBEq, g9] <;> rfl, by simp only [SY, eq_self, Nat.reduceBEq, g12] <;> rfl, (kp.trans kpD).trans kp2, ow2⟩
      · skip
        simp (disch := first | omega | assumption) only [SY, store_refl E0_same, h3a] at he
        exact .exit he ⟨rfl, o, hs, fun u w h1 h2 h3' => ht u w (by omega) h2 h3', kp, ow⟩)
  obtain ⟨rfl, o, hs, hr, kp, ow⟩ := hQ2
  simp (disch := first | omega | assumption) only [SY, eq_self, if_true, store_refl E0_same] at hz
  exact ⟨_, o, hz.symm, kp, ow, hs, hr⟩
end Great
end Go.Proofs
end
section
/-
  The great seat of stage 1: cuts in place: the pivot.
-/
set_option linter.unusedSimpArgs false
set_option linter.unusedVariables false
namespace Go.Proofs
namespace Great
open Go Go.RowKit Go.Aev
set_option maxRecDepth 100000
section
variable {P : Program} {E : Env} {r : Rec}
variable (dst : Option Tmp) (ty : TypeId) (pos : String) (after : Array Edge) (g : Option (Nat × Bool)) (f : Fr) (S : AS)
def nilV : Value → Option Value
  | .pointer (some a) => some (.pointer (some a))
  | _ => none
theorem nilV_some (a : Addr) : nilV (.pointer (some a)) = some (.pointer (some a)) := rfl
theorem op_nilCheck (x : Operand) : evOp P E r ⟨dst, .nilCheck x, ty, pos, after, g⟩ f S = firstOf ((f.val E.G x).bind fun v => (nilV v).map fun u => (u, S)) (evOpB P E r ⟨dst, .nilCheck x, ty, pos, after, g⟩ f S) := by
  refine firstOf_of fun z hz => ?_
  obtain ⟨v, hv, hz⟩ := Option.bind_eq_some_iff.1 hz
  obtain ⟨u, hu, rfl⟩ := Option.map_eq_some_iff.1 hz
  unfold nilV at hu
  split at hu
  · cases hu
    exact op_struct1 (z := (some _, S)) dst ty pos after g f S rfl (by simp) (by simp) (by simp) (by simp) hv (by simp [evStruct, hv])
  · simp at hu
end
/-- What is not the cell p stays. -/
def Kc (p : Nat) (S S' : AS) : Prop := S.next ≤ S'.next ∧ ∀ q, q < S.next → q ≠ p → S'.heap.get q = S.heap.get q
theorem Kc.refl (p : Nat) (S : AS) : Kc p S S := ⟨Nat.le_refl _, fun _ _ _ => rfl⟩
theorem Kc.trans {p : Nat} {S S' S2 : AS} (h : Kc p S S') (h' : Kc p S' S2) : Kc p S S2 := ⟨Nat.le_trans h.1 h'.1, fun q hq hn => (h'.2 q (Nat.lt_of_lt_of_le hq h.1) hn).trans (h.2 q hq hn)⟩
theorem Kc.own {p lo : Nat} {S S' : AS} {v : Value} {l : List Ct} (h : Kc p S S') (ho : Own 111 lo S v l) (hp : blkOf v ≠ some p) : Own 111 lo S' v l := ho.frame h.1 fun id hid hb => h.2 id hid (fun e => hp (by rw [← e]; exact hb))
set_option maxHeartbeats 4000000 in
theorem c222 (l : List Ct) (lo : Nat) (S : AS) (v : Value) (ho : Own 111 lo S v l) (id : Nat) (hb : blkOf v = some id) (a b : Nat) (ha : a < l.length) (hbl : b < l.length) (p : Nat) (w : Int) (hp : S.heap.get p = some (.cells [.int .i64 w] 3 0 true true)) (lp : p < S.next) (np : id ≠ p) :
    ∃ S' x y w', (evL Tryd.prog E0).call 105 #[v, .int .i64 (a : Int), .int .i64 (b : Int), .pointer (some ⟨p, 0, none⟩), .func (.func 71) #[] #[]] S = some (.tuple #[.int .i64 ((x : Nat) : Int), .int .i64 ((y : Nat) : Int)], S') ∧ ((x = a ∧ y = b) ∨ (x = b ∧ y = a)) ∧ Kc p S S' ∧ S'.heap.get p = some (.cells [.int .i64 w'] 3 0 true true) := by
  generalize hz : (evL Tryd.prog E0).call 105 _ _ = z
  rw [L_call, evCall_said rfl Tryd.func105 rfl (by decide) Tryd.ntmps105 Tryd.results105] at hz
  simp (disch := first | omega | assumption) only [E0_G, SY, setArgs, off, agreeKind, partVals, vals, allocV, boxed, ldA, rdCells, oneB, aggD, aField, aFieldV, aExtract, eq_self, ne_eq, if_true, if_false, not_false_eq_true, Nat.reduceAdd, Nat.reduceSub, Nat.reduceMul, Nat.reduceLT, Nat.reduceEqDiff, Nat.reduceBEq, reduceIte, Int.reduceEq, Int.reduceLT, Int.reduceLE, reduceCtorEq, TY_EvA14] at hz
  rw [code_draws _ _ _ (by kernel_rfl)] at hz
  generalize hnd1 : needy _ = nd1 at hz
  obtain ⟨loB, ltB, ccB, exB, hxB, hcB⟩ := own_cut ho hb
  obtain ⟨ofBx, hoBx, iaBx, pBx0, pBx1, pBx2⟩ := hcB (b) (by omega)
  obtain ⟨ofBy, hoBy, iaBy, pBy0, pBy1, pBy2⟩ := hcB (a) (by omega)
  obtain ⟨SC, kC, aC⟩ := c164 (lget l b).at_ (lget l b).li (lget l b).by_ (lget l a).at_ (lget l a).li (lget l a).by_ S
  have sC : E0.same S SC = true := symEnv_same aC
  simp (disch := first | omega | assumption) only [E0_G, SY, setArgs, off, agreeKind, partVals, vals, allocV, boxed, ldA, rdCells, oneB, aggD, aField, aFieldV, aExtract, eq_self, ne_eq, if_true, if_false, not_false_eq_true, Nat.reduceAdd, Nat.reduceSub, Nat.reduceMul, Nat.reduceLT, Nat.reduceEqDiff, Nat.reduceBEq, reduceIte, Int.reduceEq, Int.reduceLT, Int.reduceLE, reduceCtorEq, TY_EvA14, op_callV, calledV_some, Array.empty_append, and_fold, or_fold, not_fold, store_agree, store_refl E0_same, hxB, iaBx, pBx0, pBx1, pBx2, iaBy, pBy0, pBy1, pBy2, kC, sC] at hz
  have hpC := (aC.2 p lp).trans hp
  have lC := aC.1
  rcases dP (r164 (lget l b).at_ (lget l b).li (lget l b).by_ (lget l a).at_ (lget l a).li (lget l a).by_ < 0) with ⟨h5a, h5⟩ | ⟨h5a, h5⟩
  · skip
    obtain ⟨SD, eD, nD, bD, qD⟩ := st_at (P := Tryd.prog) (o := 0) (c' := [.int .i64 (IntKind.i64.wrap (w + 1))]) (v := .int .i64 (IntKind.i64.wrap (w + 1))) tz3 hpC rfl rfl (show 0 + 1 ≤ 1 by decide) rfl
    simp (disch := first | omega | assumption) only [E0_G, SY, setArgs, off, agreeKind, partVals, vals, allocV, boxed, ldA, rdCells, oneB, aggD, aField, aFieldV, aExtract, eq_self, ne_eq, if_true, if_false, not_false_eq_true, Nat.reduceAdd, Nat.reduceSub, Nat.reduceMul, Nat.reduceLT, Nat.reduceEqDiff, Nat.reduceBEq, reduceIte, Int.reduceEq, Int.reduceLT, Int.reduceLE, reduceCtorEq, TY_EvA14, op_callV, calledV_some, Array.empty_append, and_fold, or_fold, not_fold, store_agree, store_refl E0_same, h5a, op_nilCheck, nilV_some, hpC, tz3, eD] at hz
    exact ⟨SD, b, a, _, hz.symm, .inr ⟨rfl, rfl⟩, ⟨by omega, fun q hq hn => (qD q hn).trans (aC.2 q hq)⟩, bD⟩
  · skip
    simp (disch := first | omega | assumption) only [E0_G, SY, setArgs, off, agreeKind, partVals, vals, allocV, boxed, ldA, rdCells, oneB, aggD, aField, aFieldV, aExtract, eq_self, ne_eq, if_true, if_false, not_false_eq_true, Nat.reduceAdd, Nat.reduceSub, Nat.reduceMul, Nat.reduceLT, Nat.reduceEqDiff, Nat.reduceBEq, reduceIte, Int.reduceEq, Int.reduceLT, Int.reduceLE, reduceCtorEq, TY_EvA14, op_callV, calledV_some, Array.empty_append, and_fold, or_fold, not_fold, store_agree, store_refl E0_same, h5a] at hz
    exact ⟨SC, a, b, w, hz.symm, .inl ⟨rfl, rfl⟩, ⟨lC, fun q hq _ => aC.2 q hq⟩, hpC⟩
set_option maxHeartbeats 4000000 in
theorem c218 (l : List Ct) (lo : Nat) (S : AS) (v : Value) (ho : Own 111 lo S v l) (id : Nat) (hb : blkOf v = some id) (a b c : Nat) (ha : a < l.length) (hbl : b < l.length) (hc : c < l.length) (p : Nat) (w : Int) (hp : S.heap.get p = some (.cells [.int .i64 w] 3 0 true true)) (lp : p < S.next) (np : id ≠ p) :
    ∃ S' x w', (evL Tryd.prog E0).call 102 #[v, .int .i64 (a : Int), .int .i64 (b : Int), .int .i64 (c : Int), .pointer (some ⟨p, 0, none⟩), .func (.func 71) #[] #[]] S = some (.int .i64 ((x : Nat) : Int), S') ∧ (x = a ∨ x = b ∨ x = c) ∧ Kc p S S' ∧ S'.heap.get p = some (.cells [.int .i64 w'] 3 0 true true) := by
  generalize hz : (evL Tryd.prog E0).call 102 _ _ = z
  rw [L_call, evCall_said rfl Tryd.func102 rfl (by decide) Tryd.ntmps102 Tryd.results102] at hz
  have hnb : blkOf v ≠ some p := by rw [hb]; exact fun e => np (Option.some.inj e)
  obtain ⟨S1, x1, y1, w1, k1, c1, kc1, p1⟩ := c222 l lo S v ho id hb a b ha hbl p w hp lp np
  have l1 := kc1.1
  obtain ⟨S2, x2, y2, w2, k2, c2, kc2, p2⟩ := c222 l lo S1 v (kc1.own ho hnb) id hb y1 c (by omega) hc p w1 p1 (by omega) np
  have l2 := kc2.1
  obtain ⟨S3, x3, y3, w3, k3, c3, kc3, p3⟩ := c222 l lo S2 v (kc2.own (kc1.own ho hnb) hnb) id hb x1 x2 (by omega) (by omega) p w2 p2 (by omega) np
  simp (disch := first | omega | assumption) only [E0_G, SY, setArgs, off, agreeKind, partVals, vals, allocV, boxed, ldA, rdCells, oneB, aggD, aField, aFieldV, aExtract, eq_self, ne_eq, if_true, if_false, not_false_eq_true, Nat.reduceAdd, Nat.reduceSub, Nat.reduceMul, Nat.reduceLT, Nat.reduceEqDiff, Nat.reduceBEq, reduceIte, Int.reduceEq, Int.reduceLT, Int.reduceLE, reduceCtorEq, TY_EvA14, op_callV, calledV_some, Array.empty_append, and_fold, or_fold, not_fold, store_agree, store_refl E0_same, k1, k2, k3, aExtract] at hz
  exact ⟨S3, y3, w3, hz.symm, by omega, (kc1.trans kc2).trans kc3, p3⟩
set_option maxHeartbeats 4000000 in
theorem c217 (l : List Ct) (hn : l.length ≤ 1000) (lo : Nat) (S : AS) (v : Value) (ho : Own 111 lo S v l) (id : Nat) (hb : blkOf v = some id) (a : Nat) (ha : 1 ≤ a) (ha2 : a + 1 < l.length) (p : Nat) (w : Int) (hp : S.heap.get p = some (.cells [.int .i64 w] 3 0 true true)) (lp : p < S.next) (np : id ≠ p) :
    ∃ S' x w', (evL Tryd.prog E0).call 101 #[v, .int .i64 (a : Int), .pointer (some ⟨p, 0, none⟩), .func (.func 71) #[] #[]] S = some (.int .i64 ((x : Nat) : Int), S') ∧ (a - 1 ≤ x ∧ x ≤ a + 1) ∧ Kc p S S' ∧ S'.heap.get p = some (.cells [.int .i64 w'] 3 0 true true) := by
  generalize hz : (evL Tryd.prog E0).call 101 _ _ = z
  rw [L_call, evCall_said rfl Tryd.func101 rfl (by decide) Tryd.ntmps101 Tryd.results101] at hz
  obtain ⟨S1, x1, w1, k1, c1, kc1, p1⟩ := c218 l lo S v ho id hb (a - 1) a (a + 1) (by omega) (by omega) (by omega) p w hp lp np
  have u1 : IntKind.i64.wrap ((a : Int) - 1) = ((a - 1 : Nat) : Int) := by rw [IntWalk.i64_in] <;> omega
  have u2 : IntKind.i64.wrap ((a : Int) + 1) = ((a + 1 : Nat) : Int) := by rw [IntWalk.i64_in] <;> omega
  simp (disch := first | omega | assumption) only [E0_G, SY, setArgs, off, agreeKind, partVals, vals, allocV, boxed, ldA, rdCells, oneB, aggD, aField, aFieldV, aExtract, eq_self, ne_eq, if_true, if_false, not_false_eq_true, Nat.reduceAdd, Nat.reduceSub, Nat.reduceMul, Nat.reduceLT, Nat.reduceEqDiff, Nat.reduceBEq, reduceIte, Int.reduceEq, Int.reduceLT, Int.reduceLE, reduceCtorEq, TY_EvA14, op_callV, calledV_some, Array.empty_append, and_fold, or_fold, not_fold, store_agree, store_refl E0_same, u1, u2, k1] at hz
  exact ⟨S1, x1, w1, hz.symm, by omega, kc1, p1⟩
set_option maxHeartbeats 8000000 in
theorem c197 (l : List Ct) (hn : l.length ≤ 1000) (lo : Nat) (S : AS) (v : Value) (ho : Own 111 lo S v l) (id : Nat) (hb : blkOf v = some id) (a b : Nat) (hab : a + 13 ≤ b) (hbl : b ≤ l.length) :
    ∃ S' x h, (evL Tryd.prog E0).call 87 #[v, .int .i64 (a : Int), .int .i64 (b : Int), .func (.func 71) #[] #[]] S = some (.tuple #[.int .i64 ((x : Nat) : Int), .int .i64 h], S') ∧ (a ≤ x ∧ x < b) ∧ (h = 0 ∨ h = 1 ∨ h = 2) ∧ Agree S S' := by
  generalize hz : (evL Tryd.prog E0).call 87 _ _ = z
  rw [L_call, evCall_said rfl Tryd.func87 rfl (by decide) Tryd.ntmps87 Tryd.results87] at hz
  obtain ⟨S1, e1, n1, b1, a1⟩ := push_open S (.cells [.int .i64 0] 3 0 true true)
  have hnb : blkOf v ≠ some S.next := ho.new (Nat.le_refl _)
  have np : id ≠ S.next := fun e => hnb (by rw [hb, e])
  have o1 := ho.agree a1
  have w0 : IntKind.i64.wrap ((b : Int) - (a : Int)) = ((b - a : Nat) : Int) := by rw [IntWalk.i64_in] <;> omega
  have w1 : IntKind.i64.wrap (Int.tdiv ((b - a : Nat) : Int) 4) = (((b - a) / 4 : Nat) : Int) := by rw [show Int.tdiv ((b - a : Nat) : Int) 4 = (((b - a) / 4 : Nat) : Int) from rfl, IntWalk.i64_in] <;> omega
  have m1 : IntKind.i64.wrap ((((b - a) / 4 : Nat) : Int) * 1) = (((b - a) / 4 * 1 : Nat) : Int) := by rw [IntWalk.i64_in] <;> omega
  have q1 : IntKind.i64.wrap ((a : Int) + (((b - a) / 4 * 1 : Nat) : Int)) = ((a + (b - a) / 4 * 1 : Nat) : Int) := by rw [IntWalk.i64_in] <;> omega
  have m2 : IntKind.i64.wrap ((((b - a) / 4 : Nat) : Int) * 2) = (((b - a) / 4 * 2 : Nat) : Int) := by rw [IntWalk.i64_in] <;> omega
  have q2 : IntKind.i64.wrap ((a : Int) + (((b - a) / 4 * 2 : Nat) : Int)) = ((a + (b - a) / 4 * 2 : Nat) : Int) := by rw [IntWalk.i64_in] <;> omega
  have m3 : IntKind.i64.wrap ((((b - a) / 4 : Nat) : Int) * 3) = (((b - a) / 4 * 3 : Nat) : Int) := by rw [IntWalk.i64_in] <;> omega
  have q3 : IntKind.i64.wrap ((a : Int) + (((b - a) / 4 * 3 : Nat) : Int)) = ((a + (b - a) / 4 * 3 : Nat) : Int) := by rw [IntWalk.i64_in] <;> omega
  simp (disch := first | omega | assumption) only [E0_G, SY, setArgs, off, agreeKind, partVals, vals, allocV, boxed, ldA, rdCells, oneB, aggD, aField, aFieldV, aExtract, eq_self, ne_eq, if_true, if_false, not_false_eq_true, Nat.reduceAdd, Nat.reduceSub, Nat.reduceMul, Nat.reduceLT, Nat.reduceEqDiff, Nat.reduceBEq, reduceIte, Int.reduceEq, Int.reduceLT, Int.reduceLE, reduceCtorEq, TY_EvA14, op_callV, calledV_some, Array.empty_append, and_fold, or_fold, not_fold, store_agree, store_refl E0_same, w0, w1, m1, m2, m3, q1, q2, q3, e1, tz3, tt3, t0_3] at hz
  have h8 : decide ((8 : Int) ≤ ((b - a : Nat) : Int)) = true := decide_eq_true (by omega)
  rcases dP ((50 : Int) ≤ ((b - a : Nat) : Int)) with ⟨h5a, h5⟩ | ⟨h5a, h5⟩
  · skip
    obtain ⟨S2, x2, w2, k2, c2, kc2, p2⟩ := c217 l hn lo S1 v o1 id hb (a + (b - a) / 4 * 1) (by omega) (by omega) S.next 0 b1 (by omega) np
    have l2 := kc2.1
    have o2 := kc2.own o1 hnb
    obtain ⟨S3, x3, w3, k3, c3, kc3, p3⟩ := c217 l hn lo S2 v o2 id hb (a + (b - a) / 4 * 2) (by omega) (by omega) S.next w2 p2 (by omega) np
    have l3 := kc3.1
    have o3 := kc3.own o2 hnb
    obtain ⟨S4, x4, w4, k4, c4, kc4, p4⟩ := c217 l hn lo S3 v o3 id hb (a + (b - a) / 4 * 3) (by omega) (by omega) S.next w3 p3 (by omega) np
    have l4 := kc4.1
    have o4 := kc4.own o3 hnb
    obtain ⟨S5, x5, w5, k5, c5, kc5, p5⟩ := c218 l lo S4 v o4 id hb x2 x3 x4 (by omega) (by omega) (by omega) S.next w4 p4 (by omega) np
    have kc := ((kc2.trans kc3).trans kc4).trans kc5
    simp (disch := first | omega | assumption) only [E0_G, SY, setArgs, off, agreeKind, partVals, vals, allocV, boxed, ldA, rdCells, oneB, aggD, aField, aFieldV, aExtract, eq_self, ne_eq, if_true, if_false, not_false_eq_true, Nat.reduceAdd, Nat.reduceSub, Nat.reduceMul, Nat.reduceLT, Nat.reduceEqDiff, Nat.reduceBEq, reduceIte, Int.reduceEq, Int.reduceLT, Int.reduceLE, reduceCtorEq, TY_EvA14, op_callV, calledV_some, Array.empty_append, and_fold, or_fold, not_fold, store_agree, store_refl E0_same, h8, h5a, k2, k3, k4, k5] at hz
    have ag : Agree S S5 := ⟨by have := (kc).1; omega, fun q hq => ((kc).2 q (by omega) (by omega)).trans (a1.2 q hq)⟩
    simp (disch := first | omega | assumption) only [E0_G, SY, setArgs, off, agreeKind, partVals, vals, allocV, boxed, ldA, rdCells, oneB, aggD, aField, aFieldV, aExtract, eq_self, ne_eq, if_true, if_false, not_false_eq_true, Nat.reduceAdd, Nat.reduceSub, Nat.reduceMul, Nat.reduceLT, Nat.reduceEqDiff, Nat.reduceBEq, reduceIte, Int.reduceEq, Int.reduceLT, Int.reduceLE, reduceCtorEq, TY_EvA14, op_callV, calledV_some, Array.empty_append, and_fold, or_fold, not_fold, store_agree, store_refl E0_same, h8, tz3, p5] at hz
    rcases dP (w5 = 0) with ⟨y0a, y0⟩ | ⟨y0a, y0⟩
    · skip
      simp (disch := first | omega | assumption) only [E0_G, SY, setArgs, off, agreeKind, partVals, vals, allocV, boxed, ldA, rdCells, oneB, aggD, aField, aFieldV, aExtract, eq_self, ne_eq, if_true, if_false, not_false_eq_true, Nat.reduceAdd, Nat.reduceSub, Nat.reduceMul, Nat.reduceLT, Nat.reduceEqDiff, Nat.reduceBEq, reduceIte, Int.reduceEq, Int.reduceLT, Int.reduceLE, reduceCtorEq, TY_EvA14, op_callV, calledV_some, Array.empty_append, and_fold, or_fold, not_fold, store_agree, store_refl E0_same, h8, tz3, p5, y0a] at hz
      exact ⟨_, _, 1, hz.symm, ⟨by omega, by omega⟩, .inr (.inl rfl), ag⟩
    · skip
      simp (disch := first | omega | assumption) only [E0_G, SY, setArgs, off, agreeKind, partVals, vals, allocV, boxed, ldA, rdCells, oneB, aggD, aField, aFieldV, aExtract, eq_self, ne_eq, if_true, if_false, not_false_eq_true, Nat.reduceAdd, Nat.reduceSub, Nat.reduceMul, Nat.reduceLT, Nat.reduceEqDiff, Nat.reduceBEq, reduceIte, Int.reduceEq, Int.reduceLT, Int.reduceLE, reduceCtorEq, TY_EvA14, op_callV, calledV_some, Array.empty_append, and_fold, or_fold, not_fold, store_agree, store_refl E0_same, h8, tz3, p5, y0a] at hz
      rcases dP (w5 = 12) with ⟨y1a, y1⟩ | ⟨y1a, y1⟩
      · skip
        simp (disch := first | omega | assumption) only [E0_G, SY, setArgs, off, agreeKind, partVals, vals, allocV, boxed, ldA, rdCells, oneB, aggD, aField, aFieldV, aExtract, eq_self, ne_eq, if_true, if_false, not_false_eq_true, Nat.reduceAdd, Nat.reduceSub, Nat.reduceMul, Nat.reduceLT, Nat.reduceEqDiff, Nat.reduceBEq, reduceIte, Int.reduceEq, Int.reduceLT, Int.reduceLE, reduceCtorEq, TY_EvA14, op_callV, calledV_some, Array.empty_append, and_fold, or_fold, not_fold, store_agree, store_refl E0_same, h8, tz3, p5, y0a, y1a] at hz
        exact ⟨_, _, 2, hz.symm, ⟨by omega, by omega⟩, .inr (.inr rfl), ag⟩
      · skip
        simp (disch := first | omega | assumption) only [E0_G, SY, setArgs, off, agreeKind, partVals, vals, allocV, boxed, ldA, rdCells, oneB, aggD, aField, aFieldV, aExtract, eq_self, ne_eq, if_true, if_false, not_false_eq_true, Nat.reduceAdd, Nat.reduceSub, Nat.reduceMul, Nat.reduceLT, Nat.reduceEqDiff, Nat.reduceBEq, reduceIte, Int.reduceEq, Int.reduceLT, Int.reduceLE, reduceCtorEq, TY_EvA14, op_callV, calledV_some, Array.empty_append, and_fold, or_fold, not_fold, store_agree, store_refl E0_same, h8, tz3, p5, y0a, y1a] at hz
        exact ⟨_, _, 0, hz.symm, ⟨by omega, by omega⟩, .inl rfl, ag⟩
  · skip
    obtain ⟨S5, x5, w5, k5, c5, kc5, p5⟩ := c218 l lo S1 v o1 id hb (a + (b - a) / 4 * 1) (a + (b - a) / 4 * 2) (a + (b - a) / 4 * 3) (by omega) (by omega) (by omega) S.next 0 b1 (by omega) np
    simp (disch := first | omega | assumption) only [E0_G, SY, setArgs, off, agreeKind, partVals, vals, allocV, boxed, ldA, rdCells, oneB, aggD, aField, aFieldV, aExtract, eq_self, ne_eq, if_true, if_false, not_false_eq_true, Nat.reduceAdd, Nat.reduceSub, Nat.reduceMul, Nat.reduceLT, Nat.reduceEqDiff, Nat.reduceBEq, reduceIte, Int.reduceEq, Int.reduceLT, Int.reduceLE, reduceCtorEq, TY_EvA14, op_callV, calledV_some, Array.empty_append, and_fold, or_fold, not_fold, store_agree, store_refl E0_same, h8, h5a, k5] at hz
    have ag : Agree S S5 := ⟨by have := (kc5).1; omega, fun q hq => ((kc5).2 q (by omega) (by omega)).trans (a1.2 q hq)⟩
    simp (disch := first | omega | assumption) only [E0_G, SY, setArgs, off, agreeKind, partVals, vals, allocV, boxed, ldA, rdCells, oneB, aggD, aField, aFieldV, aExtract, eq_self, ne_eq, if_true, if_false, not_false_eq_true, Nat.reduceAdd, Nat.reduceSub, Nat.reduceMul, Nat.reduceLT, Nat.reduceEqDiff, Nat.reduceBEq, reduceIte, Int.reduceEq, Int.reduceLT, Int.reduceLE, reduceCtorEq, TY_EvA14, op_callV, calledV_some, Array.empty_append, and_fold, or_fold, not_fold, store_agree, store_refl E0_same, h8, tz3, p5] at hz
    rcases dP (w5 = 0) with ⟨y0a, y0⟩ | ⟨y0a, y0⟩
    · skip
      simp (disch := first | omega | assumption) only [E0_G, SY, setArgs, off, agreeKind, partVals, vals, allocV, boxed, ldA, rdCells, oneB, aggD, aField, aFieldV, aExtract, eq_self, ne_eq, if_true, if_false, not_false_eq_true, Nat.reduceAdd, Nat.reduceSub, Nat.reduceMul, Nat.reduceLT, Nat.reduceEqDiff, Nat.reduceBEq, reduceIte, Int.reduceEq, Int.reduceLT, Int.reduceLE, reduceCtorEq, TY_EvA14, op_callV, calledV_some, Array.empty_append, and_fold, or_fold, not_fold, store_agree, store_refl E0_same, h8, tz3, p5, y0a] at hz
      exact ⟨_, _, 1, hz.symm, ⟨by omega, by omega⟩, .inr (.inl rfl), ag⟩
    · skip
      simp (disch := first | omega | assumption) only [E0_G, SY, setArgs, off, agreeKind, partVals, vals, allocV, boxed, ldA, rdCells, oneB, aggD, aField, aFieldV, aExtract, eq_self, ne_eq, if_true, if_false, not_false_eq_true, Nat.reduceAdd, Nat.reduceSub, Nat.reduceMul, Nat.reduceLT, Nat.reduceEqDiff, Nat.reduceBEq, reduceIte, Int.reduceEq, Int.reduceLT, Int.reduceLE, reduceCtorEq, TY_EvA14, op_callV, calledV_some, Array.empty_append, and_fold, or_fold, not_fold, store_agree, store_refl E0_same, h8, tz3, p5, y0a] at hz
      rcases dP (w5 = 12) with ⟨y1a, y1⟩ | ⟨y1a, y1⟩
      · skip
        simp (disch := first | omega | assumption) only [E0_G, SY, setArgs, off, agreeKind, partVals, vals, allocV, boxed, ldA, rdCells, oneB, aggD, aField, aFieldV, aExtract, eq_self, ne_eq, if_true, if_false, not_false_eq_true, Nat.reduceAdd, Nat.reduceSub, Nat.reduceMul, Nat.reduceLT, Nat.reduceEqDiff, Nat.reduceBEq, reduceIte, Int.reduceEq, Int.reduceLT, Int.reduceLE, reduceCtorEq, TY_EvA14, op_callV, calledV_some, Array.empty_append, and_fold, or_fold, not_fold, store_agree, store_refl E0_same, h8, tz3, p5, y0a, y1a] at hz
        exact ⟨_, _, 2, hz.symm, ⟨by omega, by omega⟩, .inr (.inr rfl), ag⟩
      · skip
        simp (disch := first | omega | assumption) only [E0_G, SY, setArgs, off, agreeKind, partVals, vals, allocV, boxed, ldA, rdCells, oneB, aggD, aField, aFieldV, aExtract, eq_self, ne_eq, if_true, if_false, not_false_eq_true, Nat.reduceAdd, Nat.reduceSub, Nat.reduceMul, Nat.reduceLT, Nat.reduceEqDiff, Nat.reduceBEq, reduceIte, Int.reduceEq, Int.reduceLT, Int.reduceLE, reduceCtorEq, TY_EvA14, op_callV, calledV_some, Array.empty_append, and_fold, or_fold, not_fold, store_agree, store_refl E0_same, h8, tz3, p5, y0a, y1a] at hz
        exact ⟨_, _, 0, hz.symm, ⟨by omega, by omega⟩, .inl rfl, ag⟩
end Great
end Go.Proofs
end
section
/-
  The great seat of stage 1: cuts in place: bits of lengths, random numbers.
-/
set_option linter.unusedSimpArgs false
set_option linter.unusedVariables false
namespace Go.Proofs
namespace Great
open Go Go.RowKit Go.Aev
set_option maxRecDepth 100000
theorem tz237 : szOf Tryd.prog 144 = some 1 := by kernel_rfl
theorem tt237 : inTab Tryd.prog 144 = true := by kernel_rfl
theorem t0_237 : zeroOf Tryd.prog 144 = some (.int .u64 0) := by kernel_rfl
/-- The table of a byte's bits. -/
def tabB (P : Program) (t : TypeId) (s : ByteArray) : Bool := (List.range 256).all fun k => match aIndexV P t (.string s) (.int .u8 (k : Int)) with
  | some (.int .u8 r) => decide (0 ≤ r ∧ r ≤ 8 ∧ (k = 0 ∨ 2 ^ r.toNat ≤ 2 * k))
  | _ => false
theorem tab_ok (P : Program) (t : TypeId) (s : ByteArray) (h : tabB P t s = true) (k : Nat) (hk : k < 256) : ∃ r : Int, aIndexV P t (.string s) (.int .u8 (k : Int)) = some (.int .u8 r) ∧ 0 ≤ r ∧ r ≤ 8 ∧ (k = 0 ∨ 2 ^ r.toNat ≤ 2 * k) := by
  have h1 := List.all_eq_true.1 h k (List.mem_range.2 hk)

  split at h1
  · rename_i r e
    have := of_decide_eq_true h1
    exact ⟨r, e, this⟩
  · simp at h1
set_option maxHeartbeats 8000000 in
theorem c203g (k : Nat) (hk : k ≤ 1000) (S : AS) : ∃ r : Nat, (evL Tryd.prog E0).call 93 #[.int .u64 (k : Int)] S = some (.int .i64 (r : Int), S) ∧ (k = 0 ∨ 2 ^ r ≤ 2 * k) := by
  generalize hz : (evL Tryd.prog E0).call 93 _ _ = z
  rw [L_call, evCall_said rfl Tryd.func93 rfl (by decide) Tryd.ntmps93 Tryd.results93] at hz
  have h1 : decide (4294967296 ≤ (k : Int)) = false := decide_eq_false (by omega)
  have h2 : decide (65536 ≤ (k : Int)) = false := decide_eq_false (by omega)
  rcases dP ((256 : Int) ≤ (k : Int)) with ⟨h3a, h3⟩ | ⟨h3a, h3⟩
  · have hf : Int.fdiv (k : Int) (2 ^ (min (Int.toNat 8) IntKind.u64.bits)) = ((k / 256 : Nat) : Int) := by
      show Int.fdiv (k : Int) 256 = _
      rw [Int.fdiv_eq_ediv_of_nonneg _ (by decide)]; omega
    have h4 : IntKind.u8.wrap ((k / 256 : Nat) : Int) = ((k / 256 : Nat) : Int) := by rw [IntKind.wrap_u8]; omega
    have h6 : IntKind.i64.wrap ((0 : Int) + 8) = 8 := by decide
    simp (disch := first | omega | assumption) only [E0_G, SY, setArgs, off, agreeKind, Nat.reduceAdd, Nat.reduceSub, Nat.reduceLT, Nat.reduceBEq, Int.reduceLT, Tryd.underlying125, Tryd.underlying5, h1, h2, h3a, hf, h4, h6] at hz
    generalize hv : aIndexV _ _ _ _ = v at hz
    obtain ⟨r, hr, r1, r2, r3⟩ : ∃ r : Int, v = some (.int .u8 r) ∧ 0 ≤ r ∧ r ≤ 8 ∧ (k / 256 = 0 ∨ 2 ^ r.toNat ≤ 2 * (k / 256)) := by rw [← hv]; exact tab_ok _ _ _ (by kernel_rfl) (k / 256) (by omega)
    subst hr
    have h7 : IntKind.i64.wrap r = r := by rw [IntWalk.i64_in] ; omega
    have h8 : IntKind.i64.wrap (8 + r) = ((8 + r.toNat : Nat) : Int) := by rw [IntWalk.i64_in] <;> omega
    simp (disch := first | omega | assumption) only [E0_G, SY, off, agreeKind, Nat.reduceAdd, Nat.reduceLT, Nat.reduceBEq, TY_EvA14, Tryd.underlying125, Tryd.underlying5, h7, h8] at hz
    refine ⟨8 + r.toNat, hz.symm, .inr ?_⟩
    rw [Nat.pow_add]
    rcases r3 with r3 | r3
    · omega
    · have : 2 ^ 8 * 2 ^ r.toNat ≤ 256 * (2 * (k / 256)) := Nat.mul_le_mul_left 256 r3
      omega
  · have h4 : IntKind.u8.wrap (k : Int) = (k : Int) := by rw [IntKind.wrap_u8]; omega
    simp (disch := first | omega | assumption) only [E0_G, SY, setArgs, off, agreeKind, Nat.reduceAdd, Nat.reduceSub, Nat.reduceLT, Nat.reduceBEq, Tryd.underlying125, Tryd.underlying5, h1, h2, h3a, h4] at hz
    generalize hv : aIndexV _ _ _ _ = v at hz
    obtain ⟨r, hr, r1, r2, r3⟩ : ∃ r : Int, v = some (.int .u8 r) ∧ 0 ≤ r ∧ r ≤ 8 ∧ (k = 0 ∨ 2 ^ r.toNat ≤ 2 * k) := by rw [← hv]; exact tab_ok _ _ _ (by kernel_rfl) k (by omega)
    subst hr
    have h7 : IntKind.i64.wrap r = r := by rw [IntWalk.i64_in] ; omega
    have h8 : IntKind.i64.wrap (0 + r) = ((r.toNat : Nat) : Int) := by rw [IntWalk.i64_in] <;> omega
    simp (disch := first | omega | assumption) only [E0_G, SY, off, agreeKind, Nat.reduceAdd, Nat.reduceLT, Nat.reduceBEq, TY_EvA14, Tryd.underlying125, Tryd.underlying5, h7, h8] at hz
    exact ⟨r.toNat, hz.symm, r3⟩
theorem c180g (k : Nat) (hk : k ≤ 1000) (S : AS) : ∃ r : Nat, (evL Tryd.prog E0).call 77 #[.int .u64 (k : Int)] S = some (.int .i64 (r : Int), S) ∧ (k = 0 ∨ 2 ^ r ≤ 2 * k) := by
  generalize hz : (evL Tryd.prog E0).call 77 _ _ = z
  rw [L_call, evCall_said rfl Tryd.func77 rfl (by decide) Tryd.ntmps77 Tryd.results77] at hz
  obtain ⟨r, hr, h⟩ := c203g k hk S
  simp (disch := first | omega | assumption) only [E0_G, SY, setArgs, off, agreeKind, vals, Nat.reduceAdd, Nat.reduceSub, Nat.reduceLT, Nat.reduceBEq, Tryd.underlying125, Tryd.underlying123, hr] at hz
  exact ⟨r, hz.symm, h⟩
theorem pow_small {r k : Nat} (hk : k ≤ 1000) (h : 2 ^ r ≤ 2 * k) : r ≤ 10 := by
  rcases Nat.lt_or_ge r 11 with h1 | h1
  · omega
  · have : 2 ^ 11 ≤ 2 ^ r := Nat.pow_le_pow_right (by omega) h1
    have e : 2 ^ 11 = 2048 := by decide
    omega
theorem c215 (k : Nat) (hk : k ≤ 1000) (h0 : 1 ≤ k) (S : AS) : ∃ q : Nat, (evL Tryd.prog E0).call 99 #[.int .i64 (k : Int)] S = some (.int .u64 (q : Int), S) ∧ 1 ≤ q ∧ q ≤ 2 * k := by
  generalize hz : (evL Tryd.prog E0).call 99 _ _ = z
  rw [L_call, evCall_said rfl Tryd.func99 rfl (by decide) Tryd.ntmps99 Tryd.results99] at hz
  obtain ⟨r, hr, h⟩ := c180g k hk S
  have h' : 2 ^ r ≤ 2 * k := by omega
  have hr10 := pow_small hk h'
  have hp : 1 ≤ 2 ^ r := Nat.one_le_two_pow
  have w1 : IntKind.u64.wrap (k : Int) = (k : Int) := IntWalk.u64_in _ (by omega)
  have w2 : decide ((r : Int) < 0) = false := decide_eq_false (by omega)
  have hm : min (Int.toNat (r : Int)) IntKind.u64.bits = r := by show min r 64 = r; omega
  have w3 : IntKind.u64.wrap (1 * 2 ^ (min (Int.toNat (r : Int)) IntKind.u64.bits)) = ((2 ^ r : Nat) : Int) := by
    rw [hm, Int.one_mul]
    have e : (2 : Int) ^ r = ((2 ^ r : Nat) : Int) := by rw [Int.natCast_pow]; rfl
    rw [e]
    exact IntWalk.u64_in _ (by omega)
  simp (disch := first | omega | assumption) only [E0_G, SY, setArgs, off, agreeKind, vals, Nat.reduceAdd, Nat.reduceSub, Nat.reduceLT, Nat.reduceBEq, TY_EvA14, Tryd.underlying125, Tryd.underlying123, w1, hr, w2, w3] at hz
  exact ⟨2 ^ r, hz.symm, hp, h'⟩
set_option maxHeartbeats 4000000 in
theorem c216 (S : AS) (p : Nat) (w : Int) (hp : S.heap.get p = some (.cells [.int .u64 w] 144 0 true true)) (lp : p < S.next) :
    ∃ S' x w', (evL Tryd.prog E0).call 100 #[.pointer (some ⟨p, 0, none⟩)] S = some (.int .u64 x, S') ∧ Kc p S S' ∧ S'.heap.get p = some (.cells [.int .u64 w'] 144 0 true true) := by
  generalize hz : (evL Tryd.prog E0).call 100 _ _ = z
  rw [L_call, evCall_said rfl Tryd.func100 rfl (by decide) Tryd.ntmps100 Tryd.results100] at hz
  simp (disch := first | omega | assumption) only [E0_G, SY, setArgs, off, agreeKind, Nat.reduceAdd, Nat.reduceSub, Nat.reduceLT] at hz
  rw [code_draws _ _ _ (by kernel_rfl)] at hz
  generalize hnd1 : needy _ = nd1 at hz
  obtain ⟨w1, hw1⟩ : ∃ w', IntKind.u64.wrap (BitVec.ofInt IntKind.u64.bits w ^^^ BitVec.ofInt IntKind.u64.bits (IntKind.u64.wrap (w * 2 ^ (min (Int.toNat 13) IntKind.u64.bits)))).toNat = w' := ⟨_, rfl⟩
  obtain ⟨S1, e1, n1, b1, q1⟩ := st_at (P := Tryd.prog) (o := 0) (c' := [.int .u64 w1]) (v := .int .u64 w1) tz237 hp rfl rfl (show 0 + 1 ≤ 1 by decide) rfl
  simp (disch := first | omega | assumption) only [E0_G, SY, agreeKind, ldA, aggD, Nat.reduceAdd, Nat.reduceLT, Nat.reduceBEq, Int.reduceLT, op_nilCheck, nilV_some, store_refl E0_same, Tryd.underlying144, Tryd.underlying125, hp, hw1, e1] at hz
  rw [code_draws _ _ _ (by kernel_rfl)] at hz
  generalize hnd2 : needy _ = nd2 at hz
  obtain ⟨w2, hw2⟩ : ∃ w', IntKind.u64.wrap (BitVec.ofInt IntKind.u64.bits w1 ^^^ BitVec.ofInt IntKind.u64.bits (Int.fdiv w1 (2 ^ (min (Int.toNat 7) IntKind.u64.bits)))).toNat = w' := ⟨_, rfl⟩
  obtain ⟨S2, e2, n2, b2, q2⟩ := st_at (P := Tryd.prog) (o := 0) (c' := [.int .u64 w2]) (v := .int .u64 w2) tz237 b1 rfl rfl (show 0 + 1 ≤ 1 by decide) rfl
  simp (disch := first | omega | assumption) only [E0_G, SY, agreeKind, ldA, aggD, Nat.reduceAdd, Nat.reduceLT, Nat.reduceBEq, Int.reduceLT, op_nilCheck, nilV_some, store_refl E0_same, Tryd.underlying144, Tryd.underlying125, b1, hw2, e2] at hz
  rw [code_draws _ _ _ (by kernel_rfl)] at hz
  generalize hnd3 : needy _ = nd3 at hz
  obtain ⟨w3, hw3⟩ : ∃ w', IntKind.u64.wrap (BitVec.ofInt IntKind.u64.bits w2 ^^^ BitVec.ofInt IntKind.u64.bits (IntKind.u64.wrap (w2 * 2 ^ (min (Int.toNat 17) IntKind.u64.bits)))).toNat = w' := ⟨_, rfl⟩
  obtain ⟨S3, e3, n3, b3, q3⟩ := st_at (P := Tryd.prog) (o := 0) (c' := [.int .u64 w3]) (v := .int .u64 w3) tz237 b2 rfl rfl (show 0 + 1 ≤ 1 by decide) rfl
  simp (disch := first | omega | assumption) only [E0_G, SY, off, agreeKind, ldA, aggD, Nat.reduceAdd, Nat.reduceLT, Nat.reduceBEq, Int.reduceLT, op_nilCheck, nilV_some, store_refl E0_same, Tryd.underlying144, Tryd.underlying125, b2, hw3, e3, b3] at hz
  exact ⟨S3, _, w3, hz.symm, ⟨by omega, fun q hq hn => (q3 q hn).trans ((q2 q hn).trans (q1 q hn))⟩, b3⟩
theorem u64_and (x m : Int) (hm : 0 ≤ m ∧ m ≤ 100000) : ∃ q : Nat, IntKind.u64.wrap (BitVec.ofInt IntKind.u64.bits x &&& BitVec.ofInt IntKind.u64.bits m).toNat = (q : Int) ∧ (q : Int) ≤ m := by
  refine ⟨(BitVec.ofInt IntKind.u64.bits x &&& BitVec.ofInt IntKind.u64.bits m).toNat, ?_, ?_⟩
  · have := (BitVec.ofInt IntKind.u64.bits x &&& BitVec.ofInt IntKind.u64.bits m).isLt
    have e : (2 : Nat) ^ IntKind.u64.bits = 18446744073709551616 := by decide
    exact IntWalk.u64_in _ (by omega)
  · rw [BitVec.toNat_and]
    have h1 := Nat.and_le_right (n := (BitVec.ofInt IntKind.u64.bits x).toNat) (m := (BitVec.ofInt IntKind.u64.bits m).toNat)
    have h2 : (BitVec.ofInt IntKind.u64.bits m).toNat = m.toNat := by
      show (BitVec.ofInt 64 m).toNat = m.toNat
      rw [BitVec.toNat_ofInt]; omega
    omega
end Great
end Go.Proofs
end
