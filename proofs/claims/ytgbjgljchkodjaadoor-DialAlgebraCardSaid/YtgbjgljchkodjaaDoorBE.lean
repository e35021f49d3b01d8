/-
  BE: EvA11, EvA12.
-/
import Derived.Test.YtgbjgljchkodjaaDoorBC
section
/-
  The great seat of stage 1: rest and common, by the generator.
-/
set_option linter.unusedSimpArgs false
set_option linter.unusedVariables false
namespace Go.Proofs
namespace Great
open Go Go.RowKit Go.Aev
set_option maxRecDepth 100000
theorem tz90 : szOf Tryd.prog 58 = some 1 := by kernel_rfl
theorem tt90 : inTab Tryd.prog 58 = true := by kernel_rfl
theorem t0_90 : zeroOf Tryd.prog 58 = some (.slice none 0 0) := by kernel_rfl
theorem tz177 : szOf Tryd.prog 104 = some 2 := by kernel_rfl
theorem tt177 : inTab Tryd.prog 104 = true := by kernel_rfl
theorem t0_177 : zeroOf Tryd.prog 104 = some (.agg #[.int .i64 0, .int .i64 0]) := by kernel_rfl
theorem tz178 : szOf Tryd.prog 105 = some 2 := by kernel_rfl
theorem tt178 : inTab Tryd.prog 105 = true := by kernel_rfl
theorem t0_178 : zeroOf Tryd.prog 105 = some (.agg #[.int .i64 0, .int .i64 0]) := by kernel_rfl
/-- What is known of the types. -/
theorem TY_EvA11 : type_of% (And.intro (And.intro (And.intro (And.intro (And.intro (And.intro Tryd.underlying3 tz3) (And.intro tt3 t0_3)) (And.intro (And.intro Tryd.underlying22 tz22) (And.intro tt22 t0_22))) (And.intro (And.intro (And.intro Tryd.underlying37 tz43) (And.intro tt43 t0_43)) (And.intro (And.intro Tryd.underlying40 tz44) (And.intro tt44 t0_44)))) (And.intro (And.intro (And.intro (And.intro Tryd.underlying41 tz45) (And.intro tt45 t0_45)) (And.intro (And.intro Tryd.underlying45 tz51) (And.intro tt51 t0_51))) (And.intro (And.intro (And.intro Tryd.underlying46 tz52) (And.intro tt52 t0_52)) (And.intro (And.intro Tryd.underlying29 tz55) (And.intro tt55 t0_55))))) (And.intro (And.intro (And.intro (And.intro (And.intro Tryd.underlying30 tz56) (And.intro tt56 t0_56)) (And.intro (And.intro Tryd.underlying38 tz57) (And.intro tt57 t0_57))) (And.intro (And.intro (And.intro Tryd.underlying39 tz58) (And.intro tt58 t0_58)) (And.intro (And.intro Tryd.underlying42 tz77) (And.intro tt77 t0_77)))) (And.intro (And.intro (And.intro (And.intro Tryd.underlying58 tz90) (And.intro tt90 t0_90)) (And.intro (And.intro Tryd.underlying109 tz123) (And.intro tt123 t0_123))) (And.intro (And.intro (And.intro Tryd.underlying104 tz177) (And.intro tt177 t0_177)) (And.intro (And.intro Tryd.underlying105 tz178) (And.intro tt178 t0_178)))))) := (And.intro (And.intro (And.intro (And.intro (And.intro (And.intro Tryd.underlying3 tz3) (And.intro tt3 t0_3)) (And.intro (And.intro Tryd.underlying22 tz22) (And.intro tt22 t0_22))) (And.intro (And.intro (And.intro Tryd.underlying37 tz43) (And.intro tt43 t0_43)) (And.intro (And.intro Tryd.underlying40 tz44) (And.intro tt44 t0_44)))) (And.intro (And.intro (And.intro (And.intro Tryd.underlying41 tz45) (And.intro tt45 t0_45)) (And.intro (And.intro Tryd.underlying45 tz51) (And.intro tt51 t0_51))) (And.intro (And.intro (And.intro Tryd.underlying46 tz52) (And.intro tt52 t0_52)) (And.intro (And.intro Tryd.underlying29 tz55) (And.intro tt55 t0_55))))) (And.intro (And.intro (And.intro (And.intro (And.intro Tryd.underlying30 tz56) (And.intro tt56 t0_56)) (And.intro (And.intro Tryd.underlying38 tz57) (And.intro tt57 t0_57))) (And.intro (And.intro (And.intro Tryd.underlying39 tz58) (And.intro tt58 t0_58)) (And.intro (And.intro Tryd.underlying42 tz77) (And.intro tt77 t0_77)))) (And.intro (And.intro (And.intro (And.intro Tryd.underlying58 tz90) (And.intro tt90 t0_90)) (And.intro (And.intro Tryd.underlying109 tz123) (And.intro tt123 t0_123))) (And.intro (And.intro (And.intro Tryd.underlying104 tz177) (And.intro tt177 t0_177)) (And.intro (And.intro Tryd.underlying105 tz178) (And.intro tt178 t0_178))))))
def R20_0 (l : List Ar)  : List Ar → Nat → Sum (Int) (Unit)
  | [], i => .inr ()
  | x3 :: l', i => (if ArcOk x3.f x3.l then R20_0 l l' (i + 1) else .inl 1)
def r20 (l : List Ar) : Int := (if 200 < (l.length : Int) then 2 else (onSum (R20_0 l l 0) (fun (r2 : Int) => r2) (fun (_ : Unit) => 0)))
set_option maxHeartbeats 2000000 in
theorem c20 (l : List Ar) (hn : l.length ≤ 400) (S : AS) (v_l : Value) (hv_l : Lst S v_l l) :
    ∃ S', (evL Tryd.prog E0).call 20 #[v_l] S = some (.int .i64 (r20 l), S') ∧ Agree S S' := by
  generalize hz : (evL Tryd.prog E0).call 20 _ _ = z
  rw [L_call, evCall_said rfl Tryd.func20 rfl (by decide) Tryd.ntmps20 Tryd.results20] at hz
  have w1 := (hv_l).len (P := Tryd.prog) (t := 22) Tryd.underlying22
  try simp (disch := first | omega | assumption) only [E0_G, SY, setArgs, off, agreeKind, Nat.reduceAdd, Nat.reduceSub, Nat.reduceLT, Nat.reduceBEq, w1] at hz
  rcases dP (200 < (l.length : Int)) with ⟨h2a, h2⟩ | ⟨h2a, h2⟩
  · skip
    try simp (disch := first | omega | assumption) only [E0_G, SY, off, agreeKind, Nat.reduceLT, Nat.reduceBEq, h2a] at hz
    have hr : r20 l = 2 := (if_pos h2).trans (rfl)
    exact fin hz (by rw [hr]) (Agree.refl S)
  · skip
    try simp (disch := first | omega | assumption) only [E0_G, SY, off, agreeKind, Nat.reduceLT, h2a] at hz
    generalize hL3 : Rec.loop _ _ _ _ = L3 at hz
    obtain ⟨x3, t3, S3e, rfl, hQ3⟩ := loop_met hL3 (fun m t S' => ∃ (i : Nat), m + i = l.length ∧ i ≤ l.length ∧ t.get 0 = some (v_l) ∧ t.get 3 = some (.int .i64 (i : Int)) ∧ Agree S S' ∧ S.next ≤ S'.next ∧ R20_0 l (l.drop i) i = R20_0 l l 0)
      (fun x t S' => (x = .exit 0 ∧ ∃ (i : Nat), Agree S S' ∧ S.next ≤ S'.next ∧ i ≤ l.length ∧ R20_0 l l 0 = .inr ()) ∨ (x = .ret ∧ ∃ (r2 : Int), t.get 2 = some (.int .i64 r2) ∧ Agree S S' ∧ R20_0 l l 0 = .inl (r2))) (l.length - 0) ⟨0, by first | rfl | omega | (simp; omega) | simp, by first | rfl | omega | (simp; omega) | simp, by simp only [SY, eq_self, Nat.reduceBEq] <;> rfl, by simp only [SY, Nat.reduceBEq] <;> rfl, (Agree.refl S), Nat.le_refl _, rfl⟩ (by
        rintro m t S3 ⟨i, hi3_0, hi3_1, g3_0, g3_3, ga3, gn3, hd3⟩
        refine .run fun z he => ?_
        have w4 := (hv_l.agree ga3).len (P := Tryd.prog) (t := 22) Tryd.underlying22
        try simp (disch := first | omega | assumption) only [E0_G, SY, off, agreeKind, Nat.reduceAdd, Nat.reduceLT, Nat.reduceBEq, g3_0, g3_3, w1] at he
        rcases dP ((i : Int) < (l.length : Int)) with ⟨h5a, h5⟩ | ⟨h5a, h5⟩
        · skip
          have hx3 : l[i]? = some (l[i]'(by first | omega | simp; omega)) := List.getElem?_eq_getElem _
          generalize l[i]'_ = x3 at hx3
          obtain ⟨id6, of6, cc6, ty6, wr6, ex6, i6, j6, l6, q6⟩ := (hv_l).at (P := Tryd.prog) (t := 22) Tryd.underlying22 tz56 hx3
          have jr6 := j6
          have j6 := (ga3.2 id6 l6).trans jr6
          have m6_0 : cc6[of6]? = some (.int .i64 x3.f) := q6 0 (show 0 < 2 by decide)
          have m6_1 : cc6[of6 + 1]? = some (.int .i64 x3.l) := q6 1 (show 1 < 2 by decide)
          obtain ⟨S7, k7, a7⟩ := c86 x3.f x3.l S3  
          have l7 := a7.1
          have s7 : E0.same S3 S7 = true := symEnv_same a7
          have v6_7 := (a7.2 id6 (by omega)).trans j6
          have g7 : Agree S S7 := ga3.trans a7
          try simp (disch := first | omega | assumption) only [E0_G, SY, off, agreeKind, vals, ldA, rdCells, aggD, Nat.reduceAdd, Nat.reduceLT, Nat.reduceBEq, TY_EvA11, g3_0, g3_3, h5a, i6, j6, m6_0, m6_1, k7] at he
          rcases dP (ArcOk x3.f x3.l) with ⟨h8a, h8⟩ | ⟨h8a, h8⟩
          · skip
            have w9 : IntKind.i64.wrap ((i : Int) + 1) = ((i + 1 : Nat) : Int) := by rw [IntWalk.i64_in] <;> omega
            try simp (disch := first | omega | assumption) only [E0_G, SY, off, agreeKind, Nat.reduceAdd, Nat.reduceLT, Nat.reduceBEq, g3_3, h8a, w9] at he
            rw [drop_cons' hx3] at hd3
            have hf := (show _ = (R20_0 l (l.drop (i + 1)) (i + 1) : Sum (Int) (Unit)) from (if_pos h8).trans (rfl)).symm.trans hd3
            exact .next he (m - 1) (by omega) ⟨(i + 1), by first | omega | (simp; omega) | simp, by first | omega | (simp; omega) | simp, (by simp only [SY, eq_self, Nat.reduceBEq, g3_0] <;> rfl), (by simp only [SY, eq_self, Nat.reduceBEq, g3_3] <;> rfl), g7, by omega, hf⟩
          · skip
            try simp (disch := first | omega | assumption) only [E0_G, SY, off, agreeKind, Nat.reduceLT, h8a] at he
            rw [drop_cons' hx3] at hd3
            have hf := (show _ = (.inl 1 : Sum (Int) (Unit)) from (if_neg h8).trans (rfl)).symm.trans hd3
            exact .ret he (.inr ⟨rfl, ⟨1, (by simp only [SY, eq_self, Nat.reduceBEq] <;> rfl), g7, hf.symm⟩⟩)
        · skip
          try simp (disch := first | omega | assumption) only [SY, h5a] at he
          rw [List.drop_eq_nil_of_le (show l.length ≤ i by omega)] at hd3
          have hf := (show _ = (.inr () : Sum (Int) (Unit)) from rfl).symm.trans hd3
          exact .exit he (.inl ⟨rfl, ⟨i, ga3, by omega, by first | omega | assumption | simp, hf.symm⟩⟩))
    rcases hQ3 with ⟨rfl, hQ3⟩ | ⟨rfl, hQ3⟩
    · skip
      obtain ⟨i, ge3, gm3, hj3_0, hR3⟩ := hQ3
      try simp (disch := first | omega | assumption) only [E0_G, SY, off, agreeKind, eq_self, if_true, Nat.reduceLT, Nat.reduceBEq] at hz
      have hr : r20 l = 0 := (if_neg h2).trans ((onSum_inr hR3).trans (rfl))
      exact fin hz (by rw [hr]) ge3
    · skip
      obtain ⟨r2, ge3_2, ge3, hR3⟩ := hQ3
      try simp (disch := first | omega | assumption) only [SY, ge3_2] at hz
      have hr : r20 l = r2 := (if_neg h2).trans ((onSum_inl hR3).trans (rfl))
      exact fin hz (by rw [hr]) ge3

def r21 (a : List Ar) (b : List Ar) : Int := (if (r20 (a : List Ar)) = 0 then (r20 (b : List Ar)) else (r20 (a : List Ar)))
def R90_0 (l : List Sp)  : List Sp → Int → List Sp → Int × (List Sp)
  | [], p, o => (p, o)
  | x1 :: l', p, o => (if p < x1.lo then R90_0 l l' (IntKind.i64.wrap (x1.hi + 1)) (o ++ ([(⟨p, IntKind.i64.wrap (x1.lo - 1)⟩ : Sp)])) else R90_0 l l' (IntKind.i64.wrap (x1.hi + 1)) o)
def r90 (l : List Sp) : List Sp := (if ((R90_0 l l 0 ([])).1) < 43200 then ((R90_0 l l 0 ([])).2) ++ ([(⟨(R90_0 l l 0 ([])).1, 43199⟩ : Sp)]) else (R90_0 l l 0 ([])).2)
def R89_1 (a : List Sp) (b : List Sp) (i : Nat) (o : List Sp) : List Sp → List Sp → (List Sp)
  | [], p => p
  | x4 :: l', p => (if (max ((lget a i).lo) x4.lo) ≤ (min ((lget a i).hi) x4.hi) then R89_1 a b i o l' (r131 (p : List Sp) (max ((lget a i).lo) x4.lo) (min ((lget a i).hi) x4.hi)) else R89_1 a b i o l' p)
def R89_0 (a : List Sp) (b : List Sp)  : List Sp → Nat → List Sp → (List Sp)
  | [], i, o => o
  | _x :: l', i, o => R89_0 a b l' (i + 1) (R89_1 a b i o b o)
def r89 (a : List Sp) (b : List Sp) : List Sp := R89_0 a b a 0 ([])
end Great
end Go.Proofs
end
section
/-
  The great seat of stage 1: the specification's sets, by the generator.
-/
set_option linter.unusedSimpArgs false
set_option linter.unusedVariables false
namespace Go.Proofs
namespace Great
open Go Go.RowKit Go.Aev
set_option maxRecDepth 100000
theorem R90_0_len (l : List Sp) : ∀ (m : List Sp) (p : Int) (o : List Sp), (R90_0 l m p o).2.length ≤ m.length + o.length := by
  intro m
  induction m with
  | nil => intro p o; simp [R90_0]
  | cons x m ih =>
    intro p o
    unfold R90_0
    split <;> (refine Nat.le_trans (ih _ _) ?_; simp; try omega)
theorem r90_len (l : List Sp) : (r90 l).length ≤ l.length + 1 := by
  have := R90_0_len l l 0 []
  unfold r90
  split <;> (simp at this ⊢; omega)
def r14 (l : List Ar) : Bool := (if (l.length : Int) ≤ 60 then true else (if 200 < (l.length : Int) then decide ((l.length : Int) ≤ 300) else false))
def r23 (l : List Ar) : List Ar := (r87 ((r88 (l : List Ar)) : List Sp))
def r24 (a : List Ar) (b : List Ar) : List Ar := (r87 ((r88 ((([]) ++ a) ++ b : List Ar)) : List Sp))
def r25 (a : List Ar) (b : List Ar) : List Ar := (r87 ((r89 ((r88 (a : List Ar)) : List Sp) ((r88 (b : List Ar)) : List Sp)) : List Sp))
def r26 (a : List Ar) (b : List Ar) : List Ar := (r87 ((r89 ((r88 (a : List Ar)) : List Sp) ((r90 ((r88 (b : List Ar)) : List Sp)) : List Sp)) : List Sp))
end Great
end Go.Proofs
end
