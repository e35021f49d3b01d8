/-
  BT: EvT1, EvT2, EvM4.
-/
import Derived.Test.YtgbjgljchkodjaaDoorBJ
import Derived.Test.YtgbjgljchkodjaaDoorBZZ
import Derived.Test.YtgbjgljchkodjaaDoorBC
import Derived.Test.YtgbjgljchkodjaaDoorBN
import Derived.Test.YtgbjgljchkodjaaDoorBY
section
/-
  The great seat of stage 1: Strike and Twice in numbers; an index that a number picks.
-/
set_option linter.unusedSimpArgs false
set_option linter.unusedVariables false
namespace Go.Proofs
namespace Great
open Go Go.RowKit Go.Aev
set_option maxRecDepth 100000

/-- The index that a number picks. -/
def wh (n : Nat) (w : Int) : Nat := (Int.tmod (angle w) (n : Int)).toNat
theorem wh_ok (n : Nat) (w : Int) (h : 0 < n) : Int.tmod (angle w) (n : Int) = ((wh n w : Nat) : Int) ∧ wh n w < n := by
  have h0 := angle_range w
  have h1 : Int.tmod (angle w) (n : Int) = angle w % (n : Int) := Int.tmod_eq_emod_of_nonneg h0.1
  have h2 := Int.emod_nonneg (angle w) (show (n : Int) ≠ 0 by omega)
  have h3 := Int.emod_lt_of_pos (angle w) (show (0 : Int) < n by omega)
  unfold wh
  rw [h1]
  omega
def r113 (set tr at_ lo mi di sh f s l : Int) : (Int × Int × Int × Int × Int) × Int :=
  if HitOk set mi di sh f s l then ((angle (angle at_ + sh), lo, tr, seenV set mi di, notV 4095 (seenV set mi di)), 0) else ((0, 0, 0, 0, 0), 3)
def r50 (id tr p at_ mi di sh f s l : Int) : (Int × Int × Int × Int × Int) × Int :=
  if KeyOk id tr p ∧ BlowOk mi di f s l then r113 p tr at_ 0 mi di sh f s l else ((0, 0, 0, 0, 0), 1)
def markV (r : (Int × Int × Int × Int × Int) × Int) : Value := .tuple #[.agg #[.int .i64 (r.1.1), .int .i64 (r.1.2.1), .int .i64 (r.1.2.2.1), .int .i64 (r.1.2.2.2.1), .int .i64 (r.1.2.2.2.2)], .int .i64 (r).2]
theorem hitV_eq (set tr at_ lo mi di sh f s l : Int) : hitV set tr at_ lo mi di sh f s l = markV (r113 set tr at_ lo mi di sh f s l) := by
  unfold hitV r113 markV
  split <;> rfl
theorem c50g (id tr p at_ mi di sh f s l : Int) (S : AS) : ∃ S', (evL Tryd.prog E0).call 18 #[.agg #[.int .i64 id, .int .i64 tr, .int .i64 p], .int .i64 at_, .agg #[.int .i64 mi, .int .i64 di, .int .i64 sh], .agg #[.int .i64 f, .int .i64 s, .int .i64 l]] S = some (.tuple #[.agg #[.int .i64 ((r50 id tr p at_ mi di sh f s l).1.1), .int .i64 ((r50 id tr p at_ mi di sh f s l).1.2.1), .int .i64 ((r50 id tr p at_ mi di sh f s l).1.2.2.1), .int .i64 ((r50 id tr p at_ mi di sh f s l).1.2.2.2.1), .int .i64 ((r50 id tr p at_ mi di sh f s l).1.2.2.2.2)], .int .i64 (r50 id tr p at_ mi di sh f s l).2], S') ∧ Agree S S' := by
  obtain ⟨S', h, a⟩ := c50 id tr p at_ mi di sh f s l S
  refine ⟨S', h.trans ?_, a⟩
  show some (strikeV id tr p at_ mi di sh f s l, S') = some (markV (r50 id tr p at_ mi di sh f s l), S')
  unfold strikeV r50
  split
  · rw [hitV_eq]
  · rfl
end Great
end Go.Proofs
end
section
/-
  The great seat of stage 1: has, within, blurred, by the generator.
-/
set_option linter.unusedSimpArgs false
set_option linter.unusedVariables false
namespace Go.Proofs
namespace Great
open Go Go.RowKit Go.Aev
set_option maxRecDepth 100000
/-- What is known of the types. -/
theorem TY_EvT2 : type_of% (And.intro (And.intro (And.intro (And.intro (And.intro (And.intro Tryd.underlying3 tz3) (And.intro tt3 t0_3)) (And.intro (And.intro Tryd.underlying22 tz22) (And.intro tt22 (And.intro t0_22 Tryd.underlying37)))) (And.intro (And.intro (And.intro tz43 tt43) (And.intro t0_43 Tryd.underlying40)) (And.intro (And.intro tz44 tt44) (And.intro t0_44 (And.intro Tryd.underlying41 tz45))))) (And.intro (And.intro (And.intro (And.intro tt45 t0_45) (And.intro Tryd.underlying45 tz51)) (And.intro (And.intro tt51 t0_51) (And.intro Tryd.underlying46 (And.intro tz52 tt52)))) (And.intro (And.intro (And.intro t0_52 Tryd.underlying29) (And.intro tz55 tt55)) (And.intro (And.intro t0_55 Tryd.underlying30) (And.intro tz56 (And.intro tt56 t0_56)))))) (And.intro (And.intro (And.intro (And.intro (And.intro Tryd.underlying38 tz57) (And.intro tt57 t0_57)) (And.intro (And.intro Tryd.underlying39 tz58) (And.intro tt58 (And.intro t0_58 Tryd.underlying42)))) (And.intro (And.intro (And.intro tz77 tt77) (And.intro t0_77 Tryd.underlying58)) (And.intro (And.intro tz90 tt90) (And.intro t0_90 (And.intro Tryd.underlying109 tz123))))) (And.intro (And.intro (And.intro (And.intro tt123 t0_123) (And.intro Tryd.underlying104 tz177)) (And.intro (And.intro tt177 t0_177) (And.intro Tryd.underlying105 (And.intro tz178 tt178)))) (And.intro (And.intro (And.intro t0_178 Tryd.underlying110) (And.intro tz182 tt182)) (And.intro (And.intro t0_182 Tryd.underlying111) (And.intro tz183 (And.intro tt183 t0_183))))))) := (And.intro (And.intro (And.intro (And.intro (And.intro (And.intro Tryd.underlying3 tz3) (And.intro tt3 t0_3)) (And.intro (And.intro Tryd.underlying22 tz22) (And.intro tt22 (And.intro t0_22 Tryd.underlying37)))) (And.intro (And.intro (And.intro tz43 tt43) (And.intro t0_43 Tryd.underlying40)) (And.intro (And.intro tz44 tt44) (And.intro t0_44 (And.intro Tryd.underlying41 tz45))))) (And.intro (And.intro (And.intro (And.intro tt45 t0_45) (And.intro Tryd.underlying45 tz51)) (And.intro (And.intro tt51 t0_51) (And.intro Tryd.underlying46 (And.intro tz52 tt52)))) (And.intro (And.intro (And.intro t0_52 Tryd.underlying29) (And.intro tz55 tt55)) (And.intro (And.intro t0_55 Tryd.underlying30) (And.intro tz56 (And.intro tt56 t0_56)))))) (And.intro (And.intro (And.intro (And.intro (And.intro Tryd.underlying38 tz57) (And.intro tt57 t0_57)) (And.intro (And.intro Tryd.underlying39 tz58) (And.intro tt58 (And.intro t0_58 Tryd.underlying42)))) (And.intro (And.intro (And.intro tz77 tt77) (And.intro t0_77 Tryd.underlying58)) (And.intro (And.intro tz90 tt90) (And.intro t0_90 (And.intro Tryd.underlying109 tz123))))) (And.intro (And.intro (And.intro (And.intro tt123 t0_123) (And.intro Tryd.underlying104 tz177)) (And.intro (And.intro tt177 t0_177) (And.intro Tryd.underlying105 (And.intro tz178 tt178)))) (And.intro (And.intro (And.intro t0_178 Tryd.underlying110) (And.intro tz182 tt182)) (And.intro (And.intro t0_182 Tryd.underlying111) (And.intro tz183 (And.intro tt183 t0_183)))))))
def r81 (a : Int) (b : Int) : Int := angle (IntKind.i64.wrap ((angle b) - (angle a)))
set_option maxHeartbeats 2000000 in
theorem c81 (a : Int) (b : Int)  (S : AS)  :
    ∃ S', (evL Tryd.prog E0).call 22 #[.int .i64 a, .int .i64 b] S = some (.int .i64 (r81 a b), S') ∧ Agree S S' := by
  generalize hz : (evL Tryd.prog E0).call 22 _ _ = z
  rw [L_call, evCall_said rfl Tryd.func22 rfl (by decide) Tryd.ntmps22 Tryd.results22] at hz
  have k1 := c76 b S
  have k2 := c76 a S
  have k3 := c76 (IntKind.i64.wrap ((angle b) - (angle a))) S
  try simp (disch := first | omega | assumption) only [E0_G, SY, setArgs, off, agreeKind, partVals, vals, allocV, boxed, ldA, rdCells, oneB, aggD, aField, aFieldV, aExtract, eq_self, ne_eq, if_true, if_false, not_false_eq_true, Nat.reduceAdd, Nat.reduceSub, Nat.reduceMul, Nat.reduceLT, Nat.reduceEqDiff, Nat.reduceBEq, reduceIte, Int.reduceEq, Int.reduceLT, Int.reduceLE, reduceCtorEq, TY_EvT2, and_fold, or_fold, not_fold, k1, k2, k3] at hz
  have hr : r81 a b = angle (IntKind.i64.wrap ((angle b) - (angle a))) := rfl
  exact fin hz (by rw [hr]) (Agree.refl S)

def r79 (x y : Int) (w : Int) : Bool := (if ArcOk x y then decide ((r81 x w) ≤ y) else false)
set_option maxHeartbeats 2000000 in
theorem c79 (x y : Int) (w : Int)  (S : AS)  (ht : Tab S) :
    ∃ S', (evL Tryd.prog E0).call 17 #[.agg #[.int .i64 x, .int .i64 y], .int .i64 w] S = some (.bool (r79 x y w), S') ∧ Agree S S' := by
  generalize hz : (evL Tryd.prog E0).call 17 _ _ = z
  rw [L_call, evCall_said rfl Tryd.func17 rfl (by decide) Tryd.ntmps17 Tryd.results17] at hz
  obtain ⟨S1, e1, n1, b1, a1⟩ := push_open S (.cells [.int .i64 x, .int .i64 y] 30 0 true true)
  have g1 : Agree S S1 := a1
  have s1 : E0.same S S1 = true := symEnv_same a1
  try simp (disch := first | omega | assumption) only [E0_G, SY, setArgs, off, agreeKind, partVals, vals, allocV, boxed, ldA, rdCells, oneB, aggD, aField, aFieldV, aExtract, eq_self, ne_eq, if_true, if_false, not_false_eq_true, Nat.reduceAdd, Nat.reduceSub, Nat.reduceMul, Nat.reduceLT, Nat.reduceEqDiff, Nat.reduceBEq, reduceIte, Int.reduceEq, Int.reduceLT, Int.reduceLE, reduceCtorEq, TY_EvT2, and_fold, or_fold, not_fold, s1, e1, b1] at hz
  rw [code_draws _ _ _ (by kernel_rfl)] at hz
  generalize hnd2 : needy _ = nd2 at hz
  obtain ⟨S3, k3, a3⟩ := c116 x y S1 (ht.agree g1) 
  have l3 := a3.1
  have s3 : E0.same S1 S3 = true := symEnv_same a3
  have v1_3 := (a3.2 S.next (by omega)).trans b1
  have g3 : Agree S S3 := g1.trans a3
  try simp (disch := first | omega | assumption) only [E0_G, SY, setArgs, off, agreeKind, partVals, vals, allocV, boxed, ldA, rdCells, oneB, aggD, aField, aFieldV, aExtract, eq_self, ne_eq, if_true, if_false, not_false_eq_true, Nat.reduceAdd, Nat.reduceSub, Nat.reduceMul, Nat.reduceLT, Nat.reduceEqDiff, Nat.reduceBEq, reduceIte, Int.reduceEq, Int.reduceLT, Int.reduceLE, reduceCtorEq, TY_EvT2, and_fold, or_fold, not_fold, s1, e1, b1, store_agree, store_refl E0_same, k3, s3, v1_3] at hz
  rcases dP (ArcOk x y) with ⟨h4a, h4⟩ | ⟨h4a, h4⟩
  · skip
    obtain ⟨S5, k5, a5⟩ := c81 x w  S3  
    have l5 := a5.1
    have s5 : E0.same S3 S5 = true := symEnv_same a5
    have v1_5 := (a5.2 S.next (by omega)).trans v1_3
    have g5 : Agree S S5 := g3.trans a5
    try simp (disch := first | omega | assumption) only [E0_G, SY, setArgs, off, agreeKind, partVals, vals, allocV, boxed, ldA, rdCells, oneB, aggD, aField, aFieldV, aExtract, eq_self, ne_eq, if_true, if_false, not_false_eq_true, Nat.reduceAdd, Nat.reduceSub, Nat.reduceMul, Nat.reduceLT, Nat.reduceEqDiff, Nat.reduceBEq, reduceIte, Int.reduceEq, Int.reduceLT, Int.reduceLE, reduceCtorEq, TY_EvT2, and_fold, or_fold, not_fold, s1, e1, b1, store_agree, store_refl E0_same, k3, s3, v1_3, h4a, k5, s5, v1_5] at hz
    have hr : r79 x y w = decide ((r81 x w) ≤ y) := (if_pos h4).trans (rfl)
    exact fin hz (by rw [hr]) g5
  · skip
    try simp (disch := first | omega | assumption) only [E0_G, SY, setArgs, off, agreeKind, partVals, vals, allocV, boxed, ldA, rdCells, oneB, aggD, aField, aFieldV, aExtract, eq_self, ne_eq, if_true, if_false, not_false_eq_true, Nat.reduceAdd, Nat.reduceSub, Nat.reduceMul, Nat.reduceLT, Nat.reduceEqDiff, Nat.reduceBEq, reduceIte, Int.reduceEq, Int.reduceLT, Int.reduceLE, reduceCtorEq, TY_EvT2, and_fold, or_fold, not_fold, s1, e1, b1, store_agree, store_refl E0_same, k3, s3, v1_3, h4a] at hz
    have hr : r79 x y w = false := (if_neg h4).trans (rfl)
    exact fin hz (by rw [hr]) g3

end Great
end Go.Proofs
end
section
/-
  The great seat of stage 1: pins as bits, arcs within arcs, makers of a mark.
-/
set_option linter.unusedSimpArgs false
set_option linter.unusedVariables false
namespace Go.Proofs
namespace Great
open Go Go.RowKit Go.Aev
set_option maxRecDepth 100000

theorem rest_is (s : BitVec 12) : notV 4095 (val s) = val (4095#12 &&& ~~~s) := not_val 4095#12 s
theorem bit_ext {u v : BitVec 12} (h : ∀ k, u.getLsbD k = v.getLsbD k) : u = v := BitVec.eq_of_getLsbD_eq fun i _ => h i
theorem and_rest (s : BitVec 12) : s &&& (4095#12 &&& ~~~s) = 0#12 := by
  ext k hk
  simp
  intro h1 _
  exact h1

/-! ### Arcs -/
/-- The arc from f on has an angle. -/
def InA (f l n : Int) : Prop := (f ≤ n ∧ n ≤ f + l ∧ n ≤ 43199) ∨ (0 ≤ n ∧ n + 43200 ≤ f + l)
theorem smem_one_arc {f l : Int} (h : ArcOk f l) (n : Int) : SMem (r178 [⟨f, l⟩]) n ↔ InA f l n := by
  have hx : (f = 0 ∧ l = 43199) ∨ (0 ≤ f ∧ f < 43200 ∧ 0 ≤ l ∧ l < 43199) := h
  have w1 : IntKind.i64.wrap (f + l) = f + l := wr64 (by omega)
  have w2 : IntKind.i64.wrap (f + l - 43200) = f + l - 43200 := wr64 (by omega)
  show SMem (R178_0 _ [⟨f, l⟩]) n ↔ _
  rw [R178_0]
  dsimp only
  rw [w1, w2]
  unfold InA
  by_cases c : 43200 ≤ f + l
  · rw [if_pos c]
    simp only [R178_0, smem_cons, smem_nil, or_false]
    omega
  · rw [if_neg c]
    simp only [R178_0, smem_cons, smem_nil, or_false]
    omega
theorem inA_iff {f l : Int} (h : ArcOk f l) {n : Int} (hn : 0 ≤ n ∧ n ≤ 43199) : InA f l n ↔ (n - f) % 43200 ≤ l := by
  have hx : (f = 0 ∧ l = 43199) ∨ (0 ≤ f ∧ f < 43200 ∧ 0 ≤ l ∧ l < 43199) := h
  unfold InA
  omega
theorem inA_range {f l n : Int} (h : ArcOk f l) (hn : InA f l n) : 0 ≤ n ∧ n ≤ 43199 := by
  have hx : (f = 0 ∧ l = 43199) ∨ (0 ≤ f ∧ f < 43200 ∧ 0 ≤ l ∧ l < 43199) := h
  unfold InA at hn
  omega
theorem meet_sub {f l f2 l2 : Int} (h : ArcOk f l) (h2 : ArcOk f2 l2) (hs : ∀ n, InA f2 l2 n → InA f l n) : r25 [⟨f, l⟩] [⟨f2, l2⟩] = [⟨f2, l2⟩] := by
  obtain ⟨a1, a2, a3⟩ := r88_ok (one_ok h)
  obtain ⟨b1, b2, b3⟩ := r88_ok (one_ok h2)
  obtain ⟨m1, m2, m3⟩ := r89_ok a1 a2 b1 b2
  have e : r89 (r88 [⟨f, l⟩]) (r88 [⟨f2, l2⟩]) = r88 [⟨f2, l2⟩] := by
    refine scan_uniq _ _ 0 0 m1 b1 fun n => ?_
    rw [m3, a3, b3, smem_one_arc h, smem_one_arc h2]
    exact ⟨fun h => h.2, fun h => ⟨hs n h, h⟩⟩
  unfold r25
  rw [e]
  exact spans_one h2

end Great
end Go.Proofs
end
