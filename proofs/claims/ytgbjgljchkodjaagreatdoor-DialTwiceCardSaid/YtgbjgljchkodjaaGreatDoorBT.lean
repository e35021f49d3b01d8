/-
  BT: EvT1, EvT2, EvM4.
-/
import Derived.Test.YtgbjgljchkodjaaGreatDoorBJ
import Derived.Test.YtgbjgljchkodjaaGreatDoorEvZ6
import Derived.Test.YtgbjgljchkodjaaGreatDoorEvM1
import Derived.Test.YtgbjgljchkodjaaGreatDoorBN
import Derived.Test.YtgbjgljchkodjaaGreatDoorBZZ
section
/-
  The great seat of stage 1: Strike and Twice in numbers; an index that a number picks.
-/
set_option linter.unusedSimpArgs false
set_option linter.unusedVariables false
namespace Go.Proofs
namespace Great
open Go Go.RowKit Go.Aev
set_option maxRecDepth 100000

/-- The index that a number picks. -/
def wh (n : Nat) (w : Int) : Nat := (Int.tmod (angle w) (n : Int)).toNat
theorem wh_ok (n : Nat) (w : Int) (h : 0 < n) : Int.tmod (angle w) (n : Int) = ((wh n w : Nat) : Int) ∧ wh n w < n := by
  have h0 := angle_range w
  have h1 : Int.tmod (angle w) (n : Int) = angle w % (n : Int) := Int.tmod_eq_emod_of_nonneg h0.1
  have h2 := Int.emod_nonneg (angle w) (show (n : Int) ≠ 0 by omega)
  have h3 := Int.emod_lt_of_pos (angle w) (show (0 : Int) < n by omega)
  unfold wh
  rw [h1]
  omega
theorem shr12 (a : Int) : Int.fdiv a (2 ^ (min (Int.toNat 12) IntKind.i64.bits)) = Int.fdiv a 4096 := rfl
def r113 (set tr at_ lo mi di sh f s l : Int) : (Int × Int × Int × Int × Int) × Int :=
  if HitOk set mi di sh f s l then ((angle (angle at_ + sh), lo, tr, seenV set mi di, notV 4095 (seenV set mi di)), 0) else ((0, 0, 0, 0, 0), 3)
def r52 (i1 t1 p1 i2 t2 p2 at_ ap mi di sh f s l : Int) : (Int × Int × Int × Int × Int) × Int :=
  if (KeyOk i1 t1 p1 ∧ KeyOk i2 t2 p2 ∧ BlowOk mi di f s l) ∧ TwiceOk i1 t1 i2 t2 ap then r113 (orV p1 p2) t1 at_ ap mi di sh f s l else ((0, 0, 0, 0, 0), 1)
def markV (r : (Int × Int × Int × Int × Int) × Int) : Value := .tuple #[.agg #[.int .i64 (r.1.1), .int .i64 (r.1.2.1), .int .i64 (r.1.2.2.1), .int .i64 (r.1.2.2.2.1), .int .i64 (r.1.2.2.2.2)], .int .i64 (r).2]
theorem hitV_eq (set tr at_ lo mi di sh f s l : Int) : hitV set tr at_ lo mi di sh f s l = markV (r113 set tr at_ lo mi di sh f s l) := by
  unfold hitV r113 markV
  split <;> rfl
theorem c52g (i1 t1 p1 i2 t2 p2 at_ ap mi di sh f s l : Int) (S : AS) : ∃ S', (evL Tryz.prog E0).call 46 #[.agg #[.int .i64 i1, .int .i64 t1, .int .i64 p1], .agg #[.int .i64 i2, .int .i64 t2, .int .i64 p2], .int .i64 at_, .int .i64 ap, .agg #[.int .i64 mi, .int .i64 di, .int .i64 sh], .agg #[.int .i64 f, .int .i64 s, .int .i64 l]] S = some (.tuple #[.agg #[.int .i64 ((r52 i1 t1 p1 i2 t2 p2 at_ ap mi di sh f s l).1.1), .int .i64 ((r52 i1 t1 p1 i2 t2 p2 at_ ap mi di sh f s l).1.2.1), .int .i64 ((r52 i1 t1 p1 i2 t2 p2 at_ ap mi di sh f s l).1.2.2.1), .int .i64 ((r52 i1 t1 p1 i2 t2 p2 at_ ap mi di sh f s l).1.2.2.2.1), .int .i64 ((r52 i1 t1 p1 i2 t2 p2 at_ ap mi di sh f s l).1.2.2.2.2)], .int .i64 (r52 i1 t1 p1 i2 t2 p2 at_ ap mi di sh f s l).2], S') ∧ Agree S S' := by
  obtain ⟨S', h, a⟩ := c52 i1 t1 p1 i2 t2 p2 at_ ap mi di sh f s l S
  refine ⟨S', h.trans ?_, a⟩
  show some (twiceV i1 t1 p1 i2 t2 p2 at_ ap mi di sh f s l, S') = some (markV (r52 i1 t1 p1 i2 t2 p2 at_ ap mi di sh f s l), S')
  unfold twiceV r52
  split
  · rw [hitV_eq]
  · rfl
end Great
end Go.Proofs
end
section
/-
  The great seat of stage 1: has, within, blurred, by the generator.
-/
set_option linter.unusedSimpArgs false
set_option linter.unusedVariables false
namespace Go.Proofs
namespace Great
open Go Go.RowKit Go.Aev
set_option maxRecDepth 100000
/-- What is known of the types. -/
theorem TY_EvT2 : type_of% (And.intro (And.intro (And.intro (And.intro (And.intro (And.intro Tryz.underlying3 tz3) (And.intro tt3 (And.intro t0_3 Tryz.underlying22))) (And.intro (And.intro tz22 (And.intro tt22 t0_22)) (And.intro Tryz.underlying56 (And.intro tz43 tt43)))) (And.intro (And.intro (And.intro t0_43 Tryz.underlying59) (And.intro tz44 (And.intro tt44 t0_44))) (And.intro (And.intro Tryz.underlying60 (And.intro tz45 tt45)) (And.intro t0_45 (And.intro Tryz.underlying62 tz51))))) (And.intro (And.intro (And.intro (And.intro tt51 t0_51) (And.intro Tryz.underlying63 (And.intro tz52 tt52))) (And.intro (And.intro t0_52 (And.intro Tryz.underlying43 tz55)) (And.intro tt55 (And.intro t0_55 Tryz.underlying44)))) (And.intro (And.intro (And.intro tz56 tt56) (And.intro t0_56 (And.intro Tryz.underlying45 tz57))) (And.intro (And.intro tt57 (And.intro t0_57 Tryz.underlying46)) (And.intro tz58 (And.intro tt58 t0_58)))))) (And.intro (And.intro (And.intro (And.intro (And.intro Tryz.underlying66 tz77) (And.intro tt77 (And.intro t0_77 Tryz.underlying73))) (And.intro (And.intro tz80 (And.intro tt80 t0_80)) (And.intro Tryz.underlying82 (And.intro tz90 tt90)))) (And.intro (And.intro (And.intro t0_90 Tryz.underlying89) (And.intro tz110 (And.intro tt110 t0_110))) (And.intro (And.intro Tryz.underlying94 (And.intro tz115 tt115)) (And.intro t0_115 (And.intro Tryz.underlying95 tz116))))) (And.intro (And.intro (And.intro (And.intro tt116 t0_116) (And.intro Tryz.underlying76 (And.intro tz123 tt123))) (And.intro (And.intro t0_123 (And.intro Tryz.underlying136 tz177)) (And.intro tt177 (And.intro t0_177 Tryz.underlying137)))) (And.intro (And.intro (And.intro tz178 tt178) (And.intro t0_178 (And.intro Tryz.underlying141 tz182))) (And.intro (And.intro tt182 (And.intro t0_182 Tryz.underlying142)) (And.intro tz183 (And.intro tt183 t0_183))))))) := (And.intro (And.intro (And.intro (And.intro (And.intro (And.intro Tryz.underlying3 tz3) (And.intro tt3 (And.intro t0_3 Tryz.underlying22))) (And.intro (And.intro tz22 (And.intro tt22 t0_22)) (And.intro Tryz.underlying56 (And.intro tz43 tt43)))) (And.intro (And.intro (And.intro t0_43 Tryz.underlying59) (And.intro tz44 (And.intro tt44 t0_44))) (And.intro (And.intro Tryz.underlying60 (And.intro tz45 tt45)) (And.intro t0_45 (And.intro Tryz.underlying62 tz51))))) (And.intro (And.intro (And.intro (And.intro tt51 t0_51) (And.intro Tryz.underlying63 (And.intro tz52 tt52))) (And.intro (And.intro t0_52 (And.intro Tryz.underlying43 tz55)) (And.intro tt55 (And.intro t0_55 Tryz.underlying44)))) (And.intro (And.intro (And.intro tz56 tt56) (And.intro t0_56 (And.intro Tryz.underlying45 tz57))) (And.intro (And.intro tt57 (And.intro t0_57 Tryz.underlying46)) (And.intro tz58 (And.intro tt58 t0_58)))))) (And.intro (And.intro (And.intro (And.intro (And.intro Tryz.underlying66 tz77) (And.intro tt77 (And.intro t0_77 Tryz.underlying73))) (And.intro (And.intro tz80 (And.intro tt80 t0_80)) (And.intro Tryz.underlying82 (And.intro tz90 tt90)))) (And.intro (And.intro (And.intro t0_90 Tryz.underlying89) (And.intro tz110 (And.intro tt110 t0_110))) (And.intro (And.intro Tryz.underlying94 (And.intro tz115 tt115)) (And.intro t0_115 (And.intro Tryz.underlying95 tz116))))) (And.intro (And.intro (And.intro (And.intro tt116 t0_116) (And.intro Tryz.underlying76 (And.intro tz123 tt123))) (And.intro (And.intro t0_123 (And.intro Tryz.underlying136 tz177)) (And.intro tt177 (And.intro t0_177 Tryz.underlying137)))) (And.intro (And.intro (And.intro tz178 tt178) (And.intro t0_178 (And.intro Tryz.underlying141 tz182))) (And.intro (And.intro tt182 (And.intro t0_182 Tryz.underlying142)) (And.intro tz183 (And.intro tt183 t0_183)))))))
def r1042 (a b c d e : Int) (bf : Int) (af : Int) (un : Int) : (Int × Int × Int × Int × Int) := (angle (IntKind.i64.wrap (a - (Int.tmod (angle bf) 500))), IntKind.i64.wrap ((IntKind.i64.wrap (b + (Int.tmod (angle bf) 500))) + (Int.tmod (angle af) 500)), c, notV d (andV un 4095), notV e (andV (Int.fdiv un 4096) 4095))
set_option maxHeartbeats 2000000 in
theorem c1042 (a b c d e : Int) (bf : Int) (af : Int) (un : Int)  (S : AS)  :
    ∃ S', (evL Tryz.prog E0).call 42 #[.agg #[.int .i64 a, .int .i64 b, .int .i64 c, .int .i64 d, .int .i64 e], .int .i64 bf, .int .i64 af, .int .i64 un] S = some (.agg #[.int .i64 ((r1042 a b c d e bf af un).1), .int .i64 ((r1042 a b c d e bf af un).2.1), .int .i64 ((r1042 a b c d e bf af un).2.2.1), .int .i64 ((r1042 a b c d e bf af un).2.2.2.1), .int .i64 ((r1042 a b c d e bf af un).2.2.2.2)], S') ∧ Agree S S' := by
  generalize hz : (evL Tryz.prog E0).call 42 _ _ = z
  rw [L_call, evCall_said rfl Tryz.func42 rfl (by decide) Tryz.ntmps42 Tryz.results42] at hz
  obtain ⟨S1, e1, n1, b1, a1⟩ := push_open S (.cells [.int .i64 a, .int .i64 b, .int .i64 c, .int .i64 d, .int .i64 e] 46 0 true true)
  have g1 : Agree S S1 := a1
  have s1 : E0.same S S1 = true := symEnv_same a1
  obtain ⟨S2, e2, n2, b2, a2⟩ := push_open S1 (.cells [.int .i64 0, .int .i64 0, .int .i64 0, .int .i64 0, .int .i64 0] 46 0 true true)
  have v1_2 := (a2.2 S.next (by omega)).trans b1
  have g2 : Agree S S2 := g1.trans a2
  have s2 : E0.same S1 S2 = true := symEnv_same a2
  obtain ⟨S3, e3, n3, b3, a3⟩ := push_open S2 (.cells [.int .i64 0, .int .i64 0, .int .i64 0, .int .i64 0, .int .i64 0] 46 0 true true)
  have v1_3 := (a3.2 S.next (by omega)).trans v1_2
  have v2_3 := (a3.2 S1.next (by omega)).trans b2
  have g3 : Agree S S3 := g2.trans a3
  have s3 : E0.same S2 S3 = true := symEnv_same a3
  obtain ⟨S4, k4, n4, b4, q4⟩ := st_at (o := 0) (c' := [.int .i64 a, .int .i64 b, .int .i64 c, .int .i64 d, .int .i64 e]) (v := .agg #[.int .i64 a, .int .i64 b, .int .i64 c, .int .i64 d, .int .i64 e]) tz58 b3 rfl rfl (show 0 + 5 ≤ 5 by decide) rfl
  have v1_4 := (q4 S.next (by omega)).trans v1_3
  have v2_4 := (q4 S1.next (by omega)).trans v2_3
  have g4 : Agree S S4 := ⟨by have := (g3).1; omega, fun id hid => (q4 id (by have := (g3).1; omega)).trans ((g3).2 id hid)⟩
  obtain ⟨S5, k5, n5, b5, q5⟩ := st_at (o := 3) (c' := [.int .i64 a, .int .i64 b, .int .i64 c, .int .i64 (notV d (andV un 4095)), .int .i64 e]) (v := .int .i64 (notV d (andV un 4095))) tz3 b4 rfl rfl (show 3 + 1 ≤ 5 by decide) rfl
  have v1_5 := (q5 S.next (by omega)).trans v1_4
  have v2_5 := (q5 S1.next (by omega)).trans v2_4
  have g5 : Agree S S5 := ⟨by have := (g4).1; omega, fun id hid => (q5 id (by have := (g4).1; omega)).trans ((g4).2 id hid)⟩
  obtain ⟨S6, k6, n6, b6, q6⟩ := st_at (o := 4) (c' := [.int .i64 a, .int .i64 b, .int .i64 c, .int .i64 (notV d (andV un 4095)), .int .i64 (notV e (andV (Int.fdiv un 4096) 4095))]) (v := .int .i64 (notV e (andV (Int.fdiv un 4096) 4095))) tz3 b5 rfl rfl (show 4 + 1 ≤ 5 by decide) rfl
  have v1_6 := (q6 S.next (by omega)).trans v1_5
  have v2_6 := (q6 S1.next (by omega)).trans v2_5
  have g6 : Agree S S6 := ⟨by have := (g5).1; omega, fun id hid => (q6 id (by have := (g5).1; omega)).trans ((g5).2 id hid)⟩
  have k7 := c76 bf S6
  have k8 := c76 af S6
  try simp (disch := first | omega | assumption) only [E0_G, SY, setArgs, off, agreeKind, partVals, vals, allocV, boxed, ldA, rdCells, oneB, aggD, aField, aFieldV, aExtract, eq_self, ne_eq, if_true, if_false, not_false_eq_true, Nat.reduceAdd, Nat.reduceSub, Nat.reduceMul, Nat.reduceLT, Nat.reduceEqDiff, Nat.reduceBEq, reduceIte, Int.reduceEq, Int.reduceLT, Int.reduceLE, reduceCtorEq, TY_EvT2, and_fold, or_fold, not_fold, s1, e1, b1, v1_2, s2, e2, b2, v1_3, v2_3, s3, e3, b3, v1_4, v2_4, k4, b4, v1_5, v2_5, k5, b5, shr12, v1_6, v2_6, k6, b6, k7, k8] at hz
  rw [code_draws _ _ _ (by kernel_rfl)] at hz
  generalize hnd9 : needy _ = nd9 at hz
  have nn9_15 : nd9 15 = false := by rw [← hnd9]; kernel_rfl
  have k10 := c76 (IntKind.i64.wrap (a - (Int.tmod (angle bf) 500))) S6
  have y11 : aBuild Tryz.prog 44 [(0, .int .i64 (angle (IntKind.i64.wrap (a - (Int.tmod (angle bf) 500))))), (1, .int .i64 (IntKind.i64.wrap ((IntKind.i64.wrap (b + (Int.tmod (angle bf) 500))) + (Int.tmod (angle af) 500))))] = some (.agg #[.int .i64 (angle (IntKind.i64.wrap (a - (Int.tmod (angle bf) 500)))), .int .i64 (IntKind.i64.wrap ((IntKind.i64.wrap (b + (Int.tmod (angle bf) 500))) + (Int.tmod (angle af) 500)))]) := by kernel_rfl
  obtain ⟨S12, k12, n12, b12, q12⟩ := st_at (o := 0) (c' := [.int .i64 (angle (IntKind.i64.wrap (a - (Int.tmod (angle bf) 500)))), .int .i64 (IntKind.i64.wrap ((IntKind.i64.wrap (b + (Int.tmod (angle bf) 500))) + (Int.tmod (angle af) 500))), .int .i64 c, .int .i64 (notV d (andV un 4095)), .int .i64 (notV e (andV (Int.fdiv un 4096) 4095))]) (v := .agg #[.int .i64 (angle (IntKind.i64.wrap (a - (Int.tmod (angle bf) 500)))), .int .i64 (IntKind.i64.wrap ((IntKind.i64.wrap (b + (Int.tmod (angle bf) 500))) + (Int.tmod (angle af) 500)))]) tz56 b6 rfl rfl (show 0 + 2 ≤ 5 by decide) rfl
  have v1_12 := (q12 S.next (by omega)).trans v1_6
  have v2_12 := (q12 S1.next (by omega)).trans v2_6
  have g12 : Agree S S12 := ⟨by have := (g6).1; omega, fun id hid => (q12 id (by have := (g6).1; omega)).trans ((g6).2 id hid)⟩
  obtain ⟨S13, k13, n13, b13, q13⟩ := st_at (o := 0) (c' := [.int .i64 (angle (IntKind.i64.wrap (a - (Int.tmod (angle bf) 500)))), .int .i64 (IntKind.i64.wrap ((IntKind.i64.wrap (b + (Int.tmod (angle bf) 500))) + (Int.tmod (angle af) 500))), .int .i64 c, .int .i64 (notV d (andV un 4095)), .int .i64 (notV e (andV (Int.fdiv un 4096) 4095))]) (v := .agg #[.int .i64 (angle (IntKind.i64.wrap (a - (Int.tmod (angle bf) 500)))), .int .i64 (IntKind.i64.wrap ((IntKind.i64.wrap (b + (Int.tmod (angle bf) 500))) + (Int.tmod (angle af) 500))), .int .i64 c, .int .i64 (notV d (andV un 4095)), .int .i64 (notV e (andV (Int.fdiv un 4096) 4095))]) tz58 v2_12 rfl rfl (show 0 + 5 ≤ 5 by decide) rfl
  have v1_13 := (q13 S.next (by omega)).trans v1_12
  have v3_13 := (q13 S2.next (by omega)).trans b12
  have g13 : Agree S S13 := ⟨by have := (g12).1; omega, fun id hid => (q13 id (by have := (g12).1; omega)).trans ((g12).2 id hid)⟩
  try simp (disch := first | omega | assumption) only [E0_G, SY, setArgs, off, agreeKind, partVals, vals, allocV, boxed, ldA, rdCells, oneB, aggD, aField, aFieldV, aExtract, eq_self, ne_eq, if_true, if_false, not_false_eq_true, Nat.reduceAdd, Nat.reduceSub, Nat.reduceMul, Nat.reduceLT, Nat.reduceEqDiff, Nat.reduceBEq, reduceIte, Int.reduceEq, Int.reduceLT, Int.reduceLE, reduceCtorEq, TY_EvT2, and_fold, or_fold, not_fold, s1, e1, b1, v1_2, s2, e2, b2, v1_3, v2_3, s3, e3, b3, v1_4, v2_4, k4, b4, v1_5, v2_5, k5, b5, shr12, v1_6, v2_6, k6, b6, k7, k8, nn9_15, store_agree, store_refl E0_same, k10, y11, v1_12, v2_12, k12, b12, v1_13, v3_13, k13, b13] at hz
  have hr : r1042 a b c d e bf af un = (angle (IntKind.i64.wrap (a - (Int.tmod (angle bf) 500))), IntKind.i64.wrap ((IntKind.i64.wrap (b + (Int.tmod (angle bf) 500))) + (Int.tmod (angle af) 500)), c, notV d (andV un 4095), notV e (andV (Int.fdiv un 4096) 4095)) := rfl
  exact fin hz (by rw [hr]) g13

end Great
end Go.Proofs
end
section
/-
  The great seat of stage 1: pins as bits, arcs within arcs, makers of a mark.
-/
set_option linter.unusedSimpArgs false
set_option linter.unusedVariables false
namespace Go.Proofs
namespace Great
open Go Go.RowKit Go.Aev
set_option maxRecDepth 100000

theorem rest_is (s : BitVec 12) : notV 4095 (val s) = val (4095#12 &&& ~~~s) := not_val 4095#12 s
theorem cb_le {u v : BitVec 12} (h : ∀ k, u.getLsbD k = true → v.getLsbD k = true) : ∀ k, cb u k ≤ cb v k := by
  intro k
  induction k with
  | zero => exact Nat.le_refl _
  | succ k ih =>
    have := h k
    simp only [cb]
    by_cases c : u.getLsbD k = true
    · rw [if_pos c, if_pos (this c)]; omega
    · rw [if_neg c]; split <;> omega
theorem cnt_le {u v : BitVec 12} (h : ∀ k, u.getLsbD k = true → v.getLsbD k = true) : cnt (val u) ≤ cnt (val v) := by
  rw [cnt_val, cnt_val]
  have := cb_le h 12
  omega
theorem mask_is (a : Int) : ∃ u : BitVec 12, andV a 4095 = val u := by
  refine ⟨(BitVec.ofInt 64 a).setWidth 12, ?_⟩
  unfold andV
  apply wrap_val
  apply BitVec.eq_of_toNat_eq
  rw [BitVec.toNat_and]
  have h1 : (BitVec.ofInt IntKind.i64.bits 4095).toNat = 2 ^ 12 - 1 := by decide
  rw [h1, Nat.and_two_pow_sub_one_eq_mod]
  show (BitVec.ofInt 64 a).toNat % 2 ^ 12 = ((((BitVec.ofInt 64 a).setWidth 12 : BitVec 12).setWidth 64 : BitVec 64)).toNat
  rw [BitVec.toNat_setWidth, BitVec.toNat_setWidth]
  omega
theorem or_less (s x : BitVec 12) : (s &&& ~~~x) ||| s = s := by
  ext k hk
  simp
  cases s[k] <;> simp
theorem and_less {s b : BitVec 12} (h : s &&& b = 0#12) (x y : BitVec 12) : (s &&& ~~~x) &&& (b &&& ~~~y) = 0#12 := by
  ext k hk
  have := congrArg (fun z : BitVec 12 => z.getLsbD k) h
  simp [hk] at this
  simp
  cases h1 : s[k] <;> cases h2 : b[k] <;> simp_all
theorem and_rest (s : BitVec 12) : s &&& (4095#12 &&& ~~~s) = 0#12 := by
  ext k hk
  simp
  intro h1 _
  exact h1

/-! ### Arcs -/
/-- The arc from f on has an angle. -/
def InA (f l n : Int) : Prop := (f ≤ n ∧ n ≤ f + l ∧ n ≤ 43199) ∨ (0 ≤ n ∧ n + 43200 ≤ f + l)
theorem smem_one_arc {f l : Int} (h : ArcOk f l) (n : Int) : SMem (r178 [⟨f, l⟩]) n ↔ InA f l n := by
  have hx : (f = 0 ∧ l = 43199) ∨ (0 ≤ f ∧ f < 43200 ∧ 0 ≤ l ∧ l < 43199) := h
  have w1 : IntKind.i64.wrap (f + l) = f + l := wr64 (by omega)
  have w2 : IntKind.i64.wrap (f + l - 43200) = f + l - 43200 := wr64 (by omega)
  show SMem (R178_0 _ [⟨f, l⟩]) n ↔ _
  rw [R178_0]
  dsimp only
  rw [w1, w2]
  unfold InA
  by_cases c : 43200 ≤ f + l
  · rw [if_pos c]
    simp only [R178_0, smem_cons, smem_nil, or_false]
    omega
  · rw [if_neg c]
    simp only [R178_0, smem_cons, smem_nil, or_false]
    omega
theorem meet_sub {f l f2 l2 : Int} (h : ArcOk f l) (h2 : ArcOk f2 l2) (hs : ∀ n, InA f2 l2 n → InA f l n) : r25 [⟨f, l⟩] [⟨f2, l2⟩] = [⟨f2, l2⟩] := by
  obtain ⟨a1, a2, a3⟩ := r88_ok (one_ok h)
  obtain ⟨b1, b2, b3⟩ := r88_ok (one_ok h2)
  obtain ⟨m1, m2, m3⟩ := r89_ok a1 a2 b1 b2
  have e : r89 (r88 [⟨f, l⟩]) (r88 [⟨f2, l2⟩]) = r88 [⟨f2, l2⟩] := by
    refine scan_uniq _ _ 0 0 m1 b1 fun n => ?_
    rw [m3, a3, b3, smem_one_arc h, smem_one_arc h2]
    exact ⟨fun h => h.2, fun h => ⟨hs n h, h⟩⟩
  unfold r25
  rw [e]
  exact spans_one h2

end Great
end Go.Proofs
end
