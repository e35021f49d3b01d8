/-
  BM: EvM4, EvM5.
-/
import Derived.Test.YtgbjgljchkodjaaGreatDoorBT
import Derived.Test.YtgbjgljchkodjaaGreatDoorEvM1
import Derived.Test.YtgbjgljchkodjaaGreatDoorBN
import Derived.Test.YtgbjgljchkodjaaGreatDoorBZZ
import Derived.Test.YtgbjgljchkodjaaGreatDoorEvT3
section
/-
  The great seat of stage 1: pins as bits, arcs within arcs, makers of a mark.
-/
set_option linter.unusedSimpArgs false
set_option linter.unusedVariables false
namespace Go.Proofs
namespace Great
open Go Go.RowKit Go.Aev
set_option maxRecDepth 100000

theorem rest_is (s : BitVec 12) : notV 4095 (val s) = val (4095#12 &&& ~~~s) := not_val 4095#12 s
theorem cb_le {u v : BitVec 12} (h : ∀ k, u.getLsbD k = true → v.getLsbD k = true) : ∀ k, cb u k ≤ cb v k := by
  intro k
  induction k with
  | zero => exact Nat.le_refl _
  | succ k ih =>
    have := h k
    simp only [cb]
    by_cases c : u.getLsbD k = true
    · rw [if_pos c, if_pos (this c)]; omega
    · rw [if_neg c]; split <;> omega
theorem cnt_le {u v : BitVec 12} (h : ∀ k, u.getLsbD k = true → v.getLsbD k = true) : cnt (val u) ≤ cnt (val v) := by
  rw [cnt_val, cnt_val]
  have := cb_le h 12
  omega
theorem mask_is (a : Int) : ∃ u : BitVec 12, andV a 4095 = val u := by
  refine ⟨(BitVec.ofInt 64 a).setWidth 12, ?_⟩
  unfold andV
  apply wrap_val
  apply BitVec.eq_of_toNat_eq
  rw [BitVec.toNat_and]
  have h1 : (BitVec.ofInt IntKind.i64.bits 4095).toNat = 2 ^ 12 - 1 := by decide
  rw [h1, Nat.and_two_pow_sub_one_eq_mod]
  show (BitVec.ofInt 64 a).toNat % 2 ^ 12 = ((((BitVec.ofInt 64 a).setWidth 12 : BitVec 12).setWidth 64 : BitVec 64)).toNat
  rw [BitVec.toNat_setWidth, BitVec.toNat_setWidth]
  omega
theorem or_less (s x : BitVec 12) : (s &&& ~~~x) ||| s = s := by
  ext k hk
  simp
  cases s[k] <;> simp
theorem and_less {s b : BitVec 12} (h : s &&& b = 0#12) (x y : BitVec 12) : (s &&& ~~~x) &&& (b &&& ~~~y) = 0#12 := by
  ext k hk
  have := congrArg (fun z : BitVec 12 => z.getLsbD k) h
  simp [hk] at this
  simp
  cases h1 : s[k] <;> cases h2 : b[k] <;> simp_all
theorem and_rest (s : BitVec 12) : s &&& (4095#12 &&& ~~~s) = 0#12 := by
  ext k hk
  simp
  intro h1 _
  exact h1

/-! ### Arcs -/
/-- The arc from f on has an angle. -/
def InA (f l n : Int) : Prop := (f ≤ n ∧ n ≤ f + l ∧ n ≤ 43199) ∨ (0 ≤ n ∧ n + 43200 ≤ f + l)
theorem smem_one_arc {f l : Int} (h : ArcOk f l) (n : Int) : SMem (r178 [⟨f, l⟩]) n ↔ InA f l n := by
  have hx : (f = 0 ∧ l = 43199) ∨ (0 ≤ f ∧ f < 43200 ∧ 0 ≤ l ∧ l < 43199) := h
  have w1 : IntKind.i64.wrap (f + l) = f + l := wr64 (by omega)
  have w2 : IntKind.i64.wrap (f + l - 43200) = f + l - 43200 := wr64 (by omega)
  show SMem (R178_0 _ [⟨f, l⟩]) n ↔ _
  rw [R178_0]
  dsimp only
  rw [w1, w2]
  unfold InA
  by_cases c : 43200 ≤ f + l
  · rw [if_pos c]
    simp only [R178_0, smem_cons, smem_nil, or_false]
    omega
  · rw [if_neg c]
    simp only [R178_0, smem_cons, smem_nil, or_false]
    omega
theorem meet_sub {f l f2 l2 : Int} (h : ArcOk f l) (h2 : ArcOk f2 l2) (hs : ∀ n, InA f2 l2 n → InA f l n) : r25 [⟨f, l⟩] [⟨f2, l2⟩] = [⟨f2, l2⟩] := by
  obtain ⟨a1, a2, a3⟩ := r88_ok (one_ok h)
  obtain ⟨b1, b2, b3⟩ := r88_ok (one_ok h2)
  obtain ⟨m1, m2, m3⟩ := r89_ok a1 a2 b1 b2
  have e : r89 (r88 [⟨f, l⟩]) (r88 [⟨f2, l2⟩]) = r88 [⟨f2, l2⟩] := by
    refine scan_uniq _ _ 0 0 m1 b1 fun n => ?_
    rw [m3, a3, b3, smem_one_arc h, smem_one_arc h2]
    exact ⟨fun h => h.2, fun h => ⟨hs n h, h⟩⟩
  unfold r25
  rw [e]
  exact spans_one h2

/-! ### Makers -/
theorem R59_mem {ks : List K} {a b c d e f s l : Int} : ∀ {m : List K} {o : List Int} {x : K}, (x ∈ m ∧ r117 a b c d e x.i x.t x.p f s l = true ∨ x.i ∈ o) → x.i ∈ R59_0 ks a b c d e f s l m o := by
  intro m
  induction m with
  | nil => intro o x h; rcases h with h | h; · simp at h
           · exact h
  | cons y m ih =>
    intro o x h
    rw [R59_0]
    split
    · rename_i hy
      apply ih
      rcases h with ⟨h1, h2⟩ | h
      · rcases List.mem_cons.1 h1 with rfl | h1
        · exact .inr (by simp)
        · exact .inl ⟨h1, h2⟩
      · exact .inr (by simp [h])
    · rename_i hy
      apply ih
      rcases h with ⟨h1, h2⟩ | h
      · rcases List.mem_cons.1 h1 with rfl | h1
        · exact absurd h2 hy
        · exact .inl ⟨h1, h2⟩
      · exact .inr h
theorem R1045_mem {l0 : List Int} {w : Int} : ∀ {m : List Int}, w ∈ m → R1045_0 l0 w m = .inl true := by
  intro m
  induction m with
  | nil => intro h; simp at h
  | cons y m ih =>
    intro h
    rw [R1045_0]
    by_cases c : y = w
    · rw [if_pos c]
    · rw [if_neg c]
      rcases List.mem_cons.1 h with rfl | h
      · exact absurd rfl c
      · exact ih h
theorem r1045_mem {l : List Int} {w : Int} (h : w ∈ l) : r1045 l w = true := by
  unfold r1045
  rw [onSum_inl (R1045_mem h)]
end Great
end Go.Proofs
end
section
/-
  The great seat of stage 1: a strike is read among the makers, at an angle that is told.
-/
set_option linter.unusedSimpArgs false
set_option linter.unusedVariables false
namespace Go.Proofs
namespace Great
open Go Go.RowKit Go.Aev
set_option maxRecDepth 100000

theorem r113_cases (set tr at_ lo mi di sh f s l : Int) : (HitOk set mi di sh f s l ∧ r113 set tr at_ lo mi di sh f s l = ((angle (angle at_ + sh), lo, tr, seenV set mi di, notV 4095 (seenV set mi di)), 0)) ∨ r113 set tr at_ lo mi di sh f s l = ((0, 0, 0, 0, 0), 3) := by
  unfold r113
  by_cases h : HitOk set mi di sh f s l
  · rw [if_pos h]; exact .inl ⟨h, rfl⟩
  · rw [if_neg h]; exact .inr rfl
theorem r50_cases (id tr p at_ mi di sh f s l : Int) : ((KeyOk id tr p ∧ BlowOk mi di f s l ∧ HitOk p mi di sh f s l) ∧ r50 id tr p at_ mi di sh f s l = ((angle (angle at_ + sh), 0, tr, seenV p mi di, notV 4095 (seenV p mi di)), 0)) ∨ ∃ e, e ≠ 0 ∧ r50 id tr p at_ mi di sh f s l = ((0, 0, 0, 0, 0), e) := by
  unfold r50
  by_cases h : KeyOk id tr p ∧ BlowOk mi di f s l
  · rw [if_pos h]
    rcases r113_cases p tr at_ 0 mi di sh f s l with ⟨h1, h2⟩ | h2
    · exact .inl ⟨⟨h.1, h.2, h1⟩, h2⟩
    · exact .inr ⟨3, by decide, h2⟩
  · rw [if_neg h]; exact .inr ⟨1, by decide, rfl⟩
theorem blur_is {a b c d e : Int} (h : MarkOk a b c d e) (hb : b ≤ 60) (bf af un : Int) : ∃ (x y : Int) (u v : BitVec 12), (0 ≤ x ∧ x < 500) ∧ (0 ≤ y ∧ y < 500) ∧ r1042 a b c d e bf af un = (angle (a - x), b + x + y, c, notV d (val u), notV e (val v)) := by
  have hx : (a = 0 ∧ b = 43199) ∨ (0 ≤ a ∧ a < 43200 ∧ 0 ≤ b ∧ b < 43199) := h.1
  obtain ⟨u, hu⟩ := mask_is un
  obtain ⟨v, hv⟩ := mask_is (Int.fdiv un 4096)
  have b1 := angle_range bf
  have b2 := angle_range af
  have t1 : Int.tmod (angle bf) 500 = angle bf % 500 := Int.tmod_eq_emod_of_nonneg b1.1
  have t2 : Int.tmod (angle af) 500 = angle af % 500 := Int.tmod_eq_emod_of_nonneg b2.1
  have w1 : IntKind.i64.wrap (a - angle bf % 500) = a - angle bf % 500 := wr64 (by omega)
  have w2 : IntKind.i64.wrap (b + angle bf % 500) = b + angle bf % 500 := wr64 (by omega)
  have w3 : IntKind.i64.wrap (b + angle bf % 500 + angle af % 500) = b + angle bf % 500 + angle af % 500 := wr64 (by omega)
  refine ⟨angle bf % 500, angle af % 500, u, v, by omega, by omega, ?_⟩
  unfold r1042
  rw [t1, t2, hu, hv, w1, w2, w3]
theorem blur_ok {a b c d e : Int} (h : MarkOk a b c d e) (hb : b ≤ 60) {x y : Int} (hx : 0 ≤ x ∧ x < 500) (hy : 0 ≤ y ∧ y < 500) (u v : BitVec 12) :
    MarkOk (angle (a - x)) (b + x + y) c (notV d (val u)) (notV e (val v)) ∧ r57 (angle (a - x)) (b + x + y) c (notV d (val u)) (notV e (val v)) a b c d e = ((a, b, c, d, e), 0) := by
  have hm2 := h
  obtain ⟨hA, h1, h2, h3, h4, h5, h6, h7⟩ := h
  have ha : 0 ≤ a ∧ a < 43200 ∧ 0 ≤ b := by
    have hA' : (a = 0 ∧ b = 43199) ∨ (0 ≤ a ∧ a < 43200 ∧ 0 ≤ b ∧ b < 43199) := hA
    omega
  obtain ⟨ds, rfl⟩ := val_of h3 h4
  obtain ⟨es, rfl⟩ := val_of h5 h6
  have hz : ds &&& es = 0#12 := val_inj (by rw [← and_val, h7]; rfl)
  have r1 := angle_range (a - x)
  have hm : MarkOk (angle (a - x)) (b + x + y) c (notV (val ds) (val u)) (notV (val es) (val v)) := by
    rw [not_val, not_val]
    refine ⟨.inr ⟨r1.1, r1.2, by omega, by omega⟩, h1, h2, (val_range _).1, (val_range _).2, (val_range _).1, (val_range _).2, ?_⟩
    rw [and_val, and_less hz]; rfl
  refine ⟨hm, ?_⟩
  have hmeet := meet_sub hm.1 hA (fun n hn => by
    unfold InA at hn ⊢
    unfold angle
    omega)
  have hv0 : val 0#12 = 0 := rfl
  unfold r57
  rw [errV_pos hm, errV_pos hm2, hmeet, not_val, not_val, or_val, or_val, or_less, or_less, and_val, hz, hv0]
  simp [lget]
theorem shows_hit {p mi di f s : Int} (hp : 0 ≤ p ∧ p ≤ 4095) (hm : 0 ≤ mi ∧ mi ≤ 4095) (hd : 0 ≤ di ∧ di ≤ 4095) (hH : cnt (andV p mi) ≤ f ∧ cnt (notV di p) ≤ s) (u v : BitVec 12) :
    cnt (andV p (notV (notV 4095 (seenV p mi di)) (val v))) ≤ f ∧ cnt (notV (notV (seenV p mi di) (val u)) p) ≤ s := by
  obtain ⟨P, rfl⟩ := val_of hp.1 hp.2
  obtain ⟨M, rfl⟩ := val_of hm.1 hm.2
  obtain ⟨D, rfl⟩ := val_of hd.1 hd.2
  unfold seenV
  rw [not_val, or_val, rest_is, not_val, and_val, not_val, not_val]
  rw [and_val, not_val] at hH
  refine ⟨Int.le_trans (cnt_le fun k hk => ?_) hH.1, Int.le_trans (cnt_le fun k hk => ?_) hH.2⟩
  · simp only [BitVec.getLsbD_and, BitVec.getLsbD_or, BitVec.getLsbD_not] at hk ⊢
    revert hk
    cases P.getLsbD k <;> cases M.getLsbD k <;> cases D.getLsbD k <;> by_cases h : k < 12 <;> simp [h]
  · simp only [BitVec.getLsbD_and, BitVec.getLsbD_or, BitVec.getLsbD_not] at hk ⊢
    revert hk
    cases P.getLsbD k <;> cases M.getLsbD k <;> cases D.getLsbD k <;> by_cases h : k < 12 <;> simp [h]
theorem has_hit {at_ sh l x y b : Int} (hl : 0 ≤ l ∧ l ≤ 600) (hs : -l ≤ sh ∧ sh ≤ l) (hx : 0 ≤ x ∧ x < 500) (hy : 0 ≤ y ∧ y < 500) (hb : 0 ≤ b ∧ b ≤ 60) :
    r79 (r92 (angle (angle (angle at_ + sh) - x)) (b + x + y) l).1 (r92 (angle (angle (angle at_ + sh) - x)) (b + x + y) l).2 at_ = true := by
  have w1 : IntKind.i64.wrap (2 * l) = 2 * l := wr64 (by omega)
  have w2 : IntKind.i64.wrap (b + x + y + 2 * l) = b + x + y + 2 * l := wr64 (by omega)
  have r1 := angle_range (angle (angle at_ + sh) - x)
  have w3 : IntKind.i64.wrap (angle (angle (angle at_ + sh) - x) - l) = angle (angle (angle at_ + sh) - x) - l := wr64 (by omega)
  unfold r92
  rw [w1, w2, if_neg (by omega), w3]
  have r2 := angle_range (angle (angle (angle at_ + sh) - x) - l)
  have r3 := angle_range at_
  have r4 := angle_range (angle (angle (angle (angle at_ + sh) - x) - l))
  unfold r79
  dsimp only
  rw [if_pos (show ArcOk _ _ from .inr ⟨r2.1, r2.2, by omega, by omega⟩)]
  unfold r81
  rw [wr64 (by omega)]
  apply decide_eq_true
  unfold angle
  omega
theorem r77_one {x y w : Int} (h : r79 x y w = true) : r77 [⟨x, y⟩] w = true := by
  unfold r77
  have : R77_0 [⟨x, y⟩] w [⟨x, y⟩] = .inl true := if_pos h
  rw [onSum_inl this]
theorem hit_mark {id tr p mi di sh f s l at_ lo : Int} (hk : KeyOk id tr p) (hB : BlowOk mi di f s l) (hlo : 0 ≤ lo ∧ lo ≤ 60) : MarkOk (angle (angle at_ + sh)) lo tr (seenV p mi di) (notV 4095 (seenV p mi di)) := by
  obtain ⟨k1, k2, k3, k4, k5, k6⟩ := hk
  obtain ⟨_, b1, b2, b3, b4⟩ := hB
  obtain ⟨P, rfl⟩ := val_of (a := p) (by omega) k6
  obtain ⟨M, rfl⟩ := val_of b1 b2
  obtain ⟨D, rfl⟩ := val_of b3 b4
  have r1 := angle_range (angle at_ + sh)
  unfold seenV
  rw [not_val, or_val, rest_is]
  refine ⟨.inr ⟨r1.1, r1.2, hlo.1, by omega⟩, k3, k4, (val_range _).1, (val_range _).2, (val_range _).1, (val_range _).2, ?_⟩
  rw [and_val, and_rest]; rfl
theorem r1007_true (ks : List K) (wi at_ mi di sh f s l bf af un : Int) : r1007 ks wi at_ mi di sh f s l bf af un = true := by
  unfold r1007
  by_cases h0 : (ks.length : Int) = 0
  · rw [if_pos h0]
  rw [if_neg h0]
  by_cases h40 : 40 < (ks.length : Int)
  · rw [if_pos h40]
  rw [if_neg h40]
  by_cases hB : bunch ks = true
  case neg => rw [if_neg hB]
  rw [if_pos hB]
  have hmem : lget ks (wh ks.length wi) ∈ ks := List.mem_of_getElem? (lget_some (wh_ok ks.length wi (by omega)).2)
  generalize lget ks (wh ks.length wi) = k at hmem
  rcases r50_cases k.i k.t k.p at_ mi di sh f s l with ⟨⟨hk, hb, hh⟩, hr⟩ | ⟨er, hne, hr⟩
  · rw [hr]
    dsimp only
    rw [if_pos rfl]
    have hM := hit_mark (at_ := at_) (sh := sh) (lo := 0) hk hb (by omega)
    obtain ⟨x, y, u, v, hx, hy, hn⟩ := blur_is hM (by omega) bf af un
    rw [hn]
    dsimp only
    obtain ⟨hN, hS⟩ := blur_ok hM (by omega) hx hy u v
    rw [hS]
    dsimp only
    rw [if_pos rfl, if_pos ⟨rfl, rfl, rfl, rfl, rfl⟩]
    obtain ⟨hI, b1, b2, b3, b4⟩ := hb
    have hsh := shows_hit (p := k.p) (by unfold KeyOk at hk; omega) ⟨b1, b2⟩ ⟨b3, b4⟩ ⟨hh.1, hh.2.1⟩ u v
    have hcan : r117 (angle (angle (angle at_ + sh) - x)) (0 + x + y) k.t (notV (seenV k.p mi di) (val u)) (notV (notV 4095 (seenV k.p mi di)) (val v)) k.i k.t k.p f s l = true := by
      unfold r117 r118
      rw [if_pos rfl, if_pos hsh.1]
      exact decide_eq_true hsh.2
    have h59 : r59 ks (angle (angle (angle at_ + sh) - x)) (0 + x + y) k.t (notV (seenV k.p mi di) (val u)) (notV (notV 4095 (seenV k.p mi di)) (val v)) f s l = (R59_0 ks (angle (angle (angle at_ + sh) - x)) (0 + x + y) k.t (notV (seenV k.p mi di) (val u)) (notV (notV 4095 (seenV k.p mi di)) (val v)) f s l ks [], 0) := by
      unfold r59
      rw [if_pos hB, errV_pos hN, if_pos rfl, errV_pos hI, if_pos rfl]
    have h61 : r61 k.i k.t k.p (angle (angle (angle at_ + sh) - x)) (0 + x + y) k.t (notV (seenV k.p mi di) (val u)) (notV (notV 4095 (seenV k.p mi di)) (val v)) f s l = ([(⟨(r92 (angle (angle (angle at_ + sh) - x)) (0 + x + y) l).1, (r92 (angle (angle (angle at_ + sh) - x)) (0 + x + y) l).2⟩ : Ar)], 0) := by
      unfold r61
      rw [errV_pos hk, if_pos rfl, errV_pos hN, if_pos rfl, errV_pos hI, if_pos rfl, if_pos hcan]
    rw [h59, h61]
    dsimp only
    rw [if_pos rfl, if_pos rfl, if_pos (r1045_mem (R59_mem (.inl ⟨hmem, hcan⟩)))]
    exact r77_one (has_hit ⟨hI.2.2.2.2.1, hI.2.2.2.2.2⟩ ⟨hh.2.2.1, hh.2.2.2⟩ hx hy (by omega))
  · rw [hr]
    dsimp only
    rw [if_neg hne]
    simp
end Great
end Go.Proofs
end
