/-
  BO: EvM8, EvM9.
-/
import Derived.Test.YtgbjgljchkodjaaDoorBU
import Derived.Test.YtgbjgljchkodjaaDoorBT
import Derived.Test.YtgbjgljchkodjaaDoorBP
section
/-
  The great seat of stage 1: each maker can have been struck at each angle that is told.
-/
set_option linter.unusedSimpArgs false
set_option linter.unusedVariables false
namespace Go.Proofs
namespace Great
open Go Go.RowKit Go.Aev
set_option maxRecDepth 100000

theorem bunch_zero {ks : List K} (h : bunch ks = true) : ∀ i, i < ks.length → placeE ks i = 0 := by
  by_cases h40 : 40 < (ks.length : Int)
  · rw [bunch_len h40] at h; cases h
  · rw [bunch_run h40] at h
    intro i hi
    exact exFrom_zero _ _ _ (of_decide_eq_true h) i (Nat.zero_le _) (by omega)
theorem bunch_step {ks : List K} (h : bunch ks = true) {i : Nat} {x y : K} (hx : ks[i]? = some x) (hy : ks[i + 1]? = some y) : x.i < y.i := by
  have h0 := bunch_zero h (i + 1) (List.getElem?_eq_some_iff.1 hy).1
  unfold placeE at h0
  rw [hy] at h0
  simp only [hx] at h0
  by_cases c : ¬ KeyOk y.i y.t y.p
  · rw [if_pos c] at h0; simp at h0
  · rw [if_neg c] at h0
    by_cases c2 : y.i ≤ x.i
    · rw [if_pos c2] at h0; simp at h0
    · omega
theorem bunch_inc {ks : List K} (h : bunch ks = true) : ∀ (d i : Nat) (x y : K), ks[i]? = some x → ks[i + d + 1]? = some y → x.i < y.i := by
  intro d
  induction d with
  | zero => intro i x y hx hy; exact bunch_step h hx hy
  | succ d ih =>
    intro i x y hx hy
    have hj : i + d + 1 < ks.length := by have := (List.getElem?_eq_some_iff.1 hy).1; omega
    have hz : ks[i + d + 1]? = some ks[i + d + 1] := List.getElem?_eq_getElem hj
    have h1 := ih i x _ hx hz
    have h2 := bunch_step h hz (show ks[i + d + 1 + 1]? = some y from hy)
    omega
theorem bunch_one {ks : List K} (h : bunch ks = true) {x y : K} (hx : x ∈ ks) (hy : y ∈ ks) (he : x.i = y.i) : x = y := by
  obtain ⟨i, hi⟩ := List.getElem?_of_mem hx
  obtain ⟨j, hj⟩ := List.getElem?_of_mem hy
  rcases Nat.lt_trichotomy i j with c | c | c
  · have := bunch_inc h (j - i - 1) i x y hi (by rw [show i + (j - i - 1) + 1 = j by omega]; exact hj); omega
  · subst c; rw [hi] at hj; exact Option.some.inj hj
  · have := bunch_inc h (i - j - 1) j y x hj (by rw [show j + (i - j - 1) + 1 = i by omega]; exact hi); omega
theorem R59_back {ks : List K} {a b c d e f s l : Int} : ∀ {m : List K} {o : List Int} {w : Int}, w ∈ R59_0 ks a b c d e f s l m o → w ∈ o ∨ ∃ k ∈ m, k.i = w ∧ r117 a b c d e k.i k.t k.p f s l = true := by
  intro m
  induction m with
  | nil => intro o w h; exact .inl h
  | cons y m ih =>
    intro o w h
    rw [R59_0] at h
    by_cases c1 : r117 a b c d e y.i y.t y.p f s l = true
    · rw [if_pos c1] at h
      rcases ih h with h | ⟨k, h1, h2, h3⟩
      · rcases List.mem_append.1 h with h | h
        · exact .inl h
        · rw [List.mem_singleton] at h; exact .inr ⟨y, by simp, h.symm, c1⟩
      · exact .inr ⟨k, by simp [h1], h2, h3⟩
    · rw [if_neg c1] at h
      rcases ih h with h | ⟨k, h1, h2, h3⟩
      · exact .inl h
      · exact .inr ⟨k, by simp [h1], h2, h3⟩
section
variable {ks : List K} {a b c d e f s l wi tu : Int}
/-- The last key with the number. -/
theorem R1004_last {k : K} (hu : ∀ x ∈ ks, x.i = (lget (r59 ks a b c d e f s l).1 (wh (r59 ks a b c d e f s l).1.length wi)) → x = k) : ∀ (m : List K) (i t p : Int), (∀ x ∈ m, x ∈ ks) → (k ∈ m ∧ k.i = (lget (r59 ks a b c d e f s l).1 (wh (r59 ks a b c d e f s l).1.length wi)) ∨ (i = k.i ∧ t = k.t ∧ p = k.p)) → R1004_0 ks a b c d e f s l wi tu m i t p = (k.i, k.t, k.p) := by
  intro m
  induction m with
  | nil => intro i t p _ h; rcases h with h | ⟨rfl, rfl, rfl⟩
           · simp at h
           · rfl
  | cons y m ih =>
    intro i t p hm h
    have hm' : ∀ x ∈ m, x ∈ ks := fun x hx => hm x (by simp [hx])
    rw [R1004_0]
    by_cases c1 : y.i = (lget (r59 ks a b c d e f s l).1 (wh (r59 ks a b c d e f s l).1.length wi))
    · rw [if_pos c1]
      have := hu y (hm y (by simp)) c1
      subst this
      exact ih _ _ _ hm' (.inr ⟨rfl, rfl, rfl⟩)
    · rw [if_neg c1]
      refine ih _ _ _ hm' ?_
      rcases h with ⟨h1, h2⟩ | h
      · rcases List.mem_cons.1 h1 with h1 | h1
        · exact absurd (by rw [← h1]; exact h2) c1
        · exact .inl ⟨h1, h2⟩
      · exact .inr h
end
theorem r79_iff {a b w : Int} (h : ArcOk a b) (hw : -9223372036854775808 ≤ w ∧ w ≤ 9223372036854775807) : r79 a b w = true ↔ (w - a) % 43200 ≤ b := by
  have hx : (a = 0 ∧ b = 43199) ∨ (0 ≤ a ∧ a < 43200 ∧ 0 ≤ b ∧ b < 43199) := h
  have r1 := angle_range w
  have r2 := angle_range a
  unfold r79
  rw [if_pos h]
  unfold r81
  rw [wr64 (by omega), decide_eq_true_eq]
  unfold angle
  omega
/-- The pins that are hit: what is left, and the dirt. -/
theorem seen_eq {P D E : BitVec 12} (hz : D &&& E = 0#12) : seenV (val P) (andV (val P) (val E)) (notV (val D) (val P)) = val ((P &&& ~~~E) ||| (D &&& ~~~P)) := by
  unfold seenV
  rw [and_val, not_val, not_val, or_val]
  congr 1
  apply bit_ext
  intro k
  simp only [BitVec.getLsbD_and, BitVec.getLsbD_or, BitVec.getLsbD_not]
  cases P.getLsbD k <;> cases E.getLsbD k <;> cases D.getLsbD k <;> by_cases h : k < 12 <;> simp [h]
theorem bit_zero {D E : BitVec 12} (hz : D &&& E = 0#12) (k : Nat) : (D.getLsbD k && E.getLsbD k) = false := by
  have := congrArg (fun z : BitVec 12 => z.getLsbD k) hz
  simpa using this
theorem or_seen {P D E : BitVec 12} (hz : D &&& E = 0#12) : D ||| ((P &&& ~~~E) ||| (D &&& ~~~P)) = (P &&& ~~~E) ||| (D &&& ~~~P) := by
  apply bit_ext
  intro k
  have h1 := bit_zero hz k
  by_cases h : k < 12
  · revert h1
    simp only [BitVec.getLsbD_and, BitVec.getLsbD_or, BitVec.getLsbD_not, h, decide_true, Bool.true_and]
    cases P.getLsbD k <;> cases E.getLsbD k <;> cases D.getLsbD k <;> simp
  · have w : ∀ Z : BitVec 12, Z.getLsbD k = false := fun Z => BitVec.getLsbD_of_ge _ _ (by omega)
    rw [w, w]
theorem or_blank {P D E : BitVec 12} (hz : D &&& E = 0#12) : E ||| (4095#12 &&& ~~~((P &&& ~~~E) ||| (D &&& ~~~P))) = 4095#12 &&& ~~~((P &&& ~~~E) ||| (D &&& ~~~P)) := by
  apply bit_ext
  intro k
  have h1 := bit_zero hz k
  have h4 : (4095#12 : BitVec 12) = BitVec.allOnes 12 := by decide
  rw [h4]
  by_cases h : k < 12
  · revert h1
    simp only [BitVec.getLsbD_and, BitVec.getLsbD_or, BitVec.getLsbD_not, BitVec.getLsbD_allOnes, h, decide_true, Bool.true_and]
    cases P.getLsbD k <;> cases E.getLsbD k <;> cases D.getLsbD k <;> simp
  · have w : ∀ Z : BitVec 12, Z.getLsbD k = false := fun Z => BitVec.getLsbD_of_ge _ _ (by omega)
    rw [w, w]
theorem cnt_self (P E : BitVec 12) : cnt (andV (val P) (andV (val P) (val E))) = cnt (andV (val P) (val E)) := by
  rw [and_val, and_val]
  congr 2
  apply bit_ext
  intro k
  simp only [BitVec.getLsbD_and]
  cases P.getLsbD k <;> simp
theorem cnt_self' (P D : BitVec 12) : cnt (notV (notV (val D) (val P)) (val P)) = cnt (notV (val D) (val P)) := by
  rw [not_val, not_val]
  congr 2
  apply bit_ext
  intro k
  simp only [BitVec.getLsbD_and, BitVec.getLsbD_not]
  cases P.getLsbD k <;> cases D.getLsbD k <;> by_cases h : k < 12 <;> simp [h]
theorem find_shift {ks : List K} {a b c d e f s l wi tu : Int} (hA : ArcOk a b) (AT : Int) (hat : 0 ≤ AT ∧ AT ≤ 86400) (hl : 0 ≤ l ∧ l ≤ 600)
    (hAT : IntKind.i64.wrap ((lget (A4 ks a b c d e f s l wi tu).1 0).f + Int.tmod (angle tu) (IntKind.i64.wrap ((lget (A4 ks a b c d e f s l wi tu).1 0).l + 1))) = AT) :
    ∀ (m : Nat) (sv : Int), (m : Int) = l + 2 - sv → 0 ≤ sv → (∃ q, sv ≤ q ∧ q ≤ l ∧ ((AT + q - a) % 43200 ≤ b ∨ (AT - q - a) % 43200 ≤ b)) → (-l ≤ R1004_1 ks a b c d e f s l wi tu m 0 sv ∧ R1004_1 ks a b c d e f s l wi tu m 0 sv ≤ l) ∧ (AT + R1004_1 ks a b c d e f s l wi tu m 0 sv - a) % 43200 ≤ b := by
  intro m
  induction m with
  | zero => intro sv hm h0 ⟨q, h1, h2, _⟩; omega
  | succ m ih =>
    intro sv hm h0 ⟨q, h1, h2, h3⟩
    rw [R1004_1, hAT, if_pos (by omega)]
    have w1 : IntKind.i64.wrap (AT + sv) = AT + sv := wr64 (by omega)
    have w2 : IntKind.i64.wrap (AT - sv) = AT - sv := wr64 (by omega)
    have w3 : IntKind.i64.wrap (0 - sv) = 0 - sv := wr64 (by omega)
    rw [w1, w2, w3]
    by_cases c1 : r79 a b (AT + sv) = true
    · rw [if_pos c1]
      rw [r79_iff hA (by omega)] at c1
      exact ⟨by omega, c1⟩
    · rw [if_neg c1]
      rw [r79_iff hA (by omega)] at c1
      by_cases c2 : r79 a b (AT - sv) = true
      · rw [if_pos c2]
        rw [r79_iff hA (by omega)] at c2
        refine ⟨by omega, ?_⟩
        rw [show AT + (0 - sv) - a = AT - sv - a by omega]
        exact c2
      · rw [if_neg c2]
        rw [r79_iff hA (by omega)] at c2
        have hq : sv + 1 ≤ q := by
          rcases Int.lt_or_le sv q with h | h
          · omega
          · have : q = sv := by omega
            subst this
            rcases h3 with h3 | h3
            · exact absurd h3 c1
            · exact absurd h3 c2
        exact ih (sv + 1) (by omega) (by omega) ⟨q, hq, h2, h3⟩
theorem shift_is {a b l AT : Int} (hA : ArcOk a b) (hl : 0 ≤ l ∧ l ≤ 600) {t : Int} (ht : 0 ≤ t ∧ t ≤ (r92 a b l).2) (hAT : AT = (r92 a b l).1 + t) : ∃ q, 0 ≤ q ∧ q ≤ l ∧ ((AT + q - a) % 43200 ≤ b ∨ (AT - q - a) % 43200 ≤ b) := by
  have hx : (a = 0 ∧ b = 43199) ∨ (0 ≤ a ∧ a < 43200 ∧ 0 ≤ b ∧ b < 43199) := hA
  have w1 : IntKind.i64.wrap (2 * l) = 2 * l := wr64 (by omega)
  have w2 : IntKind.i64.wrap (b + 2 * l) = b + 2 * l := wr64 (by omega)
  have w3 : IntKind.i64.wrap (a - l) = a - l := wr64 (by omega)
  unfold r92 at ht hAT
  rw [w1, w2, w3] at ht hAT
  by_cases c1 : (AT - a) % 43200 ≤ b
  · exact ⟨0, by omega, by omega, .inl (by rw [Int.add_zero]; exact c1)⟩
  by_cases c : 43199 ≤ b + 2 * l
  · rw [if_pos c] at ht hAT
    dsimp only at ht hAT
    by_cases c2 : (AT - a) % 43200 - b ≤ l
    · exact ⟨(AT - a) % 43200 - b, by omega, c2, .inr (by omega)⟩
    · exact ⟨43200 - (AT - a) % 43200, by omega, by omega, .inl (by omega)⟩
  · rw [if_neg c] at ht hAT
    dsimp only at ht hAT
    unfold angle at hAT
    by_cases c2 : (AT - a) % 43200 - b ≤ l
    · exact ⟨(AT - a) % 43200 - b, by omega, c2, .inr (by omega)⟩
    · exact ⟨43200 - (AT - a) % 43200, by omega, by omega, .inl (by omega)⟩
end Great
end Go.Proofs
end
section
/-
  The great seat of stage 1: each maker can have been struck at each angle that is told: the law's run says true.
-/
set_option linter.unusedSimpArgs false
set_option linter.unusedVariables false
namespace Go.Proofs
namespace Great
open Go Go.RowKit Go.Aev
set_option maxRecDepth 100000

theorem r59_ok {ks : List K} {a b c d e f s l : Int} (h : (r59 ks a b c d e f s l).2 = 0) : bunch ks = true ∧ MarkOk a b c d e ∧ InkOk f s l ∧ (r59 ks a b c d e f s l).1 = R59_0 ks a b c d e f s l ks [] := by
  revert h
  unfold r59
  by_cases h1 : bunch ks = true
  case neg => rw [if_neg h1]; intro h; exact absurd h (by decide)
  rw [if_pos h1]
  by_cases h2 : errV (MarkOk a b c d e) = 0
  case neg => rw [if_neg h2]; intro h; exact absurd h (by decide)
  rw [if_pos h2]
  by_cases h3 : errV (InkOk f s l) = 0
  case neg => rw [if_neg h3]; intro h; exact absurd h (by decide)
  rw [if_pos h3]
  exact fun _ => ⟨h1, errV_z.1 h2, errV_z.1 h3, rfl⟩
theorem shows_of {a b c d e i t p f s l : Int} (h : r117 a b c d e i t p f s l = true) : t = c ∧ cnt (andV p e) ≤ f ∧ cnt (notV d p) ≤ s := by
  unfold r117 at h
  by_cases h1 : t = c
  case neg => rw [if_neg h1] at h; simp at h
  rw [if_pos h1] at h
  unfold r118 at h
  by_cases h2 : cnt (andV p e) ≤ f
  case neg => rw [if_neg h2] at h; simp at h
  rw [if_pos h2, decide_eq_true_eq] at h
  exact ⟨h1, h2, h⟩
/-- A mark that is hit so that another one agrees with it. -/
theorem agree_hit {a b c d e p x : Int} (hM : MarkOk a b c d e) (hp : 0 ≤ p ∧ p ≤ 4095) (hx : 0 ≤ x ∧ x < 43200) (hin : (x - a) % 43200 ≤ b) :
    r57 a b c d e x 0 c (seenV p (andV p e) (notV d p)) (notV 4095 (seenV p (andV p e) (notV d p))) = ((x, 0, c, seenV p (andV p e) (notV d p), notV 4095 (seenV p (andV p e) (notV d p))), 0) := by
  have hM2 := hM
  obtain ⟨hA, h1, h2, h3, h4, h5, h6, h7⟩ := hM
  obtain ⟨P, rfl⟩ := val_of hp.1 hp.2
  obtain ⟨D, rfl⟩ := val_of h3 h4
  obtain ⟨E, rfl⟩ := val_of h5 h6
  have hz : D &&& E = 0#12 := val_inj (by rw [← and_val, h7]; rfl)
  rw [seen_eq hz, rest_is]
  have hX : MarkOk x 0 c (val ((P &&& ~~~E) ||| (D &&& ~~~P))) (val (4095#12 &&& ~~~((P &&& ~~~E) ||| (D &&& ~~~P)))) := by
    refine ⟨.inr ⟨hx.1, hx.2, by omega, by omega⟩, h1, h2, (val_range _).1, (val_range _).2, (val_range _).1, (val_range _).2, ?_⟩
    rw [and_val, and_rest]; rfl
  have hmeet := meet_sub hA hX.1 (fun n hn => by
    have hr := inA_range hX.1 hn
    rw [inA_iff hX.1 hr] at hn
    rw [inA_iff hA hr]
    have : n = x := by omega
    subst this
    exact hin)
  have hv0 : val 0#12 = 0 := rfl
  unfold r57
  rw [errV_pos hM2, errV_pos hX, hmeet, or_val, or_val, or_seen hz, or_blank hz, and_val, and_rest, hv0]
  simp [lget]
theorem r1004_true (ks : List K) (a b c d e f s l wi tu : Int) : r1004 ks a b c d e f s l wi tu = true := by
  unfold r1004
  by_cases h40 : 40 < (ks.length : Int)
  · rw [if_pos h40]
  rw [if_neg h40]
  by_cases h59 : (r59 ks a b c d e f s l).2 = 0
  case neg => rw [if_neg h59]
  rw [if_pos h59]
  by_cases hl0 : ((r59 ks a b c d e f s l).1.length : Int) = 0
  · rw [if_pos hl0]
  rw [if_neg hl0]
  obtain ⟨hB, hM, hI, hR⟩ := r59_ok h59
  have hid : lget (r59 ks a b c d e f s l).1 (wh (r59 ks a b c d e f s l).1.length wi) ∈ (r59 ks a b c d e f s l).1 := List.mem_of_getElem? (lget_some (wh_ok _ wi (by omega)).2)
  obtain ⟨w, hw⟩ : ∃ w, lget (r59 ks a b c d e f s l).1 (wh (r59 ks a b c d e f s l).1.length wi) = w := ⟨_, rfl⟩
  rw [hw, hR] at hid
  rcases R59_back hid with h | ⟨k, hk, hki, hcan⟩
  · exact absurd h (by simp)
  have hK : R1004_0 ks a b c d e f s l wi tu ks 0 0 0 = (k.i, k.t, k.p) := R1004_last (fun x hx hxi => bunch_one hB hx hk (hxi.trans (hw.trans hki.symm))) ks 0 0 0 (fun x hx => hx) (.inl ⟨hk, hki.trans hw.symm⟩)
  have hKey := (bunch_ok hB).2 k hk
  obtain ⟨ht, hs1, hs2⟩ := shows_of hcan
  have hl : 0 ≤ l ∧ l ≤ 600 := by unfold InkOk at hI; omega
  have hW : ArcOk (r92 a b l).1 (r92 a b l).2 := r94_ok hM.1 (by omega)
  have hA4 : A4 ks a b c d e f s l wi tu = ([(⟨(r92 a b l).1, (r92 a b l).2⟩ : Ar)], 0) := by
    unfold A4
    rw [hK]
    unfold r61
    rw [errV_pos hKey, if_pos rfl, errV_pos hM, if_pos rfl, errV_pos hI, if_pos rfl, if_pos hcan]
  have hW' : ((r92 a b l).1 = 0 ∧ (r92 a b l).2 = 43199) ∨ (0 ≤ (r92 a b l).1 ∧ (r92 a b l).1 < 43200 ∧ 0 ≤ (r92 a b l).2 ∧ (r92 a b l).2 < 43199) := hW
  have h28 : (r28 [(⟨(r92 a b l).1, (r92 a b l).2⟩ : Ar)]).1 = (r92 a b l).2 + 1 := by
    show R28_0 _ (r87 (r88 [(⟨(r92 a b l).1, (r92 a b l).2⟩ : Ar)])) 0 = _
    rw [spans_one hW]
    show IntKind.i64.wrap (0 + IntKind.i64.wrap ((r92 a b l).2 + 1)) = _
    rw [wr64 (n := (r92 a b l).2 + 1) (by omega), wr64 (by omega)]
    omega
  have rt := angle_range tu
  have htm : Int.tmod (angle tu) ((r92 a b l).2 + 1) = angle tu % ((r92 a b l).2 + 1) := Int.tmod_eq_emod_of_nonneg rt.1
  have hm1 := Int.emod_nonneg (angle tu) (show (r92 a b l).2 + 1 ≠ 0 by omega)
  have hm2 := Int.emod_lt_of_pos (angle tu) (show 0 < (r92 a b l).2 + 1 by omega)
  have hAT : IntKind.i64.wrap ((lget (A4 ks a b c d e f s l wi tu).1 0).f + Int.tmod (angle tu) (IntKind.i64.wrap ((lget (A4 ks a b c d e f s l wi tu).1 0).l + 1))) = (r92 a b l).1 + angle tu % ((r92 a b l).2 + 1) := by
    rw [hA4]
    show IntKind.i64.wrap ((r92 a b l).1 + Int.tmod (angle tu) (IntKind.i64.wrap ((r92 a b l).2 + 1))) = _
    rw [wr64 (n := (r92 a b l).2 + 1) (by omega), htm, wr64 (by omega)]
  obtain ⟨AT, hATg⟩ : ∃ AT, (r92 a b l).1 + angle tu % ((r92 a b l).2 + 1) = AT := ⟨_, rfl⟩
  rw [hATg] at hAT
  have hatr : 0 ≤ AT ∧ AT ≤ 86400 := by omega
  obtain ⟨q, q1, q2, q3⟩ := shift_is hM.1 hl (t := angle tu % ((r92 a b l).2 + 1)) ⟨hm1, by omega⟩ hATg.symm
  have hsh := find_shift (ks := ks) (c := c) (d := d) (e := e) (f := f) (s := s) (wi := wi) (tu := tu) hM.1 AT hatr hl hAT ((l + 2 - 0).toNat) 0 (by omega) (by omega) ⟨q, q1, q2, q3⟩
  have hX4 : X4 ks a b c d e f s l wi tu = ((angle (angle AT + R1004_1 ks a b c d e f s l wi tu (l + 2 - 0).toNat 0 0), 0, k.t, seenV k.p (andV k.p e) (notV d k.p), notV 4095 (seenV k.p (andV k.p e) (notV d k.p))), 0) := by
    unfold X4
    rw [hAT, hK]
    obtain ⟨k1, k2, k3, k4, k5, k6⟩ := hKey
    obtain ⟨P, hP⟩ := val_of (a := k.p) (by omega) k6
    obtain ⟨D, hD⟩ := val_of hM.2.2.2.1 hM.2.2.2.2.1
    obtain ⟨E, hE⟩ := val_of hM.2.2.2.2.2.1 hM.2.2.2.2.2.2.1
    dsimp only
    unfold r50
    have hBl : BlowOk (andV k.p e) (notV d k.p) f s l := by
      rw [hP, hE, hD, and_val, not_val]
      exact ⟨hI, (val_range _).1, (val_range _).2, (val_range _).1, (val_range _).2⟩
    rw [if_pos ⟨⟨k1, k2, k3, k4, k5, k6⟩, hBl⟩]
    unfold r113
    have hH : HitOk k.p (andV k.p e) (notV d k.p) (R1004_1 ks a b c d e f s l wi tu (l + 2 - 0).toNat 0 0) f s l := by
      refine ⟨?_, ?_, hsh.1.1, hsh.1.2⟩
      · rw [hP, hE, cnt_self, ← hP, ← hE]; exact hs1
      · rw [hP, hD, cnt_self', ← hP, ← hD]; exact hs2
    rw [if_pos hH]
  rw [hA4]
  dsimp only
  rw [if_pos rfl, h28, if_neg (by omega), hX4]
  dsimp only
  rw [if_pos rfl, ht]
  have r1 := angle_range (angle AT + R1004_1 ks a b c d e f s l wi tu (l + 2 - 0).toNat 0 0)
  have hag := agree_hit (p := k.p) hM (by unfold KeyOk at hKey; omega) r1 (by
    have := hsh.2
    unfold angle
    omega)
  rw [hag]
  simp
end Great
end Go.Proofs
end
