/-
  The great seat of stage 1: a double strike is read among the pairs.
-/
import Derived.Test.YtgbjgljchkodjaaGreatDoorEvT4
import Derived.Test.YtgbjgljchkodjaaGreatDoorEvM5
import Derived.Test.YtgbjgljchkodjaaGreatDoorBP
set_option linter.unusedSimpArgs false
set_option linter.unusedVariables false
namespace Go.Proofs
namespace Great
open Go Go.RowKit Go.Aev
set_option maxRecDepth 100000

/-! ### A bunch's IDs increase -/
theorem zero2 {ks : List K} (h : bunch ks = true) : ∀ i, i < ks.length → placeE ks i = 0 := by
  by_cases h40 : 40 < (ks.length : Int)
  · rw [bunch_len h40] at h; cases h
  · rw [bunch_run h40] at h
    intro i hi
    exact exFrom_zero _ _ _ (of_decide_eq_true h) i (Nat.zero_le _) (by omega)
theorem step2 {ks : List K} (h : bunch ks = true) {i : Nat} {x y : K} (hx : ks[i]? = some x) (hy : ks[i + 1]? = some y) : x.i < y.i := by
  have h0 := zero2 h (i + 1) (List.getElem?_eq_some_iff.1 hy).1
  unfold placeE at h0
  rw [hy] at h0
  simp only [hx] at h0
  by_cases c : ¬ KeyOk y.i y.t y.p
  · rw [if_pos c] at h0; simp at h0
  · rw [if_neg c] at h0
    by_cases c2 : y.i ≤ x.i
    · rw [if_pos c2] at h0; simp at h0
    · omega
theorem inc2 {ks : List K} (h : bunch ks = true) : ∀ (d i : Nat) (x y : K), ks[i]? = some x → ks[i + d + 1]? = some y → x.i < y.i := by
  intro d
  induction d with
  | zero => intro i x y hx hy; exact step2 h hx hy
  | succ d ih =>
    intro i x y hx hy
    have hj : i + d + 1 < ks.length := by have := (List.getElem?_eq_some_iff.1 hy).1; omega
    have hz : ks[i + d + 1]? = some ks[i + d + 1] := List.getElem?_eq_getElem hj
    have h1 := ih i x _ hx hz
    have h2 := step2 h hz (show ks[i + d + 1 + 1]? = some y from hy)
    omega

/-! ### Which pairs are told -/
section
variable {ks : List K} {a b c d e f s l : Int}
theorem R60_1_sub {j : Nat} {o : List (Int × Int)} {x : K} {z : Int × Int} : ∀ {m : List K} {p : List (Int × Int)}, z ∈ p → z ∈ R60_1 ks a b c d e f s l j o x m p := by
  intro m
  induction m with
  | nil => intro p h; exact h
  | cons y m ih =>
    intro p h
    unfold R60_1
    by_cases c1 : y.t = c
    · rw [if_pos c1]
      by_cases c2 : r118 a b c d e (orV x.p y.p) f s l = true
      · rw [if_pos c2]; exact ih (List.mem_append.2 (.inl h))
      · rw [if_neg c2]; exact ih h
    · rw [if_neg c1]; exact ih h
theorem R60_1_mem {j : Nat} {o : List (Int × Int)} {x y : K} (hc : y.t = c) (hr : r118 a b c d e (orV x.p y.p) f s l = true) : ∀ {m : List K} {p : List (Int × Int)}, y ∈ m → (x.i, y.i) ∈ R60_1 ks a b c d e f s l j o x m p := by
  intro m
  induction m with
  | nil => intro p h; cases h
  | cons w m ih =>
    intro p h
    unfold R60_1
    rcases List.mem_cons.1 h with h | h
    · subst h
      rw [if_pos hc, if_pos hr]
      exact R60_1_sub (List.mem_append.2 (.inr (List.mem_singleton.2 rfl)))
    · by_cases c1 : w.t = c
      · rw [if_pos c1]
        by_cases c2 : r118 a b c d e (orV x.p w.p) f s l = true
        · rw [if_pos c2]; exact ih h
        · rw [if_neg c2]; exact ih h
      · rw [if_neg c1]; exact ih h
theorem R60_0_sub {z : Int × Int} : ∀ {m : List K} {j : Nat} {o : List (Int × Int)}, z ∈ o → z ∈ R60_0 ks a b c d e f s l m j o := by
  intro m
  induction m with
  | nil => intro j o h; exact h
  | cons y m ih =>
    intro j o h
    unfold R60_0
    by_cases c1 : y.t = c
    · rw [if_pos c1]; exact ih (R60_1_sub h)
    · rw [if_neg c1]; exact ih h
theorem R60_0_mem {x y : K} {i k : Nat} (hx : ks[i]? = some x) (hy : ks[k]? = some y) (hik : i < k) (hcx : x.t = c) (hcy : y.t = c) (hr : r118 a b c d e (orV x.p y.p) f s l = true) : ∀ {m : List K} {j : Nat} {o : List (Int × Int)}, ks.drop j = m → j ≤ i → (x.i, y.i) ∈ R60_0 ks a b c d e f s l m j o := by
  intro m
  induction m with
  | nil =>
    intro j o h hj
    have : ks.length ≤ j := by
      have := congrArg List.length h
      simp at this
      omega
    have := (List.getElem?_eq_some_iff.1 hx).1
    omega
  | cons w m ih =>
    intro j o h hj
    obtain ⟨h1, h2⟩ := drop_unc h
    unfold R60_0
    rcases Nat.lt_or_ge j i with hlt | hge
    · by_cases c1 : w.t = c
      · rw [if_pos c1]; exact ih h2 hlt
      · rw [if_neg c1]; exact ih h2 hlt
    · have hji : j = i := by omega
      subst hji
      rw [hx] at h1
      cases h1
      rw [if_pos hcx]
      refine R60_0_sub (R60_1_mem hcy hr ?_)
      refine List.mem_of_getElem? (i := k - (j + 1)) ?_
      rw [List.getElem?_drop, show j + 1 + (k - (j + 1)) = k by omega]
      exact hy
end

theorem R1008_t (ks : List K) (wi wo at_ ap mi di sh f s l bf af un : Int) : ∀ (m : List (Int × Int)), R1008_0 ks wi wo at_ ap mi di sh f s l bf af un m true = true := by
  intro m
  induction m with
  | nil => rfl
  | cons x m ih => unfold R1008_0; rw [if_pos rfl]; exact ih
theorem R1008_m (ks : List K) (wi wo at_ ap mi di sh f s l bf af un : Int) : ∀ (m : List (Int × Int)) (q : Bool), (min (lget ks (wh ks.length wi)).i (lget ks (wh ks.length wo)).i, max (lget ks (wh ks.length wi)).i (lget ks (wh ks.length wo)).i) ∈ m → R1008_0 ks wi wo at_ ap mi di sh f s l bf af un m q = true := by
  intro m
  induction m with
  | nil => intro q h; cases h
  | cons x m ih =>
    intro q h
    unfold R1008_0
    by_cases hq : q = true
    · rw [if_pos hq]; exact R1008_t ..
    · rw [if_neg hq]
      rcases List.mem_cons.1 h with h | h
      · subst h
        rw [decide_eq_true ⟨rfl, rfl⟩]
        exact R1008_t ..
      · exact ih _ h

theorem r52_cases (i1 t1 p1 i2 t2 p2 at_ ap mi di sh f s l : Int) : (((KeyOk i1 t1 p1 ∧ KeyOk i2 t2 p2 ∧ BlowOk mi di f s l) ∧ TwiceOk i1 t1 i2 t2 ap ∧ HitOk (orV p1 p2) mi di sh f s l) ∧
      r52 i1 t1 p1 i2 t2 p2 at_ ap mi di sh f s l = ((angle (angle at_ + sh), ap, t1, seenV (orV p1 p2) mi di, notV 4095 (seenV (orV p1 p2) mi di)), 0)) ∨ ∃ e, e ≠ 0 ∧ r52 i1 t1 p1 i2 t2 p2 at_ ap mi di sh f s l = ((0, 0, 0, 0, 0), e) := by
  unfold r52
  by_cases h : (KeyOk i1 t1 p1 ∧ KeyOk i2 t2 p2 ∧ BlowOk mi di f s l) ∧ TwiceOk i1 t1 i2 t2 ap
  · rw [if_pos h]
    rcases r113_cases (orV p1 p2) t1 at_ ap mi di sh f s l with ⟨h1, h2⟩ | h2
    · exact .inl ⟨⟨h.1, h.2, h1⟩, h2⟩
    · exact .inr ⟨3, by decide, h2⟩
  · rw [if_neg h]; exact .inr ⟨1, by decide, rfl⟩
theorem or_key {i t p q : Int} (hp : KeyOk i t p) (hq : 1 ≤ q ∧ q ≤ 4095) : KeyOk i t (orV p q) ∧ orV p q = orV q p := by
  obtain ⟨k1, k2, k3, k4, k5, k6⟩ := hp
  obtain ⟨P, rfl⟩ := val_of (a := p) (by omega) k6
  obtain ⟨Q, rfl⟩ := val_of (a := q) (by omega) hq.2
  have hr := val_range (P ||| Q)
  rw [or_val, or_val]
  refine ⟨⟨k1, k2, k3, k4, ?_, hr.2⟩, by rw [BitVec.or_comm]⟩
  rcases Int.lt_or_le 0 (val (P ||| Q)) with h | h
  · omega
  · exfalso
    have h0 : P ||| Q = 0#12 := val_inj (by have : val (0#12) = 0 := rfl; omega)
    have hP : P = 0#12 := by
      have := congrArg (fun z => P &&& z) h0
      simp only [BitVec.and_zero] at this
      apply BitVec.eq_of_getLsbD_eq
      intro k hk
      have h1 := congrArg (fun z => BitVec.getLsbD z k) h0
      simp only [BitVec.getLsbD_or, BitVec.getLsbD_zero, Bool.or_eq_false_iff] at h1
      rw [h1.1]; simp
    subst hP
    have : val (0#12) = 0 := rfl
    omega

theorem r1008_true (ks : List K) (wi wo at_ ap mi di sh f s l bf af un : Int) : r1008 ks wi wo at_ ap mi di sh f s l bf af un = true := by
  unfold r1008
  by_cases h2 : (ks.length : Int) < 2
  · rw [if_pos h2]
  rw [if_neg h2]
  by_cases h40 : 40 < (ks.length : Int)
  · rw [if_pos h40]
  rw [if_neg h40]
  by_cases hB : bunch ks = true
  case neg => rw [if_neg hB]
  rw [if_pos hB]
  have hx := lget_some (l := ks) (wh_ok ks.length wi (by omega)).2
  have hy := lget_some (l := ks) (wh_ok ks.length wo (by omega)).2
  have hm := R1008_m ks wi wo at_ ap mi di sh f s l bf af un
  obtain ⟨i, hi⟩ : ∃ i, wh ks.length wi = i := ⟨_, rfl⟩
  obtain ⟨k, hk⟩ : ∃ k, wh ks.length wo = k := ⟨_, rfl⟩
  obtain ⟨x, hxe⟩ : ∃ x, lget ks (wh ks.length wi) = x := ⟨_, rfl⟩
  obtain ⟨y, hye⟩ : ∃ y, lget ks (wh ks.length wo) = y := ⟨_, rfl⟩
  rw [hxe, hi] at hx
  rw [hye, hk] at hy
  rw [hxe, hye] at hm
  rcases r52_cases x.i x.t x.p y.i y.t y.p at_ ap mi di sh f s l with ⟨⟨⟨hk1, hk2, hb⟩, ht, hh⟩, hr⟩ | ⟨er, hne, hr⟩
  · have hM8 : M8 ks wi wo at_ ap mi di sh f s l = ((angle (angle at_ + sh), ap, x.t, seenV (orV x.p y.p) mi di, notV 4095 (seenV (orV x.p y.p) mi di)), 0) := by
      unfold M8
      rw [hxe, hye]
      exact hr
    obtain ⟨t1, t2, t3, t4⟩ := ht
    obtain ⟨ho, hcm⟩ := or_key hk1 ⟨hk2.2.2.2.2.1, hk2.2.2.2.2.2⟩
    have hM := hit_mark (at_ := at_) (sh := sh) (lo := ap) ho hb ⟨t3, t4⟩
    obtain ⟨u, w, p, q, hu, hw, hn⟩ := blur_is hM t4 bf af un
    have hN8 : N8 ks wi wo at_ ap mi di sh f s l bf af un = (angle (angle (angle at_ + sh) - u), ap + u + w, x.t, notV (seenV (orV x.p y.p) mi di) (val p), notV (notV 4095 (seenV (orV x.p y.p) mi di)) (val q)) := by
      unfold N8
      rw [hM8]
      exact hn
    obtain ⟨hN, hS⟩ := blur_ok hM t4 hu hw p q
    have hS8 : S8 ks wi wo at_ ap mi di sh f s l bf af un = ((angle (angle at_ + sh), ap, x.t, seenV (orV x.p y.p) mi di, notV 4095 (seenV (orV x.p y.p) mi di)), 0) := by
      unfold S8
      rw [hN8, hM8]
      exact hS
    obtain ⟨hI, b1, b2, b3, b4⟩ := hb
    have hsh := shows_hit (p := orV x.p y.p) (by unfold KeyOk at ho; omega) ⟨b1, b2⟩ ⟨b3, b4⟩ ⟨hh.1, hh.2.1⟩ p q
    have hcan : r118 (angle (angle (angle at_ + sh) - u)) (ap + u + w) x.t (notV (seenV (orV x.p y.p) mi di) (val p)) (notV (notV 4095 (seenV (orV x.p y.p) mi di)) (val q)) (orV x.p y.p) f s l = true := by
      unfold r118
      rw [if_pos hsh.1]
      exact decide_eq_true hsh.2
    have hP8 : P8 ks wi wo at_ ap mi di sh f s l bf af un = (R60_0 ks (angle (angle (angle at_ + sh) - u)) (ap + u + w) x.t (notV (seenV (orV x.p y.p) mi di) (val p)) (notV (notV 4095 (seenV (orV x.p y.p) mi di)) (val q)) f s l ks 0 [], 0) := by
      unfold P8
      rw [hN8]
      show r60 ks _ _ _ _ _ f s l = _
      unfold r60
      rw [if_pos hB, errV_pos hN, if_pos rfl, errV_pos hI, if_pos rfl]
    rw [hM8, hS8, hP8]
    dsimp only
    rw [if_pos rfl, if_pos rfl, if_pos ⟨rfl, rfl, rfl, rfl, rfl⟩, if_pos rfl]
    apply hm
    rcases Nat.lt_trichotomy i k with c | c | c
    · have hlt := inc2 hB (k - i - 1) i x y hx (by rw [show i + (k - i - 1) + 1 = k by omega]; exact hy)
      rw [show min x.i y.i = x.i by omega, show max x.i y.i = y.i by omega]
      exact R60_0_mem hx hy c rfl t2.symm hcan rfl (Nat.zero_le _)
    · exfalso
      subst c
      rw [hx] at hy
      cases hy
      exact t1 rfl
    · have hlt := inc2 hB (i - k - 1) k y x hy (by rw [show k + (i - k - 1) + 1 = i by omega]; exact hx)
      rw [show min x.i y.i = y.i by omega, show max x.i y.i = x.i by omega]
      exact R60_0_mem hy hx c t2.symm rfl (by rw [← hcm]; exact hcan) rfl (Nat.zero_le _)
  · have hM8 : M8 ks wi wo at_ ap mi di sh f s l = ((0, 0, 0, 0, 0), er) := by
      unfold M8
      rw [hxe, hye]
      exact hr
    rw [hM8]
    dsimp only
    rw [if_neg hne]
    simp
end Great
end Go.Proofs
