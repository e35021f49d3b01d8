/-
  BO: EvM6, EvM7.
-/
import Derived.Test.YtgbjgljchkodjaaGreatDoorBU
import Derived.Test.YtgbjgljchkodjaaGreatDoorEvM4
section
/-
  The great seat of stage 1: what is known more has fewer makers, pairs and angles.
-/
set_option linter.unusedSimpArgs false
set_option linter.unusedVariables false
set_option linter.unusedSectionVars false
namespace Go.Proofs
namespace Great
open Go Go.RowKit Go.Aev
set_option maxRecDepth 100000

theorem wordBit (E : BitVec 12) (i : Nat) (h : ¬ i < 12) : E.getLsbD i = false := BitVec.getLsbD_of_ge _ _ (by omega)
theorem and_any (p : Int) (E : BitVec 12) : andV p (val E) = val ((BitVec.ofInt 64 p).setWidth 12 &&& E) := by
  unfold andV
  apply wrap_val
  show BitVec.ofInt 64 p &&& BitVec.ofInt 64 (val E) = _
  rw [val_word]
  apply BitVec.eq_of_getLsbD_eq
  intro i hi
  simp only [BitVec.getLsbD_and, BitVec.getLsbD_setWidth]
  by_cases h : i < 12
  · simp [h, hi]
  · simp [wordBit E i h, h]
theorem not_any (D : BitVec 12) (p : Int) : notV (val D) p = val (D &&& ~~~((BitVec.ofInt 64 p).setWidth 12)) := by
  unfold notV
  apply wrap_val
  show BitVec.ofInt 64 (val D) &&& ~~~(BitVec.ofInt 64 p) = _
  rw [val_word]
  apply BitVec.eq_of_getLsbD_eq
  intro i hi
  simp only [BitVec.getLsbD_and, BitVec.getLsbD_setWidth, BitVec.getLsbD_not]
  by_cases h : i < 12
  · simp [h, hi]
  · simp [wordBit D i h, h]
/-- Of the second mark no more is known than of the first. -/
structure Shp (a b c d e aa ba ca da ea : Int) : Prop where
  ok1 : MarkOk a b c d e
  ok2 : MarkOk aa ba ca da ea
  tr : c = ca
  arc : ∀ n, InA a b n → InA aa ba n
  bits : ∃ D E D2 E2 : BitVec 12, d = val D ∧ e = val E ∧ da = val D2 ∧ ea = val E2 ∧ (∀ k, D2.getLsbD k = true → D.getLsbD k = true) ∧ ∀ k, E2.getLsbD k = true → E.getLsbD k = true
section
variable {a b c d e aa ba ca da ea : Int} (h : Shp a b c d e aa ba ca da ea) {f s l : Int}
include h
theorem Shp.shows (p : Int) (h1 : r118 a b c d e p f s l = true) : r118 aa ba ca da ea p f s l = true := by
  obtain ⟨D, E, D2, E2, rfl, rfl, rfl, rfl, hD, hE⟩ := h.bits
  unfold r118 at h1 ⊢
  rw [and_any, not_any] at h1 ⊢
  by_cases c1 : cnt (val ((BitVec.ofInt 64 p).setWidth 12 &&& E)) ≤ f
  case neg => rw [if_neg c1] at h1; simp at h1
  rw [if_pos c1, decide_eq_true_eq] at h1
  have l1 : cnt (val ((BitVec.ofInt 64 p).setWidth 12 &&& E2)) ≤ cnt (val ((BitVec.ofInt 64 p).setWidth 12 &&& E)) := cnt_le fun k hk => by
    simp only [BitVec.getLsbD_and, Bool.and_eq_true] at hk ⊢
    exact ⟨hk.1, hE k hk.2⟩
  have l2 : cnt (val (D2 &&& ~~~((BitVec.ofInt 64 p).setWidth 12))) ≤ cnt (val (D &&& ~~~((BitVec.ofInt 64 p).setWidth 12))) := cnt_le fun k hk => by
    simp only [BitVec.getLsbD_and, Bool.and_eq_true] at hk ⊢
    exact ⟨hD k hk.1, hk.2⟩
  rw [if_pos (by omega), decide_eq_true_eq]
  omega
theorem Shp.can (i t p : Int) (h1 : r117 a b c d e i t p f s l = true) : r117 aa ba ca da ea i t p f s l = true := by
  unfold r117 at h1 ⊢
  by_cases c1 : t = c
  case neg => rw [if_neg c1] at h1; simp at h1
  rw [if_pos c1] at h1
  rw [if_pos (c1.trans h.tr)]
  exact h.shows p h1
theorem Shp.makers (ks : List K) : ∀ (m : List K) (o o2 : List Int), (∀ x ∈ o, x ∈ o2) → ∀ x ∈ R59_0 ks a b c d e f s l m o, x ∈ R59_0 ks aa ba ca da ea f s l m o2 := by
  intro m
  induction m with
  | nil => intro o o2 ho x hx; exact ho x hx
  | cons y m ih =>
    intro o o2 ho x hx
    rw [R59_0] at hx ⊢
    by_cases c1 : r117 a b c d e y.i y.t y.p f s l = true
    · rw [if_pos c1] at hx
      rw [if_pos (h.can _ _ _ c1)]
      refine ih _ _ (fun z hz => ?_) x hx
      rcases List.mem_append.1 hz with hz | hz
      · exact List.mem_append_left _ (ho z hz)
      · exact List.mem_append_right _ hz
    · rw [if_neg c1] at hx
      split
      · exact ih _ _ (fun z hz => List.mem_append_left _ (ho z hz)) x hx
      · exact ih _ _ ho x hx
theorem Shp.pairs1 (ks : List K) (j : Nat) (q q2 : List (Int × Int)) (x : K) : ∀ (m : List K) (o o2 : List (Int × Int)), (∀ z ∈ o, z ∈ o2) → ∀ z ∈ R60_1 ks a b c d e f s l j q x m o, z ∈ R60_1 ks aa ba ca da ea f s l j q2 x m o2 := by
  intro m
  induction m with
  | nil => intro o o2 ho z hz; exact ho z hz
  | cons y m ih =>
    intro o o2 ho z hz
    rw [R60_1] at hz ⊢
    have htr := h.tr
    by_cases c1 : y.t = c
    · rw [if_pos c1] at hz
      rw [if_pos (c1.trans htr)]
      by_cases c2 : r118 a b c d e (orV x.p y.p) f s l = true
      · rw [if_pos c2] at hz
        rw [if_pos (h.shows _ c2)]
        refine ih _ _ (fun w hw => ?_) z hz
        rcases List.mem_append.1 hw with hw | hw
        · exact List.mem_append_left _ (ho w hw)
        · exact List.mem_append_right _ hw
      · rw [if_neg c2] at hz
        split
        · exact ih _ _ (fun w hw => List.mem_append_left _ (ho w hw)) z hz
        · exact ih _ _ ho z hz
    · rw [if_neg c1] at hz
      rw [if_neg (fun hh => c1 (hh.trans htr.symm))]
      exact ih _ _ ho z hz
theorem Shp.pairs (ks : List K) : ∀ (m : List K) (j : Nat) (o o2 : List (Int × Int)), (∀ z ∈ o, z ∈ o2) → ∀ z ∈ R60_0 ks a b c d e f s l m j o, z ∈ R60_0 ks aa ba ca da ea f s l m j o2 := by
  intro m
  induction m with
  | nil => intro j o o2 ho z hz; exact ho z hz
  | cons y m ih =>
    intro j o o2 ho z hz
    rw [R60_0] at hz ⊢
    have htr := h.tr
    by_cases c1 : y.t = c
    · rw [if_pos c1] at hz
      rw [if_pos (c1.trans htr)]
      exact ih _ _ _ (h.pairs1 ks j o o2 y _ _ _ ho) z hz
    · rw [if_neg c1] at hz
      rw [if_neg (fun hh => c1 (hh.trans htr.symm))]
      exact ih _ _ _ ho z hz
end

/-! ### Arcs within arcs, both wider -/
theorem arc_in {f l f2 l2 : Int} (h : ArcOk f l) (h2 : ArcOk f2 l2) (hs : ∀ n, InA f2 l2 n → InA f l n) : l = 43199 ∨ (f2 - f) % 43200 + l2 ≤ l := by
  have hx : (f = 0 ∧ l = 43199) ∨ (0 ≤ f ∧ f < 43200 ∧ 0 ≤ l ∧ l < 43199) := h
  have hx2 : (f2 = 0 ∧ l2 = 43199) ∨ (0 ≤ f2 ∧ f2 < 43200 ∧ 0 ≤ l2 ∧ l2 < 43199) := h2
  have h1 := hs f2 (by unfold InA; omega)
  have h3 := hs ((f + l + 1) % 43200)
  unfold InA at h1 h3
  omega
theorem widen_in {f l f2 l2 w : Int} (h : ArcOk f l) (h2 : ArcOk f2 l2) (hs : ∀ n, InA f2 l2 n → InA f l n) (hw : 0 ≤ w ∧ w ≤ 43200) : ∀ n, InA (r92 f2 l2 w).1 (r92 f2 l2 w).2 n → InA (r92 f l w).1 (r92 f l w).2 n := by
  have hx : (f = 0 ∧ l = 43199) ∨ (0 ≤ f ∧ f < 43200 ∧ 0 ≤ l ∧ l < 43199) := h
  have hx2 : (f2 = 0 ∧ l2 = 43199) ∨ (0 ≤ f2 ∧ f2 < 43200 ∧ 0 ≤ l2 ∧ l2 < 43199) := h2
  have hin := arc_in h h2 hs
  have ok2 : ArcOk (r92 f2 l2 w).1 (r92 f2 l2 w).2 := r94_ok h2 hw
  have ok1 : ArcOk (r92 f l w).1 (r92 f l w).2 := r94_ok h hw
  intro n hn
  have hr := inA_range ok2 hn
  rw [inA_iff ok2 hr] at hn
  rw [inA_iff ok1 hr]
  have w0 : IntKind.i64.wrap (2 * w) = 2 * w := wr64 (by omega)
  have w1 : IntKind.i64.wrap (l + 2 * w) = l + 2 * w := wr64 (by omega)
  have w2 : IntKind.i64.wrap (l2 + 2 * w) = l2 + 2 * w := wr64 (by omega)
  have w3 : IntKind.i64.wrap (f - w) = f - w := wr64 (by omega)
  have w4 : IntKind.i64.wrap (f2 - w) = f2 - w := wr64 (by omega)
  unfold r92 at hn ⊢
  rw [w0, w1, w3]
  rw [w0, w2, w4] at hn
  by_cases c : 43199 ≤ l + 2 * w
  · rw [if_pos c]; dsimp only; omega
  · rw [if_neg c]
    rw [if_neg (by omega)] at hn
    unfold angle at hn ⊢
    dsimp only at hn ⊢
    omega
theorem in_widen {f l w : Int} (h : ArcOk f l) (hw : 0 ≤ w ∧ w ≤ 43200) : ∀ n, InA f l n → InA (r92 f l w).1 (r92 f l w).2 n := by
  have hx : (f = 0 ∧ l = 43199) ∨ (0 ≤ f ∧ f < 43200 ∧ 0 ≤ l ∧ l < 43199) := h
  have ok1 : ArcOk (r92 f l w).1 (r92 f l w).2 := r94_ok h hw
  intro n hn
  have hr := inA_range h hn
  rw [inA_iff h hr] at hn
  rw [inA_iff ok1 hr]
  have w0 : IntKind.i64.wrap (2 * w) = 2 * w := wr64 (by omega)
  have w1 : IntKind.i64.wrap (l + 2 * w) = l + 2 * w := wr64 (by omega)
  have w3 : IntKind.i64.wrap (f - w) = f - w := wr64 (by omega)
  unfold r92
  rw [w0, w1, w3]
  by_cases c : 43199 ≤ l + 2 * w
  · rw [if_pos c]; dsimp only; omega
  · rw [if_neg c]
    unfold angle
    dsimp only
    omega
theorem r87_nil : r87 [] = [] := by simp [r87, R87_2]
theorem minus_none {f l f2 l2 : Int} (h : ArcOk f l) (h2 : ArcOk f2 l2) (hs : ∀ n, InA f2 l2 n → InA f l n) : r26 [⟨f2, l2⟩] [⟨f, l⟩] = [] := by
  obtain ⟨a1, a2, a3⟩ := r88_ok (one_ok h2)
  obtain ⟨b1, b2, b3⟩ := r88_ok (one_ok h)
  obtain ⟨r1, r2, r3⟩ := r90_ok b1 b2
  obtain ⟨m1, m2, m3⟩ := r89_ok a1 a2 r1 r2
  have e : r89 (r88 [⟨f2, l2⟩]) (r90 (r88 [⟨f, l⟩])) = [] := by
    refine scan_uniq _ _ 0 0 m1 trivial fun n => ?_
    rw [m3, a3, r3, b3, smem_one_arc h2, smem_one_arc h]
    exact ⟨fun hh => absurd (hs n hh.1) hh.2.2.2, fun hh => absurd hh (smem_nil n)⟩
  unfold r26
  rw [e, r87_nil]
theorem minus_nil (b : List Ar) : r26 [] b = [] := by
  have : r88 [] = [] := rfl
  unfold r26
  rw [this]
  exact r87_nil
section
variable {a b c d e aa ba ca da ea : Int} (h : Shp a b c d e aa ba ca da ea) (ks : List K) {f s l : Int}
include h
theorem Shp.loop0 : ∀ m : List Int, (∀ x ∈ m, x ∈ (r59 ks aa ba ca da ea f s l).1) → R1048_0 ks a b c d e aa ba ca da ea f s l m = .inr () := by
  intro m
  induction m with
  | nil => intro _; rfl
  | cons x m ih =>
    intro hm
    rw [R1048_0, if_pos (r1045_mem (hm x (by simp)))]
    exact ih fun y hy => hm y (by simp [hy])
theorem Shp.loop2 (k : Nat) : ∀ (m : List (Int × Int)) (i : Bool), (i = true ∨ lget (r60 ks a b c d e f s l).1 k ∈ m) → R1048_2 ks a b c d e aa ba ca da ea f s l k m i = true := by
  intro m
  induction m with
  | nil => intro i hi; rcases hi with hi | hi
           · exact hi
           · simp at hi
  | cons x m ih =>
    intro i hi
    rw [R1048_2]
    by_cases c1 : i = true
    · rw [if_pos c1]; exact ih true (.inl rfl)
    · rw [if_neg c1]
      rcases hi with hi | hi
      · exact absurd hi c1
      · rcases List.mem_cons.1 hi with hi | hi
        · exact ih _ (.inl (by rw [hi]; simp))
        · exact ih _ (.inr hi)
theorem Shp.loop1 (hp : ∀ x ∈ (r60 ks a b c d e f s l).1, x ∈ (r60 ks aa ba ca da ea f s l).1) : ∀ (m : List (Int × Int)) (k : Nat), (r60 ks a b c d e f s l).1.drop k = m → R1048_1 ks a b c d e aa ba ca da ea f s l m k = .inr () := by
  intro m
  induction m with
  | nil => intro k _; rfl
  | cons x m ih =>
    intro k hk
    obtain ⟨e1, e2, e3⟩ := drop_lget hk
    rw [R1048_1, if_pos (h.loop2 ks k _ _ (.inr (hp _ (List.mem_of_getElem? (lget_some e3)))))]
    exact ih _ e2
theorem Shp.angles (i t p : Int) : (r61 i t p a b c d e f s l).2 = (r61 i t p aa ba ca da ea f s l).2 ∧ ((r61 i t p a b c d e f s l).2 = 0 → r26 (r61 i t p a b c d e f s l).1 (r61 i t p aa ba ca da ea f s l).1 = []) := by
  unfold r61
  rw [errV_pos h.ok1, errV_pos h.ok2]
  by_cases h1 : errV (KeyOk i t p) = 0
  case neg => rw [if_neg h1, if_neg h1]; exact ⟨rfl, fun _ => minus_nil _⟩
  rw [if_pos h1, if_pos h1, if_pos rfl, if_pos rfl]
  by_cases h3 : errV (InkOk f s l) = 0
  case neg => rw [if_neg h3, if_neg h3]; exact ⟨rfl, fun _ => minus_nil _⟩
  rw [if_pos h3, if_pos h3]
  have hI := errV_z.1 h3
  by_cases c1 : r117 a b c d e i t p f s l = true
  · rw [if_pos c1, if_pos (h.can i t p c1)]
    have hw : 0 ≤ l ∧ l ≤ 43200 := by unfold InkOk at hI; omega
    exact ⟨rfl, fun _ => minus_none (r94_ok h.ok2.1 hw) (r94_ok h.ok1.1 hw) (widen_in h.ok2.1 h.ok1.1 h.arc hw)⟩
  · rw [if_neg c1]
    refine ⟨?_, fun _ => minus_nil _⟩
    split <;> rfl
theorem Shp.loop3 : ∀ m : List K, R1048_3 ks a b c d e aa ba ca da ea f s l m = .inr () := by
  intro m
  induction m with
  | nil => rfl
  | cons x m ih =>
    obtain ⟨h1, h2⟩ := h.angles (f := f) (s := s) (l := l) x.i x.t x.p
    rw [R1048_3, if_pos h1]
    by_cases c1 : (r61 x.i x.t x.p a b c d e f s l).2 = 0
    · rw [if_pos c1, h2 c1, if_pos (by simp)]; exact ih
    · rw [if_neg c1]; exact ih
theorem Shp.among : r1048 ks a b c d e aa ba ca da ea f s l = true := by
  have e1 : (r59 ks a b c d e f s l).2 = (r59 ks aa ba ca da ea f s l).2 := by
    unfold r59
    rw [errV_pos h.ok1, errV_pos h.ok2]
    repeat' split
    all_goals rfl
  have e2 : (r60 ks a b c d e f s l).2 = (r60 ks aa ba ca da ea f s l).2 := by
    unfold r60
    rw [errV_pos h.ok1, errV_pos h.ok2]
    repeat' split
    all_goals rfl
  have e3 : (r59 ks a b c d e f s l).2 = (r60 ks a b c d e f s l).2 := by
    unfold r59 r60
    repeat' split
    all_goals rfl
  have p1 : ∀ x ∈ (r59 ks a b c d e f s l).1, x ∈ (r59 ks aa ba ca da ea f s l).1 := by
    unfold r59
    rw [errV_pos h.ok1, errV_pos h.ok2]
    split
    · rw [if_pos rfl, if_pos rfl]
      split
      · exact h.makers ks ks [] [] (fun x hx => hx)
      · exact fun x hx => hx
    · exact fun x hx => hx
  have p2 : ∀ x ∈ (r60 ks a b c d e f s l).1, x ∈ (r60 ks aa ba ca da ea f s l).1 := by
    unfold r60
    rw [errV_pos h.ok1, errV_pos h.ok2]
    split
    · rw [if_pos rfl, if_pos rfl]
      split
      · exact h.pairs ks ks 0 [] [] (fun x hx => hx)
      · exact fun x hx => hx
    · exact fun x hx => hx
  unfold r1048
  rw [if_pos e1, if_pos e2, if_pos e3, onSum_inr (h.loop0 ks _ p1), onSum_inr (h.loop1 ks p2 (r60 ks a b c d e f s l).1 0 rfl), onSum_inr (h.loop3 ks ks)]
end
end Great
end Go.Proofs
end
section
/-
  The great seat of stage 1: what Sharpen and Blur do to what is known.
-/
set_option linter.unusedSimpArgs false
set_option linter.unusedVariables false
namespace Go.Proofs
namespace Great
open Go Go.RowKit Go.Aev
set_option maxRecDepth 100000

theorem one_arc {T : List Sp} (h : SCan 0 T) (hu : Up T) {x : Ar} (he : r87 T = [x]) : ArcOk x.f x.l ∧ ∀ n, InA x.f x.l n ↔ SMem T n := by
  rw [r87_wrapA h hu] at he
  unfold wrapA at he
  by_cases c : 1 < (T.map toAr).length ∧ (lget (T.map toAr) 0).f = 0 ∧ IntKind.i64.wrap ((lget (T.map toAr) ((T.map toAr).length - 1)).f + (lget (T.map toAr) ((T.map toAr).length - 1)).l) = 43199
  · rw [if_pos c] at he
    have hl : T.length = 2 := by
      have := congrArg List.length he
      simp only [List.length_drop, List.length_set, List.length_map, List.length_cons, List.length_nil] at this
      omega
    match T, hl, h, hu with
    | [s, t], _, h, hu =>
      obtain ⟨h1, h2, h3, h4, _⟩ := h
      have us := hu s (by simp)
      have ut := hu t (by simp)
      have c2 : s.lo = 0 := c.2.1
      have c3 : IntKind.i64.wrap (t.lo + (t.hi - t.lo)) = 43199 := c.2.2
      rw [wr64 (by omega)] at c3
      have w2 : IntKind.i64.wrap (1 + (s.hi - s.lo)) = 1 + (s.hi - s.lo) := wr64 (by omega)
      have w3 : IntKind.i64.wrap ((t.hi - t.lo) + (1 + (s.hi - s.lo))) = (t.hi - t.lo) + (1 + (s.hi - s.lo)) := wr64 (by omega)
      have hx : x = ⟨t.lo, IntKind.i64.wrap ((t.hi - t.lo) + IntKind.i64.wrap (1 + (s.hi - s.lo)))⟩ := (List.cons.inj he).1.symm
      rw [w2, w3] at hx
      subst hx
      dsimp only
      refine ⟨.inr ⟨by omega, by omega, by omega, by omega⟩, fun n => ?_⟩
      rw [smem_cons, smem_cons]
      unfold InA
      simp only [smem_nil, or_false]
      omega
  · rw [if_neg c] at he
    match T, h, hu, he with
    | [s], h, hu, he =>
      obtain ⟨h1, h2, _⟩ := h
      have us := hu s (by simp)
      have hx : x = ⟨s.lo, s.hi - s.lo⟩ := (List.cons.inj he).1.symm
      subst hx
      dsimp only
      refine ⟨?_, fun n => ?_⟩
      · unfold ArcOk; omega
      · rw [smem_one]; unfold InA; omega
theorem sub_or (s t : BitVec 12) : ∀ k, s.getLsbD k = true → (s ||| t).getLsbD k = true := fun k h => by simp [h]
theorem sub_or' (s t : BitVec 12) : ∀ k, t.getLsbD k = true → (s ||| t).getLsbD k = true := fun k h => by simp [h]
theorem sub_less (s t : BitVec 12) : ∀ k, (s &&& ~~~t).getLsbD k = true → s.getLsbD k = true := fun k h => by
  simp only [BitVec.getLsbD_and, Bool.and_eq_true] at h; exact h.1
/-- What Sharpen returns is sharper than either. -/
theorem sharpen_shp {a b c d e aa ba ca da ea : Int} (h : (r57 a b c d e aa ba ca da ea).2 = 0) : ∃ f l s t : Int, r57 a b c d e aa ba ca da ea = ((f, l, c, s, t), 0) ∧ Shp f l c s t a b c d e ∧ Shp f l c s t aa ba ca da ea := by
  revert h
  unfold r57
  by_cases h1 : errV (MarkOk a b c d e) = 0
  case neg => rw [if_neg h1]; intro h; exact absurd h (by decide)
  rw [if_pos h1]
  by_cases h2 : errV (MarkOk aa ba ca da ea) = 0
  case neg => rw [if_neg h2]; intro h; exact absurd h (by decide)
  rw [if_pos h2]
  by_cases h3 : c = ca
  case neg => rw [if_neg h3]; intro h; exact absurd h (by decide)
  rw [if_pos h3]
  by_cases h4 : andV (orV d da) (orV e ea) = 0
  case neg => rw [if_neg h4]; intro h; exact absurd h (by decide)
  rw [if_pos h4]
  by_cases h5 : ((r25 [⟨a, b⟩] [⟨aa, ba⟩]).length : Int) = 0
  · rw [if_pos h5]; intro h; exact absurd h (by decide)
  rw [if_neg h5]
  by_cases h6 : 1 < ((r25 [⟨a, b⟩] [⟨aa, ba⟩]).length : Int)
  · rw [if_pos h6]; intro h; exact absurd h (by decide)
  rw [if_neg h6]
  intro _
  have m1 := errV_z.1 h1
  have m2 := errV_z.1 h2
  obtain ⟨a1, a2, a3⟩ := r88_ok (one_ok m1.1)
  obtain ⟨b1, b2, b3⟩ := r88_ok (one_ok m2.1)
  obtain ⟨n1, n2, n3⟩ := r89_ok a1 a2 b1 b2
  obtain ⟨x, hx⟩ : ∃ x, r25 [⟨a, b⟩] [⟨aa, ba⟩] = [x] := by
    have hl : (r25 [⟨a, b⟩] [⟨aa, ba⟩]).length = 1 := by omega
    exact List.length_eq_one_iff.1 hl
  rw [hx]
  obtain ⟨k1, k2⟩ := one_arc n1 n2 hx
  have k3 : ∀ n, InA x.f x.l n → InA a b n ∧ InA aa ba n := fun n hn => by
    have := (n3 n).1 ((k2 n).1 hn)
    rw [a3, b3, smem_one_arc m1.1, smem_one_arc m2.1] at this
    exact this
  have mm1 := m1
  have mm2 := m2
  obtain ⟨_, t1, t2, d1, d2, e1, e2, z1⟩ := m1
  obtain ⟨_, t1', t2', d1', d2', e1', e2', z2⟩ := m2
  obtain ⟨D, rfl⟩ := val_of d1 d2
  obtain ⟨E, rfl⟩ := val_of e1 e2
  obtain ⟨D2, rfl⟩ := val_of d1' d2'
  obtain ⟨E2, rfl⟩ := val_of e1' e2'
  rw [or_val, or_val] at h4 ⊢
  have hs : MarkOk x.f x.l c (val (D ||| D2)) (val (E ||| E2)) := ⟨k1, t1, t2, (val_range _).1, (val_range _).2, (val_range _).1, (val_range _).2, h4⟩
  exact ⟨x.f, x.l, _, _, rfl, ⟨hs, mm1, rfl, fun n hn => (k3 n hn).1, D ||| D2, E ||| E2, D, E, rfl, rfl, rfl, rfl, sub_or _ _, sub_or _ _⟩,
    ⟨hs, mm2, h3, fun n hn => (k3 n hn).2, D ||| D2, E ||| E2, D2, E2, rfl, rfl, rfl, rfl, sub_or' _ _, sub_or' _ _⟩⟩
theorem blur_shp {a b c d e w u : Int} (h : (r55 a b c d e w u).2 = 0) : ∃ f l s t : Int, r55 a b c d e w u = ((f, l, c, s, t), 0) ∧ Shp a b c d e f l c s t := by
  revert h
  unfold r55
  by_cases h1 : errV (MarkOk a b c d e) = 0
  case neg => rw [if_neg h1]; intro h; exact absurd h (by decide)
  rw [if_pos h1]
  by_cases h2 : w < 0
  · rw [if_pos h2]; intro h; exact absurd h (by decide)
  rw [if_neg h2]
  by_cases h3 : 43200 < w
  · rw [if_pos h3]; intro h; exact absurd h (by decide)
  rw [if_neg h3]
  by_cases h4 : 0 ≤ u ∧ u ≤ 4095
  case neg => rw [if_neg h4]; intro h; exact absurd h (by decide)
  rw [if_pos h4]
  intro _
  have m1 := errV_z.1 h1
  have mm1 := m1
  obtain ⟨hA, t1, t2, d1, d2, e1, e2, z1⟩ := m1
  obtain ⟨D, rfl⟩ := val_of d1 d2
  obtain ⟨E, rfl⟩ := val_of e1 e2
  obtain ⟨U, rfl⟩ := val_of h4.1 h4.2
  have hz : D &&& E = 0#12 := val_inj (by rw [← and_val, z1]; rfl)
  rw [not_val, not_val]
  refine ⟨_, _, _, _, rfl, mm1, ⟨r94_ok hA (by omega), t1, t2, (val_range _).1, (val_range _).2, (val_range _).1, (val_range _).2, ?_⟩, rfl, in_widen hA (by omega), D, E, _, _, rfl, rfl, rfl, rfl, sub_less _ _, sub_less _ _⟩
  rw [and_val, and_less hz]; rfl
theorem r1009_true (ks : List K) (a b c d e aa ba ca da ea f s l w u : Int) : r1009 ks a b c d e aa ba ca da ea f s l w u = true := by
  unfold r1009
  by_cases h0 : 40 < (ks.length : Int)
  · rw [if_pos h0]
  rw [if_neg h0]
  have second : (if (r57 a b c d e aa ba ca da ea).2 = 0 then (if r1048 ks (r57 a b c d e aa ba ca da ea).1.1 (r57 a b c d e aa ba ca da ea).1.2.1 (r57 a b c d e aa ba ca da ea).1.2.2.1 (r57 a b c d e aa ba ca da ea).1.2.2.2.1 (r57 a b c d e aa ba ca da ea).1.2.2.2.2 a b c d e f s l = true then r1048 ks (r57 a b c d e aa ba ca da ea).1.1 (r57 a b c d e aa ba ca da ea).1.2.1 (r57 a b c d e aa ba ca da ea).1.2.2.1 (r57 a b c d e aa ba ca da ea).1.2.2.2.1 (r57 a b c d e aa ba ca da ea).1.2.2.2.2 aa ba ca da ea f s l else false) else true) = true := by
    by_cases h1 : (r57 a b c d e aa ba ca da ea).2 = 0
    case neg => rw [if_neg h1]
    rw [if_pos h1]
    obtain ⟨f', l', s', t', hr, q1, q2⟩ := sharpen_shp h1
    rw [hr]
    dsimp only
    rw [if_pos (q1.among ks), q2.among ks]
  by_cases h1 : (r55 a b c d e w u).2 = 0
  · rw [if_pos h1]
    obtain ⟨f', l', s', t', hr, q1⟩ := blur_shp h1
    rw [hr]
    dsimp only
    rw [if_pos (q1.among ks)]
    exact second
  · rw [if_neg h1]
    exact second
end Great
end Go.Proofs
end
