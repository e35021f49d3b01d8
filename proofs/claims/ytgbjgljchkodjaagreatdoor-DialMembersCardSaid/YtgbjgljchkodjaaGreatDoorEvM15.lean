/-
  The great seat of stage 1: the law DialMembers is true.
-/
import Derived.Test.YtgbjgljchkodjaaGreatDoorEvM14
import Derived.Test.YtgbjgljchkodjaaGreatDoorEvM12
import Derived.Test.YtgbjgljchkodjaaGreatDoorEvM10
set_option linter.unusedSimpArgs false
set_option linter.unusedVariables false
namespace Go.Proofs
namespace Great
open Go Go.RowKit Go.Aev
set_option maxRecDepth 100000
theorem mem_toAr {T : List Sp} (h : ∀ s ∈ T, 0 ≤ s.lo ∧ s.hi ≤ 43199) (n : Int) : (∃ x ∈ T.map toAr, InA x.f x.l n) ↔ SMem T n := by
  constructor
  · rintro ⟨x, hx, h2⟩
    obtain ⟨s, hs, rfl⟩ := List.mem_map.1 hx
    have := h s hs
    have h2 : InA s.lo (s.hi - s.lo) n := h2
    unfold InA at h2
    exact ⟨s, hs, by omega, by omega⟩
  · rintro ⟨s, hs, h1, h2⟩
    have := h s hs
    refine ⟨toAr s, List.mem_map.2 ⟨s, hs, rfl⟩, ?_⟩
    show InA s.lo (s.hi - s.lo) n
    unfold InA; omega
theorem set_last (y : Ar) (t : Sp) : ∀ mid : List Sp, (mid.map toAr ++ [toAr t]).set mid.length y = mid.map toAr ++ [y] := by
  intro mid
  induction mid with
  | nil => rfl
  | cons s mid ih => show toAr s :: (mid.map toAr ++ [toAr t]).set mid.length y = toAr s :: (mid.map toAr ++ [y]); rw [ih]
theorem ends {T : List Sp} (h : 1 < T.length) : ∃ s mid t, T = s :: (mid ++ [t]) := by
  match T, h with
  | s :: T, h =>
    rcases List.eq_nil_or_concat T with rfl | ⟨mid, t, rfl⟩
    · simp at h
    · exact ⟨s, mid, t, by simp⟩
theorem wrap_mem {T : List Sp} (h : SCan 0 T) (hu : Up T) (n : Int) : (∃ x ∈ wrapA (T.map toAr), InA x.f x.l n) ↔ SMem T n := by
  have hb : ∀ s ∈ T, 0 ≤ s.lo ∧ s.hi ≤ 43199 := fun s hs => ⟨(h.each s hs).1, hu s hs⟩
  have hc : ∀ s ∈ T, s.lo ≤ s.hi := fun s hs => (h.each s hs).2
  unfold wrapA
  by_cases c : 1 < (T.map toAr).length ∧ (lget (T.map toAr) 0).f = 0 ∧ IntKind.i64.wrap ((lget (T.map toAr) ((T.map toAr).length - 1)).f + (lget (T.map toAr) ((T.map toAr).length - 1)).l) = 43199
  case neg => rw [if_neg c]; exact mem_toAr hb n
  rw [if_pos c]
  obtain ⟨cz1, cz2, cz3⟩ := c
  rw [List.length_map] at *
  obtain ⟨s, mid, t, rfl⟩ := ends cz1
  have hl : (s :: (mid ++ [t])).length - 1 = mid.length + 1 := by simp
  have bs := hb s (by simp)
  have bt := hb t (by simp)
  have bt2 := hc t (by simp)
  have bs2 := hc s (by simp)
  have e0 : lget ((s :: (mid ++ [t])).map toAr) 0 = toAr s := rfl
  have e1 : lget ((s :: (mid ++ [t])).map toAr) (mid.length + 1) = toAr t := by
    rw [lget_toAr (T := s :: (mid ++ [t])) (by simp)]
    simp
  rw [hl, e1] at cz3 ⊢
  rw [e0] at cz2 ⊢
  have cz2 : s.lo = 0 := cz2
  have cz3 : IntKind.i64.wrap (t.lo + (t.hi - t.lo)) = 43199 := cz3
  rw [wr64 (by omega)] at cz3
  have w2 : IntKind.i64.wrap ((1 : Int) + (toAr s).l) = (1 : Int) + (s.hi - s.lo) := wr64 (by show -9223372036854775808 ≤ (1 : Int) + (s.hi - s.lo) ∧ (1 : Int) + (s.hi - s.lo) ≤ 9223372036854775807; omega)
  have w3 : IntKind.i64.wrap ((toAr t).l + ((1 : Int) + (s.hi - s.lo))) = (t.hi - t.lo) + ((1 : Int) + (s.hi - s.lo)) := wr64 (by show -9223372036854775808 ≤ (t.hi - t.lo) + ((1 : Int) + (s.hi - s.lo)) ∧ (t.hi - t.lo) + ((1 : Int) + (s.hi - s.lo)) ≤ 9223372036854775807; omega)
  rw [w2, w3]
  have ex : (((s :: (mid ++ [t])).map toAr).set (mid.length + 1) ⟨(toAr t).f, (t.hi - t.lo) + ((1 : Int) + (s.hi - s.lo))⟩).drop 1 = mid.map toAr ++ [⟨(toAr t).f, (t.hi - t.lo) + ((1 : Int) + (s.hi - s.lo))⟩] := by
    rw [List.map_cons, List.map_append]
    exact set_last _ t mid
  rw [ex]
  have hm := mem_toAr (T := mid) (fun q hq => hb q (by simp [hq])) n
  have hy : InA (toAr t).f ((t.hi - t.lo) + ((1 : Int) + (s.hi - s.lo))) n ↔ (t.lo ≤ n ∧ n ≤ t.hi) ∨ (s.lo ≤ n ∧ n ≤ s.hi) := by
    show InA t.lo ((t.hi - t.lo) + ((1 : Int) + (s.hi - s.lo))) n ↔ _
    unfold InA; omega
  rw [smem_cons, smem_append, smem_one, ← hm]
  constructor
  · rintro ⟨x, hx, h2⟩
    rcases List.mem_append.1 hx with hx | hx
    · exact .inr (.inl ⟨x, hx, h2⟩)
    · rw [List.mem_singleton] at hx
      subst hx
      rcases hy.1 h2 with h3 | h3
      · exact .inr (.inr h3)
      · exact .inl h3
  · rintro (h3 | ⟨x, hx, h2⟩ | h3)
    · exact ⟨_, List.mem_append.2 (.inr (List.mem_singleton.2 rfl)), hy.2 (.inr h3)⟩
    · exact ⟨x, List.mem_append.2 (.inl hx), h2⟩
    · exact ⟨_, List.mem_append.2 (.inr (List.mem_singleton.2 rfl)), hy.2 (.inl h3)⟩
theorem nf {T : List Sp} (h : SCan 0 T) (hu : Up T) : r78 (r87 T) = true ∧ ∀ u, (r77 (r87 T) u = true ↔ SMem T (angle u)) := by
  have ha := wrap_apt h hu
  rw [r87_wrapA h hu]
  refine ⟨apart_ok ha, fun u => ?_⟩
  rw [has_iff ha.1, wrap_mem h hu]
theorem R31_mem (l : List Ar) (w : Int) (x : Ar) : ∀ m o : List Ar, x ∈ R31_0 l w m o ↔ x ∈ o ∨ ∃ y ∈ m, x = ⟨(r94 y.f y.l w).1, (r94 y.f y.l w).2⟩ := by
  intro m
  induction m with
  | nil => intro o; simp [R31_0]
  | cons y m ih =>
    intro o
    rw [R31_0, ih]
    simp only [List.mem_append, List.mem_singleton, List.mem_cons, exists_eq_or_imp, or_assoc, List.not_mem_nil, false_or]
theorem R13_10 (a b : List Ar) (w u : Int) : ∀ (k : List Ar) (near : Bool), R13_1 a b w u k near = R13_0 a b w u k near := by
  intro k
  induction k with
  | nil => intro near; rfl
  | cons x k ih => intro near; rw [R13_1, R13_0]; simp only [ih]
theorem bool_eq {p q : Bool} (h : p = true ↔ q = true) : p = q := Bool.eq_iff_iff.2 h
theorem r13_true (a b : List Ar) (w u : Int) : r13 a b w u = true := by
  unfold r13
  by_cases ha : r75 a = true
  case neg => rw [if_neg ha]
  rw [if_pos ha]
  by_cases hb : r75 b = true
  case neg => rw [if_neg hb]
  rw [if_pos hb]
  have za := usual_ok ha
  have zb := usual_ok hb
  have fa := usual_few ha
  have va := (r20_ok za).1
  have vb := (r20_ok zb).1
  have zab : r21 a b = 0 := by unfold r21; rw [if_pos za]; exact zb
  have zba : r21 b a = 0 := by unfold r21; rw [if_pos zb]; exact za
  have hw := angle_range w
  have hu := angle_range u
  have hn : 0 ≤ Int.tmod (angle w) 700 ∧ Int.tmod (angle w) 700 ≤ 43200 := by
    rw [Int.tmod_eq_emod_of_nonneg (by omega)]; omega
  obtain ⟨a1, a2, a3⟩ := r88_ok va
  obtain ⟨b1, b2, b3⟩ := r88_ok vb
  have pa : r77 a u = true ↔ SMem (r88 a) (angle u) := by rw [has_iff va, a3, mem_178 va]
  have pb : r77 b u = true ↔ SMem (r88 b) (angle u) := by rw [has_iff vb, b3, mem_178 vb]
  -- Normal
  have en : nrm a = r87 (r88 a) := nrm_pos za
  obtain ⟨n1, n2⟩ := nf a1 a2
  -- Union
  have vab : ∀ x ∈ [] ++ a ++ b, ArcOk x.f x.l := by
    intro x hx
    simp only [List.nil_append, List.mem_append] at hx
    rcases hx with hx | hx
    · exact va x hx
    · exact vb x hx
  obtain ⟨u1, u2, u3⟩ := r88_ok vab
  have e24 : two r24 a b = r87 (r88 ([] ++ a ++ b)) := two_pos zab
  obtain ⟨q1, q2⟩ := nf u1 u2
  have pu : r77 (two r24 a b) u = true ↔ r77 a u = true ∨ r77 b u = true := by
    rw [e24, q2, u3, mem_178 vab, has_iff va, has_iff vb]
    simp only [List.nil_append, List.mem_append, or_and_right, exists_or]
  -- Meet
  obtain ⟨m1, m2, m3⟩ := r89_ok a1 a2 b1 b2
  have e25 : two r25 a b = r87 (r89 (r88 a) (r88 b)) := two_pos zab
  obtain ⟨s1, s2⟩ := nf m1 m2
  have pm : r77 (two r25 a b) u = true ↔ r77 a u = true ∧ r77 b u = true := by rw [e25, s2, m3, pa, pb]
  -- Minus
  obtain ⟨cz1, cz2, cz3⟩ := r90_ok b1 b2
  obtain ⟨d1, d2, d3⟩ := r89_ok a1 a2 cz1 cz2
  have e26 : two r26 a b = r87 (r89 (r88 a) (r90 (r88 b))) := two_pos zab
  obtain ⟨t1, t2⟩ := nf d1 d2
  have pd : r77 (two r26 a b) u = true ↔ r77 a u = true ∧ ¬ r77 b u = true := by
    rw [e26, t2, d3, cz3, pa, pb]
    constructor
    · rintro ⟨h1, _, _, h2⟩; exact ⟨h1, h2⟩
    · rintro ⟨h1, h2⟩; exact ⟨h1, by omega, by omega, h2⟩
  -- Grow
  have vg := R31_all a hn a [] va (fun x hx => by simp at hx)
  obtain ⟨g1, g2, g3⟩ := r88_ok vg
  obtain ⟨k1, k2⟩ := nf g1 g2
  have eg := grow_eq fa za hn
  have pg : r77 (r31 a (Int.tmod (angle w) 700)) u = R13_0 a b w u a false := by
    refine bool_eq ?_
    rw [R13_near a b w u a false va]
    show r77 (r87 (r88 (R31_0 a (Int.tmod (angle w) 700) a []))) u = true ↔ _
    rw [k2, g3, mem_178 vg]
    constructor
    · rintro ⟨x, hx, h2⟩
      rcases (R31_mem a _ x a []).1 hx with hx | ⟨y, hy, rfl⟩
      · simp at hx
      · exact .inr ⟨y, hy, h2⟩
    · rintro (h1 | ⟨y, hy, h2⟩)
      · simp at h1
      · exact ⟨_, (R31_mem a _ _ a []).2 (.inr ⟨y, hy, rfl⟩), h2⟩
  have pn : r77 (nrm a) u = r77 a u := bool_eq (by rw [en, n2, pa])
  have hc : cvr a b = decide (((two r26 b a).length : Int) = 0) := by
    unfold cvr
    rw [if_pos zab, two_pos zba]
  rw [eg, R13_10]
  rw [if_pos (by rw [en]; exact n1), if_pos (by rw [e24]; exact q1), if_pos (by rw [e25]; exact s1), if_pos (by rw [e26]; exact t1), if_pos (show r78 (r31 a (Int.tmod (angle w) 700), (0 : Int)).1 = true from k1), if_pos rfl, if_pos hc, if_pos pn]
  by_cases h1 : r77 a u = true
  · rw [if_pos h1, if_pos (pu.2 (.inl h1)), if_pos (bool_eq (by rw [pm]; exact ⟨fun h => h.2, fun h => ⟨h1, h⟩⟩)), if_pos (bool_eq (by rw [pd, Bool.not_eq_true']; exact ⟨fun h => by simpa using h.2, fun h => ⟨h1, by simpa using h⟩⟩))]
    exact decide_eq_true pg
  · rw [if_neg h1, if_pos (bool_eq (by rw [pu]; exact ⟨fun h => h.resolve_left h1, fun h => .inr h⟩)), if_pos (by
      rw [Bool.eq_false_iff]; intro h; exact h1 (pm.1 h).1), if_pos (by
      rw [Bool.eq_false_iff]; intro h; exact h1 (pd.1 h).1)]
    exact decide_eq_true pg
end Great
end Go.Proofs
