/-
  The great seat of stage 1: the law DialMembers is true.
-/
import Derived.Test.YtgbjgljchkodjaaDoorBM
import Derived.Test.YtgbjgljchkodjaaDoorEvM12
import Derived.Test.YtgbjgljchkodjaaDoorEvM10
set_option linter.unusedSimpArgs false
set_option linter.unusedVariables false
namespace Go.Proofs
namespace Great
open Go Go.RowKit Go.Aev
set_option maxRecDepth 100000
theorem mem_toAr {T : List Sp} (h : ∀ s ∈ T, 0 ≤ s.lo ∧ s.hi ≤ 43199) (n : Int) : (∃ x ∈ T.map toAr, InA x.f x.l n) ↔ SMem T n := by
  constructor
  · rintro ⟨x, hx, h2⟩
    obtain ⟨s, hs, rfl⟩ := List.mem_map.1 hx
    have := h s hs
    have h2 : InA s.lo (s.hi - s.lo) n := h2
    unfold InA at h2
    exact ⟨s, hs, by omega, by omega⟩
  · rintro ⟨s, hs, h1, h2⟩
    have := h s hs
    refine ⟨toAr s, List.mem_map.2 ⟨s, hs, rfl⟩, ?_⟩
    show InA s.lo (s.hi - s.lo) n
    unfold InA; omega
theorem set_last (y : Ar) (t : Sp) : ∀ mid : List Sp, (mid.map toAr ++ [toAr t]).set mid.length y = mid.map toAr ++ [y] := by
  intro mid
  induction mid with
  | nil => rfl
  | cons s mid ih => show toAr s :: (mid.map toAr ++ [toAr t]).set mid.length y = toAr s :: (mid.map toAr ++ [y]); rw [ih]
theorem ends {T : List Sp} (h : 1 < T.length) : ∃ s mid t, T = s :: (mid ++ [t]) := by
  match T, h with
  | s :: T, h =>
    rcases List.eq_nil_or_concat T with rfl | ⟨mid, t, rfl⟩
    · simp at h
    · exact ⟨s, mid, t, by simp⟩
theorem wrap_mem {T : List Sp} (h : SCan 0 T) (hu : Up T) (n : Int) : (∃ x ∈ wrapA (T.map toAr), InA x.f x.l n) ↔ SMem T n := by
  have hb : ∀ s ∈ T, 0 ≤ s.lo ∧ s.hi ≤ 43199 := fun s hs => ⟨(h.each s hs).1, hu s hs⟩
  have hc : ∀ s ∈ T, s.lo ≤ s.hi := fun s hs => (h.each s hs).2
  unfold wrapA
  by_cases c : 1 < (T.map toAr).length ∧ (lget (T.map toAr) 0).f = 0 ∧ IntKind.i64.wrap ((lget (T.map toAr) ((T.map toAr).length - 1)).f + (lget (T.map toAr) ((T.map toAr).length - 1)).l) = 43199
  case neg => rw [if_neg c]; exact mem_toAr hb n
  rw [if_pos c]
  obtain ⟨cz1, cz2, cz3⟩ := c
  rw [List.length_map] at *
  obtain ⟨s, mid, t, rfl⟩ := ends cz1
  have hl : (s :: (mid ++ [t])).length - 1 = mid.length + 1 := by simp
  have bs := hb s (by simp)
  have bt := hb t (by simp)
  have bt2 := hc t (by simp)
  have bs2 := hc s (by simp)
  have e0 : lget ((s :: (mid ++ [t])).map toAr) 0 = toAr s := rfl
  have e1 : lget ((s :: (mid ++ [t])).map toAr) (mid.length + 1) = toAr t := by
    rw [lget_toAr (T := s :: (mid ++ [t])) (by simp)]
    simp
  rw [hl, e1] at cz3 ⊢
  rw [e0] at cz2 ⊢
  have cz2 : s.lo = 0 := cz2
  have cz3 : IntKind.i64.wrap (t.lo + (t.hi - t.lo)) = 43199 := cz3
  rw [wr64 (by omega)] at cz3
  have w2 : IntKind.i64.wrap ((1 : Int) + (toAr s).l) = (1 : Int) + (s.hi - s.lo) := wr64 (by show -9223372036854775808 ≤ (1 : Int) + (s.hi - s.lo) ∧ (1 : Int) + (s.hi - s.lo) ≤ 9223372036854775807; omega)
  have w3 : IntKind.i64.wrap ((toAr t).l + ((1 : Int) + (s.hi - s.lo))) = (t.hi - t.lo) + ((1 : Int) + (s.hi - s.lo)) := wr64 (by show -9223372036854775808 ≤ (t.hi - t.lo) + ((1 : Int) + (s.hi - s.lo)) ∧ (t.hi - t.lo) + ((1 : Int) + (s.hi - s.lo)) ≤ 9223372036854775807; omega)
  rw [w2, w3]
  have ex : (((s :: (mid ++ [t])).map toAr).set (mid.length + 1) ⟨(toAr t).f, (t.hi - t.lo) + ((1 : Int) + (s.hi - s.lo))⟩).drop 1 = mid.map toAr ++ [⟨(toAr t).f, (t.hi - t.lo) + ((1 : Int) + (s.hi - s.lo))⟩] := by
    rw [List.map_cons, List.map_append]
    exact set_last _ t mid
  rw [ex]
  have hm := mem_toAr (T := mid) (fun q hq => hb q (by simp [hq])) n
  have hy : InA (toAr t).f ((t.hi - t.lo) + ((1 : Int) + (s.hi - s.lo))) n ↔ (t.lo ≤ n ∧ n ≤ t.hi) ∨ (s.lo ≤ n ∧ n ≤ s.hi) := by
    show InA t.lo ((t.hi - t.lo) + ((1 : Int) + (s.hi - s.lo))) n ↔ _
    unfold InA; omega
  rw [smem_cons, smem_append, smem_one, ← hm]
  constructor
  · rintro ⟨x, hx, h2⟩
    rcases List.mem_append.1 hx with hx | hx
    · exact .inr (.inl ⟨x, hx, h2⟩)
    · rw [List.mem_singleton] at hx
      subst hx
      rcases hy.1 h2 with h3 | h3
      · exact .inr (.inr h3)
      · exact .inl h3
  · rintro (h3 | ⟨x, hx, h2⟩ | h3)
    · exact ⟨_, List.mem_append.2 (.inr (List.mem_singleton.2 rfl)), hy.2 (.inr h3)⟩
    · exact ⟨x, List.mem_append.2 (.inl hx), h2⟩
    · exact ⟨_, List.mem_append.2 (.inr (List.mem_singleton.2 rfl)), hy.2 (.inl h3)⟩
theorem R31_mem (l : List Ar) (w : Int) (x : Ar) : ∀ m o : List Ar, x ∈ R31_0 l w m o ↔ x ∈ o ∨ ∃ y ∈ m, x = ⟨(r94 y.f y.l w).1, (r94 y.f y.l w).2⟩ := by
  intro m
  induction m with
  | nil => intro o; simp [R31_0]
  | cons y m ih =>
    intro o
    rw [R31_0, ih]
    simp only [List.mem_append, List.mem_singleton, List.mem_cons, exists_eq_or_imp, or_assoc, List.not_mem_nil, false_or]
end Great
end Go.Proofs
