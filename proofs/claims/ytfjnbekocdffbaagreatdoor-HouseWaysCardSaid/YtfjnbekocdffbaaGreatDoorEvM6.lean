/-
  The house: Enter and Depart are what the specification says (math).
-/
import Derived.Test.YtfjnbekocdffbaaGreatDoorEvH11
set_option linter.unusedSimpArgs false
set_option linter.unusedVariables false
namespace Go.Proofs
namespace House
open Go Go.RowKit Go.Aev
set_option maxRecDepth 100000
theorem r84_eq (h : Hs) (b : Bool) : r84 h b = if r59 h = 0 then (if b = true then 0 else 1) else r59 h := by
  unfold r84 r59; rw [check_eq]
/-- What the two say of a way in a direction. -/
theorem ways_cases {h : Hs} {w : Int} {b : Bool} {t : Int} :
    (¬ r59 h = 0 ∧ (r98 h w b t).2 = r59 h) ∨
    (r59 h = 0 ∧ ¬ (r143 h w = true ∧ r88 t = true) ∧ (r98 h w b t).2 = 1) ∨
    (r59 h = 0 ∧ r143 h w = true ∧ r88 t = true ∧ (r144 h w b).2 = false ∧ (r98 h w b t).2 = 5) ∨
    (r59 h = 0 ∧ r143 h w = true ∧ r88 t = true ∧ ∃ (w0 fr to secs door : Int) (b' : Bool), 0 ≤ secs ∧ secs ≤ 3600 ∧ -1 ≤ door ∧ door < h.doors.length ∧ r144 h w b = ((w0, b', fr, to, secs, door), true) ∧ r98 h w b t = ((w0, fr, to, secs, door), 0)) := by
  by_cases hV : r59 h = 0
  case neg => exact .inl ⟨hV, by unfold r98; rw [if_neg hV]⟩
  right
  by_cases h1 : r143 h w = true
  case neg => exact .inl ⟨hV, fun e => h1 e.1, by unfold r98; rw [if_pos hV, if_neg (fun e => h1 (r143_iff.2 (by have := r71_iff.1 e; omega)))]⟩
  have h1' := r143_iff.1 h1
  have e71 : r71 w 0 ((h.ways.length : Int) - 1) = true := r71_iff.2 (by omega)
  by_cases h2 : r88 t = true
  case neg => exact .inl ⟨hV, fun e => h2 e.2, by unfold r98; rw [if_pos hV, if_pos e71, if_neg (fun e => h2 (r88_iff.2 (r69_iff.1 e)))]⟩
  have e69 : r69 t = true := r69_iff.2 (r88_iff.1 h2)
  right
  have k := okw_at hV h1'
  have kk := k.k
  have ks := k.s
  have kd := k.d
  by_cases hb : b = true
  · by_cases h0 : (lget h.ways (Int.toNat w)).back = 0
    · exact .inl ⟨hV, h1, h2, by unfold r144; rw [if_pos hb]; simp [h0], by unfold r98; rw [if_pos hV, if_pos e71, if_pos e69, if_pos hb, if_pos h0]⟩
    · exact .inr ⟨hV, h1, h2, _, _, _, _, _, _, kk.1, kk.2, kd.1, kd.2, by unfold r144; rw [if_pos hb, decide_eq_true (by omega)], by unfold r98; rw [if_pos hV, if_pos e71, if_pos e69, if_pos hb, if_neg h0]⟩
  · exact .inr ⟨hV, h1, h2, _, _, _, _, _, _, by omega, ks.2, kd.1, kd.2, by unfold r144; rw [if_neg hb], by unfold r98; rw [if_pos hV, if_pos e71, if_pos e69, if_neg hb]⟩
theorem enter_eq (h : Hs) (w : Int) (b : Bool) (t : Int) : r35 h w b t = r36 h w b t := by
  show r96e h w b t h = _
  unfold r96e r36
  rw [r84_eq, r84_eq]
  rcases ways_cases (h := h) (w := w) (b := b) (t := t) with ⟨hV, e⟩ | ⟨hV, hn, e⟩ | ⟨hV, h1, h2, e1, e⟩ | ⟨hV, h1, h2, w0, fr, to, secs, door, b', s1, s2, d1, d2, e1, e⟩
  · rw [e]
    simp only [if_neg hV]
    split <;> rfl
  · rw [e, if_neg (show ¬ (1 : Int) = 0 by decide)]
    simp only [if_pos hV]
    by_cases h1 : r143 h w = true
    · have h2 : ¬ r88 t = true := fun q => hn ⟨h1, q⟩
      simp only [if_pos h1, if_neg h2]
      rfl
    · simp only [if_neg h1, Bool.false_eq_true, if_false]
  · rw [e, if_neg (show ¬ (5 : Int) = 0 by decide)]
    simp only [if_pos hV, if_pos h1, if_pos h2, if_true, e1, Bool.false_eq_true, if_false]
  · simp only [if_pos hV, if_pos h1, if_pos h2, if_true, e1, e]
    congr 1
    unfold r145 r99
    simp only
    by_cases h3 : 0 ≤ door
    · rw [if_pos h3, if_pos h3, next_eq (oko hV (List.mem_of_getElem? (lget_some (by omega)))) (r88_iff.1 h2)]
    · rw [if_neg h3, if_neg h3]
theorem depart_eq (h : Hs) (w : Int) (b : Bool) (t : Int) : r37 h w b t = r38 h w b t := by
  show r96d h w b t h = _
  unfold r96d r38
  rw [r84_eq, r84_eq]
  rcases ways_cases (h := h) (w := w) (b := b) (t := t) with ⟨hV, e⟩ | ⟨hV, hn, e⟩ | ⟨hV, h1, h2, e1, e⟩ | ⟨hV, h1, h2, w0, fr, to, secs, door, b', s1, s2, d1, d2, e1, e⟩
  · rw [e]
    simp only [if_neg hV]
    split <;> rfl
  · rw [e, if_neg (show ¬ (1 : Int) = 0 by decide)]
    simp only [if_pos hV]
    by_cases h1 : r143 h w = true
    · have h2 : ¬ r88 t = true := fun q => hn ⟨h1, q⟩
      simp only [if_pos h1, if_neg h2]
      rfl
    · simp only [if_neg h1, Bool.false_eq_true, if_false]
  · rw [e, if_neg (show ¬ (5 : Int) = 0 by decide)]
    simp only [if_pos hV, if_pos h1, if_pos h2, if_true, e1, Bool.false_eq_true, if_false]
  · simp only [if_pos hV, if_pos h1, if_pos h2, if_true, e1, e]
    congr 1
    unfold r146 r101
    simp only
    by_cases h4 : t - secs < 0
    · rw [if_pos h4]
      by_cases h3 : 0 ≤ door
      · rw [if_pos h3]
        have hO := oko hV (List.mem_of_getElem? (lget_some (l := h.doors) (i := Int.toNat door) (by omega)))
        rcases r91_lx hO (t - secs) with ⟨q, _⟩ | ⟨q1, q2, _⟩ <;> omega
      · rw [if_neg h3]; omega
    · rw [if_neg h4]
      by_cases h3 : 0 ≤ door
      · have hO := oko hV (List.mem_of_getElem? (lget_some (l := h.doors) (i := Int.toNat door) (by omega)))
        rw [if_pos h3, if_neg (by omega), ← last_eq hO (by omega)]
        rcases r91_lx hO (t - secs) with ⟨q, _⟩ | ⟨q1, q2, _⟩ <;> omega
      · rw [if_neg h3, if_pos (by omega)]; omega
theorem r5_true (h : Hs) (w : Int) (b : Bool) (t : Int) : r5 h w b t = true := by
  unfold r5
  rw [enter_eq, depart_eq]
  simp
end House
end Go.Proofs
