/-
  BAB: EvM22, EvM23.
-/
import Derived.Test.YtohfdkdjfoonjaaGreatDoorEvM8
import Derived.Test.YtohfdkdjfoonjaaGreatDoorEvH37
section
/-
  The house: what Openings tells (math; for HouseNext).
-/
set_option linter.unusedSimpArgs false
set_option linter.unusedVariables false
namespace Go.Proofs
namespace House
open Go Go.RowKit Go.Aev
set_option maxRecDepth 100000
theorem edge_open {d : Dr} (hD : OkD d) {t : Int} (ht : 0 ≤ t) (ho : Op d t) : ∀ n, t ≤ n → n ≤ r95 d t → Op d n := by
  intro n h1 h2
  have hq := td_ok ht
  have hg := r95_ge (d := d) ht
  have h3 := R95_0_le d t d.hours (Int.tdiv t 86400 * 86400 + 86399)
  have h4 := R95_1_le d t d.shut (R95_0 d t d.hours (Int.tdiv t 86400 * 86400 + 86399))
  have he : r95 d t = R95_1 d t d.shut (R95_0 d t d.hours (Int.tdiv t 86400 * 86400 + 86399)) := rfl
  have ho := (op_iff ht).1 ho
  refine (op_iff (by omega)).2 ⟨?_, ?_⟩
  · obtain ⟨y, hy, h5, h6⟩ := ho.1
    have h7 := h3.2.2 y hy
    have hb := hD.h y hy
    exact ⟨y, hy, by omega, by omega⟩
  · rintro ⟨y, hy, h5, h6⟩
    have h7 := h4.2.2 y hy
    exact ho.2 ⟨y, hy, by omega, by omega⟩
/-- Spans from t on, one behind the other. -/
def Srd : Int → List Sp → Prop
  | _, [] => True
  | t, y :: l => t ≤ y.lo ∧ y.lo ≤ y.hi ∧ Srd (y.hi + 1) l
theorem Srd.mono : ∀ {l : List Sp} {t u : Int}, u ≤ t → Srd t l → Srd u l
  | [], _, _, _, _ => trivial
  | _ :: _, _, _, h, ⟨h1, h2, h3⟩ => ⟨by omega, h2, h3⟩
theorem pcs_srd {d : Dr} {shi : Int} : ∀ (m : Nat) (t : Int), 0 ≤ t → Srd t (pcs d shi m t) := by
  intro m
  induction m with
  | zero => intro t _; exact trivial
  | succ m ih =>
    intro t ht
    have hg := r95_ge (d := d) ht
    rw [pcs]
    split
    · have q := ih (min (r95 d t) shi + 1) (by omega)
      split
      · exact ⟨Int.le_refl _, by show t ≤ min (r95 d t) shi; omega, q⟩
      · exact q.mono (by omega)
    · exact trivial
theorem pcs_in {d : Dr} (hD : OkD d) {shi : Int} : ∀ (m : Nat) (t : Int), 0 ≤ t → shi + 1 - t < (m : Int) → ∀ u, In (pcs d shi m t) u ↔ (t ≤ u ∧ u ≤ shi ∧ Op d u) := by
  intro m
  induction m with
  | zero => intro t ht hm u; exact ⟨fun ⟨y, hy, _⟩ => by simp [pcs] at hy, fun h => by omega⟩
  | succ m ih =>
    intro t ht hm u
    have hg := r95_ge (d := d) ht
    rw [pcs]
    split
    · rename_i hle
      have q := ih (min (r95 d t) shi + 1) (by omega) (by omega) u
      split
      · rename_i ho
        have eo := edge_open hD ht ho
        constructor
        · rintro ⟨y, hy, h1, h2⟩
          rcases List.mem_cons.1 hy with rfl | hy
          · have h1 : t ≤ u := h1
            have h2 : u ≤ min (r95 d t) shi := h2
            exact ⟨h1, by omega, eo u h1 (by omega)⟩
          · have := q.1 ⟨y, hy, h1, h2⟩
            exact ⟨by omega, this.2.1, this.2.2⟩
        · rintro ⟨h1, h2, h3⟩
          by_cases g : u ≤ min (r95 d t) shi
          · exact ⟨⟨t, min (r95 d t) shi⟩, by simp, h1, g⟩
          · obtain ⟨y, hy, k⟩ := q.2 ⟨by omega, h2, h3⟩
            exact ⟨y, by simp [hy], k⟩
      · rename_i ho
        have es := edge_shut hD ht ho
        rw [q]
        constructor
        · rintro ⟨h1, h2, h3⟩; exact ⟨by omega, h2, h3⟩
        · rintro ⟨h1, h2, h3⟩
          refine ⟨?_, h2, h3⟩
          by_cases g : u ≤ r95 d t
          · exact absurd h3 (es u h1 g)
          · omega
    · exact ⟨fun ⟨y, hy, _⟩ => by simp at hy, fun h => by omega⟩
/-- Spans none of which touch. -/
structure Gap (l : List Sp) (e : Int) : Prop where
  v : ∀ k, k < l.length → (lget l k).lo ≤ (lget l k).hi
  g : ∀ k, 0 < k → k < l.length → (lget l (k - 1)).hi + 1 < (lget l k).lo
  e : 0 < l.length → (lget l (l.length - 1)).hi < e
theorem lget_app1 {l : List Sp} {x : Sp} {k : Nat} (h : k < l.length) : lget (l ++ [x]) k = lget l k := lget_of (by rw [List.getElem?_append_left h]; exact lget_some h)
theorem lget_app2 {l : List Sp} {x : Sp} : lget (l ++ [x]) l.length = x := lget_of (by rw [List.getElem?_append_right (Nat.le_refl _)]; simp)
theorem lget_setn {l : List Sp} {x : Sp} {k j : Nat} (hj : j < l.length) : lget (l.set j x) k = if k = j then x else lget l k := by
  unfold lget
  rw [List.getD_eq_getElem?_getD, List.getElem?_set]
  by_cases e : k = j
  · subst e; rw [if_pos rfl, if_pos rfl, if_pos hj]; rfl
  · rw [if_neg (fun h => e h.symm), if_neg e, List.getD_eq_getElem?_getD]
theorem joinS_gap {l : List Sp} {x : Sp} (h : Gap l x.lo) (hx : x.lo ≤ x.hi) : Gap (joinS l x) (x.hi + 1) := by
  unfold joinS
  split
  · rename_i c
    have hj : l.length - 1 < l.length := by omega
    have e0 := h.v (l.length - 1) hj
    refine ⟨fun k hk => ?_, fun k h0 hk => ?_, fun _ => ?_⟩
    · rw [List.length_set] at hk
      rw [lget_setn hj]
      split
      · show (lget l (l.length - 1)).lo ≤ x.hi; omega
      · exact h.v k hk
    · rw [List.length_set] at hk
      rw [lget_setn hj, lget_setn hj, if_neg (by omega)]
      have q := h.g k h0 hk
      split
      · rename_i e; subst e; exact q
      · exact q
    · rw [List.length_set, lget_setn hj, if_pos rfl]; show x.hi < x.hi + 1; omega
  · rename_i c
    refine ⟨fun k hk => ?_, fun k h0 hk => ?_, fun _ => ?_⟩
    · rw [List.length_append, List.length_singleton] at hk
      by_cases e : k = l.length
      · subst e; rw [lget_app2]; exact hx
      · rw [lget_app1 (by omega)]; exact h.v k (by omega)
    · rw [List.length_append, List.length_singleton] at hk
      by_cases e : k = l.length
      · subst e
        rw [lget_app2, lget_app1 (by omega)]
        have := h.e h0
        omega
      · rw [lget_app1 (by omega), lget_app1 (by omega)]; exact h.g k h0 (by omega)
    · rw [List.length_append, List.length_singleton, Nat.add_sub_cancel, lget_app2]; omega
theorem in_lget {l : List Sp} {u : Int} : In l u ↔ ∃ k, k < l.length ∧ (lget l k).lo ≤ u ∧ u ≤ (lget l k).hi := by
  constructor
  · rintro ⟨y, hy, h⟩
    obtain ⟨k, hk⟩ := List.getElem?_of_mem hy
    exact ⟨k, (List.getElem?_eq_some_iff.1 hk).1, by rw [lget_of hk]; exact h.1, by rw [lget_of hk]; exact h.2⟩
  · rintro ⟨k, hk, h1, h2⟩
    exact ⟨_, List.mem_of_getElem? (lget_some hk), h1, h2⟩
theorem joinS_in {l : List Sp} {x : Sp} (h : Gap l x.lo) (hx : x.lo ≤ x.hi) (u : Int) : In (joinS l x) u ↔ In l u ∨ (x.lo ≤ u ∧ u ≤ x.hi) := by
  unfold joinS
  split
  · rename_i c
    have hj : l.length - 1 < l.length := by omega
    have e0 := h.v (l.length - 1) hj
    rw [in_lget, in_lget]
    constructor
    · rintro ⟨k, hk, h1, h2⟩
      rw [List.length_set] at hk
      rw [lget_setn hj] at h1 h2
      split at h1
      · rename_i e; rw [if_pos e] at h2
        have h1 : (lget l (l.length - 1)).lo ≤ u := h1
        have h2 : u ≤ x.hi := h2
        by_cases g : u ≤ (lget l (l.length - 1)).hi
        · exact .inl ⟨_, hj, h1, g⟩
        · exact .inr ⟨by omega, h2⟩
      · rename_i e; rw [if_neg e] at h2; exact .inl ⟨k, hk, h1, h2⟩
    · rintro (⟨k, hk, h1, h2⟩ | ⟨h1, h2⟩)
      · refine ⟨k, by rw [List.length_set]; exact hk, ?_⟩
        rw [lget_setn hj]
        split
        · rename_i e; subst e; exact ⟨h1, by show u ≤ x.hi; omega⟩
        · exact ⟨h1, h2⟩
      · refine ⟨l.length - 1, by rw [List.length_set]; exact hj, ?_⟩
        rw [lget_setn hj, if_pos rfl]
        exact ⟨by show (lget l (l.length - 1)).lo ≤ u; omega, h2⟩
  · constructor
    · rintro ⟨y, hy, h1, h2⟩
      rcases List.mem_append.1 hy with hy | hy
      · exact .inl ⟨y, hy, h1, h2⟩
      · rw [List.mem_singleton.1 hy] at h1 h2; exact .inr ⟨h1, h2⟩
    · rintro (⟨y, hy, k⟩ | h)
      · exact ⟨y, List.mem_append.2 (.inl hy), k⟩
      · exact ⟨x, List.mem_append.2 (.inr (by simp)), h⟩
theorem foldl_joinS : ∀ (ys l : List Sp) (t : Int), Gap l t → Srd t ys → (∃ e, Gap (ys.foldl joinS l) e) ∧ ∀ u, In (ys.foldl joinS l) u ↔ In l u ∨ In ys u := by
  intro ys
  induction ys with
  | nil => intro l t h _; exact ⟨⟨t, h⟩, fun u => ⟨.inl, fun h => h.elim id (fun ⟨y, hy, _⟩ => by simp at hy)⟩⟩
  | cons y ys ih =>
    intro l t h hs
    have hl : Gap l y.lo := ⟨h.v, h.g, fun h0 => by have := h.e h0; have := hs.1; omega⟩
    obtain ⟨q1, q2⟩ := ih (joinS l y) (y.hi + 1) (joinS_gap hl hs.2.1) hs.2.2
    rw [List.foldl_cons]
    refine ⟨q1, fun u => ?_⟩
    rw [q2, joinS_in hl hs.2.1]
    constructor
    · rintro ((h | h) | ⟨z, hz, k⟩)
      · exact .inl h
      · exact .inr ⟨y, by simp, h.1, h.2⟩
      · exact .inr ⟨z, by simp [hz], k⟩
    · rintro (h | ⟨z, hz, k⟩)
      · exact .inl (.inl h)
      · rcases List.mem_cons.1 hz with rfl | hz
        · exact .inl (.inr k)
        · exact .inr ⟨z, hz, k⟩
/-- What Openings says of a valid door. -/
theorem r32_says {h : Hs} (hV : r59 h = 0) {n slo shi : Int} (hn : 0 ≤ n ∧ n < (h.doors.length : Int)) (he : (r32 h n slo shi).2 = 0) :
    (∃ e, Gap (r32 h n slo shi).1 e) ∧ ∀ u, In (r32 h n slo shi).1 u ↔ (slo ≤ u ∧ u ≤ shi ∧ Op (lget h.doors (Int.toNat n)) u) := by
  have hO := oko hV (List.mem_of_getElem? (lget_some (l := h.doors) (i := Int.toNat n) (by omega)))
  rw [r32_eq] at he ⊢
  unfold r33 at he ⊢
  split at he
  case isFalse => exact absurd he (by assumption)
  rename_i g0
  rw [if_pos g0]
  split at he
  · cases he
  rename_i g1
  rw [if_neg g1]
  split at he
  case isFalse => cases he
  rename_i g2
  rw [if_pos g2]
  split at he
  case isFalse => cases he
  rename_i g3
  rw [if_pos g3]
  split at he
  · cases he
  rename_i g4
  rw [if_neg g4]
  have b1 := r69_iff.1 g2; have b2 := r69_iff.1 g3
  show (∃ e, Gap (R33_0 h n slo shi ((shi + 1 - slo).toNat + 1) [] slo) e) ∧ ∀ u, In (R33_0 h n slo shi ((shi + 1 - slo).toNat + 1) [] slo) u ↔ _
  rw [R33_pcs]
  obtain ⟨q1, q2⟩ := foldl_joinS (pcs (lget h.doors (Int.toNat n)) shi ((shi + 1 - slo).toNat + 1) slo) [] slo ⟨fun k hk => absurd hk (by simp), fun k _ hk => absurd hk (by simp), fun h0 => absurd h0 (by simp)⟩ (pcs_srd _ _ b1.1)
  refine ⟨q1, fun u => ?_⟩
  rw [q2, pcs_in hO.o _ _ b1.1 (by omega)]
  constructor
  · rintro (⟨y, hy, _⟩ | h)
    · simp at hy
    · exact h
  · exact .inr
theorem r32_err {h : Hs} {n slo shi : Int} (he : (r32 h n slo shi).2 ≠ 0) : (r32 h n slo shi).1 = [] := by
  rw [r32_eq] at he ⊢
  unfold r33 at he ⊢
  repeat' split
  all_goals first | rfl | (exfalso; apply he; simp only [*]; simp; done) | skip
  all_goals (exfalso; apply he; (repeat' split) <;> first | rfl | contradiction)
end House
end Go.Proofs
end
section
/-
  The house: the law HouseNext holds (math).
-/
set_option linter.unusedSimpArgs false
set_option linter.unusedVariables false
namespace Go.Proofs
namespace House
open Go Go.RowKit Go.Aev
set_option maxRecDepth 100000
theorem R14_any (h : Hs) (door ti u slo shi e : Int) (hG : Gap (r32 h (r70 door (h.doors.length : Int)) slo shi).1 e) : ∀ (m k : Nat) (inn : Bool), m + k = (r32 h (r70 door (h.doors.length : Int)) slo shi).1.length + 1 → k ≤ (r32 h (r70 door (h.doors.length : Int)) slo shi).1.length →
    R14_0 h door ti u slo shi m k inn = .inr (inn || ((r32 h (r70 door (h.doors.length : Int)) slo shi).1.drop k).any (fun y => r71 u y.lo y.hi)) := by
  generalize hl : (r32 h (r70 door (h.doors.length : Int)) slo shi).1 = l at *
  intro m
  induction m with
  | zero => intro k inn h1 h2; omega
  | succ m ih =>
    intro k inn h1 h2
    rw [R14_0, hl]
    by_cases hk : k < l.length
    · rw [if_pos (show (k : Int) < (l.length : Int) by omega)]
      have v := hG.v k hk
      rw [if_neg (show ¬ (((lget l k).hi < (lget l k).lo) ∨ ((0 < (k : Int)) ∧ ((lget l k).lo ≤ (lget l (Int.toNat ((k : Int) - 1))).hi + 1))) by
        rintro (q | ⟨q1, q2⟩)
        · omega
        · have g := hG.g k (by omega) hk
          rw [show Int.toNat ((k : Int) - 1) = k - 1 by omega] at q2
          omega)]
      rw [ih (k + 1) _ (by omega) (by omega)]
      have hd : l.drop k = lget l k :: l.drop (k + 1) := drop_cons' (lget_some hk)
      rw [hd, List.any_cons]
      congr 1
      cases inn <;> cases r71 u (lget l k).lo (lget l k).hi <;> simp
    · rw [if_neg (show ¬ (k : Int) < (l.length : Int) by omega), List.drop_eq_nil_of_le (by omega)]
      simp
theorem r14_true (h : Hs) (door ti u slo shi : Int) : r14 h door ti u slo shi = true := by
  unfold r14
  by_cases c : (¬ ((r68 h) = true)) ∨ (((h.doors.length : Int) = 0) ∨ ((¬ ((r69 ti) = true)) ∨ (¬ ((r69 u) = true))))
  · rw [if_pos c]
  rw [if_neg c]
  have c1 : r68 h = true := Decidable.byContradiction fun q => c (.inl q)
  have c2 : ¬ (h.doors.length : Int) = 0 := fun q => c (.inr (.inl q))
  have c3 : r69 ti = true := Decidable.byContradiction fun q => c (.inr (.inr (.inl q)))
  have c4 : r69 u = true := Decidable.byContradiction fun q => c (.inr (.inr (.inr q)))
  have hV := (r68_ok c1).2
  have hF := (r68_ok c1).1
  have ht := r69_iff.1 c3
  have hu := r69_iff.1 c4
  have hFd := hF.d
  have hn := r70_ok (n := door) (k := (h.doors.length : Int)) (by omega)
  have hA : ∀ e, Gap (r32 h (r70 door (h.doors.length : Int)) slo shi).1 e → R14_0 h door ti u slo shi ((r32 h (r70 door (h.doors.length : Int)) slo shi).1.length + 1) 0 false = .inr (((r32 h (r70 door (h.doors.length : Int)) slo shi).1).any (fun y => r71 u y.lo y.hi)) := fun e hG => by
    rw [R14_any h door ti u slo shi e hG _ 0 false (by omega) (by omega)]; simp
  generalize r70 door (h.doors.length : Int) = n at *
  have hm : lget h.doors (Int.toNat n) ∈ h.doors := List.mem_of_getElem? (lget_some (by omega))
  have hO := oko hV hm
  generalize hD : lget h.doors (Int.toNat n) = D at *
  have e84 : ∀ b, r84 h b = if b = true then 0 else 1 := fun b => by rw [r84_sel, if_pos hV]
  have e87 : r87 h n = true := r135_iff.2 hn
  have e28 : ∀ t, (0 ≤ t ∧ t ≤ 1073741823) → r28 h n t = (r89 D t, 0) := fun t q => by
    unfold r28; rw [if_pos e87, e84, if_pos (r88_iff.2 q), if_pos rfl, hD]
  have e30 : ∀ t, (0 ≤ t ∧ t ≤ 1073741823) → r30 h n t = (r91 D t, 0) := fun t q => by
    unfold r30; rw [if_pos e87, e84, if_pos (r88_iff.2 q), if_pos rfl, hD]
  have e26 : ∀ t, (0 ≤ t ∧ t ≤ 1073741823) → r26 h n t = (decide (r89 D t = t), 0) := fun t q => by
    unfold r26; rw [e28 t q, if_pos rfl]
  have op : ∀ t, (0 ≤ t ∧ t ≤ 1073741823) → (r89 D t = t ↔ Op D t) := fun t q => ⟨fun e => by
    rcases r89_nx hO q.1 with ⟨n1, n2⟩ | ⟨n1, n2, n3, n4⟩
    · omega
    · rw [e] at n3; exact n3, nx_op hO q⟩
  have N := r89_nx hO ht.1
  have L := r91_lx hO ti
  rw [e28 _ ht, e30 _ ht, e26 _ hu]
  simp only
  generalize r89 D ti = nx at *
  generalize r91 D ti = lx at *
  have hou := op u hu
  rw [if_neg (by
    rintro (q | q | q | q | q | ⟨q0, ⟨q1, q2⟩ | ⟨q1, q2, q3⟩⟩)
    · exact q trivial
    · exact q trivial
    · exact q trivial
    · rcases N with ⟨n1, n2⟩ | ⟨n1, n2, n3, n4⟩ <;> omega
    · rcases L with ⟨n1, n2⟩ | ⟨n1, n2, n3, n4⟩ <;> omega
    · have ho := hou.1 (of_decide_eq_true q0)
      rcases q2 with q2 | ⟨q2, q3⟩
      · rcases N with ⟨n1, n2⟩ | ⟨n1, n2, n3, n4⟩
        · exact n2 u q1 hu.2 ho
        · exact n4 u q1 q2 ho
      · rcases L with ⟨n1, n2⟩ | ⟨n1, n2, n3, n4⟩
        · exact n2 u hu.1 q2 ho
        · exact n4 u q3 q2 ho
    · have ho := hou.1 (of_decide_eq_true q0)
      rcases L with ⟨n1, n2⟩ | ⟨n1, n2, n3, n4⟩
      · exact n2 u hu.1 q2 ho
      · exact n4 u q3 q2 ho)]
  rw [if_pos (show (if nx < 1073741824 then (if (¬ (((r26 h n nx).2) = 0)) ∨ (¬ (((r26 h n nx).1) = true)) then false else true) else true) = true by
    split
    · rcases N with ⟨n1, n2⟩ | ⟨n1, n2, n3, n4⟩
      · omega
      · rw [e26 nx (by omega), if_neg (by rintro (q | q); exact q rfl; exact q (decide_eq_true ((op nx (by omega)).2 n3)))]
    · rfl)]
  rw [if_pos (show (if 0 ≤ lx then (if (¬ (((r26 h n lx).2) = 0)) ∨ (¬ (((r26 h n lx).1) = true)) then false else true) else true) = true by
    split
    · rcases L with ⟨n1, n2⟩ | ⟨n1, n2, n3, n4⟩
      · omega
      · rw [e26 lx (by omega), if_neg (by rintro (q | q); exact q rfl; exact q (decide_eq_true ((op lx (by omega)).2 n3)))]
    · rfl)]
  by_cases ce : (r32 h n slo shi).2 = 0
  · rw [if_pos ce]
    obtain ⟨⟨e, hG⟩, hI⟩ := r32_says hV hn ce
    rw [hA e hG]
    have hI := hI u
    rw [hD] at hI
    show decide _ = true
    apply decide_eq_true
    have hany : ((r32 h n slo shi).1).any (fun y => r71 u y.lo y.hi) = true ↔ In (r32 h n slo shi).1 u := by
      rw [List.any_eq_true]
      exact ⟨fun ⟨y, hy, q⟩ => ⟨y, hy, (r71_iff.1 q).1, (r71_iff.1 q).2⟩, fun ⟨y, hy, q1, q2⟩ => ⟨y, hy, r71_iff.2 ⟨q1, q2⟩⟩⟩
    by_cases ho : Op D u
    · refine .inl ⟨decide_eq_true (hou.2 ho), ?_⟩
      rw [Bool.eq_iff_iff, hany, hI, r71_iff]
      exact ⟨fun q => ⟨q.1, q.2.1⟩, fun q => ⟨q.1, q.2, ho⟩⟩
    · refine .inr ⟨fun q => ho (hou.1 (of_decide_eq_true q)), ?_⟩
      rw [Bool.eq_false_iff]
      exact fun q => ho (hI.1 (hany.1 q)).2.2
  · rw [if_neg ce, r32_err ce]; rfl
end House
end Go.Proofs
end
