/-
  A REFERENCE RUN, PART R: the run without a bound: its equations, and that it is sound.
-/
import Derived.Test.YtecfjfhcoffhfaaGreatDoorAevW
set_option linter.unusedSimpArgs false
set_option linter.unusedVariables false
namespace Go.Aev
open Go Go.RowKit

section
variable {P : Program} {E : Env}

/-- What the one run answers, the other one answers too. -/
structure Rec.le (r r' : Rec) : Prop where
  call : ∀ k args S x, r.call k args S = some x → r'.call k args S = some x
  round : ∀ k args S x, r.round k args S = some x → r'.round k args S = some x
  loop : ∀ ro c s x, r.loop ro c s = some x → r'.loop ro c s = some x

theorem evOp_mono {r r' : Rec} (h : r.le r') {o : Oper} {f : Fr} {S : AS} {x : Value × AS} (e : evOp P E r o f S = some x) : evOp P E r' o f S = some x := by
  obtain ⟨dst, op, ty, pos, after, guard⟩ := o
  unfold evOp at e ⊢
  split at e <;> try exact e
  split at e
  · exact h.call _ _ _ _ e
  · split at e
    · exact h.round _ _ _ _ e
    · exact e
  · exact e

theorem evOps_mono {r r' : Rec} (h : r.le r') {cs : Nat → Bool} {ops : Array Oper} : ∀ (l : List Nat) {f : Fr} {S : AS} {x : Fr × AS}, evOps P E r cs ops l f S = some x → evOps P E r' cs ops l f S = some x
  | [], f, S, x, e => e
  | i :: l, f, S, x, e => by
    have ih := @evOps_mono r r' h cs ops l
    simp only [evOps] at e ⊢
    split at e
    · exact ih e
    · rename_i o ho
      split at e
      · rename_i hg
        split at e
        · rename_i v S' hv
          simp only [evOp_mono h hv]
          split at e
          · rename_i hk
            exact ih e
          · simp at e
        · simp at e
      · exact ih e
      · simp at e

theorem evCode_mono {r r' : Rec} (h : r.le r') {ro : Option Nat} : ∀ (c : Code) {s : St} {x : X × St}, evCode P E r ro c s = some x → evCode P E r' ro c s = some x := by
  intro c
  induction c with
  | seq a b iha ihb =>
    intro s x e
    simp only [evCode] at e ⊢
    split at e
    · rename_i s' h1
      rw [iha h1]
      exact ihb e
    · rename_i h1
      cases h2 : evCode P E r ro a s with
      | none => rw [h2] at e; simp at e
      | some y =>
        rw [h2] at e
        rw [iha h2]
        obtain ⟨y, s'⟩ := y
        cases y
        · exact absurd h2 (by intro hh2; exact h1 _ hh2)
        · exact e
        · exact e
  | cond c a b iha ihb =>
    intro s x e
    simp only [evCode] at e ⊢
    split at e
    · exact iha e
    · exact ihb e
    · exact e
  | block id c ih =>
    intro s x e
    simp only [evCode] at e ⊢
    cases h2 : evCode P E r ro c s with
    | none => rw [h2] at e; simp at e
    | some y => rw [h2] at e; rw [ih h2]; exact e
  | loop c ih =>
    intro s x e
    exact h.loop _ _ _ _ e
  | region n ops d =>
    intro s x e
    cases d
    · simp only [evCode] at e ⊢
      obtain ⟨y, hy, hx⟩ := Option.map_eq_some_iff.1 e
      rw [evOps_mono h _ hy, ← hx]
      rfl
    · simp only [evCode] at e ⊢
      split at e
      · obtain ⟨y, hy, hx⟩ := Option.map_eq_some_iff.1 e
        rw [evOps_mono h _ hy, ← hx]
        rfl
      · simp at e
  | rangeFunc g ps a b iha ihb =>
    intro s x e
    simp only [evCode] at e ⊢
    split at e
    · exact e
    · rename_i S1 d1 h1
      split at e
      · rename_i k cs ds hg
        split at e
        · rename_i v S3 h2 h3
          simp only [h.call _ _ _ _ h3, h2]
          exact e
        · simp at e
      · simp at e
  | _ => intro s x e; exact e

theorem evCall_mono {r r' : Rec} (h : r.le r') {k : FuncId} {args : Array Value} {S : AS} {x : Value × AS} (e : evCall P E r k args S = some x) : evCall P E r' k args S = some x := by
  unfold evCall at e ⊢
  split at e
  · exact e
  · split at e
    · rename_i fn hf
      split at e
      · rename_i c hc hn
        cases h2 : evCode P E r none c { f := { t := setArgs args.toList 0 .lf, m := args.size + (fn.ntmps - args.size) }, d := [], S } with
        | none => simp [h2] at e
        | some y => rw [h2] at e; simp only [evCode_mono h _ h2, hc, hn]; exact e
      · simp at e
    · simp at e
theorem evLoop_mono {r r' : Rec} (h : r.le r') {ro : Option Nat} {c : Code} {s : St} {x : X × St} (e : evLoop P E r ro c s = some x) : evLoop P E r' ro c s = some x := by
  unfold evLoop at e ⊢
  cases h2 : evCode P E r ro c s with
  | none => simp [h2] at e
  | some y =>
    rw [h2] at e; rw [evCode_mono h _ h2]
    obtain ⟨y, s'⟩ := y
    cases y
    · exact h.loop _ _ _ _ e
    · exact e
    · exact e
theorem evRound_mono {r r' : Rec} (h : r.le r') {l : Nat} {args : Array Value} {S : AS} {x : Value × AS} (e : evRound P E r l args S = some x) : evRound P E r' l args S = some x := by
  unfold evRound at e ⊢
  split at e
  · rename_i L hL
    split at e
    · simp at e
    · rename_i hs
      simp only [hs]
      split at e
      · rename_i s1 h1
        rw [evCode_mono h _ h1]
        simp only
        split at e
        · rename_i L1 h2 h3
          simp only [h2, h3]
          split at e
          · rename_i h4
            cases h5 : evCode P E r (some l) L.body { s1 with S := { s1.S with heap := s1.S.heap.set l (some (.loop { L1 with state := .busy })) } } with
            | none => simp [h5] at e
            | some y =>
              simp only [h5] at e
              have hm2 := evCode_mono h _ h5
              simp only [h3] at hm2
              rw [hm2]
              exact e
          · simp at e
        · simp at e
      · simp at e
  · simp at e

theorem ev_le : ∀ (n : Nat), (ev P E n).le (ev P E (n + 1))
  | 0 => ⟨fun _ _ _ _ e => by simp [ev] at e, fun _ _ _ _ e => by simp [ev] at e, fun _ _ _ _ e => by simp [ev] at e⟩
  | n + 1 => ⟨fun _ _ _ _ e => evCall_mono (ev_le n) e, fun _ _ _ _ e => evRound_mono (ev_le n) e, fun _ _ _ _ e => evLoop_mono (ev_le n) e⟩
theorem Rec.le_refl (r : Rec) : r.le r := ⟨fun _ _ _ _ h => h, fun _ _ _ _ h => h, fun _ _ _ _ h => h⟩
theorem Rec.le_trans {a b c : Rec} (h : a.le b) (k : b.le c) : a.le c :=
  ⟨fun _ _ _ _ e => k.call _ _ _ _ (h.call _ _ _ _ e), fun _ _ _ _ e => k.round _ _ _ _ (h.round _ _ _ _ e), fun _ _ _ _ e => k.loop _ _ _ _ (h.loop _ _ _ _ e)⟩
theorem ev_le_of {n m : Nat} (h : n ≤ m) : (ev P E n).le (ev P E m) := by
  induction h with
  | refl => exact Rec.le_refl _
  | step _ ih => exact Rec.le_trans ih (ev_le _)

open Classical in
/-- What some bound answers. -/
noncomputable def limit {α : Type} (f : Nat → Option α) : Option α := if h : ∃ n, (f n).isSome = true then f h.choose else none
theorem limit_of {α : Type} {f : Nat → Option α} (hm : ∀ n m x, n ≤ m → f n = some x → f m = some x) {n : Nat} {x : α} (h : f n = some x) : limit f = some x := by
  unfold limit
  have hh : ∃ n, (f n).isSome = true := ⟨n, by rw [h]; rfl⟩
  rw [dif_pos hh]
  cases hc : f hh.choose with
  | none => have := hh.choose_spec; rw [hc] at this; simp at this
  | some y =>
    have h1 := hm _ (max n hh.choose) _ (Nat.le_max_left _ _) h
    have h2 := hm _ (max n hh.choose) _ (Nat.le_max_right _ _) hc
    rw [← h1, ← h2]
theorem of_limit {α : Type} {f : Nat → Option α} {x : α} (h : limit f = some x) : ∃ n, f n = some x := by
  unfold limit at h
  split at h
  · exact ⟨_, h⟩
  · simp at h

/-- The run without a bound. -/
noncomputable def evL (P : Program) (E : Env) : Rec where
  call k args S := limit fun n => (ev P E n).call k args S
  round l args S := limit fun n => (ev P E n).round l args S
  loop ro c s := limit fun n => (ev P E n).loop ro c s

theorem ev_le_evL (n : Nat) : (ev P E n).le (evL P E) :=
  ⟨fun k args S x e => limit_of (fun _ _ _ hnm h => (ev_le_of hnm).call _ _ _ _ h) e, fun k args S x e => limit_of (fun _ _ _ hnm h => (ev_le_of hnm).round _ _ _ _ h) e,
    fun ro c s x e => limit_of (fun _ _ _ hnm h => (ev_le_of hnm).loop _ _ _ _ h) e⟩

theorem evOp_lim {o : Oper} {f : Fr} {S : AS} {x : Value × AS} (e : evOp P E (evL P E) o f S = some x) : ∃ n, evOp P E (ev P E n) o f S = some x := by
  obtain ⟨dst, op, ty, pos, after, guard⟩ := o
  unfold evOp at e ⊢
  split at e
  · exact ⟨0, e⟩
  · exact ⟨0, e⟩
  · exact ⟨0, e⟩
  · split at e
    · exact of_limit e
    · split at e
      · rename_i hc hd
        obtain ⟨n, hn⟩ := of_limit e
        exact ⟨n, hn⟩
      · simp at e
    · simp at e
  · exact ⟨0, e⟩

theorem evOps_lim {cs : Nat → Bool} {ops : Array Oper} : ∀ (l : List Nat) {f : Fr} {S : AS} {x : Fr × AS}, evOps P E (evL P E) cs ops l f S = some x → ∃ n, evOps P E (ev P E n) cs ops l f S = some x
  | [], f, S, x, e => ⟨0, e⟩
  | i :: l, f, S, x, e => by
    have ih := @evOps_lim cs ops l
    simp only [evOps] at e ⊢
    split at e
    · obtain ⟨n, hn⟩ := ih e; exact ⟨n, hn⟩
    · rename_i o ho
      split at e
      · rename_i hg
        split at e
        · rename_i v S' hv
          split at e
          · rename_i hk
            obtain ⟨n, hn⟩ := evOp_lim hv
            obtain ⟨m, hm⟩ := ih e
            refine ⟨max n m, ?_⟩
            simp only [evOp_mono (ev_le_of (Nat.le_max_left n m)) hn, hk]
            exact evOps_mono (ev_le_of (Nat.le_max_right n m)) _ hm
          · simp at e
        · simp at e
      · obtain ⟨n, hn⟩ := ih e; exact ⟨n, hn⟩
      · simp at e

theorem evCode_lim {ro : Option Nat} : ∀ (c : Code) {s : St} {x : X × St}, evCode P E (evL P E) ro c s = some x → ∃ n, evCode P E (ev P E n) ro c s = some x := by
  intro c
  induction c with
  | seq a b iha ihb =>
    intro s x e
    simp only [code_seq] at e ⊢
    cases h1 : evCode P E (evL P E) ro a s with
    | none => rw [h1] at e; simp [andThen] at e
    | some y =>
      obtain ⟨n, hn⟩ := iha h1
      rw [h1] at e
      obtain ⟨y, s'⟩ := y
      cases y
      · obtain ⟨m, hm⟩ := ihb e
        refine ⟨max n m, ?_⟩
        rw [evCode_mono (ev_le_of (Nat.le_max_left n m)) _ hn]
        exact evCode_mono (ev_le_of (Nat.le_max_right n m)) _ hm
      · exact ⟨n, by rw [hn]; exact e⟩
      · exact ⟨n, by rw [hn]; exact e⟩
  | cond c a b iha ihb =>
    intro s x e
    simp only [evCode] at e ⊢
    split at e
    · exact iha e
    · exact ihb e
    · simp at e
  | block id c ih =>
    intro s x e
    simp only [evCode] at e ⊢
    cases h2 : evCode P E (evL P E) ro c s with
    | none => rw [h2] at e; simp at e
    | some y => rw [h2] at e; obtain ⟨n, hn⟩ := ih h2; exact ⟨n, by rw [hn]; exact e⟩
  | loop c ih =>
    intro s x e
    exact of_limit e
  | region n ops d =>
    intro s x e
    cases d
    · simp only [evCode] at e ⊢
      obtain ⟨y, hy, hx⟩ := Option.map_eq_some_iff.1 e
      obtain ⟨n, hn⟩ := evOps_lim _ hy
      exact ⟨n, by rw [hn, ← hx]; rfl⟩
    · simp only [evCode] at e ⊢
      split at e
      · obtain ⟨y, hy, hx⟩ := Option.map_eq_some_iff.1 e
        obtain ⟨n, hn⟩ := evOps_lim _ hy
        exact ⟨n, by rw [hn, ← hx]; rfl⟩
      · simp at e
  | rangeFunc g ps a b iha ihb =>
    intro s x e
    simp only [evCode] at e ⊢
    split at e
    · simp at e
    · rename_i S1 d1 h1
      split at e
      · rename_i k cs ds hg
        split at e
        · rename_i v S3 h2 h3
          obtain ⟨n, hn⟩ := of_limit h3
          refine ⟨n, ?_⟩
          simp only [hn, h2]
          exact e
        · simp at e
      · simp at e
  | _ => intro s x e; exact ⟨0, e⟩

theorem evCall_lim {k : FuncId} {args : Array Value} {S : AS} {x : Value × AS} (e : evCall P E (evL P E) k args S = some x) : ∃ n, (ev P E n).call k args S = some x := by
  have key : ∃ n, evCall P E (ev P E n) k args S = some x := by
    unfold evCall at e ⊢
    split at e
    · exact ⟨0, e⟩
    · split at e
      · rename_i fn hf
        split at e
        · rename_i c hc hn
          cases h2 : evCode P E (evL P E) none c { f := { t := setArgs args.toList 0 .lf, m := args.size + (fn.ntmps - args.size) }, d := [], S } with
          | none => simp [h2] at e
          | some y => rw [h2] at e; obtain ⟨n, hn2⟩ := evCode_lim _ h2; exact ⟨n, by simp only [hn2, hc, hn]; exact e⟩
        · simp at e
      · simp at e
  obtain ⟨n, hn⟩ := key
  exact ⟨n + 1, hn⟩
theorem evLoop_lim {ro : Option Nat} {c : Code} {s : St} {x : X × St} (e : evLoop P E (evL P E) ro c s = some x) : ∃ n, (ev P E n).loop ro c s = some x := by
  have key : ∃ n, evLoop P E (ev P E n) ro c s = some x := by
    unfold evLoop at e ⊢
    cases h2 : evCode P E (evL P E) ro c s with
    | none => simp [h2] at e
    | some y =>
      obtain ⟨n, hn⟩ := evCode_lim _ h2
      rw [h2] at e
      obtain ⟨y, s'⟩ := y
      cases y
      · obtain ⟨m, hm⟩ := of_limit e
        refine ⟨max n m, ?_⟩
        rw [evCode_mono (ev_le_of (Nat.le_max_left n m)) _ hn]
        exact (ev_le_of (Nat.le_max_right n m)).loop _ _ _ _ hm
      · exact ⟨n, by rw [hn]; exact e⟩
      · exact ⟨n, by rw [hn]; exact e⟩
  obtain ⟨n, hn⟩ := key
  exact ⟨n + 1, hn⟩
theorem evRound_lim {l : Nat} {args : Array Value} {S : AS} {x : Value × AS} (e : evRound P E (evL P E) l args S = some x) : ∃ n, (ev P E n).round l args S = some x := by
  have key : ∃ n, evRound P E (ev P E n) l args S = some x := by
    unfold evRound at e ⊢
    split at e
    · rename_i L hL
      split at e
      · simp at e
      · rename_i hs
        simp only [hs]
        split at e
        · rename_i s1 h1
          obtain ⟨n, hn⟩ := evCode_lim _ h1
          split at e
          · rename_i L1 h2 h3
            split at e
            · rename_i h4
              cases h5 : evCode P E (evL P E) (some l) L.body { s1 with S := { s1.S with heap := s1.S.heap.set l (some (.loop { L1 with state := .busy })) } } with
              | none => simp [h5] at e
              | some y =>
                obtain ⟨m, hm⟩ := evCode_lim _ h5
                simp only [h5] at e
                refine ⟨max n m, ?_⟩
                have hm2 := evCode_mono (ev_le_of (Nat.le_max_right n m)) _ hm
                rw [evCode_mono (ev_le_of (Nat.le_max_left n m)) _ hn]
                simp only [h2, h3, h4]
                have e2 : ∀ z, evCode P E (ev P E (max n m)) (some l) L.body { s1 with S := { s1.S with heap := s1.S.heap.set l (some (.loop { L1 with state := .busy })) } } = z → z = some y := fun z hz => by rw [← hz, hm2]
                have e3 := e2 _ rfl
                simp only [h3] at e3
                rw [e3]
                exact e
            · simp at e
          · simp at e
        · simp at e
    · simp at e
  obtain ⟨n, hn⟩ := key
  exact ⟨n + 1, hn⟩

/-! ### The equations -/
theorem L_call (k : FuncId) (args : Array Value) (S : AS) : (evL P E).call k args S = evCall P E (evL P E) k args S := by
  cases h : evCall P E (evL P E) k args S with
  | some x => obtain ⟨n, hn⟩ := evCall_lim h; exact (ev_le_evL n).call _ _ _ _ hn
  | none =>
    cases h2 : (evL P E).call k args S with
    | none => rfl
    | some x =>
      obtain ⟨n, hn⟩ := of_limit h2
      cases n with
      | zero => simp [ev] at hn
      | succ n => rw [evCall_mono (ev_le_evL n) hn] at h; simp at h
theorem L_loop (ro : Option Nat) (c : Code) (s : St) : (evL P E).loop ro c s = evLoop P E (evL P E) ro c s := by
  cases h : evLoop P E (evL P E) ro c s with
  | some x => obtain ⟨n, hn⟩ := evLoop_lim h; exact (ev_le_evL n).loop _ _ _ _ hn
  | none =>
    cases h2 : (evL P E).loop ro c s with
    | none => rfl
    | some x =>
      obtain ⟨n, hn⟩ := of_limit h2
      cases n with
      | zero => simp [ev] at hn
      | succ n => rw [evLoop_mono (ev_le_evL n) hn] at h; simp at h
theorem L_round (l : Nat) (args : Array Value) (S : AS) : (evL P E).round l args S = evRound P E (evL P E) l args S := by
  cases h : evRound P E (evL P E) l args S with
  | some x => obtain ⟨n, hn⟩ := evRound_lim h; exact (ev_le_evL n).round _ _ _ _ hn
  | none =>
    cases h2 : (evL P E).round l args S with
    | none => rfl
    | some x =>
      obtain ⟨n, hn⟩ := of_limit h2
      cases n with
      | zero => simp [ev] at hn
      | succ n => rw [evRound_mono (ev_le_evL n) hn] at h; simp at h

theorem L_loop_step (ro : Option Nat) (c : Code) (s : St) : (evL P E).loop ro c s = andThen (evCode P E (evL P E) ro c s) ((evL P E).loop ro c) := by
  rw [L_loop]
  unfold evLoop andThen
  cases evCode P E (evL P E) ro c s with
  | none => rfl
  | some y => obtain ⟨y, s'⟩ := y; cases y <;> rfl

theorem evL_ok {B : Nat} {w0 : World} (hT : TabOk P) (hm : P.follows .mixedOrders = true) (hO : OrcOk B w0 P E) : RecOk B w0 P E (evL P E) :=
  ⟨fun k args S v S' e => let ⟨n, hn⟩ := of_limit e; (ev_ok hT hm hO n).call k args S v S' hn, fun l args S v S' e => let ⟨n, hn⟩ := of_limit e; (ev_ok hT hm hO n).round l args S v S' hn,
    fun ro c s x s' e => let ⟨n, hn⟩ := of_limit e; (ev_ok hT hm hO n).loop ro c s x s' hn⟩
end
end Go.Aev
