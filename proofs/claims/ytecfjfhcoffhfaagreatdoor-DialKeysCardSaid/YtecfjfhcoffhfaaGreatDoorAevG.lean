/-
  A REFERENCE RUN, PART G: one operation that calls nothing.
-/
import Derived.Test.YtecfjfhcoffhfaaGreatDoorAevS
set_option linter.unusedSimpArgs false
set_option linter.unusedVariables false
namespace Go.Aev
open Go Go.RowKit

section
variable {B : Nat} {w0 : World} {G : Nat} {P : Program} {σ : Sig}

/-! ### Comparing places -/
def aEq (P : Program) (t : TypeId) (x y : Value) : Option Bool :=
  match P.underlying t with
  | some (.pointer el) =>
    match x, y with
    | .pointer none, .pointer (some _) => some false
    | .pointer (some _), .pointer none => some false
    | .pointer (some a), .pointer (some b) =>
      match szOf P el, Nat.beq a.block b.block with
      | some (_ + 1), true => some (Nat.beq a.off b.off)
      | _, _ => none
    | _, _ => none
  | some (.slice _) =>
    match x, y with
    | .slice none 0 0, .slice (some _) _ _ => some false
    | .slice (some _) _ _, .slice none 0 0 => some false
    | _, _ => none
  | some (.func _ _ _) =>
    match x, y with
    | .nilFunc, .func (.func _) _ _ => some false
    | .func (.func _) _ _, .nilFunc => some false
    | _, _ => none
  | some (.interface _) =>
    match x, y with
    | .nilIface, .iface _ _ => some false
    | .iface _ _, .nilIface => some false
    | _, _ => none
  | _ => none

theorem equal_def (t : TypeId) (x y : Value) : Op.equal t x y = Op.equalIn (9999 + 1) t x y := rfl

set_option maxHeartbeats 1000000 in
theorem aEq_in (d : Nat) {t : TypeId} {x y x' y' : Value} {b : Bool} (hx : VR σ x x') (hy : VR σ y y') (e : aEq P t x y = some b) (w : World) : (Op.equalIn (d + 1) t x' y').run P w = .ok b w := by
  unfold aEq at e
  split at e
  · rename_i el hu
    split at e
    · cases hx; cases hy
      simp only [Option.some.injEq] at e; subst e
      simp [Op.equalIn, run_und hu]
    · cases hx; cases hy
      simp only [Option.some.injEq] at e; subst e
      simp [Op.equalIn, run_und hu]
    · rename_i a b'
      split at e
      · rename_i n hn hb
        have hb := Nat.eq_of_beq_eq_true hb
        cases hx with
        | @p id off L h1 =>
          cases hy with
          | @p id2 off2 L2 h2 =>
            simp only at hb
            subst hb
            rw [h1] at h2; cases h2
            simp only [Option.some.injEq] at e
            subst e
            simp only [Op.equalIn, Sem.run_bind, run_und hu, Result.andThen_ok, run_sz hn, ne_eq, Nat.add_eq_zero_iff, Nat.one_ne_zero, and_false, not_false_eq_true, if_true, sameAddr, BEq.rfl]
            simp
            by_cases ho : off = off2
            · subst ho; simp
            · have : Nat.beq off off2 = false := by
                cases hbb : Nat.beq off off2 with
                | false => rfl
                | true => exact absurd (Nat.eq_of_beq_eq_true hbb) ho
              rw [this]
              simp; omega
      · simp at e
    · simp at e
  · rename_i el hu
    split at e
    · cases hx; cases hy <;> (simp only [Option.some.injEq] at e; subst e; simp [Op.equalIn, run_und hu])
    · cases hy; cases hx <;> (simp only [Option.some.injEq] at e; subst e; simp [Op.equalIn, run_und hu])
    · simp at e
  · rename_i hu
    split at e
    · cases hx; cases hy; simp only [Option.some.injEq] at e; subst e; simp [Op.equalIn, run_und hu]
    · cases hx; cases hy; simp only [Option.some.injEq] at e; subst e; simp [Op.equalIn, run_und hu]
    · simp at e
  · rename_i hu
    split at e
    · cases hx; cases hy; simp only [Option.some.injEq] at e; subst e; simp [Op.equalIn, run_und hu]
    · cases hx; cases hy; simp only [Option.some.injEq] at e; subst e; simp [Op.equalIn, run_und hu]
    · simp at e
  · simp at e

theorem aEq_ok {t : TypeId} {x y x' y' : Value} {b : Bool} (hx : VR σ x x') (hy : VR σ y y') (e : aEq P t x y = some b) (w : World) : (Op.equal t x' y').run P w = .ok b w := by
  rw [equal_def]
  exact aEq_in 9999 hx hy e w

theorem aEq_shape {t : TypeId} {x y x' y' : Value} {b : Bool} (hx : VR σ x x') (hy : VR σ y y') (e : aEq P t x y = some b) :
    (∀ ox oy w, (eqGuard .eql t ox oy x' y').run P w = .ok () w) ∧ (∀ ox oy w, (eqGuard .neq t ox oy x' y').run P w = .ok () w) ∧
      binOp .eql t x' y' = (do pure (.bool (← Op.equal t x' y'))) ∧ binOp .neq t x' y' = (do pure (.bool (!(← Op.equal t x' y')))) := by
  unfold aEq at e
  split at e
  · split at e <;> first | (simp at e; done) | skip
    · cases hx; cases hy; exact ⟨fun _ _ _ => rfl, fun _ _ _ => rfl, rfl, rfl⟩
    · cases hx; cases hy; exact ⟨fun _ _ _ => rfl, fun _ _ _ => rfl, rfl, rfl⟩
    · cases hx; cases hy; exact ⟨fun _ _ _ => rfl, fun _ _ _ => rfl, rfl, rfl⟩
  · split at e <;> first | (simp at e; done) | skip
    · cases hx; cases hy <;> exact ⟨fun _ _ _ => rfl, fun _ _ _ => rfl, rfl, rfl⟩
    · cases hy; cases hx <;> exact ⟨fun _ _ _ => rfl, fun _ _ _ => rfl, rfl, rfl⟩
  · split at e <;> first | (simp at e; done) | skip
    · cases hx; cases hy; exact ⟨fun _ _ _ => rfl, fun _ _ _ => rfl, rfl, rfl⟩
    · cases hx; cases hy; exact ⟨fun _ _ _ => rfl, fun _ _ _ => rfl, rfl, rfl⟩
  · split at e <;> first | (simp at e; done) | skip
    · cases hx; cases hy; exact ⟨fun _ _ _ => rfl, fun _ _ _ => rfl, rfl, rfl⟩
    · cases hx; cases hy; exact ⟨fun _ _ _ => rfl, fun _ _ _ => rfl, rfl, rfl⟩
  · simp at e

/-! ### Plain values compared part by part -/
def eqParts (g : Field → Option Bool) : List Field → Option Bool
  | [] => some true
  | f :: l =>
    match decide (f.name = "_") with
    | true => eqParts g l
    | false =>
      match g f, eqParts g l with
      | some a, some b => some (a && b)
      | _, _ => none
def eqItems (g : Nat → Option Bool) : List Nat → Option Bool
  | [] => some true
  | i :: l =>
    match g i, eqItems g l with
    | some a, some b => some (a && b)
    | _, _ => none
def eqP (P : Program) : Nat → TypeId → Value → Value → Option Bool
  | 0, _, _, _ => none
  | n + 1, t, x, y =>
    match P.underlying t, x, y with
    | some .bool, .bool a, .bool b => some (a == b)
    | some (.int _), .int k a, .int j b =>
      match decide (k = j) with
      | true => some (a == b)
      | false => none
    | some .string, .string a, .string b => some (a == b)
    | some (.struct fs), .agg xs, .agg ys =>
      match P.stoodInHeld t with
      | true => none
      | false => eqParts (fun f =>
        match aPart P f.type xs f.offset, aPart P f.type ys f.offset with
        | some a, some b => eqP P n f.type a b
        | _, _ => none) fs.toList
    | some (.array len e), .agg xs, .agg ys =>
      match szOf P e with
      | some sz => eqItems (fun i =>
        match aPart P e xs (i * sz), aPart P e ys (i * sz) with
        | some a, some b => eqP P n e a b
        | _, _ => none) (List.range len)
      | none => none
    | _, _, _ => none

theorem parts_run {g : Field → Option Bool} {c : Field → Sem Bool} {w : World} (h : ∀ f b, g f = some b → (c f).run P w = .ok b w) : ∀ (l : List Field) {b : Bool}, eqParts g l = some b →
    (forIn l ((none : Option Bool), ()) fun (f : Field) (_ : Option Bool × Unit) =>
      if f.name ≠ "_" then do
        let r ← c f
        if (!r) = true then pure (ForInStep.done (some false, ())) else pure (ForInStep.yield (none, ()))
      else pure (ForInStep.yield (none, ()))).run P w = .ok (if b then none else some false, ()) w
  | [], b, e => by
    simp only [eqParts, Option.some.injEq] at e
    subst e
    rfl
  | f :: l, b, e => by
    simp only [eqParts] at e
    have ih := @parts_run g c w h l
    rw [List.forIn_cons]
    split at e
    · rename_i hn
      have hn := of_decide_eq_true hn
      simp only [hn, ne_eq, not_true_eq_false, if_false, pure_bind]
      exact ih e
    · rename_i hn
      have hn := of_decide_eq_false hn
      split at e
      · rename_i a b' ha hb
        simp only [Option.some.injEq] at e
        subst e
        simp only [ne_eq, hn, not_false_eq_true, if_true, bind_assoc]
        have e1 := h f a ha
        cases a
        · simp [Sem.run_bind, e1]
        · have := ih hb
          simp [Sem.run_bind, e1] at this ⊢
          exact this
      · simp at e

theorem items_run {g : Nat → Option Bool} {c : Nat → Sem Bool} {w : World} (h : ∀ f b, g f = some b → (c f).run P w = .ok b w) : ∀ (l : List Nat) {b : Bool}, eqItems g l = some b →
    (forIn l ((none : Option Bool), ()) fun f (_ : Option Bool × Unit) => do
        let r ← c f
        if (!r) = true then pure (ForInStep.done (some false, ())) else pure (ForInStep.yield (none, ()))).run P w = .ok (if b then none else some false, ()) w
  | [], b, e => by
    simp only [eqItems, Option.some.injEq] at e
    subst e
    rfl
  | f :: l, b, e => by
    simp only [eqItems] at e
    have ih := @items_run g c w h l
    rw [List.forIn_cons]
    split at e
    · rename_i a b' ha hb
      simp only [Option.some.injEq] at e
      subst e
      simp only [bind_assoc]
      have e1 := h f a ha
      cases a
      · simp [Sem.run_bind, e1]
      · have := ih hb
        simp [Sem.run_bind, e1] at this ⊢
        exact this
    · simp at e

set_option maxHeartbeats 1000000 in
theorem eqP_ok : ∀ (n d : Nat) {t : TypeId} {x y x' y' : Value} {b : Bool}, n ≤ d → VR σ x x' → VR σ y y' → eqP P n t x y = some b → ∀ w, (Op.equalIn d t x' y').run P w = .ok b w := by
  intro n
  induction n with
  | zero => intro d t x y x' y' b _ _ _ e; simp [eqP] at e
  | succ n ih =>
    intro d t x y x' y' b hd hx hy e w
    obtain ⟨d, rfl⟩ : ∃ e, d = e + 1 := ⟨d - 1, by omega⟩
    unfold eqP at e
    split at e
    · rename_i a c hu
      cases hx; cases hy
      simp only [Option.some.injEq] at e; subst e
      simp [Op.equalIn, run_und hu]
    · rename_i k0 k a j c hu
      cases hx; cases hy
      split at e
      · rename_i hk
        have hk := of_decide_eq_true hk
        subst hk
        simp only [Option.some.injEq] at e; subst e
        simp [Op.equalIn, run_und hu]
      · simp at e
    · rename_i a c hu
      cases hx; cases hy
      simp only [Option.some.injEq] at e; subst e
      simp [Op.equalIn, run_und hu]
    · rename_i fs xs ys hu
      obtain ⟨xs', rfl, hxs⟩ := VR.agg_iff.1 hx
      obtain ⟨ys', rfl, hys⟩ := VR.agg_iff.1 hy
      split at e
      · simp at e
      · rename_i hst
        simp only [Op.equalIn, Sem.run_bind, run_und hu, Result.andThen_ok]
        have hp : (Sem.run P program w) = .ok P w := rfl
        simp only [hp, Result.andThen_ok, hst, Bool.false_eq_true, if_false]
        have key := parts_run (P := P) (w := w) (c := fun f => do
          let a ← part f.type xs' f.offset
          let b ← part f.type ys' f.offset
          Op.equalIn d f.type a b) (fun f b hb => by
            split at hb
            · rename_i a c ha hc
              obtain ⟨a', r1, v1⟩ := aPart_ok hxs ha w
              obtain ⟨c', r2, v2⟩ := aPart_ok hys hc w
              simp only [Sem.run_bind, r1, r2, Result.andThen_ok]
              exact ih d (by omega) v1 v2 hb w
            · simp at hb) fs.toList e
        simp only [bind_assoc] at key
        rw [← Array.forIn_toList]
        simp only [Sem.run_bind, key, Result.andThen_ok]
        cases b <;> rfl
    · rename_i len el xs ys hu
      obtain ⟨xs', rfl, hxs⟩ := VR.agg_iff.1 hx
      obtain ⟨ys', rfl, hys⟩ := VR.agg_iff.1 hy
      split at e
      · rename_i sz hsz
        simp only [Op.equalIn, Sem.run_bind, run_und hu, Result.andThen_ok, run_sz hsz]
        have key := items_run (P := P) (w := w) (c := fun i => do
          let a ← part el xs' (i * sz)
          let b ← part el ys' (i * sz)
          Op.equalIn d el a b) (fun f b hb => by
            split at hb
            · rename_i a c ha hc
              obtain ⟨a', r1, v1⟩ := aPart_ok hxs ha w
              obtain ⟨c', r2, v2⟩ := aPart_ok hys hc w
              simp only [Sem.run_bind, r1, r2, Result.andThen_ok]
              exact ih d (by omega) v1 v2 hb w
            · simp at hb) (List.range len) e
        simp only [bind_assoc] at key
        rw [Std.Legacy.Range.forIn_eq_forIn_range']
        simp only [Std.Legacy.Range.size, Nat.sub_zero, Nat.add_sub_cancel, Nat.div_one, ← List.range_eq_range', Sem.run_bind, key, Result.andThen_ok]
        cases b <;> rfl
      · simp at e
    · simp at e

/-- Structs and arrays. -/
def aEqAgg (P : Program) (t : TypeId) (x y : Value) : Option Bool :=
  match x, y with
  | .agg _, .agg _ =>
    match P.eqGuardType P.depth t with
    | true => none
    | false => eqP P 8 t x y
  | _, _ => none
theorem aEqAgg_ok {t : TypeId} {x y x' y' : Value} {b : Bool} (hx : VR σ x x') (hy : VR σ y y') (e : aEqAgg P t x y = some b) (w : World) :
    (∀ ox oy, (eqGuard .eql t ox oy x' y').run P w = .ok () w) ∧ (∀ ox oy, (eqGuard .neq t ox oy x' y').run P w = .ok () w) ∧
      (binOp .eql t x' y').run P w = .ok (.bool b) w ∧ (binOp .neq t x' y').run P w = .ok (.bool (!b)) w := by
  unfold aEqAgg at e
  split at e
  · obtain ⟨xs', rfl, hxs⟩ := VR.agg_iff.1 hx
    obtain ⟨ys', rfl, hys⟩ := VR.agg_iff.1 hy
    split at e
    · simp at e
    · rename_i hg
      have hp : (Sem.run P program w) = .ok P w := rfl
      have he : (Op.equal t (.agg xs') (.agg ys')).run P w = .ok b w := eqP_ok 8 10000 (by omega) hx hy e w
      refine ⟨fun ox oy => ?_, fun ox oy => ?_, ?_, ?_⟩
      · simp [eqGuard, Sem.run_bind, hp, hg]
      · simp [eqGuard, Sem.run_bind, hp, hg]
      · have : binOp .eql t (.agg xs') (.agg ys') = (do pure (.bool (← Op.equal t (.agg xs') (.agg ys')))) := rfl
        simp [this, Sem.run_bind, he]
      · have : binOp .neq t (.agg xs') (.agg ys') = (do pure (.bool (!(← Op.equal t (.agg xs') (.agg ys'))))) := rfl
        simp [this, Sem.run_bind, he]
  · simp at e

def aEqs (P : Program) (t : TypeId) (x y : Value) : Option Bool :=
  match aEqAgg P t x y with
  | some b => some b
  | none => aEq P t x y
theorem aEqs_ok {t : TypeId} {x y x' y' : Value} {b : Bool} (hx : VR σ x x') (hy : VR σ y y') (e : aEqs P t x y = some b) (w : World) :
    (∀ ox oy, (eqGuard .eql t ox oy x' y').run P w = .ok () w) ∧ (∀ ox oy, (eqGuard .neq t ox oy x' y').run P w = .ok () w) ∧
      (binOp .eql t x' y').run P w = .ok (.bool b) w ∧ (binOp .neq t x' y').run P w = .ok (.bool (!b)) w := by
  unfold aEqs at e
  split at e
  · rename_i c hc
    simp only [Option.some.injEq] at e
    subst e
    exact aEqAgg_ok hx hy hc w
  · obtain ⟨g1, g2, g3, g4⟩ := aEq_shape hx hy e
    have he := aEq_ok hx hy e w
    exact ⟨fun ox oy => g1 ox oy w, fun ox oy => g2 ox oy w, by rw [g3]; simp [Sem.run_bind, he], by rw [g4]; simp [Sem.run_bind, he]⟩

/-! ### unsafe.Pointer and back, where the memory is what it is seen as -/
def aConv (P : Program) (src dst : TypeId) (x : Value) (S : AS) : Option Value :=
  match x with
  | .pointer (some a) =>
    match a.spot, S.shape? a.block, P.underlying src, P.underlying dst with
    | none, some (e, n), some (.pointer t), some .unsafePointer =>
      match Nat.ble (a.off + 1) n, szOf P t with
      | true, some (_ + 1) => some x
      | _, _ => none
    | none, some (e, n), some .unsafePointer, some (.pointer u) =>
      match szOf P u, liesAt P P.depth e (n / P.cellsOf e) a.off u 1 with
      | some (_ + 1), true => some x
      | _, _ => none
    | _, _, _, _ => none
  | _ => none

theorem shape_ok {S : AS} {w : World} (h : HR B w0 G σ S w) {id : Nat} {L : Loc} (hL : σ id = some L) {x : TypeId × Nat} (e : S.shape? id = some x) : w.shape? L.blk = some x ∧ L.off = 0 := by
  unfold AS.shape? at e
  split at e
  · rename_i c ty sz wr hg
    simp only [Option.some.injEq] at e
    subst e
    obtain ⟨L', C, Ty, fz, k1, k2, k3, k4, k5, k7, k6⟩ := h.blk _ _ hg
    rw [hL] at k1; cases k1
    obtain ⟨rfl, h0, hs⟩ := k7 rfl
    exact ⟨by simp [World.shape?, k2, hs], h0⟩
  · simp at e

theorem aConv_ok {S : AS} {w : World} (h : HR B w0 G σ S w) {src dst : TypeId} {x x' v : Value} (hx : VR σ x x') (e : aConv P src dst x S = some v) : (convert src dst x').run P w = .ok x' w ∧ v = x := by
  unfold aConv at e
  split at e
  · rename_i a
    cases hx with
    | p hL =>
      rename_i id off L
      split at e
      · rename_i el n t hsp hsh hu1 hu2
        obtain ⟨hs, h0⟩ := shape_ok h hL hsh
        split at e
        · rename_i m hb hz
          have hb := Nat.le_of_ble_eq_true hb
          simp only [Option.some.injEq] at e
          subst e
          refine ⟨?_, rfl⟩
          have hb' : ¬ (n ≤ off) := by simp only at hb; omega
          simp [convert, run_und hu1, run_und hu2, Conv.unsafePointer, Conv.seenAt, viewAt, hs, cellsIn, run_sz hz, h0, hb']
        · simp at e
      · rename_i el n u hsp hsh hu1 hu2
        obtain ⟨hs, h0⟩ := shape_ok h hL hsh
        split at e
        · rename_i m hz hl
          simp only [Option.some.injEq] at e
          subst e
          refine ⟨?_, rfl⟩
          simp only at hl
          simp [convert, run_und hu1, run_und hu2, Conv.unsafePointer, Conv.seenAt, viewAt, hs, variablesAt, run_sz hz, h0, hl]
        · simp at e
      · simp at e
  · simp at e

/-- The block that a place or a slice lies in. -/
def topId : Value → Option Nat
  | .pointer (some ⟨b, _, none⟩) => some b
  | .slice (some ⟨b, _, none⟩) _ _ => some b
  | _ => none

/-! ### One operation -/
def flatKind : Op → Bool
  | .binOp .. | .unOp .. | .convert .. | .index .. | .slice .. | .typeAssert .. | .makeInterface .. | .field .. | .extract .. => true
  | .call { callee := .builtin b, .. } =>
    match b with
    | .len | .cap | .min | .max => true
    | _ => false
  | _ => false

def ifaceB : TypeDesc → Bool
  | .interface _ => true
  | _ => false

/-- 'none' within: the operation hands back nothing. -/
def evFlat (P : Program) (o : Oper) (ρ : Operand → Value) : Option Value :=
  match flatKind o.op with
  | false => none
  | true =>
    match o.op.operands.toList.all (fun x => selfB 4 (ρ x)) with
    | false => none
    | true =>
      match at0 P (execOp ρ o) with
      | some (.value v) => match selfB 8 v with
        | true => some v
        | false => none
      | _ => none

def evStruct (P : Program) (o : Oper) (ρ : Operand → Value) (S : AS) : Option (Option Value × AS) :=
  match o.op with
  | .alloc e =>
    match inTab P e with
    | true => (ai P 0 (Instr.alloc e true (.tuple #[])) S).map fun r => (some r.1, r.2)
    | false => none
  | .box e x => (ai P 0 (Instr.box e (ρ x)) S).map fun r => (some r.1, r.2)
  | .load t a =>
    match topId (ρ a) with
    | some _ => (ai P 0 (Instr.loadAt t (ρ a)) S).map fun r => (some r.1, r.2)
    | none => none
  | .store t a x => (ai P 0 (Instr.storeAt t (ρ a) (ρ x)) S).map fun r => (none, r.2)
  | .fieldAddr s x f => (aField P s (ρ x) f).map fun v => (some v, S)
  | .field s x f => (aFieldV P s (ρ x) f).map fun v => (some v, S)
  | .indexAddr t x i => (aIndexAddr P t (ρ x) (ρ i)).map fun v => (some v, S)
  | .index t x i => (aIndexV P t (ρ x) (ρ i)).map fun v => (some v, S)
  | .extract x i => (aExtract (ρ x) i).map fun v => (some v, S)
  | .build t parts => (aBuild P t (parts.toList.map fun x => (x.1, ρ x.2))).map fun v => (some v, S)
  | .buildSlice t n parts => (aBuildSlice P t n (parts.toList.map fun x => (x.1, ρ x.2)) S).map fun r => (some r.1, r.2)
  | .makeSlice t l c => (aMakeSlice P t (ρ l) (ρ c) S).map fun r => (some r.1, r.2)
  | .slice t x lo hi none => (aSlice P t (ρ x) (lo.map ρ) (hi.map ρ) S).map fun v => (some v, S)
  | .makeFunc (.func f) first cap => some (some (.func (.func f) (first.map ρ) (cap.map ρ)), S)
  | .nilCheck x =>
    match ρ x with
    | .pointer (some a) => some (some (.pointer (some a)), S)
    | .func (.func f) cs ds => some (some (.func (.func f) cs ds), S)
    | _ => none
  | .makeInterface t x =>
    match P.underlying t with
    | some d => match ifaceB d with
      | false => some (some (.iface t (ρ x)), S)
      | true => none
    | none => none
  | .binOp .eql t x y _ => (aEqs P t (ρ x) (ρ y)).map fun b => (some (.bool b), S)
  | .binOp .neq t x y _ => (aEqs P t (ρ x) (ρ y)).map fun b => (some (.bool (!b)), S)
  | .convert s d x => (aConv P s d (ρ x) S).map fun v => (some v, S)
  | .call { callee := .builtin .len, args, argTypes } =>
    match argTypes[0]?, args.toList with
    | some t, [x] =>
      match ρ x, P.underlying t with
      | .slice _ n _, some (.slice _) => some (some (.int .i64 n), S)
      | _, _ => none
    | _, _ => none
  | .call { callee := .builtin .append, args, argTypes } =>
    match argTypes.toList, args.toList with
    | [t, tx], [s, x] => (aAppend P t tx (ρ s) (ρ x) S).map fun r => (some r.1, r.2)
    | _, _ => none
  | .call { callee := .builtin .unsafeSliceData, args, .. } =>
    match args.toList with
    | [x] => (aSliceData (ρ x)).map fun v => (some v, S)
    | _ => none
  | .call { callee := .builtin .unsafeString, args, argTypes } =>
    match argTypes.toList, args.toList with
    | [pt, _], [x, n] => (aString P pt (ρ x) (ρ n) S).map fun r => (some r.1, r.2)
    | _, _ => none
  | .call { callee := .builtin .copy, args, argTypes } =>
    match argTypes.toList, args.toList with
    | [t, _], [x, y] => (aCopy0 P t (ρ x) (ρ y)).map fun v => (some v, S)
    | _, _ => none
  | _ => none

def evSimple (P : Program) (o : Oper) (ρ : Operand → Value) (S : AS) : Option (Option Value × AS) :=
  match evStruct P o ρ S with
  | some x => some x
  | none =>
    match evFlat P o ρ with
    | some v => some (some v, S)
    | none => none

/-- What a program's table owes. -/
structure TabOk (P : Program) : Prop where
  zero : ZeroOk P
  size : ∀ t i z, inTab P t = true → P.info? t = some i → i.zero = some z → z.cells.size = i.size

def OpOk (P : Program) (B : Nat) (w0 : World) (G : Nat) (σ : Sig) (o : Oper) (ρc : Operand → Value) (w : World) (r : Option Value) (S' : AS) : Prop :=
  ∃ σ' w', σ.le σ' ∧ HR B w0 G σ' S' w' ∧
    match r with
    | some v => ∃ v', (execOp ρc o).run P w = .ok (.value v') w' ∧ VR σ' v v'
    | none => (execOp ρc o).run P w = .ok .skip w'

theorem evFlat_ok {S : AS} {w : World} (h : HR B w0 G σ S w) {o : Oper} {ρa ρc : Operand → Value} (hρ : ∀ x ∈ o.op.operands, VR σ (ρa x) (ρc x)) {v : Value} (e : evFlat P o ρa = some v) : OpOk P B w0 G σ o ρc w (some v) S := by
  unfold evFlat at e
  split at e
  · simp at e
  · rename_i hk
    split at e
    · simp at e
    · rename_i hall
      split at e
      · rename_i v1 ha
        split at e
        · rename_i hv
          simp only [Option.some.injEq] at e
          subst e
          have hsel : ∀ cs b, o.op ≠ .select cs b := by
            intro cs b he; rw [he] at hk; simp [flatKind] at hk
          have hcong : execOp ρc o = execOp ρa o := execOp_congr o hsel (fun x hx => selfB_eq 4 _ _ (List.all_eq_true.1 hall x (by simpa using hx)) (hρ x hx))
          exact ⟨σ, w, Sig.le_refl _, h, v1, by rw [hcong]; exact at0_run w ha, selfB_spec _ _ _ hv⟩
        · simp at e
      · simp at e

theorem mapR {α β : Type} {x : Option α} {f : α → β} {y : β} (e : x.map f = some y) : ∃ a, x = some a ∧ f a = y := by
  cases x with
  | none => simp at e
  | some a => exact ⟨a, rfl, by simpa using e⟩

theorem AR.ofMap {ρa ρc : Operand → Value} (l : Array Operand) (h : ∀ x ∈ l, VR σ (ρa x) (ρc x)) : AR σ (l.map ρa) (l.map ρc) := by
  refine AR.of_get (by simp) (fun i x y hx hy => ?_)
  simp only [Array.getElem?_map, Option.map_eq_some_iff] at hx hy
  obtain ⟨u, hu, rfl⟩ := hx
  obtain ⟨u', hu', rfl⟩ := hy
  rw [hu] at hu'; cases hu'
  exact h u (Array.mem_of_getElem? hu)

set_option maxHeartbeats 2000000 in
theorem evStruct_ok (hT : TabOk P) {S S' : AS} {w : World} (h : HR B w0 G σ S w) {o : Oper} {ρa ρc : Operand → Value} (hρ : ∀ x ∈ o.op.operands, VR σ (ρa x) (ρc x)) {r : Option Value} (e : evStruct P o ρa S = some (r, S')) :
    OpOk P B w0 G σ o ρc w r S' := by
  obtain ⟨dst, op, ty, pos, after, guard⟩ := o
  unfold evStruct at e
  have valOf : ∀ {sa sc : Sem Value} {x : Value × AS}, RSem B w0 G P 0 VR σ sa sc → ai P 0 sa S = some x → (some x.1, x.2) = (r, S') → (∀ w, (execOp ρc ⟨dst, op, ty, pos, after, guard⟩).run P w = (sc.run P w).andThen fun v w => .ok (.value v) w) →
      OpOk P B w0 G σ ⟨dst, op, ty, pos, after, guard⟩ ρc w r S' := by
    intro sa sc x hs ha hx hrun
    obtain ⟨rfl, rfl⟩ := Prod.mk.inj hx
    obtain ⟨σ', v', w', h1, h2, h3, h4⟩ := hs σ S w (Sig.le_refl _) h _ _ ha
    exact ⟨σ', w', h1, h4, v', by rw [hrun, h2]; rfl, h3⟩
  have pureOf : ∀ {v : Value} {x : Option Value}, x = some v → (some v, S) = (r, S') → (∃ v', (execOp ρc ⟨dst, op, ty, pos, after, guard⟩).run P w = .ok (.value v') w ∧ VR σ v v') → OpOk P B w0 G σ ⟨dst, op, ty, pos, after, guard⟩ ρc w r S' := by
    intro v x _ hx hrun
    obtain ⟨rfl, rfl⟩ := Prod.mk.inj hx
    exact ⟨σ, w, Sig.le_refl _, h, hrun⟩
  split at e
  · -- alloc
    rename_i el he; simp only at he; subst he
    split at e
    case h_2 => simp at e
    rename_i ht
    obtain ⟨x, hx, hy⟩ := mapR e
    exact valOf (rs_alloc hT.zero el ht) hx hy (fun w => by simp [execOp])
  · rename_i el x he; simp only at he; subst he; obtain ⟨y, hx, hy⟩ := mapR e
    exact valOf (rs_box el (hρ x (by simp [Op.operands]))) hx hy (fun w => by simp [execOp])
  · rename_i t a he; simp only at he; subst he
    split at e
    case h_2 => simp at e
    obtain ⟨y, hx, hy⟩ := mapR e
    exact valOf (rs_loadAt t (hρ a (by simp [Op.operands]))) hx hy (fun w => by simp [execOp])
  · rename_i t a x he; simp only at he; subst he; obtain ⟨y, hx, hy⟩ := mapR e
    obtain ⟨rfl, rfl⟩ := Prod.mk.inj hy
    obtain ⟨σ', v', w', h1, h2, h3, h4⟩ := rs_storeAt (B := B) (w0 := w0) (G := G) (P := P) (sz := 0) t (hρ a (by simp [Op.operands])) (hρ x (by simp [Op.operands])) σ S w (Sig.le_refl _) h _ _ hx
    exact ⟨σ', w', h1, h4, by simp [execOp, h2]⟩
  · rename_i s x f he; simp only at he; subst he; obtain ⟨y, hx, hy⟩ := mapR e
    obtain ⟨v', k1, k2⟩ := aField_ok (hρ x (by simp [Op.operands])) hx w
    exact pureOf hx hy ⟨v', by simp [execOp, k1], k2⟩
  · rename_i s x f he; simp only at he; subst he; obtain ⟨y, hx, hy⟩ := mapR e
    obtain ⟨v', k1, k2⟩ := aFieldV_ok (hρ x (by simp [Op.operands])) hx w
    exact pureOf hx hy ⟨v', by simp [execOp, k1], k2⟩
  · rename_i t x i he; simp only at he; subst he; obtain ⟨y, hx, hy⟩ := mapR e
    obtain ⟨v', k1, k2⟩ := aIndexAddr_ok (hρ x (by simp [Op.operands])) (hρ i (by simp [Op.operands])) hx w
    exact pureOf hx hy ⟨v', by simp [execOp, k1], k2⟩
  · rename_i t x i he; simp only at he; subst he; obtain ⟨y, hx, hy⟩ := mapR e
    obtain ⟨v', k1, k2⟩ := aIndexV_ok (hρ x (by simp [Op.operands])) (hρ i (by simp [Op.operands])) hx w
    exact pureOf hx hy ⟨v', by simp [execOp, k1], k2⟩
  · rename_i x i he; simp only at he; subst he; obtain ⟨y, hx, hy⟩ := mapR e
    obtain ⟨v', k1, k2⟩ := aExtract_ok (P := P) (hρ x (by simp [Op.operands])) hx w
    exact pureOf hx hy ⟨v', by simp [execOp, k1], k2⟩
  · rename_i t parts he; simp only at he; subst he; obtain ⟨y, hx, hy⟩ := mapR e
    obtain ⟨v', k1, k2⟩ := aBuild_ok hT.zero (ρc := ρc) t parts (fun x hx => hρ x.2 (by simp [Op.operands]; exact ⟨x.1, by simpa using hx⟩)) hx w
    exact pureOf hx hy ⟨v', by simp [execOp, k1], k2⟩
  · rename_i t n parts he; simp only at he; subst he; obtain ⟨y, hx, hy⟩ := mapR e
    obtain ⟨rfl, rfl⟩ := Prod.mk.inj hy
    obtain ⟨σ', v', w', k1, k2, k3, k4⟩ := aBuildSlice_ok hT.zero h (ρc := ρc) t n parts (fun x hx => hρ x.2 (by simp [Op.operands]; exact ⟨x.1, by simpa using hx⟩)) hx
    exact ⟨σ', w', k1, k4, v', by simp [execOp, k2], k3⟩
  · rename_i t l c he; simp only at he; subst he; obtain ⟨y, hx, hy⟩ := mapR e
    obtain ⟨rfl, rfl⟩ := Prod.mk.inj hy
    obtain ⟨σ', v', w', k1, k2, k3, k4⟩ := aMakeSlice_ok hT.zero h t (hρ l (by simp [Op.operands])) (hρ c (by simp [Op.operands])) hx
    exact ⟨σ', w', k1, k4, v', by simp [execOp, k2], k3⟩
  · rename_i t x lo hi he; simp only at he; subst he; obtain ⟨y, hx, hy⟩ := mapR e
    obtain ⟨v', k1, k2⟩ := aSlice_ok (lo' := lo.map ρc) (hi' := hi.map ρc) h t (hρ x (by simp [Op.operands])) (fun v hv => by
      cases lo with
      | none => simp at hv
      | some z => simp at hv; subst hv; exact ⟨ρc z, rfl, hρ z (by simp [Op.operands])⟩) (fun hn => by cases lo <;> simp_all) (fun v hv => by
      cases hi with
      | none => simp at hv
      | some z => simp at hv; subst hv; exact ⟨ρc z, rfl, hρ z (by simp [Op.operands])⟩) (fun hn => by cases hi <;> simp_all) hx
    exact pureOf hx hy ⟨v', by simp [execOp, k1], k2⟩
  · rename_i f first cap he; simp only at he; subst he
    simp only [Option.some.injEq] at e
    have a1 := AR.ofMap (σ := σ) (ρa := ρa) (ρc := ρc) first (fun x hx => hρ x (by simp [Op.operands, hx]))
    have a2 := AR.ofMap (σ := σ) (ρa := ρa) (ρc := ρc) cap (fun x hx => hρ x (by simp [Op.operands, hx]))
    exact pureOf rfl e ⟨.func (.func f) (first.map ρc) (cap.map ρc), by simp [execOp, Instr.makeFunc], .fn f a1.1 a1.2 a2.1 a2.2⟩
  · rename_i x he; simp only at he; subst he
    have hx := hρ x (by simp [Op.operands])
    split at e
    · rename_i a hpa
      rw [hpa] at hx
      simp only [Option.some.injEq] at e
      generalize hv : ρc x = vx at hx
      refine pureOf rfl e ⟨vx, ?_, hx⟩
      cases hx with
      | p h1 => simp [execOp, hv]
    · rename_i f cs ds hpa
      rw [hpa] at hx
      simp only [Option.some.injEq] at e
      generalize hv : ρc x = vx at hx
      refine pureOf rfl e ⟨vx, ?_, hx⟩
      cases hx with
      | fn => simp [execOp, hv]
    · simp at e
  · rename_i t x he; simp only at he; subst he
    have hx := hρ x (by simp [Op.operands])
    split at e
    · rename_i d hu
      split at e
      · rename_i hd
        simp only [Option.some.injEq] at e
        refine pureOf rfl e ⟨.iface t (ρc x), ?_, .iface t hx⟩
        cases d <;> first | (simp [ifaceB] at hd; done) | simp [execOp, Instr.makeInterface, run_und hu]
      · simp at e
    · simp at e
  · rename_i t x y ty' he; simp only at he; subst he; obtain ⟨b, hb, hy⟩ := mapR e
    obtain ⟨g1, g2, g3, g4⟩ := aEqs_ok (hρ x (by simp [Op.operands])) (hρ y (by simp [Op.operands])) hb w
    exact pureOf rfl hy ⟨.bool b, by simp [execOp, g1, g3], .bool b⟩
  · rename_i t x y ty' he; simp only at he; subst he; obtain ⟨b, hb, hy⟩ := mapR e
    obtain ⟨g1, g2, g3, g4⟩ := aEqs_ok (hρ x (by simp [Op.operands])) (hρ y (by simp [Op.operands])) hb w
    exact pureOf rfl hy ⟨.bool (!b), by simp [execOp, g2, g4], .bool _⟩
  · rename_i s d x he; simp only at he; subst he; obtain ⟨v, hv, hy⟩ := mapR e
    obtain ⟨k1, rfl⟩ := aConv_ok h (hρ x (by simp [Op.operands])) hv
    exact pureOf rfl hy ⟨ρc x, by simp [execOp, k1], hρ x (by simp [Op.operands])⟩
  · rename_i args argTypes he; simp only at he; subst he
    split at e
    · rename_i t x ht hargs
      have hargs' : args = #[x] := by apply Array.ext'; simpa using hargs
      subst hargs'
      have hx := hρ x (by simp [Op.operands, Call.operands])
      split at e
      · rename_i sa n cap el hpa hu
        rw [hpa] at hx
        simp only [Option.some.injEq] at e
        refine pureOf rfl e ⟨.int .i64 n, ?_, .int _ _⟩
        have run : ∀ (a : Option Addr) (c : Nat), ρc x = .slice a n c → (execOp ρc ⟨dst, .call { callee := .builtin .len, args := #[x], argTypes }, ty, pos, after, guard⟩).run P w = .ok (.value (.int .i64 n)) w := by
          intro a c hv
          simp [execOp, resolve, invoke, builtin, Builtin.len_, ht, hv, run_und hu, goInt]
        generalize hv : ρc x = vx at hx
        cases hx with
        | sl0 => exact run _ _ hv
        | sl => exact run _ _ hv
        | slg => exact run _ _ hv
      · simp at e
    · simp at e
  · rename_i args argTypes he; simp only at he; subst he
    split at e
    · rename_i t tx s x ht hargs
      have hargs' : args = #[s, x] := by apply Array.ext'; simpa using hargs
      have ht' : argTypes = #[t, tx] := by apply Array.ext'; simpa using ht
      subst hargs'; subst ht'
      obtain ⟨y, hx, hy⟩ := mapR e
      obtain ⟨rfl, rfl⟩ := Prod.mk.inj hy
      obtain ⟨σ', v', w', k1, k2, k3, k4⟩ := aAppend_ok (ty := ty) hT.size h (hρ s (by simp [Op.operands, Call.operands])) (hρ x (by simp [Op.operands, Call.operands])) hx
      exact ⟨σ', w', k1, k4, v', by simp [execOp, resolve, invoke, builtin, k2], k3⟩
    · simp at e
  · rename_i args ats he; simp only at he; subst he
    split at e
    · rename_i x hargs
      have hargs' : args = #[x] := by apply Array.ext'; simpa using hargs
      subst hargs'
      obtain ⟨v, hv, hy⟩ := mapR e
      obtain ⟨v', k1, k2⟩ := aSliceData_ok (P := P) (hρ x (by simp [Op.operands, Call.operands])) hv ats ty w
      exact pureOf rfl hy ⟨v', by simp [execOp, resolve, invoke, builtin, k1], k2⟩
    · simp at e
  · rename_i args ats he; simp only at he; subst he
    split at e
    · rename_i pt it x n hats hargs
      have hargs' : args = #[x, n] := by apply Array.ext'; simpa using hargs
      have hats' : ats = #[pt, it] := by apply Array.ext'; simpa using hats
      subst hargs'; subst hats'
      obtain ⟨y, hx, hy⟩ := mapR e
      obtain ⟨rfl, rfl⟩ := Prod.mk.inj hy
      obtain ⟨w', k1, k2, k3⟩ := aString_ok (it := it) (ty := ty) h (hρ x (by simp [Op.operands, Call.operands])) (hρ n (by simp [Op.operands, Call.operands])) hx
      exact ⟨σ, w', Sig.le_refl _, k2, _, by simp [execOp, resolve, invoke, builtin, k1], k3⟩
    · simp at e
  · rename_i args ats he; simp only at he; subst he
    split at e
    · rename_i t t2 x y hats hargs
      have hargs' : args = #[x, y] := by apply Array.ext'; simpa using hargs
      have hats' : ats = #[t, t2] := by apply Array.ext'; simpa using hats
      subst hargs'; subst hats'
      obtain ⟨v, hv, hy⟩ := mapR e
      obtain ⟨k1, rfl⟩ := aCopy0_ok (P := P) (ts := #[t, t2]) (ty := ty) (by simp) (hρ x (by simp [Op.operands, Call.operands])) (hρ y (by simp [Op.operands, Call.operands])) hv w
      exact pureOf rfl hy ⟨_, by simp [execOp, resolve, invoke, builtin, k1], .int _ _⟩
    · simp at e
  · simp at e

theorem evSimple_ok (hT : TabOk P) {S S' : AS} {w : World} (h : HR B w0 G σ S w) {o : Oper} {ρa ρc : Operand → Value} (hρ : ∀ x ∈ o.op.operands, VR σ (ρa x) (ρc x)) {r : Option Value} (e : evSimple P o ρa S = some (r, S')) :
    OpOk P B w0 G σ o ρc w r S' := by
  unfold evSimple at e
  split at e
  · rename_i x hx
    simp only [Option.some.injEq] at e
    subst e
    exact evStruct_ok hT h hρ hx
  · split at e
    · rename_i v hv
      simp only [Option.some.injEq, Prod.mk.injEq] at e
      obtain ⟨rfl, rfl⟩ := e
      exact evFlat_ok h hρ hv
    · simp at e
end
end Go.Aev
