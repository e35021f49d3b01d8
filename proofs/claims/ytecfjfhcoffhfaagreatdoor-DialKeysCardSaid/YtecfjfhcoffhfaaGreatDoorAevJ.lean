/-
  A REFERENCE RUN, PART J: a region whose order is open: whatever order is drawn, the model comes to where the text's order comes.
-/
import Derived.Test.YtecfjfhcoffhfaaGreatDoorAevI
set_option linter.unusedSimpArgs false
set_option linter.unusedVariables false
namespace Go.Aev
open Go Go.RowKit

section
variable {P : Program} {E : Env}

/-! ### What an operation depends on -/
theorem evFlat_congr {o : Oper} {ρ ρ' : Operand → Value} (h : ∀ x ∈ o.op.operands, ρ x = ρ' x) : evFlat P o ρ = evFlat P o ρ' := by
  unfold evFlat
  cases hk : flatKind o.op with
  | false => rfl
  | true =>
    have hsel : ∀ cs b, o.op ≠ .select cs b := by intro cs b he; rw [he] at hk; simp [flatKind] at hk
    have h1 : (o.op.operands.toList.all fun x => selfB 4 (ρ x)) = (o.op.operands.toList.all fun x => selfB 4 (ρ' x)) := by
      rw [Bool.eq_iff_iff, List.all_eq_true, List.all_eq_true]
      constructor
      · intro k x hx; rw [← h x (by simpa using hx)]; exact k x hx
      · intro k x hx; rw [h x (by simpa using hx)]; exact k x hx
    simp only [h1, execOp_congr o hsel h]

set_option maxHeartbeats 1000000 in
theorem evStruct_congr {o : Oper} {ρ ρ' : Operand → Value} (h : ∀ x ∈ o.op.operands, ρ x = ρ' x) (S : AS) : evStruct P o ρ S = evStruct P o ρ' S := by
  obtain ⟨dst, op, ty, pos, after, guard⟩ := o
  have hb : ∀ (parts : Array (Nat × Operand)), (∀ x ∈ parts.toList, ρ x.2 = ρ' x.2) → parts.toList.map (fun x => (x.1, ρ x.2)) = parts.toList.map (fun x => (x.1, ρ' x.2)) := by
    intro parts hp
    exact List.map_congr_left fun x hx => by rw [hp x hx]
  cases op with
  | build t parts =>
    have := hb parts (fun x hx => h x.2 (by simp [Op.operands]; exact ⟨x.1, by simpa using hx⟩))
    simp only [evStruct, this]
  | buildSlice t n parts =>
    have := hb parts (fun x hx => h x.2 (by simp [Op.operands]; exact ⟨x.1, by simpa using hx⟩))
    simp only [evStruct, this]
  | makeFunc fn first cap =>
    have h1 : first.map ρ = first.map ρ' := Array.map_congr_left fun x hx => h x (by simp [Op.operands, hx])
    have h2 : cap.map ρ = cap.map ρ' := Array.map_congr_left fun x hx => h x (by simp [Op.operands, hx])
    cases fn <;> simp only [evStruct, h1, h2]
  | slice t x lo hi mx =>
    have h0 : ρ x = ρ' x := h x (by simp [Op.operands])
    have h1 : lo.map ρ = lo.map ρ' := by cases lo with | none => rfl | some y => simp [h y (by simp [Op.operands])]
    have h2 : hi.map ρ = hi.map ρ' := by cases hi with | none => rfl | some y => simp [h y (by simp [Op.operands])]
    cases mx <;> simp only [evStruct, h0, h1, h2]
  | binOp op t x y ty' =>
    have h0 : ρ x = ρ' x := h x (by simp [Op.operands])
    have h1 : ρ y = ρ' y := h y (by simp [Op.operands])
    cases op <;> simp only [evStruct, h0, h1]
  | call c =>
    obtain ⟨callee, args, ats⟩ := c
    cases callee with
    | builtin b =>
      have hargs : ∀ x ∈ args.toList, ρ x = ρ' x := fun x hx => h x (by simp [Op.operands, Call.operands]; simpa using hx)
      cases b <;> simp only [evStruct]
      all_goals (split <;> first | rfl | skip)
      all_goals (rename_i ha; simp [ha] at hargs; simp [hargs])
    | _ => simp only [evStruct]
  | _ => simp only [evStruct] <;> simp_all [Op.operands]

theorem evSimple_congr {o : Oper} {ρ ρ' : Operand → Value} (h : ∀ x ∈ o.op.operands, ρ x = ρ' x) (S : AS) : evSimple P o ρ S = evSimple P o ρ' S := by
  unfold evSimple
  rw [evFlat_congr h, evStruct_congr h]

theorem vals_congr {f f2 : Fr} {G : Nat} : ∀ (l : List Operand), (∀ x ∈ l, f.val G x = f2.val G x) → vals f G l = vals f2 G l
  | [], _ => rfl
  | x :: l, h => by
    simp only [vals]
    rw [h x (by simp), vals_congr l (fun y hy => h y (List.mem_cons_of_mem _ hy))]

theorem evOp_congr {r : Rec} {o : Oper} {f f2 : Fr} (h : ∀ x ∈ o.op.operands, f.val E.G x = f2.val E.G x) (S : AS) : evOp P E r o f S = evOp P E r o f2 S := by
  obtain ⟨dst, op, ty, pos, after, guard⟩ := o
  unfold evOp
  have dflt : ∀ (op : Op), (∀ x ∈ op.operands, f.val E.G x = f2.val E.G x) → (match vals f E.G op.operands.toList with
      | some _ =>
        match evSimple P ⟨dst, op, ty, pos, after, guard⟩ (fun x => (f.val E.G x).getD undef) S with
        | some (some v, S') => some (v, S')
        | some (none, S') => some (undef, S')
        | none => none
      | none => none) = (match vals f2 E.G op.operands.toList with
      | some _ =>
        match evSimple P ⟨dst, op, ty, pos, after, guard⟩ (fun x => (f2.val E.G x).getD undef) S with
        | some (some v, S') => some (v, S')
        | some (none, S') => some (undef, S')
        | none => none
      | none => none) := by
    intro op h
    rw [vals_congr _ (fun x hx => h x (by simpa using hx)), evSimple_congr (ρ' := fun x => (f2.val E.G x).getD undef) (fun x hx => by rw [h x hx])]
  split
  · rename_i x he; simp only at he; subst he; simp only [h x (by simp [Op.operands])]
  · rename_i x he; simp only at he; subst he; simp only [h x (by simp [Op.operands])]
  · rename_i c x y he; simp only at he; subst he
    simp only [h c (by simp [Op.operands]), h x (by simp [Op.operands]), h y (by simp [Op.operands])]
  · rename_i g args ats he; simp only at he; subst he
    rw [h g (by simp [Op.operands, Call.operands]), vals_congr args.toList (fun x hx => h x (by simp [Op.operands, Call.operands]; right; simpa using hx))]
  · exact dflt _ h

/-! ### The temporaries, seen by what is looked up -/
def Fr.Eq (f g : Fr) : Prop := f.m = g.m ∧ ∀ i, f.t.get i = g.t.get i
theorem Fr.Eq.refl (f : Fr) : f.Eq f := ⟨rfl, fun _ => rfl⟩
theorem Fr.Eq.symm {f g : Fr} (h : f.Eq g) : g.Eq f := ⟨h.1.symm, fun i => (h.2 i).symm⟩
theorem Fr.Eq.trans {f g k : Fr} (h : f.Eq g) (h' : g.Eq k) : f.Eq k := ⟨h.1.trans h'.1, fun i => (h.2 i).trans (h'.2 i)⟩
theorem put_m (f : Fr) (d : Option Tmp) (v : Value) : (f.put d v).m = f.m := by
  unfold Fr.put
  split
  · rfl
  · split <;> rfl
theorem put_get (f : Fr) (d : Option Tmp) (v : Value) (i : Nat) : (f.put d v).t.get i = if d = some i ∧ Nat.ble (i + 1) f.m = true then some v else f.t.get i := by
  unfold Fr.put
  split
  · simp
  · rename_i d'
    split
    · rename_i hb
      simp only [T.get_set]
      by_cases hi : i = d'
      · subst hi; simp [hb]
      · rw [if_neg hi, if_neg (fun h => hi (Option.some.inj h.1).symm)]
    · rename_i hb
      rw [if_neg]
      rintro ⟨h1, h2⟩
      cases h1
      rw [h2] at hb; cases hb
theorem Fr.Eq.put {f g : Fr} (h : f.Eq g) (d : Option Tmp) (v : Value) : (f.put d v).Eq (g.put d v) :=
  ⟨by rw [put_m, put_m]; exact h.1, fun i => by rw [put_get, put_get, h.1, h.2 i]⟩
theorem put_comm (f : Fr) {d d' : Option Tmp} (v v' : Value) (h : ∀ x, d = some x → d' ≠ some x) : ((f.put d v).put d' v').Eq ((f.put d' v').put d v) := by
  refine ⟨by simp [put_m], fun i => ?_⟩
  rw [put_get, put_get, put_get, put_get, put_m, put_m]
  by_cases h1 : d' = some i ∧ Nat.ble (i + 1) f.m = true
  · have h2 : ¬ (d = some i ∧ Nat.ble (i + 1) f.m = true) := fun hh => h i hh.1 h1.1
    rw [if_pos h1, if_neg h2, if_pos h1]
  · by_cases h2 : d = some i ∧ Nat.ble (i + 1) f.m = true
    · rw [if_neg h1, if_pos h2, if_pos h2]
    · rw [if_neg h1, if_neg h2, if_neg h2, if_neg h1]
theorem Fr.Eq.val {f g : Fr} (h : f.Eq g) (G : Nat) (x : Operand) : f.val G x = g.val G x := by
  cases x with
  | tmp i => exact h.2 i
  | _ => rfl
theorem put_val (f : Fr) {d : Option Tmp} (v : Value) (G : Nat) {x : Operand} (h : ∀ i, d = some i → x ≠ .tmp i) : (f.put d v).val G x = f.val G x := by
  cases x with
  | tmp i =>
    show (f.put d v).t.get i = f.t.get i
    rw [put_get, if_neg (fun hh => h i hh.1 rfl)]
  | _ => rfl

/-- One operation, its guard looked at. -/
def stepA (P : Program) (E : Env) (r : Rec) (c : Bool) (ops : Array Oper) (o : Oper) (f : Fr) (S : AS) : Option (Value × AS) :=
  match guardA ops o f with
  | some true => match evOp P E r o f S with
    | some (v, S') => match okStep E c S S' with
      | true => some (v, S')
      | false => none
    | none => none
  | some false => some (undef, S)
  | none => none
theorem evOps_cons {r : Rec} {cs : Nat → Bool} {ops : Array Oper} {i : Nat} {rest : List Nat} {f : Fr} {S : AS} {o : Oper} (ho : ops[i]? = some o) :
    evOps P E r cs ops (i :: rest) f S = match stepA P E r (cs i) ops o f S with
      | some (v, S') => evOps P E r cs ops rest (f.put o.dst v) S'
      | none => none := by
  simp only [evOps, ho, stepA]
  cases guardA ops o f with
  | none => rfl
  | some b =>
    cases b
    · rfl
    · cases evOp P E r o f S with
      | none => rfl
      | some x =>
        obtain ⟨v, S'⟩ := x
        simp only
        cases okStep E (cs i) S S' <;> rfl

theorem guardA_congr {ops : Array Oper} {o : Oper} {f g : Fr} (h : ∀ d, d ∈ o.looksAt ops → f.t.get d = g.t.get d) : guardA ops o f = guardA ops o g := by
  unfold guardA
  cases hg : o.guard with
  | none => rfl
  | some jw =>
    obtain ⟨j, w⟩ := jw
    simp only
    cases hd : (ops[j]?).bind (·.dst) with
    | none => rfl
    | some d =>
      have : f.t.get d = g.t.get d := h d (by simp [Oper.looksAt, hg, hd])
      simp only [this]
theorem val_of_looks {ops : Array Oper} {o : Oper} {f g : Fr} (h : ∀ d, d ∈ o.looksAt ops → f.t.get d = g.t.get d) {x : Operand} (hx : x ∈ o.op.operands) : f.val E.G x = g.val E.G x := by
  cases x with
  | tmp i => exact h i (by simp only [Oper.looksAt, List.mem_append, List.mem_filterMap]; exact .inl ⟨.tmp i, by simpa using hx, rfl⟩)
  | _ => rfl
theorem stepA_congr {r : Rec} {c : Bool} {ops : Array Oper} {o : Oper} {f g : Fr} (h : ∀ d, d ∈ o.looksAt ops → f.t.get d = g.t.get d) (S : AS) : stepA P E r c ops o f S = stepA P E r c ops o g S := by
  unfold stepA
  rw [guardA_congr h, evOp_congr (fun x hx => val_of_looks h hx)]

theorem evOps_congr {r : Rec} {cs : Nat → Bool} {ops : Array Oper} : ∀ (l : List Nat) {f g f' : Fr} {S S' : AS}, f.Eq g → evOps P E r cs ops l f S = some (f', S') → ∃ g', evOps P E r cs ops l g S = some (g', S') ∧ f'.Eq g'
  | [], f, g, f', S, S', h, e => by
    simp only [evOps, Option.some.injEq, Prod.mk.injEq] at e
    obtain ⟨rfl, rfl⟩ := e
    exact ⟨g, rfl, h⟩
  | i :: l, f, g, f', S, S', h, e => by
    cases ho : ops[i]? with
    | none => simp only [evOps, ho] at e ⊢; exact evOps_congr l h e
    | some o =>
      rw [evOps_cons ho] at e ⊢
      rw [← stepA_congr (fun d _ => h.2 d)]
      cases hs : stepA P E r (cs i) ops o f S with
      | none => simp [hs] at e
      | some x =>
        obtain ⟨v, S1⟩ := x
        simp only [hs] at e
        exact evOps_congr l (h.put o.dst v) e

/-! ### Operations that do not look at memory, and those that only look -/
set_option maxHeartbeats 1000000 in
theorem evStruct_pure {o : Oper} {ρ : Operand → Value} (hk : pureKind o.op = true) {S : AS} {x : Option Value} {S' : AS} (e : evStruct P o ρ S = some (x, S')) : S' = S ∧ ∀ S2, evStruct P o ρ S2 = some (x, S2) := by
  obtain ⟨dst, op, ty, pos, after, guard⟩ := o
  have mp : ∀ {y : Option Value}, (y.map fun v => (some v, S)) = some (x, S') → S' = S ∧ ∀ S2 : AS, (y.map fun v => (some v, S2)) = some (x, S2) := by
    intro y h
    obtain ⟨v, rfl, h2⟩ := mapR h
    cases h2
    exact ⟨rfl, fun _ => rfl⟩
  have mb : ∀ {y : Option Bool} {g : Bool → Value}, (y.map fun v => (some (g v), S)) = some (x, S') → S' = S ∧ ∀ S2 : AS, (y.map fun v => (some (g v), S2)) = some (x, S2) := by
    intro y g h
    obtain ⟨v, rfl, h2⟩ := mapR h
    cases h2
    exact ⟨rfl, fun _ => rfl⟩
  cases op with
  | fieldAddr s y f => exact mp e
  | field s y f => exact mp e
  | indexAddr s y f => exact mp e
  | index s y f => exact mp e
  | extract y f => exact mp e
  | build t parts => exact mp e
  | makeFunc fn first cap =>
    cases fn <;> simp only [evStruct] at e ⊢ <;> first | (simp at e; done) | skip
    simp only [Option.some.injEq, Prod.mk.injEq] at e
    obtain ⟨rfl, rfl⟩ := e
    exact ⟨rfl, fun _ => rfl⟩
  | nilCheck y =>
    simp only [evStruct] at e ⊢
    split at e
    · cases e; exact ⟨rfl, fun _ => rfl⟩
    · cases e; exact ⟨rfl, fun _ => rfl⟩
    · simp at e
  | makeInterface t y =>
    simp only [evStruct] at e ⊢
    split at e
    · split at e
      · cases e; exact ⟨rfl, fun _ => rfl⟩
      · simp at e
    · simp at e
  | binOp bo t y z tz =>
    cases bo <;> simp only [evStruct] at e ⊢ <;> first | (simp at e; done) | exact mb e
  | call c =>
    obtain ⟨callee, args, ats⟩ := c
    cases callee with
    | builtin b =>
      cases b <;> simp only [evStruct] at e ⊢ <;> first | (simp at e; done) | (simp [pureKind] at hk; done) | skip
      · split at e
        · split at e
          · cases e; exact ⟨rfl, fun _ => rfl⟩
          · simp at e
        · simp at e
      · split at e
        · exact mp e
        · simp at e
    | _ => simp [evStruct] at e
  | _ => first | (simp [pureKind] at hk; done) | (simp [evStruct] at e; done)

theorem evSimple_pure {o : Oper} {ρ : Operand → Value} (hk : pureKind o.op = true) {S : AS} {x : Option Value} {S' : AS} (e : evSimple P o ρ S = some (x, S')) : S' = S ∧ ∀ S2, evSimple P o ρ S2 = some (x, S2) := by
  unfold evSimple at e ⊢
  cases hs : evStruct P o ρ S with
  | some y =>
    simp only [hs, Option.some.injEq] at e
    subst e
    obtain ⟨h1, h2⟩ := evStruct_pure hk hs
    exact ⟨h1, fun S2 => by rw [h2 S2]⟩
  | none =>
    have hn : ∀ S2, evStruct P o ρ S2 = none := fun S2 => by
      cases h2 : evStruct P o ρ S2 with
      | none => rfl
      | some y => obtain ⟨y1, y2⟩ := y; rw [(evStruct_pure hk h2).2 S] at hs; simp at hs
    simp only [hs] at e
    simp only [hn]
    cases hf : evFlat P o ρ with
    | some v => simp only [hf] at e ⊢; cases e; exact ⟨rfl, fun _ => rfl⟩
    | none => simp [hf] at e

theorem evOp_pure {r : Rec} {o : Oper} {f : Fr} (hk : pureKind o.op = true) {S : AS} {v : Value} {S' : AS} (e : evOp P E r o f S = some (v, S')) : S' = S ∧ ∀ S2, evOp P E r o f S2 = some (v, S2) := by
  obtain ⟨dst, op, ty, pos, after, guard⟩ := o
  have mp : ∀ {y : Option Value}, (y.map fun v => (v, S)) = some (v, S') → S' = S ∧ ∀ S2 : AS, (y.map fun v => (v, S2)) = some (v, S2) := by
    intro y h
    obtain ⟨u, rfl, h2⟩ := mapR h
    cases h2
    exact ⟨rfl, fun _ => rfl⟩
  unfold evOp at e ⊢
  split at e
  · rename_i x he; simp only at he; subst he; exact mp e
  · rename_i x he; simp only at he; subst he; exact mp e
  · rename_i c x y he; simp only at he; subst he
    split at e
    · exact mp e
    · exact mp e
    · simp at e
  · rename_i g args ats he; simp only at he; subst he; simp [pureKind] at hk
  · rename_i op' n1 n2 n3 n4
    split at e
    · rename_i vs hvs
      split at e
      · rename_i v1 S1 hs
        cases e
        obtain ⟨rfl, h2⟩ := evSimple_pure (o := ⟨dst, op, ty, pos, after, guard⟩) hk hs
        refine ⟨rfl, fun S2 => ?_⟩
        have := h2 S2
        cases op <;> first | exact absurd rfl (n1 _) | exact absurd rfl (n2 _) | exact absurd rfl (n3 _ _ _) | simp only [hvs, this]
      · rename_i S1 hs
        cases e
        obtain ⟨rfl, h2⟩ := evSimple_pure (o := ⟨dst, op, ty, pos, after, guard⟩) hk hs
        refine ⟨rfl, fun S2 => ?_⟩
        have := h2 S2
        cases op <;> first | exact absurd rfl (n1 _) | exact absurd rfl (n2 _) | exact absurd rfl (n3 _ _ _) | simp only [hvs, this]
      · simp at e
    · simp at e
end
end Go.Aev
