/-
  A REFERENCE RUN, PART K: a region whose order is open (the second half).
-/
import Derived.Test.YtecfjfhcoffhfaaGreatDoorAevJ
set_option linter.unusedSimpArgs false
set_option linter.unusedVariables false
namespace Go.Aev
open Go Go.RowKit

section
variable {B : Nat} {w0 : World} {P : Program} {E : Env} {σ : Sig}

inductive OnlyLoads (id : Nat) {α : Type} : Sem α → Prop
  | pure (a : α) : OnlyLoads id (.pure a)
  | load {m : Mode} {a : Addr} {k : Value → Sem α} (h : a.block = id) (hk : ∀ v, OnlyLoads id (k v)) : OnlyLoads id (.load m a k)
  | program {k : Program → Sem α} (hk : ∀ p, OnlyLoads id (k p)) : OnlyLoads id (.program k)
  | halt (h : Halt) : OnlyLoads id (.halt h)
theorem OnlyLoads.bind {id : Nat} {α β : Type} {s : Sem α} {f : α → Sem β} (h : OnlyLoads id s) (k : ∀ a, OnlyLoads id (f a)) : OnlyLoads id (s.bind f) := by
  induction h with
  | pure a => exact k a
  | load h _ ih => exact .load h ih
  | program _ ih => exact .program ih
  | halt h => exact .halt h

theorem cell_agree {S S2 : AS} {a : Addr} (h : S2.heap.get a.block = S.heap.get a.block) : S2.cell? a = S.cell? a := by unfold AS.cell?; rw [h]
theorem ai_loads {id sz : Nat} {S S2 : AS} (hS : S2.heap.get id = S.heap.get id) {α : Type} {s : Sem α} (h : OnlyLoads id s) : ∀ {x : α} {S' : AS}, ai P sz s S = some (x, S') ∨ ai P sz s S2 = some (x, S') →
    ai P sz s S = some (x, S) ∧ ai P sz s S2 = some (x, S2) := by
  induction h with
  | pure a => intro x S' e; rcases e with e | e <;> (simp [ai] at e; obtain ⟨rfl, _⟩ := e; exact ⟨rfl, rfl⟩)
  | @load m a k h hk ih =>
    intro x S' e
    have hc : S2.cell? a = S.cell? a := cell_agree (by rw [h]; exact hS)
    simp only [ai, hc] at e ⊢
    cases hv : S.cell? a with
    | none => simp [hv] at e
    | some v => simp only [hv] at e ⊢; exact ih v e
  | program hk ih => intro x S' e; simp only [ai] at e ⊢; exact ih P e
  | halt h => intro x S' e; simp [ai] at e

theorem addr_block (a : Addr) (n : Nat) : (a.add n).block = a.block := by unfold Addr.add; split <;> rfl
theorem only_typeInfo (id t : Nat) : OnlyLoads id (typeInfo t) := by
  unfold typeInfo program
  refine OnlyLoads.bind (s := .program .pure) (.program fun p => .pure p) (fun p => ?_)
  split
  · exact .pure _
  · exact .halt _
theorem only_underlying (id t : Nat) : OnlyLoads id (underlying t) := by
  unfold underlying program
  refine OnlyLoads.bind (s := .program .pure) (.program fun p => .pure p) (fun p => ?_)
  split
  · exact .pure _
  · exact .halt _
theorem only_isAgg (id t : Nat) : OnlyLoads id (isAgg t) := by
  unfold isAgg
  refine OnlyLoads.bind (only_underlying id t) (fun d => ?_)
  split <;> exact .pure _
theorem only_loadCells (a : Addr) : ∀ (n i : Nat) (acc : Array Value), OnlyLoads a.block (loadCellsFrom a i n acc)
  | 0, _, _ => .pure _
  | n + 1, i, acc => by
    unfold loadCellsFrom
    exact OnlyLoads.bind (s := .load .plain (a.add i) .pure) (.load (addr_block a i) fun v => .pure v) (fun v => only_loadCells a n (i + 1) _)
theorem only_loadAt (t : TypeId) (a : Addr) : OnlyLoads a.block (Instr.loadAt t (.pointer (some a))) := by
  show OnlyLoads a.block (loadVar t a)
  unfold loadVar
  refine OnlyLoads.bind (only_isAgg _ t) (fun b => ?_)
  cases b
  · exact .load rfl fun v => .pure v
  · refine OnlyLoads.bind (OnlyLoads.bind (only_typeInfo _ t) fun i => .pure _) (fun n => ?_)
    exact OnlyLoads.bind (only_loadCells a n 0 #[]) (fun c => .pure _)

theorem shape_agree {S S2 : AS} {r : Nat} (h : S2.heap.get r = S.heap.get r) : S2.shape? r = S.shape? r := by unfold AS.shape?; rw [h]

theorem aSlice_agree {t : TypeId} {x : Value} {lo hi : Option Value} {S S2 : AS} (h : ∀ id, topId x = some id → S2.heap.get id = S.heap.get id) : aSlice P t x lo hi S2 = aSlice P t x lo hi S := by
  unfold aSlice
  cases x with
  | slice a len cap =>
    cases a with
    | none => rfl
    | some a =>
      obtain ⟨b, o, sp⟩ := a
      cases sp with
      | none =>
        have hb : S2.heap.get b = S.heap.get b := h b (by simp [topId])
        cases hu : P.underlying t with
        | none => rfl
        | some d => cases d <;> first | rfl | (dsimp only; rw [hb])
      | some q =>
        cases P.underlying t with
        | none => rfl
        | some d => cases d <;> simp
  | _ => rfl

theorem load_read {t : TypeId} {v : Value} {S S2 : AS} (h : ∀ id, topId v = some id → S2.heap.get id = S.heap.get id) (hv : topId v ≠ none) {x : Value} {S' : AS} (e : ai P 0 (Instr.loadAt t v) S = some (x, S') ∨ ai P 0 (Instr.loadAt t v) S2 = some (x, S')) :
    ai P 0 (Instr.loadAt t v) S = some (x, S) ∧ ai P 0 (Instr.loadAt t v) S2 = some (x, S2) := by
  have bad : ∀ {h : Halt} {S : AS} {x : Value} {S' : AS}, ai P 0 ((Sem.halt h : Sem Addr).bind fun a => loadVar t a) S = some (x, S') → False := by
    intro h S x S' e; simp [Sem.bind, ai] at e
  unfold topId at hv
  split at hv
  · rename_i b o
    exact ai_loads (h b rfl) (only_loadAt t ⟨b, o, none⟩) e
  · rcases e with e | e <;> exact (bad e).elim
  · exact absurd rfl hv

/-- What only looks, looks alike in a store that agrees on the places that it is handed. -/
theorem evStruct_read {o : Oper} {ρ : Operand → Value} (hk : readKind o.op = true) {S S2 : AS} (h : ∀ x ∈ o.op.operands, ∀ id, topId (ρ x) = some id → S2.heap.get id = S.heap.get id) {x : Option Value} {S' : AS}
    (e : evStruct P o ρ S2 = some (x, S')) : S' = S2 ∧ evStruct P o ρ S = some (x, S) := by
  obtain ⟨dst, op, ty, pos, after, guard⟩ := o
  cases op with
  | load t a =>
    simp only [evStruct] at e ⊢
    cases ht : topId (ρ a) with
    | none => simp [ht] at e
    | some b =>
      simp only [ht] at e ⊢
      obtain ⟨y, hy, hz⟩ := mapR e
      cases hz
      obtain ⟨y1, y2⟩ := y
      obtain ⟨k1, k2⟩ := load_read (h a (by simp [Op.operands])) (by rw [ht]; simp) (.inr hy)
      rw [hy] at k2; cases k2
      exact ⟨rfl, by rw [k1]; rfl⟩
  | convert s d y =>
    simp only [evStruct] at e ⊢
    obtain ⟨v, hv, hz⟩ := mapR e
    cases hz
    have hh := h y (by simp [Op.operands])
    refine ⟨rfl, ?_⟩
    have : aConv P s d (ρ y) S = some v := by
      rw [← hv]
      unfold aConv
      cases hy : ρ y with
      | pointer a =>
        cases a with
        | none => rfl
        | some a =>
          obtain ⟨b, o, sp⟩ := a
          cases sp with
          | none => simp only [shape_agree (hh b (by simp [hy, topId]))]
          | some q => rfl
      | _ => rfl
    rw [this]; rfl
  | slice t y lo hi mx =>
    cases mx with
    | some _ => simp [readKind] at hk
    | none =>
      simp only [evStruct] at e ⊢
      obtain ⟨v, hv, hz⟩ := mapR e
      cases hz
      have hh := h y (by simp [Op.operands])
      refine ⟨rfl, ?_⟩
      have : aSlice P t (ρ y) (lo.map ρ) (hi.map ρ) S = some v := by
        rw [← hv, aSlice_agree hh]
      rw [this]; rfl
  | _ => simp [readKind] at hk

theorem evSimple_read {o : Oper} {ρ : Operand → Value} (hk : readKind o.op = true) {S S2 : AS} (h : ∀ x ∈ o.op.operands, ∀ id, topId (ρ x) = some id → S2.heap.get id = S.heap.get id) {x : Option Value} {S' : AS}
    (e : evSimple P o ρ S2 = some (x, S')) : S' = S2 ∧ evSimple P o ρ S = some (x, S) := by
  unfold evSimple at e ⊢
  cases hs : evStruct P o ρ S2 with
  | some y =>
    simp only [hs, Option.some.injEq] at e
    subst e
    obtain ⟨h1, h2⟩ := evStruct_read hk h hs
    exact ⟨h1, by rw [h2]⟩
  | none =>
    have hn : evStruct P o ρ S = none := by
      cases h2 : evStruct P o ρ S with
      | none => rfl
      | some y => obtain ⟨y1, y2⟩ := y; rw [(evStruct_read hk (fun x hx id hid => (h x hx id hid).symm) h2).2] at hs; simp at hs
    simp only [hs] at e
    simp only [hn]
    cases hf : evFlat P o ρ with
    | some v => simp only [hf] at e ⊢; cases e; exact ⟨rfl, rfl⟩
    | none => simp [hf] at e

theorem evOp_read {r : Rec} {o : Oper} {f : Fr} (hk : readKind o.op = true) {S S2 : AS} (h : ∀ x ∈ o.op.operands, ∀ v id, f.val E.G x = some v → topId v = some id → S2.heap.get id = S.heap.get id) {v : Value} {S' : AS}
    (e : evOp P E r o f S2 = some (v, S')) : S' = S2 ∧ evOp P E r o f S = some (v, S) := by
  obtain ⟨dst, op, ty, pos, after, guard⟩ := o
  have hh : ∀ x ∈ op.operands, ∀ id, topId ((f.val E.G x).getD undef) = some id → S2.heap.get id = S.heap.get id := by
    intro x hx id hid
    cases hv : f.val E.G x with
    | none => rw [hv] at hid; simp [topId, undef] at hid
    | some u => rw [hv] at hid; exact h x hx u id hv hid
  cases op with
  | load t a =>
    simp only [evOp] at e ⊢
    split at e
    · rename_i vs hvs
      split at e
      · rename_i v1 S1 hs; cases e
        obtain ⟨rfl, h2⟩ := evSimple_read (o := ⟨dst, .load t a, ty, pos, after, guard⟩) hk hh hs
        exact ⟨rfl, by rw [h2]⟩
      · rename_i S1 hs; cases e
        obtain ⟨rfl, h2⟩ := evSimple_read (o := ⟨dst, .load t a, ty, pos, after, guard⟩) hk hh hs
        exact ⟨rfl, by rw [h2]⟩
      · simp at e
    · simp at e
  | convert s d y =>
    simp only [evOp] at e ⊢
    split at e
    · rename_i vs hvs
      split at e
      · rename_i v1 S1 hs; cases e
        obtain ⟨rfl, h2⟩ := evSimple_read (o := ⟨dst, .convert s d y, ty, pos, after, guard⟩) hk hh hs
        exact ⟨rfl, by rw [h2]⟩
      · rename_i S1 hs; cases e
        obtain ⟨rfl, h2⟩ := evSimple_read (o := ⟨dst, .convert s d y, ty, pos, after, guard⟩) hk hh hs
        exact ⟨rfl, by rw [h2]⟩
      · simp at e
    · simp at e
  | slice t y lo hi mx =>
    simp only [evOp] at e ⊢
    split at e
    · rename_i vs hvs
      split at e
      · rename_i v1 S1 hs; cases e
        obtain ⟨rfl, h2⟩ := evSimple_read (o := ⟨dst, .slice t y lo hi mx, ty, pos, after, guard⟩) hk hh hs
        exact ⟨rfl, by rw [h2]⟩
      · rename_i S1 hs; cases e
        obtain ⟨rfl, h2⟩ := evSimple_read (o := ⟨dst, .slice t y lo hi mx, ty, pos, after, guard⟩) hk hh hs
        exact ⟨rfl, by rw [h2]⟩
      · simp at e
    · simp at e
  | _ => simp [readKind] at hk

/-! ### Stores that agree -/
theorem okStep_of_agree {c : Bool} {S S2 : AS} (h : okStep E c S S2 = true) (hc : c = true) : Agree S S2 := by subst hc; exact E.same_ok _ _ h

/-! ### With the guard -/
theorem stepA_eq {r : Rec} {c : Bool} {ops : Array Oper} {o : Oper} {f : Fr} {S S' : AS} {v : Value} (hc : c = false) : stepA P E r c ops o f S = some (v, S') ↔ (guardA ops o f = some true ∧ evOp P E r o f S = some (v, S')) ∨ (guardA ops o f = some false ∧ v = undef ∧ S' = S) := by
  subst hc
  unfold stepA
  cases guardA ops o f with
  | none => simp
  | some b =>
    cases b
    · constructor
      · intro h; cases h; right; simp
      · rintro (⟨h, _⟩ | ⟨_, h1, h2⟩)
        · simp at h
        · subst h1; subst h2; rfl
    · cases evOp P E r o f S with
      | none => simp
      | some x => obtain ⟨x1, x2⟩ := x; simp [okStep]
theorem stepA_pure {r : Rec} {c : Bool} (hc : c = false) {ops : Array Oper} {o : Oper} {f : Fr} (hk : pureKind o.op = true) {S S' : AS} {v : Value} (e : stepA P E r c ops o f S = some (v, S')) : S' = S ∧ ∀ S2, stepA P E r c ops o f S2 = some (v, S2) := by
  rcases (stepA_eq hc).1 e with ⟨h1, h2⟩ | ⟨h1, h2, h3⟩
  · obtain ⟨k1, k2⟩ := evOp_pure hk h2
    exact ⟨k1, fun S2 => (stepA_eq hc).2 (.inl ⟨h1, k2 S2⟩)⟩
  · exact ⟨h3, fun S2 => (stepA_eq hc).2 (.inr ⟨h1, h2, rfl⟩)⟩
theorem stepA_read {r : Rec} {c : Bool} (hc : c = false) {ops : Array Oper} {o : Oper} {f : Fr} (hk : readKind o.op = true) {S S2 : AS} (h : ∀ x ∈ o.op.operands, ∀ v id, f.val E.G x = some v → topId v = some id → S2.heap.get id = S.heap.get id) {v : Value} {S' : AS}
    (e : stepA P E r c ops o f S2 = some (v, S')) : S' = S2 ∧ stepA P E r c ops o f S = some (v, S) := by
  rcases (stepA_eq hc).1 e with ⟨h1, h2⟩ | ⟨h1, h2, h3⟩
  · obtain ⟨k1, k2⟩ := evOp_read hk h h2
    exact ⟨k1, (stepA_eq hc).2 (.inl ⟨h1, k2⟩)⟩
  · exact ⟨h3, (stepA_eq hc).2 (.inr ⟨h1, h2, rfl⟩)⟩

theorem stepA_checked {r : Rec} {c : Bool} {ops : Array Oper} {o : Oper} {f : Fr} (hc : c = true) {S S' : AS} {v : Value} (e : stepA P E r c ops o f S = some (v, S')) : Agree S S' := by
  unfold stepA at e
  cases hg : guardA ops o f with
  | none => simp [hg] at e
  | some b =>
    cases b
    · simp only [hg] at e; cases e; exact ⟨Nat.le_refl _, fun _ _ => rfl⟩
    · simp only [hg] at e
      split at e
      · split at e
        · rename_i hk; cases e; exact okStep_of_agree hk hc
        · simp at e
      · simp at e
theorem stepA_agree {r : Rec} {c : Bool} {ops : Array Oper} {o : Oper} {f : Fr} (hk : (c = false ∧ readKind o.op = true) ∨ c = true) {S S' : AS} {v : Value} (e : stepA P E r c ops o f S = some (v, S')) : Agree S S' := by
  rcases hk with ⟨hc, hk⟩ | hc
  · obtain ⟨rfl, _⟩ := stepA_read hc hk (S := S) (fun _ _ _ _ _ _ => rfl) e
    exact ⟨Nat.le_refl _, fun _ _ => rfl⟩
  · exact stepA_checked hc e

theorem free2_spec {c c' : Bool} {ops : Array Oper} {p i : Oper} (h : free2 c c' ops p i = true) : (pureKind i.op = true ∨ pureKind p.op = true ∨ (readKind i.op = true ∧ (readKind p.op = true ∨ c = true)) ∨ (readKind p.op = true ∧ c' = true)) ∧
    (∀ d, i.dst = some d → d ∉ namesOf ops p) ∧ (∀ d, p.dst = some d → d ∉ namesOf ops i) := by
  unfold free2 at h
  simp only [Bool.and_eq_true, Bool.or_eq_true] at h
  obtain ⟨⟨h1, h2⟩, h3⟩ := h
  refine ⟨?_, fun d hd => ?_, fun d hd => ?_⟩
  · rcases h1 with ((h | h) | h) | h
    · exact .inl h
    · exact .inr (.inl h)
    · exact .inr (.inr (.inl h))
    · exact .inr (.inr (.inr h))
  · rw [hd] at h2; simpa using h2
  · rw [hd] at h3; simpa using h3

theorem callKind_not {o : Op} (h : callKind o = true) : pureKind o = false ∧ readKind o = false := by
  unfold callKind at h
  split at h
  · exact ⟨rfl, rfl⟩
  · simp at h
theorem topId_lt {B : Nat} {w0 : World} {σ : Sig} {S : AS} {w : World} (h : HR B w0 E.G σ S w) {v v' : Value} (hv : VR σ v v') {id : Nat} (e : topId v = some id) : id < S.next := by
  cases hv with
  | p h1 => simp [topId] at e; subst e; exact (h.dom _ _ h1).1
  | sl h1 _ _ _ => simp [topId] at e; subst e; exact (h.dom _ _ h1).1
  | _ => simp [topId] at e

/-- Frame and store stand to something of the model's. -/
def Stands (B : Nat) (w0 : World) (E : Env) (f : Fr) (S : AS) : Prop := ∃ σ w a, HR B w0 E.G σ S w ∧ FR σ f a
theorem Stands.ids {B : Nat} {w0 : World} {f : Fr} {S : AS} (h : Stands B w0 E f S) {x : Operand} {v : Value} {id : Nat} (hv : f.val E.G x = some v) (ht : topId v = some id) : id < S.next := by
  obtain ⟨σ, w, a, h, hf⟩ := h
  exact topId_lt h (val_ok h hf hv) ht
theorem Stands.step {B : Nat} {w0 : World} (hT : TabOk P) {r : Rec} {ops : Array Oper} {o : Oper} {f : Fr} {S S' : AS} {v : Value} (hk : pureKind o.op = true ∨ readKind o.op = true) (h : Stands B w0 E f S) (e0 : stepA P E r false ops o f S = some (v, S')) : Stands B w0 E (f.put o.dst v) S' := by
  obtain ⟨σ, w, a, h, hf⟩ := h
  rcases (stepA_eq rfl).1 e0 with ⟨_, e⟩ | ⟨_, rfl, rfl⟩
  · clear e0
    obtain ⟨dst, op, ty, pos, after, guard⟩ := o
    simp only at hk
    unfold evOp at e
    split at e
    · rename_i x he; simp only at he; subst he
      obtain ⟨y, hy, hz⟩ := mapR e
      obtain ⟨rfl, rfl⟩ := Prod.mk.inj hz
      exact ⟨σ, w, _, h, put_ok hf _ (val_ok h hf hy)⟩
    · rename_i x he; simp only at he; subst he
      obtain ⟨y, hy, hz⟩ := mapR e
      obtain ⟨rfl, rfl⟩ := Prod.mk.inj hz
      exact ⟨σ, w, _, h, put_ok hf _ (val_ok h hf hy)⟩
    · rename_i c x y he; simp only at he; subst he
      split at e
      · obtain ⟨z, hy, hz⟩ := mapR e
        obtain ⟨rfl, rfl⟩ := Prod.mk.inj hz
        exact ⟨σ, w, _, h, put_ok hf _ (val_ok h hf hy)⟩
      · obtain ⟨z, hy, hz⟩ := mapR e
        obtain ⟨rfl, rfl⟩ := Prod.mk.inj hz
        exact ⟨σ, w, _, h, put_ok hf _ (val_ok h hf hy)⟩
      · simp at e
    · rename_i g args at_ he; simp only at he; subst he
      simp [pureKind, readKind] at hk
    · rename_i op' h1 h2 h3 h4
      split at e
      · rename_i vs hvs
        have hρ : ∀ x ∈ op.operands, VR σ ((f.val E.G x).getD undef) (a.eval x) := by
          intro x hx
          obtain ⟨y, hy⟩ := vals_mem _ hvs x (by simpa using hx)
          rw [hy]; exact val_ok h hf hy
        split at e
        · rename_i v1 S1 hs
          simp only [Option.some.injEq, Prod.mk.injEq] at e
          obtain ⟨rfl, rfl⟩ := e
          obtain ⟨σ', w', k1, k2, v', k3, k4⟩ := evSimple_ok hT h (o := ⟨dst, op, ty, pos, after, guard⟩) (ρc := a.eval) hρ hs
          exact ⟨σ', w', _, k2, put_ok (hf.mono k1) _ k4⟩
        · rename_i S1 hs
          simp only [Option.some.injEq, Prod.mk.injEq] at e
          obtain ⟨rfl, rfl⟩ := e
          obtain ⟨σ', w', k1, k2, k3⟩ := evSimple_ok hT h (o := ⟨dst, op, ty, pos, after, guard⟩) (ρc := a.eval) hρ hs
          exact ⟨σ', w', _, k2, put_ok (hf.mono k1) _ (undef_ok _)⟩
        · simp at e
      · simp at e
  · exact ⟨σ, w, _, h, put_ok hf _ (undef_ok _)⟩

/-- AN OPERATION THAT NOTHING BEFORE IT SEES COMES FIRST. -/
theorem move_front {B : Nat} {w0 : World} (hT : TabOk P) {r : Rec} {cs : Nat → Bool} {ops : Array Oper} (hcs : ∀ p op, ops[p]? = some op → cs p = true → callKind op.op = true) {i : Nat} {o : Oper} (ho : ops[i]? = some o) (post : List Nat) : ∀ (pre : List Nat) {f f' : Fr} {S S' : AS},
    (∀ p ∈ pre, ∃ op, ops[p]? = some op ∧ free2 (cs p) (cs i) ops op o = true) → (cs i = true → Stands B w0 E f S) → (pureKind o.op = true ∨ cs i = true ∨ ∀ x ∈ o.op.operands, ∀ v id, f.val E.G x = some v → topId v = some id → id < S.next) → evOps P E r cs ops (pre ++ i :: post) f S = some (f', S') →
    ∃ v S1 f2, stepA P E r (cs i) ops o f S = some (v, S1) ∧ evOps P E r cs ops (pre ++ post) (f.put o.dst v) S1 = some (f2, S') ∧ f'.Eq f2
  | [], f, f', S, S', _, _, _, e => by
    rw [List.nil_append, evOps_cons ho] at e
    cases hs : stepA P E r (cs i) ops o f S with
    | none => simp [hs] at e
    | some x =>
      obtain ⟨v, S1⟩ := x
      simp only [hs] at e
      exact ⟨v, S1, f', rfl, e, Fr.Eq.refl _⟩
  | p :: pre, f, f', S, S', hp, hst, hid, e => by
    obtain ⟨op, hop, hfree⟩ := hp p (by simp)
    obtain ⟨hk, hd1, hd2⟩ := free2_spec hfree
    have ci : pureKind o.op = true ∨ readKind o.op = true → cs i = false := fun hh => by
      cases hx : cs i with
      | false => rfl
      | true => have := hcs i o ho hx; obtain ⟨n1, n2⟩ := callKind_not this; rcases hh with hh | hh <;> simp_all
    have cp : pureKind op.op = true ∨ readKind op.op = true → cs p = false := fun hh => by
      cases hx : cs p with
      | false => rfl
      | true => have := hcs p op hop hx; obtain ⟨n1, n2⟩ := callKind_not this; rcases hh with hh | hh <;> simp_all
    have ag : readKind op.op = true ∨ cs p = true → (cs p = false ∧ readKind op.op = true) ∨ cs p = true := fun hh => by
      rcases hh with hh | hh
      · exact .inl ⟨cp (.inr hh), hh⟩
      · exact .inr hh
    rw [List.cons_append, evOps_cons hop] at e
    cases hs : stepA P E r (cs p) ops op f S with
    | none => simp [hs] at e
    | some x =>
      obtain ⟨u, S2⟩ := x
      simp only [hs] at e
      have hlook : ∀ d, d ∈ o.looksAt ops → (f.put op.dst u).t.get d = f.t.get d := by
        intro d hd
        rw [put_get, if_neg]
        rintro ⟨h1, _⟩
        exact hd2 d h1 (by simp [namesOf, hd])
      have hlook2 : ∀ (v : Value) d, d ∈ op.looksAt ops → (f.put o.dst v).t.get d = f.t.get d := by
        intro v d hd
        rw [put_get, if_neg]
        rintro ⟨h1, _⟩
        exact hd1 d h1 (by simp [namesOf, hd])
      have hne : ∀ x, op.dst = some x → o.dst ≠ some x := by
        intro x hx hy
        exact hd1 x hy (by simp [namesOf, hx])
      have hid2 : pureKind o.op = true ∨ cs i = true ∨ ∀ x ∈ o.op.operands, ∀ v id, (f.put op.dst u).val E.G x = some v → topId v = some id → id < S2.next := by
        rcases hk with h | h | ⟨hq, h⟩ | ⟨_, h⟩
        · exact .inl h
        · rcases hid with hid | hid | hid
          · exact .inl hid
          · exact .inr (.inl hid)
          · refine .inr (.inr fun x hx v id hv ht => ?_)
            rw [(stepA_pure (cp (.inl h)) h hs).1]
            exact hid x hx v id (by rw [← val_of_looks hlook hx]; exact hv) ht
        · rcases hid with hid | hid | hid
          · exact .inl hid
          · exact .inr (.inl hid)
          · refine .inr (.inr fun x hx v id hv ht => ?_)
            exact Nat.lt_of_lt_of_le (hid x hx v id (by rw [← val_of_looks hlook hx]; exact hv) ht) (stepA_agree (ag h) hs).1
        · exact .inr (.inl h)
      have hst2 : cs i = true → Stands B w0 E (f.put op.dst u) S2 := fun hci => by
        have hpr : pureKind op.op = true ∨ readKind op.op = true := by
          obtain ⟨n1, n2⟩ := callKind_not (hcs i o ho hci)
          rcases hk with h | h | ⟨hq, h⟩ | ⟨h, _⟩
          · rw [n1] at h; cases h
          · exact .inl h
          · rw [n2] at hq; cases hq
          · exact .inr h
        rw [cp hpr] at hs
        exact (hst hci).step hT hpr hs
      obtain ⟨v, S3, f2, k1, k2, k3⟩ := move_front hT hcs ho post pre (fun q hq => hp q (List.mem_cons_of_mem _ hq)) hst2 hid2 e
      rw [stepA_congr hlook] at k1
      have key : ∃ S1, stepA P E r (cs i) ops o f S = some (v, S1) ∧ stepA P E r (cs p) ops op f S1 = some (u, S3) := by
        rcases hk with h | h | ⟨hq, h⟩ | ⟨hq, h⟩
        · obtain ⟨rfl, h2⟩ := stepA_pure (ci (.inl h)) h k1
          exact ⟨S, h2 S, hs⟩
        · obtain ⟨rfl, h2⟩ := stepA_pure (cp (.inl h)) h hs
          exact ⟨S3, k1, h2 S3⟩
        rotate_left
        · obtain ⟨rfl, _⟩ := stepA_read (cp (.inr hq)) hq (S := S) (fun _ _ _ _ _ _ => rfl) hs
          have hag := stepA_checked h k1
          exact ⟨S3, k1, (stepA_read (cp (.inr hq)) hq (fun x _ v id hv ht => (hag.2 id ((hst h).ids hv ht)).symm) hs).2⟩
        · by_cases hp : pureKind o.op = true
          · obtain ⟨rfl, h2⟩ := stepA_pure (ci (.inl hp)) hp k1
            exact ⟨S, h2 S, hs⟩
          · have hid : ∀ x ∈ o.op.operands, ∀ v id, f.val E.G x = some v → topId v = some id → id < S.next := by
              rcases hid with hid | hid | hid
              · exact absurd hid hp
              · rw [ci (.inr hq)] at hid; cases hid
              · exact hid
            obtain ⟨rfl, h2⟩ := stepA_read (ci (.inr hq)) hq (S := S) (fun x hx v id hv ht => (stepA_agree (ag h) hs).2 id (hid x hx v id hv ht)) k1
            exact ⟨S, h2, hs⟩
      obtain ⟨S1, q1, q2⟩ := key
      obtain ⟨f3, h3, h4⟩ := evOps_congr _ (put_comm f u v hne) k2
      refine ⟨v, S1, f3, q1, ?_, k3.trans h4⟩
      rw [List.cons_append, evOps_cons hop, stepA_congr (hlook2 v), q2]
      exact h3
end
end Go.Aev
