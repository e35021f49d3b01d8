/-
  A REFERENCE RUN, PART I: that the model does what the run does: operations and regions.
-/
import Derived.Test.YtecfjfhcoffhfaaGreatDoorAevH
import Derived.RangeFuncLeaves
set_option linter.unusedSimpArgs false
set_option linter.unusedVariables false
namespace Go.Aev
open Go Go.RowKit

def WF (ro : Option Nat) : Fence := { Fence.wide with round := ro }
theorem WF_fn (ro : Option Nat) (f : FuncId) : (WF ro).fn f := trivial
theorem WF_depth (ro : Option Nat) : ((WF ro).depth.isSome = true → 1 ≤ 0) := fun h => by simp [WF, Fence.wide] at h

section
variable {B : Nat} {w0 : World} {P : Program} {E : Env} {σ : Sig}

/-- The temporaries stand to those of an activation. -/
def FR (σ : Sig) (f : Fr) (a : Act) : Prop := TR σ f.t f.m a.tmps
theorem FR.mono {σ τ : Sig} (hle : σ.le τ) {f : Fr} {a : Act} (h : FR σ f a) : FR τ f a := TR.mono hle h

theorem val_ok {S : AS} {w : World} (h : HR B w0 E.G σ S w) {f : Fr} {a : Act} (hf : FR σ f a) {x : Operand} {v : Value} (e : f.val E.G x = some v) : VR σ v (a.eval x) := by
  cases x with
  | tmp i =>
    obtain ⟨v', e', r⟩ := hf.2 i v e
    have : a.eval (.tmp i) = v' := by simp [Act.eval, Array.getD_eq_getD_getElem?, e']
    rw [this]; exact r
  | const c =>
    simp only [Fr.val] at e
    split at e
    · rename_i hs; cases e; exact selfB_spec _ _ _ hs
    · simp at e
  | global g =>
    simp only [Fr.val] at e
    split at e
    · rename_i hb
      have hb := Nat.le_of_ble_eq_true hb
      cases e
      obtain ⟨L, h1, h2, h3⟩ := h.glob g (by omega)
      have := VR.p (σ := σ) (off := 0) h1
      rw [h2, h3] at this
      exact this
    · simp at e
  | func k =>
    cases e
    exact .fn k rfl (fun i hi => by simp at hi) rfl (fun i hi => by simp at hi)

theorem put_ok {f : Fr} {a : Act} (hf : FR σ f a) (d : Option Tmp) {v v' : Value} (hv : VR σ v v') : FR σ (f.put d v) (a.put d v') := by
  cases d with
  | none => exact hf
  | some d =>
    unfold Fr.put Act.put
    dsimp only
    split
    · rename_i hb
      have hb := Nat.le_of_ble_eq_true hb
      refine ⟨by simpa using hf.1, fun i x e => ?_⟩
      simp only [T.get_set] at e
      by_cases hi : i = d
      · rw [if_pos hi] at e; cases e
        have hs : a.tmps.size = f.m := hf.1
        have : d < a.tmps.size := by rw [hs]; exact hb
        exact ⟨v', by simp [hi, this], hv⟩
      · rw [if_neg hi] at e
        obtain ⟨x', e', r⟩ := hf.2 i x e
        exact ⟨x', by simp only [Array.getElem?_setIfInBounds]; rw [if_neg (fun h => hi h.symm)]; exact e', r⟩
    · rename_i hb
      have hlt : ¬ d < a.tmps.size := by
        intro hd
        have hs : a.tmps.size = f.m := hf.1
        rw [Nat.ble_eq_true_of_le (show d + 1 ≤ f.m from hs ▸ hd)] at hb
        cases hb
      have : a.tmps.setIfInBounds d v' = a.tmps := by simp [Array.setIfInBounds, hlt]
      rw [this]
      exact hf

theorem undef_ok (σ : Sig) : VR σ undef undef := selfB_spec σ 8 _ (by decide)

theorem vals_ok {S : AS} {w : World} (h : HR B w0 E.G σ S w) {f : Fr} {a : Act} (hf : FR σ f a) : ∀ (l : List Operand) {vs : List Value}, vals f E.G l = some vs → AR σ vs.toArray (l.map a.eval).toArray
  | [], vs, e => by simp [vals] at e; subst e; exact AR.empty _
  | x :: l, vs, e => by
    simp only [vals] at e
    split at e
    · rename_i v hv
      split at e
      · rename_i vs' hvs
        cases e
        have h1 := AR.single (val_ok h hf hv)
        have h2 := vals_ok h hf l hvs
        have := h1.append h2
        simpa using this
      · simp at e
    · simp at e
theorem vals_mem {f : Fr} {G : Nat} : ∀ (l : List Operand) {vs : List Value}, vals f G l = some vs → ∀ x ∈ l, ∃ v, f.val G x = some v
  | [], _, _, x, hx => by simp at hx
  | y :: l, vs, e, x, hx => by
    simp only [vals] at e
    split at e
    · rename_i v hv
      split at e
      · rename_i vs' hvs
        rcases List.mem_cons.1 hx with rfl | hx
        · exact ⟨v, hv⟩
        · exact vals_mem l hvs x hx
      · simp at e
    · simp at e

/-! ### What is asked of the ways in which the run goes deeper -/
def CallOk (B : Nat) (w0 : World) (P : Program) (E : Env) (c : FuncId → Array Value → AS → Option (Value × AS)) : Prop :=
  ∀ k args S v S', c k args S = some (v, S') → ∀ σ w args', HR B w0 E.G σ S w → AR σ args args' →
    (E.orc k args S ≠ none ∧ ∃ σ' v' w', σ.le σ' ∧ (callFunc k args').run P w = .ok (.value v') w' ∧ VR σ' v v' ∧ HR B w0 E.G σ' S' w') ∨
    ((callFunc k args').run P w = .ok (.enter k args') w ∧ CallsIn Fence.wide 0 P k args' w (fun e w' => ∃ σ' v', σ.le σ' ∧ e = .returned v' ∧ VR σ' v v' ∧ HR B w0 E.G σ' S' w'))

def RoundOk (B : Nat) (w0 : World) (P : Program) (E : Env) (c : Nat → Array Value → AS → Option (Value × AS)) : Prop :=
  ∀ l args S v S', c l args S = some (v, S') → ∀ σ w args' L, HR B w0 E.G σ S w → AR σ args args' → σ l = some L →
    ∃ f tmps assign body, (Instr.yield L.blk args').run P w = .ok (.round L.blk f tmps assign body) w ∧
      RoundIn Fence.wide 0 P L.blk f tmps assign body w (fun e w' => ∃ σ' v', σ.le σ' ∧ e = .returned v' ∧ VR σ' v v' ∧ HR B w0 E.G σ' S' w')

inductive DR (σ : Sig) : List Nat → List Deferred → Prop
  | nil : DR σ [] []
  | cons {r : Nat} {L : Loc} {d : List Nat} {ds : List Deferred} (h : σ r = some L) (k : DR σ d ds) : DR σ (r :: d) ({ target := .collected L.blk, args := #[] } :: ds)
theorem DR.mono {σ τ : Sig} (hle : σ.le τ) {d : List Nat} {ds : List Deferred} (h : DR σ d ds) : DR τ d ds := by
  induction h with
  | nil => exact .nil
  | cons h _ ih => exact .cons (hle _ _ h) ih

def RoR (σ : Sig) : Option Nat → Option Nat → Prop
  | none, r => r = none
  | some l, r => ∃ L, σ l = some L ∧ r = some L.blk
theorem RoR.mono {σ τ : Sig} (hle : σ.le τ) {a b : Option Nat} (h : RoR σ a b) : RoR τ a b := by
  cases a with
  | none => exact h
  | some l => obtain ⟨L, h1, h2⟩ := h; exact ⟨L, hle _ _ h1, h2⟩

def X.toExit : X → Exit
  | .normal => .normal
  | .exit id => .exit id
  | .ret => .ret

/-- Behind a piece of code. -/
def Post (B : Nat) (w0 : World) (E : Env) (σ : Sig) (x : X) (s : St) : Exit → Act → World → Prop := fun e a w =>
  ∃ σ', σ.le σ' ∧ e = x.toExit ∧ FR σ' s.f a ∧ DR σ' s.d a.defers ∧ HR B w0 E.G σ' s.S w
theorem Post.mono {σ τ : Sig} (hle : σ.le τ) {x : X} {s : St} {e : Exit} {a : Act} {w : World} (h : Post B w0 E τ x s e a w) : Post B w0 E σ x s e a w :=
  let ⟨σ', h1, h2⟩ := h; ⟨σ', Sig.le_trans hle h1, h2⟩

def LoopOk (B : Nat) (w0 : World) (P : Program) (E : Env) (c : Option Nat → Code → St → Option (X × St)) : Prop :=
  ∀ ro code s x s', c ro code s = some (x, s') → ∃ m, ∀ σ w a roc, HR B w0 E.G σ s.S w → FR σ s.f a → DR σ s.d a.defers → RoR σ ro roc → Code.roundsIn (WF roc) 0 P code (Post B w0 E σ x s') m a w

structure RecOk (B : Nat) (w0 : World) (P : Program) (E : Env) (r : Rec) : Prop where
  call : CallOk B w0 P E r.call
  round : RoundOk B w0 P E r.round
  loop : LoopOk B w0 P E r.loop

/-! ### One operation -/
theorem guard_ok {ops : Array Oper} {o : Oper} {f : Fr} {a : Act} (hf : FR σ f a) {b : Bool} (e : guardA ops o f = some b) : Region.wanted o (yielded ops a.tmps) = b := by
  unfold guardA at e
  unfold Region.wanted
  split at e
  · rename_i hg; simp at e; subst e; simp [hg]
  · rename_i j want hg
    simp only [hg]
    split at e
    · simp at e
    · rename_i d hd
      split at e
      · rename_i b' hb
        obtain ⟨v', e', r⟩ := hf.2 d _ hb
        cases r
        simp only [Option.some.injEq] at e
        subst e
        simp [yielded, hd, e']
      · rename_i cs hb
        obtain ⟨v', e', r⟩ := hf.2 d _ hb
        cases r
        simp only [Option.some.injEq] at e
        subst e
        simp [yielded, hd, e']
      · simp at e

theorem wpIn_of_run {roc : Option Nat} {o : Oper} {a : Act} {w w' : World} {next : Act → World → Prop} {Q : Exit → Act → World → Prop} (hd : ∀ c, o.op ≠ .defer c) {n : Next} (h : (execOp a.eval o).run P w = .ok n w')
    (hn : o.uponIn (WF roc) 0 P a next Q (.ok n w')) : o.wpIn (WF roc) 0 P a w next Q := by
  refine ⟨fun f _ => WF_fn roc f, ?_⟩
  rw [Oper.semAt_eq _ _ _ hd, h]
  exact hn

set_option maxHeartbeats 1000000 in
theorem evOp_ok (hT : TabOk P) {r : Rec} (hr : RecOk B w0 P E r) {o : Oper} {f : Fr} {a : Act} {S S' : AS} {w : World} (h : HR B w0 E.G σ S w) (hf : FR σ f a) {v : Value} (e : evOp P E r o f S = some (v, S')) {roc : Option Nat}
    {next : Act → World → Prop} {Q : Exit → Act → World → Prop} (hn : ∀ σ' v' w', σ.le σ' → VR σ' v v' → HR B w0 E.G σ' S' w' → next (a.put o.dst v') w') : o.wpIn (WF roc) 0 P a w next Q := by
  obtain ⟨dst, op, ty, pos, after, guard⟩ := o
  unfold evOp at e
  split at e
  · rename_i x he; simp only at he; subst he
    obtain ⟨y, hy, hz⟩ := mapR e
    obtain ⟨rfl, rfl⟩ := Prod.mk.inj hz
    exact wpIn_of_run (by simp) (n := .value (a.eval x)) (w' := w) (by simp [execOp]) (hn σ _ w (Sig.le_refl _) (val_ok h hf hy) h)
  · rename_i x he; simp only at he; subst he
    obtain ⟨y, hy, hz⟩ := mapR e
    obtain ⟨rfl, rfl⟩ := Prod.mk.inj hz
    exact wpIn_of_run (by simp) (n := .value (a.eval x)) (w' := w) (by simp [execOp]) (hn σ _ w (Sig.le_refl _) (val_ok h hf hy) h)
  · rename_i c x y he; simp only at he; subst he
    split at e
    · rename_i hc
      obtain ⟨z, hy, hz⟩ := mapR e
      obtain ⟨rfl, rfl⟩ := Prod.mk.inj hz
      have hb := val_ok h hf hc
      have hc' : a.eval c = .bool true := by generalize a.eval c = q at hb; cases hb; rfl
      exact wpIn_of_run (by simp) (n := .value (a.eval x)) (w' := w) (by simp [execOp, hc', asBool]) (hn σ _ w (Sig.le_refl _) (val_ok h hf hy) h)
    · rename_i hc
      obtain ⟨z, hy, hz⟩ := mapR e
      obtain ⟨rfl, rfl⟩ := Prod.mk.inj hz
      have hb := val_ok h hf hc
      have hc' : a.eval c = .bool false := by generalize a.eval c = q at hb; cases hb; rfl
      exact wpIn_of_run (by simp) (n := .value (a.eval y)) (w' := w) (by simp [execOp, hc', asBool]) (hn σ _ w (Sig.le_refl _) (val_ok h hf hy) h)
    · simp at e
  · rename_i g args at_ he; simp only at he; subst he
    split at e
    · rename_i k cs ds vs hg hvs
      have hgv := val_ok h hf hg
      generalize hge : a.eval g = gv at hgv
      cases hgv with
      | @fn _ _ cs' _ ds' h1 h2 h3 h4 =>
      have hargs : AR σ (cs ++ vs.toArray ++ ds) (cs' ++ (args.map a.eval) ++ ds') := by
        have h2' := vals_ok h hf _ hvs
        have : (args.toList.map a.eval).toArray = args.map a.eval := by apply Array.ext'; simp
        rw [this] at h2'
        exact (AR.append ⟨h1, h2⟩ h2').append ⟨h3, h4⟩
      have hrun : (execOp a.eval ⟨dst, .call { callee := .value g, args, argTypes := at_ }, ty, pos, after, guard⟩).run P w = (callFunc k (cs' ++ (args.map a.eval) ++ ds')).run P w := by
        simp [execOp, resolve, Deferred.ofValue, invoke, hge]
      rcases hr.call k _ S v S' e σ w _ h hargs with ⟨_, σ', v', w', k1, k2, k3, k4⟩ | ⟨k1, k2⟩
      · exact wpIn_of_run (by simp) (n := .value v') (w' := w') (by rw [hrun]; exact k2) (hn σ' v' w' k1 k3 k4)
      · refine wpIn_of_run (by simp) (n := .enter k (cs' ++ (args.map a.eval) ++ ds')) (w' := w) (by rw [hrun]; exact k1) ?_
        refine ⟨WF_depth _, CallsIn.mono (F := WF roc) k2 ?_⟩
        rintro e w' ⟨σ', v', l1, rfl, l2, l3⟩
        exact hn σ' v' w' l1 l2 l3
    · rename_i l cs ds vs hg hvs
      have hgv := val_ok h hf hg
      generalize hge : a.eval g = gv at hgv
      split at e
      · rename_i hc1 hc2
        have hc1 := Array.toList_eq_nil_iff.1 hc1
        have hc2 := Array.toList_eq_nil_iff.1 hc2
        subst hc1; subst hc2
        cases hgv with
        | @yield _ L hL =>
        have hargs : AR σ vs.toArray (args.map a.eval) := by
          have h2' := vals_ok h hf _ hvs
          have : (args.toList.map a.eval).toArray = args.map a.eval := by apply Array.ext'; simp
          rw [this] at h2'
          exact h2'
        obtain ⟨fn, tmps, assign, body, k1, k2⟩ := hr.round l _ S v S' e σ w _ L h hargs hL
        refine wpIn_of_run (by simp) (n := .round L.blk fn tmps assign body) (w' := w) ?_ ?_
        · simp [execOp, resolve, Deferred.ofValue, invoke, hge]
          simpa using k1
        · refine ⟨WF_depth _, RoundIn.mono (F := WF roc) k2 ?_⟩
          rintro e w' ⟨σ', v', l1, rfl, l2, l3⟩
          exact hn σ' v' w' l1 l2 l3
      · simp at e
    · simp at e
  · rename_i op' h1 h2 h3 h4
    split at e
    · rename_i vs hvs
      have hρ : ∀ x ∈ op.operands, VR σ ((f.val E.G x).getD undef) (a.eval x) := by
        intro x hx
        obtain ⟨y, hy⟩ := vals_mem _ hvs x (by simpa using hx)
        rw [hy]; exact val_ok h hf hy
      have hdef : ∀ c, op ≠ .defer c := by
        intro c hc
        subst hc
        split at e
        · rename_i hs; simp [evSimple, evFlat, flatKind, evStruct] at hs
        · rename_i hs; simp [evSimple, evFlat, flatKind, evStruct] at hs
        · simp at e
      split at e
      · rename_i v1 S1 hs
        simp only [Option.some.injEq, Prod.mk.injEq] at e
        obtain ⟨rfl, rfl⟩ := e
        obtain ⟨σ', w', k1, k2, v', k3, k4⟩ := evSimple_ok hT h (o := ⟨dst, op, ty, pos, after, guard⟩) (ρc := a.eval) hρ hs
        exact wpIn_of_run hdef k3 (hn σ' v' w' k1 k4 k2)
      · rename_i S1 hs
        simp only [Option.some.injEq, Prod.mk.injEq] at e
        obtain ⟨rfl, rfl⟩ := e
        obtain ⟨σ', w', k1, k2, k3⟩ := evSimple_ok hT h (o := ⟨dst, op, ty, pos, after, guard⟩) (ρc := a.eval) hρ hs
        exact wpIn_of_run hdef k3 (hn σ' undef w' k1 (undef_ok _) k2)
      · simp at e
    · simp at e

/-- A region in the text's order. -/
theorem evOps_ok (hT : TabOk P) {r : Rec} (hr : RecOk B w0 P E r) {cs : Nat → Bool} {ops : Array Oper} {roc : Option Nat} {Q : Exit → Act → World → Prop} : ∀ (l : List Nat) {σ : Sig} {f f' : Fr} {a : Act} {S S' : AS} {w : World}, HR B w0 E.G σ S w → FR σ f a →
    evOps P E r cs ops l f S = some (f', S') → (∀ σ' a' w', σ.le σ' → FR σ' f' a' → a'.defers = a.defers → HR B w0 E.G σ' S' w' → Q .normal a' w') → wpOpsIn (WF roc) 0 P ops Q l a w
  | [], σ, f, f', a, S, S', w, h, hf, e, hQ => by
    simp only [evOps, Option.some.injEq, Prod.mk.injEq] at e
    obtain ⟨rfl, rfl⟩ := e
    exact hQ σ a w (Sig.le_refl _) hf rfl h
  | i :: l, σ, f, f', a, S, S', w, h, hf, e, hQ => by
    simp only [evOps] at e
    simp only [wpOpsIn]
    split at e
    · rename_i ho
      simp only [ho]
      exact evOps_ok hT hr l h hf e hQ
    · rename_i o ho
      simp only [ho]
      split at e
      · rename_i hg
        rw [guard_ok hf hg]
        split at e
        · rename_i v S1 he
          split at e
          case h_2 => simp at e
          simp only [if_true]
          refine evOp_ok hT hr h hf he (fun σ' v' w' k1 k2 k3 => ?_)
          have hput : (a.put o.dst v').defers = a.defers := by cases o.dst <;> rfl
          refine evOps_ok hT hr l k3 (put_ok (hf.mono k1) o.dst k2) e (fun σ2 a2 w2 q1 q2 q3 q4 => hQ σ2 a2 w2 (Sig.le_trans k1 q1) q2 (q3.trans hput) q4)
        · simp at e
      · rename_i hg
        rw [guard_ok hf hg]
        simp only [Bool.false_eq_true, if_false]
        have hput : (a.put o.dst undef).defers = a.defers := by cases o.dst <;> rfl
        exact ⟨fun f _ => WF_fn _ f, evOps_ok hT hr l h (put_ok hf o.dst (undef_ok _)) e (fun σ2 a2 w2 q1 q2 q3 q4 => hQ σ2 a2 w2 q1 q2 (q3.trans hput) q4)⟩
      · simp at e
end
end Go.Aev
