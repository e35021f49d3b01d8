/-
  A REFERENCE RUN, PART M: code, calls, rounds; the whole.
-/
import Derived.Test.YtecfjfhcoffhfaaGreatDoorAevL
import Derived.LoopNIn
set_option linter.unusedSimpArgs false
set_option linter.unusedVariables false
namespace Go.Aev
open Go Go.RowKit

section
variable {B : Nat} {w0 : World} {P : Program} {E : Env} {σ : Sig}

/-- A block that is no row of cells is replaced. -/
theorem HR.setObj {G : Nat} {S : AS} {w : World} (h : HR B w0 G σ S w) {id : Nat} {b b' : ABlk} {L : Loc} {o : Obj} (hg : S.heap.get id = some b) (hl : b.live = true) (hmu : b.mut = true) (hL : σ id = some L) (hB : B ≤ L.blk)
    (hnew : BR B σ { w with heap := w.heap.setIfInBounds L.blk o } id b') :
    HR B w0 G σ { S with heap := S.heap.set id (some b') } { w with heap := w.heap.setIfInBounds L.blk o } := by
  have same : ∀ k, k ≠ L.blk → (w.heap.setIfInBounds L.blk o)[k]? = w.heap[k]? := fun k hk => by rw [Array.getElem?_setIfInBounds, if_neg (Ne.symm hk)]
  refine ⟨h.below.trans ⟨rfl, rfl, rfl, by simp, fun k hk => same k (by omega)⟩, by simpa using h.hB, fun i M hM => by simpa using h.dom i M hM, ?_, ?_, h.glob⟩
  · intro i c hc
    simp only [T.get_set] at hc
    by_cases hi : i = id
    · rw [if_pos hi] at hc; cases hc; rw [hi]; exact hnew
    · rw [if_neg hi] at hc
      exact (h.blk i c hc).of_same (w' := { w with heap := w.heap.setIfInBounds L.blk o }) (fun hcl M hM => same _ fun eM => hi (h.inj i id c b M L hc hcl hg hl hM hL eM (by simp [hmu])))
  · intro i i' c c' M M' hc hcl hc' hcl' hM hM' e hm
    simp only [T.get_set] at hc hc'
    by_cases hi : i = id
    · by_cases hi' : i' = id
      · rw [hi, hi']
      · rw [if_neg hi'] at hc'
        subst hi
        exact h.inj _ _ _ _ M M' hg hl hc' hcl' hM hM' e (by simp [hmu])
    · rw [if_neg hi] at hc
      by_cases hi' : i' = id
      · subst hi'
        exact h.inj _ _ _ _ M M' hc hcl hg hl hM hM' e (by simp [hmu])
      · rw [if_neg hi'] at hc'
        exact h.inj _ _ _ _ M M' hc hcl hc' hcl' hM hM' e hm

theorem HR.loopOf {G : Nat} {S : AS} {w : World} (h : HR B w0 G σ S w) {l : Nat} {A : ALoop} (hg : S.heap.get l = some (.loop A)) : ∃ L l', σ l = some L ∧ B ≤ L.blk ∧ w.heap[L.blk]? = some (.loop l') ∧ l'.state = A.state ∧ l'.pending = A.pending ∧ l'.params = A.params ∧
      l'.assign = A.assign ∧ l'.body = A.body ∧ TR σ A.t A.m l'.tmps := h.blk _ _ hg

/-- The loop's record, turned. -/
theorem HR.setLoop {G : Nat} {S : AS} {w : World} (h : HR B w0 G σ S w) {l : Nat} {A : ALoop} (hg : S.heap.get l = some (.loop A)) {L : Loc} (hL : σ l = some L) {l' : Loop} (hw : w.heap[L.blk]? = some (.loop l')) (st : LoopState) (pe : Option Code) :
    HR B w0 G σ { S with heap := S.heap.set l (some (.loop { A with state := st, pending := pe })) } { w with heap := w.heap.setIfInBounds L.blk (.loop { l' with state := st, pending := pe }) } := by
  obtain ⟨L2, l2, k1, k2, k3, k4, k5, k6, k7, k8, k9⟩ := h.loopOf hg
  rw [hL] at k1; cases k1
  rw [hw] at k3; cases k3
  have hlt : L.blk < w.heap.size := (h.dom _ _ hL).2
  exact h.setObj hg rfl rfl hL k2 ⟨L, { l' with state := st, pending := pe }, hL, k2, by simp [hlt], rfl, rfl, k6, k7, k8, k9⟩

theorem run_getLoop {w : World} {r : Nat} {l : Loop} (h : w.heap[r]? = some (.loop l)) : (Instr.getLoop r).run P w = .ok l w := by
  simp [Instr.getLoop, getObj, Sem.run, h]

theorem run_endLoop {w : World} {r : Nat} {l : Loop} (h : w.heap[r]? = some (.loop l)) (hs : l.state ≠ .busy) :
    (Instr.endLoop r).run P w = .ok l.pending { w with heap := w.heap.setIfInBounds r (.loop { l with state := .exhausted }) } := by
  have hb : (l.state == LoopState.busy) = false := by cases hl : l.state <;> first | rfl | exact absurd hl hs
  simp [Instr.endLoop, Sem.run_bind, run_getLoop h, Result.andThen, hb, Go.setObj, Sem.run, h]
  exact fun hh => absurd hh hs

theorem run_endRound {w : World} {r : Nat} {l : Loop} (h : w.heap[r]? = some (.loop l)) (j : Option Code) :
    (Instr.endRound r j).run P w = .ok (.bool j.isNone) { w with heap := w.heap.setIfInBounds r (.loop { l with state := if j.isNone then .ready else .done, pending := j }) } := by
  simp [Instr.endRound, Sem.run_bind, run_getLoop h, Result.andThen, Go.setObj, Sem.run, h]

theorem run_beginRound {w : World} {r : Nat} {l : Loop} (h : w.heap[r]? = some (.loop l)) (hs : l.state = .ready) :
    (Instr.beginRound r).run P w = .ok () { w with heap := w.heap.setIfInBounds r (.loop { l with state := .busy }) } := by
  simp [Instr.beginRound, Sem.run_bind, run_getLoop h, Result.andThen, Go.setObj, Sem.run, h, hs]

theorem run_take {w : World} {r : Nat} (h : w.heap[r]? = some (.deferred (some []))) :
    (Instr.takeDeferred r).run P w = .ok [] { w with heap := w.heap.setIfInBounds r (.deferred none) } := by
  simp [Instr.takeDeferred, getObj, Sem.run, Go.setObj, h]

theorem run_yield {w : World} {r : Nat} {l : Loop} (h : w.heap[r]? = some (.loop l)) {args : Array Value} (hs : args.size = l.params.size) :
    (Instr.yield r args).run P w = .ok (.round r l.fn ((l.params.zip args).foldl (fun tmps (t, a) => tmps.setIfInBounds t a) l.tmps) l.assign l.body) w := by
  simp [Instr.yield, Sem.run_bind, run_getLoop h, Result.andThen, hs]

/-! ### What a call hands back -/
def resOf (a : Act) : ResultVar → Sem Value
  | .tmp t => pure (a.tmps.getD t undef)
  | .cell c t => do loadVar t (← asAddr (a.tmps.getD c undef))

theorem OnlyLoads.world {id : Nat} {α : Type} {s : Sem α} (h : OnlyLoads id s) : ∀ {w w' : World} {x : α}, s.run P w = .ok x w' → w' = w := by
  induction h with
  | pure a => intro w w' x e; simp [Sem.run] at e; exact e.2.symm
  | load h hk ih =>
    intro w w' x e
    simp only [Sem.run] at e
    split at e
    · exact ih _ e
    · split at e
      · exact ih _ e
      · simp at e
  | program hk ih => intro w w' x e; simp only [Sem.run] at e; exact ih _ e
  | halt h => intro w w' x e; simp [Sem.run] at e

theorem run_loadVar {S S' : AS} {w : World} (h : HR B w0 E.G σ S w) {a : Addr} (ha : a.spot = none) {v' : Value} (hv : VR σ (.pointer (some a)) v') {t : TypeId} {x : Value} (e : ai P 0 (loadVar t a) S = some (x, S')) :
    ∃ σ' a' x', σ.le σ' ∧ v' = .pointer (some a') ∧ (loadVar t a').run P w = .ok x' w ∧ VR σ' x x' ∧ HR B w0 E.G σ' S w := by
  cases hv with
  | p hL =>
    rename_i id off L
    have hS : ai P 0 (loadVar t ⟨id, off, none⟩) S = some (x, S) := (load_read (t := t) (v := .pointer (some ⟨id, off, none⟩)) (S := S) (S2 := S) (fun _ _ => rfl) (by simp [topId]) (.inl e)).1
    obtain ⟨σ', x', w', k1, k2, k3, k4⟩ := rs_loadVar (B := B) (w0 := w0) (G := E.G) (P := P) (sz := 0) t (σ₀ := σ) (a := ⟨id, off, none⟩) (a' := ⟨L.blk, L.off + off, none⟩) ⟨L, hL, rfl, rfl⟩ σ S w (Sig.le_refl _) h _ _ hS
    have hol : OnlyLoads L.blk (loadVar t ⟨L.blk, L.off + off, none⟩) := only_loadAt t ⟨L.blk, L.off + off, none⟩
    have hw : w' = w := hol.world (P := P) k2
    subst hw
    exact ⟨σ', _, x', k1, rfl, k2, k3, k4⟩

theorem run_mapM_results {S : AS} {f : Fr} {a : Act} {w : World} : ∀ (l : List ResultVar) {σ : Sig} {vs : List Value}, HR B w0 E.G σ S w → FR σ f a → resultsA P f S l = some vs →
    ∃ σ' vs', σ.le σ' ∧ HR B w0 E.G σ' S w ∧ (l.mapM (resOf a)).run P w = .ok vs' w ∧ vs.length = vs'.length ∧ ∀ (i : Nat) (v v' : Value), vs[i]? = some v → vs'[i]? = some v' → VR σ' v v'
  | [], σ, vs, h, hf, e => by
    simp only [resultsA, Option.some.injEq] at e
    subst e
    exact ⟨σ, [], Sig.le_refl _, h, rfl, rfl, fun i v v' h => by simp at h⟩
  | .tmp t :: l, σ, vs, h, hf, e => by
    simp only [resultsA] at e
    split at e
    · rename_i v us h1 h2
      simp only [Option.some.injEq] at e
      subst e
      obtain ⟨σ', us', k0, kh, k1, k2, k3⟩ := run_mapM_results l h hf h2
      obtain ⟨v', q1, q2⟩ := hf.2 t v h1
      refine ⟨σ', v' :: us', k0, kh, ?_, by simp [k2], fun i x x' hx hx' => ?_⟩
      · rw [List.mapM_cons]
        have : a.tmps.getD t undef = v' := by simp [Array.getD_eq_getD_getElem?, q1]
        have hv : resOf a (.tmp t) = pure v' := by rw [resOf, this]
        rw [hv]
        simp [Sem.run_bind, Result.andThen, k1]
      · cases i with
        | zero => simp at hx hx'; subst hx; subst hx'; exact q2.mono k0
        | succ i => exact k3 i x x' (by simpa using hx) (by simpa using hx')
    · simp at e
  | .cell c t :: l, σ, vs, h, hf, e => by
    simp only [resultsA] at e
    split at e
    · rename_i ad h1
      split at e
      · rename_i v S' us hsp hld h2
        simp only [Option.some.injEq] at e
        subst e
        obtain ⟨p', q1, q2⟩ := hf.2 c _ h1
        obtain ⟨σ1, a', v', r1, rfl, r3, r4, r5⟩ := run_loadVar h hsp q2 hld
        obtain ⟨σ', us', k0, kh, k1, k2, k3⟩ := run_mapM_results l r5 (hf.mono r1) h2
        refine ⟨σ', v' :: us', Sig.le_trans r1 k0, kh, ?_, by simp [k2], fun i x x' hx hx' => ?_⟩
        · rw [List.mapM_cons]
          have : a.tmps.getD c undef = .pointer (some a') := by simp [Array.getD_eq_getD_getElem?, q1]
          have hv : resOf a (.cell c t) = loadVar t a' := by rw [resOf, this]; rfl
          rw [hv]
          simp [Sem.run_bind, Result.andThen, k1, r3]
        · cases i with
          | zero => simp at hx hx'; subst hx; subst hx'; exact r4.mono k0
          | succ i => exact k3 i x x' (by simpa using hx) (by simpa using hx')
      · simp at e
    · simp at e

theorem run_results {S : AS} {f : Fr} {a : Act} {w : World} (h : HR B w0 E.G σ S w) (hf : FR σ f a) {fn : Func} {vs : List Value} (e : resultsA P f S fn.results.toList = some vs) :
    ∃ σ' vs', σ.le σ' ∧ HR B w0 E.G σ' S w ∧ (results fn a.tmps).run P w = .ok (if h : vs'.size = 1 then vs'[0] else .tuple vs') w ∧ AR σ' vs.toArray vs' := by
  obtain ⟨σ', vs', k0, kh, k1, k2, k3⟩ := run_mapM_results _ h hf e
  refine ⟨σ', vs'.toArray, k0, kh, ?_, AR.of_get (by simpa using k2) (fun i v v' h h' => k3 i v v' (by simpa using h) (by simpa using h'))⟩
  have : results fn a.tmps = (fn.results.mapM (resOf a) >>= fun vs => pure (if h : vs.size = 1 then vs[0] else .tuple vs)) := rfl
  rw [this, Array.mapM_eq_mapM_toList]
  simp only [map_eq_pure_bind, bind_assoc, pure_bind]
  simp [Sem.run_bind, Result.andThen, k1]
end
end Go.Aev
