/-
  A REFERENCE RUN, PART N: code, calls, rounds; the whole.
-/
import Derived.Test.YtecfjfhcoffhfaaGreatDoorAevM
set_option linter.unusedSimpArgs false
set_option linter.unusedVariables false
namespace Go.Aev
open Go Go.RowKit

section
variable {B : Nat} {w0 : World} {P : Program} {E : Env} {σ : Sig}

theorem roundsIn_mono {F : Fence} {n : Nat} {c : Code} {Q Q' : Exit → Act → World → Prop} (hq : ∀ e a w, Q e a w → Q' e a w) : ∀ (m : Nat) {a : Act} {w : World}, Code.roundsIn F n P c Q m a w → Code.roundsIn F n P c Q' m a w
  | 0, _, _, h => h
  | m + 1, a, w, h => wpIn_mono h fun e a w k => by
    cases e <;> first | exact roundsIn_mono hq m k | exact hq _ _ _ k

theorem then_of_post {K : Act → World → Prop} {Q : Exit → Act → World → Prop} {x : X} {s : St} {e : Exit} {a : Act} {w : World} (h : Post B w0 E σ x s e a w)
    (hn : x = .normal → Post B w0 E σ .normal s .normal a w → K a w) (hx : x ≠ .normal → Post B w0 E σ x s e a w → Q e a w) : Exit.then K Q e a w := by
  have h' := h
  obtain ⟨σ', h1, rfl, h3⟩ := h
  cases x with
  | normal => exact hn rfl h'
  | exit id => exact hx (by simp) h'
  | ret => exact hx (by simp) h'

theorem around_ok {ro : Option Nat} {s : St} {S1 : AS} {d1 : List Nat} (e : around ro s = some (S1, d1)) {w : World} {a : Act} {roc : Option Nat} (h : HR B w0 E.G σ s.S w) (hf : FR σ s.f a) (hd : DR σ s.d a.defers) (hro : RoR σ ro roc)
    (fn : FuncId) (ps : Array Tmp) (assign body : Code) : ∃ σ' mark w1 blk, σ.le σ' ∧ DR σ' d1 (mark ++ a.defers) ∧ HR B w0 E.G σ' S1 w1 ∧
      (Instr.enterLoop fn a.tmps ps assign body roc).run P w = .ok (w1.heap.size, mark) { w1 with heap := w1.heap.push (.loop { state := .ready, pending := none, fn, tmps := a.tmps, params := ps, assign, body, defers := blk }) } := by
  unfold around at e
  cases ro with
  | none =>
    simp only [RoR] at hro
    subst hro
    simp only [Option.some.injEq, Prod.mk.injEq] at e
    obtain ⟨rfl, rfl⟩ := e
    refine ⟨σ.more s.S.next ⟨w.heap.size, 0, 0, 0⟩, [{ target := .collected w.heap.size, args := #[] }], { w with heap := w.heap.push (.deferred (some [])) }, w.heap.size, Sig.more_le h.fresh, ?_, ?_, ?_⟩
    · exact .cons (L := ⟨w.heap.size, 0, 0, 0⟩) (Sig.more_self _ _ _) (hd.mono (Sig.more_le h.fresh))
    · exact h.push rfl ⟨_, Sig.more_self _ _ _, h.hB, by simp⟩
    · simp [Instr.enterLoop, newObj, Sem.run]
      rfl
  | some l =>
    obtain ⟨L, hL, rfl⟩ := hro
    simp only at e
    split at e
    · rename_i A hg
      simp only [Option.some.injEq, Prod.mk.injEq] at e
      obtain ⟨rfl, rfl⟩ := e
      obtain ⟨L2, l2, k1, k2, k3, k4⟩ := h.loopOf hg
      rw [hL] at k1; cases k1
      refine ⟨σ, [], w, l2.defers, Sig.le_refl _, hd, h, ?_⟩
      simp [Instr.enterLoop, newObj, Sem.run_bind, run_getLoop k3, Result.andThen, Sem.run]
    · simp at e

theorem jump_post {F : Fence} {n : Nat} {j : Option Code} {x : X} (hj : jumpOf j = some x) {Q : Exit → Act → World → Prop} {a : Act} {w : World} (h : Q x.toExit a w) :
    (match (generalizing := false) j with
     | none => Q .normal a w
     | some c => c.wpIn F n P Q a w) := by
  unfold jumpOf at hj
  split at hj
  · cases hj; exact h
  · cases hj; exact wpIn_exit h
  · cases hj; exact wpIn_ret h
  · simp at hj

theorem range_enter {roc : Option Nat} {g : Operand} {ps : Array Tmp} {assign body : Code} {Q : Exit → Act → World → Prop} {a : Act} {w : World} {k : FuncId} {cs ds : Array Value} (hge : a.eval g = .func (.func k) cs ds)
    (h : ∀ fn, ∃ l mark w1, (Instr.enterLoop fn a.tmps ps assign body roc).run P w = .ok (l, mark) w1 ∧
      (callFunc k (cs ++ #[.func (.yield l) #[] #[]] ++ ds)).run P w1 = .ok (.enter k (cs ++ #[.func (.yield l) #[] #[]] ++ ds)) w1 ∧
      CallsIn (WF roc) 0 P k (cs ++ #[.func (.yield l) #[] #[]] ++ ds) w1 (rangePost (WF roc) 0 P l Q { a with defers := mark ++ a.defers })) :
    (Code.rangeFunc g ps assign body).wpIn (WF roc) 0 P Q a w := by
  refine wpIn_rangeFunc fun fn _ => ?_
  obtain ⟨l, mark, w1, h1, h2, h3⟩ := h fn
  have hcv : ∀ v, a.eval (.const v) = v := fun _ => rfl
  have hres : (resolve a.eval (rangeCall g l) 0).run P w1 = .ok ⟨.fn (.func k) ds, cs ++ #[.func (.yield l) #[] #[]]⟩ w1 := by
    simp [resolve, Deferred.ofValue, hge, rangeCall, hcv]
  have hinv : (invoke (.fn (.func k) ds) (cs ++ #[.func (.yield l) #[] #[]])).run P w1 = .ok (.enter k (cs ++ #[.func (.yield l) #[] #[]] ++ ds)) w1 := h2
  exact ⟨l, mark, w1, _, w1, k, _, w1, h1, hres, fun _ _ => WF_fn _ _, hinv, WF_depth _, h3⟩

set_option maxHeartbeats 1000000 in
theorem evCode_ok (hT : TabOk P) (hm : P.follows .mixedOrders = true) {r : Rec} (hr : RecOk B w0 P E r) {ro : Option Nat} : ∀ (c : Code) {s s' : St} {x : X}, evCode P E r ro c s = some (x, s') →
    ∀ {σ : Sig} {w : World} {a : Act} {roc : Option Nat}, HR B w0 E.G σ s.S w → FR σ s.f a → DR σ s.d a.defers → RoR σ ro roc → c.wpIn (WF roc) 0 P (Post B w0 E σ x s') a w := by
  intro c
  induction c with
  | skip =>
    intro s s' x e σ w a roc h hf hd hro
    simp only [evCode, Option.some.injEq, Prod.mk.injEq] at e
    obtain ⟨rfl, rfl⟩ := e
    exact wpIn_skip ⟨σ, Sig.le_refl _, rfl, hf, hd, h⟩
  | label l =>
    intro s s' x e σ w a roc h hf hd hro
    simp only [evCode, Option.some.injEq, Prod.mk.injEq] at e
    obtain ⟨rfl, rfl⟩ := e
    exact wpIn_label ⟨σ, Sig.le_refl _, rfl, hf, hd, h⟩
  | ret =>
    intro s s' x e σ w a roc h hf hd hro
    simp only [evCode, Option.some.injEq, Prod.mk.injEq] at e
    obtain ⟨rfl, rfl⟩ := e
    exact wpIn_ret ⟨σ, Sig.le_refl _, rfl, hf, hd, h⟩
  | exit id =>
    intro s s' x e σ w a roc h hf hd hro
    simp only [evCode, Option.some.injEq, Prod.mk.injEq] at e
    obtain ⟨rfl, rfl⟩ := e
    exact wpIn_exit ⟨σ, Sig.le_refl _, rfl, hf, hd, h⟩
  | goto l => intro s s' x e; simp [evCode] at e
  | seq c1 c2 ih1 ih2 =>
    intro s s' x e σ w a roc h hf hd hro
    simp only [evCode] at e
    cases h1 : evCode P E r ro c1 s with
    | none => simp [h1] at e
    | some y =>
      obtain ⟨x1, s1⟩ := y
      refine wpIn_seq (wpIn_mono (ih1 h1 h hf hd hro) fun e1 a1 w1 hp => then_of_post hp (fun hx hp => ?_) (fun hx hp => ?_))
      · subst hx
        simp only [h1] at e
        obtain ⟨σ1, k1, _, k3, k4, k5⟩ := hp
        exact wpIn_mono (ih2 e k5 k3 k4 (hro.mono k1)) fun _ _ _ hp => hp.mono k1
      · cases x1 with
        | normal => exact absurd rfl hx
        | exit id => simp only [h1, Option.some.injEq, Prod.mk.injEq] at e; obtain ⟨rfl, rfl⟩ := e; exact hp
        | ret => simp only [h1, Option.some.injEq, Prod.mk.injEq] at e; obtain ⟨rfl, rfl⟩ := e; exact hp
  | cond c c1 c2 ih1 ih2 =>
    intro s s' x e σ w a roc h hf hd hro
    simp only [evCode] at e
    split at e
    · rename_i hc
      have hb := val_ok h hf hc
      have hc' : a.eval c = .bool true := by generalize a.eval c = q at hb; cases hb; rfl
      exact wpIn_cond_true hc' (ih1 e h hf hd hro)
    · rename_i hc
      have hb := val_ok h hf hc
      have hc' : a.eval c = .bool false := by generalize a.eval c = q at hb; cases hb; rfl
      exact wpIn_cond_false hc' (ih2 e h hf hd hro)
    · simp at e
  | block id c ih =>
    intro s s' x e σ w a roc h hf hd hro
    simp only [evCode] at e
    cases h1 : evCode P E r ro c s with
    | none => simp [h1] at e
    | some y =>
      obtain ⟨x1, s1⟩ := y
      refine wpIn_block (wpIn_mono (ih h1 h hf hd hro) fun e1 a1 w1 hp => ?_)
      have hp' := hp
      obtain ⟨σ1, k1, rfl, k3⟩ := hp
      cases x1 with
      | normal => simp only [h1, Option.some.injEq, Prod.mk.injEq] at e; obtain ⟨rfl, rfl⟩ := e; exact hp'
      | ret => simp only [h1, Option.some.injEq, Prod.mk.injEq] at e; obtain ⟨rfl, rfl⟩ := e; exact hp'
      | exit k =>
        simp only [h1] at e
        show if k = id then Post B w0 E σ x s' .normal a1 w1 else Post B w0 E σ x s' (.exit k) a1 w1
        split at e
        · rename_i hk
          have hk := Nat.eq_of_beq_eq_true hk
          simp only [Option.some.injEq, Prod.mk.injEq] at e; obtain ⟨rfl, rfl⟩ := e
          rw [if_pos hk]
          exact ⟨σ1, k1, rfl, k3⟩
        · rename_i hk
          have hk := Nat.ne_of_beq_eq_false hk
          simp only [Option.some.injEq, Prod.mk.injEq] at e; obtain ⟨rfl, rfl⟩ := e
          rw [if_neg hk]
          exact hp'
  | loop c ih =>
    intro s s' x e σ w a roc h hf hd hro
    simp only [evCode] at e
    obtain ⟨m, k⟩ := hr.loop _ _ _ _ _ e
    exact wpIn_loop_rounds m (k σ w a roc h hf hd hro)
  | region id ops draw =>
    intro s s' x e σ w a roc h hf hd hro
    cases draw with
    | false =>
      simp only [evCode] at e
      obtain ⟨y, hy, hz⟩ := mapR e
      obtain ⟨f', S'⟩ := y
      cases hz
      exact wpIn_region (evOps_ok hT hr _ h hf hy fun σ' a' w' k1 k2 k3 k4 => ⟨σ', k1, rfl, k2, by rw [k3]; exact hd.mono k1, k4⟩)
    | true =>
      simp only [evCode] at e
      split at e
      · rename_i hdr
        obtain ⟨y, hy, hz⟩ := mapR e
        obtain ⟨f', S'⟩ := y
        cases hz
        exact draw_ok hT hm hr hdr h.drew hf hy fun σ' a' w' k1 k2 k3 k4 => ⟨σ', k1, rfl, k2, by rw [k3]; exact hd.mono k1, k4⟩
      · simp at e
  | rangeFunc g ps assign body ih1 ih2 =>
    intro s s' x e σ w a roc h hf hd hro
    simp only [evCode] at e
    cases hAr : around ro s with
    | none => simp [hAr] at e
    | some y =>
    obtain ⟨S1, d1⟩ := y
    simp only [hAr] at e
    split at e
    · rename_i k cs ds hg
      split at e
      · rename_i v1 rv S3 ho hcall
        split at e
        · rename_i L hL
          have hgv := val_ok h hf hg
          generalize hge : a.eval g = gv at hgv
          cases hgv with
          | @fn _ _ cs' _ ds' p1 p2 p3 p4 =>
          refine range_enter hge fun fn => ?_
          obtain ⟨σ1, mark, w1, blk, k1, k2, k3, k4⟩ := around_ok (P := P) hAr h hf hd hro fn ps assign body
          have hle2 : σ1.le (σ1.more S1.next ⟨w1.heap.size, 0, 0, 0⟩) := Sig.more_le k3.fresh
          have hle : σ.le (σ1.more S1.next ⟨w1.heap.size, 0, 0, 0⟩) := Sig.le_trans k1 hle2
          have h2 := k3.push (L := ⟨w1.heap.size, 0, 0, 0⟩) rfl (o := .loop { state := .ready, pending := none, fn, tmps := a.tmps, params := ps, assign, body, defers := blk })
            (b := .loop { state := .ready, pending := none, t := s.f.t, m := s.f.m, params := ps, assign, body }) ⟨_, { state := .ready, pending := none, fn, tmps := a.tmps, params := ps, assign, body, defers := blk }, Sig.more_self _ _ _, k3.hB, by simp, rfl, rfl, rfl, rfl, rfl, hf.mono hle⟩
          have hargs : AR (σ1.more S1.next ⟨w1.heap.size, 0, 0, 0⟩) (cs ++ #[.func (.yield S1.next) #[] #[]] ++ ds) (cs' ++ #[.func (.yield w1.heap.size) #[] #[]] ++ ds') := by
            have a1 : AR (σ1.more S1.next ⟨w1.heap.size, 0, 0, 0⟩) cs cs' := ⟨p1, fun i hi => (p2 i hi).mono hle⟩
            have a2 : AR (σ1.more S1.next ⟨w1.heap.size, 0, 0, 0⟩) ds ds' := ⟨p3, fun i hi => (p4 i hi).mono hle⟩
            exact (a1.append (AR.single (.yield (L := ⟨w1.heap.size, 0, 0, 0⟩) (Sig.more_self _ _ _)))).append a2
          rcases hr.call _ _ _ _ _ hcall _ _ _ h2 hargs with ⟨hne, _⟩ | ⟨q1, q2⟩
          · exact absurd ho hne
          · refine ⟨w1.heap.size, mark, _, k4, q1, CallsIn.mono (F := WF roc) q2 ?_⟩
            · rintro e1 w3 ⟨σ3, v', l1, rfl, l2, l3⟩
              obtain ⟨Lc, l', m1, m2, m3, m4, m5, m6, m7, m8, m9⟩ := l3.loopOf hL
              have hlc := l1 _ _ (Sig.more_self σ1 S1.next ⟨w1.heap.size, 0, 0, 0⟩)
              rw [m1] at hlc; cases hlc
              have hle3 : σ.le σ3 := Sig.le_trans hle l1
              have hf3 : FR σ3 s.f { a with defers := mark ++ a.defers } := hf.mono hle3
              have hd3 : DR σ3 d1 (mark ++ a.defers) := k2.mono (Sig.le_trans hle2 l1)
              have hb : L.state ≠ .busy ∧ ∃ x', jumpOf L.pending = some x' ∧ x = x' ∧ s' = { s with d := d1, S := { S3 with heap := S3.heap.set S1.next (some .gone) } } := by
                split at e
                · simp at e
                · rename_i hj hb
                  simp only [Option.some.injEq, Prod.mk.injEq] at e
                  exact ⟨hb, _, hj, e.1.symm, e.2.symm⟩
                · simp at e
              obtain ⟨hb, x', hj, rfl, rfl⟩ := hb
              refine ⟨_, _, run_endLoop m3 (by rw [m4]; exact hb), ?_⟩
              have hset' : HR B w0 E.G σ3 { S3 with heap := S3.heap.set S1.next (some .gone) } { w3 with heap := w3.heap.setIfInBounds w1.heap.size (.loop { l' with state := .exhausted }) } :=
                l3.setObj hL rfl rfl m1 m2 (b' := .gone) trivial
              have hj' : jumpOf l'.pending = some x := by rw [m5]; exact hj
              have hpost : Post B w0 E σ x { s with d := d1, S := { S3 with heap := S3.heap.set S1.next (some .gone) } } x.toExit { a with defers := mark ++ a.defers } { w3 with heap := w3.heap.setIfInBounds w1.heap.size (.loop { l' with state := .exhausted }) } :=
                ⟨σ3, hle3, rfl, hf3, hd3, hset'⟩
              exact jump_post hj' (Q := Post B w0 E σ x { s with d := d1, S := { S3 with heap := S3.heap.set S1.next (some .gone) } }) hpost
        · simp at e
      · simp at e
    · simp at e
  | _ => intro s s' x e; simp [evCode] at e
end
end Go.Aev
