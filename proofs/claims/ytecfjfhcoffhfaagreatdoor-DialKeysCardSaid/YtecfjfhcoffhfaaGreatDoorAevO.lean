/-
  A REFERENCE RUN, PART O: loops, calls, rounds; the whole.
-/
import Derived.Test.YtecfjfhcoffhfaaGreatDoorAevN
set_option linter.unusedSimpArgs false
set_option linter.unusedVariables false
namespace Go.Aev
open Go Go.RowKit

section
variable {B : Nat} {w0 : World} {P : Program} {E : Env} {σ : Sig}

theorem evLoop_ok (hT : TabOk P) (hm : P.follows .mixedOrders = true) {r : Rec} (hr : RecOk B w0 P E r) : LoopOk B w0 P E (evLoop P E r) := by
  intro ro c s x s' e
  unfold evLoop at e
  cases h1 : evCode P E r ro c s with
  | none => simp [h1] at e
  | some y =>
    obtain ⟨x1, s1⟩ := y
    cases x1 with
    | normal =>
      simp only [h1] at e
      obtain ⟨m, k⟩ := hr.loop _ _ _ _ _ e
      refine ⟨m + 1, fun σ w a roc h hf hd hro => wpIn_mono (evCode_ok hT hm hr c h1 h hf hd hro) fun e1 a1 w1 hp => then_of_post hp (fun _ hp => ?_) (fun hx _ => absurd rfl hx)⟩
      obtain ⟨σ1, k1, _, k3, k4, k5⟩ := hp
      exact roundsIn_mono (fun _ _ _ hp => hp.mono k1) m (k σ1 w1 a1 roc k5 k3 k4 (hro.mono k1))
    | exit id =>
      simp only [h1, Option.some.injEq, Prod.mk.injEq] at e
      obtain ⟨rfl, rfl⟩ := e
      exact ⟨1, fun σ w a roc h hf hd hro => wpIn_mono (evCode_ok hT hm hr c h1 h hf hd hro) fun e1 a1 w1 hp => then_of_post hp (fun hx => by cases hx) (fun _ hp => hp)⟩
    | ret =>
      simp only [h1, Option.some.injEq, Prod.mk.injEq] at e
      obtain ⟨rfl, rfl⟩ := e
      exact ⟨1, fun σ w a roc h hf hd hro => wpIn_mono (evCode_ok hT hm hr c h1 h hf hd hro) fun e1 a1 w1 hp => then_of_post hp (fun hx => by cases hx) (fun _ hp => hp)⟩

/-! ### Calls -/
theorem setArgs_get : ∀ (vs : List Value) (i : Nat) (t : T Value) (j : Nat), (setArgs vs i t).get j = if i ≤ j ∧ j < i + vs.length then vs[j - i]? else t.get j
  | [], i, t, j => by simp [setArgs]; intro h1 h2; omega
  | v :: vs, i, t, j => by
    rw [setArgs, setArgs_get vs (i + 1) _ j, T.get_set]
    by_cases hj : j = i
    · subst hj
      rw [if_neg (by omega), if_pos rfl, if_pos (by simp)]
      simp
    · by_cases h1 : i + 1 ≤ j ∧ j < i + 1 + vs.length
      · rw [if_pos h1, if_pos (by simp; omega)]
        have : j - i = (j - (i + 1)) + 1 := by omega
        rw [this]; rfl
      · rw [if_neg h1, if_neg hj, if_neg (by simp; omega)]

theorem setArgs_ok {args args' : Array Value} (h : AR σ args args') (n : Nat) (ds : List Deferred) :
    FR σ { t := setArgs args.toList 0 .lf, m := args.size + (n - args.size) } { tmps := args' ++ Array.replicate (n - args'.size) undef, defers := ds } := by
  refine ⟨by simp [h.1], fun i v e => ?_⟩
  simp only [setArgs_get] at e
  split at e
  · rename_i hi
    simp only [Nat.sub_zero, Array.getElem?_toList] at e
    obtain ⟨v', e', r⟩ := h.get e
    have hlt := (Array.getElem?_eq_some_iff.1 e').1
    exact ⟨v', by simp only; rw [Array.getElem?_append_left hlt]; exact e', r⟩
  · simp [T.get] at e

theorem leaves_ok {f : Fr} {a : Act} {fn : Func} {R : Ending → World → Prop} {S' : AS} (hend : ∀ w', HR B w0 E.G σ S' w' → ∃ v, (results fn a.tmps).run P w' = .ok v w' ∧ R (.returned v) w') : ∀ {d : List Nat} {ds : List Deferred}, DR σ d ds → ∀ {S : AS} {w : World},
    HR B w0 E.G σ S w → takeAll d S = some S' → LeavesInM (WF none) 0 P fn a.tmps R ds .returning w := by
  intro d ds hd
  induction hd with
  | nil =>
    intro S w h e
    simp only [takeAll, Option.some.injEq] at e
    subst e
    exact hend w h
  | @cons r L d ds hL _ ih =>
    intro S w h e
    simp only [takeAll] at e
    split at e
    · rename_i hg
      obtain ⟨L2, k1, k2, k3⟩ := h.blk _ _ hg
      rw [hL] at k1; cases k1
      have hlt : L.blk < w.heap.size := (h.dom _ _ hL).2
      have hset := h.setObj hg rfl rfl hL k2 (o := .deferred none) (b' := .dfd false) ⟨L, hL, k2, by simp [hlt]⟩
      refine ⟨by simp, .inl ⟨L.blk, _, rfl, run_take (by simpa using k3), ih hset e⟩⟩
    · simp at e

def OrcOk (B : Nat) (w0 : World) (P : Program) (E : Env) : Prop := ∀ k args S v S', E.orc k args S = some (v, S') → ∀ σ w args', HR B w0 E.G σ S w → AR σ args args' →
    (∃ σ' v' w', σ.le σ' ∧ (callFunc k args').run P w = .ok (.value v') w' ∧ VR σ' v v' ∧ HR B w0 E.G σ' S' w') ∨
    ((callFunc k args').run P w = .ok (.enter k args') w ∧ CallsIn Fence.wide 0 P k args' w (fun e w' => ∃ σ' v', σ.le σ' ∧ e = .returned v' ∧ VR σ' v v' ∧ HR B w0 E.G σ' S' w'))

set_option maxHeartbeats 1000000 in
theorem evCall_ok (hT : TabOk P) (hm : P.follows .mixedOrders = true) (hO : OrcOk B w0 P E) {r : Rec} (hr : RecOk B w0 P E r) : CallOk B w0 P E (evCall P E r) := by
  intro k args S v S' e σ w args' h hargs
  unfold evCall at e
  cases ho : E.orc k args S with
  | some x =>
    simp only [ho] at e
    rw [e] at ho
    rcases hO k args S v S' ho σ w args' h hargs with hh | hh
    · exact .inl ⟨by simp, hh⟩
    · exact .inr hh
  | none =>
    simp only [ho] at e
    right
    · split at e
      · rename_i fn hfn
        split at e
        · rename_i c hc hname
          have hrun : (callFunc k args').run P w = .ok (.enter k args') w := by
            have hn : ¬ fn.name = "runtime.NumGoroutine" := by simpa using hname
            simp [callFunc, Go.program, Sem.run, hfn, hn, hc]
          refine ⟨hrun, ?_⟩
          have hbody : c.wpIn (WF none) 0 P (bodyPostM (WF none) 0 P fn (fun e w' => ∃ σ' v', σ.le σ' ∧ e = .returned v' ∧ VR σ' v v' ∧ HR B w0 E.G σ' S' w')) { tmps := args' ++ Array.replicate (fn.ntmps - args'.size) undef, defers := [] } w := by
            cases h1 : evCode P E r none c { f := { t := setArgs args.toList 0 .lf, m := args.size + (fn.ntmps - args.size) }, d := [], S } with
            | none => simp [h1] at e
            | some y =>
              obtain ⟨x, s'⟩ := y
              simp only [h1] at e
              have hx : (x = .normal ∨ x = .ret) ∧ ∃ S2 vs, takeAll s'.d s'.S = some S2 ∧ resultsA P s'.f S2 fn.results.toList = some vs ∧ S' = S2 ∧ ((∃ u, vs = [u] ∧ v = u) ∨ (vs.length ≠ 1 ∧ v = .tuple vs.toArray)) := by
                have main : (match takeAll s'.d s'.S with
                    | some S' =>
                      match resultsA P s'.f S' fn.results.toList with
                      | some [v] => some (v, S')
                      | some vs => some (.tuple vs.toArray, S')
                      | none => none
                    | none => none) = some (v, S') → ∃ S2 vs, takeAll s'.d s'.S = some S2 ∧ resultsA P s'.f S2 fn.results.toList = some vs ∧ S' = S2 ∧ ((∃ u, vs = [u] ∧ v = u) ∨ (vs.length ≠ 1 ∧ v = .tuple vs.toArray)) := by
                  intro e
                  split at e
                  · rename_i S2 k1
                    split at e
                    · rename_i u k2; simp only [Option.some.injEq, Prod.mk.injEq] at e; exact ⟨S2, [u], k1, k2, e.2.symm, .inl ⟨u, rfl, e.1.symm⟩⟩
                    · rename_i vs k2 k3
                      simp only [Option.some.injEq, Prod.mk.injEq] at e
                      refine ⟨S2, vs, k1, k3, e.2.symm, .inr ⟨fun hl => ?_, e.1.symm⟩⟩
                      obtain ⟨u, hu⟩ := List.length_eq_one_iff.1 hl
                      exact k2 u hu
                    · simp at e
                  · simp at e
                cases x with
                | normal => exact ⟨.inl rfl, main e⟩
                | ret => exact ⟨.inr rfl, main e⟩
                | exit id => simp at e
              obtain ⟨hx, S2, vs, t1, t2, rfl, t4⟩ := hx
              refine wpIn_mono (evCode_ok hT hm hr c h1 h (setArgs_ok hargs fn.ntmps []) .nil rfl) fun e1 a1 w1 hp => ?_
              obtain ⟨σ1, q1, rfl, q3, q4, q5⟩ := hp
              have hl : LeavesInM (WF none) 0 P fn a1.tmps (fun e w' => ∃ σ' v', σ.le σ' ∧ e = .returned v' ∧ VR σ' v v' ∧ HR B w0 E.G σ' S' w') a1.defers .returning w1 := by
                refine leaves_ok (f := s'.f) (fun w' hw => ?_) q4 q5 t1
                obtain ⟨σ2, vs', p0, ph, p1, p2⟩ := run_results (P := P) hw q3 t2
                refine ⟨_, p1, σ2, _, Sig.le_trans q1 p0, rfl, ?_, ph⟩
                rcases t4 with ⟨u, rfl, rfl⟩ | ⟨hlen, rfl⟩
                · have hs : vs'.size = 1 := by rw [← p2.1]; rfl
                  rw [dif_pos hs]
                  obtain ⟨z, hz, rz⟩ := p2.get (i := 0) (v := v) (by simp)
                  have : vs'[0] = z := by rw [Array.getElem?_eq_getElem (by omega)] at hz; exact Option.some.inj hz
                  rw [this]; exact rz
                · have hs : vs'.size ≠ 1 := by rw [← p2.1]; simpa using hlen
                  rw [dif_neg hs]
                  exact VR.tup_iff.2 ⟨_, rfl, p2⟩
              rcases hx with rfl | rfl
              · exact hl
              · exact hl
          exact callsIn_of_wp_marks (F := WF none) hfn hc trivial hbody
        · simp at e
      · simp at e

/-! ### Rounds -/
theorem setParams_ok : ∀ (l l' : List (Tmp × Value)) {f : Fr} {a : Act}, FR σ f a → l.length = l'.length → (∀ (i : Nat) (x x' : Tmp × Value), l[i]? = some x → l'[i]? = some x' → x.1 = x'.1 ∧ VR σ x.2 x'.2) →
    FR σ (setParams l f) { a with tmps := l'.foldl (fun tmps (t, v) => tmps.setIfInBounds t v) a.tmps }
  | [], [], f, a, h, _, _ => h
  | [], _ :: _, _, _, _, hl, _ => by simp at hl
  | _ :: _, [], _, _, _, hl, _ => by simp at hl
  | (t, v) :: l, (t', v') :: l', f, a, h, hl, hx => by
    obtain ⟨h1, h2⟩ := hx 0 (t, v) (t', v') rfl rfl
    simp only at h1 h2
    subst h1
    rw [setParams, List.foldl_cons]
    exact setParams_ok l l' (put_ok h (some t) h2) (by simpa using hl) (fun i x x' e e' => hx (i + 1) x x' (by simpa using e) (by simpa using e'))

theorem DR.nil_inv {ds : List Deferred} (h : DR σ [] ds) : ds = [] := by cases h; rfl

set_option maxHeartbeats 1000000 in
theorem evRound_ok (hT : TabOk P) (hm : P.follows .mixedOrders = true) {r : Rec} (hr : RecOk B w0 P E r) : RoundOk B w0 P E (evRound P E r) := by
  intro l args S v S' e σ w args' Lc h hargs hLc
  unfold evRound at e
  split at e
  · rename_i A hA
    split at e
    · simp at e
    · rename_i hsz
      have hsz := Nat.eq_of_beq_eq_true hsz
      obtain ⟨L2, l', k1, k2, k3, k4, k5, k6, k7, k8, k9⟩ := h.loopOf hA
      rw [hLc] at k1; cases k1
      have hs' : args'.size = l'.params.size := by rw [k6, ← hargs.1, hsz]
      refine ⟨l'.fn, _, l'.assign, l'.body, run_yield k3 hs', ?_⟩
      refine roundIn_of_wpIn (F := Fence.wide) trivial ?_
      show l'.assign.wpIn (WF (some Lc.blk)) 0 P _ _ w
      have hf0 : FR σ (setParams (A.params.toList.zip args.toList) { t := A.t, m := A.m }) { tmps := (l'.params.zip args').foldl (fun tmps (t, a) => tmps.setIfInBounds t a) l'.tmps, defers := [] } := by
        rw [← Array.foldl_toList]
        refine setParams_ok (a := { tmps := l'.tmps, defers := [] }) _ _ k9 (by simp [k6, hargs.1]) (fun i x x' hx hx' => ?_)
        rw [Array.toList_zip] at hx'
        rw [List.getElem?_zip_eq_some] at hx hx'
        obtain ⟨a1, a2⟩ := hx
        obtain ⟨b1, b2⟩ := hx'
        rw [k6, a1] at b1
        refine ⟨Option.some.inj b1, ?_⟩
        obtain ⟨z, hz, rz⟩ := hargs.get (by simpa using a2)
        rw [Array.getElem?_toList, hz] at b2
        rw [← Option.some.inj b2]; exact rz
      cases h1 : evCode P E r (some l) A.assign { f := setParams (A.params.toList.zip args.toList) { t := A.t, m := A.m }, d := [], S } with
      | none => simp [h1] at e
      | some y =>
        obtain ⟨x1, s1⟩ := y
        cases x1 with
        | exit id => simp [h1] at e
        | ret => simp [h1] at e
        | normal =>
          simp only [h1] at e
          split at e
          · rename_i A1 hA1 hd1
            split at e
            · rename_i hready
              rw [k7]
              refine wpIn_mono (evCode_ok hT hm hr A.assign h1 h hf0 .nil ⟨Lc, hLc, rfl⟩) fun e1 a1 w1 hp => then_of_post hp (fun _ hp => ?_) (fun hx _ => absurd rfl hx)
              obtain ⟨σ1, q1, _, q3, q4, q5⟩ := hp
              obtain ⟨L3, l1, m1, m2, m3, m4, m5, m6, m7, m8, m9⟩ := q5.loopOf hA1
              rw [q1 _ _ hLc] at m1; cases m1
              have hbusy := q5.setLoop hA1 (q1 _ _ hLc) m3 .busy A1.pending
              have hbusy' : HR B w0 E.G σ1 { s1.S with heap := s1.S.heap.set l (some (.loop { A1 with state := .busy })) } { w1 with heap := w1.heap.setIfInBounds Lc.blk (.loop { l1 with state := .busy }) } := by
                have : ({ l1 with state := .busy, pending := A1.pending } : Loop) = { l1 with state := .busy } := by rw [← m5]
                rw [this] at hbusy
                exact hbusy
              refine ⟨_, run_beginRound m3 (by rw [m4]; exact hready), ?_⟩
              show l'.body.wpIn (WF (some Lc.blk)) 0 P _ _ _
              rw [k8]
              split at e
              · rename_i x s3 h3
                refine wpIn_mono (evCode_ok hT hm hr A.body h3 (a := a1) hbusy' q3 q4 ⟨Lc, q1 _ _ hLc, rfl⟩) fun e2 a2 w2 hp => ?_
                obtain ⟨σ2, p1, rfl, p3, p4, p5⟩ := hp
                split at e
                · rename_i A3 hA3
                  obtain ⟨L4, l3, n1, n2, n3, n4, n5, n6, n7, n8, n9⟩ := p5.loopOf hA3
                  rw [p1 _ _ (q1 _ _ hLc)] at n1; cases n1
                  have hend := fun st pe => p5.setLoop hA3 (p1 _ _ (q1 _ _ hLc)) n3 st pe
                  cases x with
                  | normal =>
                    simp only [Option.some.injEq, Prod.mk.injEq] at e
                    obtain ⟨rfl, rfl⟩ := e
                    exact ⟨_, _, run_endRound n3 none, σ2, _, Sig.le_trans q1 p1, rfl, .bool _, hend .ready none⟩
                  | exit id =>
                    simp only [Option.some.injEq, Prod.mk.injEq] at e
                    obtain ⟨rfl, rfl⟩ := e
                    exact ⟨_, _, run_endRound n3 (some (.exit id)), σ2, _, Sig.le_trans q1 p1, rfl, .bool _, hend .done (some (.exit id))⟩
                  | ret =>
                    simp only [Option.some.injEq, Prod.mk.injEq] at e
                    obtain ⟨rfl, rfl⟩ := e
                    exact ⟨_, _, run_endRound n3 (some .ret), σ2, _, Sig.le_trans q1 p1, rfl, .bool _, hend .done (some .ret)⟩
                · simp at e
              · simp at e
            · simp at e
          · simp at e
  · simp at e

/-! ### The whole -/
theorem ev_ok (hT : TabOk P) (hm : P.follows .mixedOrders = true) (hO : OrcOk B w0 P E) : ∀ n, RecOk B w0 P E (ev P E n)
  | 0 => ⟨fun k args S v S' e => by simp [ev] at e, fun l args S v S' e => by simp [ev] at e, fun ro c s x s' e => by simp [ev] at e⟩
  | n + 1 =>
    have h1 := ev_ok hT hm hO n
    ⟨evCall_ok hT hm hO h1, evRound_ok hT hm h1, evLoop_ok hT hm h1⟩
end
end Go.Aev
