/-
  A REFERENCE RUN, PART L: a region whose order is open comes to where the text's order comes, whatever is drawn.
-/
import Derived.Test.YtecfjfhcoffhfaaGreatDoorAevK
import Derived.OrdersIn
set_option linter.unusedSimpArgs false
set_option linter.unusedVariables false
namespace Go.Aev
open Go Go.RowKit

section
variable {B : Nat} {w0 : World} {P : Program} {E : Env} {σ : Sig}

theorem FR.congr {f g : Fr} {a : Act} (h : f.Eq g) (hf : FR σ f a) : FR σ g a :=
  ⟨by rw [← h.1]; exact hf.1, fun i v e => hf.2 i v (by rw [h.2 i]; exact e)⟩

/-! ### What an operation waits for -/
def Closed (ops : Array Oper) (listed : Array Bool) : Prop :=
  ∀ j o, listed.getD j false = true → ops[j]? = some o → ∀ e ∈ o.after, Region.binds .any e = true → listed.getD e.on false = true
def Held (ops : Array Oper) (acc : Array Nat) : Prop :=
  ∀ i p, (acc.getD i 0).testBit p = true → ∃ o, ops[i]? = some o ∧ ∀ listed, Closed ops listed → (∀ e ∈ o.after, Region.binds .any e = true → listed.getD e.on false = true) → listed.getD p false = true

theorem fold_bits (acc : Array Nat) : ∀ (es : List Edge) (s p : Nat), (es.foldl (fun s e => if Region.binds .any e then s ||| 2 ^ e.on ||| acc.getD e.on 0 else s) s).testBit p = true →
    s.testBit p = true ∨ ∃ e ∈ es, Region.binds .any e = true ∧ (e.on = p ∨ (acc.getD e.on 0).testBit p = true)
  | [], s, p, h => .inl h
  | e :: es, s, p, h => by
    rw [List.foldl_cons] at h
    rcases fold_bits acc es _ p h with h1 | ⟨e', h2, h3⟩
    · split at h1
      · rename_i hb
        simp only [Nat.testBit_or, Nat.testBit_two_pow, Bool.or_eq_true, decide_eq_true_eq] at h1
        rcases h1 with (h1 | h1) | h1
        · exact .inl h1
        · exact .inr ⟨e, by simp, hb, .inl h1⟩
        · exact .inr ⟨e, by simp, hb, .inr h1⟩
      · exact .inl h1
    · exact .inr ⟨e', by simp [h2], h3⟩

theorem held_push {ops : Array Oper} {acc : Array Nat} (h : Held ops acc) {o : Oper} (ho : ops[acc.size]? = some o) :
    Held ops (acc.push (o.after.foldl (fun s e => if Region.binds .any e then s ||| 2 ^ e.on ||| acc.getD e.on 0 else s) 0)) := by
  intro i p hb
  by_cases hi : i = acc.size
  · subst hi
    refine ⟨o, ho, fun listed hc hl => ?_⟩
    have hb' : (o.after.toList.foldl (fun s e => if Region.binds .any e then s ||| 2 ^ e.on ||| acc.getD e.on 0 else s) 0).testBit p = true := by
      rw [Array.foldl_toList]
      generalize hx : o.after.foldl (fun s e => if Region.binds .any e then s ||| 2 ^ e.on ||| acc.getD e.on 0 else s) 0 = x at hb ⊢
      simpa [Array.getD_eq_getD_getElem?] using hb
    rcases fold_bits acc _ _ p hb' with h1 | ⟨e, h2, h3, h4⟩
    · simp at h1
    · have he := hl e (by simpa using h2) h3
      rcases h4 with h4 | h4
      · rw [← h4]; exact he
      · obtain ⟨o', k1, k2⟩ := h _ _ h4
        exact k2 listed hc (hc _ _ he k1)
  · refine h i p ?_
    have : (acc.push (o.after.foldl (fun s e => if Region.binds .any e then s ||| 2 ^ e.on ||| acc.getD e.on 0 else s) 0)).getD i 0 = acc.getD i 0 := by
      simp only [Array.getD_eq_getD_getElem?, Array.getElem?_push, if_neg hi]
    rw [← this]; exact hb

theorem held_fold {ops : Array Oper} : ∀ (l : List Oper) (acc : Array Nat), (∀ k, k < l.length → l[k]? = ops[acc.size + k]?) → Held ops acc →
    Held ops (l.foldl (fun acc o => acc.push (o.after.foldl (fun s e => if Region.binds .any e then s ||| 2 ^ e.on ||| acc.getD e.on 0 else s) 0)) acc)
  | [], acc, _, h => h
  | o :: l, acc, hl, h => by
    rw [List.foldl_cons]
    refine held_fold l _ (fun k hk => ?_) (held_push h ?_)
    · have := hl (k + 1) (by simpa using hk)
      rw [Array.size_push, Nat.add_assoc, Nat.add_comm 1 k, ← this]; rfl
    · have := hl 0 (by simp)
      rw [Nat.add_zero] at this
      rw [← this]; rfl

theorem before_held (ops : Array Oper) : Held ops (Region.before ops) := by
  unfold Region.before
  rw [← Array.foldl_toList]
  refine held_fold _ _ (fun k hk => ?_) (fun i p h => by simp at h)
  simp

/-! ### The draw -/
def remL (ops : Array Oper) (listed : Array Bool) : List Nat := (List.range ops.size).filter fun i => !listed.getD i true

theorem remL_sorted (ops : Array Oper) (listed : Array Bool) : (remL ops listed).Pairwise (· < ·) := List.Pairwise.filter _ List.pairwise_lt_range
theorem mem_remL {ops : Array Oper} {listed : Array Bool} {i : Nat} : i ∈ remL ops listed ↔ i < ops.size ∧ listed.getD i true = false := by
  unfold remL
  rw [List.mem_filter, List.mem_range]
  simp
theorem getD_any {listed : Array Bool} {i : Nat} (h : i < listed.size) (a b : Bool) : listed.getD i a = listed.getD i b := by simp [Array.getD, h]

theorem drawOk_edge {cs : Nat → Bool} {ops : Array Oper} (h : drawOk cs ops = true) {i : Nat} {o : Oper} (ho : ops[i]? = some o) {e : Edge} (he : e ∈ o.after) (hb : Region.binds .any e = true) : e.on < i := by
  unfold drawOk at h
  have hi : i < ops.size := (Array.getElem?_eq_some_iff.1 ho).1
  have := List.all_eq_true.1 h i (List.mem_range.2 hi)
  simp only [Bool.and_eq_true, ho, Option.map_some, Option.getD_some] at this
  have := List.all_eq_true.1 this.1 e (by simpa using he)
  simp only [hb, Bool.not_true, Bool.false_or] at this
  simpa [Nat.blt_eq] using this
theorem drawOk_free {cs : Nat → Bool} {ops : Array Oper} (h : drawOk cs ops = true) {i p : Nat} {o : Oper} (ho : ops[i]? = some o) (hp : p < i) : ((Region.before ops).getD i 0).testBit p = true ∨ ∃ op, ops[p]? = some op ∧ free2 (cs p) (cs i) ops op o = true := by
  unfold drawOk at h
  have hi : i < ops.size := (Array.getElem?_eq_some_iff.1 ho).1
  have := List.all_eq_true.1 h i (List.mem_range.2 hi)
  simp only [Bool.and_eq_true] at this
  have := List.all_eq_true.1 this.2 p (List.mem_range.2 hp)
  split at this
  · rename_i hb; exact .inl hb
  · split at this
    · rename_i op oi k1 k2
      rw [ho] at k2; cases k2
      exact .inr ⟨op, k1, this⟩
    · simp at this

theorem remL_set {ops : Array Oper} {listed : Array Bool} (hs : listed.size = ops.size) {i : Nat} {pre post : List Nat} (h : remL ops listed = pre ++ i :: post) : remL ops (listed.setIfInBounds i true) = pre ++ post := by
  have hsort := remL_sorted ops listed
  rw [h, List.pairwise_append] at hsort
  obtain ⟨_, h2, h3⟩ := hsort
  rw [List.pairwise_cons] at h2
  have hi : i < ops.size := (mem_remL.1 (by rw [h]; simp : i ∈ remL ops listed)).1
  have e1 : remL ops (listed.setIfInBounds i true) = (remL ops listed).filter (fun j => j != i) := by
    unfold remL
    rw [List.filter_filter]
    apply List.filter_congr
    intro j hj
    have hj := List.mem_range.1 hj
    by_cases hji : j = i
    · subst hji
      simp [Array.getD_eq_getD_getElem?, hs, hi]
    · rw [getD_set_ne true (Ne.symm hji)]
      simp [hji]
  rw [e1, h, List.filter_append, List.filter_cons]
  have f1 : pre.filter (fun j => j != i) = pre := List.filter_eq_self.2 fun x hx => by
    have := h3 x hx i (by simp)
    simp; omega
  have f2 : post.filter (fun j => j != i) = post := List.filter_eq_self.2 fun x hx => by
    have := h2.1 x hx
    simp; omega
  rw [f1, f2]
  simp

theorem any_ok (hT : TabOk P) {r : Rec} (hr : RecOk B w0 P E r) {cs : Nat → Bool} {ops : Array Oper} (hcs : ∀ p op, ops[p]? = some op → cs p = true → callKind op.op = true) (hd : drawOk cs ops = true) {roc : Option Nat} {Q : Exit → Act → World → Prop} :
    ∀ (fuel : Nat) {listed : Array Bool} {σ : Sig} {f f' f2 : Fr} {a : Act} {S S' : AS} {w : World}, listed.size = ops.size → Closed ops listed → fuel = (remL ops listed).length → HR B w0 E.G σ S w → FR σ f a →
    evOps P E r cs ops (remL ops listed) f S = some (f2, S') → f2.Eq f' → (∀ σ' a' w', σ.le σ' → FR σ' f' a' → a'.defers = a.defers → HR B w0 E.G σ' S' w' → Q .normal a' w') → wpAnyIn (WF roc) 0 P .any ops Q fuel listed a w
  | 0, listed, σ, f, f', f2, a, S, S', w, hs, hc, hl, h, hf, e, heq, hQ => by
    have hnil : remL ops listed = [] := List.length_eq_zero_iff.1 hl.symm
    rw [hnil] at e
    simp only [evOps, Option.some.injEq, Prod.mk.injEq] at e
    obtain ⟨rfl, rfl⟩ := e
    refine ⟨?_, hQ σ a w (Sig.le_refl _) (FR.congr heq hf) rfl h⟩
    rw [List.eq_nil_iff_forall_not_mem]
    intro i hi
    obtain ⟨h0, o, ho, _⟩ := mem_ready.1 hi
    have : i ∈ remL ops listed := mem_remL.2 ⟨(Array.getElem?_eq_some_iff.1 ho).1, h0⟩
    rw [hnil] at this
    simp at this
  | fuel + 1, listed, σ, f, f', f2, a, S, S', w, hs, hc, hl, h, hf, e, heq, hQ => by
    refine ⟨fun hready => ?_, fun i hi => ?_⟩
    · exfalso
      cases hL : remL ops listed with
      | nil => rw [hL] at hl; simp at hl
      | cons i tl =>
        have hi := mem_remL.1 (by rw [hL]; simp : i ∈ remL ops listed)
        have hsort := remL_sorted ops listed
        rw [hL, List.pairwise_cons] at hsort
        have : i ∈ Region.ready .any ops listed := by
          refine mem_ready.2 ⟨hi.2, ops[i]'hi.1, by simp [hi.1], fun e he hb => ?_⟩
          have hlt := drawOk_edge hd (i := i) (o := ops[i]'hi.1) (by simp [hi.1]) he hb
          have hlt' : e.on < ops.size := Nat.lt_trans hlt hi.1
          cases hx : listed.getD e.on true with
          | false =>
            have : e.on ∈ remL ops listed := mem_remL.2 ⟨hlt', hx⟩
            rw [hL] at this
            rcases List.mem_cons.1 this with h1 | h1
            · omega
            · have := hsort.1 _ h1; omega
          | true => rw [getD_any (by omega) false true]; exact hx
        rw [hready] at this
        simp at this
    · obtain ⟨h0, o, ho, hedges⟩ := mem_ready.1 hi
      have hlt : i < ops.size := (Array.getElem?_eq_some_iff.1 ho).1
      have hmem : i ∈ remL ops listed := mem_remL.2 ⟨hlt, h0⟩
      obtain ⟨pre, post, hsplit⟩ := List.append_of_mem hmem
      have hsort := remL_sorted ops listed
      rw [hsplit, List.pairwise_append] at hsort
      have hpre : ∀ p ∈ pre, ∃ op, ops[p]? = some op ∧ free2 (cs p) (cs i) ops op o = true := by
        intro p hp
        have hpi : p < i := hsort.2.2 p hp i (by simp)
        rcases drawOk_free hd ho hpi with hb | hb
        · obtain ⟨o', k1, k2⟩ := before_held ops i p hb
          rw [ho] at k1; cases k1
          have k3 := k2 listed hc hedges
          have := (mem_remL.1 (by rw [hsplit]; simp [hp] : p ∈ remL ops listed)).2
          rw [getD_any (by omega) true false, k3] at this
          cases this
        · exact hb
      rw [hsplit] at e
      obtain ⟨v, S1, f3, q1, q2, q3⟩ := move_front (B := B) (w0 := w0) hT hcs ho post pre hpre (fun _ => ⟨σ, w, a, h, hf⟩) (.inr (.inr fun x hx v id hv ht => topId_lt h (val_ok h hf hv) ht)) e
      have hs' : (listed.setIfInBounds i true).size = ops.size := by rw [Array.size_setIfInBounds]; exact hs
      have hset := remL_set hs hsplit
      have mono : ∀ j, listed.getD j false = true → (listed.setIfInBounds i true).getD j false = true := by
        intro j hj
        by_cases hji : i = j
        · subst hji; simp [Array.getD_eq_getD_getElem?, hs, hlt]
        · rw [getD_set_ne false hji]; exact hj
      have hc' : Closed ops (listed.setIfInBounds i true) := by
        intro j oj hj hoj e he hb
        by_cases hji : i = j
        · subst hji
          rw [ho] at hoj; cases hoj
          exact mono _ (hedges e he hb)
        · rw [getD_set_ne false hji] at hj
          exact mono _ (hc j oj hj hoj e he hb)
      have hlen : fuel = (remL ops (listed.setIfInBounds i true)).length := by
        rw [hset]
        rw [hsplit] at hl
        simp at hl ⊢
        omega
      unfold wpOpIn
      simp only [ho]
      have q1 : (match guardA ops o f with
        | some true => evOp P E r o f S
        | some false => some (undef, S)
        | none => none) = some (v, S1) := by
        unfold stepA at q1
        cases hg : guardA ops o f with
        | none => simp [hg] at q1
        | some b =>
          cases b
          · simpa [hg] using q1
          · simp only [hg] at q1 ⊢
            split at q1
            · split at q1
              · rename_i he _ _; rw [he]; exact q1
              · simp at q1
            · simp at q1
      cases hg : guardA ops o f with
      | none => simp [hg] at q1
      | some b =>
        rw [guard_ok hf hg]
        cases b with
        | true =>
          simp only [hg] at q1
          simp only [if_true]
          refine evOp_ok hT hr h hf q1 (fun σ' v' w' k1 k2 k3 => ?_)
          have hput : (a.put o.dst v').defers = a.defers := by cases o.dst <;> rfl
          exact any_ok hT hr hcs hd fuel hs' hc' hlen k3 (put_ok (hf.mono k1) o.dst k2) (by rw [hset]; exact q2) (q3.symm.trans heq)
            (fun σ2 a2 w2 p1 p2 p3 p4 => hQ σ2 a2 w2 (Sig.le_trans k1 p1) p2 (p3.trans hput) p4)
        | false =>
          simp only [hg, Option.some.injEq, Prod.mk.injEq] at q1
          obtain ⟨rfl, rfl⟩ := q1
          simp only [Bool.false_eq_true, if_false]
          have hput : (a.put o.dst undef).defers = a.defers := by cases o.dst <;> rfl
          exact ⟨fun f _ => WF_fn _ f, any_ok hT hr hcs hd fuel hs' hc' hlen h (put_ok hf o.dst (undef_ok _)) (by rw [hset]; exact q2) (q3.symm.trans heq)
            (fun σ2 a2 w2 p1 p2 p3 p4 => hQ σ2 a2 w2 p1 p2 (p3.trans hput) p4)⟩

/-- THE DRAW: whatever is drawn, the text's end is reached. -/
theorem draw_ok (hT : TabOk P) (hm : P.follows .mixedOrders = true) {r : Rec} (hr : RecOk B w0 P E r) {ops : Array Oper} (hd : drawOk (needy ops) ops = true) {roc : Option Nat} {Q : Exit → Act → World → Prop}
    {σ : Sig} {f f' : Fr} {a : Act} {S S' : AS} {w : World} {id : Nat} (h : HR B w0 E.G σ S { w with drawn := w.drawn + 1 }) (hf : FR σ f a) (e : evOps P E r (needy ops) ops (List.range ops.size) f S = some (f', S'))
    (hQ : ∀ σ' a' w', σ.le σ' → FR σ' f' a' → a'.defers = a.defers → HR B w0 E.G σ' S' w' → Q .normal a' w') : (Code.region id ops true).wpIn (WF roc) 0 P Q a w := by
  refine wpIn_region_any hm ?_
  have hcs : ∀ p op, ops[p]? = some op → needy ops p = true → callKind op.op = true := by
    intro p op hop hn
    unfold needy at hn
    simp only [hop] at hn
    split at hn
    · assumption
    · simp at hn
  have hall : remL ops (Array.replicate ops.size false) = List.range ops.size := by
    unfold remL
    refine List.filter_eq_self.2 fun i hi => ?_
    have := List.mem_range.1 hi
    simp [Array.getD, this]
  exact any_ok hT hr hcs hd ops.size (by simp) (fun j o hj => by
    simp only [Array.getD_eq_getD_getElem?, Array.getElem?_replicate] at hj
    split at hj <;> simp at hj) (by rw [hall]; simp) h hf (by rw [hall]; exact e) (Fr.Eq.refl _) hQ
end
end Go.Aev
