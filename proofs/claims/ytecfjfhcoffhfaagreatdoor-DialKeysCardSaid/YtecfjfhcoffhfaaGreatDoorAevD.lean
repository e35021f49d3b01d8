/-
  A REFERENCE RUN, PART D: structs and arrays that are built, slices, and the built-in append.
-/
import Derived.Test.YtecfjfhcoffhfaaGreatDoorAevC
import Derived.Laws.Tables
import Derived.IntWalk
namespace Go.Aev
open Go Go.RowKit

set_option linter.unusedSimpArgs false
section
variable {B : Nat} {w0 : World} {G : Nat} {P : Program} {σ : Sig}

/-! ### Building -/
theorem AR.set {a b : Array Value} (h : AR σ a b) (i : Nat) {v v' : Value} (hv : VR σ v v') : AR σ (a.setIfInBounds i v) (b.setIfInBounds i v') := by
  refine AR.of_get (by simp [h.1]) (fun k x y hx hy => ?_)
  rw [Array.getElem?_setIfInBounds] at hx hy
  rw [h.1] at hx
  by_cases hik : i = k
  · rw [if_pos hik] at hx hy
    split at hx
    · rename_i hlt
      rw [if_pos hlt] at hy
      cases hx; cases hy; exact hv
    · simp at hx
  · rw [if_neg hik] at hx hy
    obtain ⟨z, hz, r⟩ := h.get hx
    rw [hz] at hy; cases hy; exact r

theorem fold_rel (off : Nat) : ∀ (l l' : List Value) (k : Nat) {a b : Array Value}, l.length = l'.length → (∀ (i : Nat) (x y : Value), l[i]? = some x → l'[i]? = some y → VR σ x y) → AR σ a b →
    AR σ ((l.zipIdx k).foldl (fun cs (c, j) => cs.setIfInBounds (off + j) c) a) ((l'.zipIdx k).foldl (fun cs (c, j) => cs.setIfInBounds (off + j) c) b)
  | [], [], k, a, b, _, _, h => by simpa using h
  | [], _ :: _, k, a, b, e, _, _ => by simp at e
  | _ :: _, [], k, a, b, e, _, _ => by simp at e
  | x :: l, y :: l', k, a, b, e, hr, h => by
    simp only [List.zipIdx_cons, List.foldl_cons]
    refine fold_rel off l l' (k + 1) (by simpa using e) (fun i u v hu hv => hr (i + 1) u v (by simpa using hu) (by simpa using hv)) (h.set _ ?_)
    exact hr 0 x y (by simp) (by simp)

theorem AR.list {a b : Array Value} (h : AR σ a b) : ∀ (i : Nat) (x y : Value), a.toList[i]? = some x → b.toList[i]? = some y → VR σ x y := by
  intro i x y hx hy
  rw [Array.getElem?_toList] at hx hy
  obtain ⟨z, hz, r⟩ := h.get hx
  rw [hz] at hy; cases hy; exact r

theorem fill_rel {ρa ρc : Operand → Value} {place : Nat → Option (Nat × Nat)} : ∀ (l : List (Nat × Operand)) {cells cells' : Array Value}, (∀ x ∈ l, VR σ (ρa x.2) (ρc x.2)) → AR σ cells cells' →
    ∀ r, Instr.fill place cells (l.map fun x => (x.1, ρa x.2)) = some r → ∃ r', Instr.fill place cells' (l.map fun x => (x.1, ρc x.2)) = some r' ∧ AR σ r r'
  | [], cells, cells', _, h, r, e => by
    simp [Instr.fill] at e
    subst e
    exact ⟨cells', by simp [Instr.fill], h⟩
  | x :: l, cells, cells', hx, h, r, e => by
    simp only [List.map_cons, Instr.fill] at e ⊢
    cases hp : place x.1 with
    | none => simp [hp] at e
    | some os =>
      obtain ⟨off, size⟩ := os
      simp only [hp] at e ⊢
      have hv := (hx x (by simp)).cells
      rw [← hv.1, ← h.1]
      split at e
      · simp at e
      · rename_i hc
        rw [if_neg hc]
        refine fill_rel l (fun y hy => hx y (List.mem_cons_of_mem _ hy)) ?_ r e
        have := fold_rel (σ := σ) off (ρa x.2).cells.toList (ρc x.2).cells.toList 0 (by simpa using hv.1) hv.list h
        rw [← Array.foldl_toList, ← Array.foldl_toList, Array.toList_zipIdx, Array.toList_zipIdx]
        exact this

def aBuild (P : Program) (t : TypeId) (parts : List (Nat × Value)) : Option Value :=
  match inTab P t with
  | true => (P.built t parts).map .agg
  | false => none

theorem zero_self (hz : ZeroOk P) {t : TypeId} {i : TypeInfo} {z : Value} (ht : inTab P t = true) (hi : P.info? t = some i) (e : i.zero = some z) : VR σ z z := selfB_spec _ _ _ (hz t i z ht hi e)

theorem built_rel (hz : ZeroOk P) {ρa ρc : Operand → Value} (t : TypeId) (ht : inTab P t = true) (l : List (Nat × Operand)) (hx : ∀ x ∈ l, VR σ (ρa x.2) (ρc x.2)) {r : Array Value}
    (e : P.built t (l.map fun x => (x.1, ρa x.2)) = some r) : ∃ r', P.built t (l.map fun x => (x.1, ρc x.2)) = some r' ∧ AR σ r r' := by
  unfold Program.built at e ⊢
  split at e
  · rename_i it n el h1 h2
    split at e
    · rename_i z ie h3 h4
      obtain ⟨r', e', h'⟩ := fill_rel l hx (zero_self (σ := σ) hz ht h1 h3).cells r e
      exact ⟨r', e', h'⟩
    · simp at e
  · rename_i it fields h1 h2
    split at e
    · rename_i z places h3 h4
      obtain ⟨r', e', h'⟩ := fill_rel l hx (zero_self (σ := σ) hz ht h1 h3).cells r e
      exact ⟨r', e', h'⟩
    · simp at e
  · simp at e

theorem aBuild_ok (hz : ZeroOk P) {ρa ρc : Operand → Value} (t : TypeId) (parts : Array (Nat × Operand)) (hx : ∀ x ∈ parts.toList, VR σ (ρa x.2) (ρc x.2)) {v : Value}
    (e : aBuild P t (parts.toList.map fun x => (x.1, ρa x.2)) = some v) (w : World) :
    ∃ v', (Instr.build t (parts.map fun (i, x) => (i, ρc x))).run P w = .ok v' w ∧ VR σ v v' := by
  unfold aBuild at e
  split at e
  case h_2 => simp at e
  rename_i ht
  cases hb : P.built t (parts.toList.map fun x => (x.1, ρa x.2)) with
  | none => simp [hb] at e
  | some r =>
    simp [hb] at e
    subst e
    obtain ⟨r', e', h'⟩ := built_rel hz t ht _ hx hb
    exact ⟨.agg r', run_build w t _ r' (by simpa [Array.toList_map] using e'), VR.agg_iff.2 ⟨_, rfl, h'⟩⟩

/-- A new row in both. -/
theorem HR.row {S : AS} {w : World} (h : HR B w0 G σ S w) {c c' : Array Value} (hc : AR σ c c') (el : TypeId) (sz n cap' : Nat) (hcap : n ≤ cap') (hs : sz ≠ 0 → cap' * sz ≤ c'.size) :
    ∃ σ', σ.le σ' ∧ VR σ' (.slice (some ⟨S.next, 0, none⟩) n n) (.slice (some ⟨w.heap.size, 0, none⟩) n cap') ∧
      HR B w0 G σ' (S.push (.cells c.toList el sz true true)) { w with heap := w.heap.push (.cells c' el) } := by
  refine ⟨_, Sig.more_le h.fresh, ?_, h.new hc el sz⟩
  exact VR.sl (σ := σ.more S.next ⟨w.heap.size, 0, c'.size, sz⟩) (id := S.next) (off := 0) (L := ⟨w.heap.size, 0, c'.size, sz⟩) (Sig.more_self _ _ _) hcap hcap (by simpa using hs)

def zerosOf (z : Array Value) (n : Nat) : Array Value := (Array.range n).map (z[· % z.size]!)
theorem zerosOf_rel {z : Array Value} (hz : AR σ z z) (n : Nat) : AR σ (zerosOf z n) (zerosOf z n) := by
  refine AR.of_get rfl (fun i x y hx hy => ?_)
  rw [hx] at hy; cases hy
  unfold zerosOf at hx
  simp only [Array.getElem?_map, Option.map_eq_some_iff] at hx
  obtain ⟨k, hk, rfl⟩ := hx
  cases hs : z[k % z.size]? with
  | none =>
    have : z[k % z.size]! = default := by simp [getElem!_def, hs]
    rw [this]
    exact selfB_spec _ 8 _ (by decide)
  | some u =>
    have : z[k % z.size]! = u := by simp [getElem!_def, hs]
    rw [this]
    obtain ⟨u', e', r⟩ := hz.get hs
    rw [hs] at e'; cases e'; exact r

def zeroOf (P : Program) (t : TypeId) : Option Value :=
  match inTab P t with
  | true => (P.info? t).bind (·.zero)
  | false => none
theorem run_zeroOf {t : TypeId} {z : Value} (h : zeroOf P t = some z) (w : World) : (zeroValue t).run P w = .ok z w := by
  unfold zeroOf at h
  split at h
  case h_2 => simp at h
  cases hi : P.info? t with
  | none => simp [hi] at h
  | some i => simp [hi] at h; simp [zeroValue, typeInfo, program, hi, h, pure, Sem.run]
theorem zeroOf_self (hz : ZeroOk P) {t : TypeId} {z : Value} (h : zeroOf P t = some z) : VR σ z z := by
  unfold zeroOf at h
  split at h
  case h_2 => simp at h
  rename_i ht
  cases hi : P.info? t with
  | none => simp [hi] at h
  | some i => exact zero_self hz ht hi (by simpa [hi] using h)

def aBuildSlice (P : Program) (t : TypeId) (len : Nat) (parts : List (Nat × Value)) (S : AS) : Option (Value × AS) :=
  match P.underlying t with
  | some (.slice el) =>
    match szOf P el, zeroOf P el with
    | some (s + 1), some z =>
      match Nat.ble (len * (s + 1)) 65536 with
      | true =>
        match Instr.fill (fun i => some (i * (s + 1), s + 1)) (zerosOf z.cells (len * (s + 1))) parts with
        | some c => match Nat.beq c.size (len * (s + 1)) with
          | true => some (.slice (some ⟨S.next, 0, none⟩) len len, S.push (.cells c.toList el (s + 1) true true))
          | false => none
        | none => none
      | false => none
    | _, _ => none
  | _ => none
theorem aBuildSlice_ok (hz : ZeroOk P) {S S' : AS} {w : World} (h : HR B w0 G σ S w) {ρa ρc : Operand → Value} (t : TypeId) (len : Nat) (parts : Array (Nat × Operand)) (hx : ∀ x ∈ parts.toList, VR σ (ρa x.2) (ρc x.2)) {v : Value}
    (e : aBuildSlice P t len (parts.toList.map fun x => (x.1, ρa x.2)) S = some (v, S')) :
    ∃ σ' v' w', σ.le σ' ∧ (Instr.buildSlice t len (parts.map fun (i, x) => (i, ρc x))).run P w = .ok v' w' ∧ VR σ' v v' ∧ HR B w0 G σ' S' w' := by
  unfold aBuildSlice at e
  split at e
  · rename_i el hu
    split at e
    · rename_i s z hs hzz
      split at e
      · rename_i hle
        split at e
        · rename_i c hf
          split at e
          · rename_i hsize
            have hsz := Nat.eq_of_beq_eq_true hsize
            have hle' := Nat.le_of_ble_eq_true hle
            simp only [Option.some.injEq, Prod.mk.injEq] at e
            obtain ⟨rfl, rfl⟩ := e
            obtain ⟨c', e', hc⟩ := fill_rel _ hx (zerosOf_rel (σ := σ) (zeroOf_self hz hzz).cells (len * (s + 1))) c hf
            obtain ⟨σ', h1, h2, h3⟩ := h.row hc el (s + 1) len len (Nat.le_refl _) (fun _ => by rw [← hc.1, hsz]; exact Nat.le_refl _)
            have hnot : ¬ (len * (s + 1) > 2 ^ 24) := by omega
            refine ⟨σ', .slice (some ⟨w.heap.size, 0, none⟩) len len, _, h1, ?_, h2, h3⟩
            unfold zerosOf at e'
            simp only [Instr.buildSlice, Sem.run_bind, run_und hu, run_sz hs, Result.andThen_ok, hnot, if_false]
            by_cases h0 : len * (s + 1) = 0
            · have hl : len = 0 := by
                rcases Nat.mul_eq_zero.1 h0 with h | h
                · exact h
                · omega
              subst hl
              have r0 : Array.range 0 = #[] := rfl
              simp only [Nat.zero_mul, r0, Array.map_empty] at e'
              simp [newRow, newObj, pure, Sem.run, Array.toList_map, r0, e']
            · simp [h0, run_zeroOf hzz, newRow, newObj, pure, Sem.run, Array.toList_map, e']
          · simp at e
        · simp at e
      · simp at e
    · simp at e
  · simp at e

def aMakeSlice (P : Program) (t : TypeId) (l c : Value) (S : AS) : Option (Value × AS) :=
  match P.underlying t, l, c with
  | some (.slice el), .int _ (.ofNat n), .int _ (.ofNat m) =>
    match P.info? el, zeroOf P el, szOf P el with
    | some i, some z, some (s + 1) =>
      match Nat.ble n m, Nat.ble m 65536, Nat.ble i.bytes 65536, Nat.beq (zerosOf z.cells (m * (s + 1))).size (m * (s + 1)) with
      | true, true, true, true => some (.slice (some ⟨S.next, 0, none⟩) n m, S.push (.cells (zerosOf z.cells (m * (s + 1))).toList el (s + 1) true true))
      | _, _, _, _ => none
    | _, _, _ => none
  | _, _, _ => none
theorem wrap_small {n : Nat} (h : n ≤ 65536) : IntKind.i64.wrap (n : Int) = n := by
  have := IntWalk.i64_in (n : Int) (by omega)
  exact this
theorem aMakeSlice_ok (hz : ZeroOk P) {S S' : AS} {w : World} (h : HR B w0 G σ S w) (t : TypeId) {l l' c c' : Value} (hl : VR σ l l') (hc : VR σ c c') {v : Value}
    (e : aMakeSlice P t l c S = some (v, S')) :
    ∃ σ' v' w', σ.le σ' ∧ (Instr.makeSlice t l' c').run P w = .ok v' w' ∧ VR σ' v v' ∧ HR B w0 G σ' S' w' := by
  unfold aMakeSlice at e
  split at e
  · rename_i el k n k' m hu
    cases hl; cases hc
    split at e
    · rename_i i z s hi hzz hs
      split at e
      · rename_i h1 h2 h3 h4
        have h1 := Nat.le_of_ble_eq_true h1
        have h2 := Nat.le_of_ble_eq_true h2
        have h3 := Nat.le_of_ble_eq_true h3
        have h4 := Nat.eq_of_beq_eq_true h4
        simp only [Option.some.injEq, Prod.mk.injEq] at e
        obtain ⟨rfl, rfl⟩ := e
        obtain ⟨σ', k1, k2, k3⟩ := h.new (zerosOf_rel (σ := σ) (zeroOf_self hz hzz).cells (m * (s + 1))) el (s + 1) |> fun k3 => (⟨_, Sig.more_le h.fresh, VR.sl (σ := σ.more S.next ⟨w.heap.size, 0, (zerosOf z.cells (m * (s + 1))).size, s + 1⟩) (id := S.next) (off := 0) (len := n) (cap := m) (cap' := m) (L := ⟨w.heap.size, 0, (zerosOf z.cells (m * (s + 1))).size, s + 1⟩) (Sig.more_self _ _ _) (Nat.le_refl _) h1 (fun _ => by show 0 + 0 + m * (s + 1) ≤ (zerosOf z.cells (m * (s + 1))).size; rw [h4]; omega), k3⟩ : ∃ σ', σ.le σ' ∧ VR σ' (.slice (some ⟨S.next, 0, none⟩) n m) (.slice (some ⟨w.heap.size, 0 + 0, none⟩) n m) ∧ HR B w0 G σ' _ _)
        refine ⟨σ', _, _, k1, ?_, k2, k3⟩
        have w1 : IntKind.i64.wrap (n : Int) = n := wrap_small (by omega)
        have w2 : IntKind.i64.wrap (m : Int) = m := wrap_small (by omega)
        have hm : i.bytes * m ≤ 65536 * 65536 := Nat.mul_le_mul h3 h2
        have b1 : ¬ ((i.bytes : Int) * (m : Int) > 2 ^ 48) := by
          have : ((i.bytes * m : Nat) : Int) ≤ 65536 * 65536 := Int.ofNat_le.2 hm
          rw [Int.natCast_mul] at this
          omega
        have b2 : ¬ (281474976710656 < (i.bytes : Int) * (m : Int)) := by simpa using b1
        have b3 : ¬ ((m : Int) < (n : Int)) := by omega
        have b4 : ¬ (m < n) := by omega
        have b5 : ¬ ((m : Int) < 0) := by omega
        have b6 : ¬ ((n : Int) < 0) := by omega
        have ask : ∀ b, (askRoom b).run P w = .ok () w := by intro b; unfold askRoom; split <;> rfl
        have mz : (Array.range (m * (s + 1))).map (fun x => z.cells[x % z.cells.size]!) = zerosOf z.cells (m * (s + 1)) := rfl
        by_cases h0 : m * (s + 1) = 0
        · have hm0 : m = 0 := by
            rcases Nat.mul_eq_zero.1 h0 with h | h
            · exact h
            · omega
          subst hm0
          have r0 : Array.range 0 = #[] := rfl
          have hn0 : n = 0 := by omega
          subst hn0
          have w00 : IntKind.i64.wrap 0 = 0 := by decide
          simp [w00, Instr.makeSlice, run_und hu, asInt, asIntOf, typeInfo, program, hi, w1, w2, b2, b3, b4, b5, b6, ask, run_sz hs, newRow, newObj, pure, Sem.run, r0, zerosOf]
        · simp [Instr.makeSlice, run_und hu, asInt, asIntOf, typeInfo, program, hi, w1, w2, b2, b3, b4, b5, b6, ask, run_sz hs, run_zeroOf hzz, h0, newRow, newObj, pure, Sem.run, mz]
      · simp at e
    · simp at e
  · simp at e
end
end Go.Aev
