/-
  A REFERENCE RUN, PART C: the model's operations, one by one: what each does to values that stand to each other.
-/
import Derived.Test.YtecfjfhcoffhfaaGreatDoorAevB
namespace Go.Aev
open Go Go.RowKit

section
variable {B : Nat} {w0 : World} {G : Nat} {P : Program} {sz : Nat} {σ₀ : Sig}

/-- The zero values of the program's types hold no place in memory. -/
def inTab (P : Program) (t : TypeId) : Bool := Nat.blt t P.types.size
def ZeroOk (P : Program) : Prop := ∀ t i v, inTab P t = true → P.info? t = some i → i.zero = some v → selfB 8 v = true

theorem tab_typeInfo (t : TypeId) : Tab P (typeInfo t) := by
  unfold typeInfo program
  refine Tab.bind (s := .program .pure) trivial (fun p => ?_)
  split
  · trivial
  · trivial
theorem tab_underlying (t : TypeId) : Tab P (underlying t) := by
  unfold underlying program
  refine Tab.bind (s := .program .pure) trivial (fun p => ?_)
  split
  · trivial
  · trivial
theorem tab_sizeOf (t : TypeId) : Tab P (sizeOf t) := Tab.bind (tab_typeInfo t) (fun _ => trivial)
theorem tab_isAgg (t : TypeId) : Tab P (isAgg t) := by
  unfold isAgg
  refine Tab.bind (tab_underlying t) (fun d => ?_)
  split <;> trivial

theorem rs_underlying (t : TypeId) : RSem B w0 G P sz (fun _ a b => a = b) σ₀ (underlying t) (underlying t) := .tab (tab_underlying t)
theorem rs_sizeOf (t : TypeId) : RSem B w0 G P sz (fun _ a b => a = b) σ₀ (sizeOf t) (sizeOf t) := .tab (tab_sizeOf t)
theorem rs_isAgg (t : TypeId) : RSem B w0 G P sz (fun _ a b => a = b) σ₀ (isAgg t) (isAgg t) := .tab (tab_isAgg t)
theorem rs_typeInfo (t : TypeId) : RSem B w0 G P sz (fun _ a b => a = b) σ₀ (typeInfo t) (typeInfo t) := .tab (tab_typeInfo t)

theorem rs_zero (hz : ZeroOk P) (t : TypeId) (ht : inTab P t = true) : RSem B w0 G P sz (fun σ a b => a = b ∧ VR σ a b) σ₀ (zeroValue t) (zeroValue t) := by
  intro σ S w hle hr x S' e
  have e0 := e
  obtain ⟨σ', b, w', h1, h2, rfl, h4⟩ := (RSem.tab (B := B) (w0 := w0) (G := G) (P := P) (sz := sz) (σ₀ := σ₀) (s := zeroValue t) (by
    unfold zeroValue
    refine Tab.bind (tab_typeInfo t) (fun i => ?_)
    split <;> trivial)) σ S w hle hr x S' e
  refine ⟨σ', x, w', h1, h2, ⟨rfl, ?_⟩, h4⟩
  unfold zeroValue typeInfo program at e0
  simp only [bind, Sem.bind, ai] at e0
  cases hi : P.info? t with
  | none => simp [hi, stuck, Sem.bind, ai] at e0
  | some i =>
    cases hv : i.zero with
    | none => simp [hi, hv, unsupported, pure, Sem.bind, ai] at e0
    | some v =>
      simp [hi, hv, pure, Sem.bind, ai] at e0
      obtain ⟨rfl, rfl⟩ := e0
      exact selfB_spec _ _ _ (hz t i v ht hi hv)

theorem rs_sure {v v' : Value} (h : VR σ₀ v v') : RSem B w0 G P sz AddrR σ₀ (Instr.sureAddr v) (Instr.sureAddr v') := by
  cases h <;> unfold Instr.sureAddr <;> first | exact .halt | skip
  · exact .pure fun σ hle => ⟨_, hle _ _ (by assumption), rfl, rfl⟩

theorem rs_loadCellsFrom {a a' : Addr} : ∀ (n i : Nat) {σ₀ : Sig} {acc acc' : Array Value}, AddrR σ₀ a a' → AR σ₀ acc acc' →
    RSem B w0 G P sz AR σ₀ (loadCellsFrom a i n acc) (loadCellsFrom a' i n acc')
  | 0, i, σ₀, acc, acc', ha, hc => by
    unfold loadCellsFrom
    exact .pure fun σ hle => hc.mono hle
  | n + 1, i, σ₀, acc, acc', ha, hc => by
    unfold loadCellsFrom
    refine RSem.bind (RSem.load (ha.add i)) (fun σ v v' hle hv => ?_)
    exact rs_loadCellsFrom n (i + 1) (ha.mono hle) ((hc.mono hle).push hv)
theorem rs_loadCells {a a' : Addr} (n : Nat) (ha : AddrR σ₀ a a') : RSem B w0 G P sz AR σ₀ (loadCells a n) (loadCells a' n) := rs_loadCellsFrom n 0 ha (AR.empty _)
theorem rs_loadVar (t : TypeId) {a a' : Addr} (ha : AddrR σ₀ a a') : RSem B w0 G P sz VR σ₀ (loadVar t a) (loadVar t a') := by
  unfold loadVar
  refine RSem.bind (rs_isAgg t) (fun σ b _ hle e => ?_)
  subst e
  cases b
  · exact RSem.load (ha.mono hle)
  · refine RSem.bind (rs_sizeOf t) (fun σ1 n _ hle1 e => ?_)
    subst e
    refine RSem.bind (rs_loadCells n (ha.mono (Sig.le_trans hle hle1))) (fun σ2 c c' _ hc => ?_)
    exact .pure fun σ3 h3 => VR.agg_iff.2 ⟨_, rfl, hc.mono h3⟩
theorem rs_storeCells {a a' : Addr} : ∀ (vs vs' : List Value) (i : Nat) {σ₀ : Sig}, AddrR σ₀ a a' → AR σ₀ ⟨vs⟩ ⟨vs'⟩ →
    RSem B w0 G P sz (fun _ (_ _ : Unit) => True) σ₀ (storeCells a vs i) (storeCells a' vs' i)
  | [], [], i, σ₀, ha, h => by unfold storeCells; exact .pure fun _ _ => trivial
  | [], _ :: _, i, σ₀, ha, h => by have := h.1; simp at this
  | _ :: _, [], i, σ₀, ha, h => by have := h.1; simp at this
  | v :: vs, v' :: vs', i, σ₀, ha, h => by
    unfold storeCells
    have h0 : VR σ₀ v v' := by obtain ⟨u, hu, r⟩ := h.get (i := 0) (v := v) (by simp); simp at hu; exact hu ▸ r
    have hr : AR σ₀ ⟨vs⟩ ⟨vs'⟩ := by
      refine AR.of_get (by have := h.1; simpa using this) (fun j x y hx hy => ?_)
      obtain ⟨u, hu, r⟩ := h.get (i := j + 1) (v := x) (by simpa using hx)
      have : u = y := by simp at hu hy; rw [hu] at hy; exact Option.some.inj hy
      exact this ▸ r
    refine RSem.bind (RSem.store (ha.add i) h0) (fun σ _ _ hle _ => ?_)
    exact rs_storeCells vs vs' (i + 1) (ha.mono hle) (hr.mono hle)
theorem rs_storeVar (t : TypeId) {a a' : Addr} (ha : AddrR σ₀ a a') {v v' : Value} (hv : VR σ₀ v v') : RSem B w0 G P sz (fun _ (_ _ : Unit) => True) σ₀ (storeVar t a v) (storeVar t a' v') := by
  unfold storeVar
  have hc := hv.cells
  refine RSem.bind (rs_sizeOf t) (fun σ n _ hle e => ?_)
  subst e
  rw [← hc.1]
  split
  · refine RSem.bind (A := fun _ _ _ => True) .halt (fun σ1 _ _ h1 _ => ?_)
    exact rs_storeCells _ _ 0 (ha.mono (Sig.le_trans hle h1)) (hc.mono (Sig.le_trans hle h1))
  · exact rs_storeCells _ _ 0 (ha.mono hle) (hc.mono hle)
theorem rs_newRow (e : TypeId) {c c' : Array Value} (hc : AR σ₀ c c') : RSem B w0 G P sz (fun σ a a' => AddrR σ a a' ∧ a.off = 0 ∧ ∃ L, σ a.block = some L ∧ L.sz = sz ∧ L.ext = c'.size ∧ L.off = 0) σ₀ (newRow e c) (newRow e c') := by
  unfold newRow newObj
  refine RSem.bind (RSem.newCells hc e) (fun σ r r' hle ⟨L, h1, h2, h3, h4, h5⟩ => ?_)
  exact .pure fun σ1 h6 => ⟨⟨L, h6 _ _ h1, rfl, by simp [h2, h3]⟩, rfl, L, h6 _ _ h1, h4, h5, h2⟩
theorem AddrR.val {σ : Sig} {a a' : Addr} (h : AddrR σ a a') : VR σ (.pointer (some a)) (.pointer (some a')) := by
  obtain ⟨L, h1, h2, rfl⟩ := h
  obtain ⟨b, o, s⟩ := a
  subst h2
  exact .p h1
theorem rs_newVar (t : TypeId) {v v' : Value} (hv : VR σ₀ v v') : RSem B w0 G P sz AddrR σ₀ (newVar t v) (newVar t v') := by
  unfold newVar
  exact (rs_newRow t hv.cells).weaken fun _ _ _ h => h.1

/-! ### Operations on memory -/
theorem rs_alloc (hz : ZeroOk P) (e : TypeId) (ht : inTab P e = true) : RSem B w0 G P sz VR σ₀ (Instr.alloc e true (.tuple #[])) (Instr.alloc e true (.tuple #[])) := by
  unfold Instr.alloc
  refine RSem.bind (rs_zero hz e ht) (fun σ v _ hle ⟨e1, hv⟩ => ?_)
  subst e1
  refine RSem.bind (rs_newVar e hv) (fun σ1 a a' h1 ha => ?_)
  exact .pure fun σ2 h2 => (ha.mono h2).val
theorem rs_box (e : TypeId) {v v' : Value} (hv : VR σ₀ v v') : RSem B w0 G P sz VR σ₀ (Instr.box e v) (Instr.box e v') := by
  unfold Instr.box
  refine RSem.bind (rs_newVar e hv) (fun σ1 a a' h1 ha => ?_)
  exact .pure fun σ2 h2 => (ha.mono h2).val
theorem rs_loadAt (t : TypeId) {v v' : Value} (hv : VR σ₀ v v') : RSem B w0 G P sz VR σ₀ (Instr.loadAt t v) (Instr.loadAt t v') := by
  unfold Instr.loadAt
  exact RSem.bind (rs_sure hv) (fun σ a a' _ ha => rs_loadVar t ha)
theorem rs_storeAt (t : TypeId) {v v' x x' : Value} (hv : VR σ₀ v v') (hx : VR σ₀ x x') : RSem B w0 G P sz (fun _ (_ _ : Unit) => True) σ₀ (Instr.storeAt t v x) (Instr.storeAt t v' x') := by
  unfold Instr.storeAt
  exact RSem.bind (rs_sure hv) (fun σ a a' hle ha => rs_storeVar t ha (hx.mono hle))


/-! ### Texts of the table alone -/
def at0 (P : Program) {α : Type} : Sem α → Option α
  | .pure a => some a
  | .program k => at0 P (k P)
  | .mark _ k => at0 P k
  | _ => none
theorem at0_run {α : Type} (w : World) : ∀ {s : Sem α} {a : α}, at0 P s = some a → s.run P w = .ok a w := by
  intro s
  induction s with
  | pure a => intro x e; simp [at0] at e; simp [Sem.run, e]
  | program k ih => intro x e; simpa [Sem.run] using ih P e
  | mark m k ih => intro x e; simpa [Sem.run] using ih e
  | _ => intro x e; simp [at0] at e

theorem AR.eq_of {cs cs' : Array Value} (hs : cs.size = cs'.size) (h : ∀ i, i < cs.size → cs.getD i undef = cs'.getD i undef) : cs = cs' := by
  apply Array.ext hs
  intro i h1 h2
  have := h i h1
  simpa [Array.getD, h1, h2] using this

theorem selfB_eq {σ : Sig} : ∀ (n : Nat) (v v' : Value), selfB n v = true → VR σ v v' → v' = v := by
  intro n
  induction n with
  | zero => intro v v' h; simp [selfB] at h
  | succ n ih =>
    intro v v' h r
    have arr : ∀ {cs cs' : Array Value}, cs.toList.all (selfB n) = true → cs.size = cs'.size → (∀ i, i < cs.size → VR σ (cs.getD i undef) (cs'.getD i undef)) → cs' = cs := by
      intro cs cs' ha hs hr
      refine (AR.eq_of hs (fun i hi => ?_)).symm
      have hm : cs[i] ∈ cs.toList := by simp
      have := ih _ _ (List.all_eq_true.1 ha _ hm) (by simpa [Array.getD, hi] using hr i hi)
      simpa [Array.getD, hi] using this.symm
    cases r with
    | bool | int | float | complex | str | p0 | sl0 | map0 | chan0 | nilFunc | nilIface => rfl
    | p h' => simp [selfB] at h
    | sl h' => simp [selfB] at h
    | slg => simp [selfB] at h
    | unk h' => simp [selfB] at h
    | iface t h' => rw [ih _ _ (by simpa [selfB] using h) h']
    | agg hs hr => rw [arr (by simpa [selfB] using h) hs hr]
    | tup hs hr => rw [arr (by simpa [selfB] using h) hs hr]
    | fn f hs hr ks kr =>
      simp only [selfB, Bool.and_eq_true, List.isEmpty_iff] at h
      obtain ⟨h1, h2⟩ := h
      have e1 := Array.toList_eq_nil_iff.1 h1
      have e2 := Array.toList_eq_nil_iff.1 h2
      subst e1; subst e2
      have e3 := Array.eq_empty_of_size_eq_zero hs.symm
      have e4 := Array.eq_empty_of_size_eq_zero ks.symm
      rw [e3, e4]
    | yield h' => simp [selfB] at h

/-! ### Places -/
def szOf (P : Program) (t : TypeId) : Option Nat := (P.info? t).map (·.size)
theorem run_sz {t : TypeId} {n : Nat} (h : szOf P t = some n) (w : World) : (sizeOf t).run P w = .ok n w := by
  unfold szOf at h
  cases hi : P.info? t with
  | none => simp [hi] at h
  | some i => simp [hi] at h; subst h; simp [sizeOf, typeInfo, program, hi, pure, Sem.run]
theorem run_und {t : TypeId} {d : TypeDesc} (h : P.underlying t = some d) (w : World) : (underlying t).run P w = .ok d w := by
  simp [underlying, program, h, pure, Sem.run]

def aField (P : Program) (s : TypeId) (x : Value) (f : Nat) : Option Value :=
  match x, P.underlying s with
  | .pointer (some a), some (.struct fs) =>
    match fs[f]? with
    | some fd =>
      match szOf P fd.type with
      | some (_ + 1) => some (.pointer (some (a.add fd.offset)))
      | _ => none
    | none => none
  | _, _ => none
theorem aField_ok {σ : Sig} {s : TypeId} {x x' : Value} {f : Nat} {v : Value} (hx : VR σ x x') (e : aField P s x f = some v) (w : World) :
    ∃ v', (Instr.fieldAt s x' f).run P w = .ok v' w ∧ VR σ v v' := by
  unfold aField at e
  split at e
  · rename_i a fs hu
    cases hx with
    | p h =>
      rename_i id off L
      split at e
      · rename_i fd hf
        split at e
        · rename_i n hn
          simp only [Option.some.injEq] at e
          subst e
          have ha : AddrR σ ⟨id, off, none⟩ ⟨L.blk, L.off + off, none⟩ := ⟨L, h, rfl, rfl⟩
          refine ⟨.pointer (some (Addr.add ⟨L.blk, L.off + off, none⟩ fd.offset)), ?_, (ha.add _).val⟩
          simp [Instr.fieldAt, run_und hu, hf, Instr.sureAddr, fieldPlace, run_sz hn, pure, Sem.run]
        · simp at e
      · simp at e
  · simp at e

/-- 0 ≤ i < n, quickly. -/
def inB (i : Int) (n : Nat) : Bool := match i with
  | .ofNat k => Nat.ble (k + 1) n
  | .negSucc _ => false
theorem inB_spec {i : Int} {n : Nat} (h : inB i n = true) : 0 ≤ i ∧ i < n := by
  unfold inB at h
  split at h
  · have := Nat.le_of_ble_eq_true h; constructor <;> (try simp) <;> omega
  · simp at h

def aIndexAddr (P : Program) (t : TypeId) (x ix : Value) : Option Value :=
  match ix with
  | .int _ i =>
    match x, P.underlying t with
    | .pointer (some a), some (.array len el) =>
      match inB i len, szOf P el with
      | true, some n => some (.pointer (some (a.add (i.toNat * n))))
      | _, _ => none
    | .slice (some a) len _, some (.slice el) =>
      match inB i len, szOf P el with
      | true, some n => some (.pointer (some (a.add (i.toNat * n))))
      | _, _ => none
    | _, _ => none
  | _ => none
theorem aIndexAddr_ok {σ : Sig} {t : TypeId} {x x' ix ix' : Value} {v : Value} (hx : VR σ x x') (hi : VR σ ix ix') (e : aIndexAddr P t x ix = some v) (w : World) :
    ∃ v', (Instr.indexAt t x' ix').run P w = .ok v' w ∧ VR σ v v' := by
  unfold aIndexAddr at e
  split at e
  · cases hi
    rename_i k i
    split at e
    · rename_i a len el hu
      cases hx with
      | p h =>
        rename_i id off L
        split at e
        · rename_i n hb hn
          have hb' := inB_spec hb
          simp only [Option.some.injEq] at e
          subst e
          have ha : AddrR σ ⟨id, off, none⟩ ⟨L.blk, L.off + off, none⟩ := ⟨L, h, rfl, rfl⟩
          refine ⟨.pointer (some (Addr.add ⟨L.blk, L.off + off, none⟩ (i.toNat * n))), ?_, (ha.add _).val⟩
          simp [Instr.indexAt, asIntOf, run_und hu, Instr.sureAddr, hb', run_sz hn, pure, Sem.run]
        · simp at e
    · rename_i a len cap el hu
      cases hx with
      | slg =>
        split at e
        · rename_i n hb hn; have hb' := inB_spec hb; omega
        · simp at e
      | sl h hc hl he =>
        rename_i id off L cap'
        split at e
        · rename_i n hb hn
          have hb' := inB_spec hb
          simp only [Option.some.injEq] at e
          subst e
          have ha : AddrR σ ⟨id, off, none⟩ ⟨L.blk, L.off + off, none⟩ := ⟨L, h, rfl, rfl⟩
          refine ⟨.pointer (some (Addr.add ⟨L.blk, L.off + off, none⟩ (i.toNat * n))), ?_, (ha.add _).val⟩
          simp [Instr.indexAt, asIntOf, run_und hu, hb', run_sz hn, pure, Sem.run]
        · simp at e
    · simp at e
  · simp at e

/-! ### Parts of structs and arrays -/
theorem AR.extract {σ : Sig} {a b : Array Value} (h : AR σ a b) (i j : Nat) : AR σ (a.extract i j) (b.extract i j) := by
  refine AR.of_get (by simp [h.1]) (fun k x y hx hy => ?_)
  rw [Array.getElem?_extract] at hx hy
  rw [h.1] at hx
  split at hx
  · rename_i hc
    rw [if_pos hc] at hy
    obtain ⟨z, hz, r⟩ := h.get hx
    rw [hz] at hy; cases hy; exact r
  · simp at hx

def aggD : TypeDesc → Bool
  | .struct _ | .array _ _ => true
  | _ => false
def aPart (P : Program) (t : TypeId) (cs : Array Value) (off : Nat) : Option Value :=
  match P.underlying t with
  | some d =>
    match aggD d with
    | true => (szOf P t).map fun n => .agg (cs.extract off (off + n))
    | false => cs[off]?
  | none => none
theorem aPart_ok {σ : Sig} {t : TypeId} {cs cs' : Array Value} {off : Nat} {v : Value} (h : AR σ cs cs') (e : aPart P t cs off = some v) (w : World) :
    ∃ v', (part t cs' off).run P w = .ok v' w ∧ VR σ v v' := by
  unfold aPart at e
  split at e
  · rename_i d hu
    have hagg : (isAgg t).run P w = .ok (aggD d) w := by
      simp only [isAgg, Sem.run_bind, run_und hu, Result.andThen_ok]
      cases d <;> rfl
    split at e
    · rename_i hd
      cases hn : szOf P t with
      | none => simp [hn] at e
      | some n =>
        simp [hn] at e
        subst e
        refine ⟨.agg (cs'.extract off (off + n)), ?_, VR.agg_iff.2 ⟨_, rfl, h.extract _ _⟩⟩
        simp [part, hagg, hd, run_sz hn, pure, Sem.run]
    · rename_i hd
      obtain ⟨v', e', r⟩ := h.get e
      exact ⟨v', by simp [part, hagg, hd, e', pure, Sem.run], r⟩
  · simp at e

def aFieldV (P : Program) (s : TypeId) (x : Value) (f : Nat) : Option Value :=
  match x, P.underlying s with
  | .agg cs, some (.struct fs) =>
    match fs[f]? with
    | some fd => aPart P fd.type cs fd.offset
    | none => none
  | _, _ => none
theorem aFieldV_ok {σ : Sig} {s : TypeId} {x x' : Value} {f : Nat} {v : Value} (hx : VR σ x x') (e : aFieldV P s x f = some v) (w : World) :
    ∃ v', (Instr.field s x' f).run P w = .ok v' w ∧ VR σ v v' := by
  unfold aFieldV at e
  split at e
  · rename_i cs fs hu
    obtain ⟨cs', rfl, hc⟩ := VR.agg_iff.1 hx
    split at e
    · rename_i fd hf
      obtain ⟨v', h1, h2⟩ := aPart_ok hc e w
      exact ⟨v', by simp [Instr.field, run_und hu, hf, asAgg, pure, Sem.run, h1], h2⟩
    · simp at e
  · simp at e

def aIndexV (P : Program) (t : TypeId) (x ix : Value) : Option Value :=
  match x, ix, P.underlying t with
  | .agg cs, .int _ i, some (.array len el) =>
    match inB i len, szOf P el with
    | true, some n => aPart P el cs (i.toNat * n)
    | _, _ => none
  | _, _, _ => none
theorem aIndexV_ok {σ : Sig} {t : TypeId} {x x' ix ix' : Value} {v : Value} (hx : VR σ x x') (hi : VR σ ix ix') (e : aIndexV P t x ix = some v) (w : World) :
    ∃ v', (Instr.index t x' ix').run P w = .ok v' w ∧ VR σ v v' := by
  unfold aIndexV at e
  split at e
  · rename_i cs k i len el hu
    obtain ⟨cs', rfl, hc⟩ := VR.agg_iff.1 hx
    cases hi
    split at e
    · rename_i n hb hn
      have hb' := inB_spec hb
      obtain ⟨v', h1, h2⟩ := aPart_ok hc e w
      exact ⟨v', by simp [Instr.index, asIntOf, run_und hu, hb', run_sz hn, pure, Sem.run, ← h1], h2⟩
    · simp at e
  · simp at e

def aExtract (x : Value) (i : Nat) : Option Value :=
  match x with
  | .tuple vs => vs[i]?
  | _ => none
theorem aExtract_ok {σ : Sig} {x x' : Value} {i : Nat} {v : Value} (hx : VR σ x x') (e : aExtract x i = some v) (w : World) :
    ∃ v', (Instr.extract x' i).run P w = .ok v' w ∧ VR σ v v' := by
  unfold aExtract at e
  split at e
  · obtain ⟨vs', rfl, hc⟩ := VR.tup_iff.1 hx
    obtain ⟨v', e', r⟩ := hc.get e
    exact ⟨v', by simp [Instr.extract, e', pure], r⟩
  · simp at e
end
end Go.Aev
