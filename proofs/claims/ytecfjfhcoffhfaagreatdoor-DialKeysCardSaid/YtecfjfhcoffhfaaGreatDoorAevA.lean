/-
  A REFERENCE RUN, PART A: the abstract store, how it stands to the model's memory, and what an operation's text does in both.
  The abstract store has blocks of its own numbers; 'Sig' says which block of the model each one is. Nothing here speaks of one program.
-/
import Derived.RangeFuncIn
import Derived.LoopNIn
import Derived.Orders
import Derived.Below
import Derived.KernelRfl
namespace Go.Aev
open Go Go.RowKit

/-! ### A map from numbers -/
inductive T (α : Type) where
  | lf
  | nd (l : T α) (v : Option α) (r : T α)

def T.get {α : Type} : T α → Nat → Option α
  | .lf, _ => none
  | .nd l v r, n =>
    match Nat.beq n 0 with
    | true => v
    | false =>
      match Nat.beq (n % 2) 1 with
      | true => l.get (n / 2)
      | false => r.get (n / 2 - 1)

def T.setF {α : Type} : Nat → T α → Nat → Option α → T α
  | 0, t, _, _ => t
  | f + 1, .lf, n, x =>
    match Nat.beq n 0 with
    | true => .nd .lf x .lf
    | false =>
      match Nat.beq (n % 2) 1 with
      | true => .nd (T.setF f .lf (n / 2) x) none .lf
      | false => .nd .lf none (T.setF f .lf (n / 2 - 1) x)
  | f + 1, .nd l v r, n, x =>
    match Nat.beq n 0 with
    | true => .nd l x r
    | false =>
      match Nat.beq (n % 2) 1 with
      | true => .nd (T.setF f l (n / 2) x) v r
      | false => .nd l v (T.setF f r (n / 2 - 1) x)

def T.set {α : Type} (t : T α) (n : Nat) (x : Option α) : T α := T.setF (n + 1) t n x

theorem T.get_setF {α : Type} (x : Option α) : ∀ (f : Nat) (t : T α) (n m : Nat), n < f → (T.setF f t n x).get m = if m = n then x else t.get m := by
  intro f
  induction f with
  | zero => intro t n m h; omega
  | succ f ih =>
    intro t n m h
    have key : ∀ (l : T α) (v : Option α) (r : T α), (match Nat.beq n 0 with
        | true => T.nd l x r
        | false => match Nat.beq (n % 2) 1 with
          | true => .nd (T.setF f l (n / 2) x) v r
          | false => .nd l v (T.setF f r (n / 2 - 1) x)).get m = if m = n then x else (T.nd l v r).get m := by
      intro l v r
      cases hn0 : Nat.beq n 0 with
      | true =>
        have hn : n = 0 := Nat.eq_of_beq_eq_true hn0
        subst hn
        cases hm0 : Nat.beq m 0 with
        | true => have hm : m = 0 := Nat.eq_of_beq_eq_true hm0; subst hm; simp [T.get]
        | false => have hm : m ≠ 0 := Nat.ne_of_beq_eq_false hm0; simp [T.get, hm0, hm]
      | false =>
        have hn : n ≠ 0 := Nat.ne_of_beq_eq_false hn0
        cases hn1 : Nat.beq (n % 2) 1 with
        | true =>
          have hn2 : n % 2 = 1 := Nat.eq_of_beq_eq_true hn1
          simp only
          cases hm0 : Nat.beq m 0 with
          | true => have hm : m = 0 := Nat.eq_of_beq_eq_true hm0; subst hm; simp [T.get, hn.symm]
          | false =>
            have hm : m ≠ 0 := Nat.ne_of_beq_eq_false hm0
            cases hm1 : Nat.beq (m % 2) 1 with
            | true =>
              have hm2 : m % 2 = 1 := Nat.eq_of_beq_eq_true hm1
              simp only [T.get, hm0, hm1]
              rw [ih l (n / 2) (m / 2) (by omega)]
              have : (m / 2 = n / 2) ↔ (m = n) := by omega
              simp [this]
            | false =>
              have hm2 : m % 2 ≠ 1 := Nat.ne_of_beq_eq_false hm1
              have : m ≠ n := by omega
              simp [T.get, hm0, hm1, this]
        | false =>
          have hn2 : n % 2 ≠ 1 := Nat.ne_of_beq_eq_false hn1
          simp only
          cases hm0 : Nat.beq m 0 with
          | true => have hm : m = 0 := Nat.eq_of_beq_eq_true hm0; subst hm; simp [T.get, hn.symm]
          | false =>
            have hm : m ≠ 0 := Nat.ne_of_beq_eq_false hm0
            cases hm1 : Nat.beq (m % 2) 1 with
            | true =>
              have hm2 : m % 2 = 1 := Nat.eq_of_beq_eq_true hm1
              have : m ≠ n := by omega
              simp [T.get, hm0, hm1, this]
            | false =>
              have hm2 : m % 2 ≠ 1 := Nat.ne_of_beq_eq_false hm1
              simp only [T.get, hm0, hm1]
              rw [ih r (n / 2 - 1) (m / 2 - 1) (by omega)]
              have : (m / 2 - 1 = n / 2 - 1) ↔ (m = n) := by omega
              simp [this]
    cases t with
    | nd l v r => exact key l v r
    | lf =>
      have h1 := key .lf none .lf
      have e : (T.nd (.lf : T α) none .lf).get m = (T.lf : T α).get m := by
        cases hm0 : Nat.beq m 0 <;> simp only [T.get, hm0]
        cases Nat.beq (m % 2) 1 <;> rfl
      rw [e] at h1
      exact h1

theorem T.get_set {α : Type} (t : T α) (n m : Nat) (x : Option α) : (t.set n x).get m = if m = n then x else t.get m :=
  T.get_setF x _ t n m (by omega)

/-! ### The abstract store -/
/-- Where a block of the store lies in the model: its block, at which cell it begins there, how many cells that block has, and how many cells an element of it has (0: not known). -/
structure Loc where
  blk : Nat
  off : Nat
  ext : Nat
  sz : Nat

abbrev Sig := Nat → Option Loc
def Sig.le (σ τ : Sig) : Prop := ∀ i L, σ i = some L → τ i = some L
theorem Sig.le_refl (σ : Sig) : σ.le σ := fun _ _ h => h
theorem Sig.le_trans {σ τ υ : Sig} (h : σ.le τ) (k : τ.le υ) : σ.le υ := fun i L e => k i L (h i L e)

structure ALoop where
  state : LoopState
  pending : Option Code
  t : T Value
  m : Nat
  params : Array Tmp
  assign : Code
  body : Code

inductive ABlk where
  | cells (c : List Value) (ty : TypeId) (sz : Nat) (wr ex : Bool)
  | loop (l : ALoop)
  | dfd (o : Bool)
  | gone

structure AS where
  heap : T ABlk
  next : Nat

/-- One cell holds it. -/
def oneB : Value → Bool
  | .agg _ => false
  | .tuple _ => false
  | _ => true

/-- How a value of the reference run stands to one of the model's. -/
inductive VR (σ : Sig) : Value → Value → Prop
  | bool (b : Bool) : VR σ (.bool b) (.bool b)
  | int (k : IntKind) (n : Int) : VR σ (.int k n) (.int k n)
  | float (k : FloatKind) (b : Nat) : VR σ (.float k b) (.float k b)
  | complex (k : FloatKind) (a b : Nat) : VR σ (.complex k a b) (.complex k a b)
  | str (s : ByteArray) : VR σ (.string s) (.string s)
  | p0 : VR σ (.pointer none) (.pointer none)
  | p {id off : Nat} {L : Loc} (h : σ id = some L) : VR σ (.pointer (some ⟨id, off, none⟩)) (.pointer (some ⟨L.blk, L.off + off, none⟩))
  | sl0 : VR σ (.slice none 0 0) (.slice none 0 0)
  | sl {id off : Nat} {L : Loc} {len cap cap' : Nat} (h : σ id = some L) (hc : cap ≤ cap') (hl : len ≤ cap') (he : L.sz ≠ 0 → L.off + off + cap' * L.sz ≤ L.ext) :
      VR σ (.slice (some ⟨id, off, none⟩) len cap) (.slice (some ⟨L.blk, L.off + off, none⟩) len cap')
  | slg {a : Addr} {cap' : Nat} : VR σ (.slice (some ⟨0, 0, some 0⟩) 0 0) (.slice (some a) 0 cap')
  | unk {v : Value} (h : oneB v = true) : VR σ (.chan (some 0)) v
  | map0 : VR σ (.map none) (.map none)
  | chan0 : VR σ (.chan none) (.chan none)
  | nilFunc : VR σ .nilFunc .nilFunc
  | nilIface : VR σ .nilIface .nilIface
  | iface (t : TypeId) {v v' : Value} (h : VR σ v v') : VR σ (.iface t v) (.iface t v')
  | agg {cs cs' : Array Value} (hs : cs.size = cs'.size) (h : ∀ i, i < cs.size → VR σ (cs.getD i undef) (cs'.getD i undef)) : VR σ (.agg cs) (.agg cs')
  | tup {cs cs' : Array Value} (hs : cs.size = cs'.size) (h : ∀ i, i < cs.size → VR σ (cs.getD i undef) (cs'.getD i undef)) : VR σ (.tuple cs) (.tuple cs')
  | fn (f : FuncId) {cs cs' ds ds' : Array Value} (hs : cs.size = cs'.size) (h : ∀ i, i < cs.size → VR σ (cs.getD i undef) (cs'.getD i undef))
      (ks : ds.size = ds'.size) (k : ∀ i, i < ds.size → VR σ (ds.getD i undef) (ds'.getD i undef)) : VR σ (.func (.func f) cs ds) (.func (.func f) cs' ds')
  | yield {l : Nat} {L : Loc} (h : σ l = some L) : VR σ (.func (.yield l) #[] #[]) (.func (.yield L.blk) #[] #[])

theorem VR.mono {σ τ : Sig} (hle : σ.le τ) {a b : Value} (h : VR σ a b) : VR τ a b := by
  induction h with
  | bool b => exact .bool b
  | int k n => exact .int k n
  | float k b => exact .float k b
  | complex k a b => exact .complex k a b
  | str s => exact .str s
  | p0 => exact .p0
  | p h => exact .p (hle _ _ h)
  | sl0 => exact .sl0
  | sl h hc hl he => exact .sl (hle _ _ h) hc hl he
  | slg => exact .slg
  | unk h => exact .unk h
  | map0 => exact .map0
  | chan0 => exact .chan0
  | nilFunc => exact .nilFunc
  | nilIface => exact .nilIface
  | iface t _ ih => exact .iface t ih
  | agg hs _ ih => exact .agg hs ih
  | tup hs _ ih => exact .tup hs ih
  | fn f hs _ ks _ ih ik => exact .fn f hs ih ks ik
  | yield h => exact .yield (hle _ _ h)

def AR (σ : Sig) (cs cs' : Array Value) : Prop := cs.size = cs'.size ∧ ∀ i, i < cs.size → VR σ (cs.getD i undef) (cs'.getD i undef)
theorem AR.mono {σ τ : Sig} (hle : σ.le τ) {a b : Array Value} (h : AR σ a b) : AR τ a b := ⟨h.1, fun i hi => (h.2 i hi).mono hle⟩
theorem AR.empty (σ : Sig) : AR σ #[] #[] := ⟨rfl, fun i hi => by simp at hi⟩
theorem AR.get {σ : Sig} {a b : Array Value} (h : AR σ a b) {i : Nat} {v : Value} (e : a[i]? = some v) : ∃ v', b[i]? = some v' ∧ VR σ v v' := by
  obtain ⟨hi, rfl⟩ := Array.getElem?_eq_some_iff.1 e
  have hb : i < b.size := h.1 ▸ hi
  refine ⟨b[i], by simp [hb], ?_⟩
  have := h.2 i hi
  simpa [Array.getD, hi, hb] using this
theorem AR.of_get {σ : Sig} {a b : Array Value} (hs : a.size = b.size) (h : ∀ (i : Nat) (v v' : Value), a[i]? = some v → b[i]? = some v' → VR σ v v') : AR σ a b := by
  refine ⟨hs, fun i hi => ?_⟩
  have hb : i < b.size := hs ▸ hi
  have := h i a[i] b[i] (by simp [hi]) (by simp [hb])
  simpa [Array.getD, hi, hb] using this
theorem AR.push {σ : Sig} {a b : Array Value} (h : AR σ a b) {v v' : Value} (hv : VR σ v v') : AR σ (a.push v) (b.push v') := by
  refine AR.of_get (by simp [h.1]) (fun i x y hx hy => ?_)
  rw [Array.getElem?_push] at hx hy
  rw [h.1] at hx
  by_cases hi : i = b.size
  · simp [hi] at hx hy; subst hx; subst hy; exact hv
  · simp [hi] at hx hy
    obtain ⟨z, hz, r⟩ := h.get hx
    rw [hz] at hy; cases hy; exact r
theorem AR.append {σ : Sig} {a b c d : Array Value} (h : AR σ a b) (k : AR σ c d) : AR σ (a ++ c) (b ++ d) := by
  refine AR.of_get (by simp [h.1, k.1]) (fun i x y hx hy => ?_)
  rw [Array.getElem?_append] at hx hy
  rw [h.1] at hx
  split at hx
  · rename_i hi
    rw [if_pos hi] at hy
    obtain ⟨z, hz, r⟩ := h.get hx; rw [hz] at hy; cases hy; exact r
  · rename_i hi
    rw [if_neg hi] at hy
    obtain ⟨z, hz, r⟩ := k.get hx; rw [hz] at hy; cases hy; exact r
theorem VR.agg_iff {σ : Sig} {cs : Array Value} {v : Value} : VR σ (.agg cs) v ↔ ∃ cs', v = .agg cs' ∧ AR σ cs cs' :=
  ⟨fun h => by cases h with | agg hs h => exact ⟨_, rfl, hs, h⟩, fun ⟨_, e, h⟩ => e ▸ .agg h.1 h.2⟩
theorem VR.tup_iff {σ : Sig} {cs : Array Value} {v : Value} : VR σ (.tuple cs) v ↔ ∃ cs', v = .tuple cs' ∧ AR σ cs cs' :=
  ⟨fun h => by cases h with | tup hs h => exact ⟨_, rfl, hs, h⟩, fun ⟨_, e, h⟩ => e ▸ .tup h.1 h.2⟩

theorem AR.single {σ : Sig} {v v' : Value} (h : VR σ v v') : AR σ #[v] #[v'] := by
  have := (AR.empty σ).push h
  simpa using this
theorem VR.cells {σ : Sig} {v v' : Value} (h : VR σ v v') : AR σ v.cells v'.cells := by
  cases h with
  | agg hs h => exact ⟨hs, h⟩
  | bool b => exact AR.single (.bool b)
  | int k n => exact AR.single (.int k n)
  | float k b => exact AR.single (.float k b)
  | complex k a b => exact AR.single (.complex k a b)
  | str s => exact AR.single (.str s)
  | p0 => exact AR.single .p0
  | p h => exact AR.single (.p h)
  | sl0 => exact AR.single .sl0
  | sl h hc hl he => exact AR.single (.sl h hc hl he)
  | slg => exact AR.single .slg
  | unk h =>
    have : v'.cells = #[v'] := by cases v' <;> first | rfl | simp [oneB] at h
    rw [this]; exact AR.single (.unk h)
  | map0 => exact AR.single .map0
  | chan0 => exact AR.single .chan0
  | nilFunc => exact AR.single .nilFunc
  | nilIface => exact AR.single .nilIface
  | iface t h => exact AR.single (.iface t h)
  | tup hs h => exact AR.single (.tup hs h)
  | fn f hs h ks k => exact AR.single (.fn f hs h ks k)
  | yield h => exact AR.single (.yield h)

/-- A value that holds no place in memory: it stands to itself. -/
def selfB : Nat → Value → Bool
  | 0, _ => false
  | n + 1, v =>
    match v with
    | .bool _ | .int _ _ | .float _ _ | .complex _ _ _ | .string _ => true
    | .pointer none | .map none | .chan none | .nilFunc | .nilIface => true
    | .slice none 0 0 => true
    | .iface _ v => selfB n v
    | .agg cs => cs.toList.all (selfB n)
    | .tuple cs => cs.toList.all (selfB n)
    | .func (.func _) cs ds => cs.toList.isEmpty && ds.toList.isEmpty
    | _ => false

theorem AR.of_all {σ : Sig} {cs : Array Value} (h : ∀ v, v ∈ cs.toList → VR σ v v) : AR σ cs cs := by
  refine AR.of_get rfl (fun i v v' e e' => ?_)
  rw [e] at e'; cases e'
  exact h v (by rw [Array.mem_toList_iff]; exact Array.mem_of_getElem? e)

theorem selfB_spec (σ : Sig) : ∀ (n : Nat) (v : Value), selfB n v = true → VR σ v v := by
  intro n
  induction n with
  | zero => intro v h; simp [selfB] at h
  | succ n ih =>
    intro v h
    unfold selfB at h
    split at h <;> first | (simp at h; done) | skip
    · exact .bool _
    · exact .int _ _
    · exact .float _ _
    · exact .complex _ _ _
    · exact .str _
    · exact .p0
    · exact .map0
    · exact .chan0
    · exact .nilFunc
    · exact .nilIface
    · exact .sl0
    · exact .iface _ (ih _ h)
    · rw [VR.agg_iff]; exact ⟨_, rfl, AR.of_all fun v hv => ih v (List.all_eq_true.1 h v hv)⟩
    · rw [VR.tup_iff]; exact ⟨_, rfl, AR.of_all fun v hv => ih v (List.all_eq_true.1 h v hv)⟩
    · simp only [Bool.and_eq_true, List.isEmpty_iff] at h
      obtain ⟨h1, h2⟩ := h
      exact .fn _ rfl (fun i hi => by rw [← Array.length_toList, h1] at hi; simp at hi) rfl (fun i hi => by rw [← Array.length_toList, h2] at hi; simp at hi)

/-- How the temporaries stand to each other; of those that are not in the map nothing is known. -/
def TR (σ : Sig) (t : T Value) (m : Nat) (tmps : Array Value) : Prop := tmps.size = m ∧ ∀ (i : Nat) (v : Value), t.get i = some v → ∃ v', tmps[i]? = some v' ∧ VR σ v v'
theorem TR.mono {σ τ : Sig} (hle : σ.le τ) {t : T Value} {m : Nat} {tmps : Array Value} (h : TR σ t m tmps) : TR τ t m tmps :=
  ⟨h.1, fun i v e => let ⟨v', e', r⟩ := h.2 i v e; ⟨v', e', r.mono hle⟩⟩

section
variable (B : Nat) (w0 : World) (G : Nat)

def BR (σ : Sig) (w : World) (id : Nat) : ABlk → Prop
  | .cells c ty sz wr ex => ∃ L C T fz, σ id = some L ∧ w.heap[L.blk]? = some (.cells C T fz) ∧ C.size = L.ext ∧ L.sz = sz ∧ (wr = true → fz = (0, 0) ∧ B ≤ L.blk ∧ T = ty) ∧
      (ex = true → T = ty ∧ L.off = 0 ∧ C.size = c.length) ∧
      ∀ (j : Nat) (v : Value), c[j]? = some v → ∃ v', C[L.off + j]? = some v' ∧ VR σ v v'
  | .loop l => ∃ L l', σ id = some L ∧ B ≤ L.blk ∧ w.heap[L.blk]? = some (.loop l') ∧ l'.state = l.state ∧ l'.pending = l.pending ∧ l'.params = l.params ∧
      l'.assign = l.assign ∧ l'.body = l.body ∧ TR σ l.t l.m l'.tmps
  | .dfd o => ∃ L, σ id = some L ∧ B ≤ L.blk ∧ w.heap[L.blk]? = some (.deferred (if o then some [] else none))
  | .gone => True

def ABlk.live : ABlk → Bool
  | .gone => false
  | _ => true

/-- A run may write it. -/
def ABlk.mut : ABlk → Bool
  | .cells _ _ _ wr _ => wr
  | .gone => false
  | _ => true

structure HR (σ : Sig) (S : AS) (w : World) : Prop where
  below : Below B w0 w
  hB : B ≤ w.heap.size
  dom : ∀ id L, σ id = some L → id < S.next ∧ L.blk < w.heap.size
  blk : ∀ id b, S.heap.get id = some b → BR B σ w id b
  inj : ∀ id id' b b' L L', S.heap.get id = some b → b.live = true → S.heap.get id' = some b' → b'.live = true → σ id = some L → σ id' = some L' → L.blk = L'.blk → (b.mut || b'.mut) = true → id = id'
  glob : ∀ g, g < G → ∃ L, σ g = some L ∧ L.blk = g ∧ L.off = 0
end

theorem BR.mono {B : Nat} {σ τ : Sig} (hle : σ.le τ) {w : World} {id : Nat} {b : ABlk} (h : BR B σ w id b) : BR B τ w id b := by
  cases b with
  | cells c ty sz wr ex =>
    obtain ⟨L, C, T, fz, h1, h2, h3, h4, h5, h7, h6⟩ := h
    exact ⟨L, C, T, fz, hle _ _ h1, h2, h3, h4, h5, h7, fun j v e => let ⟨v', e', r⟩ := h6 j v e; ⟨v', e', r.mono hle⟩⟩
  | loop l =>
    obtain ⟨L, l', h1, h2, h3, h4, h5, h6, h7, h8, h9⟩ := h
    exact ⟨L, l', hle _ _ h1, h2, h3, h4, h5, h6, h7, h8, h9.mono hle⟩
  | dfd o =>
    obtain ⟨L, h1, h2, h3⟩ := h
    exact ⟨L, hle _ _ h1, h2, h3⟩
  | gone => trivial

/-- A block that is as it was stands as it stood. -/
theorem BR.of_same {B : Nat} {σ : Sig} {w w' : World} {id : Nat} {b : ABlk} (h : BR B σ w id b) (hs : b.live = true → ∀ L, σ id = some L → w'.heap[L.blk]? = w.heap[L.blk]?) : BR B σ w' id b := by
  cases b with
  | cells c ty sz wr ex =>
    obtain ⟨L, C, T, fz, h1, h2, h3, h4, h5, h6⟩ := h
    exact ⟨L, C, T, fz, h1, (hs rfl L h1).trans h2, h3, h4, h5, h6⟩
  | loop l =>
    obtain ⟨L, l', h1, h2, h3, h4⟩ := h
    exact ⟨L, l', h1, h2, (hs rfl L h1).trans h3, h4⟩
  | dfd o =>
    obtain ⟨L, h1, h2, h3⟩ := h
    exact ⟨L, h1, h2, (hs rfl L h1).trans h3⟩
  | gone => trivial
theorem BR.sig {B : Nat} {σ : Sig} {w : World} {id : Nat} {b : ABlk} (h : BR B σ w id b) (hl : b.live = true) : ∃ L, σ id = some L := by
  cases b with
  | cells c ty sz wr ex => obtain ⟨L, _, _, _, h1, _⟩ := h; exact ⟨L, h1⟩
  | loop l => obtain ⟨L, _, h1, _⟩ := h; exact ⟨L, h1⟩
  | dfd o => obtain ⟨L, h1, _⟩ := h; exact ⟨L, h1⟩
  | gone => simp [ABlk.live] at hl
end Go.Aev
