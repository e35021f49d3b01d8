/-
  A REFERENCE RUN, PART B: an operation's text carried out in the abstract store, and that the model carries it out alike.
-/
import Derived.Test.YtecfjfhcoffhfaaGreatDoorAevA
namespace Go.Aev
open Go Go.RowKit

def AS.cell? (S : AS) (a : Addr) : Option Value :=
  match a.spot with
  | some _ => none
  | none =>
    match S.heap.get a.block with
    | some (.cells c _ _ _ _) => c[a.off]?
    | _ => none

def AS.put? (S : AS) (a : Addr) (v : Value) : Option AS :=
  match a.spot with
  | some _ => none
  | none =>
    match S.heap.get a.block with
    | some (.cells c ty sz true ex) =>
      match Nat.ble (a.off + 1) c.length with
      | true => some { S with heap := S.heap.set a.block (some (.cells (c.set a.off v) ty sz true ex)) }
      | false => none
    | _ => none

def AS.push (S : AS) (b : ABlk) : AS := { heap := S.heap.set S.next (some b), next := S.next + 1 }

def rowOf : Obj → Option (List Value × TypeId)
  | .cells c ty fz =>
    match Nat.beq fz.1 0, Nat.beq fz.2 0 with
    | true, true => some (c.toList, ty)
    | _, _ => none
  | _ => none

/-- The type and the number of the cells of a block of which both are known. -/
def AS.shape? (S : AS) (r : Nat) : Option (TypeId × Nat) :=
  match S.heap.get r with
  | some (.cells c ty _ _ true) => some (ty, c.length)
  | _ => none

def ai (P : Program) (sz : Nat) {α : Type} : Sem α → AS → Option (α × AS)
  | .pure a, S => some (a, S)
  | .load _ a k, S =>
    match S.cell? a with
    | some v => ai P sz (k v) S
    | none => none
  | .store _ a v k, S =>
    match oneB v with
    | false => none
    | true =>
      match S.put? a v with
      | some S' => ai P sz k S'
      | none => none
  | .new o k, S =>
    match rowOf o with
    | some (c, ty) => ai P sz (k S.next) (S.push (.cells c ty sz true true))
    | none => none
  | .shape r k, S =>
    match S.shape? r with
    | some x => ai P sz (k (some x)) S
    | none => none
  | .program k, S => ai P sz (k P) S
  | .mark _ k, S => ai P sz k S
  | _, _ => none

theorem ai_bind (P : Program) (sz : Nat) {α β : Type} (f : α → Sem β) : ∀ (e : Sem α) (S : AS), ai P sz (e.bind f) S = match ai P sz e S with
    | some (a, S') => ai P sz (f a) S'
    | none => none := by
  intro e
  induction e with
  | pure a => intro S; simp [Sem.bind, ai]
  | load m a k ih => intro S; simp only [Sem.bind, ai]; cases S.cell? a <;> simp [ih]
  | store m a v k ih => intro S; simp only [Sem.bind, ai]; cases oneB v <;> simp; cases S.put? a v <;> simp [ih]
  | new o k ih =>
    intro S
    simp only [Sem.bind, ai]
    cases rowOf o <;> simp [ih]
  | program k ih => intro S; simp [Sem.bind, ai, ih]
  | mark m k ih => intro S; simp [Sem.bind, ai, ih]
  | shape r k ih => intro S; simp only [Sem.bind, ai]; cases S.shape? r <;> simp [ih]
  | freeze a n k ih => intro S; simp [Sem.bind, ai]
  | frozen a k ih => intro S; simp [Sem.bind, ai]
  | getObj r k ih => intro S; simp [Sem.bind, ai]
  | setObj r o k ih => intro S; simp [Sem.bind, ai]
  | choose q k ih => intro S; simp [Sem.bind, ai]
  | sys c k ih => intro S; simp [Sem.bind, ai]
  | halt h => intro S; simp [Sem.bind, ai]

/-! ### The memory -/
section
variable {B : Nat} {w0 : World} {G : Nat}

def AddrR (σ : Sig) (a a' : Addr) : Prop := ∃ L, σ a.block = some L ∧ a.spot = none ∧ a' = ⟨L.blk, L.off + a.off, none⟩
theorem AddrR.add {σ : Sig} {a a' : Addr} (h : AddrR σ a a') (n : Nat) : AddrR σ (a.add n) (a'.add n) := by
  obtain ⟨L, h1, h2, rfl⟩ := h
  unfold Addr.add
  by_cases hn : n = 0
  · simp [hn]; exact ⟨L, h1, h2, rfl⟩
  · simp only [hn, if_false]; exact ⟨L, h1, rfl, by simp [Nat.add_assoc]⟩
theorem AddrR.mono {σ τ : Sig} (hle : σ.le τ) {a a' : Addr} (h : AddrR σ a a') : AddrR τ a a' :=
  let ⟨L, h1, h2⟩ := h; ⟨L, hle _ _ h1, h2⟩

theorem cell_inv {S : AS} {a : Addr} {v : Value} (e : S.cell? a = some v) : ∃ c ty sz wr ex, S.heap.get a.block = some (.cells c ty sz wr ex) ∧ c[a.off]? = some v := by
  unfold AS.cell? at e
  split at e
  · simp at e
  · split at e
    · rename_i c ty sz wr ex hg; exact ⟨c, ty, sz, wr, ex, hg, e⟩
    · simp at e

theorem HR.cell {σ : Sig} {S : AS} {w : World} (h : HR B w0 G σ S w) {a a' : Addr} (ha : AddrR σ a a') {v : Value} (e : S.cell? a = some v) :
    ∃ v', w.cell? a' = some v' ∧ VR σ v v' := by
  obtain ⟨c, ty, sz, wr, ex, hg, hc⟩ := cell_inv e
  obtain ⟨L, h1, h2, rfl⟩ := ha
  obtain ⟨L', C, Ty, fz, k1, k2, _, _, _, _, k6⟩ := h.blk _ _ hg
  rw [h1] at k1; cases k1
  obtain ⟨v', e', r⟩ := k6 _ _ hc
  exact ⟨v', by simp [World.cell?, k2, e'], r⟩

theorem put_inv {S S' : AS} {a : Addr} {v : Value} (e : S.put? a v = some S') : ∃ c ty sz ex, S.heap.get a.block = some (.cells c ty sz true ex) ∧ a.off < c.length ∧
    S' = { S with heap := S.heap.set a.block (some (.cells (c.set a.off v) ty sz true ex)) } := by
  unfold AS.put? at e
  split at e
  · simp at e
  · split at e
    · rename_i c ty sz ex hg
      split at e
      · rename_i hb; have := Nat.le_of_ble_eq_true hb; exact ⟨c, ty, sz, ex, hg, by omega, by simpa using e.symm⟩
      · simp at e
    · simp at e

theorem HR.put {σ : Sig} {S S' : AS} {w : World} (h : HR B w0 G σ S w) {a a' : Addr} (ha : AddrR σ a a') {v v' : Value} (hv : VR σ v v') (e : S.put? a v = some S') :
    (∃ u, w.cell? a' = some u) ∧ w.frozen? a' = false ∧ HR B w0 G σ S' (w.setCell a' v') := by
  obtain ⟨c, ty, sz, ex, hg, hlt, rfl⟩ := put_inv e
  obtain ⟨L, h1, h2, rfl⟩ := ha
  obtain ⟨L', C, Ty, fz, k1, k2, k3, k4, k5, k7, k6⟩ := h.blk _ _ hg
  rw [h1] at k1; cases k1
  obtain ⟨rfl, kB, kT⟩ := k5 rfl
  obtain ⟨u, hu, _⟩ := k6 a.off c[a.off] (by simp [hlt])
  have hCs : L.off + a.off < C.size := (Array.getElem?_eq_some_iff.1 hu).1
  have hblk : L.blk < w.heap.size := (h.dom _ _ h1).2
  have same : ∀ k, k ≠ L.blk → (w.setCell ⟨L.blk, L.off + a.off, none⟩ v').heap[k]? = w.heap[k]? := fun k hk => Below.heap_setCell _ _ _ _ hk
  have here : (w.setCell ⟨L.blk, L.off + a.off, none⟩ v').heap[L.blk]? = some (.cells (C.setIfInBounds (L.off + a.off) v') Ty (0, 0)) := by
    simp [World.setCell, Array.getElem?_modify, k2]
  refine ⟨⟨u, by simp [World.cell?, k2, hu]⟩, by simp [World.frozen?, k2], ?_⟩
  refine ⟨h.below.setCell (p := ⟨L.blk, L.off + a.off, none⟩) kB v', by simpa [World.setCell] using h.hB, fun id M hM => by simpa [World.setCell] using h.dom id M hM, ?_, ?_, h.glob⟩
  · intro id b hb
    simp only [T.get_set] at hb
    by_cases hid : id = a.block
    · subst hid
      simp only [if_true, Option.some.injEq] at hb
      subst hb
      refine ⟨L, _, Ty, (0, 0), h1, here, by simpa using k3, k4, fun _ => ⟨rfl, kB, kT⟩, fun hx => by simpa using k7 hx, fun j x hx => ?_⟩
      rw [List.getElem?_set] at hx
      by_cases hj : a.off = j
      · subst hj
        simp [hlt] at hx; subst hx
        exact ⟨v', by simp [hCs], hv⟩
      · rw [if_neg hj] at hx
        obtain ⟨x', hx', r⟩ := k6 _ _ hx
        exact ⟨x', by rw [Array.getElem?_setIfInBounds, if_neg (by omega)]; exact hx', r⟩
    · rw [if_neg hid] at hb
      refine (h.blk id b hb).of_same (fun hl M hM => same _ fun eM => hid ?_)
      exact h.inj id a.block b _ M L hb hl hg rfl hM h1 eM (by simp [ABlk.mut])
  · intro id id' b b' M M' hb hl hb' hl' hM hM' e hm
    simp only [T.get_set] at hb hb'
    by_cases hid : id = a.block
    · by_cases hid' : id' = a.block
      · rw [hid, hid']
      · rw [if_neg hid'] at hb'
        subst hid
        exact h.inj _ _ _ _ M M' hg rfl hb' hl' hM hM' e (by simp [ABlk.mut])
    · rw [if_neg hid] at hb
      by_cases hid' : id' = a.block
      · subst hid'
        exact h.inj _ _ _ _ M M' hb hl hg rfl hM hM' e (by simp [ABlk.mut])
      · rw [if_neg hid'] at hb'
        exact h.inj _ _ _ _ M M' hb hl hb' hl' hM hM' e hm

def Sig.more (σ : Sig) (n : Nat) (L : Loc) : Sig := fun i => if i = n then some L else σ i
theorem Sig.more_le {σ : Sig} {n : Nat} {L : Loc} (h : σ n = none) : σ.le (σ.more n L) := fun i M e => by
  unfold Sig.more
  by_cases hi : i = n
  · subst hi; rw [h] at e; cases e
  · rw [if_neg hi]; exact e
theorem Sig.more_self (σ : Sig) (n : Nat) (L : Loc) : (σ.more n L) n = some L := by simp [Sig.more]

theorem HR.fresh {σ : Sig} {S : AS} {w : World} (h : HR B w0 G σ S w) : σ S.next = none := by
  cases e : σ S.next with
  | none => rfl
  | some L => have := (h.dom _ _ e).1; omega

/-- A new block, of whatever kind. -/
theorem HR.push {σ : Sig} {S : AS} {w : World} (h : HR B w0 G σ S w) {L : Loc} (hL : L.blk = w.heap.size) {o : Obj} {b : ABlk}
    (hb : BR B (σ.more S.next L) { w with heap := w.heap.push o } S.next b) :
    HR B w0 G (σ.more S.next L) (S.push b) { w with heap := w.heap.push o } := by
  have hle := Sig.more_le (L := L) h.fresh
  have old : ∀ k, k < w.heap.size → (w.heap.push o)[k]? = w.heap[k]? := fun k hk => by rw [Array.getElem?_push, if_neg (by omega)]
  refine ⟨h.below.alloc h.hB o, by simp; have := h.hB; omega, ?_, ?_, ?_, ?_⟩
  · intro id M hM
    unfold Sig.more at hM
    by_cases hi : id = S.next
    · rw [if_pos hi] at hM; cases hM; simp [AS.push, hi, hL]
    · rw [if_neg hi] at hM; have := h.dom id M hM; simp [AS.push]; omega
  · intro id c hc
    simp only [AS.push, T.get_set] at hc
    by_cases hi : id = S.next
    · rw [if_pos hi] at hc; cases hc; rw [hi]; exact hb
    · rw [if_neg hi] at hc
      refine ((h.blk id c hc).of_same (w' := { w with heap := w.heap.push o }) (fun _ M hM => old _ (h.dom id M hM).2)).mono hle
  · intro id id' c c' M M' hc hl hc' hl' hM hM' e hm
    simp only [AS.push, T.get_set] at hc hc'
    unfold Sig.more at hM hM'
    by_cases hi : id = S.next <;> by_cases hi' : id' = S.next
    · rw [hi, hi']
    · rw [if_pos hi] at hM; rw [if_neg hi'] at hM'; cases hM; have := (h.dom _ _ hM').2; omega
    · rw [if_neg hi] at hM; rw [if_pos hi'] at hM'; cases hM'; have := (h.dom _ _ hM).2; omega
    · rw [if_neg hi] at hM hc; rw [if_neg hi'] at hM' hc'
      exact h.inj _ _ _ _ M M' hc hl hc' hl' hM hM' e hm
  · intro g hg
    obtain ⟨M, h1, h2⟩ := h.glob g hg
    exact ⟨M, hle _ _ h1, h2⟩

/-- A new row of cells. -/
theorem HR.new {σ : Sig} {S : AS} {w : World} (h : HR B w0 G σ S w) {c c' : Array Value} (hc : AR σ c c') (Ty : TypeId) (sz : Nat) :
    HR B w0 G (σ.more S.next ⟨w.heap.size, 0, c'.size, sz⟩) (S.push (.cells c.toList Ty sz true true)) { w with heap := w.heap.push (.cells c' Ty) } := by
  refine h.push rfl ⟨_, c', Ty, (0, 0), Sig.more_self _ _ _, by simp, rfl, rfl, fun _ => ⟨rfl, h.hB, rfl⟩, fun _ => ⟨rfl, rfl, by simp [hc.1]⟩, fun j v e => ?_⟩
  rw [Array.getElem?_toList] at e
  obtain ⟨v', e', r⟩ := hc.get e
  exact ⟨v', by simpa using e', r.mono (Sig.more_le h.fresh)⟩

/-! ### Texts that stand to each other -/
variable (B w0 G) in
def RSem (P : Program) (sz : Nat) {α β : Type} (A : Sig → α → β → Prop) (σ₀ : Sig) (sa : Sem α) (sc : Sem β) : Prop :=
  ∀ σ S w, σ₀.le σ → HR B w0 G σ S w → ∀ a S', ai P sz sa S = some (a, S') → ∃ σ' b w', σ.le σ' ∧ sc.run P w = .ok b w' ∧ A σ' a b ∧ HR B w0 G σ' S' w'

variable {P : Program} {sz : Nat} {σ₀ : Sig}
theorem RSem.pure {α β : Type} {A : Sig → α → β → Prop} {a : α} {b : β} (h : ∀ σ, σ₀.le σ → A σ a b) : RSem B w0 G P sz A σ₀ (.pure a) (.pure b) := by
  intro σ S w hle hr x S' e
  simp only [ai, Option.some.injEq, Prod.mk.injEq] at e
  obtain ⟨rfl, rfl⟩ := e
  exact ⟨σ, b, w, Sig.le_refl _, rfl, h σ hle, hr⟩
theorem RSem.bind {α β γ δ : Type} {A : Sig → α → β → Prop} {A' : Sig → γ → δ → Prop} {sa : Sem α} {sc : Sem β} {f : α → Sem γ} {g : β → Sem δ}
    (h : RSem B w0 G P sz A σ₀ sa sc) (k : ∀ σ a b, σ₀.le σ → A σ a b → RSem B w0 G P sz A' σ (f a) (g b)) : RSem B w0 G P sz A' σ₀ (sa.bind f) (sc.bind g) := by
  intro σ S w hle hr x S' e
  rw [ai_bind] at e
  split at e
  · rename_i a S1 e1
    obtain ⟨σ1, b, w1, l1, r1, hA, hr1⟩ := h σ S w hle hr a S1 e1
    obtain ⟨σ2, d, w2, l2, r2, hA', hr2⟩ := k σ1 a b (Sig.le_trans hle l1) hA σ1 S1 w1 (Sig.le_refl _) hr1 x S' e
    exact ⟨σ2, d, w2, Sig.le_trans l1 l2, by rw [show sc.bind g = sc >>= g from rfl, Sem.run_bind, r1]; exact r2, hA', hr2⟩
  · simp at e
theorem RSem.halt {α β : Type} {A : Sig → α → β → Prop} {h : Halt} {sc : Sem β} : RSem B w0 G P sz A σ₀ (.halt h : Sem α) sc := by
  intro σ S w hle hr x S' e; simp [ai] at e
theorem RSem.load {m : Mode} {a a' : Addr} (ha : AddrR σ₀ a a') : RSem B w0 G P sz VR σ₀ (.load m a .pure) (.load m a' .pure) := by
  intro σ S w hle hr x S' e
  simp only [ai] at e
  split at e
  · rename_i v hv
    simp only [Option.some.injEq, Prod.mk.injEq] at e
    obtain ⟨rfl, rfl⟩ := e
    obtain ⟨v', e', r⟩ := hr.cell (ha.mono hle) hv
    exact ⟨σ, v', w, Sig.le_refl _, by simp [Sem.run, e'], r, hr⟩
  · simp at e
theorem VR.oneCell {σ : Sig} {v v' : Value} (h : VR σ v v') : oneB v' = oneB v := by cases h <;> first | rfl | assumption
theorem RSem.store {m : Mode} {a a' : Addr} (ha : AddrR σ₀ a a') {v v' : Value} (hv : VR σ₀ v v') : RSem B w0 G P sz (fun _ (_ _ : Unit) => True) σ₀ (.store m a v (.pure ())) (.store m a' v' (.pure ())) := by
  intro σ S w hle hr x S' e
  simp only [ai] at e
  split at e
  · simp at e
  · rename_i h1
    split at e
    · rename_i S1 hp
      simp only [Option.some.injEq, Prod.mk.injEq] at e
      obtain ⟨_, rfl⟩ := e
      obtain ⟨⟨u, hu⟩, hf, hr'⟩ := hr.put (ha.mono hle) (hv.mono hle) hp
      have h1' : oneB v' = true := hv.oneCell.trans h1
      refine ⟨σ, (), _, Sig.le_refl _, ?_, trivial, hr'⟩
      cases v' <;> simp_all [Sem.run, oneB]
    · simp at e
theorem RSem.newCells {c c' : Array Value} (hc : AR σ₀ c c') (Ty : TypeId) :
    RSem B w0 G P sz (fun σ r r' => ∃ L, σ r = some L ∧ L.off = 0 ∧ L.blk = r' ∧ L.sz = sz ∧ L.ext = c'.size) σ₀ (.new (.cells c Ty) .pure) (.new (.cells c' Ty) .pure) := by
  intro σ S w hle hr x S' e
  simp only [ai, rowOf, Option.some.injEq, Prod.mk.injEq] at e
  obtain ⟨rfl, rfl⟩ := e
  exact ⟨_, _, _, Sig.more_le hr.fresh, rfl, ⟨_, Sig.more_self _ _ _, rfl, rfl, rfl, rfl⟩, hr.new (hc.mono hle) Ty sz⟩
theorem RSem.shape {r r' : Nat} (ha : ∃ L, σ₀ r = some L ∧ r' = L.blk) : RSem B w0 G P sz (fun _ a b => a = b) σ₀ (.shape r .pure) (.shape r' .pure) := by
  intro σ S w hle hr x S' e
  obtain ⟨L, hL, rfl⟩ := ha
  simp only [ai] at e
  split at e
  · rename_i y hy
    simp only [Option.some.injEq, Prod.mk.injEq] at e
    obtain ⟨rfl, rfl⟩ := e
    unfold AS.shape? at hy
    split at hy
    · rename_i c ty sz wr hg
      simp only [Option.some.injEq] at hy
      subst hy
      obtain ⟨L', C, Ty, fz, k1, k2, k3, k4, k5, k7, k6⟩ := hr.blk _ _ hg
      rw [hle _ _ hL] at k1; cases k1
      obtain ⟨rfl, _, hs⟩ := k7 rfl
      exact ⟨σ, _, w, Sig.le_refl _, by simp [Sem.run, World.shape?, k2, hs], rfl, hr⟩
    · simp at hy
  · simp at e
theorem RSem.program {α β : Type} {A : Sig → α → β → Prop} {f : Program → Sem α} {g : Program → Sem β} (h : RSem B w0 G P sz A σ₀ (f P) (g P)) : RSem B w0 G P sz A σ₀ (.program f) (.program g) := by
  intro σ S w hle hr x S' e
  simp only [ai] at e
  obtain ⟨σ', b, w', h1, h2, h3⟩ := h σ S w hle hr x S' e
  exact ⟨σ', b, w', h1, by simpa [Sem.run] using h2, h3⟩
theorem RSem.mark {α β : Type} {A : Sig → α → β → Prop} {m m' : Mark} {f : Sem α} {g : Sem β} (h : RSem B w0 G P sz A σ₀ f g) : RSem B w0 G P sz A σ₀ (.mark m f) (.mark m' g) := by
  intro σ S w hle hr x S' e
  simp only [ai] at e
  obtain ⟨σ', b, w', h1, h2, h3⟩ := h σ S w hle hr x S' e
  exact ⟨σ', b, w', h1, by simpa [Sem.run] using h2, h3⟩
theorem RSem.weaken {α β : Type} {A A' : Sig → α → β → Prop} {sa : Sem α} {sc : Sem β} (h : RSem B w0 G P sz A σ₀ sa sc) (k : ∀ σ a b, A σ a b → A' σ a b) : RSem B w0 G P sz A' σ₀ sa sc :=
  fun σ S w hle hr x S' e => let ⟨σ', b, w', h1, h2, h3, h4⟩ := h σ S w hle hr x S' e; ⟨σ', b, w', h1, h2, k _ _ _ h3, h4⟩
theorem RSem.le {α β : Type} {A : Sig → α → β → Prop} {σ₁ : Sig} {sa : Sem α} {sc : Sem β} (h : RSem B w0 G P sz A σ₀ sa sc) (l : σ₀.le σ₁) : RSem B w0 G P sz A σ₁ sa sc :=
  fun σ S w hle hr x S' e => h σ S w (Sig.le_trans l hle) hr x S' e

/-- A text of the program's table alone: it is the same, and hands back the same. -/
def Tab {α : Type} (P : Program) : Sem α → Prop
  | .pure _ => True
  | .program k => Tab P (k P)
  | .mark _ k => Tab P k
  | .halt _ => True
  | _ => False
theorem RSem.tab {α : Type} : ∀ {s : Sem α}, Tab P s → RSem B w0 G P sz (fun _ a b => a = b) σ₀ s s := by
  intro s
  induction s with
  | pure a => intro _; exact .pure fun _ _ => rfl
  | program k ih => intro h; exact .program (ih P h)
  | mark m k ih => intro h; exact .mark (ih h)
  | halt h => intro _; exact .halt
  | load m a k ih => intro h; exact h.elim
  | store m a v k ih => intro h; exact h.elim
  | new o k ih => intro h; exact h.elim
  | shape r k ih => intro h; exact h.elim
  | freeze a n k ih => intro h; exact h.elim
  | frozen a k ih => intro h; exact h.elim
  | getObj r k ih => intro h; exact h.elim
  | setObj r o k ih => intro h; exact h.elim
  | choose q k ih => intro h; exact h.elim
  | sys c k ih => intro h; exact h.elim
theorem Tab.bind {α β : Type} {f : α → Sem β} : ∀ {s : Sem α}, Tab P s → (∀ a, Tab P (f a)) → Tab P (s.bind f) := by
  intro s
  induction s with
  | pure a => intro _ h; exact h a
  | program k ih => intro h h'; exact ih P h h'
  | mark m k ih => intro h h'; exact ih h h'
  | halt h => intro _ _; trivial
  | _ => intro h; exact h.elim
end
end Go.Aev
