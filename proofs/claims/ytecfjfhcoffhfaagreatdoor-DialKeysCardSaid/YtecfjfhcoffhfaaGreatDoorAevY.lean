/-
  A REFERENCE RUN, PART Y: operations on memory as equations; the environment of a run whose arguments are not known.
-/
import Derived.Test.YtecfjfhcoffhfaaGreatDoorAevR
set_option linter.unusedSimpArgs false
set_option linter.unusedVariables false
namespace Go.Aev
open Go Go.RowKit

section
variable {P : Program} {E : Env} {r : Rec}

/-! ### Stores -/
def AS.upd (S : AS) (id : Nat) (b : ABlk) : AS := { heap := S.heap.set id (some b), next := S.next }
theorem next_push (S : AS) (b : ABlk) : (S.push b).next = S.next + 1 := rfl
theorem next_upd (S : AS) (id : Nat) (b : ABlk) : (S.upd id b).next = S.next := rfl
theorem push_eq (S : AS) (b : ABlk) {id : Nat} (h : id = S.next) : (S.push b).heap.get id = some b := by simp [AS.push, T.get_set, h]
theorem push_ne (S : AS) (b : ABlk) {id : Nat} (h : id ≠ S.next) : (S.push b).heap.get id = S.heap.get id := by simp [AS.push, T.get_set, h]
theorem upd_eq (S : AS) (b : ABlk) {id j : Nat} (h : j = id) : (S.upd id b).heap.get j = some b := by simp [AS.upd, T.get_set, h]
theorem upd_ne (S : AS) (b : ABlk) {id j : Nat} (h : j ≠ id) : (S.upd id b).heap.get j = S.heap.get j := by simp [AS.upd, T.get_set, h]

theorem addr_add (b o n : Nat) : Addr.add ⟨b, o, none⟩ n = ⟨b, o + n, none⟩ := by
  unfold Addr.add
  by_cases h : n = 0 <;> simp [h]
theorem cells_agg (cs : Array Value) : (Value.agg cs).cells = cs := rfl
theorem cells_int (k : IntKind) (n : Int) : (Value.int k n).cells = #[.int k n] := rfl
theorem cells_bool (b : Bool) : (Value.bool b).cells = #[.bool b] := rfl
theorem cells_string (s : ByteArray) : (Value.string s).cells = #[.string s] := rfl
theorem cells_pointer (a : Option Addr) : (Value.pointer a).cells = #[.pointer a] := rfl
theorem cells_slice (a : Option Addr) (n c : Nat) : (Value.slice a n c).cells = #[.slice a n c] := rfl
theorem cells_func (f : Fn) (a b : Array Value) : (Value.func f a b).cells = #[.func f a b] := rfl
def cellOf (b : Option ABlk) (o : Nat) : Option Value :=
  match b with
  | some (.cells c _ _ _ _) => c[o]?
  | _ => none
theorem cellOf_cells (c : List Value) (ty sz : Nat) (wr ex : Bool) (o : Nat) : cellOf (some (.cells c ty sz wr ex)) o = c[o]? := rfl
theorem cell_at (S : AS) (b o : Nat) : S.cell? ⟨b, o, none⟩ = cellOf (S.heap.get b) o := by
  simp only [AS.cell?, cellOf]
  cases S.heap.get b with
  | none => rfl
  | some x => cases x <;> rfl

def putOf (S : AS) (id o : Nat) (v : Value) (b : Option ABlk) : Option AS :=
  match b with
  | some (.cells c ty sz true ex) => if o < c.length then some (S.upd id (.cells (c.set o v) ty sz true ex)) else none
  | _ => none
theorem putOf_cells (S : AS) (id o : Nat) (v : Value) (c : List Value) (ty sz : Nat) (ex : Bool) : putOf S id o v (some (.cells c ty sz true ex)) = sel (decide (o < c.length)) (some (S.upd id (.cells (c.set o v) ty sz true ex))) none := by
  by_cases h : o < c.length <;> simp [putOf, sel, h]
theorem put_at (S : AS) (b o : Nat) (v : Value) : S.put? ⟨b, o, none⟩ v = putOf S b o v (S.heap.get b) := by
  simp only [AS.put?, putOf]
  cases S.heap.get b with
  | none => rfl
  | some x =>
    cases x <;> try rfl
    rename_i c ty sz wr ex
    cases wr <;> try rfl
    simp only
    by_cases h : o < c.length
    · have : Nat.ble (o + 1) c.length = true := by rw [Nat.ble_eq]; exact h
      simp [h, this, AS.upd]
    · have : Nat.ble (o + 1) c.length = false := by
        cases hb : Nat.ble (o + 1) c.length with
        | false => rfl
        | true => exact absurd (Nat.le_of_ble_eq_true hb) h
      simp [h, this]

/-! ### Reading and writing variables -/
def rdCells (S : AS) (a : Addr) (i : Nat) : Nat → Option (List Value)
  | 0 => some []
  | n + 1 =>
    match S.cell? (a.add i) with
    | some v => (rdCells S a (i + 1) n).map fun l => v :: l
    | none => none
def ldA (P : Program) (t : TypeId) (a : Addr) (S : AS) : Option Value :=
  match P.underlying t with
  | some d =>
    match aggD d with
    | false => S.cell? a
    | true =>
      match szOf P t with
      | some n => (rdCells S a 0 n).map fun l => .agg l.toArray
      | none => none
  | none => none
def wrCells (S : AS) (a : Addr) : List Value → Nat → Option AS
  | [], _ => some S
  | v :: l, i =>
    match oneB v with
    | false => none
    | true =>
      match S.put? (a.add i) v with
      | some S' => wrCells S' a l (i + 1)
      | none => none
def stA (P : Program) (t : TypeId) (a : Addr) (v : Value) (S : AS) : Option AS :=
  match szOf P t with
  | some n => if v.cells.size = n then wrCells S a v.cells.toList 0 else none
  | none => none

theorem ai_pure {sz : Nat} {α : Type} (a : α) (S : AS) : ai P sz (pure a : Sem α) S = some (a, S) := rfl
theorem ai_bind' {sz : Nat} {α β : Type} (e : Sem α) (f : α → Sem β) (S : AS) : ai P sz (e >>= f) S = match ai P sz e S with
    | some (a, S') => ai P sz (f a) S'
    | none => none := ai_bind P sz f e S
theorem ai_tab {α : Type} : ∀ {s : Sem α}, Tab P s → ∀ {a : α} {S : AS}, at0 P s = some a → ai P 0 s S = some (a, S) := by
  intro s
  induction s with
  | pure a => intro _ b S e; simp only [at0, Option.some.injEq] at e; subst e; rfl
  | program k ih => intro h b S e; simp only [at0] at e; exact ih P h e
  | mark m k ih => intro h b S e; simp only [at0] at e; exact ih h e
  | halt x => intro h b S e; simp [at0] at e
  | _ => intro h b S e; simp [at0] at e

theorem ai_typeInfo {t : TypeId} {i : TypeInfo} (h : P.info? t = some i) (S : AS) : ai P 0 (typeInfo t) S = some (i, S) := by
  simp [typeInfo, ai_bind', program, ai, h, ai_pure]
theorem ai_sizeOf {t : TypeId} {n : Nat} (h : szOf P t = some n) (S : AS) : ai P 0 (sizeOf t) S = some (n, S) := by
  unfold szOf at h
  cases hi : P.info? t with
  | none => simp [hi] at h
  | some i => simp [hi] at h; subst h; show ai P 0 ((typeInfo t).bind fun i => .pure i.size) S = _; rw [ai_bind, ai_typeInfo hi]; rfl
theorem ai_underlying {t : TypeId} {d : TypeDesc} (h : P.underlying t = some d) (S : AS) : ai P 0 (underlying t) S = some (d, S) := by
  simp [underlying, ai_bind', program, ai, h, ai_pure]
theorem ai_isAgg {t : TypeId} {d : TypeDesc} (h : P.underlying t = some d) (S : AS) : ai P 0 (isAgg t) S = some (aggD d, S) := by
  simp only [isAgg, ai_bind', ai_underlying h]
  cases d <;> rfl

theorem ai_load (a : Addr) (S : AS) : ai P 0 (load a) S = (S.cell? a).map fun v => (v, S) := by
  simp only [load, ai]
  cases S.cell? a <;> rfl
theorem ai_loadCells (a : Addr) : ∀ (n i : Nat) (acc : Array Value) (S : AS), ai P 0 (loadCellsFrom a i n acc) S = (rdCells S a i n).map fun l => (acc ++ l.toArray, S)
  | 0, i, acc, S => by simp [loadCellsFrom, rdCells, ai_pure]
  | n + 1, i, acc, S => by
    have ih := fun v => ai_loadCells a n (i + 1) (acc.push v) S
    simp only [loadCellsFrom, ai_bind', ai_load, rdCells]
    cases S.cell? (a.add i) with
    | none => rfl
    | some v =>
      simp only [Option.map_some, ih, Option.map_map]
      cases rdCells S a (i + 1) n with
      | none => rfl
      | some l => simp

theorem ai_loadVar (t : TypeId) (a : Addr) (S : AS) {d : TypeDesc} (hu : P.underlying t = some d) (hz : aggD d = true → (szOf P t).isSome = true) : ai P 0 (loadVar t a) S = (ldA P t a S).map fun v => (v, S) := by
  simp only [loadVar, ai_bind', ai_isAgg hu, ldA, hu]
  cases hd : aggD d with
  | false =>
    simp only [Bool.false_eq_true, if_false]
    exact ai_load a S
  | true =>
    obtain ⟨n, hn⟩ := Option.isSome_iff_exists.1 (hz hd)
    simp only [if_true, ai_bind', ai_sizeOf hn, hn, loadCells, ai_loadCells]
    cases rdCells S a 0 n with
    | none => rfl
    | some l => simp [ai_pure]

theorem ai_storeCells (a : Addr) : ∀ (l : List Value) (i : Nat) (S : AS), ai P 0 (storeCells a l i) S = (wrCells S a l i).map fun S' => ((), S')
  | [], i, S => rfl
  | v :: l, i, S => by
    have ih := fun S' => ai_storeCells a l (i + 1) S'
    have e : ai P 0 (storeCells a (v :: l) i) S = match oneB v with
        | false => none
        | true => match S.put? (a.add i) v with
          | some S' => ai P 0 (storeCells a l (i + 1)) S'
          | none => none := rfl
    rw [e]
    simp only [wrCells]
    cases oneB v with
    | false => rfl
    | true =>
      simp only
      cases S.put? (a.add i) v with
      | none => rfl
      | some S' => exact ih S'
theorem ai_storeVar (t : TypeId) (a : Addr) (v : Value) (S : AS) {n : Nat} (hz : szOf P t = some n) : ai P 0 (storeVar t a v) S = (stA P t a v S).map fun S' => ((), S') := by
  simp only [storeVar, ai_bind', ai_sizeOf hz, stA, hz]
  by_cases h : v.cells.size = n
  · simp [h, ai_storeCells]
  · simp [h, stuck, ai_bind', ai, Sem.bind]

/-! ### The operations: what is done first, and the rest where it does not serve -/
variable (dst : Option Tmp) (ty : TypeId) (pos : String) (after : Array Edge) (g : Option (Nat × Bool)) (f : Fr) (S : AS)

theorem op_struct1 {o : Op} {x : Operand} (ho : o.operands = #[x]) (hm : ∀ y, o ≠ .move y) (ha : ∀ y, o ≠ .assign y) (hp : ∀ a b c, o ≠ .pick a b c) (hc : ∀ g a t, o ≠ .call ⟨.value g, a, t⟩) {v : Value} (hx : f.val E.G x = some v) {z : Option Value × AS} (h : evStruct P ⟨dst, o, ty, pos, after, g⟩ (fun x => (f.val E.G x).getD undef) S = some z) :
    evOp P E r ⟨dst, o, ty, pos, after, g⟩ f S = some (z.1.getD undef, z.2) := by
  have hs : evSimple P ⟨dst, o, ty, pos, after, g⟩ (fun x => (f.val E.G x).getD undef) S = some z := by simp [evSimple, h]
  unfold evOp
  split
  · rename_i y hy; exact absurd hy (hm y)
  · rename_i y hy; exact absurd hy (ha y)
  · rename_i a b c hy; exact absurd hy (hp a b c)
  · rename_i g' a t hy; exact absurd hy (hc g' a t)
  · simp only [ho, vals_one hx, hs]
    obtain ⟨z1, z2⟩ := z
    cases z1 <;> rfl
theorem op_struct2 {o : Op} {x y : Operand} (ho : o.operands = #[x, y]) (hm : ∀ y, o ≠ .move y) (ha : ∀ y, o ≠ .assign y) (hp : ∀ a b c, o ≠ .pick a b c) (hc : ∀ g a t, o ≠ .call ⟨.value g, a, t⟩) {u v : Value} (hx : f.val E.G x = some u) (hy : f.val E.G y = some v) {z : Option Value × AS} (h : evStruct P ⟨dst, o, ty, pos, after, g⟩ (fun x => (f.val E.G x).getD undef) S = some z) :
    evOp P E r ⟨dst, o, ty, pos, after, g⟩ f S = some (z.1.getD undef, z.2) := by
  have hs : evSimple P ⟨dst, o, ty, pos, after, g⟩ (fun x => (f.val E.G x).getD undef) S = some z := by simp [evSimple, h]
  unfold evOp
  split
  · rename_i y hy; exact absurd hy (hm y)
  · rename_i y hy; exact absurd hy (ha y)
  · rename_i a b c hy; exact absurd hy (hp a b c)
  · rename_i g' a t hy; exact absurd hy (hc g' a t)
  · simp only [ho, vals_two hx hy, hs]
    obtain ⟨z1, z2⟩ := z
    cases z1 <;> rfl

/-- A variable of its own. -/
def boxed (e : TypeId) (v : Value) (S : AS) : AS := S.push (.cells v.cells.toList e 0 true true)
theorem op_box (e : TypeId) (x : Operand) : evOp P E r ⟨dst, .box e x, ty, pos, after, g⟩ f S = firstOf ((f.val E.G x).map fun v => (.pointer (some ⟨S.next, 0, none⟩), boxed e v S)) (evOpB P E r ⟨dst, .box e x, ty, pos, after, g⟩ f S) := by
  refine firstOf_of fun z hz => ?_
  obtain ⟨v, hv, rfl⟩ := Option.map_eq_some_iff.1 hz
  refine op_struct1 (z := (some _, _)) dst ty pos after g f S rfl (by simp) (by simp) (by simp) (by simp) hv ?_
  simp only [evStruct, hv, Option.getD_some]
  rfl
theorem op_load (t : TypeId) (x : Operand) : evOp P E r ⟨dst, .load t x, ty, pos, after, g⟩ f S = firstOf (match f.val E.G x with
    | some (.pointer (some ⟨b, o, none⟩)) => (ldA P t ⟨b, o, none⟩ S).map fun v => (v, S)
    | _ => none) (evOpB P E r ⟨dst, .load t x, ty, pos, after, g⟩ f S) := by
  refine firstOf_of fun z hz => ?_
  split at hz
  · rename_i b o hx
    obtain ⟨v, hv, rfl⟩ := Option.map_eq_some_iff.1 hz
    refine op_struct1 (z := (some v, S)) dst ty pos after g f S rfl (by simp) (by simp) (by simp) (by simp) hx ?_
    have hv0 := hv
    unfold ldA at hv
    split at hv
    · rename_i d hu
      have hl : ai P 0 (Instr.loadAt t (.pointer (some ⟨b, o, none⟩))) S = ai P 0 (loadVar t ⟨b, o, none⟩) S := rfl
      have := ai_loadVar t ⟨b, o, none⟩ S hu (fun hd => by
        rw [hd] at hv
        simp only at hv
        split at hv
        · rename_i n hn; rw [hn]; rfl
        · simp at hv)
      simp [evStruct, hx, topId, hl, this, hv0]
    · simp at hv
  · simp at hz
theorem op_store (t : TypeId) (x y : Operand) : evOp P E r ⟨dst, .store t x y, ty, pos, after, g⟩ f S = firstOf (match f.val E.G x, f.val E.G y with
    | some (.pointer (some ⟨b, o, none⟩)), some v => (stA P t ⟨b, o, none⟩ v S).map fun S' => (undef, S')
    | _, _ => none) (evOpB P E r ⟨dst, .store t x y, ty, pos, after, g⟩ f S) := by
  refine firstOf_of fun z hz => ?_
  split at hz
  · rename_i b o v hx hy
    obtain ⟨S', hv, rfl⟩ := Option.map_eq_some_iff.1 hz
    refine op_struct2 (z := (none, S')) dst ty pos after g f S rfl (by simp) (by simp) (by simp) (by simp) hx hy ?_
    have hv0 := hv
    unfold stA at hv
    split at hv
    · rename_i n hn
      have hl : ai P 0 (Instr.storeAt t (.pointer (some ⟨b, o, none⟩)) v) S = ai P 0 (storeVar t ⟨b, o, none⟩ v) S := rfl
      simp [evStruct, hx, hy, hl, ai_storeVar t ⟨b, o, none⟩ v S hn, hv0]
    · simp at hv
  · simp at hz
theorem op_fieldAddr (s : TypeId) (x : Operand) (k : Nat) : evOp P E r ⟨dst, .fieldAddr s x k, ty, pos, after, g⟩ f S = firstOf ((f.val E.G x).bind fun v => (aField P s v k).map fun u => (u, S)) (evOpB P E r ⟨dst, .fieldAddr s x k, ty, pos, after, g⟩ f S) := by
  refine firstOf_of fun z hz => ?_
  obtain ⟨v, hv, hz⟩ := Option.bind_eq_some_iff.1 hz
  obtain ⟨u, hu, rfl⟩ := Option.map_eq_some_iff.1 hz
  exact op_struct1 (z := (some u, S)) dst ty pos after g f S rfl (by simp) (by simp) (by simp) (by simp) hv (by simp [evStruct, hv, hu])
theorem op_field (s : TypeId) (x : Operand) (k : Nat) : evOp P E r ⟨dst, .field s x k, ty, pos, after, g⟩ f S = firstOf ((f.val E.G x).bind fun v => (aFieldV P s v k).map fun u => (u, S)) (evOpB P E r ⟨dst, .field s x k, ty, pos, after, g⟩ f S) := by
  refine firstOf_of fun z hz => ?_
  obtain ⟨v, hv, hz⟩ := Option.bind_eq_some_iff.1 hz
  obtain ⟨u, hu, rfl⟩ := Option.map_eq_some_iff.1 hz
  exact op_struct1 (z := (some u, S)) dst ty pos after g f S rfl (by simp) (by simp) (by simp) (by simp) hv (by simp [evStruct, hv, hu])
theorem op_indexAddr (t : TypeId) (x y : Operand) : evOp P E r ⟨dst, .indexAddr t x y, ty, pos, after, g⟩ f S = firstOf ((f.val E.G x).bind fun v => (f.val E.G y).bind fun i => (aIndexAddr P t v i).map fun u => (u, S)) (evOpB P E r ⟨dst, .indexAddr t x y, ty, pos, after, g⟩ f S) := by
  refine firstOf_of fun z hz => ?_
  obtain ⟨v, hv, hz⟩ := Option.bind_eq_some_iff.1 hz
  obtain ⟨i, hi, hz⟩ := Option.bind_eq_some_iff.1 hz
  obtain ⟨u, hu, rfl⟩ := Option.map_eq_some_iff.1 hz
  exact op_struct2 (z := (some u, S)) dst ty pos after g f S rfl (by simp) (by simp) (by simp) (by simp) hv hi (by simp [evStruct, hv, hi, hu])
theorem op_index (t : TypeId) (x y : Operand) : evOp P E r ⟨dst, .index t x y, ty, pos, after, g⟩ f S = firstOf ((f.val E.G x).bind fun v => (f.val E.G y).bind fun i => (aIndexV P t v i).map fun u => (u, S)) (evOpB P E r ⟨dst, .index t x y, ty, pos, after, g⟩ f S) := by
  refine firstOf_of fun z hz => ?_
  obtain ⟨v, hv, hz⟩ := Option.bind_eq_some_iff.1 hz
  obtain ⟨i, hi, hz⟩ := Option.bind_eq_some_iff.1 hz
  obtain ⟨u, hu, rfl⟩ := Option.map_eq_some_iff.1 hz
  exact op_struct2 (z := (some u, S)) dst ty pos after g f S rfl (by simp) (by simp) (by simp) (by simp) hv hi (by simp [evStruct, hv, hi, hu])
theorem op_extract (x : Operand) (k : Nat) : evOp P E r ⟨dst, .extract x k, ty, pos, after, g⟩ f S = firstOf ((f.val E.G x).bind fun v => (aExtract v k).map fun u => (u, S)) (evOpB P E r ⟨dst, .extract x k, ty, pos, after, g⟩ f S) := by
  refine firstOf_of fun z hz => ?_
  obtain ⟨v, hv, hz⟩ := Option.bind_eq_some_iff.1 hz
  obtain ⟨u, hu, rfl⟩ := Option.map_eq_some_iff.1 hz
  exact op_struct1 (z := (some u, S)) dst ty pos after g f S rfl (by simp) (by simp) (by simp) (by simp) hv (by simp [evStruct, hv, hu])

theorem op_not (t : TypeId) (x : Operand) : evOp P E r ⟨dst, .unOp .not t x, ty, pos, after, g⟩ f S = firstOf (match f.val E.G x with
    | some (.bool b) => some (.bool (!b), S)
    | _ => none) (evOpB P E r ⟨dst, .unOp .not t x, ty, pos, after, g⟩ f S) := by
  refine firstOf_of fun z hz => ?_
  split at hz
  · rename_i b hx
    simp only [Option.some.injEq] at hz
    subst hz
    have hf : evFlat P ⟨dst, .unOp .not t x, ty, pos, after, g⟩ (fun x => (f.val E.G x).getD undef) = some (.bool (!b)) := by
      simp [evFlat, flatKind, Op.operands, hx, selfB_bool 3, selfB_bool 7, execOp, Op.unary, at0_pure]
    simp [evOp, Op.operands, vals_one hx, evSimple, evStruct, hf]
  · simp at hz
theorem op_neg (t : TypeId) (x : Operand) : evOp P E r ⟨dst, .unOp .neg t x, ty, pos, after, g⟩ f S = firstOf (match f.val E.G x with
    | some (.int k n) => some (.int k (k.wrap (0 - n)), S)
    | _ => none) (evOpB P E r ⟨dst, .unOp .neg t x, ty, pos, after, g⟩ f S) := by
  refine firstOf_of fun z hz => ?_
  split at hz
  · rename_i k n hx
    simp only [Option.some.injEq] at hz
    subst hz
    have hf : evFlat P ⟨dst, .unOp .neg t x, ty, pos, after, g⟩ (fun x => (f.val E.G x).getD undef) = some (.int k (k.wrap (0 - n))) := by
      simp [evFlat, flatKind, Op.operands, hx, selfB_int 3, selfB_int 7, execOp, Op.unary, Op.intArith, at0_pure]
    simp [evOp, Op.operands, vals_one hx, evSimple, evStruct, hf]
  · simp at hz
theorem op_min (x y : Operand) (at_ : Array TypeId) : evOp P E r ⟨dst, .call ⟨.builtin .min, #[x, y], at_⟩, ty, pos, after, g⟩ f S = firstOf (match f.val E.G x, f.val E.G y with
    | some (.int k a), some (.int j b) => some (.int k (min a b), S)
    | _, _ => none) (evOpB P E r ⟨dst, .call ⟨.builtin .min, #[x, y], at_⟩, ty, pos, after, g⟩ f S) := by
  refine firstOf_of fun z hz => ?_
  split at hz
  · rename_i k a j b hx hy
    simp only [Option.some.injEq] at hz
    subst hz
    have hm : (if b < a then b else a) = min a b := by omega
    have hf : evFlat P ⟨dst, .call ⟨.builtin .min, #[x, y], at_⟩, ty, pos, after, g⟩ (fun x => (f.val E.G x).getD undef) = some (.int k (min a b)) := by
      simp [evFlat, flatKind, Op.operands, Call.operands, hx, hy, selfB_int 3, selfB_int 7, execOp, resolve, invoke, builtin, Builtin.min_, Builtin.min2, at0_pure, hm]
    simp [evOp, Op.operands, Call.operands, vals_two hx hy, evSimple, evStruct, hf]
  · simp at hz
theorem op_max (x y : Operand) (at_ : Array TypeId) : evOp P E r ⟨dst, .call ⟨.builtin .max, #[x, y], at_⟩, ty, pos, after, g⟩ f S = firstOf (match f.val E.G x, f.val E.G y with
    | some (.int k a), some (.int j b) => some (.int k (max a b), S)
    | _, _ => none) (evOpB P E r ⟨dst, .call ⟨.builtin .max, #[x, y], at_⟩, ty, pos, after, g⟩ f S) := by
  refine firstOf_of fun z hz => ?_
  split at hz
  · rename_i k a j b hx hy
    simp only [Option.some.injEq] at hz
    subst hz
    have hm : (if b > a then b else a) = max a b := by omega
    have hm2 : (if a < b then b else a) = max a b := by omega
    have hf : evFlat P ⟨dst, .call ⟨.builtin .max, #[x, y], at_⟩, ty, pos, after, g⟩ (fun x => (f.val E.G x).getD undef) = some (.int k (max a b)) := by
      simp [evFlat, flatKind, Op.operands, Call.operands, hx, hy, selfB_int 3, selfB_int 7, execOp, resolve, invoke, builtin, Builtin.max_, Builtin.max2, at0_pure, hm, hm2]
    simp [evOp, Op.operands, Call.operands, vals_two hx hy, evSimple, evStruct, hf]
  · simp at hz
theorem op_min3 (x y u : Operand) (at_ : Array TypeId) : evOp P E r ⟨dst, .call ⟨.builtin .min, #[x, y, u], at_⟩, ty, pos, after, g⟩ f S = firstOf (match f.val E.G x, f.val E.G y, f.val E.G u with
    | some (.int k a), some (.int j b), some (.int i c) => some (.int k (min (min a b) c), S)
    | _, _, _ => none) (evOpB P E r ⟨dst, .call ⟨.builtin .min, #[x, y, u], at_⟩, ty, pos, after, g⟩ f S) := by
  refine firstOf_of fun z hz => ?_
  split at hz
  · rename_i k a j b i c hx hy hu
    simp only [Option.some.injEq] at hz
    subst hz
    have hm : (if b < a then b else a) = min a b := by omega
    have hm2 : (if c < min a b then c else min a b) = min (min a b) c := by omega
    have hf : evFlat P ⟨dst, .call ⟨.builtin .min, #[x, y, u], at_⟩, ty, pos, after, g⟩ (fun x => (f.val E.G x).getD undef) = some (.int k (min (min a b) c)) := by
      simp [evFlat, flatKind, Op.operands, Call.operands, hx, hy, hu, selfB_int 3, selfB_int 7, execOp, resolve, invoke, builtin, Builtin.min_, Builtin.min2, at0_pure, hm, hm2]
    have hv : vals f E.G [x, y, u] = some [.int k a, .int j b, .int i c] := by simp [vals, hx, hy, hu]
    simp [evOp, Op.operands, Call.operands, hv, evSimple, evStruct, hf]
  · simp at hz
/-- An integer of one kind out of one of another. -/
def convV (d e : Option TypeDesc) (v : Option Value) (S : AS) : Option (Value × AS) :=
  match d, e, v with
  | some (.int _), some (.int k), some (.int _ n) => some (.int k (k.wrap n), S)
  | _, _, _ => none
theorem convV_int (j k i : IntKind) (n : Int) : convV (some (.int j)) (some (.int k)) (some (.int i n)) S = some (.int k (k.wrap n), S) := rfl
theorem op_convert (s d : TypeId) (x : Operand) : evOp P E r ⟨dst, .convert s d x, ty, pos, after, g⟩ f S = firstOf (convV (P.underlying s) (P.underlying d) (f.val E.G x) S) (evOpB P E r ⟨dst, .convert s d x, ty, pos, after, g⟩ f S) := by
  refine firstOf_of fun z hz => ?_
  unfold convV at hz
  split at hz
  · rename_i j k i n hs hd hx
    simp only [Option.some.injEq] at hz
    subst hz
    have h0 : at0 P (execOp (fun x => (f.val E.G x).getD undef) ⟨dst, .convert s d x, ty, pos, after, g⟩) = some (.value (.int k (k.wrap n))) := by
      simp [execOp, hx, convert, at0_bind, at0_map, at0_und hs, at0_und hd, Conv.intToInt, at0_pure]
    have hf : evFlat P ⟨dst, .convert s d x, ty, pos, after, g⟩ (fun x => (f.val E.G x).getD undef) = some (.int k (k.wrap n)) := by
      simp [evFlat, flatKind, Op.operands, hx, selfB_int 3, selfB_int 7, h0]
    simp [evOp, Op.operands, vals_one hx, evSimple, evStruct, aConv, hx, hf]
  · simp at hz
def partVals (f : Fr) (G : Nat) : List (Nat × Operand) → Option (List (Nat × Value))
  | [] => some []
  | (i, x) :: l =>
    match f.val G x, partVals f G l with
    | some v, some vs => some ((i, v) :: vs)
    | _, _ => none
theorem partVals_map {G : Nat} : ∀ {l : List (Nat × Operand)} {vs : List (Nat × Value)}, partVals f G l = some vs → (l.map fun x => (x.1, (f.val G x.2).getD undef)) = vs ∧ (vals f G (l.map (·.2))).isSome = true
  | [], vs, h => by simp only [partVals, Option.some.injEq] at h; subst h; exact ⟨rfl, rfl⟩
  | (i, x) :: l, vs, h => by
    simp only [partVals] at h
    split at h
    · rename_i v vs' hv hvs
      simp only [Option.some.injEq] at h
      subst h
      obtain ⟨h1, h2⟩ := partVals_map hvs
      obtain ⟨ws, hws⟩ := Option.isSome_iff_exists.1 h2
      exact ⟨by simp [hv, h1], by simp [vals, hv, hws]⟩
    · simp at h
theorem op_build (t : TypeId) (parts : Array (Nat × Operand)) : evOp P E r ⟨dst, .build t parts, ty, pos, after, g⟩ f S = firstOf ((partVals f E.G parts.toList).bind fun l => (aBuild P t l).map fun u => (u, S)) (evOpB P E r ⟨dst, .build t parts, ty, pos, after, g⟩ f S) := by
  refine firstOf_of fun z hz => ?_
  obtain ⟨l, hl, hz⟩ := Option.bind_eq_some_iff.1 hz
  obtain ⟨u, hu, rfl⟩ := Option.map_eq_some_iff.1 hz
  obtain ⟨h1, h2⟩ := partVals_map f hl
  obtain ⟨ws, hws⟩ := Option.isSome_iff_exists.1 h2
  have ho : (Op.build t parts).operands.toList = parts.toList.map (·.2) := by simp [Op.operands]
  have hs : evSimple P ⟨dst, .build t parts, ty, pos, after, g⟩ (fun x => (f.val E.G x).getD undef) S = some (some u, S) := by
    simp only [evSimple, evStruct, h1, hu, Option.map_some]
  simp only [evOp, ho, hws, hs]

/-- A variable of its own that holds its type's zero. -/
def allocV (P : Program) (e : TypeId) (S : AS) : Option (Value × AS) :=
  match inTab P e, zeroOf P e with
  | true, some z => some (.pointer (some ⟨S.next, 0, none⟩), S.push (.cells z.cells.toList e 0 true true))
  | _, _ => none
theorem at0_zero {t : TypeId} {z : Value} (h : zeroOf P t = some z) (S : AS) : ai P 0 (zeroValue t) S = some (z, S) := by
  unfold zeroOf at h
  cases hi : P.info? t with
  | none => cases ht : inTab P t <;> simp [hi, ht] at h
  | some i =>
    cases ht : inTab P t with
    | false => simp [ht] at h
    | true =>
      simp only [hi, ht, Option.bind_some] at h
      simp [zeroValue, ai_bind', ai_typeInfo hi, h, ai_pure]
theorem op_alloc (e : TypeId) : evOp P E r ⟨dst, .alloc e, ty, pos, after, g⟩ f S = firstOf (allocV P e S) (evOpB P E r ⟨dst, .alloc e, ty, pos, after, g⟩ f S) := by
  refine firstOf_of fun z hz => ?_
  unfold allocV at hz
  split at hz
  · rename_i z0 ht h0
    simp only [Option.some.injEq] at hz
    subst hz
    have ha : ai P 0 (Instr.alloc e true (.tuple #[])) S = some (.pointer (some ⟨S.next, 0, none⟩), S.push (.cells z0.cells.toList e 0 true true)) := by
      simp only [Instr.alloc, ai_bind', at0_zero h0]
      rfl
    have hs : evSimple P ⟨dst, .alloc e, ty, pos, after, g⟩ (fun x => (f.val E.G x).getD undef) S = some (some (.pointer (some ⟨S.next, 0, none⟩)), S.push (.cells z0.cells.toList e 0 true true)) := by
      simp only [evSimple, evStruct, ht, ha, Option.map_some]
    simp [evOp, Op.operands, vals, hs]
  · simp at hz

/-! ### Results -/
theorem results_nil (f : Fr) (S : AS) : resultsA P f S [] = some [] := rfl
def consV (v : Option Value) (l : Option (List Value)) : Option (List Value) :=
  match v, l with
  | some v, some l => some (v :: l)
  | _, _ => none
theorem consV_some (v : Value) (l : List Value) : consV (some v) (some l) = some (v :: l) := rfl
theorem results_t (t : T Value) (m : Nat) (S : AS) (k : Tmp) (l : List ResultVar) : resultsA P ⟨t, m⟩ S (.tmp k :: l) = consV (t.get k) (resultsA P ⟨t, m⟩ S l) := by
  simp only [resultsA, consV]
  cases t.get k with
  | none => rfl
  | some v => cases resultsA P ⟨t, m⟩ S l <;> rfl
def resultsB (P : Program) (f : Fr) (S : AS) (l : List ResultVar) : Option (List Value) := resultsA P f S l
theorem results_c (t : T Value) (m : Nat) (S : AS) (k : Tmp) (ty : TypeId) (l : List ResultVar) : resultsA P ⟨t, m⟩ S (.cell k ty :: l) = firstOf (consV (match t.get k with
    | some (.pointer (some ⟨b, o, none⟩)) => ldA P ty ⟨b, o, none⟩ S
    | _ => none) (resultsA P ⟨t, m⟩ S l)) (resultsB P ⟨t, m⟩ S (.cell k ty :: l)) := by
  cases hx : (consV (match t.get k with
    | some (.pointer (some ⟨b, o, none⟩)) => ldA P ty ⟨b, o, none⟩ S
    | _ => none) (resultsA P ⟨t, m⟩ S l)) with
  | none => rfl
  | some vs =>
    unfold consV at hx
    split at hx
    · rename_i v l' hv hl
      simp only [Option.some.injEq] at hx
      subst hx
      split at hv
      · rename_i b o hg
        have hv0 := hv
        unfold ldA at hv
        split at hv
        · rename_i d hu
          have := ai_loadVar (P := P) ty ⟨b, o, none⟩ S hu (fun hd => by
            rw [hd] at hv
            simp only at hv
            split at hv
            · rename_i n hn; rw [hn]; rfl
            · simp at hv)
          simp [resultsA, hg, this, hv0, hl, firstOf]
        · simp at hv
      · simp at hv
    · simp at hx

theorem push_open (S : AS) (b : ABlk) : ∃ S1, S.push b = S1 ∧ S1.next = S.next + 1 ∧ S1.heap.get S.next = some b ∧ Agree S S1 :=
  ⟨_, rfl, rfl, push_eq _ _ rfl, Nat.le_succ _, fun id hid => push_ne _ _ (by omega)⟩

theorem upd_open (S : AS) (id : Nat) (b c : ABlk) : ∃ S1, (S.upd id b).upd id c = S1 ∧ S1.next = S.next ∧ S1.heap.get id = some c ∧ ∀ j, j ≠ id → S1.heap.get j = S.heap.get j :=
  ⟨_, rfl, rfl, upd_eq _ _ rfl, fun j hj => (upd_ne _ _ hj).trans (upd_ne _ _ hj)⟩

/-- Cells written into a block of the run's own. -/
theorem wr_open (ty sz : Nat) (ex : Bool) (id : Nat) : ∀ (vs : List Value) (off i : Nat) (c : List Value) (S : AS), S.heap.get id = some (.cells c ty sz true ex) → vs.all oneB = true → off + i + vs.length ≤ c.length →
    ∃ S1, wrCells S ⟨id, off, none⟩ vs i = some S1 ∧ S1.next = S.next ∧ S1.heap.get id = some (.cells (c.take (off + i) ++ vs ++ c.drop (off + i + vs.length)) ty sz true ex) ∧ ∀ j, j ≠ id → S1.heap.get j = S.heap.get j
  | [], off, i, c, S, hg, _, _ => ⟨S, rfl, rfl, by simpa using hg, fun _ _ => rfl⟩
  | v :: vs, off, i, c, S, hg, h1, hl => by
    simp only [List.all_cons, Bool.and_eq_true] at h1
    simp only [List.length_cons] at hl
    have hp : S.put? ((⟨id, off, none⟩ : Addr).add i) v = some (S.upd id (.cells (c.set (off + i) v) ty sz true ex)) := by
      rw [addr_add, put_at, hg]
      simp [putOf, show off + i < c.length by omega]
    obtain ⟨S1, k1, k2, k3, k4⟩ := wr_open ty sz ex id vs off (i + 1) (c.set (off + i) v) (S.upd id (.cells (c.set (off + i) v) ty sz true ex)) (upd_eq _ _ rfl) h1.2 (by simp; omega)
    refine ⟨S1, ?_, k2, ?_, fun j hj => (k4 j hj).trans (upd_ne _ _ hj)⟩
    · simp only [wrCells, h1.1, hp]; exact k1
    · rw [k3]
      have e1 : (c.set (off + i) v).take (off + (i + 1)) = c.take (off + i) ++ [v] := by
        rw [show off + (i + 1) = off + i + 1 by omega, List.take_succ_eq_append_getElem (by simp; omega)]
        simp [List.take_set_of_le]
      have e2 : (c.set (off + i) v).drop (off + (i + 1) + vs.length) = c.drop (off + i + (v :: vs).length) := by
        rw [List.drop_set_of_lt (by omega)]
        congr 1
        simp; omega
      rw [e1, e2]
      simp
/-- A struct stored over a whole variable. -/
theorem st_open {t n ty sz id : Nat} {ex : Bool} {S : AS} {c vs : List Value} (hz : szOf P t = some n) (hg : S.heap.get id = some (.cells c ty sz true ex)) (h1 : vs.all oneB = true) (hn : vs.length = n) (hc : c.length = n) :
    ∃ S1, stA P t ⟨id, 0, none⟩ (.agg vs.toArray) S = some S1 ∧ S1.next = S.next ∧ S1.heap.get id = some (.cells vs ty sz true ex) ∧ ∀ j, j ≠ id → S1.heap.get j = S.heap.get j := by
  obtain ⟨S1, k1, k2, k3, k4⟩ := wr_open ty sz ex id vs 0 0 c S hg h1 (by omega)
  refine ⟨S1, by simp [stA, hz, cells_agg, hn, k1], k2, ?_, k4⟩
  rw [k3]
  have : c.drop (0 + 0 + vs.length) = [] := List.drop_eq_nil_of_le (by omega)
  rw [this]
  simp

/-- A call of a function by its number. -/
def called (r : Rec) (k : FuncId) (vs : Option (List Value)) (S : AS) : Option (Value × AS) :=
  match vs with
  | some l => r.call k l.toArray S
  | none => none
theorem called_some (k : FuncId) (l : List Value) : called r k (some l) S = r.call k l.toArray S := rfl
theorem op_call (k : FuncId) (args : Array Operand) (at_ : Array TypeId) : evOp P E r ⟨dst, .call ⟨.value (.func k), args, at_⟩, ty, pos, after, g⟩ f S = called r k (vals f E.G args.toList) S := by
  simp only [evOp, val_func, called]
  cases vals f E.G args.toList with
  | none => rfl
  | some l => simp
theorem vals_nil (G : Nat) : vals f G [] = some [] := rfl
theorem vals_cons (G : Nat) (x : Operand) (l : List Operand) {v : Value} {vs : List Value} (hx : f.val G x = some v) (hl : vals f G l = some vs) : vals f G (x :: l) = some (v :: vs) := by simp [vals, hx, hl]

/-! ### Two stores agree -/
theorem Agree.refl (S : AS) : Agree S S := ⟨Nat.le_refl _, fun _ _ => rfl⟩
theorem Agree.trans {S S2 S3 : AS} (h : Agree S S2) (k : Agree S2 S3) : Agree S S3 := ⟨Nat.le_trans h.1 k.1, fun id hid => (k.2 id (Nat.lt_of_lt_of_le hid h.1)).trans (h.2 id hid)⟩
theorem Agree.push {S S2 : AS} (h : Agree S S2) (b : ABlk) : Agree S (S2.push b) := ⟨Nat.le_succ_of_le h.1, fun id hid => by rw [push_ne _ _ (by have := h.1; omega)]; exact h.2 id hid⟩
theorem Agree.upd {S S2 : AS} (h : Agree S S2) (b : ABlk) {id : Nat} (hid : S.next ≤ id) : Agree S (S2.upd id b) := ⟨h.1, fun j hj => by rw [upd_ne _ _ (by omega)]; exact h.2 j hj⟩
end

/-! ### Loops -/
section
variable {P : Program} {E : Env}
/-- What one round does to what holds at its head. -/
def Round (P : Program) (E : Env) (ro : Option Nat) (c : Code) (m : Nat) (d : List Nat) (I : Nat → T Value → AS → Prop) (Q : X → T Value → AS → Prop) (n : Nat) (t : T Value) (S : AS) : Prop :=
  ∃ x t' S', evCode P E (evL P E) ro c ⟨⟨t, m⟩, d, S⟩ = some (x, ⟨⟨t', m⟩, d, S'⟩) ∧ ((x = .normal ∧ ∃ n', n' < n ∧ I n' t' S') ∨ (x ≠ .normal ∧ Q x t' S'))
theorem loop_ind {ro : Option Nat} {c : Code} {m : Nat} {d : List Nat} (I : Nat → T Value → AS → Prop) (Q : X → T Value → AS → Prop) (hstep : ∀ n t S, I n t S → Round P E ro c m d I Q n t S) :
    ∀ (n : Nat) (t : T Value) (S : AS), I n t S → ∃ x t' S', (evL P E).loop ro c ⟨⟨t, m⟩, d, S⟩ = some (x, ⟨⟨t', m⟩, d, S'⟩) ∧ Q x t' S' := by
  intro n
  induction n using Nat.strongRecOn with
  | ind n ih =>
    intro t S hI
    obtain ⟨x, t', S', he, h⟩ := hstep n t S hI
    rw [L_loop_step, he]
    rcases h with ⟨rfl, n', hn, h⟩ | ⟨hx, h⟩
    · obtain ⟨x2, t2, S2, h2, q2⟩ := ih n' hn t' S' h
      exact ⟨x2, t2, S2, h2, q2⟩
    · cases x with
      | normal => exact absurd rfl hx
      | exit k => exact ⟨_, t', S', rfl, h⟩
      | ret => exact ⟨_, t', S', rfl, h⟩
/-- A loop that is met: what holds at each head, what holds behind it. -/
theorem loop_met {ro : Option Nat} {c : Code} {m : Nat} {d : List Nat} {t : T Value} {S : AS} {z : Option (X × St)} (hz : (evL P E).loop ro c ⟨⟨t, m⟩, d, S⟩ = z) (I : Nat → T Value → AS → Prop) (Q : X → T Value → AS → Prop) (n : Nat) (h0 : I n t S)
    (hstep : ∀ n t S, I n t S → Round P E ro c m d I Q n t S) : ∃ x t' S', z = some (x, ⟨⟨t', m⟩, d, S'⟩) ∧ Q x t' S' := by
  obtain ⟨x, t', S', h, q⟩ := loop_ind I Q hstep n t S h0
  exact ⟨x, t', S', by rw [← hz]; exact h, q⟩
/-- How a round ends. -/
def Ends (m : Nat) (d : List Nat) (I : Nat → T Value → AS → Prop) (Q : X → T Value → AS → Prop) (n : Nat) (z : Option (X × St)) : Prop :=
  ∃ x t' S', z = some (x, ⟨⟨t', m⟩, d, S'⟩) ∧ ((x = .normal ∧ ∃ n', n' < n ∧ I n' t' S') ∨ (x ≠ .normal ∧ Q x t' S'))
theorem Round.run {ro : Option Nat} {c : Code} {m : Nat} {d : List Nat} {I : Nat → T Value → AS → Prop} {Q : X → T Value → AS → Prop} {n : Nat} {t : T Value} {S : AS} (h : ∀ z, evCode P E (evL P E) ro c ⟨⟨t, m⟩, d, S⟩ = z → Ends m d I Q n z) : Round P E ro c m d I Q n t S := h _ rfl
variable {m : Nat} {d : List Nat} {I : Nat → T Value → AS → Prop} {Q : X → T Value → AS → Prop} {n : Nat} {t' : T Value} {S' : AS} {z : Option (X × St)}
theorem Ends.next (he : some (.normal, ⟨⟨t', m⟩, d, S'⟩) = z) (n' : Nat) (hn : n' < n) (h : I n' t' S') : Ends m d I Q n z := ⟨_, t', S', he.symm, .inl ⟨rfl, n', hn, h⟩⟩
theorem Ends.exit {k : Nat} (he : some (.exit k, ⟨⟨t', m⟩, d, S'⟩) = z) (h : Q (.exit k) t' S') : Ends m d I Q n z := ⟨_, t', S', he.symm, .inr ⟨by simp, h⟩⟩
theorem Ends.ret (he : some (.ret, ⟨⟨t', m⟩, d, S'⟩) = z) (h : Q .ret t' S') : Ends m d I Q n z := ⟨_, t', S', he.symm, .inr ⟨by simp, h⟩⟩
end

/-- The environment of a run whose arguments are not known. -/
noncomputable def symEnv (G : Nat) (o : FuncId → Array Value → AS → Option (Value × AS)) : Env :=
  { G, orc := o, same := fun S S2 => @decide (Agree S S2) (Classical.propDecidable _), same_ok := fun S S2 h => by simpa using h }
theorem symEnv_same {G : Nat} {o : FuncId → Array Value → AS → Option (Value × AS)} {S S2 : AS} (h : Agree S S2) : (symEnv G o).same S S2 = true := by simp [symEnv, h]

/-- One function more that is answered without its text: a closed one that answers true. -/
def orcTrue (san : FuncId) (o : FuncId → Array Value → AS → Option (Value × AS)) (k : FuncId) (args : Array Value) (S : AS) : Option (Value × AS) :=
  match Nat.beq k san, args.toList with
  | true, [] => some (.bool true, S)
  | _, _ => o k args S

theorem orcTrue_ok {P : Program} {B : Nat} {w0 : World} {G : Nat} {E : Env} (hE : OrcOk B w0 P E) (hG : E.G = G) {san : FuncId} (hrun : ∀ w, (callFunc san #[]).run P w = .ok (.enter san #[]) w)
    (hsan : ∀ w, Below B w0 w → B ≤ w.heap.size → Calls P san #[] w fun e w' => e = .returned (.bool true) ∧ Below w.heap.size w w') : OrcOk B w0 P (symEnv G (orcTrue san E.orc)) := by
  intro k args S v S' e σ w args' h hargs
  have hg : (symEnv G (orcTrue san E.orc)).G = E.G := hG.symm
  rw [hg] at h ⊢
  simp only [symEnv, orcTrue] at e
  split at e
  · rename_i hk ha
    have hk := Nat.eq_of_beq_eq_true hk
    subst hk
    simp only [Option.some.injEq, Prod.mk.injEq] at e
    obtain ⟨rfl, rfl⟩ := e
    have h1 : args.size = 0 := by rw [← Array.length_toList, ha]; rfl
    have h2 : args' = #[] := Array.eq_empty_of_size_eq_zero (by rw [← hargs.1, h1])
    subst h2
    refine .inr ⟨hrun w, callsIn_wide.2 ((hsan w h.below h.hB).mono ?_)⟩
    rintro e w' ⟨rfl, hb⟩
    exact ⟨σ, .bool true, Sig.le_refl _, rfl, .bool _, h.grow hb⟩
  · exact hE k args S v S' e σ w args' h hargs
end Go.Aev
