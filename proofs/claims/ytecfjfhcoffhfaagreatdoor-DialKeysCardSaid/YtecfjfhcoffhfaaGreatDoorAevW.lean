/-
  A REFERENCE RUN, PART W: operations as equations.
-/
import Derived.Test.YtecfjfhcoffhfaaGreatDoorAevV
set_option linter.unusedSimpArgs false
set_option linter.unusedVariables false
namespace Go.Aev
open Go Go.RowKit

section
variable {P : Program} {E : Env} {r : Rec}

def evOpB (P : Program) (E : Env) (r : Rec) (o : Oper) (f : Fr) (S : AS) : Option (Value × AS) := evOp P E r o f S
def firstOf {α : Type} (x y : Option α) : Option α :=
  match x with
  | some z => some z
  | none => y
theorem firstOf_some {α : Type} (z : α) (y : Option α) : firstOf (some z) y = some z := rfl
theorem firstOf_of {P : Program} {E : Env} {r : Rec} {o : Oper} {f : Fr} {S : AS} {x : Option (Value × AS)} (h : ∀ z, x = some z → evOp P E r o f S = some z) : evOp P E r o f S = firstOf x (evOpB P E r o f S) := by
  cases x with
  | none => rfl
  | some z => exact h z rfl

theorem op_assign (dst : Option Tmp) (x : Operand) (ty : TypeId) (pos : String) (after : Array Edge) (g : Option (Nat × Bool)) (f : Fr) (S : AS) :
    evOp P E r ⟨dst, .assign x, ty, pos, after, g⟩ f S = (f.val E.G x).map fun v => (v, S) := rfl
theorem op_move (dst : Option Tmp) (x : Operand) (ty : TypeId) (pos : String) (after : Array Edge) (g : Option (Nat × Bool)) (f : Fr) (S : AS) :
    evOp P E r ⟨dst, .move x, ty, pos, after, g⟩ f S = (f.val E.G x).map fun v => (v, S) := rfl

def pickV (c a b : Option Value) (S : AS) : Option (Value × AS) :=
  match c with
  | some (.bool x) => if x = true then a.map fun v => (v, S) else b.map fun v => (v, S)
  | _ => none
theorem op_pick (dst : Option Tmp) (c a b : Operand) (ty : TypeId) (pos : String) (after : Array Edge) (g : Option (Nat × Bool)) (f : Fr) (S : AS) :
    evOp P E r ⟨dst, .pick c a b, ty, pos, after, g⟩ f S = pickV (f.val E.G c) (f.val E.G a) (f.val E.G b) S := by
  simp only [evOp, pickV]
  cases f.val E.G c with
  | none => rfl
  | some v => cases v <;> try rfl
              rename_i x; cases x <;> rfl
theorem pickV_true (a b : Value) (S : AS) : pickV (some (.bool true)) (some a) (some b) S = some (a, S) := rfl
theorem pickV_false (a b : Value) (S : AS) : pickV (some (.bool false)) (some a) (some b) S = some (b, S) := rfl
theorem pickV_bools (x a b : Bool) (S : AS) : pickV (some (.bool x)) (some (.bool a)) (some (.bool b)) S = some (.bool (sel x a b), S) := by cases x <;> rfl

/-! ### Integers -/
def binInt (op : BinOp) (k : IntKind) (a : Int) (j : IntKind) (b : Int) : Option Value :=
  match op with
  | .shl => if b < 0 then none else some (.int k (k.wrap (a * 2 ^ (min b.toNat k.bits))))
  | .shr => if b < 0 then none else some (.int k (a.fdiv (2 ^ (min b.toNat k.bits))))
  | op =>
    if k = j then
      match op with
      | .add => some (.int k (k.wrap (a + b)))
      | .sub => some (.int k (k.wrap (a - b)))
      | .mul => some (.int k (k.wrap (a * b)))
      | .quo => if b = 0 then none else some (.int k (k.wrap (a.tdiv b)))
      | .rem => if b = 0 then none else some (.int k (a.tmod b))
      | .and => some (.int k (k.wrap (BitVec.ofInt k.bits a &&& BitVec.ofInt k.bits b).toNat))
      | .or => some (.int k (k.wrap (BitVec.ofInt k.bits a ||| BitVec.ofInt k.bits b).toNat))
      | .xor => some (.int k (k.wrap (BitVec.ofInt k.bits a ^^^ BitVec.ofInt k.bits b).toNat))
      | .andNot => some (.int k (k.wrap (BitVec.ofInt k.bits a &&& ~~~(BitVec.ofInt k.bits b)).toNat))
      | .eql => some (.bool (a == b))
      | .neq => some (.bool (a != b))
      | .lss => some (.bool (decide (a < b)))
      | .leq => some (.bool (decide (a ≤ b)))
      | .gtr => some (.bool (decide (a > b)))
      | .geq => some (.bool (decide (a ≥ b)))
      | _ => none
    else none

def bin2 (P : Program) (E : Env) (r : Rec) (o : Oper) (f : Fr) (S : AS) (vx vy : Option Value) : Option (Value × AS) :=
  match o.op, vx, vy with
  | .binOp op _ _ _ _, some (.int k a), some (.int j b) =>
    match binInt op k a j b with
    | some v => some (v, S)
    | none => evOp P E r o f S
  | .binOp .eql t _ _ _, some (.agg a), some (.agg b) =>
    match aEqAgg P t (.agg a) (.agg b) with
    | some c => some (.bool c, S)
    | none => evOp P E r o f S
  | .binOp .neq t _ _ _, some (.agg a), some (.agg b) =>
    match aEqAgg P t (.agg a) (.agg b) with
    | some c => some (.bool (!c), S)
    | none => evOp P E r o f S
  | .binOp .eql t _ _ _, some (.bool a), some (.bool b) =>
    match P.underlying t with
    | some .bool => some (.bool (decide (a = b)), S)
    | _ => evOp P E r o f S
  | .binOp .neq t _ _ _, some (.bool a), some (.bool b) =>
    match P.underlying t with
    | some .bool => some (.bool (!decide (a = b)), S)
    | _ => evOp P E r o f S
  | _, _, _ => evOp P E r o f S

theorem at0_bind {α β : Type} (f : α → Sem β) : ∀ (e : Sem α), at0 P (e >>= f) = match at0 P e with
    | some a => at0 P (f a)
    | none => none := by
  intro e
  show at0 P (e.bind f) = _
  induction e with
  | pure a => rfl
  | program k ih => exact ih P
  | mark m k ih => exact ih
  | _ => rfl
theorem at0_map {α β : Type} (f : α → β) : ∀ (e : Sem α), at0 P (f <$> e) = (at0 P e).map f := by
  intro e
  show at0 P (e.bind fun a => .pure (f a)) = _
  induction e with
  | pure a => rfl
  | program k ih => exact ih P
  | mark m k ih => exact ih
  | _ => rfl
theorem at0_und {t : TypeId} {d : TypeDesc} (h : P.underlying t = some d) : at0 P (underlying t) = some d := by
  simp [underlying, at0_bind, program, at0, h]
  rfl
theorem at0_eqBoolIn {t : TypeId} (h : P.underlying t = some .bool) (d : Nat) (a b : Bool) : at0 P (Op.equalIn (d + 1) t (.bool a) (.bool b)) = some (a == b) := by
  simp only [Op.equalIn, at0_bind, at0_und h]
  rfl
theorem at0_eqBool {t : TypeId} (h : P.underlying t = some .bool) (a b : Bool) : at0 P (Op.equal t (.bool a) (.bool b)) = some (a == b) := by
  rw [equal_def]
  exact at0_eqBoolIn h 9999 a b
theorem aEqs_bool {t : TypeId} (h : P.underlying t = some .bool) (a b : Bool) : aEqs P t (.bool a) (.bool b) = none := by simp [aEqs, aEqAgg, aEq, h]

theorem aEqs_int (t : TypeId) (k j : IntKind) (a b : Int) : aEqs P t (.int k a) (.int j b) = none := by
  unfold aEqs aEqAgg aEq
  simp only
  split <;> rfl

theorem vals_two {f : Fr} {G : Nat} {x y : Operand} {a b : Value} (hx : f.val G x = some a) (hy : f.val G y = some b) : vals f G [x, y] = some [a, b] := by simp [vals, hx, hy]
theorem vals_one {f : Fr} {G : Nat} {x : Operand} {a : Value} (hx : f.val G x = some a) : vals f G [x] = some [a] := by simp [vals, hx]

theorem selfB_int (n : Nat) (k : IntKind) (a : Int) : selfB (n + 1) (.int k a) = true := rfl
theorem selfB_bool (n : Nat) (a : Bool) : selfB (n + 1) (.bool a) = true := rfl

theorem at0_pure {α : Type} (a : α) : at0 P (pure a : Sem α) = some a := rfl
set_option maxHeartbeats 2000000 in
theorem at0_bin {ρ : Operand → Value} {dst : Option Tmp} {op : BinOp} {t t2 : TypeId} {x y : Operand} {ty : TypeId} {pos : String} {after : Array Edge} {g : Option (Nat × Bool)} {k j : IntKind} {a b : Int} {v : Value}
    (hx : ρ x = .int k a) (hy : ρ y = .int j b) (h : binInt op k a j b = some v) : at0 P (execOp ρ ⟨dst, .binOp op t x y t2, ty, pos, after, g⟩) = some (.value v) ∧ selfB 8 v = true := by
  simp only [execOp, hx, hy]
  cases op <;> simp only [binInt] at h <;> split at h <;> first
    | (simp at h; done)
    | (split at h <;> first
        | (simp at h; done)
        | (rename_i h1 h2; simp only [Option.some.injEq] at h; subst h; subst h1; exact ⟨by simp [eqGuard, binOp, Op.intDiv, at0_pure, h2], rfl⟩))
    | (rename_i h1; simp only [Option.some.injEq] at h; subst h; subst h1
       exact ⟨by simp [eqGuard, binOp, Op.intArith, Op.intBits, Op.intCmp, at0_pure], rfl⟩)
    | (rename_i h1; simp only [Option.some.injEq] at h; subst h
       exact ⟨by simp [eqGuard, binOp, Op.shift, at0_pure, h1], rfl⟩)

theorem op_bin (dst : Option Tmp) (op : BinOp) (t t2 : TypeId) (x y : Operand) (ty : TypeId) (pos : String) (after : Array Edge) (g : Option (Nat × Bool)) (f : Fr) (S : AS) :
    evOp P E r ⟨dst, .binOp op t x y t2, ty, pos, after, g⟩ f S = bin2 P E r ⟨dst, .binOp op t x y t2, ty, pos, after, g⟩ f S (f.val E.G x) (f.val E.G y) := by
  have agg : ∀ (op' : BinOp), op = op' → ∀ {a b : Array Value}, f.val E.G x = some (.agg a) → f.val E.G y = some (.agg b) → ∀ c, aEqAgg P t (.agg a) (.agg b) = some c →
      (op' = .eql → evOp P E r ⟨dst, .binOp op t x y t2, ty, pos, after, g⟩ f S = some (.bool c, S)) ∧ (op' = .neq → evOp P E r ⟨dst, .binOp op t x y t2, ty, pos, after, g⟩ f S = some (.bool (!c), S)) := by
    intro op' e a b hx hy c hc
    have hs : aEqs P t (.agg a) (.agg b) = some c := by simp [aEqs, hc]
    constructor
    · intro e2; subst e; subst e2
      simp [evOp, Op.operands, vals_two hx hy, evSimple, evStruct, hx, hy, hs]
    · intro e2; subst e; subst e2
      simp [evOp, Op.operands, vals_two hx hy, evSimple, evStruct, hx, hy, hs]
  unfold bin2
  split
  · rename_i op' t' x' y' t2' k a j b e1 hx hy
    cases e1
    split
    · rename_i v hv
      have hρ1 : ((fun x => (f.val E.G x).getD undef) x) = .int k a := by simp [hx]
      have hρ2 : ((fun x => (f.val E.G x).getD undef) y) = .int j b := by simp [hy]
      obtain ⟨h1, h2⟩ := at0_bin (P := P) (ρ := fun x => (f.val E.G x).getD undef) (dst := dst) (t := t) (t2 := t2) (ty := ty) (pos := pos) (after := after) (g := g) hρ1 hρ2 hv
      have hf : evFlat P ⟨dst, .binOp op t x y t2, ty, pos, after, g⟩ (fun x => (f.val E.G x).getD undef) = some v := by
        simp [evFlat, flatKind, Op.operands, hx, hy, selfB_int 3, h1, h2]
      have hs : evStruct P ⟨dst, .binOp op t x y t2, ty, pos, after, g⟩ (fun x => (f.val E.G x).getD undef) S = none := by
        cases op <;> simp [evStruct, hx, hy, aEqs_int]
      simp [evOp, Op.operands, vals_two hx hy, evSimple, hs, hf]
    · rfl
  · rename_i t' x' y' t2' a b e1 hx hy
    cases e1
    split
    · rename_i c hc; exact (agg .eql rfl hx hy c hc).1 rfl
    · rfl
  · rename_i t' x' y' t2' a b e1 hx hy
    cases e1
    split
    · rename_i c hc; exact (agg .neq rfl hx hy c hc).2 rfl
    · rfl
  · rename_i t' x' y' t2' a b e1 hx hy
    cases e1
    split
    · rename_i hu
      have hf : evFlat P ⟨dst, .binOp .eql t x y t2, ty, pos, after, g⟩ (fun x => (f.val E.G x).getD undef) = some (.bool (decide (a = b))) := by
        have h0 : at0 P (execOp (fun x => (f.val E.G x).getD undef) ⟨dst, .binOp .eql t x y t2, ty, pos, after, g⟩) = some (.value (.bool (a == b))) := by
          simp [execOp, hx, hy, eqGuard, binOp, at0_bind, at0_map, at0_eqBool hu, at0_pure]
        simp [evFlat, flatKind, Op.operands, hx, hy, selfB_bool 3, selfB_bool 7, h0]
        rfl
      have hs : evStruct P ⟨dst, .binOp .eql t x y t2, ty, pos, after, g⟩ (fun x => (f.val E.G x).getD undef) S = none := by simp [evStruct, hx, hy, aEqs_bool hu]
      simp [evOp, Op.operands, vals_two hx hy, evSimple, hs, hf]
    · rfl
  · rename_i t' x' y' t2' a b e1 hx hy
    cases e1
    split
    · rename_i hu
      have hf : evFlat P ⟨dst, .binOp .neq t x y t2, ty, pos, after, g⟩ (fun x => (f.val E.G x).getD undef) = some (.bool (!decide (a = b))) := by
        have h0 : at0 P (execOp (fun x => (f.val E.G x).getD undef) ⟨dst, .binOp .neq t x y t2, ty, pos, after, g⟩) = some (.value (.bool (!(a == b)))) := by
          simp [execOp, hx, hy, eqGuard, binOp, at0_bind, at0_map, at0_eqBool hu, at0_pure]
        simp [evFlat, flatKind, Op.operands, hx, hy, selfB_bool 3, selfB_bool 7, h0]
        rfl
      have hs : evStruct P ⟨dst, .binOp .neq t x y t2, ty, pos, after, g⟩ (fun x => (f.val E.G x).getD undef) S = none := by simp [evStruct, hx, hy, aEqs_bool hu]
      simp [evOp, Op.operands, vals_two hx hy, evSimple, hs, hf]
    · rfl
  · rfl

section
variable (dst : Option Tmp) (t t2 : TypeId) (x y : Operand) (ty : TypeId) (pos : String) (after : Array Edge) (g : Option (Nat × Bool)) (f : Fr) (S : AS) (k : IntKind) (a b : Int)
theorem bin_add : bin2 P E r ⟨dst, .binOp .add t x y t2, ty, pos, after, g⟩ f S (some (.int k a)) (some (.int k b)) = some (.int k (k.wrap (a + b)), S) := by simp [bin2, binInt]
theorem bin_sub : bin2 P E r ⟨dst, .binOp .sub t x y t2, ty, pos, after, g⟩ f S (some (.int k a)) (some (.int k b)) = some (.int k (k.wrap (a - b)), S) := by simp [bin2, binInt]
theorem bin_mul : bin2 P E r ⟨dst, .binOp .mul t x y t2, ty, pos, after, g⟩ f S (some (.int k a)) (some (.int k b)) = some (.int k (k.wrap (a * b)), S) := by simp [bin2, binInt]
theorem bin_quo : bin2 P E r ⟨dst, .binOp .quo t x y t2, ty, pos, after, g⟩ f S (some (.int k a)) (some (.int k b)) = sel (decide (b = 0)) (evOpB P E r ⟨dst, .binOp .quo t x y t2, ty, pos, after, g⟩ f S) (some (.int k (k.wrap (a.tdiv b)), S)) := by
  by_cases h : b = 0 <;> simp [bin2, binInt, h, evOpB, sel]
theorem bin_rem : bin2 P E r ⟨dst, .binOp .rem t x y t2, ty, pos, after, g⟩ f S (some (.int k a)) (some (.int k b)) = sel (decide (b = 0)) (evOpB P E r ⟨dst, .binOp .rem t x y t2, ty, pos, after, g⟩ f S) (some (.int k (a.tmod b), S)) := by
  by_cases h : b = 0 <;> simp [bin2, binInt, h, evOpB, sel]
theorem bin_and : bin2 P E r ⟨dst, .binOp .and t x y t2, ty, pos, after, g⟩ f S (some (.int k a)) (some (.int k b)) = some (.int k (k.wrap (BitVec.ofInt k.bits a &&& BitVec.ofInt k.bits b).toNat), S) := by simp [bin2, binInt]
theorem bin_or : bin2 P E r ⟨dst, .binOp .or t x y t2, ty, pos, after, g⟩ f S (some (.int k a)) (some (.int k b)) = some (.int k (k.wrap (BitVec.ofInt k.bits a ||| BitVec.ofInt k.bits b).toNat), S) := by simp [bin2, binInt]
theorem bin_xor : bin2 P E r ⟨dst, .binOp .xor t x y t2, ty, pos, after, g⟩ f S (some (.int k a)) (some (.int k b)) = some (.int k (k.wrap (BitVec.ofInt k.bits a ^^^ BitVec.ofInt k.bits b).toNat), S) := by simp [bin2, binInt]
theorem bin_andNot : bin2 P E r ⟨dst, .binOp .andNot t x y t2, ty, pos, after, g⟩ f S (some (.int k a)) (some (.int k b)) = some (.int k (k.wrap (BitVec.ofInt k.bits a &&& ~~~(BitVec.ofInt k.bits b)).toNat), S) := by simp [bin2, binInt]
theorem bin_eql : bin2 P E r ⟨dst, .binOp .eql t x y t2, ty, pos, after, g⟩ f S (some (.int k a)) (some (.int k b)) = some (.bool (decide (a = b)), S) := by simp [bin2, binInt]; rfl
theorem bin_neq : bin2 P E r ⟨dst, .binOp .neq t x y t2, ty, pos, after, g⟩ f S (some (.int k a)) (some (.int k b)) = some (.bool (!decide (a = b)), S) := by simp [bin2, binInt]; rfl
theorem bin_lss : bin2 P E r ⟨dst, .binOp .lss t x y t2, ty, pos, after, g⟩ f S (some (.int k a)) (some (.int k b)) = some (.bool (decide (a < b)), S) := by simp [bin2, binInt]
theorem bin_leq : bin2 P E r ⟨dst, .binOp .leq t x y t2, ty, pos, after, g⟩ f S (some (.int k a)) (some (.int k b)) = some (.bool (decide (a ≤ b)), S) := by simp [bin2, binInt]
theorem bin_gtr : bin2 P E r ⟨dst, .binOp .gtr t x y t2, ty, pos, after, g⟩ f S (some (.int k a)) (some (.int k b)) = some (.bool (decide (b < a)), S) := by simp [bin2, binInt]
theorem bin_geq : bin2 P E r ⟨dst, .binOp .geq t x y t2, ty, pos, after, g⟩ f S (some (.int k a)) (some (.int k b)) = some (.bool (decide (b ≤ a)), S) := by simp [bin2, binInt]
theorem bin_shl (j : IntKind) : bin2 P E r ⟨dst, .binOp .shl t x y t2, ty, pos, after, g⟩ f S (some (.int k a)) (some (.int j b)) = sel (decide (b < 0)) (evOpB P E r ⟨dst, .binOp .shl t x y t2, ty, pos, after, g⟩ f S) (some (.int k (k.wrap (a * 2 ^ (min b.toNat k.bits))), S)) := by
  by_cases h : b < 0 <;> simp [bin2, binInt, h, evOpB, sel]
theorem bin_shr (j : IntKind) : bin2 P E r ⟨dst, .binOp .shr t x y t2, ty, pos, after, g⟩ f S (some (.int k a)) (some (.int j b)) = sel (decide (b < 0)) (evOpB P E r ⟨dst, .binOp .shr t x y t2, ty, pos, after, g⟩ f S) (some (.int k (a.fdiv (2 ^ (min b.toNat k.bits))), S)) := by
  by_cases h : b < 0 <;> simp [bin2, binInt, h, evOpB, sel]
def boolV? (d : Option TypeDesc) (b : Bool) (S : AS) : Option (Value × AS) :=
  match d with
  | some .bool => some (.bool b, S)
  | _ => none
theorem boolV?_bool (b : Bool) (S : AS) : boolV? (some .bool) b S = some (.bool b, S) := rfl
theorem bin_eqlBool (p q : Bool) : bin2 P E r ⟨dst, .binOp .eql t x y t2, ty, pos, after, g⟩ f S (some (.bool p)) (some (.bool q)) =
    firstOf (boolV? (P.underlying t) (decide (p = q)) S) (evOpB P E r ⟨dst, .binOp .eql t x y t2, ty, pos, after, g⟩ f S) := by
  simp only [bin2, boolV?]
  split <;> simp_all [firstOf, evOpB]
theorem bin_neqBool (p q : Bool) : bin2 P E r ⟨dst, .binOp .neq t x y t2, ty, pos, after, g⟩ f S (some (.bool p)) (some (.bool q)) =
    firstOf (boolV? (P.underlying t) (!decide (p = q)) S) (evOpB P E r ⟨dst, .binOp .neq t x y t2, ty, pos, after, g⟩ f S) := by
  simp only [bin2, boolV?]
  split <;> simp_all [firstOf, evOpB]
theorem bin_eqlAgg (u v : Array Value) : bin2 P E r ⟨dst, .binOp .eql t x y t2, ty, pos, after, g⟩ f S (some (.agg u)) (some (.agg v)) =
    firstOf ((aEqAgg P t (.agg u) (.agg v)).map fun c => (.bool c, S)) (evOpB P E r ⟨dst, .binOp .eql t x y t2, ty, pos, after, g⟩ f S) := by
  simp only [bin2]
  cases aEqAgg P t (.agg u) (.agg v) <;> rfl
theorem bin_neqAgg (u v : Array Value) : bin2 P E r ⟨dst, .binOp .neq t x y t2, ty, pos, after, g⟩ f S (some (.agg u)) (some (.agg v)) =
    firstOf ((aEqAgg P t (.agg u) (.agg v)).map fun c => (.bool (!c), S)) (evOpB P E r ⟨dst, .binOp .neq t x y t2, ty, pos, after, g⟩ f S) := by
  simp only [bin2]
  cases aEqAgg P t (.agg u) (.agg v) <;> rfl
end
end
end Go.Aev
