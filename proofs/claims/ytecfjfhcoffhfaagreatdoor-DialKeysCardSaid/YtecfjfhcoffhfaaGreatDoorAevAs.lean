/-
  A REFERENCE RUN, PART AS: lengths, parts of slices, functions that hold variables.
-/
import Derived.Test.YtecfjfhcoffhfaaGreatDoorAevAr
set_option linter.unusedSimpArgs false
set_option linter.unusedVariables false
namespace Go.Aev
open Go Go.RowKit
section
variable {P : Program} {E : Env} {r : Rec}
variable (dst : Option Tmp) (ty : TypeId) (pos : String) (after : Array Edge) (g : Option (Nat × Bool)) (f : Fr) (S : AS)

def lenV (P : Program) (t : TypeId) (v : Value) : Option Value :=
  match v, P.underlying t with
  | .slice _ n _, some (.slice _) => some (.int .i64 n)
  | _, _ => none
theorem op_len (t : TypeId) (x : Operand) : evOp P E r ⟨dst, .call ⟨.builtin .len, #[x], #[t]⟩, ty, pos, after, g⟩ f S = firstOf ((f.val E.G x).bind fun v => (lenV P t v).map fun u => (u, S)) (evOpB P E r ⟨dst, .call ⟨.builtin .len, #[x], #[t]⟩, ty, pos, after, g⟩ f S) := by
  refine firstOf_of fun z hz => ?_
  obtain ⟨v, hv, hz⟩ := Option.bind_eq_some_iff.1 hz
  obtain ⟨u, hu, rfl⟩ := Option.map_eq_some_iff.1 hz
  unfold lenV at hu
  split at hu
  · rename_i a n c e hu2
    cases hu
    exact op_struct1 (z := (some (.int .i64 n), S)) dst ty pos after g f S rfl (by simp) (by simp) (by simp) (by simp) hv (by simp [evStruct, hv, hu2])
  · simp at hu
theorem op_slice (t : TypeId) (x : Operand) (lo hi : Option Operand) : evOp P E r ⟨dst, .slice t x lo hi none, ty, pos, after, g⟩ f S = firstOf ((vals f E.G (Op.slice t x lo hi none).operands.toList).bind fun _ => (aSlice P t ((f.val E.G x).getD undef) (lo.map fun y => (f.val E.G y).getD undef) (hi.map fun y => (f.val E.G y).getD undef) S).map fun u => (u, S)) (evOpB P E r ⟨dst, .slice t x lo hi none, ty, pos, after, g⟩ f S) := by
  refine firstOf_of fun z hz => ?_
  obtain ⟨v, hv, hz⟩ := Option.bind_eq_some_iff.1 hz
  obtain ⟨u, hu, rfl⟩ := Option.map_eq_some_iff.1 hz
  simp only [evOp, hv, evSimple, evStruct, hu, Option.map_some]
theorem op_sliceHi (t : TypeId) (x y : Operand) : evOp P E r ⟨dst, .slice t x none (some y) none, ty, pos, after, g⟩ f S = firstOf ((f.val E.G x).bind fun v => (f.val E.G y).bind fun h => (aSlice P t v none (some h) S).map fun u => (u, S)) (evOpB P E r ⟨dst, .slice t x none (some y) none, ty, pos, after, g⟩ f S) := by
  refine firstOf_of fun z hz => ?_
  obtain ⟨v, hv, hz⟩ := Option.bind_eq_some_iff.1 hz
  obtain ⟨h, hh, hz⟩ := Option.bind_eq_some_iff.1 hz
  obtain ⟨u, hu, rfl⟩ := Option.map_eq_some_iff.1 hz
  exact op_struct2 (z := (some u, S)) dst ty pos after g f S rfl (by simp) (by simp) (by simp) (by simp) hv hh (by simp [evStruct, hv, hh, hu])
theorem op_sliceLo (t : TypeId) (x y : Operand) : evOp P E r ⟨dst, .slice t x (some y) none none, ty, pos, after, g⟩ f S = firstOf ((f.val E.G x).bind fun v => (f.val E.G y).bind fun h => (aSlice P t v (some h) none S).map fun u => (u, S)) (evOpB P E r ⟨dst, .slice t x (some y) none none, ty, pos, after, g⟩ f S) := by
  refine firstOf_of fun z hz => ?_
  obtain ⟨v, hv, hz⟩ := Option.bind_eq_some_iff.1 hz
  obtain ⟨h, hh, hz⟩ := Option.bind_eq_some_iff.1 hz
  obtain ⟨u, hu, rfl⟩ := Option.map_eq_some_iff.1 hz
  exact op_struct2 (z := (some u, S)) dst ty pos after g f S rfl (by simp) (by simp) (by simp) (by simp) hv hh (by simp [evStruct, hv, hh, hu])
theorem op_makeFunc (k : FuncId) (first cap : Array Operand) : evOp P E r ⟨dst, .makeFunc (.func k) first cap, ty, pos, after, g⟩ f S = firstOf ((vals f E.G (Op.makeFunc (.func k) first cap).operands.toList).map fun _ => (.func (.func k) (first.map fun y => (f.val E.G y).getD undef) (cap.map fun y => (f.val E.G y).getD undef), S)) (evOpB P E r ⟨dst, .makeFunc (.func k) first cap, ty, pos, after, g⟩ f S) := by
  refine firstOf_of fun z hz => ?_
  obtain ⟨v, hv, rfl⟩ := Option.map_eq_some_iff.1 hz
  simp only [evOp, hv, evSimple, evStruct]
/-- A call of a function that stands in a slot. -/
def calledV (r : Rec) (fv : Option Value) (l : Option (List Value)) (S : AS) : Option (Value × AS) :=
  match fv, l with
  | some (.func (.func k) cs ds), some vs => r.call k (cs ++ vs.toArray ++ ds) S
  | _, _ => none
theorem op_callV (x : Tmp) (args : Array Operand) (at_ : Array TypeId) : evOp P E r ⟨dst, .call ⟨.value (.tmp x), args, at_⟩, ty, pos, after, g⟩ f S = firstOf (calledV r (f.val E.G (.tmp x)) (vals f E.G args.toList) S) (evOpB P E r ⟨dst, .call ⟨.value (.tmp x), args, at_⟩, ty, pos, after, g⟩ f S) := by
  refine firstOf_of fun z hz => ?_
  unfold calledV at hz
  split at hz
  · rename_i k cs ds vs h1 h2
    simp only [evOp, h1, h2]
    exact hz
  · simp at hz
theorem calledV_some (k : FuncId) (cs ds : Array Value) (vs : List Value) : calledV r (some (.func (.func k) cs ds)) (some vs) S = r.call k (cs ++ vs.toArray ++ ds) S := rfl
end
end Go.Aev
