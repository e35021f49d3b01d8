import Derived.Test.YtohfdkdjfoonjaaGreatDoorBT
section
set_option linter.unusedSimpArgs false
set_option linter.unusedVariables false
namespace Go.Proofs
namespace House
open Go Go.RowKit Go.Aev
set_option maxRecDepth 100000
theorem tz125:szOf Tryz.prog 125=some 1:=by kernel_rfl
theorem tt125:inTab Tryz.prog 125=true:=by kernel_rfl
theorem t0_125:zeroOf Tryz.prog 125=some (.nilFunc):=by kernel_rfl
end House
end Go.Proofs
end
section
set_option linter.unusedSimpArgs false
set_option linter.unusedVariables false
namespace Go.Proofs
namespace House
open Go Go.RowKit Go.Aev
set_option maxRecDepth 100000
theorem tz124:szOf Tryz.prog 124=some 1:=by kernel_rfl
theorem tt124:inTab Tryz.prog 124=true:=by kernel_rfl
theorem t0_124:zeroOf Tryz.prog 124=some (.nilFunc):=by kernel_rfl
structure Mx (n:Nat) (l:List Int):Prop where
 len:l.length=n
 all:∀ x ∈ l,-1≤x∧x≤1073741824
theorem Mx.set {n:Nat} {l:List Int} (h:Mx n l) (i:Nat) {x:Int} (hx : -1≤x∧x≤1073741824):Mx n (l.set i x):=⟨by rw [List.length_set]; exact h.len,fun y hy=>(List.mem_or_eq_of_mem_set hy).elim (h.all y) (fun e=>e ▸ hx)⟩
theorem Mx.at {n:Nat} {l:List Int} (h:Mx n l) {i:Nat} {x:Int} (hx:l[i]?=some x) : -1≤x∧x≤1073741824:=h.all x (List.mem_of_getElem? hx)
theorem Mx.of {n:Nat} {l:List Int} (h:Tm n l):Mx n l:=⟨h.len,fun x hx=>by have:=h.all x hx; omega⟩
end House
end Go.Proofs
end
