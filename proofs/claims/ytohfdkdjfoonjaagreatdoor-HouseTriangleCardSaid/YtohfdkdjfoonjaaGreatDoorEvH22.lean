import Derived.Test.YtohfdkdjfoonjaaGreatDoorEvH21
set_option linter.unusedSimpArgs false
set_option linter.unusedVariables false
namespace Go.Proofs
namespace House
open Go Go.RowKit Go.Aev
set_option maxRecDepth 100000
theorem TY_EvH22:type_of% TY_EvH21:=TY_EvH21
theorem lget_set_ge {l:List Int} {i j:Nat} {x c:Int} (h:c≤lget l i) (hx:lget l j≤x) (hj:j<l.length):c≤lget (l.set j x) i:=by
 unfold lget at *
 rw [List.getD_eq_getElem?_getD] at *
 rw [List.getElem?_set]
 by_cases e:j=i
 ·subst e
  rw [if_pos rfl,if_pos hj]
  simp only [Option.getD_some]; omega
 ·rw [if_neg e]; exact h
structure Dm (n:Nat) (l:List Int):Prop where
 len:l.length=n
 all:∀ x ∈ l,-1≤x∧x≤1073741823
theorem Dm.set {n:Nat} {l:List Int} (h:Dm n l) (i:Nat) {x:Int} (hx : -1≤x∧x≤1073741823):Dm n (l.set i x):=⟨by rw [List.length_set]; exact h.len,fun y hy=>(List.mem_or_eq_of_mem_set hy).elim (h.all y) (fun e=>e ▸ hx)⟩
theorem Dm.at {n:Nat} {l:List Int} (h:Dm n l) {i:Nat} {x:Int} (hx:l[i]?=some x) : -1≤x∧x≤1073741823:=h.all x (List.mem_of_getElem? hx)
def Hd (times:List Int) (left:List Bool) (here:Int):Prop:=here = -1∨0≤here∧here<(times.length:Int)∧0≤lget times here.toNat∧lget left here.toNat=false
theorem Hd.init (times:List Int) (left:List Bool):Hd times left (-1):=.inl rfl
theorem Hd.at {times:List Int} {left:List Bool} {k:Nat} {x:Int} (hk:k<times.length) (hx:times[k]?=some x) (h:0≤x) (hl:¬ lget left k=true):Hd times left (k:Int) :=
 .inr ⟨by omega,by omega,by rw [Int.toNat_natCast,lget_of hx]; exact h,by rw [Int.toNat_natCast]; simpa using hl⟩
theorem Hd.get {times:List Int} {left:List Bool} {here:Int} (h:Hd times left here) (h0:¬ here<0):0≤here∧here<(times.length:Int)∧0≤lget times here.toNat∧lget left here.toNat=false:=by
 rcases h with rfl|h
 ·omega
 ·exact h
theorem Tm.nil:Tm 0 []:=⟨rfl,fun x hx=>by simp at hx⟩
theorem Tm.push {n:Nat} {l:List Int} (h:Tm n l) {x:Int} (hx:0≤x∧x≤1073741824):Tm (n+1) (l++[x]):=⟨by rw [List.length_append,h.len]; rfl,fun y hy=>(List.mem_append.1 hy).elim (h.all y) (fun e=>(List.mem_singleton.1 e) ▸ hx)⟩
theorem Dm.nil:Dm 0 []:=⟨rfl,fun x hx=>by simp at hx⟩
theorem Dm.push {n:Nat} {l:List Int} (h:Dm n l) {x:Int} (hx : -1≤x∧x≤1073741823):Dm (n+1) (l++[x]):=⟨by rw [List.length_append,h.len]; rfl,fun y hy=>(List.mem_append.1 hy).elim (h.all y) (fun e=>(List.mem_singleton.1 e) ▸ hx)⟩
theorem Dm.rep (n:Nat) {x:Int} (hx : -1≤x∧x≤1073741823):Dm n (List.replicate n x):=⟨List.length_replicate,fun y hy=>(List.eq_of_mem_replicate hy) ▸ hx⟩
end House
end Go.Proofs
