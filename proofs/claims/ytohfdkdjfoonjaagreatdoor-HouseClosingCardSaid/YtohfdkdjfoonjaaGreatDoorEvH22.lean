import Derived.Test.YtohfdkdjfoonjaaGreatDoorEvH21
set_option linter.unusedSimpArgs false
set_option linter.unusedVariables false
namespace Go.Proofs
namespace House
open Go Go.RowKit Go.Aev
set_option maxRecDepth 100000
theorem TY_EvH22:type_of% TY_EvH21:=TY_EvH21
theorem lget_set_ge {l:List Int} {i j:Nat} {x c:Int} (h:c≤lget l i) (hx:lget l j≤x) (hj:j<l.length):c≤lget (l.set j x) i:=by
 unfold lget at *
 rw [List.getD_eq_getElem?_getD] at *
 rw [List.getElem?_set]
 by_cases e:j=i
 ·subst e
  rw [if_pos rfl,if_pos hj]
  simp only [Option.getD_some]; omega
 ·rw [if_neg e]; exact h
structure Dm (n:Nat) (l:List Int):Prop where
 len:l.length=n
 all:∀ x ∈ l,-1≤x∧x≤1073741823
theorem Dm.set {n:Nat} {l:List Int} (h:Dm n l) (i:Nat) {x:Int} (hx : -1≤x∧x≤1073741823):Dm n (l.set i x):=⟨by rw [List.length_set]; exact h.len,fun y hy=>(List.mem_or_eq_of_mem_set hy).elim (h.all y) (fun e=>e ▸ hx)⟩
theorem Dm.at {n:Nat} {l:List Int} (h:Dm n l) {i:Nat} {x:Int} (hx:l[i]?=some x) : -1≤x∧x≤1073741823:=h.all x (List.mem_of_getElem? hx)
def Hd (times:List Int) (left:List Bool) (here:Int):Prop:=here = -1∨0≤here∧here<(times.length:Int)∧0≤lget times here.toNat∧lget left here.toNat=false
theorem Hd.init (times:List Int) (left:List Bool):Hd times left (-1):=.inl rfl
theorem Hd.at {times:List Int} {left:List Bool} {k:Nat} {x:Int} (hk:k<times.length) (hx:times[k]?=some x) (h:0≤x) (hl:¬ lget left k=true):Hd times left (k:Int) :=
 .inr ⟨by omega,by omega,by rw [Int.toNat_natCast,lget_of hx]; exact h,by rw [Int.toNat_natCast]; simpa using hl⟩
theorem Hd.get {times:List Int} {left:List Bool} {here:Int} (h:Hd times left here) (h0:¬ here<0):0≤here∧here<(times.length:Int)∧0≤lget times here.toNat∧lget left here.toNat=false:=by
 rcases h with rfl|h
 ·omega
 ·exact h
theorem Dm.nil:Dm 0 []:=⟨rfl,fun x hx=>by simp at hx⟩
theorem Dm.push {n:Nat} {l:List Int} (h:Dm n l) {x:Int} (hx : -1≤x∧x≤1073741823):Dm (n+1) (l++[x]):=⟨by rw [List.length_append,h.len]; rfl,fun y hy=>(List.mem_append.1 hy).elim (h.all y) (fun e=>(List.mem_singleton.1 e) ▸ hx)⟩
theorem Dm.rep (n:Nat) {x:Int} (hx : -1≤x∧x≤1073741823):Dm n (List.replicate n x):=⟨List.length_replicate,fun y hy=>(List.eq_of_mem_replicate hy) ▸ hx⟩
def R50_0 (h:Hs) (fr:Int) (ti:Int)  : List Rm→List Int→List Bool→(List Int) × (List Bool)
 | [],out,done=>(out,done)
 | _x :: l',out,done=>R50_0 h fr ti l' (out++([1073741824])) (done++([false]))
def R50_2 (h:Hs) (fr:Int) (ti:Int) (out1:List Int) (done1:List Bool) (nv:Nat):List Int→Int→Nat→Int
 | [],at_,iv=>at_
 | x49 :: l',at_,iv=>(if (lget done1 iv)=true then R50_2 h fr ti out1 done1 nv l' at_ (iv+1) else (if x49<1073741824 then (if at_<0 then R50_2 h fr ti out1 done1 nv l' (iv:Int) (iv+1) else (if x49<(lget out1 (Int.toNat (max at_ 0))) then R50_2 h fr ti out1 done1 nv l' (iv:Int) (iv+1) else R50_2 h fr ti out1 done1 nv l' at_ (iv+1))) else R50_2 h fr ti out1 done1 nv l' at_ (iv+1)))
def R50_3 (h:Hs) (fr:Int) (ti:Int) (out1:List Int) (done1:List Bool) (nv:Nat):List Gt→List Int→(List Int)
 | [],out2=>out2
 | x77 :: l',out2=>(if x77.fr=(R50_2 h fr ti out1 done1 nv out1 (-1) 0) then R50_3 h fr ti out1 done1 nv l' (out2.set (Int.toNat x77.to) (min (lget out2 (Int.toNat x77.to)) (r99 h x77 (lget out2 (Int.toNat (R50_2 h fr ti out1 done1 nv out1 (-1) 0)))))) else R50_3 h fr ti out1 done1 nv l' out2)
def R50_1 (h:Hs) (fr:Int) (ti:Int)  : List Rm→List Int→List Bool→Nat→Sum ((List Int)) ((List Int))
 | [],out1,done1,nv=>.inr out1
 | _x :: l',out1,done1,nv=>(if (R50_2 h fr ti out1 done1 nv out1 (-1) 0)<0 then .inl out1 else R50_1 h fr ti l' (R50_3 h fr ti out1 done1 nv (r116 h) out1) (done1.set (Int.toNat (R50_2 h fr ti out1 done1 nv out1 (-1) 0)) true) (nv+1))
def r50 (h:Hs) (fr:Int) (ti:Int):List Int:=(onSum (R50_1 h fr ti h.rooms (((R50_0 h fr ti h.rooms ([]) ([])).1).set (Int.toNat fr) ti) ((R50_0 h fr ti h.rooms ([]) ([])).2) 0) (fun (r6:(List Int))=>r6) (fun (out1:(List Int))=>out1))
def R112_0 (h:Hs) (fr:Int) (ti:Int)  : List Rm→List Int→List Bool→(List Int) × (List Bool)
 | [],out,done=>(out,done)
 | _x :: l',out,done=>R112_0 h fr ti l' (out++([-1])) (done++([false]))
def R112_2 (h:Hs) (fr:Int) (ti:Int) (out1:List Int) (done1:List Bool) (nv:Nat):List Int→Int→Nat→Int
 | [],at_,iv=>at_
 | x49 :: l',at_,iv=>(if (lget done1 iv)=true then R112_2 h fr ti out1 done1 nv l' at_ (iv+1) else (if 0≤x49 then (if at_<0 then R112_2 h fr ti out1 done1 nv l' (iv:Int) (iv+1) else (if (lget out1 (Int.toNat (max at_ 0)))<x49 then R112_2 h fr ti out1 done1 nv l' (iv:Int) (iv+1) else R112_2 h fr ti out1 done1 nv l' at_ (iv+1))) else R112_2 h fr ti out1 done1 nv l' at_ (iv+1)))
def R112_3 (h:Hs) (fr:Int) (ti:Int) (out1:List Int) (done1:List Bool) (nv:Nat):List Gt→List Int→(List Int)
 | [],out2=>out2
 | x77 :: l',out2=>(if x77.to=(R112_2 h fr ti out1 done1 nv out1 (-1) 0) then R112_3 h fr ti out1 done1 nv l' (out2.set (Int.toNat x77.fr) (max (lget out2 (Int.toNat x77.fr)) (r101 h x77 (lget out2 (Int.toNat (R112_2 h fr ti out1 done1 nv out1 (-1) 0)))))) else R112_3 h fr ti out1 done1 nv l' out2)
def R112_1 (h:Hs) (fr:Int) (ti:Int)  : List Rm→List Int→List Bool→Nat→Sum ((List Int)) ((List Int))
 | [],out1,done1,nv=>.inr out1
 | _x :: l',out1,done1,nv=>(if (R112_2 h fr ti out1 done1 nv out1 (-1) 0)<0 then .inl out1 else R112_1 h fr ti l' (R112_3 h fr ti out1 done1 nv (r116 h) out1) (done1.set (Int.toNat (R112_2 h fr ti out1 done1 nv out1 (-1) 0)) true) (nv+1))
def r112 (h:Hs) (fr:Int) (ti:Int):List Int:=(onSum (R112_1 h fr ti h.rooms (((R112_0 h fr ti h.rooms ([]) ([])).1).set (Int.toNat fr) ti) ((R112_0 h fr ti h.rooms ([]) ([])).2) 0) (fun (r6:(List Int))=>r6) (fun (out1:(List Int))=>out1))
end House
end Go.Proofs
