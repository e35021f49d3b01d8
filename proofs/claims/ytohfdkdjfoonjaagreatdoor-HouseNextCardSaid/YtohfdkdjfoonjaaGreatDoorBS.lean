import Derived.Test.YtohfdkdjfoonjaaGreatDoorEvH18
import Derived.Test.YtohfdkdjfoonjaaGreatDoorAE6
section
set_option linter.unusedSimpArgs false
set_option linter.unusedVariables false
namespace Go.Proofs
namespace House
open Go Go.RowKit Go.Aev
set_option maxRecDepth 100000
theorem tz149:szOf Tryz.prog 149=some 1:=by kernel_rfl
theorem tt149:inTab Tryz.prog 149=true:=by kernel_rfl
theorem t0_149:zeroOf Tryz.prog 149=some (.slice none 0 0):=by kernel_rfl
instance:Inhabited Pg:=⟨⟨0,false,0,0,0,0⟩⟩
instance:Cel Pg:=⟨6,fun x=>[.int .i64 x.way,.bool x.back,.int .i64 x.fr,.int .i64 x.to,.int .i64 x.secs,.int .i64 x.door],fun _=>rfl,fun _=>rfl⟩
instance:Inhabited Gt:=⟨⟨0,0,0,0,0⟩⟩
instance:Flat Gt:=⟨[.i64,.i64,.i64,.i64,.i64],fun x=>[x.way,x.fr,x.to,x.secs,x.door],fun _=>rfl⟩
structure Tm (n:Nat) (l:List Int):Prop where
 len:l.length=n
 all:∀ x ∈ l,0≤x∧x≤1073741824
theorem Tm.set {n:Nat} {l:List Int} (h:Tm n l) (i:Nat) {x:Int} (hx:0≤x∧x≤1073741824):Tm n (l.set i x):=⟨by rw [List.length_set]; exact h.len,fun y hy=>(List.mem_or_eq_of_mem_set hy).elim (h.all y) (fun e=>e ▸ hx)⟩
theorem Tm.at {n:Nat} {l:List Int} (h:Tm n l) {i:Nat} {x:Int} (hx:l[i]?=some x):0≤x∧x≤1073741824:=h.all x (List.mem_of_getElem? hx)
def Hr (times:List Int) (left:List Bool) (here:Int):Prop:=here = -1∨0≤here∧here<(times.length:Int)∧lget times here.toNat≤1073741823∧lget left here.toNat=false
theorem Hr.at {times:List Int} {left:List Bool} {k:Nat} {x:Int} (hk:k<times.length) (hx:times[k]?=some x) (h:x≤1073741823) (hl:¬ lget left k=true):Hr times left (k:Int) :=
 .inr ⟨by omega,by omega,by rw [Int.toNat_natCast,lget_of hx]; exact h,by rw [Int.toNat_natCast]; simpa using hl⟩
theorem Hr.get {times:List Int} {left:List Bool} {here:Int} (h:Hr times left here) (h0:¬ here<0):0≤here∧here<(times.length:Int)∧lget times here.toNat≤1073741823∧lget left here.toNat=false:=by
 rcases h with rfl|h
 ·omega
 ·exact h
def R116_0 (h:Hs)  : List Wy→List Gt→Nat→(List Gt)
 | [],out,k=>out
 | x2 :: l',out,k=>(if 0<x2.back then R116_0 h l' ((out++([(⟨(k:Int),x2.a,x2.b,x2.secs,x2.door⟩:Gt)]))++([(⟨(k:Int),x2.b,x2.a,x2.back,x2.door⟩:Gt)])) (k+1) else R116_0 h l' (out++([(⟨(k:Int),x2.a,x2.b,x2.secs,x2.door⟩:Gt)])) (k+1))
def r116 (h:Hs):List Gt:=R116_0 h h.ways ([]) 0
end House
end Go.Proofs
end
section
set_option linter.unusedSimpArgs false
set_option linter.unusedVariables false
namespace Go.Proofs
namespace House
open Go Go.RowKit Go.Aev
set_option maxRecDepth 100000
theorem tz54:szOf Tryz.prog 54=some 1:=by kernel_rfl
theorem tt54:inTab Tryz.prog 54=true:=by kernel_rfl
theorem t0_54:zeroOf Tryz.prog 54=some (.slice none 0 0):=by kernel_rfl
theorem tz204:szOf Tryz.prog 204=some 1:=by kernel_rfl
theorem tt204:inTab Tryz.prog 204=true:=by kernel_rfl
theorem t0_204:zeroOf Tryz.prog 204=some (.int .u32 0):=by kernel_rfl
theorem tz207:szOf Tryz.prog 207=some 1:=by kernel_rfl
theorem tt207:inTab Tryz.prog 207=true:=by kernel_rfl
theorem t0_207:zeroOf Tryz.prog 207=some (.int .u64 0):=by kernel_rfl
end House
end Go.Proofs
end
