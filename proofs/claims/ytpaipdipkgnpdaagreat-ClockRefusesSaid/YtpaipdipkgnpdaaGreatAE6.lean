import Derived.Test.YtpaipdipkgnpdaaGreatAE4
section
set_option linter.unusedVariables false
set_option linter.unusedSimpArgs false
namespace Go.Aev
open Go
variable {P:Program} {E:Env}
structure YieldS (P:Program) (E:Env) (S0:AS) (y:Nat) {β:Type} (args:β→Array Value) (ys:List β) (I J:Nat→(Nat→Prop)→AS→Prop):Prop where
 low:∀ i T S,I i T S→∀ id,T id→id<S.next
 keep:∀ i T S S',I i T S→S.next≤S'.next→(∀ id,id<S.next→(T id∨id<S0.next)→S'.heap.get id=S.heap.get id)→I i T S'
 step:∀ i T S b,ys[i]?=some b→I i T S→(∃ S' T',(evL P E).round y (args b) S=some (.bool true,S')∧I (i+1) T' S'∧Off T S S'∧Wider T S T') ∨
  ∃ S' T',(evL P E).round y (args b) S=some (.bool false,S')∧J i T' S'∧Off T S S'∧Wider T S T'
end Go.Aev
end
section
set_option linter.unusedSimpArgs false
set_option linter.unusedVariables false
namespace Go.Aev
open Go Go.RowKit Go.ChangeShapes
section
variable {α:Type} [Cel α]
end
end Go.Aev
end
section
set_option linter.unusedSimpArgs false
set_option linter.unusedVariables false
namespace Go.Aev
open Go Go.RowKit Go.ChangeShapes
section
variable {α:Type} [Cel α]
theorem Own.at4 {el lo:Nat} {S:AS} {v:Value} {l:List α} (ho:Own el lo S v l) {P:Program} {t:TypeId} (hu:P.underlying t=some (.slice el)) (hs:szOf P el=some (Cel.n α)) {i:Nat} {x:α} (hx:l[i]?=some x) :
  ∃ id o c ty wr ex,aIndexAddr P t v (.int .i64 (i:Int))=some (.pointer (some ⟨id,o,none⟩))∧S.heap.get id=some (.cells c ty (Cel.n α) wr ex)∧id<S.next ∧
   (∀ j,j<(Cel.n α)→c[o+j]?=(cellsOf x)[j]?)∧lo≤id∧blkOf v=some id∧o=i * (Cel.n α):=by
 obtain ⟨id,c,ex,h1,h2,h3,h4,h5,h6⟩:=ho.at hu hs hx
 exact ⟨id,_,c,el,true,ex,h4,h5,h3,h6,h2,h1,rfl⟩
end
end Go.Aev
end
section
set_option linter.unusedSimpArgs false
set_option linter.unusedVariables false
namespace Go.Aev
open Go Go.RowKit Go.ChangeShapes
section
variable {P:Program} {E:Env} {r:Rec}
variable (dst:Option Tmp) (ty:TypeId) (pos:String) (after:Array Edge) (g:Option (Nat × Bool)) (f:Fr) (S:AS)
theorem own_slice {α:Type} [Cel α] {el lo:Nat} {S:AS} {v:Value} {l:List α} (h:Own el lo S v l):∃ p n c,v=.slice p n c:=by
 rcases h with ⟨_,rfl⟩|⟨id,ex,rfl,_⟩<;>exact ⟨_,_,_,rfl⟩
end
section
variable {α:Type} [Cel α]
theorem Own.lo_at {P:Program} {t el lo:TypeId} {S:AS} {l:List α} {id len:Nat} (ho:Own el lo S (.slice (some ⟨id,0,none⟩) len len) l) (hu:P.underlying t=some (.slice el)) (hs:szOf P el=some (Cel.n α)) {i:Nat} (hi:i<l.length) :
  aSlice P t (.slice (some ⟨id,0,none⟩) len len) (some (.int .i64 (i:Int))) none S=some (.slice (some ⟨id,i * Cel.n α,none⟩) (len - i) (len - i))∧len=l.length∧∃ ex,S.heap.get id=some (.cells (l.map cellsOf).flatten el (Cel.n α) true ex):=by
 rcases ho with ⟨rfl,e⟩|⟨id',ex,e,h1,h2,h3⟩
 ·simp at hi
 ·simp only [Value.slice.injEq,Option.some.injEq,Addr.mk.injEq,and_true,true_and] at e
  obtain ⟨rfl,rfl,_⟩:=e
  have n1:natOr 0 (some (.int .i64 (i:Int)))=some i:=rfl
  have n2:natOr l.length none=some l.length:=rfl
  have b1:Nat.ble i l.length=true:=Nat.ble_eq ▸ Nat.le_of_lt hi
  have b4:Nat.beq l.length i=false:=by
   cases hb:Nat.beq l.length i with
   | false=>rfl
   | true=>have:=Nat.eq_of_beq_eq_true hb; omega
  refine ⟨?_,rfl,ex,h3⟩
  simp only [aSlice,hu,h3,hs,n1,n2,b1,Nat.ble_eq ▸ Nat.le_refl l.length,Nat.beq_refl,b4,addr_add,Nat.zero_add]
theorem Own.hi_at {P:Program} {t el lo:TypeId} {S:AS} {l:List α} {id len:Nat} (ho:Own el lo S (.slice (some ⟨id,0,none⟩) len len) l) (hu:P.underlying t=some (.slice el)) (hs:szOf P el=some (Cel.n α)) {i:Nat} (hi:i≤l.length) (h0:0<l.length) :
  aSlice P t (.slice (some ⟨id,0,none⟩) len len) none (some (.int .i64 (i:Int))) S=some (.slice (some ⟨id,0,none⟩) i len):=by
 rcases ho with ⟨rfl,e⟩|⟨id',ex,e,h1,h2,h3⟩
 ·simp at h0
 ·simp only [Value.slice.injEq,Option.some.injEq,Addr.mk.injEq,and_true,true_and] at e
  obtain ⟨rfl,rfl,_⟩:=e
  have n1:natOr l.length (some (.int .i64 (i:Int)))=some i:=rfl
  have n0:natOr 0 none=some 0:=rfl
  have b1:Nat.ble 0 i=true:=Nat.ble_eq ▸ Nat.zero_le i
  have b2:Nat.ble i l.length=true:=Nat.ble_eq ▸ hi
  have b4:Nat.beq l.length 0=false:=by
   cases hb:Nat.beq l.length 0 with
   | false=>rfl
   | true=>have:=Nat.eq_of_beq_eq_true hb; omega
  simp only [aSlice,hu,h3,hs,n1,n0,b1,b2,Nat.beq_refl,b4,addr_add,Nat.zero_mul,Nat.add_zero,Nat.sub_zero]
end
theorem Off.base {T:Nat→Prop} {Sb S S':AS} (ha:Agree Sb S) (hT:∀ id,T id→Sb.next≤id) (h:Off T S S'):Agree Sb S' :=
 ⟨Nat.le_trans ha.1 h.1,fun id hid=>(h.2 id (Nat.lt_of_lt_of_le hid ha.1) (fun ht=>by have:=hT id ht; omega)).trans (ha.2 id hid)⟩
end Go.Aev
end
section
set_option linter.unusedSimpArgs false
set_option linter.unusedVariables false
namespace Go.Aev
open Go Go.RowKit
end Go.Aev
end
