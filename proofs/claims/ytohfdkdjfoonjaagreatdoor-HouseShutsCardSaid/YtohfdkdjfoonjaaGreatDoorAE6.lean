import Derived.Test.YtohfdkdjfoonjaaGreatDoorAE4
section
set_option linter.unusedVariables false
set_option linter.unusedSimpArgs false
namespace Go.Aev
open Go
variable {P:Program} {E:Env}
end Go.Aev
end
section
set_option linter.unusedSimpArgs false
set_option linter.unusedVariables false
namespace Go.Aev
open Go Go.RowKit Go.ChangeShapes
section
variable {α:Type} [Cel α]
theorem flat_set1 {n:Nat}:∀ (l:List (List Value)),(∀ x ∈ l,x.length=n)→∀ (i j:Nat) (y:List Value) (u:Value),l[i]?=some y→j<n→l.flatten.set (i * n+j) u=(l.set i (y.set j u)).flatten
 | [],_,i,j,y,u,e,_=>by simp at e
 | z :: l,h,0,j,y,u,e,hj=>by
  simp only [List.getElem?_cons_zero,Option.some.injEq] at e
  subst e
  have hz:=h z (by simp)
  rw [List.flatten_cons,Nat.zero_mul,Nat.zero_add,List.set_append_left _ _ (by omega),List.set_cons_zero,List.flatten_cons]
 | z :: l,h,i+1,j,y,u,e,hj=>by
  have hz:=h z (by simp)
  have ih:=flat_set1 l (fun w hw=>h w (by simp [hw])) i j y u (by simpa using e) hj
  rw [List.flatten_cons,List.set_append_right _ _ (by rw [hz,Nat.succ_mul]; omega),hz,show (i+1) * n+j - n=i * n+j by rw [Nat.succ_mul]; omega,ih,List.set_cons_succ,List.flatten_cons]
theorem take_set_drop {β:Type} (l:List β) (o:Nat) (u:β) (h:o<l.length):l.take o++[u]++l.drop (o+1)=l.set o u:=by
 rw [List.set_eq_take_append_cons_drop,if_pos h]
 simp
end
end Go.Aev
end
section
set_option linter.unusedSimpArgs false
set_option linter.unusedVariables false
namespace Go.Aev
open Go Go.RowKit Go.ChangeShapes
section
variable {α:Type} [Cel α]
theorem Own.at4 {el lo:Nat} {S:AS} {v:Value} {l:List α} (ho:Own el lo S v l) {P:Program} {t:TypeId} (hu:P.underlying t=some (.slice el)) (hs:szOf P el=some (Cel.n α)) {i:Nat} {x:α} (hx:l[i]?=some x) :
  ∃ id o c ty wr ex,aIndexAddr P t v (.int .i64 (i:Int))=some (.pointer (some ⟨id,o,none⟩))∧S.heap.get id=some (.cells c ty (Cel.n α) wr ex)∧id<S.next ∧
   (∀ j,j<(Cel.n α)→c[o+j]?=(cellsOf x)[j]?)∧lo≤id∧blkOf v=some id∧o=i * (Cel.n α):=by
 obtain ⟨id,c,ex,h1,h2,h3,h4,h5,h6⟩:=ho.at hu hs hx
 exact ⟨id,_,c,el,true,ex,h4,h5,h3,h6,h2,h1,rfl⟩
theorem Own.put1 {el lo:Nat} {S:AS} {v:Value} {l:List α} (ho:Own el lo S v l) {P:Program} {i id o:Nat} {x:α} (hx:l[i]?=some x) (hb:blkOf v=some id) (oq:o=i * (Cel.n α)) (f:TypeId) (u:Value) (j:Nat) (x':α)
  (k1:szOf P f=some 1) (k2:u.cells.toList=[u]) (k3:oneB u=true) (k4:j<(Cel.n α)) (k5:cellsOf x'=(cellsOf x).set j u) :
  ∃ S1,stA P f ⟨id,o+j,none⟩ u S=some S1∧S1.next=S.next∧Own el lo S1 v (l.set i x')∧∀ q,q≠id→S1.heap.get q=S.heap.get q:=by
 have hi:i<l.length:=(List.getElem?_eq_some_iff.1 hx).1
 subst oq
 rcases ho with ⟨rfl,rfl⟩|⟨id',ex',rfl,o1,o2,o3⟩
 ·simp at hi
 ·simp only [blkOf,Option.some.injEq] at hb
  subst hb
  have hlen:((l.map cellsOf).flatten).length=l.length * (Cel.n α):=by rw [flat_len _ (cells_all l),List.length_map]
  have hle:i * (Cel.n α)+(Cel.n α)≤l.length * (Cel.n α):=by
   rw [← Nat.succ_mul]; exact Nat.mul_le_mul_right _ hi
  obtain ⟨S1,q1,q2,q3,q4⟩:=st_at (o:=i * (Cel.n α)+j) (v:=u) k1 o3 (by rw [k2]; simp [k3]) (by rw [← Array.length_toList,k2]; rfl) (by rw [hlen]; omega) rfl
  refine ⟨S1,q1,q2,.inr ⟨id',ex',by simp,o1,by omega,?_⟩,q4⟩
  rw [q3,k2,take_set_drop _ _ _ (by rw [hlen]; omega),flat_set1 _ (cells_all l) i j (cellsOf x) u (by simp [hx]) k4,List.map_set,k5]
end
end Go.Aev
end
section
set_option linter.unusedSimpArgs false
set_option linter.unusedVariables false
namespace Go.Aev
open Go Go.RowKit Go.ChangeShapes
section
variable {P:Program} {E:Env} {r:Rec}
variable (dst:Option Tmp) (ty:TypeId) (pos:String) (after:Array Edge) (g:Option (Nat × Bool)) (f:Fr) (S:AS)
theorem own_slice {α:Type} [Cel α] {el lo:Nat} {S:AS} {v:Value} {l:List α} (h:Own el lo S v l):∃ p n c,v=.slice p n c:=by
 rcases h with ⟨_,rfl⟩|⟨id,ex,rfl,_⟩<;>exact ⟨_,_,_,rfl⟩
end
section
variable {α:Type} [Cel α]
theorem Own.hi_at {P:Program} {t el lo:TypeId} {S:AS} {l:List α} {id len:Nat} (ho:Own el lo S (.slice (some ⟨id,0,none⟩) len len) l) (hu:P.underlying t=some (.slice el)) (hs:szOf P el=some (Cel.n α)) {i:Nat} (hi:i≤l.length) (h0:0<l.length) :
  aSlice P t (.slice (some ⟨id,0,none⟩) len len) none (some (.int .i64 (i:Int))) S=some (.slice (some ⟨id,0,none⟩) i len):=by
 rcases ho with ⟨rfl,e⟩|⟨id',ex,e,h1,h2,h3⟩
 ·simp at h0
 ·simp only [Value.slice.injEq,Option.some.injEq,Addr.mk.injEq,and_true,true_and] at e
  obtain ⟨rfl,rfl,_⟩:=e
  have n1:natOr l.length (some (.int .i64 (i:Int)))=some i:=rfl
  have n0:natOr 0 none=some 0:=rfl
  have b1:Nat.ble 0 i=true:=Nat.ble_eq ▸ Nat.zero_le i
  have b2:Nat.ble i l.length=true:=Nat.ble_eq ▸ hi
  have b4:Nat.beq l.length 0=false:=by
   cases hb:Nat.beq l.length 0 with
   | false=>rfl
   | true=>have:=Nat.eq_of_beq_eq_true hb; omega
  simp only [aSlice,hu,h3,hs,n1,n0,b1,b2,Nat.beq_refl,b4,addr_add,Nat.zero_mul,Nat.add_zero,Nat.sub_zero]
end
end Go.Aev
end
section
set_option linter.unusedSimpArgs false
set_option linter.unusedVariables false
namespace Go.Aev
open Go Go.RowKit
theorem join_reg {G:Prop} {d:List Nat} {m:Nat} {t:T Value} {S:AS} {x:Option (Fr × AS)} {L:Option (X × St)}
  (_hL:behind ⟨⟨t,m⟩,d,S⟩ x=L) (Q:T Value→AS→Prop)
  (h:(∀ t' S',L=some (.normal,⟨⟨t',m⟩,d,S'⟩)→Q t' S'→G)→G)
  (tail:∀ t' S',L=some (.normal,⟨⟨t',m⟩,d,S'⟩)→Q t' S'→G):G:=h tail
end Go.Aev
end
