import Derived.Test.YtpaipdipkgnpdaaGreatAE4
section
set_option linter.unusedVariables false
set_option linter.unusedSimpArgs false
namespace Go.Aev
open Go
variable {P:Program} {E:Env}
end Go.Aev
end
section
set_option linter.unusedSimpArgs false
set_option linter.unusedVariables false
namespace Go.Aev
open Go Go.RowKit Go.ChangeShapes
section
variable {α:Type} [Cel α]
theorem flat_set1 {n:Nat}:∀ (l:List (List Value)),(∀ x ∈ l,x.length=n)→∀ (i j:Nat) (y:List Value) (u:Value),l[i]?=some y→j<n→l.flatten.set (i * n+j) u=(l.set i (y.set j u)).flatten
 | [],_,i,j,y,u,e,_=>by simp at e
 | z :: l,h,0,j,y,u,e,hj=>by
  simp only [List.getElem?_cons_zero,Option.some.injEq] at e
  subst e
  have hz:=h z (by simp)
  rw [List.flatten_cons,Nat.zero_mul,Nat.zero_add,List.set_append_left _ _ (by omega),List.set_cons_zero,List.flatten_cons]
 | z :: l,h,i+1,j,y,u,e,hj=>by
  have hz:=h z (by simp)
  have ih:=flat_set1 l (fun w hw=>h w (by simp [hw])) i j y u (by simpa using e) hj
  rw [List.flatten_cons,List.set_append_right _ _ (by rw [hz,Nat.succ_mul]; omega),hz,show (i+1) * n+j - n=i * n+j by rw [Nat.succ_mul]; omega,ih,List.set_cons_succ,List.flatten_cons]
theorem take_set_drop {β:Type} (l:List β) (o:Nat) (u:β) (h:o<l.length):l.take o++[u]++l.drop (o+1)=l.set o u:=by
 rw [List.set_eq_take_append_cons_drop,if_pos h]
 simp
end
end Go.Aev
end
section
set_option linter.unusedSimpArgs false
set_option linter.unusedVariables false
namespace Go.Aev
open Go Go.RowKit Go.ChangeShapes
section
variable {α:Type} [Cel α]
theorem Own.at4 {el lo:Nat} {S:AS} {v:Value} {l:List α} (ho:Own el lo S v l) {P:Program} {t:TypeId} (hu:P.underlying t=some (.slice el)) (hs:szOf P el=some (Cel.n α)) {i:Nat} {x:α} (hx:l[i]?=some x) :
  ∃ id o c ty wr ex,aIndexAddr P t v (.int .i64 (i:Int))=some (.pointer (some ⟨id,o,none⟩))∧S.heap.get id=some (.cells c ty (Cel.n α) wr ex)∧id<S.next ∧
   (∀ j,j<(Cel.n α)→c[o+j]?=(cellsOf x)[j]?)∧lo≤id∧blkOf v=some id∧o=i * (Cel.n α):=by
 obtain ⟨id,c,ex,h1,h2,h3,h4,h5,h6⟩:=ho.at hu hs hx
 exact ⟨id,_,c,el,true,ex,h4,h5,h3,h6,h2,h1,rfl⟩
theorem Own.put1 {el lo:Nat} {S:AS} {v:Value} {l:List α} (ho:Own el lo S v l) {P:Program} {i id o:Nat} {x:α} (hx:l[i]?=some x) (hb:blkOf v=some id) (oq:o=i * (Cel.n α)) (f:TypeId) (u:Value) (j:Nat) (x':α)
  (k1:szOf P f=some 1) (k2:u.cells.toList=[u]) (k3:oneB u=true) (k4:j<(Cel.n α)) (k5:cellsOf x'=(cellsOf x).set j u) :
  ∃ S1,stA P f ⟨id,o+j,none⟩ u S=some S1∧S1.next=S.next∧Own el lo S1 v (l.set i x')∧∀ q,q≠id→S1.heap.get q=S.heap.get q:=by
 have hi:i<l.length:=(List.getElem?_eq_some_iff.1 hx).1
 subst oq
 rcases ho with ⟨rfl,rfl⟩|⟨id',ex',rfl,o1,o2,o3⟩
 ·simp at hi
 ·simp only [blkOf,Option.some.injEq] at hb
  subst hb
  have hlen:((l.map cellsOf).flatten).length=l.length * (Cel.n α):=by rw [flat_len _ (cells_all l),List.length_map]
  have hle:i * (Cel.n α)+(Cel.n α)≤l.length * (Cel.n α):=by
   rw [← Nat.succ_mul]; exact Nat.mul_le_mul_right _ hi
  obtain ⟨S1,q1,q2,q3,q4⟩:=st_at (o:=i * (Cel.n α)+j) (v:=u) k1 o3 (by rw [k2]; simp [k3]) (by rw [← Array.length_toList,k2]; rfl) (by rw [hlen]; omega) rfl
  refine ⟨S1,q1,q2,.inr ⟨id',ex',by simp,o1,by omega,?_⟩,q4⟩
  rw [q3,k2,take_set_drop _ _ _ (by rw [hlen]; omega),flat_set1 _ (cells_all l) i j (cellsOf x) u (by simp [hx]) k4,List.map_set,k5]
end
end Go.Aev
end
section
set_option linter.unusedSimpArgs false
set_option linter.unusedVariables false
namespace Go.Aev
open Go Go.RowKit Go.ChangeShapes
section
variable {P:Program} {E:Env} {r:Rec}
variable (dst:Option Tmp) (ty:TypeId) (pos:String) (after:Array Edge) (g:Option (Nat × Bool)) (f:Fr) (S:AS)
theorem op_makeSlice (t:TypeId) (x y:Operand):evOp P E r ⟨dst,.makeSlice t x y,ty,pos,after,g⟩ f S=firstOf ((f.val E.G x).bind fun u=>(f.val E.G y).bind fun w=>aMakeSlice P t u w S) (evOpB P E r ⟨dst,.makeSlice t x y,ty,pos,after,g⟩ f S):=by
 refine firstOf_of fun z hz=>?_
 obtain ⟨u,hu,hz⟩:=Option.bind_eq_some_iff.1 hz
 obtain ⟨w,hw,hz⟩:=Option.bind_eq_some_iff.1 hz
 exact op_struct2 (z:=(some z.1,z.2)) dst ty pos after g f S rfl (by simp) (by simp) (by simp) (by simp) hu hw (by simp [evStruct,hu,hw,hz])
theorem own_slice {α:Type} [Cel α] {el lo:Nat} {S:AS} {v:Value} {l:List α} (h:Own el lo S v l):∃ p n c,v=.slice p n c:=by
 rcases h with ⟨_,rfl⟩|⟨id,ex,rfl,_⟩<;>exact ⟨_,_,_,rfl⟩
end
section
variable {α:Type} [Cel α]
theorem make_own {P:Program} {t el:TypeId} {z:Value} {x0:α} {n:Nat} {k k':IntKind} (S:AS) (hu:P.underlying t=some (.slice el)) (hi:(P.info? el).map (fun i=>Nat.ble i.bytes 65536)=some true) (hz:zeroOf P el=some z) {s:Nat} (hk:Cel.n α=s+1) (hs:szOf P el=some (s+1))
  (hc:z.cells.toList=cellsOf x0) (hn:n≤65536) :
  ∃ v S',aMakeSlice P t (.int k n) (.int k' n) S=some (v,S')∧v=.slice (some ⟨S.next,0,none⟩) n n∧Agree S S'∧Own el S.next S' v (List.replicate n x0):=by
 obtain ⟨i,hi,hb⟩:=Option.map_eq_some_iff.1 hi
 have hzs:z.cells.size=s+1:=by rw [← Array.length_toList,hc,cellsOf_len,hk]
 have e1:(zerosOf z.cells (n * (s+1))).size=n * (s+1):=by simp [zerosOf]
 have e2:(zerosOf z.cells (n * (s+1))).toList=((List.replicate n x0).map cellsOf).flatten:=by
  have hfl:=flat_len _ (cells_all (List.replicate n x0))
  rw [List.length_map,List.length_replicate,hk] at hfl
  refine List.ext_getElem? fun q=>?_
  rcases Nat.lt_or_ge q (n * (s+1)) with hq|hq
  ·have hqd:q / (s+1)<n:=Nat.div_lt_of_lt_mul (by rw [Nat.mul_comm]; exact hq)
   have hm:=Nat.mod_lt q (show 0<s+1 by omega)
   have e3:q=q / (s+1) * (s+1)+q % (s+1):=(Nat.div_add_mod' q _).symm
   have hg:=flat_get (n:=s+1) ((List.replicate n x0).map cellsOf) (fun y hy=>by rw [cells_all _ y hy,hk]) (q / (s+1)) (cellsOf x0) (by simp [hqd]) _ hm
   rw [← e3] at hg
   rw [hg,← hc]
   rw [Array.getElem?_toList,Array.getElem?_toList]
   simp only [zerosOf]
   rw [Array.getElem?_map,Array.getElem?_range,if_pos hq,Option.map_some,hzs]
   rw [getElem!_pos z.cells (q % (s+1)) (by omega),Array.getElem?_eq_getElem (by omega)]
  ·rw [List.getElem?_eq_none (by rw [Array.length_toList,e1]; exact hq),List.getElem?_eq_none (by rw [hfl]; exact hq)]
 refine ⟨_,S.push (.cells (zerosOf z.cells (n * (s+1))).toList el (s+1) true true),?_,rfl,⟨by simp [AS.push],fun id hid=>push_ne _ _ (by omega)⟩,?_⟩
 ·have b1:Nat.ble n n=true:=Nat.ble_eq ▸ Nat.le_refl n
  have b2:Nat.ble n 65536=true:=Nat.ble_eq ▸ hn
  have b3:Nat.beq (zerosOf z.cells (n * (s+1))).size (n * (s+1))=true:=by rw [e1]; exact Nat.beq_refl _
  have d1:(.int k (n:Int):Value)=.int k (.ofNat n):=rfl
  have d2:(.int k' (n:Int):Value)=.int k' (.ofNat n):=rfl
  rw [d1,d2]
  simp only [aMakeSlice,hu,hi,hz,hs,b1,b2,hb,b3]
 ·exact .inr ⟨S.next,true,by simp,Nat.le_refl _,by simp [AS.push],by rw [push_eq _ _ rfl,e2,hk]⟩
end
theorem Off.base {T:Nat→Prop} {Sb S S':AS} (ha:Agree Sb S) (hT:∀ id,T id→Sb.next≤id) (h:Off T S S'):Agree Sb S' :=
 ⟨Nat.le_trans ha.1 h.1,fun id hid=>(h.2 id (Nat.lt_of_lt_of_le hid ha.1) (fun ht=>by have:=hT id ht; omega)).trans (ha.2 id hid)⟩
end Go.Aev
end
section
set_option linter.unusedSimpArgs false
set_option linter.unusedVariables false
namespace Go.Aev
open Go Go.RowKit
theorem join_met {P:Program} {E:Env} {r:Rec} {G:Prop} {ro:Option Nat} {v:Option Value} {a b:Code} {m:Nat} {d:List Nat} {t:T Value} {S:AS} {L:Option (X × St)}
  (_hL:condRun P E r ro v a b ⟨⟨t,m⟩,d,S⟩=L) (Q:T Value→AS→Prop)
  (h:(∀ t' S',L=some (.normal,⟨⟨t',m⟩,d,S'⟩)→Q t' S'→G)→G)
  (tail:∀ t' S',L=some (.normal,⟨⟨t',m⟩,d,S'⟩)→Q t' S'→G):G:=h tail
theorem join_reg {G:Prop} {d:List Nat} {m:Nat} {t:T Value} {S:AS} {x:Option (Fr × AS)} {L:Option (X × St)}
  (_hL:behind ⟨⟨t,m⟩,d,S⟩ x=L) (Q:T Value→AS→Prop)
  (h:(∀ t' S',L=some (.normal,⟨⟨t',m⟩,d,S'⟩)→Q t' S'→G)→G)
  (tail:∀ t' S',L=some (.normal,⟨⟨t',m⟩,d,S'⟩)→Q t' S'→G):G:=h tail
end Go.Aev
end
