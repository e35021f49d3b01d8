import Derived.Test.YtohfdkdjfoonjaaGreatDoorAE4
section
set_option linter.unusedVariables false
set_option linter.unusedSimpArgs false
namespace Go.Aev
open Go
variable {P:Program} {E:Env}
structure YieldS (P:Program) (E:Env) (S0:AS) (y:Nat) {β:Type} (args:β→Array Value) (ys:List β) (I J:Nat→(Nat→Prop)→AS→Prop):Prop where
 low:∀ i T S,I i T S→∀ id,T id→id<S.next
 keep:∀ i T S S',I i T S→S.next≤S'.next→(∀ id,id<S.next→(T id∨id<S0.next)→S'.heap.get id=S.heap.get id)→I i T S'
 step:∀ i T S b,ys[i]?=some b→I i T S→(∃ S' T',(evL P E).round y (args b) S=some (.bool true,S')∧I (i+1) T' S'∧Off T S S'∧Wider T S T') ∨
  ∃ S' T',(evL P E).round y (args b) S=some (.bool false,S')∧J i T' S'∧Off T S S'∧Wider T S T'
theorem round_runS {l : Nat} {bs : List Value} {t : T Value} {m : Nat} {ps : List Tmp} {A B : Code} {S : AS} (hlen : bs.length = ps.length)
    (hL : S.heap.get l = some (.loop ⟨.ready,none,t,m,ps.toArray,A,B⟩)) {Q R : AS → Prop}
    (h : ∀ z,evCode P E (evL P E) (some l) A ⟨setParams (List.zip ps bs) ⟨t,m⟩,[],S⟩ = z → ∃ f1 S1,z = some (.normal,⟨f1,[],S1⟩) ∧ S1.heap.get l = some (.loop ⟨.ready,none,t,m,ps.toArray,A,B⟩) ∧
      ∀ S2,S2.next = S1.next → S2.heap.get l = some (.loop ⟨.busy,none,t,m,ps.toArray,A,B⟩) → (∀ q,q ≠ l → S2.heap.get q = S1.heap.get q) → ∀ z',evCode P E (evL P E) (some l) B ⟨f1,[],S2⟩ = z' →
        ∃ x f3 d3 S3,z' = some (x,⟨f3,d3,S3⟩) ∧ S3.heap.get l = some (.loop ⟨.busy,none,t,m,ps.toArray,A,B⟩) ∧
          ((x = .normal ∧ ∀ S4,S4.next = S3.next → S4.heap.get l = some (.loop ⟨.ready,none,t,m,ps.toArray,A,B⟩) → (∀ q,q ≠ l → S4.heap.get q = S3.heap.get q) → Q S4) ∨
           (x = .ret ∧ ∀ S4,S4.next = S3.next → S4.heap.get l = some (.loop ⟨.done,some .ret,t,m,ps.toArray,A,B⟩) → (∀ q,q ≠ l → S4.heap.get q = S3.heap.get q) → R S4))) :
    (∃ S',(evL P E).round l bs.toArray S = some (.bool true,S') ∧ Q S') ∨ ∃ S',(evL P E).round l bs.toArray S = some (.bool false,S') ∧ R S' := by
  obtain ⟨f1,S1,h1,h2,h3⟩ := h _ rfl
  obtain ⟨x,f3,d3,S3,h4,h5,h6⟩ := h3 { S1 with heap := S1.heap.set l (some (.loop ⟨.busy,none,t,m,ps.toArray,A,B⟩)) } rfl (by simp [T.get_set]) (fun q hq => by simp [T.get_set,hq]) _ rfl
  have hsz : Nat.beq bs.toArray.size ps.toArray.size = true := by rw [List.size_toArray,List.size_toArray,hlen]; exact Nat.beq_refl _
  have hz : setParams (List.zip ps.toArray.toList bs.toArray.toList) ⟨t,m⟩ = setParams (List.zip ps bs) ⟨t,m⟩ := rfl
  rcases h6 with ⟨rfl,h6⟩ | ⟨rfl,h6⟩
  · refine .inl ⟨_,?_,h6 { S3 with heap := S3.heap.set l (some (.loop ⟨.ready,none,t,m,ps.toArray,A,B⟩)) } rfl (by simp [T.get_set]) (fun q hq => by simp [T.get_set,hq])⟩
    rw [L_round]
    simp only [evRound,hL,hsz,hz,h1,h2,h4,h5]
  · refine .inr ⟨_,?_,h6 { S3 with heap := S3.heap.set l (some (.loop ⟨.done,some .ret,t,m,ps.toArray,A,B⟩)) } rfl (by simp [T.get_set]) (fun q hq => by simp [T.get_set,hq])⟩
    rw [L_round]
    simp only [evRound,hL,hsz,hz,h1,h2,h4,h5]
end Go.Aev
end
section
set_option linter.unusedSimpArgs false
set_option linter.unusedVariables false
namespace Go.Aev
open Go Go.RowKit Go.ChangeShapes
section
variable {α:Type} [Cel α]
theorem flat_set1 {n:Nat}:∀ (l:List (List Value)),(∀ x ∈ l,x.length=n)→∀ (i j:Nat) (y:List Value) (u:Value),l[i]?=some y→j<n→l.flatten.set (i * n+j) u=(l.set i (y.set j u)).flatten
 | [],_,i,j,y,u,e,_=>by simp at e
 | z :: l,h,0,j,y,u,e,hj=>by
  simp only [List.getElem?_cons_zero,Option.some.injEq] at e
  subst e
  have hz:=h z (by simp)
  rw [List.flatten_cons,Nat.zero_mul,Nat.zero_add,List.set_append_left _ _ (by omega),List.set_cons_zero,List.flatten_cons]
 | z :: l,h,i+1,j,y,u,e,hj=>by
  have hz:=h z (by simp)
  have ih:=flat_set1 l (fun w hw=>h w (by simp [hw])) i j y u (by simpa using e) hj
  rw [List.flatten_cons,List.set_append_right _ _ (by rw [hz,Nat.succ_mul]; omega),hz,show (i+1) * n+j - n=i * n+j by rw [Nat.succ_mul]; omega,ih,List.set_cons_succ,List.flatten_cons]
theorem take_set_drop {β:Type} (l:List β) (o:Nat) (u:β) (h:o<l.length):l.take o++[u]++l.drop (o+1)=l.set o u:=by
 rw [List.set_eq_take_append_cons_drop,if_pos h]
 simp
end
end Go.Aev
end
section
set_option linter.unusedSimpArgs false
set_option linter.unusedVariables false
namespace Go.Aev
open Go Go.RowKit Go.ChangeShapes
section
variable {α:Type} [Cel α]
theorem Own.at4 {el lo:Nat} {S:AS} {v:Value} {l:List α} (ho:Own el lo S v l) {P:Program} {t:TypeId} (hu:P.underlying t=some (.slice el)) (hs:szOf P el=some (Cel.n α)) {i:Nat} {x:α} (hx:l[i]?=some x) :
  ∃ id o c ty wr ex,aIndexAddr P t v (.int .i64 (i:Int))=some (.pointer (some ⟨id,o,none⟩))∧S.heap.get id=some (.cells c ty (Cel.n α) wr ex)∧id<S.next ∧
   (∀ j,j<(Cel.n α)→c[o+j]?=(cellsOf x)[j]?)∧lo≤id∧blkOf v=some id∧o=i * (Cel.n α):=by
 obtain ⟨id,c,ex,h1,h2,h3,h4,h5,h6⟩:=ho.at hu hs hx
 exact ⟨id,_,c,el,true,ex,h4,h5,h3,h6,h2,h1,rfl⟩
theorem Own.put1 {el lo:Nat} {S:AS} {v:Value} {l:List α} (ho:Own el lo S v l) {P:Program} {i id o:Nat} {x:α} (hx:l[i]?=some x) (hb:blkOf v=some id) (oq:o=i * (Cel.n α)) (f:TypeId) (u:Value) (j:Nat) (x':α)
  (k1:szOf P f=some 1) (k2:u.cells.toList=[u]) (k3:oneB u=true) (k4:j<(Cel.n α)) (k5:cellsOf x'=(cellsOf x).set j u) :
  ∃ S1,stA P f ⟨id,o+j,none⟩ u S=some S1∧S1.next=S.next∧Own el lo S1 v (l.set i x')∧∀ q,q≠id→S1.heap.get q=S.heap.get q:=by
 have hi:i<l.length:=(List.getElem?_eq_some_iff.1 hx).1
 subst oq
 rcases ho with ⟨rfl,rfl⟩|⟨id',ex',rfl,o1,o2,o3⟩
 ·simp at hi
 ·simp only [blkOf,Option.some.injEq] at hb
  subst hb
  have hlen:((l.map cellsOf).flatten).length=l.length * (Cel.n α):=by rw [flat_len _ (cells_all l),List.length_map]
  have hle:i * (Cel.n α)+(Cel.n α)≤l.length * (Cel.n α):=by
   rw [← Nat.succ_mul]; exact Nat.mul_le_mul_right _ hi
  obtain ⟨S1,q1,q2,q3,q4⟩:=st_at (o:=i * (Cel.n α)+j) (v:=u) k1 o3 (by rw [k2]; simp [k3]) (by rw [← Array.length_toList,k2]; rfl) (by rw [hlen]; omega) rfl
  refine ⟨S1,q1,q2,.inr ⟨id',ex',by simp,o1,by omega,?_⟩,q4⟩
  rw [q3,k2,take_set_drop _ _ _ (by rw [hlen]; omega),flat_set1 _ (cells_all l) i j (cellsOf x) u (by simp [hx]) k4,List.map_set,k5]
end
end Go.Aev
end
section
set_option linter.unusedSimpArgs false
set_option linter.unusedVariables false
namespace Go.Aev
open Go Go.RowKit Go.ChangeShapes
section
variable {P:Program} {E:Env} {r:Rec}
variable (dst:Option Tmp) (ty:TypeId) (pos:String) (after:Array Edge) (g:Option (Nat × Bool)) (f:Fr) (S:AS)
theorem op_makeSlice (t:TypeId) (x y:Operand):evOp P E r ⟨dst,.makeSlice t x y,ty,pos,after,g⟩ f S=firstOf ((f.val E.G x).bind fun u=>(f.val E.G y).bind fun w=>aMakeSlice P t u w S) (evOpB P E r ⟨dst,.makeSlice t x y,ty,pos,after,g⟩ f S):=by
 refine firstOf_of fun z hz=>?_
 obtain ⟨u,hu,hz⟩:=Option.bind_eq_some_iff.1 hz
 obtain ⟨w,hw,hz⟩:=Option.bind_eq_some_iff.1 hz
 exact op_struct2 (z:=(some z.1,z.2)) dst ty pos after g f S rfl (by simp) (by simp) (by simp) (by simp) hu hw (by simp [evStruct,hu,hw,hz])
theorem cells_nf:Value.nilFunc.cells=#[.nilFunc]:=rfl
theorem cd_scope {ro:Option Nat} {c:Code} {s:St}:evCode P E r ro (.scope c) s=evCode P E r ro c s:=by simp only [evCode]
theorem own_slice {α:Type} [Cel α] {el lo:Nat} {S:AS} {v:Value} {l:List α} (h:Own el lo S v l):∃ p n c,v=.slice p n c:=by
 rcases h with ⟨_,rfl⟩|⟨id,ex,rfl,_⟩<;>exact ⟨_,_,_,rfl⟩
def aCopyB (P:Program) (t:TypeId) (d s:Value) (S:AS):Option (Value × AS) :=
 match aCopy0 P t d s with
 | some v=>some (v,S)
 | none=>aCopy P t d s S
theorem op_copy (t t2:TypeId) (x y:Operand):evOp P E r ⟨dst,.call ⟨.builtin .copy,#[x,y],#[t,t2]⟩,ty,pos,after,g⟩ f S=firstOf ((f.val E.G x).bind fun u=>(f.val E.G y).bind fun w=>aCopyB P t u w S) (evOpB P E r ⟨dst,.call ⟨.builtin .copy,#[x,y],#[t,t2]⟩,ty,pos,after,g⟩ f S):=by
 refine firstOf_of fun z hz=>?_
 obtain ⟨u,hu,hz⟩:=Option.bind_eq_some_iff.1 hz
 obtain ⟨w,hw,hz⟩:=Option.bind_eq_some_iff.1 hz
 refine op_struct2 (z:=(some z.1,z.2)) dst ty pos after g f S rfl (by simp) (by simp) (by simp) (by simp) hu hw ?_
 unfold aCopyB at hz
 cases h0:aCopy0 P t u w with
 | some v=>rw [h0] at hz; simp only [Option.some.injEq] at hz; subst hz; simp [evStruct,hu,hw,h0]
 | none=>rw [h0] at hz; simp only at hz; simp [evStruct,hu,hw,h0,hz]
end
section
variable {α:Type} [Cel α]
theorem make_own {P:Program} {t el:TypeId} {z:Value} {x0:α} {n:Nat} {k k':IntKind} (S:AS) (hu:P.underlying t=some (.slice el)) (hi:(P.info? el).map (fun i=>Nat.ble i.bytes 65536)=some true) (hz:zeroOf P el=some z) {s:Nat} (hk:Cel.n α=s+1) (hs:szOf P el=some (s+1))
  (hc:z.cells.toList=cellsOf x0) (hn:n≤65536) :
  ∃ v S',aMakeSlice P t (.int k n) (.int k' n) S=some (v,S')∧v=.slice (some ⟨S.next,0,none⟩) n n∧Agree S S'∧Own el S.next S' v (List.replicate n x0):=by
 obtain ⟨i,hi,hb⟩:=Option.map_eq_some_iff.1 hi
 have hzs:z.cells.size=s+1:=by rw [← Array.length_toList,hc,cellsOf_len,hk]
 have e1:(zerosOf z.cells (n * (s+1))).size=n * (s+1):=by simp [zerosOf]
 have e2:(zerosOf z.cells (n * (s+1))).toList=((List.replicate n x0).map cellsOf).flatten:=by
  have hfl:=flat_len _ (cells_all (List.replicate n x0))
  rw [List.length_map,List.length_replicate,hk] at hfl
  refine List.ext_getElem? fun q=>?_
  rcases Nat.lt_or_ge q (n * (s+1)) with hq|hq
  ·have hqd:q / (s+1)<n:=Nat.div_lt_of_lt_mul (by rw [Nat.mul_comm]; exact hq)
   have hm:=Nat.mod_lt q (show 0<s+1 by omega)
   have e3:q=q / (s+1) * (s+1)+q % (s+1):=(Nat.div_add_mod' q _).symm
   have hg:=flat_get (n:=s+1) ((List.replicate n x0).map cellsOf) (fun y hy=>by rw [cells_all _ y hy,hk]) (q / (s+1)) (cellsOf x0) (by simp [hqd]) _ hm
   rw [← e3] at hg
   rw [hg,← hc]
   rw [Array.getElem?_toList,Array.getElem?_toList]
   simp only [zerosOf]
   rw [Array.getElem?_map,Array.getElem?_range,if_pos hq,Option.map_some,hzs]
   rw [getElem!_pos z.cells (q % (s+1)) (by omega),Array.getElem?_eq_getElem (by omega)]
  ·rw [List.getElem?_eq_none (by rw [Array.length_toList,e1]; exact hq),List.getElem?_eq_none (by rw [hfl]; exact hq)]
 refine ⟨_,S.push (.cells (zerosOf z.cells (n * (s+1))).toList el (s+1) true true),?_,rfl,⟨by simp [AS.push],fun id hid=>push_ne _ _ (by omega)⟩,?_⟩
 ·have b1:Nat.ble n n=true:=Nat.ble_eq ▸ Nat.le_refl n
  have b2:Nat.ble n 65536=true:=Nat.ble_eq ▸ hn
  have b3:Nat.beq (zerosOf z.cells (n * (s+1))).size (n * (s+1))=true:=by rw [e1]; exact Nat.beq_refl _
  have d1:(.int k (n:Int):Value)=.int k (.ofNat n):=rfl
  have d2:(.int k' (n:Int):Value)=.int k' (.ofNat n):=rfl
  rw [d1,d2]
  simp only [aMakeSlice,hu,hi,hz,hs,b1,b2,hb,b3]
 ·exact .inr ⟨S.next,true,by simp,Nat.le_refl _,by simp [AS.push],by rw [push_eq _ _ rfl,e2,hk]⟩
theorem take_all {β:Type} (l:List β) (n:Nat) (h:l.length=n):l.take n=l:=by rw [← h,List.take_length]
theorem copy_own {P:Program} {t el lo:TypeId} {S:AS} {v w x:Value} {l m:List α} (ho:Own el lo S v l) (hu:P.underlying t=some (.slice el)) (hs:szOf P el=some (Cel.n α)) (hp:0<Cel.n α) {id cap cap2 i:Nat} (hv:v=.slice (some ⟨id,0,none⟩) l.length l.length)
  (hw:w=.slice (some ⟨id,i * (Cel.n α),none⟩) (l.length - i) cap) (hi0:i<l.length) {id2 off2 n2:Nat} (hx:x=.slice (some ⟨id2,off2,none⟩) n2 cap2) (hn2:0<n2) {c:List Value} {ty:Nat} {wr ex:Bool} (hg:S.heap.get id2=some (.cells c ty (Cel.n α) wr ex))
  (hc:off2+Nat.min n2 (l.length - i) * (Cel.n α)≤c.length) (hm:m.length=Nat.min n2 (l.length - i)) (hcs:(c.drop off2).take (Nat.min n2 (l.length - i) * (Cel.n α))=(m.map cellsOf).flatten) :
  ∃ S',aCopyB P t w x S=some (.int .i64 (Nat.min n2 (l.length - i)),S')∧S'.next=S.next∧Own el lo S' v (l.take i++m++l.drop (i+m.length))∧∀ q,q≠id→S'.heap.get q=S.heap.get q:=by
 have hi:i≤l.length:=Nat.le_of_lt hi0
 have hK:m.length≤l.length - i:=by rw [hm]; exact Nat.min_le_right _ _
 rcases ho with ⟨rfl,rfl⟩|⟨id',ex',rfl,h1,h2,h3⟩
 ·simp at hv
 ·simp only [Value.slice.injEq,Option.some.injEq,Addr.mk.injEq,and_true,true_and] at hv
  subst hv
  have hlen:((l.map cellsOf).flatten).length=l.length * (Cel.n α):=by rw [flat_len _ (cells_all l),List.length_map]
  have hml:((m.map cellsOf).flatten).length=m.length * (Cel.n α):=by rw [flat_len _ (cells_all m),List.length_map]
  have hmle:i * Cel.n α+m.length * Cel.n α≤l.length * Cel.n α:=by
   rw [← Nat.add_mul]; exact Nat.mul_le_mul_right _ (by omega)
  obtain ⟨S1,k1,k2,k3,k4⟩:=wr_open el (Cel.n α) ex' id' ((m.map cellsOf).flatten) (i * Cel.n α) 0 ((l.map cellsOf).flatten) S h3 (cells_one m) (by rw [hlen,hml]; omega)
  refine ⟨S1,?_,k2,.inr ⟨id',ex',?_,h1,by omega,?_⟩,k4⟩
  ·have hcell:S.cellsAt ⟨id2,off2,none⟩ (Nat.min n2 (l.length - i) * (Cel.n α))=some ((m.map cellsOf).flatten):=by
    simp only [AS.cellsAt,hg]
    rw [show Nat.ble (off2+Nat.min n2 (l.length - i) * (Cel.n α)) c.length=true from Nat.ble_eq ▸ hc,hcs]
   have h0:aCopy0 P t w x=none:=by
    subst hw hx
    have e1:l.length - i≠0:=by omega
    have e2:n2≠0:=by omega
    unfold aCopy0
    split
    ·split
     all_goals first|rfl|(simp_all; done)|skip
     all_goals (simp only [Value.slice.injEq] at *; omega)
    ·rfl
   simp only [aCopyB,h0]
   subst hw hx
   simp only [aCopy,hu,hs,hcell,ai_storeCells,k1,Option.map_some]
  ·have:(l.take i++m++l.drop (i+m.length)).length=l.length:=by
    simp only [List.length_append,List.length_take,List.length_drop]
    omega
   rw [this]
  ·rw [k3]
   congr 2
   rw [List.map_append,List.map_append,List.flatten_append,List.flatten_append,hml,Nat.add_zero]
   have t1:∀ j,j≤l.length→((l.map cellsOf).flatten).take (j * Cel.n α)=((l.take j).map cellsOf).flatten:=by
    intro j hj
    have e:l.map cellsOf=(l.take j).map cellsOf++(l.drop j).map cellsOf:=by rw [← List.map_append,List.take_append_drop]
    have hl:(((l.take j).map cellsOf).flatten).length=j * Cel.n α:=by rw [flat_len _ (cells_all _),List.length_map,List.length_take,Nat.min_eq_left hj]
    rw [e,List.flatten_append,← hl,List.take_left]
   have t2:∀ j,j≤l.length→((l.map cellsOf).flatten).drop (j * Cel.n α)=((l.drop j).map cellsOf).flatten:=by
    intro j hj
    have e:l.map cellsOf=(l.take j).map cellsOf++(l.drop j).map cellsOf:=by rw [← List.map_append,List.take_append_drop]
    have hl:(((l.take j).map cellsOf).flatten).length=j * Cel.n α:=by rw [flat_len _ (cells_all _),List.length_map,List.length_take,Nat.min_eq_left hj]
    rw [e,List.flatten_append,← hl,List.drop_left]
   rw [t1 i hi,← Nat.add_mul,t2 (i+m.length) (by omega)]
theorem Own.lo_at {P:Program} {t el lo:TypeId} {S:AS} {l:List α} {id len:Nat} (ho:Own el lo S (.slice (some ⟨id,0,none⟩) len len) l) (hu:P.underlying t=some (.slice el)) (hs:szOf P el=some (Cel.n α)) {i:Nat} (hi:i<l.length) :
  aSlice P t (.slice (some ⟨id,0,none⟩) len len) (some (.int .i64 (i:Int))) none S=some (.slice (some ⟨id,i * Cel.n α,none⟩) (len - i) (len - i))∧len=l.length∧∃ ex,S.heap.get id=some (.cells (l.map cellsOf).flatten el (Cel.n α) true ex):=by
 rcases ho with ⟨rfl,e⟩|⟨id',ex,e,h1,h2,h3⟩
 ·simp at hi
 ·simp only [Value.slice.injEq,Option.some.injEq,Addr.mk.injEq,and_true,true_and] at e
  obtain ⟨rfl,rfl,_⟩:=e
  have n1:natOr 0 (some (.int .i64 (i:Int)))=some i:=rfl
  have n2:natOr l.length none=some l.length:=rfl
  have b1:Nat.ble i l.length=true:=Nat.ble_eq ▸ Nat.le_of_lt hi
  have b4:Nat.beq l.length i=false:=by
   cases hb:Nat.beq l.length i with
   | false=>rfl
   | true=>have:=Nat.eq_of_beq_eq_true hb; omega
  refine ⟨?_,rfl,ex,h3⟩
  simp only [aSlice,hu,h3,hs,n1,n2,b1,Nat.ble_eq ▸ Nat.le_refl l.length,Nat.beq_refl,b4,addr_add,Nat.zero_add]
theorem Own.hi_at {P:Program} {t el lo:TypeId} {S:AS} {l:List α} {id len:Nat} (ho:Own el lo S (.slice (some ⟨id,0,none⟩) len len) l) (hu:P.underlying t=some (.slice el)) (hs:szOf P el=some (Cel.n α)) {i:Nat} (hi:i≤l.length) (h0:0<l.length) :
  aSlice P t (.slice (some ⟨id,0,none⟩) len len) none (some (.int .i64 (i:Int))) S=some (.slice (some ⟨id,0,none⟩) i len):=by
 rcases ho with ⟨rfl,e⟩|⟨id',ex,e,h1,h2,h3⟩
 ·simp at h0
 ·simp only [Value.slice.injEq,Option.some.injEq,Addr.mk.injEq,and_true,true_and] at e
  obtain ⟨rfl,rfl,_⟩:=e
  have n1:natOr l.length (some (.int .i64 (i:Int)))=some i:=rfl
  have n0:natOr 0 none=some 0:=rfl
  have b1:Nat.ble 0 i=true:=Nat.ble_eq ▸ Nat.zero_le i
  have b2:Nat.ble i l.length=true:=Nat.ble_eq ▸ hi
  have b4:Nat.beq l.length 0=false:=by
   cases hb:Nat.beq l.length 0 with
   | false=>rfl
   | true=>have:=Nat.eq_of_beq_eq_true hb; omega
  simp only [aSlice,hu,h3,hs,n1,n0,b1,b2,Nat.beq_refl,b4,addr_add,Nat.zero_mul,Nat.add_zero,Nat.sub_zero]
theorem flat_take (l:List α) {j:Nat} (hj:j≤l.length):((l.map cellsOf).flatten).take (j * Cel.n α)=((l.take j).map cellsOf).flatten:=by
 have e:l.map cellsOf=(l.take j).map cellsOf++(l.drop j).map cellsOf:=by rw [← List.map_append,List.take_append_drop]
 have hl:(((l.take j).map cellsOf).flatten).length=j * Cel.n α:=by rw [flat_len _ (cells_all _),List.length_map,List.length_take,Nat.min_eq_left hj]
 rw [e,List.flatten_append,← hl,List.take_left]
end
theorem Off.base {T:Nat→Prop} {Sb S S':AS} (ha:Agree Sb S) (hT:∀ id,T id→Sb.next≤id) (h:Off T S S'):Agree Sb S' :=
 ⟨Nat.le_trans ha.1 h.1,fun id hid=>(h.2 id (Nat.lt_of_lt_of_le hid ha.1) (fun ht=>by have:=hT id ht; omega)).trans (ha.2 id hid)⟩
end Go.Aev
end
section
set_option linter.unusedSimpArgs false
set_option linter.unusedVariables false
namespace Go.Aev
open Go Go.RowKit
theorem join_reg {G:Prop} {d:List Nat} {m:Nat} {t:T Value} {S:AS} {x:Option (Fr × AS)} {L:Option (X × St)}
  (_hL:behind ⟨⟨t,m⟩,d,S⟩ x=L) (Q:T Value→AS→Prop)
  (h:(∀ t' S',L=some (.normal,⟨⟨t',m⟩,d,S'⟩)→Q t' S'→G)→G)
  (tail:∀ t' S',L=some (.normal,⟨⟨t',m⟩,d,S'⟩)→Q t' S'→G):G:=h tail
end Go.Aev
end
