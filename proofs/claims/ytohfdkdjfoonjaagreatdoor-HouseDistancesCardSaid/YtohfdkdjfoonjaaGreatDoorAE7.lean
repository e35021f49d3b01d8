import Derived.Test.YtohfdkdjfoonjaaGreatDoorAE6
import Derived.Test.YtohfdkdjfoonjaaGreatDoorAE5
section
set_option linter.unusedSimpArgs false
set_option linter.unusedVariables false
namespace Go.Aev
open Go Go.RowKit Go.ChangeShapes
structure Sl where
 p:Option Addr
 n:Nat
 c:Nat
def Sl.v (s:Sl):Value:=.slice s.p s.n s.c
instance:Cel Sl:=⟨1,fun s=>[s.v],fun _=>rfl,fun _=>rfl⟩
instance:Inhabited Sl:=⟨⟨none,0,0⟩⟩
section
variable {α:Type} [Cel α]
theorem own_apart {β:Type} [Cel β] {el ei lo lo':Nat} {S:AS} {v w:Value} {l:List α} {m:List β} (h:Own el lo S v l) (k:Own ei lo' S w m) (hne:ei≠el):∀ b,blkOf w=some b→blkOf v≠some b:=by
 intro b hw hv
 rcases h with ⟨_,rfl⟩|⟨id,ex,rfl,h1,h2,h3⟩
 ·simp [blkOf] at hv
 rcases k with ⟨_,rfl⟩|⟨id',ex',rfl,k1,k2,k3⟩
 ·simp [blkOf] at hw
 simp only [blkOf,Option.some.injEq] at hv hw
 subst hv; subst hw
 rw [h3] at k3
 injection k3 with k3
 injection k3 with _ k3
 exact hne k3.symm
def OwnL (el ei:TypeId) (lo:Nat) (S:AS) (v:Value) (L:List (List α)):Prop :=
 ei≠el∧∃ hs:List Sl,Own el lo S v hs∧hs.length=L.length∧∀ (i:Nat) (s:Sl) (l:List α),hs[i]?=some s→L[i]?=some l→Own ei lo S s.v l
theorem OwnL.nil (el ei lo:Nat) (S:AS) (h:ei≠el):OwnL el ei lo S (.slice none 0 0) ([]:List (List α)):=⟨h,[],Own.nil _ _ _,rfl,fun i s l h=>by simp at h⟩
theorem OwnL.agree {el ei lo:Nat} {S S':AS} {v:Value} {L:List (List α)} (h:OwnL el ei lo S v L) (ha:Agree S S'):OwnL el ei lo S' v L :=
 let ⟨h0,hs,h1,h2,h3⟩:=h; ⟨h0,hs,h1.agree ha,h2,fun i s l k1 k2=>(h3 i s l k1 k2).agree ha⟩
theorem OwnL.low {el ei lo lo':Nat} {S:AS} {v:Value} {L:List (List α)} (h:OwnL el ei lo S v L) (hl:lo'≤lo):OwnL el ei lo' S v L :=
 let ⟨h0,hs,h1,h2,h3⟩:=h; ⟨h0,hs,h1.low hl,h2,fun i s l k1 k2=>(h3 i s l k1 k2).low hl⟩
theorem OwnL.ne {el ei lo:Nat} {S:AS} {v:Value} {L:List (List α)} (h:OwnL el ei lo S v L) {id:Nat} (hi:id<lo):blkOf v≠some id:=let ⟨_,_,h1,_⟩:=h; h1.ne hi
theorem OwnL.new {el ei lo:Nat} {S:AS} {v:Value} {L:List (List α)} (h:OwnL el ei lo S v L) {id:Nat} (hi:S.next≤id):blkOf v≠some id:=let ⟨_,_,h1,_⟩:=h; h1.new hi
theorem OwnL.lt {el ei lo:Nat} {S:AS} {v:Value} {L:List (List α)} (h:OwnL el ei lo S v L) {b:Nat} (hb:blkOf v=some b):b<S.next:=let ⟨_,_,h1,_⟩:=h; h1.lt hb
theorem OwnL.slice {el ei lo:Nat} {S:AS} {v:Value} {L:List (List α)} (h:OwnL el ei lo S v L):∃ p n c,v=.slice p n c:=let ⟨_,_,h1,_⟩:=h; own_slice h1
theorem Lst.rep {S:AS} {v:Value} {l:List α} (h:Lst S v l):LstR S v l:=by
 rcases h with h|⟨id,off,c,ty,cap,wr,ex,h1,h2,h3,h4,h5⟩
 ·exact .inl h
 ·exact .inr ⟨id,off,c,ty,cap,wr,ex,h1,h2,h3,h4,fun i x hx=>⟨cellsOf x,rfl,h5 i x hx⟩⟩
theorem OwnL.rows {el ei lo:Nat} {S:AS} {v:Value} {L:List (List α)} (h:OwnL el ei lo S v L):LstR S v L:=by
 obtain ⟨h0,hs,h1,h2,h3⟩:=h
 have r:=h1.rows
 rcases r with ⟨e,h⟩|⟨id,off,c,ty,cap,wr,ex,q1,q2,q3,q4,q5⟩
 ·subst e
  exact .inl ⟨List.length_eq_zero_iff.1 (by rw [← h2]; rfl),h⟩
 ·refine .inr ⟨id,off,c,ty,cap,wr,ex,by rw [← h2]; exact q1,by rw [← h2]; exact q2,q3,q4,fun i x hx=>?_⟩
  have hi:i<hs.length:=by have:=(List.getElem?_eq_some_iff.1 hx).1; omega
  have hg:hs[i]?=some hs[i]:=List.getElem?_eq_getElem hi
  exact ⟨[hs[i].v],⟨_,rfl,(h3 i _ _ hg hx).rows.rep⟩,fun j hj=>q5 i _ hg j hj⟩
theorem ownl_append {P:Program} {t tx el ei e2 lo:Nat} {S:AS} {v x:Value} {L:List (List α)} {s:Sl} {l:List α} (ho:OwnL el ei lo S v L) (hr:Lst S x [s]) (hin:Own ei lo S s.v l) (hlo:lo≤S.next) (h1:L.length≤1048576)
  (hu:P.underlying t=some (.slice el)) (hx:P.underlying tx=some (.slice e2)) (hi:(P.info? el).map (fun i=>Nat.ble i.bytes 65536)=some true) (hz:(zeroOf P el).isSome=true) (hs:szOf P el=some 1) :
  ∃ v' S',aAppend P t tx v x S=some (v',S')∧OwnL el ei lo S' v' (L++[l])∧S.next≤S'.next∧(∀ id,id<S.next→blkOf v≠some id→S'.heap.get id=S.heap.get id)∧(∀ id,id<S.next→blkOf v≠some id→blkOf v'≠some id):=by
 obtain ⟨h0,hd,k1,k2,k3⟩:=ho
 obtain ⟨v',S',e1,e2,e3,e4,e5⟩:=own_append k1 hr hlo (by rw [k2]; exact h1) (by simp) hu hx hi hz (n:=0) rfl hs
 have fr:∀ (w:Value) (m:List α),Own ei lo S w m→Own ei lo S' w m:=fun w m hw=>hw.frame e3 fun id hid hb=>e4 id hid (own_apart k1 hw h0 id hb)
 refine ⟨v',S',e1,⟨h0,hd++[s],e2,by simp [k2],fun i q m g1 g2=>?_⟩,e3,e4,e5⟩
 by_cases c:i<hd.length
 ·rw [List.getElem?_append_left c] at g1
  rw [List.getElem?_append_left (by omega)] at g2
  exact fr _ _ (k3 i q m g1 g2)
 ·rw [List.getElem?_append_right (by omega)] at g1
  rw [List.getElem?_append_right (by omega)] at g2
  rw [← k2] at g2
  cases hh:i - hd.length with
  | zero =>
   rw [hh] at g1 g2
   simp only [List.getElem?_cons_zero,Option.some.injEq] at g1 g2
   subst g1; subst g2
   exact fr _ _ hin
  | succ j=>rw [hh] at g1; simp at g1
theorem OwnL.at {P:Program} {t el ei lo:Nat} {S:AS} {v:Value} {L:List (List α)} (ho:OwnL el ei lo S v L) (hu:P.underlying t=some (.slice el)) (hs:szOf P el=some 1) {i:Nat} {l:List α} (hx:L[i]?=some l) :
  ∃ id o c ty wr ex p n cc,aIndexAddr P t v (.int .i64 (i:Int))=some (.pointer (some ⟨id,o,none⟩))∧S.heap.get id=some (.cells c ty 1 wr ex)∧id<S.next∧c[o]?=some (.slice p n cc)∧Own ei lo S (.slice p n cc) l∧blkOf v=some id:=by
 obtain ⟨h0,hd,k1,k2,k3⟩:=ho
 have hi:i<hd.length:=by have:=(List.getElem?_eq_some_iff.1 hx).1; omega
 have hg:hd[i]?=some hd[i]:=List.getElem?_eq_getElem hi
 obtain ⟨id,c,ex,h1,h2,h3,h4,h5,h6⟩:=k1.at hu hs hg
 exact ⟨id,_,c,el,true,ex,hd[i].p,hd[i].n,hd[i].c,h4,h5,h3,h6 0 (by decide),k3 i _ _ hg hx,h1⟩
end
end Go.Aev
end
section
set_option linter.unusedSimpArgs false
set_option linter.unusedVariables false
namespace Go.Aev
open Go Go.RowKit Go.ChangeShapes
def nilB:Value→Bool
 | .slice none 0 0=>true
 | _=>false
section
variable {α:Type} [Cel α]
theorem Lst.form {S:AS} {v:Value} {l:List α} (h:Lst S v l):∃ p n c,v=.slice p n c:=by
 rcases h with ⟨_,rfl|rfl⟩|⟨id,off,c,ty,cap,wr,ex,rfl,_⟩<;>exact ⟨_,_,_,rfl⟩
theorem nilB_nil {S:AS} {v:Value} {l:List α} (h:Lst S v l) (hb:nilB v=true):l=[]:=by
 rcases h with ⟨h,_⟩|⟨id,off,c,ty,cap,wr,ex,rfl,_⟩
 ·exact h
 ·simp [nilB] at hb
end
theorem LstR.form {α:Type} [Rep α] {S:AS} {v:Value} {l:List α} (h:LstR S v l):∃ p n c,v=.slice p n c:=by
 rcases h with ⟨_,rfl|rfl⟩|⟨id,off,c,ty,cap,wr,ex,rfl,_⟩<;>exact ⟨_,_,_,rfl⟩
def slEq (d:Option TypeDesc) (u v:Option Value) (n:Bool) (S:AS):Option (Value × AS) :=
 match d,u,v with
 | some (.slice _),some (.slice none 0 0),some (.slice none 0 0)=>some (.bool (!n),S)
 | some (.slice _),some (.slice (some _) _ _),some (.slice none 0 0)=>some (.bool n,S)
 | _,_,_=>none
theorem strEq_sl (e:TypeId) (u v:Option Value) (n:Bool) (S:AS):strEq (some (.slice e)) u v n S=none:=rfl
section
variable {P:Program} {E:Env} {r:Rec}
variable (dst:Option Tmp) (ty:TypeId) (pos:String) (after:Array Edge) (g:Option (Nat × Bool)) (f:Fr) (S:AS)
def evOpN (P:Program) (E:Env) (r:Rec) (o:Oper) (f:Fr) (S:AS):Option (Value × AS):=evOpC P E r o f S
theorem firstOfN {x:Option (Value × AS)} {o:Oper} (h:∀ z,x=some z→evOp P E r o f S=some z):evOpC P E r o f S=firstOf x (evOpN P E r o f S):=by
 cases x with
 | none=>rfl
 | some z=>exact h z rfl
theorem bin_eqlSl {v:Value} (h:∃ p n c,v=.slice p n c) (t t2:TypeId) (x y:Operand):bin2 P E r ⟨dst,.binOp .eql t x y t2,ty,pos,after,g⟩ f S (some v) (some (.slice none 0 0))=evOpB P E r ⟨dst,.binOp .eql t x y t2,ty,pos,after,g⟩ f S:=by
 obtain ⟨p,n,c,rfl⟩:=h; rfl
theorem at0_nil {t e:TypeId} (h:P.underlying t=some (.slice e)) (d:Nat):at0 P (Op.equalIn (d+1) t (.slice none 0 0) (.slice none 0 0))=some true:=by
 simp only [Op.equalIn,at0_bind,at0_und h]
 rfl
theorem opC_eql (t t2:TypeId) (x y:Operand):evOpC P E r ⟨dst,.binOp .eql t x y t2,ty,pos,after,g⟩ f S=firstOf (slEq (P.underlying t) (f.val E.G x) (f.val E.G y) false S) (evOpN P E r ⟨dst,.binOp .eql t x y t2,ty,pos,after,g⟩ f S):=by
 refine firstOfN f S fun z hz=>?_
 unfold slEq at hz
 split at hz
 ·rename_i e hu hx hy
  simp only [Option.some.injEq] at hz
  subst hz
  have h0:at0 P (execOp (fun x=>(f.val E.G x).getD undef) ⟨dst,.binOp .eql t x y t2,ty,pos,after,g⟩)=some (.value (.bool true)):=by
   simp [execOp,hx,hy,eqGuard,binOp,at0_bind,at0_map,at0_pure,equal_def,at0_nil hu]
  have hf:evFlat P ⟨dst,.binOp .eql t x y t2,ty,pos,after,g⟩ (fun x=>(f.val E.G x).getD undef)=some (.bool true):=by
   simp [evFlat,flatKind,Op.operands,hx,hy,selfB,h0]
  have hs:evStruct P ⟨dst,.binOp .eql t x y t2,ty,pos,after,g⟩ (fun x=>(f.val E.G x).getD undef) S=none:=by simp [evStruct,hx,hy,aEqs,aEqAgg,aEq,hu]
  simp [evOp,Op.operands,vals_two hx hy,evSimple,hs,hf]
 ·rename_i e a n c hu hx hy
  simp only [Option.some.injEq] at hz
  subst hz
  have hs:evStruct P ⟨dst,.binOp .eql t x y t2,ty,pos,after,g⟩ (fun x=>(f.val E.G x).getD undef) S=some (some (.bool false),S):=by simp [evStruct,hx,hy,aEqs,aEqAgg,aEq,hu]
  simp [evOp,Op.operands,vals_two hx hy,evSimple,hs]
 ·simp at hz
end
theorem slEq_lst {α:Type} [Cel α] {S0:AS} {v:Value} {l:List α} (h:Lst S0 v l) (e:TypeId) (S:AS):slEq (some (.slice e)) (some v) (some (.slice none 0 0)) false S=some (.bool (nilB v),S):=by
 rcases h with ⟨_,rfl|rfl⟩|⟨id,off,c,ty,cap,wr,ex,rfl,_⟩<;>rfl
end Go.Aev
end
