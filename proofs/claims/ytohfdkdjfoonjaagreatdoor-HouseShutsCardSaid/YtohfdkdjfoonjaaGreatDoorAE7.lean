import Derived.Test.YtohfdkdjfoonjaaGreatDoorAE6
import Derived.Test.YtohfdkdjfoonjaaGreatDoorAE5
section
set_option linter.unusedSimpArgs false
set_option linter.unusedVariables false
namespace Go.Aev
open Go Go.RowKit Go.ChangeShapes
structure Sl where
 p:Option Addr
 n:Nat
 c:Nat
def Sl.v (s:Sl):Value:=.slice s.p s.n s.c
instance:Cel Sl:=⟨1,fun s=>[s.v],fun _=>rfl,fun _=>rfl⟩
instance:Inhabited Sl:=⟨⟨none,0,0⟩⟩
section
variable {α:Type} [Cel α]
theorem own_apart {β:Type} [Cel β] {el ei lo lo':Nat} {S:AS} {v w:Value} {l:List α} {m:List β} (h:Own el lo S v l) (k:Own ei lo' S w m) (hne:ei≠el):∀ b,blkOf w=some b→blkOf v≠some b:=by
 intro b hw hv
 rcases h with ⟨_,rfl⟩|⟨id,ex,rfl,h1,h2,h3⟩
 ·simp [blkOf] at hv
 rcases k with ⟨_,rfl⟩|⟨id',ex',rfl,k1,k2,k3⟩
 ·simp [blkOf] at hw
 simp only [blkOf,Option.some.injEq] at hv hw
 subst hv; subst hw
 rw [h3] at k3
 injection k3 with k3
 injection k3 with _ k3
 exact hne k3.symm
def OwnL (el ei:TypeId) (lo:Nat) (S:AS) (v:Value) (L:List (List α)):Prop :=
 ei≠el∧∃ hs:List Sl,Own el lo S v hs∧hs.length=L.length∧∀ (i:Nat) (s:Sl) (l:List α),hs[i]?=some s→L[i]?=some l→Own ei lo S s.v l
theorem OwnL.nil (el ei lo:Nat) (S:AS) (h:ei≠el):OwnL el ei lo S (.slice none 0 0) ([]:List (List α)):=⟨h,[],Own.nil _ _ _,rfl,fun i s l h=>by simp at h⟩
theorem Lst.rep {S:AS} {v:Value} {l:List α} (h:Lst S v l):LstR S v l:=by
 rcases h with h|⟨id,off,c,ty,cap,wr,ex,h1,h2,h3,h4,h5⟩
 ·exact .inl h
 ·exact .inr ⟨id,off,c,ty,cap,wr,ex,h1,h2,h3,h4,fun i x hx=>⟨cellsOf x,rfl,h5 i x hx⟩⟩
end
end Go.Aev
end
section
set_option linter.unusedSimpArgs false
set_option linter.unusedVariables false
namespace Go.Aev
open Go Go.RowKit Go.ChangeShapes
def nilB:Value→Bool
 | .slice none 0 0=>true
 | _=>false
section
variable {α:Type} [Cel α]
theorem Lst.form {S:AS} {v:Value} {l:List α} (h:Lst S v l):∃ p n c,v=.slice p n c:=by
 rcases h with ⟨_,rfl|rfl⟩|⟨id,off,c,ty,cap,wr,ex,rfl,_⟩<;>exact ⟨_,_,_,rfl⟩
theorem nilB_nil {S:AS} {v:Value} {l:List α} (h:Lst S v l) (hb:nilB v=true):l=[]:=by
 rcases h with ⟨h,_⟩|⟨id,off,c,ty,cap,wr,ex,rfl,_⟩
 ·exact h
 ·simp [nilB] at hb
end
theorem LstR.form {α:Type} [Rep α] {S:AS} {v:Value} {l:List α} (h:LstR S v l):∃ p n c,v=.slice p n c:=by
 rcases h with ⟨_,rfl|rfl⟩|⟨id,off,c,ty,cap,wr,ex,rfl,_⟩<;>exact ⟨_,_,_,rfl⟩
theorem Lst.one {α:Type} [Cel α] {S:AS} {v:Value} {l:List α} (h:Lst S v l):oneB v=true:=by obtain ⟨p,n,c,rfl⟩:=h.form; rfl
def slEq (d:Option TypeDesc) (u v:Option Value) (n:Bool) (S:AS):Option (Value × AS) :=
 match d,u,v with
 | some (.slice _),some (.slice none 0 0),some (.slice none 0 0)=>some (.bool (!n),S)
 | some (.slice _),some (.slice (some _) _ _),some (.slice none 0 0)=>some (.bool n,S)
 | _,_,_=>none
theorem strEq_sl (e:TypeId) (u v:Option Value) (n:Bool) (S:AS):strEq (some (.slice e)) u v n S=none:=rfl
section
variable {P:Program} {E:Env} {r:Rec}
variable (dst:Option Tmp) (ty:TypeId) (pos:String) (after:Array Edge) (g:Option (Nat × Bool)) (f:Fr) (S:AS)
def evOpN (P:Program) (E:Env) (r:Rec) (o:Oper) (f:Fr) (S:AS):Option (Value × AS):=evOpC P E r o f S
theorem firstOfN {x:Option (Value × AS)} {o:Oper} (h:∀ z,x=some z→evOp P E r o f S=some z):evOpC P E r o f S=firstOf x (evOpN P E r o f S):=by
 cases x with
 | none=>rfl
 | some z=>exact h z rfl
theorem bin_eqlSl {v:Value} (h:∃ p n c,v=.slice p n c) (t t2:TypeId) (x y:Operand):bin2 P E r ⟨dst,.binOp .eql t x y t2,ty,pos,after,g⟩ f S (some v) (some (.slice none 0 0))=evOpB P E r ⟨dst,.binOp .eql t x y t2,ty,pos,after,g⟩ f S:=by
 obtain ⟨p,n,c,rfl⟩:=h; rfl
theorem at0_nil {t e:TypeId} (h:P.underlying t=some (.slice e)) (d:Nat):at0 P (Op.equalIn (d+1) t (.slice none 0 0) (.slice none 0 0))=some true:=by
 simp only [Op.equalIn,at0_bind,at0_und h]
 rfl
theorem opC_eql (t t2:TypeId) (x y:Operand):evOpC P E r ⟨dst,.binOp .eql t x y t2,ty,pos,after,g⟩ f S=firstOf (slEq (P.underlying t) (f.val E.G x) (f.val E.G y) false S) (evOpN P E r ⟨dst,.binOp .eql t x y t2,ty,pos,after,g⟩ f S):=by
 refine firstOfN f S fun z hz=>?_
 unfold slEq at hz
 split at hz
 ·rename_i e hu hx hy
  simp only [Option.some.injEq] at hz
  subst hz
  have h0:at0 P (execOp (fun x=>(f.val E.G x).getD undef) ⟨dst,.binOp .eql t x y t2,ty,pos,after,g⟩)=some (.value (.bool true)):=by
   simp [execOp,hx,hy,eqGuard,binOp,at0_bind,at0_map,at0_pure,equal_def,at0_nil hu]
  have hf:evFlat P ⟨dst,.binOp .eql t x y t2,ty,pos,after,g⟩ (fun x=>(f.val E.G x).getD undef)=some (.bool true):=by
   simp [evFlat,flatKind,Op.operands,hx,hy,selfB,h0]
  have hs:evStruct P ⟨dst,.binOp .eql t x y t2,ty,pos,after,g⟩ (fun x=>(f.val E.G x).getD undef) S=none:=by simp [evStruct,hx,hy,aEqs,aEqAgg,aEq,hu]
  simp [evOp,Op.operands,vals_two hx hy,evSimple,hs,hf]
 ·rename_i e a n c hu hx hy
  simp only [Option.some.injEq] at hz
  subst hz
  have hs:evStruct P ⟨dst,.binOp .eql t x y t2,ty,pos,after,g⟩ (fun x=>(f.val E.G x).getD undef) S=some (some (.bool false),S):=by simp [evStruct,hx,hy,aEqs,aEqAgg,aEq,hu]
  simp [evOp,Op.operands,vals_two hx hy,evSimple,hs]
 ·simp at hz
end
theorem slEq_lst {α:Type} [Cel α] {S0:AS} {v:Value} {l:List α} (h:Lst S0 v l) (e:TypeId) (S:AS):slEq (some (.slice e)) (some v) (some (.slice none 0 0)) false S=some (.bool (nilB v),S):=by
 rcases h with ⟨_,rfl|rfl⟩|⟨id,off,c,ty,cap,wr,ex,rfl,_⟩<;>rfl
end Go.Aev
end
section
set_option linter.unusedSimpArgs false
set_option linter.unusedVariables false
namespace Go.Aev
open Go Go.RowKit Go.ChangeShapes
def isList:Option ABlk→Bool
 | some (.cells _ _ (_+1) _ _)=>true
 | _=>false
def isTy (el:Nat):Option ABlk→Bool
 | some (.cells _ ty _ _ _)=>Nat.beq ty el
 | _=>false
class RepF (α:Type) extends Rep α where
 frame:∀ {S S':AS} {cs:List Value} {x:α},rep S cs x→S.next≤S'.next→(∀ id,id<S.next→isList (S.heap.get id)=true→S'.heap.get id=S.heap.get id)→rep S' cs x
 one:∀ {S:AS} {cs:List Value} {x:α},rep S cs x→cs.all oneB=true
theorem Lst.frameL {α:Type} [Cel α] {S S':AS} {v:Value} {l:List α} (h:Lst S v l) (hp:0<Cel.n α) (hn:S.next≤S'.next) (hf:∀ id,id<S.next→isList (S.heap.get id)=true→S'.heap.get id=S.heap.get id):Lst S' v l:=by
 rcases h with h|⟨id,off,c,ty,cap,wr,ex,h1,h2,h3,h4,h5⟩
 ·exact .inl h
 ·refine .inr ⟨id,off,c,ty,cap,wr,ex,h1,h2,(hf id h4 ?_).trans h3,Nat.lt_of_lt_of_le h4 hn,h5⟩
  rw [h3]
  cases hc:Cel.n α with
  | zero=>omega
  | succ k=>rfl
structure Raw (n:Nat) where
 c:List Value
 l:c.length=n
 o:c.all oneB=true
instance (n:Nat):Cel (Raw n):=⟨n,Raw.c,Raw.l,Raw.o⟩
def Safe (el lo:Nat) (S S':AS):Prop:=S.next≤S'.next∧∀ id,id<S.next→isList (S.heap.get id)=true→S'.heap.get id=S.heap.get id∨(lo≤id∧isTy el (S.heap.get id)=true)
theorem Safe.refl (el lo:Nat) (S:AS):Safe el lo S S:=⟨Nat.le_refl _,fun _ _ _=>.inl rfl⟩
theorem Safe.agree {el lo:Nat} {S S':AS} (h:Agree S S'):Safe el lo S S':=⟨h.1,fun id hid _=>.inl (h.2 id hid)⟩
theorem Safe.trans {el lo:Nat} {S S1 S2:AS} (h:Safe el lo S S1) (k:Safe el lo S1 S2):Safe el lo S S2 :=
 ⟨Nat.le_trans h.1 k.1,fun id hid hl=>by
  rcases h.2 id hid hl with e|e
  ·rcases k.2 id (Nat.lt_of_lt_of_le hid h.1) (by rw [e]; exact hl) with e2|e2
   ·exact .inl (e2.trans e)
   ·rw [e] at e2; exact .inr e2
  ·exact .inr e⟩
theorem Safe.one {el lo a:Nat} {S S':AS} (hn:S.next≤S'.next) (hq:∀ id,id≠a→S'.heap.get id=S.heap.get id) (ha:isList (S.heap.get a)=false∨(lo≤a∧isTy el (S.heap.get a)=true)):Safe el lo S S' :=
 ⟨hn,fun id _ hl=>by
  by_cases e:id=a
  ·subst e
   rcases ha with h|h
   ·rw [h] at hl; cases hl
   ·exact .inr h
  ·exact .inl (hq id e)⟩
section
variable {α:Type} [RepF α]
def Kept (el lo:Nat) (S:AS) (cs:List Value) (x:α):Prop:=∀ S',Safe el lo S S'→Rep.rep S' cs x
theorem Kept.safe {el lo:Nat} {S S':AS} {cs:List Value} {x:α} (h:Kept el lo S cs x) (k:Safe el lo S S'):Kept el lo S' cs x:=fun S'' k'=>h S'' (k.trans k')
theorem Kept.now {el lo:Nat} {S:AS} {cs:List Value} {x:α} (h:Kept el lo S cs x):Rep.rep S cs x:=h S (Safe.refl _ _ _)
theorem Kept.of {el lo:Nat} {S0 S:AS} {cs:List Value} {x:α} (h:Rep.rep S0 cs x) (ha:Agree S0 S) (hlo:S0.next≤lo):Kept el lo S cs x:=fun S' k =>
 RepF.frame h (Nat.le_trans ha.1 k.1) fun id hid hl=>by
  have e:=ha.2 id hid
  rcases k.2 id (Nat.lt_of_lt_of_le hid ha.1) (by rw [e]; exact hl) with e2|e2
  ·exact e2.trans e
  ·omega
def OwnR (el lo:Nat) (S:AS) (v:Value) (l:List α):Prop :=
 ∃ rs:List (Raw (Rep.n α)),Own el lo S v rs∧rs.length=l.length∧∀ (i:Nat) (r:Raw (Rep.n α)) (x:α),rs[i]?=some r→l[i]?=some x→Kept el lo S r.c x
theorem OwnR.safe {el lo:Nat} {S S':AS} {v:Value} {l:List α} (h:OwnR el lo S v l) (k:Safe el lo S S') (hf:∀ id,id<S.next→blkOf v=some id→S'.heap.get id=S.heap.get id):OwnR el lo S' v l :=
 let ⟨rs,h1,h2,h3⟩:=h; ⟨rs,h1.frame k.1 hf,h2,fun i r x e1 e2=>(h3 i r x e1 e2).safe k⟩
theorem OwnR.agree {el lo:Nat} {S S':AS} {v:Value} {l:List α} (h:OwnR el lo S v l) (ha:Agree S S'):OwnR el lo S' v l:=h.safe (Safe.agree ha) fun id hid _=>ha.2 id hid
theorem OwnR.ne {el lo:Nat} {S:AS} {v:Value} {l:List α} (h:OwnR el lo S v l) {id:Nat} (hi:id<lo):blkOf v≠some id:=let ⟨_,h1,_⟩:=h; h1.ne hi
theorem OwnR.new {el lo:Nat} {S:AS} {v:Value} {l:List α} (h:OwnR el lo S v l) {id:Nat} (hi:S.next≤id):blkOf v≠some id:=let ⟨_,h1,_⟩:=h; h1.new hi
theorem OwnR.lt {el lo:Nat} {S:AS} {v:Value} {l:List α} (h:OwnR el lo S v l) {b:Nat} (hb:blkOf v=some b):b<S.next:=let ⟨_,h1,_⟩:=h; h1.lt hb
theorem OwnR.slice {el lo:Nat} {S:AS} {v:Value} {l:List α} (h:OwnR el lo S v l):∃ p n c,v=.slice p n c:=let ⟨_,h1,_⟩:=h; own_slice h1
theorem OwnR.box {el lo a:Nat} {S S':AS} {v:Value} {l:List α} (h:OwnR el lo S v l) {c:List Value} {ty:Nat} {w e:Bool} (hb:S.heap.get a=some (.cells c ty 0 w e)) (hp:0<Rep.n α) (hn:S.next≤S'.next) (hq:∀ id,id≠a→S'.heap.get id=S.heap.get id):OwnR el lo S' v l:=by
 refine h.safe (Safe.one hn hq (.inl (by rw [hb]; rfl))) fun id hid hv=>hq id fun e=>?_
 subst e
 obtain ⟨rs,h1,_⟩:=h
 rcases h1 with ⟨_,rfl⟩|⟨id',ex,rfl,q1,q2,q3⟩
 ·simp [blkOf] at hv
 ·simp only [blkOf,Option.some.injEq] at hv
  subst hv
  rw [hb] at q3
  injection q3 with q3
  injection q3 with _ _ q3
  have:Cel.n (Raw (Rep.n α))=Rep.n α:=rfl
  omega
theorem OwnR.rows {el lo:Nat} {S:AS} {v:Value} {l:List α} (h:OwnR el lo S v l):LstR S v l:=by
 obtain ⟨rs,h1,h2,h3⟩:=h
 rcases h1.rows with ⟨e,h⟩|⟨id,off,c,ty,cap,wr,ex,q1,q2,q3,q4,q5⟩
 ·subst e
  exact .inl ⟨List.length_eq_zero_iff.1 (by rw [← h2]; rfl),h⟩
 ·refine .inr ⟨id,off,c,ty,cap,wr,ex,by rw [← h2]; exact q1,by rw [← h2]; exact q2,q3,q4,fun i x hx=>?_⟩
  have hi:i<rs.length:=by have:=(List.getElem?_eq_some_iff.1 hx).1; omega
  have hg:rs[i]?=some rs[i]:=List.getElem?_eq_getElem hi
  exact ⟨rs[i].c,(h3 i _ _ hg hx).now,fun j hj=>q5 i _ hg j hj⟩
theorem LstR.raw {S:AS} {v:Value} {l:List α} (h:LstR S v l):∃ rs:List (Raw (Rep.n α)),Lst S v rs∧rs.length=l.length∧∀ (i:Nat) (r:Raw (Rep.n α)) (x:α),rs[i]?=some r→l[i]?=some x→Rep.rep S r.c x:=by
 rcases h with ⟨rfl,h⟩|⟨id,off,c,ty,cap,wr,ex,q1,q2,q3,q4,q5⟩
 ·exact ⟨[],.inl ⟨rfl,h⟩,rfl,fun i r x h=>by simp at h⟩
 ·have key:∀ (m:List α) (k:Nat),(∀ i x,m[i]?=some x→l[k+i]?=some x)→∃ rs:List (Raw (Rep.n α)),rs.length=m.length∧∀ (i:Nat) (r:Raw (Rep.n α)) (x:α),rs[i]?=some r→m[i]?=some x→Rep.rep S r.c x∧∀ j,j<Rep.n α→c[off+(k+i) * Rep.n α+j]?=r.c[j]?:=by
   intro m
   induction m with
   | nil=>intro k _; exact ⟨[],rfl,fun i r x h=>by simp at h⟩
   | cons x m ih =>
    intro k hk
    obtain ⟨rs,e1,e2⟩:=ih (k+1) (fun i y hy=>by rw [show k+1+i=k+(i+1) by omega]; exact hk (i+1) y (by simpa using hy))
    obtain ⟨cs,p1,p2⟩:=q5 k x (by have:=hk 0 x (by simp); simpa using this)
    refine ⟨⟨cs,Rep.len p1,RepF.one p1⟩ :: rs,by simp [e1],fun i r y g1 g2=>?_⟩
    cases i with
    | zero =>
     simp only [List.getElem?_cons_zero,Option.some.injEq] at g1 g2
     subst g1; subst g2
     exact ⟨p1,fun j hj=>p2 j hj⟩
    | succ i =>
     have:=e2 i r y (by simpa using g1) (by simpa using g2)
     exact ⟨this.1,fun j hj=>by rw [show k+(i+1)=k+1+i by omega]; exact this.2 j hj⟩
  obtain ⟨rs,e1,e2⟩:=key l 0 (fun i x h=>by simpa using h)
  refine ⟨rs,.inr ⟨id,off,c,ty,cap,wr,ex,by rw [e1]; exact q1,by rw [e1]; exact q2,q3,q4,fun i r hr j hj=>?_⟩,e1,fun i r x g1 g2=>(e2 i r x g1 g2).1⟩
  have hi:i<l.length:=by have:=(List.getElem?_eq_some_iff.1 hr).1; omega
  have:=(e2 i r _ hr (List.getElem?_eq_getElem hi)).2 j hj
  rw [Nat.zero_add] at this
  exact this
theorem OwnR.of {el lo:Nat} {S0 S:AS} {v:Value} {rs:List (Raw (Rep.n α))} {l:List α} (h:Own el lo S v rs) (hl:rs.length=l.length) (hr:∀ (i:Nat) (r:Raw (Rep.n α)) (x:α),rs[i]?=some r→l[i]?=some x→Rep.rep S0 r.c x) (ha:Agree S0 S) (hlo:S0.next≤lo):OwnR el lo S v l :=
 ⟨rs,h,hl,fun i r x e1 e2=>Kept.of (hr i r x e1 e2) ha hlo⟩
theorem OwnR.at {P:Program} {t el lo:Nat} {S:AS} {v:Value} {l:List α} (ho:OwnR el lo S v l) (hu:P.underlying t=some (.slice el)) (hs:szOf P el=some (Rep.n α)) {i:Nat} {x:α} (hx:l[i]?=some x) :
  ∃ id o c ty wr ex cs,aIndexAddr P t v (.int .i64 (i:Int))=some (.pointer (some ⟨id,o,none⟩))∧S.heap.get id=some (.cells c ty (Rep.n α) wr ex)∧id<S.next∧Kept el lo S cs x∧(∀ j,j<Rep.n α→c[o+j]?=cs[j]?)∧blkOf v=some id∧o=i * Rep.n α:=by
 obtain ⟨rs,h1,h2,h3⟩:=ho
 have hi:i<rs.length:=by have:=(List.getElem?_eq_some_iff.1 hx).1; omega
 have hg:rs[i]?=some rs[i]:=List.getElem?_eq_getElem hi
 obtain ⟨id,c,ex,q1,q2,q3,q4,q5,q6⟩:=h1.at hu hs hg
 exact ⟨id,_,c,el,true,ex,rs[i].c,q4,q5,q3,h3 i _ _ hg hx,q6,q1,rfl⟩
theorem OwnR.put {P:Program} {el lo:Nat} {S:AS} {v u:Value} {l:List α} (ho:OwnR el lo S v l) (hs:szOf P el=some (Rep.n α)) {i id:Nat} {x':α} (hi:i<l.length) {cs:List Value} (hc:u.cells.toList=cs) (hlen:cs.length=Rep.n α) (hone:cs.all oneB=true) (hb:blkOf v=some id) (hh:Kept el lo S cs x') :
  ∃ S1,stA P el ⟨id,i * Rep.n α,none⟩ u S=some S1∧S1.next=S.next∧OwnR el lo S1 v (l.set i x')∧∀ q,q≠id→S1.heap.get q=S.heap.get q:=by
 obtain ⟨rs,h1,h2,h3⟩:=ho
 obtain ⟨S1,k1,k2,k3,k4⟩:=h1.put (P:=P) (u:=u) (i:=i) (x:=(⟨cs,hlen,hone⟩:Raw (Rep.n α))) hs (by omega) hc hb
 have sf:Safe el lo S S1:=by
  refine Safe.one (a:=id) (by omega) k4 (.inr ?_)
  rcases h1 with ⟨e,_⟩|⟨id',ex,rfl,q1,q2,q3⟩
  ·subst e; simp at h2; omega
  ·simp only [blkOf,Option.some.injEq] at hb
   subst hb
   exact ⟨q1,by rw [q3]; exact Nat.beq_refl _⟩
 refine ⟨S1,k1,k2,⟨rs.set i ⟨cs,hlen,hone⟩,k3,by rw [List.length_set,List.length_set]; exact h2,fun j r y e1 e2=>?_⟩,k4⟩
 rw [List.getElem?_set] at e1 e2
 by_cases e:i=j
 ·subst e
  rw [if_pos rfl,if_pos (by omega)] at e1
  rw [if_pos rfl,if_pos hi] at e2
  cases e1; cases e2
  exact hh.safe sf
 ·rw [if_neg e] at e1 e2
  exact (h3 j r y e1 e2).safe sf
end
def KL {β:Type} [Cel β] (el lo:Nat) (S:AS) (w:Value) (l:List β):Prop:=∀ S',Safe el lo S S'→Lst S' w l
theorem KL.own {β:Type} [Cel β] {el lo ei lo2:Nat} {S:AS} {w:Value} {l:List β} (h:Own ei lo2 S w l) (hne:ei≠el) (hp:0<Cel.n β):KL el lo S w l:=fun S' k=>by
 refine h.rows.frame k.1 fun id hid hb=>?_
 rcases h with ⟨_,rfl⟩|⟨id',ex,rfl,q1,q2,q3⟩
 ·simp [blkOf] at hb
 ·simp only [blkOf,Option.some.injEq] at hb
  subst hb
  rcases k.2 id' hid (by
   rw [q3]
   cases hc:Cel.n β with
   | zero=>omega
   | succ k=>rfl) with e|⟨_,e⟩
  ·exact e
  ·rw [q3] at e; exact absurd (Nat.eq_of_beq_eq_true e) hne
theorem KL.safe {β:Type} [Cel β] {el lo:Nat} {S S':AS} {w:Value} {l:List β} (h:KL el lo S w l) (k:Safe el lo S S'):KL el lo S' w l:=fun S'' k'=>h S'' (k.trans k')
theorem KL.now {β:Type} [Cel β] {el lo:Nat} {S:AS} {w:Value} {l:List β} (h:KL el lo S w l):Lst S w l:=h S (Safe.refl _ _ _)
end Go.Aev
end
section
set_option linter.unusedSimpArgs false
set_option linter.unusedVariables false
namespace Go.Aev
open Go Go.RowKit Go.ChangeShapes
section
variable {α:Type} [Cel α]
def OwnC (el lo cap:Nat) (S:AS) (v:Value) (l:List α):Prop :=
 ∃ id c ex,v=.slice (some ⟨id,0,none⟩) l.length cap∧lo≤id∧id<S.next∧S.heap.get id=some (.cells c el (Cel.n α) true ex)∧c.length=cap * Cel.n α∧l.length≤cap∧c.take (l.length * Cel.n α)=(l.map cellsOf).flatten
theorem OwnC.own {el lo cap:Nat} {S:AS} {v:Value} {l:List α} (h:OwnC el lo cap S v l) (he:l.length=cap):Own el lo S v l:=by
 obtain ⟨id,c,ex,h1,h2,h3,h4,h5,h6,h7⟩:=h
 refine .inr ⟨id,ex,by rw [h1,he],h2,h3,?_⟩
 rw [h4,← h7,he,← h5,List.take_length]
theorem ownc_append {P:Program} {t tx el e2 lo cap:Nat} {S:AS} {v x:Value} {l m:List α} (ho:OwnC el lo cap S v l) (hr:Lst S x m) (h1:l.length≤1048576) (h2:m.length≤65536) (hc:l.length+m.length≤cap)
  (hu:P.underlying t=some (.slice el)) (hx:P.underlying tx=some (.slice e2)) (hi:(P.info? el).map (fun i=>Nat.ble i.bytes 65536)=some true) (hz:(zeroOf P el).isSome=true) {n:Nat} (hk:(Cel.n α)=n+1) (hs:szOf P el=some (n+1)) :
  ∃ v' S',aAppend P t tx v x S=some (v',S')∧OwnC el lo cap S' v' (l++m)∧S'.next=S.next∧blkOf v'=blkOf v∧(∀ id,blkOf v≠some id→S'.heap.get id=S.heap.get id):=by
 obtain ⟨i,hi,hb⟩:=Option.map_eq_some_iff.1 hi
 obtain ⟨z,hz⟩:=Option.isSome_iff_exists.1 hz
 have hsrc:=hr.src hx (by omega)
 rw [hk] at hsrc
 have hone:=cells_one m
 have hm2:Nat.ble m.length 65536=true:=Nat.ble_eq ▸ h2
 have hb1:Nat.ble l.length 1048576=true:=Nat.ble_eq ▸ h1
 obtain ⟨id,c,ex,rfl,k2,k3,k4,k5,k6,k7⟩:=ho
 cases hml:m with
 | nil =>
  subst hml
  rw [hk] at k4
  refine ⟨.slice (some ⟨id,0,none⟩) l.length cap,S,?_,⟨id,c,ex,by simp,k2,k3,by rw [hk]; exact k4,k5,by simpa using k6,by simpa using k7⟩,rfl,rfl,fun _ _=>rfl⟩
  simp only [aAppend,hu,hi,hz,hs,hsrc,hone,hb,hm2,k4,Nat.beq_refl,hb1,List.length_nil]
 | cons a m' =>
  rw [← hml]
  have hl:m.length=m'.length+1:=by rw [hml]; rfl
  have hmlen:((m.map cellsOf).flatten).length=m.length * (Cel.n α):=by rw [flat_len _ (cells_all m),List.length_map]
  have hfl:((l.map cellsOf).flatten).length=l.length * (Cel.n α):=by rw [flat_len _ (cells_all l),List.length_map]
  have hbd:l.length * Cel.n α+m.length * Cel.n α≤cap * Cel.n α:=by rw [← Nat.add_mul]; exact Nat.mul_le_mul_right _ hc
  have hroom:Nat.ble (l.length+(m'.length+1)) cap=true:=Nat.ble_eq ▸ (by omega)
  obtain ⟨S1,q1,q2,q3,q4⟩:=wr_open el (Cel.n α) ex id ((m.map cellsOf).flatten) (l.length * Cel.n α) 0 c S k4 hone (by rw [hmlen,k5]; omega)
  rw [hk] at k4 q1
  refine ⟨.slice (some ⟨id,0,none⟩) (l.length+(m'.length+1)) cap,S1,?_,⟨id,_,ex,by simp [hl],k2,by omega,q3,?_,by simp; omega,?_⟩,q2,rfl,fun j hj=>q4 j (fun e=>hj (by rw [e]; rfl))⟩
  ·rw [hl] at hsrc hm2
   have ha:(⟨id,0,none⟩:Addr).add (l.length * (n+1))=⟨id,l.length * (n+1),none⟩:=by rw [addr_add]; simp
   simp only [aAppend,hu,hi,hz,hs,hsrc,hone,hb,hm2,k4,Nat.beq_refl,hb1,hroom,ai_storeCells,ha,q1,Option.map_some]
  ·simp only [List.length_append,List.length_take,List.length_drop,Nat.add_zero,hmlen,k5]
   omega
  ·rw [List.length_append,Nat.add_mul,Nat.add_zero,List.map_append,List.flatten_append,k7]
   have e1:((l.map cellsOf).flatten++(m.map cellsOf).flatten).length=l.length * Cel.n α+m.length * Cel.n α:=by rw [List.length_append,hfl,hmlen]
   rw [← e1,List.take_left]
end
section
variable {P:Program} {E:Env} {r:Rec}
variable (dst:Option Tmp) (ty:TypeId) (pos:String) (after:Array Edge) (g:Option (Nat × Bool)) (f:Fr) (S:AS)
def capV (P:Program) (t:TypeId) (v:Value):Option Value :=
 match v,P.underlying t with
 | .slice none 0 0,some (.slice _)=>some (.int .i64 0)
 | _,_=>none
theorem op_cap (t:TypeId) (x:Operand):evOp P E r ⟨dst,.call ⟨.builtin .cap,#[x],#[t]⟩,ty,pos,after,g⟩ f S=firstOf ((f.val E.G x).bind fun v=>(capV P t v).map fun u=>(u,S)) (evOpB P E r ⟨dst,.call ⟨.builtin .cap,#[x],#[t]⟩,ty,pos,after,g⟩ f S):=by
 refine firstOf_of fun z hz=>?_
 obtain ⟨v,hv,hz⟩:=Option.bind_eq_some_iff.1 hz
 obtain ⟨u,hu,rfl⟩:=Option.map_eq_some_iff.1 hz
 unfold capV at hu
 split at hu
 ·rename_i e hu2
  cases hu
  have h0:at0 P (execOp (fun x=>(f.val E.G x).getD undef) ⟨dst,.call ⟨.builtin .cap,#[x],#[t]⟩,ty,pos,after,g⟩)=some (.value (.int .i64 0)):=by
   simp [execOp,hv,resolve,invoke,builtin,Builtin.cap_,at0_bind,at0_map,at0_und hu2,at0_pure,goInt]
  have hf:evFlat P ⟨dst,.call ⟨.builtin .cap,#[x],#[t]⟩,ty,pos,after,g⟩ (fun x=>(f.val E.G x).getD undef)=some (.int .i64 0):=by
   simp [evFlat,flatKind,Op.operands,Call.operands,hv,selfB,h0]
  have hs:evStruct P ⟨dst,.call ⟨.builtin .cap,#[x],#[t]⟩,ty,pos,after,g⟩ (fun x=>(f.val E.G x).getD undef) S=none:=by simp [evStruct,hv]
  simp [evOp,Op.operands,Call.operands,vals_one hv,evSimple,hs,hf]
 ·simp at hu
end
section
variable {P:Program} {E:Env} {r:Rec}
variable (dst:Option Tmp) (ty:TypeId) (pos:String) (after:Array Edge) (g:Option (Nat × Bool)) (f:Fr) (S:AS)
def appZ (P:Program) (t tx:TypeId) (u w:Value) (S:AS):Option (Value × AS) :=
 match aAppend P t tx u w S with
 | some _=>none
 | none=>aAppendZ P t tx u w S
theorem opB_appendZ (t tx:TypeId) (x y:Operand):evOpB P E r ⟨dst,.call ⟨.builtin .append,#[x,y],#[t,tx]⟩,ty,pos,after,g⟩ f S=firstOf ((f.val E.G x).bind fun u=>(f.val E.G y).bind fun w=>appZ P t tx u w S) (evOpC P E r ⟨dst,.call ⟨.builtin .append,#[x,y],#[t,tx]⟩,ty,pos,after,g⟩ f S):=by
 refine firstOfC f S fun z hz=>?_
 obtain ⟨u,hu,hz⟩:=Option.bind_eq_some_iff.1 hz
 obtain ⟨w,hw,hz⟩:=Option.bind_eq_some_iff.1 hz
 unfold appZ at hz
 split at hz
 ·cases hz
 ·rename_i ha
  exact op_struct2 (z:=(some z.1,z.2)) dst ty pos after g f S rfl (by simp) (by simp) (by simp) (by simp) hu hw (by simp [evStruct,hu,hw,ha,hz])
end
section
variable {α:Type} [Cel α]
theorem zeros_own {P:Program} {t tx el:TypeId} {z:Value} {x0:α} {n:Nat} {k kk:IntKind} (S:AS) (hu:P.underlying t=some (.slice el)) (hd:P.underlying tx=some (.int kk)) (hi:(P.info? el).map (fun i=>Nat.ble i.bytes 65536)=some true) (hz:zeroOf P el=some z) {s:Nat} (hk:Cel.n α=s+1) (hs:szOf P el=some (s+1))
  (hc:z.cells.toList=cellsOf x0) (hn:n≤65536) (h0:0<n) :
  ∃ S',aAppend P t tx (.slice none 0 0) (.int k n) S=none∧appZ P t tx (.slice none 0 0) (.int k n) S=some (.slice (some ⟨S.next,0,none⟩) n n,S')∧Agree S S'∧Own el S.next S' (.slice (some ⟨S.next,0,none⟩) n n) (List.replicate n x0):=by
 obtain ⟨i,hi,hb⟩:=Option.map_eq_some_iff.1 hi
 obtain ⟨m,rfl⟩:∃ m,n=m+1:=⟨n - 1,by omega⟩
 have hzs:z.cells.size=s+1:=by rw [← Array.length_toList,hc,cellsOf_len,hk]
 have e1:(zerosOf z.cells ((m+1) * (s+1))).size=(m+1) * (s+1):=by simp [zerosOf]
 have e2:(zerosOf z.cells ((m+1) * (s+1))).toList=((List.replicate (m+1) x0).map cellsOf).flatten:=by
  have hfl:=flat_len _ (cells_all (List.replicate (m+1) x0))
  rw [List.length_map,List.length_replicate,hk] at hfl
  refine List.ext_getElem? fun q=>?_
  rcases Nat.lt_or_ge q ((m+1) * (s+1)) with hq|hq
  ·have hqd:q / (s+1)<m+1:=Nat.div_lt_of_lt_mul (by rw [Nat.mul_comm]; exact hq)
   have hm:=Nat.mod_lt q (show 0<s+1 by omega)
   have e3:q=q / (s+1) * (s+1)+q % (s+1):=(Nat.div_add_mod' q _).symm
   have hg:=flat_get (n:=s+1) ((List.replicate (m+1) x0).map cellsOf) (fun y hy=>by rw [cells_all _ y hy,hk]) (q / (s+1)) (cellsOf x0) (by simp [hqd]) _ hm
   rw [← e3] at hg
   rw [hg,← hc]
   rw [Array.getElem?_toList,Array.getElem?_toList]
   simp only [zerosOf]
   rw [Array.getElem?_map,Array.getElem?_range,if_pos hq,Option.map_some,hzs]
   rw [getElem!_pos z.cells (q % (s+1)) (by omega),Array.getElem?_eq_getElem (by omega)]
  ·rw [List.getElem?_eq_none (by rw [Array.length_toList,e1]; exact hq),List.getElem?_eq_none (by rw [hfl]; exact hq)]
 have ha:aAppend P t tx (.slice none 0 0) (.int k ((m+1:Nat):Int)) S=none:=by
  have hsrc:srcOf P tx (s+1) (.int k ((m+1:Nat):Int)) S=none:=by simp [srcOf,hd]
  simp only [aAppend,hu,hi,hz,hs,hsrc]
 refine ⟨S.push (.cells (zerosOf z.cells ((m+1) * (s+1))).toList el (s+1) true false),ha,?_,⟨by simp [AS.push],fun id hid=>push_ne _ _ (by omega)⟩,.inr ⟨S.next,false,by simp,Nat.le_refl _,by simp [AS.push],by rw [push_eq _ _ rfl,e2,hk]⟩⟩
 have b1:Nat.ble m 65535=true:=Nat.ble_eq ▸ (by omega)
 have b3:Nat.beq z.cells.size (s+1)=true:=by rw [hzs]; exact Nat.beq_refl _
 have d1:(.int k ((m+1:Nat):Int):Value)=.int k (.ofNat (m+1)):=rfl
 unfold appZ
 rw [ha,d1]
 simp only [aAppendZ,hu,hd,hi,hz,hs,b1,hb,b3]
def OwnG (el cap lo:Nat) (S:AS) (v:Value) (l:List α):Prop:=(cap=0∧l=[]∧v=.slice none 0 0)∨(0<cap∧OwnC el lo cap S v l)
theorem OwnG.room {P:Program} {t el lo n:Nat} {S:AS} {id:Nat} {l:List α} (ho:Own el lo S (.slice (some ⟨id,0,none⟩) n n) l) (hu:P.underlying t=some (.slice el)) (hs:szOf P el=some (Cel.n α)) (hl:l.length=n) (h0:0<n) :
  aSlice P t (.slice (some ⟨id,0,none⟩) n n) none (some (.int .i64 0)) S=some (.slice (some ⟨id,0,none⟩) 0 n)∧OwnG el n lo S (.slice (some ⟨id,0,none⟩) 0 n) ([]:List α):=by
 refine ⟨ho.hi_at hu hs (i:=0) (by omega) (by omega),.inr ⟨h0,?_⟩⟩
 have hfl:((l.map cellsOf).flatten).length=l.length * (Cel.n α):=by rw [flat_len _ (cells_all l),List.length_map]
 rcases ho with ⟨rfl,e⟩|⟨id',ex,e,q1,q2,q3⟩
 ·simp at hl; omega
 ·simp only [Value.slice.injEq,Option.some.injEq,Addr.mk.injEq,and_true,true_and] at e
  obtain ⟨rfl,_⟩:=e
  exact ⟨id,_,ex,by simp,q1,q2,q3,by rw [hfl,hl],Nat.zero_le _,by simp⟩
theorem OwnG.own {el lo cap:Nat} {S:AS} {v:Value} {l:List α} (h:OwnG el cap lo S v l) (he:l.length=cap):Own el lo S v l:=by
 rcases h with ⟨_,h2,h3⟩|⟨_,h⟩
 ·exact .inl ⟨h2,h3⟩
 ·exact h.own he
theorem OwnG.low {el lo lo' cap:Nat} {S:AS} {v:Value} {l:List α} (h:OwnG el cap lo S v l) (hl:lo'≤lo):OwnG el cap lo' S v l :=
 h.elim .inl fun ⟨h0,id,c,ex,h1,h2,h3⟩=>.inr ⟨h0,id,c,ex,h1,Nat.le_trans hl h2,h3⟩
theorem OwnG.ne {el lo cap:Nat} {S:AS} {v:Value} {l:List α} (h:OwnG el cap lo S v l) {id:Nat} (hi:id<lo):blkOf v≠some id:=by
 rcases h with ⟨_,_,rfl⟩|⟨_,b,c,ex,rfl,h2,_⟩
 ·simp [blkOf]
 ·simp [blkOf]; omega
theorem OwnG.slice {el lo cap:Nat} {S:AS} {v:Value} {l:List α} (h:OwnG el cap lo S v l):∃ p n c,v=.slice p n c:=by
 rcases h with ⟨_,_,rfl⟩|⟨_,id,c,ex,rfl,_⟩<;>exact ⟨_,_,_,rfl⟩
theorem LstR.of_heads {S:AS} {v:Value} {hs:List Sl} {L:List (List α)} (h:Lst S v hs) (hl:hs.length=L.length) (hr:∀ (i:Nat) (s:Sl) (l:List α),hs[i]?=some s→L[i]?=some l→Lst S s.v l):LstR S v L:=by
 rcases h with ⟨e,h⟩|⟨id,off,c,ty,cap,wr,ex,q1,q2,q3,q4,q5⟩
 ·subst e
  exact .inl ⟨List.length_eq_zero_iff.1 (by rw [← hl]; rfl),h⟩
 ·refine .inr ⟨id,off,c,ty,cap,wr,ex,by rw [← hl]; exact q1,by rw [← hl]; exact q2,q3,q4,fun i x hx=>?_⟩
  have hi:i<hs.length:=by have:=(List.getElem?_eq_some_iff.1 hx).1; omega
  have hg:hs[i]?=some hs[i]:=List.getElem?_eq_getElem hi
  exact ⟨[hs[i].v],⟨_,rfl,(hr i _ _ hg hx).rep⟩,fun j hj=>q5 i _ hg j hj⟩
theorem heads3 {S:AS} {v:Value} {a b c:Sl} {x y z:List α} (h:Lst S v [a,b,c]) (ha:Lst S a.v x) (hb:Lst S b.v y) (hc:Lst S c.v z):LstR S v [x,y,z] :=
 LstR.of_heads h rfl fun i s l h1 h2=>by
  match i with
  | 0=>simp at h1 h2; subst h1; subst h2; exact ha
  | 1=>simp at h1 h2; subst h1; subst h2; exact hb
  | 2=>simp at h1 h2; subst h1; subst h2; exact hc
  | k+3=>simp at h1
theorem sum_drop {β:Type} {l:List (List β)} {k:Nat} {x:List β} (hx:l[k]?=some x):((l.drop k).map List.length).sum=x.length+((l.drop (k+1)).map List.length).sum:=by
 rw [drop_cons' hx,List.map_cons,List.sum_cons]
theorem ownG_append {P:Program} {t tx el e2 lo cap:Nat} {S:AS} {v x:Value} {l m:List α} (ho:OwnG el cap lo S v l) (hr:Lst S x m) (hlo:lo≤S.next) (h1:l.length≤1048576) (h2:m.length≤65536) (hc:l.length+m.length≤cap)
  (hu:P.underlying t=some (.slice el)) (hx:P.underlying tx=some (.slice e2)) (hi:(P.info? el).map (fun i=>Nat.ble i.bytes 65536)=some true) (hz:(zeroOf P el).isSome=true) {n:Nat} (hk:(Cel.n α)=n+1) (hs:szOf P el=some (n+1)) :
  ∃ v' S',aAppend P t tx v x S=some (v',S')∧OwnG el cap lo S' v' (l++m)∧S.next≤S'.next∧(∀ id,id<S.next→blkOf v≠some id→S'.heap.get id=S.heap.get id)∧(∀ id,id<S.next→blkOf v≠some id→blkOf v'≠some id):=by
 rcases ho with ⟨c0,rfl,rfl⟩|⟨c0,ho⟩
 ·have hm:m=[]:=List.length_eq_zero_iff.1 (by omega)
  subst hm
  obtain ⟨v',S',q1,q2,q3,q4,q5⟩:=own_append (Own.nil el lo S) hr hlo (by simp) (by simp) hu hx hi hz hk hs
  rcases q2 with ⟨_,rfl⟩|⟨id,ex,rfl,p1,p2,p3⟩
  ·exact ⟨_,S',q1,.inl ⟨c0,rfl,rfl⟩,q3,q4,q5⟩
  ·exfalso
   obtain ⟨i,hi,hb⟩:=Option.map_eq_some_iff.1 hi
   obtain ⟨z,hz⟩:=Option.isSome_iff_exists.1 hz
   have hsrc:=hr.src hx (by omega)
   rw [hk] at hsrc
   have hone:=cells_one ([]:List α)
   have hm2:Nat.ble ([]:List α).length 65536=true:=rfl
   simp only [aAppend,hu,hi,hz,hs,hsrc,hone,hb,hm2,List.length_nil] at q1
   cases q1
 ·obtain ⟨v',S',q1,q2,q3,q4,q5⟩:=ownc_append ho hr h1 h2 hc hu hx hi hz hk hs
  exact ⟨v',S',q1,.inr ⟨c0,q2⟩,by omega,fun id _ hb=>q5 id hb,fun id _ hb=>by rw [q4]; exact hb⟩
end
end Go.Aev
end
section
set_option linter.unusedSimpArgs false
set_option linter.unusedVariables false
namespace Go.Aev
open Go Go.RowKit Go.ChangeShapes
section
variable {α:Type} [RepF α]
theorem KL.box {β:Type} [Cel β] {el lo a:Nat} {S S':AS} {w:Value} {l:List β} (h:KL el lo S w l) {c:List Value} {ty:Nat} {wr e:Bool} (hb:S.heap.get a=some (.cells c ty 0 wr e)) (hn:S'.next=S.next) (hq:∀ id,id≠a→S'.heap.get id=S.heap.get id):KL el lo S' w l :=
 h.safe (Safe.one (a:=a) (Nat.le_of_eq hn.symm) hq (.inl (by rw [hb]; rfl)))
theorem KL.agree {β:Type} [Cel β] {el lo:Nat} {S S':AS} {w:Value} {l:List β} (h:KL el lo S w l) (ha:Agree S S'):KL el lo S' w l:=h.safe (Safe.agree ha)
theorem LstR.boxL {a:Nat} {S S':AS} {v:Value} {l:List α} (h:LstR S v l) (hb:isList (S.heap.get a)=false) (hp:0<Rep.n α) (hn:S.next≤S'.next) (hq:∀ id,id≠a→S'.heap.get id=S.heap.get id):LstR S' v l:=by
 have hl:∀ id,id<S.next→isList (S.heap.get id)=true→S'.heap.get id=S.heap.get id:=fun id _ hl=>hq id fun e=>by
  subst e; rw [hb] at hl; cases hl
 rcases h with h|⟨id,off,c,ty,cap,wr,ex,q1,q2,q3,q4,q5⟩
 ·exact .inl h
 ·refine .inr ⟨id,off,c,ty,cap,wr,ex,q1,q2,(hl id q4 ?_).trans q3,Nat.lt_of_lt_of_le q4 hn,fun i x hx=>?_⟩
  ·rw [q3]
   cases hc:Rep.n α with
   | zero=>omega
   | succ k=>rfl
  ·obtain ⟨cs,p1,p2⟩:=q5 i x hx
   exact ⟨cs,RepF.frame p1 hn hl,p2⟩
theorem Lst.boxL {β:Type} [Cel β] {a:Nat} {S S':AS} {v:Value} {l:List β} (h:Lst S v l) (hb:isList (S.heap.get a)=false) (hp:0<Cel.n β) (hn:S.next≤S'.next) (hq:∀ id,id≠a→S'.heap.get id=S.heap.get id):Lst S' v l :=
 h.frameL hp hn fun id _ hl=>hq id fun e=>by subst e; rw [hb] at hl; cases hl
theorem LstR.box {a:Nat} {S S':AS} {v:Value} {l:List α} (h:LstR S v l) {c:List Value} {ty:Nat} {w e:Bool} (hb:S.heap.get a=some (.cells c ty 0 w e)) (hp:0<Rep.n α) (hn:S.next≤S'.next) (hq:∀ id,id≠a→S'.heap.get id=S.heap.get id):LstR S' v l:=h.boxL (by rw [hb]; rfl) hp hn hq
theorem Lst.box {β:Type} [Cel β] {a:Nat} {S S':AS} {v:Value} {l:List β} (h:Lst S v l) {c:List Value} {ty:Nat} {w e:Bool} (hb:S.heap.get a=some (.cells c ty 0 w e)) (hp:0<Cel.n β) (hn:S.next≤S'.next) (hq:∀ id,id≠a→S'.heap.get id=S.heap.get id):Lst S' v l:=h.boxL (by rw [hb]; rfl) hp hn hq
theorem OwnR.nebox {el lo a:Nat} {S:AS} {v:Value} {l:List α} (h:OwnR el lo S v l) {c:List Value} {ty:Nat} {w e:Bool} (hb:S.heap.get a=some (.cells c ty 0 w e)) (hp:0<Rep.n α):blkOf v≠some a:=by
 intro hv
 obtain ⟨rs,h1,_⟩:=h
 rcases h1 with ⟨_,rfl⟩|⟨id',ex,rfl,q1,q2,q3⟩
 ·simp [blkOf] at hv
 ·simp only [blkOf,Option.some.injEq] at hv
  subst hv
  rw [hb] at q3
  injection q3 with q3
  injection q3 with _ _ q3
  have:Cel.n (Raw (Rep.n α))=Rep.n α:=rfl
  omega
theorem ones_2 {a b:Value} (h:oneB a=true) (k:oneB b=true):[a,b].all oneB=true:=by simp [h,k]
theorem OwnR.apart {β:Type} [Cel β] {el ei lo lo':Nat} {S:AS} {v w:Value} {l:List α} {m:List β} (h:OwnR el lo S v l) (k:Own ei lo' S w m) (hne:ei≠el):∀ b,blkOf w=some b→blkOf v≠some b :=
 let ⟨_,h1,_⟩:=h; own_apart h1 k hne
theorem OwnR.put1 {el lo:Nat} {S:AS} {v:Value} {l:List α} (ho:OwnR el lo S v l) {P:Program} {i id o:Nat} {x:α} {cs c:List Value} {ty:Nat} {wr ex:Bool} (hx:l[i]?=some x) (hj:S.heap.get id=some (.cells c ty (Rep.n α) wr ex)) (hq:∀ j,j<Rep.n α→c[o+j]?=cs[j]?) (hl:cs.length=Rep.n α) (hb:blkOf v=some id) (oq:o=i * Rep.n α) (f:TypeId) (u:Value) (j:Nat) (x':α)
  (k1:szOf P f=some 1) (k2:u.cells.toList=[u]) (k3:oneB u=true) (k4:j<Rep.n α) (hone:(cs.set j u).all oneB=true) (hh:Kept el lo S (cs.set j u) x') :
  ∃ S1,stA P f ⟨id,o+j,none⟩ u S=some S1∧S1.next=S.next∧OwnR el lo S1 v (l.set i x')∧∀ q,q≠id→S1.heap.get q=S.heap.get q:=by
 obtain ⟨rs,h1,h2,h3⟩:=ho
 have hil:i<l.length:=(List.getElem?_eq_some_iff.1 hx).1
 have hi:i<rs.length:=by omega
 have hg:rs[i]?=some rs[i]:=List.getElem?_eq_getElem hi
 have hcs:rs[i].c=cs:=by
  refine List.ext_getElem? fun q=>?_
  rcases Nat.lt_or_ge q (Rep.n α) with hq'|hq'
  ·rw [← hq q hq']
   rcases h1 with ⟨e,_⟩|⟨id',ex',rfl,q1,q2,q3⟩
   ·subst e; simp at hi
   ·simp only [blkOf,Option.some.injEq] at hb
    subst hb
    rw [q3] at hj
    injection hj with hj
    injection hj with hj
    subst hj; subst oq
    have:=flat_get (n:=Rep.n α) (rs.map cellsOf) (fun y hy=>cells_all _ y hy) i (cellsOf rs[i]) (by simp [hi]) q hq'
    rw [this]; rfl
  ·rw [List.getElem?_eq_none (by rw [rs[i].l]; exact hq'),List.getElem?_eq_none (by rw [hl]; exact hq')]
 obtain ⟨S1,s1,s2,s3,s4⟩:=h1.put1 (P:=P) hg hb oq f u j (⟨cs.set j u,by rw [List.length_set,hl],hone⟩:Raw (Rep.n α)) k1 k2 k3 k4 (by show cs.set j u=rs[i].c.set j u; rw [hcs])
 have sf:Safe el lo S S1:=by
  refine Safe.one (a:=id) (by omega) s4 (.inr ?_)
  rcases h1 with ⟨e,_⟩|⟨id',ex',rfl,q1,q2,q3⟩
  ·subst e; simp at hi
  ·simp only [blkOf,Option.some.injEq] at hb
   subst hb
   exact ⟨q1,by rw [q3]; exact Nat.beq_refl _⟩
 refine ⟨S1,s1,s2,⟨rs.set i _,s3,by rw [List.length_set,List.length_set]; exact h2,fun q r y e1 e2=>?_⟩,s4⟩
 rw [List.getElem?_set] at e1 e2
 by_cases e:i=q
 ·subst e
  rw [if_pos rfl,if_pos hi] at e1
  rw [if_pos rfl,if_pos hil] at e2
  cases e1; cases e2
  exact hh.safe sf
 ·rw [if_neg e] at e1 e2
  exact (h3 q r y e1 e2).safe sf
end
end Go.Aev
end
section
set_option linter.unusedSimpArgs false
set_option linter.unusedVariables false
namespace Go.Aev
open Go Go.RowKit Go.ChangeShapes
section
variable {α:Type} [RepF α]
theorem OwnR.nil (el lo:Nat) (S:AS):OwnR el lo S (.slice none 0 0) ([]:List α):=⟨[],Own.nil _ _ _,rfl,fun i r x h=>by simp at h⟩
theorem KL.of {β:Type} [Cel β] {el lo:Nat} {S0 S:AS} {w:Value} {l:List β} (h:Lst S0 w l) (ha:Agree S0 S) (hlo:S0.next≤lo) (hp:0<Cel.n β):KL el lo S w l:=fun S' k =>
 h.frameL hp (Nat.le_trans ha.1 k.1) fun id hid hl=>by
  have e:=ha.2 id hid
  rcases k.2 id (Nat.lt_of_lt_of_le hid ha.1) (by rw [e]; exact hl) with e2|e2
  ·exact e2.trans e
  ·omega
theorem OwnR.one {el lo id:Nat} {S:AS} {cs:List Value} {ex:Bool} {x:α} (hb:S.heap.get id=some (.cells cs el (Rep.n α) true ex)) (hlo:lo≤id) (hid:id<S.next) (hl:cs.length=Rep.n α) (ho:cs.all oneB=true) (hk:Kept el lo S cs x):OwnR el lo S (.slice (some ⟨id,0,none⟩) 1 1) [x] :=
 ⟨[⟨cs,hl,ho⟩],.inr ⟨id,ex,rfl,hlo,hid,by rw [hb]; show _=some (ABlk.cells (cs++[]) el (Rep.n α) true ex); rw [List.append_nil]⟩,rfl,fun i r y h1 h2=>by
  match i with
  | 0=>simp at h1 h2; subst h1; subst h2; exact hk
  | k+1=>simp at h1⟩
theorem ownr_append {P:Program} {t tx el e2 lo:Nat} {S:AS} {v x:Value} {l m:List α} (ho:OwnR el lo S v l) (hr:OwnR el lo S x m) (hlo:lo≤S.next) (h1:l.length≤65536) (h2:m.length≤65536)
  (hu:P.underlying t=some (.slice el)) (hx:P.underlying tx=some (.slice e2)) (hi:(P.info? el).map (fun i=>Nat.ble i.bytes 65536)=some true) (hz:(zeroOf P el).isSome=true) {n:Nat} (hk:Rep.n α=n+1) (hs:szOf P el=some (n+1)) :
  ∃ v' S',aAppend P t tx v x S=some (v',S')∧OwnR el lo S' v' (l++m)∧S.next≤S'.next∧(∀ id,id<S.next→blkOf v≠some id→S'.heap.get id=S.heap.get id)∧(∀ id,id<S.next→blkOf v≠some id→blkOf v'≠some id):=by
 obtain ⟨rs,a1,a2,a3⟩:=ho
 obtain ⟨qs,b1,b2,b3⟩:=hr
 have hk':Cel.n (Raw (Rep.n α))=n+1:=hk
 obtain ⟨v',S',k1,k2,k3,k4,k5⟩:=own_append (P:=P) (t:=t) (tx:=tx) (n:=n) a1 b1.rows hlo (by omega) (by omega) hu hx hi hz hk' hs
 have sf:Safe el lo S S':=⟨k3,fun id hid hl=>by
  by_cases e:blkOf v=some id
  ·refine .inr ?_
   rcases a1 with ⟨_,rfl⟩|⟨id',ex,rfl,q1,q2,q3⟩
   ·simp [blkOf] at e
   ·simp only [blkOf,Option.some.injEq] at e
    subst e
    exact ⟨q1,by rw [q3]; exact Nat.beq_refl _⟩
  ·exact .inl (k4 id hid e)⟩
 refine ⟨v',S',k1,⟨rs++qs,k2,by rw [List.length_append,List.length_append,a2,b2],fun i r y h1 h2=>?_⟩,k3,k4,k5⟩
 rw [List.getElem?_append] at h1 h2
 by_cases e:i<rs.length
 ·rw [if_pos e] at h1; rw [if_pos (by omega)] at h2
  exact (a3 i r y h1 h2).safe sf
 ·rw [if_neg e] at h1; rw [if_neg (by omega),← a2] at h2
  exact (b3 _ r y h1 h2).safe sf
end
end Go.Aev
end
