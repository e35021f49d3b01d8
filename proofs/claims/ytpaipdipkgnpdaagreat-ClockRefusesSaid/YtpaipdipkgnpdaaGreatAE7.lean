import Derived.Test.YtpaipdipkgnpdaaGreatAE6
import Derived.Test.YtpaipdipkgnpdaaGreatAE5
section
set_option linter.unusedSimpArgs false
set_option linter.unusedVariables false
namespace Go.Aev
open Go Go.RowKit Go.ChangeShapes
structure Sl where
 p:Option Addr
 n:Nat
 c:Nat
def Sl.v (s:Sl):Value:=.slice s.p s.n s.c
instance:Cel Sl:=⟨1,fun s=>[s.v],fun _=>rfl,fun _=>rfl⟩
instance:Inhabited Sl:=⟨⟨none,0,0⟩⟩
section
variable {α:Type} [Cel α]
def OwnL (el ei:TypeId) (lo:Nat) (S:AS) (v:Value) (L:List (List α)):Prop :=
 ei≠el∧∃ hs:List Sl,Own el lo S v hs∧hs.length=L.length∧∀ (i:Nat) (s:Sl) (l:List α),hs[i]?=some s→L[i]?=some l→Own ei lo S s.v l
theorem OwnL.nil (el ei lo:Nat) (S:AS) (h:ei≠el):OwnL el ei lo S (.slice none 0 0) ([]:List (List α)):=⟨h,[],Own.nil _ _ _,rfl,fun i s l h=>by simp at h⟩
theorem OwnL.agree {el ei lo:Nat} {S S':AS} {v:Value} {L:List (List α)} (h:OwnL el ei lo S v L) (ha:Agree S S'):OwnL el ei lo S' v L :=
 let ⟨h0,hs,h1,h2,h3⟩:=h; ⟨h0,hs,h1.agree ha,h2,fun i s l k1 k2=>(h3 i s l k1 k2).agree ha⟩
theorem OwnL.low {el ei lo lo':Nat} {S:AS} {v:Value} {L:List (List α)} (h:OwnL el ei lo S v L) (hl:lo'≤lo):OwnL el ei lo' S v L :=
 let ⟨h0,hs,h1,h2,h3⟩:=h; ⟨h0,hs,h1.low hl,h2,fun i s l k1 k2=>(h3 i s l k1 k2).low hl⟩
theorem OwnL.ne {el ei lo:Nat} {S:AS} {v:Value} {L:List (List α)} (h:OwnL el ei lo S v L) {id:Nat} (hi:id<lo):blkOf v≠some id:=let ⟨_,_,h1,_⟩:=h; h1.ne hi
theorem OwnL.new {el ei lo:Nat} {S:AS} {v:Value} {L:List (List α)} (h:OwnL el ei lo S v L) {id:Nat} (hi:S.next≤id):blkOf v≠some id:=let ⟨_,_,h1,_⟩:=h; h1.new hi
theorem OwnL.lt {el ei lo:Nat} {S:AS} {v:Value} {L:List (List α)} (h:OwnL el ei lo S v L) {b:Nat} (hb:blkOf v=some b):b<S.next:=let ⟨_,_,h1,_⟩:=h; h1.lt hb
theorem OwnL.good {el ei lo:Nat} {S:AS} {v:Value} {L:List (List α)} (h:OwnL el ei lo S v L):v≠.slice (some ⟨0,0,some 0⟩) 0 0:=let ⟨_,_,h1,_⟩:=h; h1.good
theorem OwnL.slice {el ei lo:Nat} {S:AS} {v:Value} {L:List (List α)} (h:OwnL el ei lo S v L):∃ p n c,v=.slice p n c:=let ⟨_,_,h1,_⟩:=h; own_slice h1
theorem Lst.rep {S:AS} {v:Value} {l:List α} (h:Lst S v l):LstR S v l:=by
 rcases h with h|⟨id,off,c,ty,cap,wr,ex,h1,h2,h3,h4,h5⟩
 ·exact .inl h
 ·exact .inr ⟨id,off,c,ty,cap,wr,ex,h1,h2,h3,h4,fun i x hx=>⟨cellsOf x,rfl,h5 i x hx⟩⟩
theorem OwnL.rows {el ei lo:Nat} {S:AS} {v:Value} {L:List (List α)} (h:OwnL el ei lo S v L):LstR S v L:=by
 obtain ⟨h0,hs,h1,h2,h3⟩:=h
 have r:=h1.rows
 rcases r with ⟨e,h⟩|⟨id,off,c,ty,cap,wr,ex,q1,q2,q3,q4,q5⟩
 ·subst e
  exact .inl ⟨List.length_eq_zero_iff.1 (by rw [← h2]; rfl),h⟩
 ·refine .inr ⟨id,off,c,ty,cap,wr,ex,by rw [← h2]; exact q1,by rw [← h2]; exact q2,q3,q4,fun i x hx=>?_⟩
  have hi:i<hs.length:=by have:=(List.getElem?_eq_some_iff.1 hx).1; omega
  have hg:hs[i]?=some hs[i]:=List.getElem?_eq_getElem hi
  exact ⟨[hs[i].v],⟨_,rfl,(h3 i _ _ hg hx).rows.rep⟩,fun j hj=>q5 i _ hg j hj⟩
theorem OwnL.at {P:Program} {t el ei lo:Nat} {S:AS} {v:Value} {L:List (List α)} (ho:OwnL el ei lo S v L) (hu:P.underlying t=some (.slice el)) (hs:szOf P el=some 1) {i:Nat} {l:List α} (hx:L[i]?=some l) :
  ∃ id o c ty wr ex p n cc,aIndexAddr P t v (.int .i64 (i:Int))=some (.pointer (some ⟨id,o,none⟩))∧S.heap.get id=some (.cells c ty 1 wr ex)∧id<S.next∧c[o]?=some (.slice p n cc)∧Own ei lo S (.slice p n cc) l∧blkOf v=some id:=by
 obtain ⟨h0,hd,k1,k2,k3⟩:=ho
 have hi:i<hd.length:=by have:=(List.getElem?_eq_some_iff.1 hx).1; omega
 have hg:hd[i]?=some hd[i]:=List.getElem?_eq_getElem hi
 obtain ⟨id,c,ex,h1,h2,h3,h4,h5,h6⟩:=k1.at hu hs hg
 exact ⟨id,_,c,el,true,ex,hd[i].p,hd[i].n,hd[i].c,h4,h5,h3,h6 0 (by decide),k3 i _ _ hg hx,h1⟩
end
end Go.Aev
end
section
set_option linter.unusedSimpArgs false
set_option linter.unusedVariables false
namespace Go.Aev
open Go Go.RowKit Go.ChangeShapes
def nilB:Value→Bool
 | .slice none 0 0=>true
 | _=>false
section
variable {α:Type} [Cel α]
theorem Lst.form {S:AS} {v:Value} {l:List α} (h:Lst S v l):∃ p n c,v=.slice p n c:=by
 rcases h with ⟨_,rfl|rfl⟩|⟨id,off,c,ty,cap,wr,ex,rfl,_⟩<;>exact ⟨_,_,_,rfl⟩
theorem nilB_nil {S:AS} {v:Value} {l:List α} (h:Lst S v l) (hb:nilB v=true):l=[]:=by
 rcases h with ⟨h,_⟩|⟨id,off,c,ty,cap,wr,ex,rfl,_⟩
 ·exact h
 ·simp [nilB] at hb
end
theorem LstR.form {α:Type} [Rep α] {S:AS} {v:Value} {l:List α} (h:LstR S v l):∃ p n c,v=.slice p n c:=by
 rcases h with ⟨_,rfl|rfl⟩|⟨id,off,c,ty,cap,wr,ex,rfl,_⟩<;>exact ⟨_,_,_,rfl⟩
theorem Lst.one {α:Type} [Cel α] {S:AS} {v:Value} {l:List α} (h:Lst S v l):oneB v=true:=by obtain ⟨p,n,c,rfl⟩:=h.form; rfl
theorem LstR.one {α:Type} [Rep α] {S:AS} {v:Value} {l:List α} (h:LstR S v l):oneB v=true:=by obtain ⟨p,n,c,rfl⟩:=h.form; rfl
def slEq (d:Option TypeDesc) (u v:Option Value) (n:Bool) (S:AS):Option (Value × AS) :=
 match d,u,v with
 | some (.slice _),some (.slice none 0 0),some (.slice none 0 0)=>some (.bool (!n),S)
 | some (.slice _),some (.slice (some _) _ _),some (.slice none 0 0)=>some (.bool n,S)
 | _,_,_=>none
theorem strEq_sl (e:TypeId) (u v:Option Value) (n:Bool) (S:AS):strEq (some (.slice e)) u v n S=none:=rfl
section
variable {P:Program} {E:Env} {r:Rec}
variable (dst:Option Tmp) (ty:TypeId) (pos:String) (after:Array Edge) (g:Option (Nat × Bool)) (f:Fr) (S:AS)
def evOpN (P:Program) (E:Env) (r:Rec) (o:Oper) (f:Fr) (S:AS):Option (Value × AS):=evOpC P E r o f S
theorem firstOfN {x:Option (Value × AS)} {o:Oper} (h:∀ z,x=some z→evOp P E r o f S=some z):evOpC P E r o f S=firstOf x (evOpN P E r o f S):=by
 cases x with
 | none=>rfl
 | some z=>exact h z rfl
theorem bin_eqlSl {v:Value} (h:∃ p n c,v=.slice p n c) (t t2:TypeId) (x y:Operand):bin2 P E r ⟨dst,.binOp .eql t x y t2,ty,pos,after,g⟩ f S (some v) (some (.slice none 0 0))=evOpB P E r ⟨dst,.binOp .eql t x y t2,ty,pos,after,g⟩ f S:=by
 obtain ⟨p,n,c,rfl⟩:=h; rfl
theorem at0_nil {t e:TypeId} (h:P.underlying t=some (.slice e)) (d:Nat):at0 P (Op.equalIn (d+1) t (.slice none 0 0) (.slice none 0 0))=some true:=by
 simp only [Op.equalIn,at0_bind,at0_und h]
 rfl
theorem opC_eql (t t2:TypeId) (x y:Operand):evOpC P E r ⟨dst,.binOp .eql t x y t2,ty,pos,after,g⟩ f S=firstOf (slEq (P.underlying t) (f.val E.G x) (f.val E.G y) false S) (evOpN P E r ⟨dst,.binOp .eql t x y t2,ty,pos,after,g⟩ f S):=by
 refine firstOfN f S fun z hz=>?_
 unfold slEq at hz
 split at hz
 ·rename_i e hu hx hy
  simp only [Option.some.injEq] at hz
  subst hz
  have h0:at0 P (execOp (fun x=>(f.val E.G x).getD undef) ⟨dst,.binOp .eql t x y t2,ty,pos,after,g⟩)=some (.value (.bool true)):=by
   simp [execOp,hx,hy,eqGuard,binOp,at0_bind,at0_map,at0_pure,equal_def,at0_nil hu]
  have hf:evFlat P ⟨dst,.binOp .eql t x y t2,ty,pos,after,g⟩ (fun x=>(f.val E.G x).getD undef)=some (.bool true):=by
   simp [evFlat,flatKind,Op.operands,hx,hy,selfB,h0]
  have hs:evStruct P ⟨dst,.binOp .eql t x y t2,ty,pos,after,g⟩ (fun x=>(f.val E.G x).getD undef) S=none:=by simp [evStruct,hx,hy,aEqs,aEqAgg,aEq,hu]
  simp [evOp,Op.operands,vals_two hx hy,evSimple,hs,hf]
 ·rename_i e a n c hu hx hy
  simp only [Option.some.injEq] at hz
  subst hz
  have hs:evStruct P ⟨dst,.binOp .eql t x y t2,ty,pos,after,g⟩ (fun x=>(f.val E.G x).getD undef) S=some (some (.bool false),S):=by simp [evStruct,hx,hy,aEqs,aEqAgg,aEq,hu]
  simp [evOp,Op.operands,vals_two hx hy,evSimple,hs]
 ·simp at hz
end
theorem slEq_lst {α:Type} [Cel α] {S0:AS} {v:Value} {l:List α} (h:Lst S0 v l) (e:TypeId) (S:AS):slEq (some (.slice e)) (some v) (some (.slice none 0 0)) false S=some (.bool (nilB v),S):=by
 rcases h with ⟨_,rfl|rfl⟩|⟨id,off,c,ty,cap,wr,ex,rfl,_⟩<;>rfl
end Go.Aev
end
section
set_option linter.unusedSimpArgs false
set_option linter.unusedVariables false
namespace Go.Aev
open Go Go.RowKit Go.ChangeShapes
def isList:Option ABlk→Bool
 | some (.cells _ _ (_+1) _ _)=>true
 | _=>false
def isTy (el:Nat):Option ABlk→Bool
 | some (.cells _ ty _ _ _)=>Nat.beq ty el
 | _=>false
class RepF (α:Type) extends Rep α where
 frame:∀ {S S':AS} {cs:List Value} {x:α},rep S cs x→S.next≤S'.next→(∀ id,id<S.next→isList (S.heap.get id)=true→S'.heap.get id=S.heap.get id)→rep S' cs x
 one:∀ {S:AS} {cs:List Value} {x:α},rep S cs x→cs.all oneB=true
theorem Lst.frameL {α:Type} [Cel α] {S S':AS} {v:Value} {l:List α} (h:Lst S v l) (hp:0<Cel.n α) (hn:S.next≤S'.next) (hf:∀ id,id<S.next→isList (S.heap.get id)=true→S'.heap.get id=S.heap.get id):Lst S' v l:=by
 rcases h with h|⟨id,off,c,ty,cap,wr,ex,h1,h2,h3,h4,h5⟩
 ·exact .inl h
 ·refine .inr ⟨id,off,c,ty,cap,wr,ex,h1,h2,(hf id h4 ?_).trans h3,Nat.lt_of_lt_of_le h4 hn,h5⟩
  rw [h3]
  cases hc:Cel.n α with
  | zero=>omega
  | succ k=>rfl
structure Raw (n:Nat) where
 c:List Value
 l:c.length=n
 o:c.all oneB=true
instance (n:Nat):Cel (Raw n):=⟨n,Raw.c,Raw.l,Raw.o⟩
def Safe (el lo:Nat) (S S':AS):Prop:=S.next≤S'.next∧∀ id,id<S.next→isList (S.heap.get id)=true→S'.heap.get id=S.heap.get id∨(lo≤id∧isTy el (S.heap.get id)=true)
theorem Safe.refl (el lo:Nat) (S:AS):Safe el lo S S:=⟨Nat.le_refl _,fun _ _ _=>.inl rfl⟩
theorem Safe.agree {el lo:Nat} {S S':AS} (h:Agree S S'):Safe el lo S S':=⟨h.1,fun id hid _=>.inl (h.2 id hid)⟩
theorem Safe.trans {el lo:Nat} {S S1 S2:AS} (h:Safe el lo S S1) (k:Safe el lo S1 S2):Safe el lo S S2 :=
 ⟨Nat.le_trans h.1 k.1,fun id hid hl=>by
  rcases h.2 id hid hl with e|e
  ·rcases k.2 id (Nat.lt_of_lt_of_le hid h.1) (by rw [e]; exact hl) with e2|e2
   ·exact .inl (e2.trans e)
   ·rw [e] at e2; exact .inr e2
  ·exact .inr e⟩
theorem Safe.one {el lo a:Nat} {S S':AS} (hn:S.next≤S'.next) (hq:∀ id,id≠a→S'.heap.get id=S.heap.get id) (ha:isList (S.heap.get a)=false∨(lo≤a∧isTy el (S.heap.get a)=true)):Safe el lo S S' :=
 ⟨hn,fun id _ hl=>by
  by_cases e:id=a
  ·subst e
   rcases ha with h|h
   ·rw [h] at hl; cases hl
   ·exact .inr h
  ·exact .inl (hq id e)⟩
section
variable {α:Type} [RepF α]
def Kept (el lo:Nat) (S:AS) (cs:List Value) (x:α):Prop:=∀ S',Safe el lo S S'→Rep.rep S' cs x
theorem Kept.safe {el lo:Nat} {S S':AS} {cs:List Value} {x:α} (h:Kept el lo S cs x) (k:Safe el lo S S'):Kept el lo S' cs x:=fun S'' k'=>h S'' (k.trans k')
theorem Kept.now {el lo:Nat} {S:AS} {cs:List Value} {x:α} (h:Kept el lo S cs x):Rep.rep S cs x:=h S (Safe.refl _ _ _)
theorem Kept.of {el lo:Nat} {S0 S:AS} {cs:List Value} {x:α} (h:Rep.rep S0 cs x) (ha:Agree S0 S) (hlo:S0.next≤lo):Kept el lo S cs x:=fun S' k =>
 RepF.frame h (Nat.le_trans ha.1 k.1) fun id hid hl=>by
  have e:=ha.2 id hid
  rcases k.2 id (Nat.lt_of_lt_of_le hid ha.1) (by rw [e]; exact hl) with e2|e2
  ·exact e2.trans e
  ·omega
def OwnR (el lo:Nat) (S:AS) (v:Value) (l:List α):Prop :=
 ∃ rs:List (Raw (Rep.n α)),Own el lo S v rs∧rs.length=l.length∧∀ (i:Nat) (r:Raw (Rep.n α)) (x:α),rs[i]?=some r→l[i]?=some x→Kept el lo S r.c x
theorem OwnR.safe {el lo:Nat} {S S':AS} {v:Value} {l:List α} (h:OwnR el lo S v l) (k:Safe el lo S S') (hf:∀ id,id<S.next→blkOf v=some id→S'.heap.get id=S.heap.get id):OwnR el lo S' v l :=
 let ⟨rs,h1,h2,h3⟩:=h; ⟨rs,h1.frame k.1 hf,h2,fun i r x e1 e2=>(h3 i r x e1 e2).safe k⟩
theorem OwnR.agree {el lo:Nat} {S S':AS} {v:Value} {l:List α} (h:OwnR el lo S v l) (ha:Agree S S'):OwnR el lo S' v l:=h.safe (Safe.agree ha) fun id hid _=>ha.2 id hid
theorem OwnR.ne {el lo:Nat} {S:AS} {v:Value} {l:List α} (h:OwnR el lo S v l) {id:Nat} (hi:id<lo):blkOf v≠some id:=let ⟨_,h1,_⟩:=h; h1.ne hi
theorem OwnR.new {el lo:Nat} {S:AS} {v:Value} {l:List α} (h:OwnR el lo S v l) {id:Nat} (hi:S.next≤id):blkOf v≠some id:=let ⟨_,h1,_⟩:=h; h1.new hi
theorem OwnR.lt {el lo:Nat} {S:AS} {v:Value} {l:List α} (h:OwnR el lo S v l) {b:Nat} (hb:blkOf v=some b):b<S.next:=let ⟨_,h1,_⟩:=h; h1.lt hb
theorem OwnR.slice {el lo:Nat} {S:AS} {v:Value} {l:List α} (h:OwnR el lo S v l):∃ p n c,v=.slice p n c:=let ⟨_,h1,_⟩:=h; own_slice h1
theorem OwnR.box {el lo a:Nat} {S S':AS} {v:Value} {l:List α} (h:OwnR el lo S v l) {c:List Value} {ty:Nat} {w e:Bool} (hb:S.heap.get a=some (.cells c ty 0 w e)) (hp:0<Rep.n α) (hn:S.next≤S'.next) (hq:∀ id,id≠a→S'.heap.get id=S.heap.get id):OwnR el lo S' v l:=by
 refine h.safe (Safe.one hn hq (.inl (by rw [hb]; rfl))) fun id hid hv=>hq id fun e=>?_
 subst e
 obtain ⟨rs,h1,_⟩:=h
 rcases h1 with ⟨_,rfl⟩|⟨id',ex,rfl,q1,q2,q3⟩
 ·simp [blkOf] at hv
 ·simp only [blkOf,Option.some.injEq] at hv
  subst hv
  rw [hb] at q3
  injection q3 with q3
  injection q3 with _ _ q3
  have:Cel.n (Raw (Rep.n α))=Rep.n α:=rfl
  omega
theorem OwnR.rows {el lo:Nat} {S:AS} {v:Value} {l:List α} (h:OwnR el lo S v l):LstR S v l:=by
 obtain ⟨rs,h1,h2,h3⟩:=h
 rcases h1.rows with ⟨e,h⟩|⟨id,off,c,ty,cap,wr,ex,q1,q2,q3,q4,q5⟩
 ·subst e
  exact .inl ⟨List.length_eq_zero_iff.1 (by rw [← h2]; rfl),h⟩
 ·refine .inr ⟨id,off,c,ty,cap,wr,ex,by rw [← h2]; exact q1,by rw [← h2]; exact q2,q3,q4,fun i x hx=>?_⟩
  have hi:i<rs.length:=by have:=(List.getElem?_eq_some_iff.1 hx).1; omega
  have hg:rs[i]?=some rs[i]:=List.getElem?_eq_getElem hi
  exact ⟨rs[i].c,(h3 i _ _ hg hx).now,fun j hj=>q5 i _ hg j hj⟩
theorem OwnR.of {el lo:Nat} {S0 S:AS} {v:Value} {rs:List (Raw (Rep.n α))} {l:List α} (h:Own el lo S v rs) (hl:rs.length=l.length) (hr:∀ (i:Nat) (r:Raw (Rep.n α)) (x:α),rs[i]?=some r→l[i]?=some x→Rep.rep S0 r.c x) (ha:Agree S0 S) (hlo:S0.next≤lo):OwnR el lo S v l :=
 ⟨rs,h,hl,fun i r x e1 e2=>Kept.of (hr i r x e1 e2) ha hlo⟩
theorem OwnR.at {P:Program} {t el lo:Nat} {S:AS} {v:Value} {l:List α} (ho:OwnR el lo S v l) (hu:P.underlying t=some (.slice el)) (hs:szOf P el=some (Rep.n α)) {i:Nat} {x:α} (hx:l[i]?=some x) :
  ∃ id o c ty wr ex cs,aIndexAddr P t v (.int .i64 (i:Int))=some (.pointer (some ⟨id,o,none⟩))∧S.heap.get id=some (.cells c ty (Rep.n α) wr ex)∧id<S.next∧Kept el lo S cs x∧(∀ j,j<Rep.n α→c[o+j]?=cs[j]?)∧blkOf v=some id∧o=i * Rep.n α:=by
 obtain ⟨rs,h1,h2,h3⟩:=ho
 have hi:i<rs.length:=by have:=(List.getElem?_eq_some_iff.1 hx).1; omega
 have hg:rs[i]?=some rs[i]:=List.getElem?_eq_getElem hi
 obtain ⟨id,c,ex,q1,q2,q3,q4,q5,q6⟩:=h1.at hu hs hg
 exact ⟨id,_,c,el,true,ex,rs[i].c,q4,q5,q3,h3 i _ _ hg hx,q6,q1,rfl⟩
theorem OwnR.put {P:Program} {el lo:Nat} {S:AS} {v u:Value} {l:List α} (ho:OwnR el lo S v l) (hs:szOf P el=some (Rep.n α)) {i id:Nat} {x':α} (hi:i<l.length) {cs:List Value} (hc:u.cells.toList=cs) (hlen:cs.length=Rep.n α) (hone:cs.all oneB=true) (hb:blkOf v=some id) (hh:Kept el lo S cs x') :
  ∃ S1,stA P el ⟨id,i * Rep.n α,none⟩ u S=some S1∧S1.next=S.next∧OwnR el lo S1 v (l.set i x')∧∀ q,q≠id→S1.heap.get q=S.heap.get q:=by
 obtain ⟨rs,h1,h2,h3⟩:=ho
 obtain ⟨S1,k1,k2,k3,k4⟩:=h1.put (P:=P) (u:=u) (i:=i) (x:=(⟨cs,hlen,hone⟩:Raw (Rep.n α))) hs (by omega) hc hb
 have sf:Safe el lo S S1:=by
  refine Safe.one (a:=id) (by omega) k4 (.inr ?_)
  rcases h1 with ⟨e,_⟩|⟨id',ex,rfl,q1,q2,q3⟩
  ·subst e; simp at h2; omega
  ·simp only [blkOf,Option.some.injEq] at hb
   subst hb
   exact ⟨q1,by rw [q3]; exact Nat.beq_refl _⟩
 refine ⟨S1,k1,k2,⟨rs.set i ⟨cs,hlen,hone⟩,k3,by rw [List.length_set,List.length_set]; exact h2,fun j r y e1 e2=>?_⟩,k4⟩
 rw [List.getElem?_set] at e1 e2
 by_cases e:i=j
 ·subst e
  rw [if_pos rfl,if_pos (by omega)] at e1
  rw [if_pos rfl,if_pos hi] at e2
  cases e1; cases e2
  exact hh.safe sf
 ·rw [if_neg e] at e1 e2
  exact (h3 j r y e1 e2).safe sf
end
def KL {β:Type} [Cel β] (el lo:Nat) (S:AS) (w:Value) (l:List β):Prop:=∀ S',Safe el lo S S'→Lst S' w l
theorem KL.own {β:Type} [Cel β] {el lo ei lo2:Nat} {S:AS} {w:Value} {l:List β} (h:Own ei lo2 S w l) (hne:ei≠el) (hp:0<Cel.n β):KL el lo S w l:=fun S' k=>by
 refine h.rows.frame k.1 fun id hid hb=>?_
 rcases h with ⟨_,rfl⟩|⟨id',ex,rfl,q1,q2,q3⟩
 ·simp [blkOf] at hb
 ·simp only [blkOf,Option.some.injEq] at hb
  subst hb
  rcases k.2 id' hid (by
   rw [q3]
   cases hc:Cel.n β with
   | zero=>omega
   | succ k=>rfl) with e|⟨_,e⟩
  ·exact e
  ·rw [q3] at e; exact absurd (Nat.eq_of_beq_eq_true e) hne
theorem KL.safe {β:Type} [Cel β] {el lo:Nat} {S S':AS} {w:Value} {l:List β} (h:KL el lo S w l) (k:Safe el lo S S'):KL el lo S' w l:=fun S'' k'=>h S'' (k.trans k')
end Go.Aev
end
section
set_option linter.unusedSimpArgs false
set_option linter.unusedVariables false
namespace Go.Aev
open Go Go.RowKit Go.ChangeShapes
section
variable {α:Type} [Cel α]
def OwnC (el lo cap:Nat) (S:AS) (v:Value) (l:List α):Prop :=
 ∃ id c ex,v=.slice (some ⟨id,0,none⟩) l.length cap∧lo≤id∧id<S.next∧S.heap.get id=some (.cells c el (Cel.n α) true ex)∧c.length=cap * Cel.n α∧l.length≤cap∧c.take (l.length * Cel.n α)=(l.map cellsOf).flatten
theorem OwnC.own {el lo cap:Nat} {S:AS} {v:Value} {l:List α} (h:OwnC el lo cap S v l) (he:l.length=cap):Own el lo S v l:=by
 obtain ⟨id,c,ex,h1,h2,h3,h4,h5,h6,h7⟩:=h
 refine .inr ⟨id,ex,by rw [h1,he],h2,h3,?_⟩
 rw [h4,← h7,he,← h5,List.take_length]
theorem OwnC.frame {el lo cap:Nat} {S S':AS} {v:Value} {l:List α} (h:OwnC el lo cap S v l) (hn:S.next≤S'.next) (hf:∀ id,id<S.next→blkOf v=some id→S'.heap.get id=S.heap.get id):OwnC el lo cap S' v l :=
 let ⟨id,c,ex,h1,h2,h3,h4,h5,h6,h7⟩:=h; ⟨id,c,ex,h1,h2,Nat.lt_of_lt_of_le h3 hn,(hf id h3 (by rw [h1]; rfl)).trans h4,h5,h6,h7⟩
theorem OwnC.agree {el lo cap:Nat} {S S':AS} {v:Value} {l:List α} (h:OwnC el lo cap S v l) (ha:Agree S S'):OwnC el lo cap S' v l:=h.frame ha.1 fun id hid _=>ha.2 id hid
end
section
variable {P:Program} {E:Env} {r:Rec}
variable (dst:Option Tmp) (ty:TypeId) (pos:String) (after:Array Edge) (g:Option (Nat × Bool)) (f:Fr) (S:AS)
end
section
variable {P:Program} {E:Env} {r:Rec}
variable (dst:Option Tmp) (ty:TypeId) (pos:String) (after:Array Edge) (g:Option (Nat × Bool)) (f:Fr) (S:AS)
end
section
variable {α:Type} [Cel α]
def OwnG (el cap lo:Nat) (S:AS) (v:Value) (l:List α):Prop:=(cap=0∧l=[]∧v=.slice none 0 0)∨(0<cap∧OwnC el lo cap S v l)
theorem OwnG.own {el lo cap:Nat} {S:AS} {v:Value} {l:List α} (h:OwnG el cap lo S v l) (he:l.length=cap):Own el lo S v l:=by
 rcases h with ⟨_,h2,h3⟩|⟨_,h⟩
 ·exact .inl ⟨h2,h3⟩
 ·exact h.own he
theorem OwnG.agree {el lo cap:Nat} {S S':AS} {v:Value} {l:List α} (h:OwnG el cap lo S v l) (ha:Agree S S'):OwnG el cap lo S' v l:=h.elim .inl fun h=>.inr ⟨h.1,h.2.agree ha⟩
theorem OwnG.low {el lo lo' cap:Nat} {S:AS} {v:Value} {l:List α} (h:OwnG el cap lo S v l) (hl:lo'≤lo):OwnG el cap lo' S v l :=
 h.elim .inl fun ⟨h0,id,c,ex,h1,h2,h3⟩=>.inr ⟨h0,id,c,ex,h1,Nat.le_trans hl h2,h3⟩
theorem OwnG.ne {el lo cap:Nat} {S:AS} {v:Value} {l:List α} (h:OwnG el cap lo S v l) {id:Nat} (hi:id<lo):blkOf v≠some id:=by
 rcases h with ⟨_,_,rfl⟩|⟨_,b,c,ex,rfl,h2,_⟩
 ·simp [blkOf]
 ·simp [blkOf]; omega
theorem OwnG.new {el lo cap:Nat} {S:AS} {v:Value} {l:List α} (h:OwnG el cap lo S v l) {id:Nat} (hi:S.next≤id):blkOf v≠some id:=by
 rcases h with ⟨_,_,rfl⟩|⟨_,b,c,ex,rfl,_,h3,_⟩
 ·simp [blkOf]
 ·simp [blkOf]; omega
theorem OwnG.lt {el lo cap:Nat} {S:AS} {v:Value} {l:List α} (h:OwnG el cap lo S v l) {b:Nat} (hb:blkOf v=some b):b<S.next:=by
 rcases h with ⟨_,_,rfl⟩|⟨_,id,c,ex,rfl,_,h3,_⟩
 ·simp [blkOf] at hb
 ·simp only [blkOf,Option.some.injEq] at hb; omega
theorem OwnG.slice {el lo cap:Nat} {S:AS} {v:Value} {l:List α} (h:OwnG el cap lo S v l):∃ p n c,v=.slice p n c:=by
 rcases h with ⟨_,_,rfl⟩|⟨_,id,c,ex,rfl,_⟩<;>exact ⟨_,_,_,rfl⟩
end
end Go.Aev
end
section
set_option linter.unusedSimpArgs false
set_option linter.unusedVariables false
namespace Go.Aev
open Go Go.RowKit Go.ChangeShapes
section
variable {α:Type} [RepF α]
theorem KL.box {β:Type} [Cel β] {el lo a:Nat} {S S':AS} {w:Value} {l:List β} (h:KL el lo S w l) {c:List Value} {ty:Nat} {wr e:Bool} (hb:S.heap.get a=some (.cells c ty 0 wr e)) (hn:S'.next=S.next) (hq:∀ id,id≠a→S'.heap.get id=S.heap.get id):KL el lo S' w l :=
 h.safe (Safe.one (a:=a) (Nat.le_of_eq hn.symm) hq (.inl (by rw [hb]; rfl)))
theorem KL.agree {β:Type} [Cel β] {el lo:Nat} {S S':AS} {w:Value} {l:List β} (h:KL el lo S w l) (ha:Agree S S'):KL el lo S' w l:=h.safe (Safe.agree ha)
theorem LstR.boxL {a:Nat} {S S':AS} {v:Value} {l:List α} (h:LstR S v l) (hb:isList (S.heap.get a)=false) (hp:0<Rep.n α) (hn:S.next≤S'.next) (hq:∀ id,id≠a→S'.heap.get id=S.heap.get id):LstR S' v l:=by
 have hl:∀ id,id<S.next→isList (S.heap.get id)=true→S'.heap.get id=S.heap.get id:=fun id _ hl=>hq id fun e=>by
  subst e; rw [hb] at hl; cases hl
 rcases h with h|⟨id,off,c,ty,cap,wr,ex,q1,q2,q3,q4,q5⟩
 ·exact .inl h
 ·refine .inr ⟨id,off,c,ty,cap,wr,ex,q1,q2,(hl id q4 ?_).trans q3,Nat.lt_of_lt_of_le q4 hn,fun i x hx=>?_⟩
  ·rw [q3]
   cases hc:Rep.n α with
   | zero=>omega
   | succ k=>rfl
  ·obtain ⟨cs,p1,p2⟩:=q5 i x hx
   exact ⟨cs,RepF.frame p1 hn hl,p2⟩
theorem Lst.boxL {β:Type} [Cel β] {a:Nat} {S S':AS} {v:Value} {l:List β} (h:Lst S v l) (hb:isList (S.heap.get a)=false) (hp:0<Cel.n β) (hn:S.next≤S'.next) (hq:∀ id,id≠a→S'.heap.get id=S.heap.get id):Lst S' v l :=
 h.frameL hp hn fun id _ hl=>hq id fun e=>by subst e; rw [hb] at hl; cases hl
theorem LstR.box {a:Nat} {S S':AS} {v:Value} {l:List α} (h:LstR S v l) {c:List Value} {ty:Nat} {w e:Bool} (hb:S.heap.get a=some (.cells c ty 0 w e)) (hp:0<Rep.n α) (hn:S.next≤S'.next) (hq:∀ id,id≠a→S'.heap.get id=S.heap.get id):LstR S' v l:=h.boxL (by rw [hb]; rfl) hp hn hq
theorem Lst.box {β:Type} [Cel β] {a:Nat} {S S':AS} {v:Value} {l:List β} (h:Lst S v l) {c:List Value} {ty:Nat} {w e:Bool} (hb:S.heap.get a=some (.cells c ty 0 w e)) (hp:0<Cel.n β) (hn:S.next≤S'.next) (hq:∀ id,id≠a→S'.heap.get id=S.heap.get id):Lst S' v l:=h.boxL (by rw [hb]; rfl) hp hn hq
end
end Go.Aev
end
section
set_option linter.unusedSimpArgs false
set_option linter.unusedVariables false
namespace Go.Aev
open Go Go.RowKit Go.ChangeShapes
section
variable {α:Type} [RepF α]
theorem OwnR.nil (el lo:Nat) (S:AS):OwnR el lo S (.slice none 0 0) ([]:List α):=⟨[],Own.nil _ _ _,rfl,fun i r x h=>by simp at h⟩
theorem KL.of {β:Type} [Cel β] {el lo:Nat} {S0 S:AS} {w:Value} {l:List β} (h:Lst S0 w l) (ha:Agree S0 S) (hlo:S0.next≤lo) (hp:0<Cel.n β):KL el lo S w l:=fun S' k =>
 h.frameL hp (Nat.le_trans ha.1 k.1) fun id hid hl=>by
  have e:=ha.2 id hid
  rcases k.2 id (Nat.lt_of_lt_of_le hid ha.1) (by rw [e]; exact hl) with e2|e2
  ·exact e2.trans e
  ·omega
theorem OwnR.one {el lo id:Nat} {S:AS} {cs:List Value} {ex:Bool} {x:α} (hb:S.heap.get id=some (.cells cs el (Rep.n α) true ex)) (hlo:lo≤id) (hid:id<S.next) (hl:cs.length=Rep.n α) (ho:cs.all oneB=true) (hk:Kept el lo S cs x):OwnR el lo S (.slice (some ⟨id,0,none⟩) 1 1) [x] :=
 ⟨[⟨cs,hl,ho⟩],.inr ⟨id,ex,rfl,hlo,hid,by rw [hb]; show _=some (ABlk.cells (cs++[]) el (Rep.n α) true ex); rw [List.append_nil]⟩,rfl,fun i r y h1 h2=>by
  match i with
  | 0=>simp at h1 h2; subst h1; subst h2; exact hk
  | k+1=>simp at h1⟩
end
end Go.Aev
end
