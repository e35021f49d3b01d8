import Derived.Test.YtpaipdipkgnpdaaGreatAE2
import Derived.OrdersIn
import Derived.LoopNIn
import Derived.Scope
import Derived.Lib.MakeNoZero
import GoSem.ClaimJoined
import Derived.OpenShut
import Derived.ChangeArms
import Derived.MakeChecks
import Derived.FnData
import Derived.Handed
import Derived.ProofKit
import Derived.LaidMore
import Derived.Carry
import Derived.ChangeSame
import Derived.ChangeCalls
import Derived.JoinedOf
import Derived.LaidLaws
import Derived.Stop.Joined
section
set_option linter.unusedSimpArgs false
set_option linter.unusedVariables false
namespace Go.Aev
open Go Go.RowKit
section
variable {B:Nat} {w0:World} {P:Program} {E:Env} {σ:Sig}
theorem FR.congr {f g:Fr} {a:Act} (h:f.Eq g) (hf:FR σ f a):FR σ g a :=
 ⟨by rw [← h.1]; exact hf.1,fun i v e=>hf.2 i v (by rw [h.2 i]; exact e)⟩
def Closed (ops:Array Oper) (listed:Array Bool):Prop :=
 ∀ j o,listed.getD j false=true→ops[j]?=some o→∀ e ∈ o.after,Region.binds .any e=true→listed.getD e.on false=true
def Held (ops:Array Oper) (acc:Array Nat):Prop :=
 ∀ i p,(acc.getD i 0).testBit p=true→∃ o,ops[i]?=some o∧∀ listed,Closed ops listed→(∀ e ∈ o.after,Region.binds .any e=true→listed.getD e.on false=true)→listed.getD p false=true
theorem fold_bits (acc:Array Nat):∀ (es:List Edge) (s p:Nat),(es.foldl (fun s e=>if Region.binds .any e then s ||| 2 ^ e.on ||| acc.getD e.on 0 else s) s).testBit p=true →
  s.testBit p=true∨∃ e ∈ es,Region.binds .any e=true∧(e.on=p∨(acc.getD e.on 0).testBit p=true)
 | [],s,p,h=>.inl h
 | e :: es,s,p,h=>by
  rw [List.foldl_cons] at h
  rcases fold_bits acc es _ p h with h1|⟨e',h2,h3⟩
  ·split at h1
   ·rename_i hb
    simp only [Nat.testBit_or,Nat.testBit_two_pow,Bool.or_eq_true,decide_eq_true_eq] at h1
    rcases h1 with (h1|h1)|h1
    ·exact .inl h1
    ·exact .inr ⟨e,by simp,hb,.inl h1⟩
    ·exact .inr ⟨e,by simp,hb,.inr h1⟩
   ·exact .inl h1
  ·exact .inr ⟨e',by simp [h2],h3⟩
theorem held_push {ops:Array Oper} {acc:Array Nat} (h:Held ops acc) {o:Oper} (ho:ops[acc.size]?=some o) :
  Held ops (acc.push (o.after.foldl (fun s e=>if Region.binds .any e then s ||| 2 ^ e.on ||| acc.getD e.on 0 else s) 0)):=by
 intro i p hb
 by_cases hi:i=acc.size
 ·subst hi
  refine ⟨o,ho,fun listed hc hl=>?_⟩
  have hb':(o.after.toList.foldl (fun s e=>if Region.binds .any e then s ||| 2 ^ e.on ||| acc.getD e.on 0 else s) 0).testBit p=true:=by
   rw [Array.foldl_toList]
   generalize hx:o.after.foldl (fun s e=>if Region.binds .any e then s ||| 2 ^ e.on ||| acc.getD e.on 0 else s) 0=x at hb ⊢
   simpa [Array.getD_eq_getD_getElem?] using hb
  rcases fold_bits acc _ _ p hb' with h1|⟨e,h2,h3,h4⟩
  ·simp at h1
  ·have he:=hl e (by simpa using h2) h3
   rcases h4 with h4|h4
   ·rw [← h4]; exact he
   ·obtain ⟨o',k1,k2⟩:=h _ _ h4
    exact k2 listed hc (hc _ _ he k1)
 ·refine h i p ?_
  have:(acc.push (o.after.foldl (fun s e=>if Region.binds .any e then s ||| 2 ^ e.on ||| acc.getD e.on 0 else s) 0)).getD i 0=acc.getD i 0:=by
   simp only [Array.getD_eq_getD_getElem?,Array.getElem?_push,if_neg hi]
  rw [← this]; exact hb
theorem held_fold {ops:Array Oper}:∀ (l:List Oper) (acc:Array Nat),(∀ k,k<l.length→l[k]?=ops[acc.size+k]?)→Held ops acc →
  Held ops (l.foldl (fun acc o=>acc.push (o.after.foldl (fun s e=>if Region.binds .any e then s ||| 2 ^ e.on ||| acc.getD e.on 0 else s) 0)) acc)
 | [],acc,_,h=>h
 | o :: l,acc,hl,h=>by
  rw [List.foldl_cons]
  refine held_fold l _ (fun k hk=>?_) (held_push h ?_)
  ·have:=hl (k+1) (by simpa using hk)
   rw [Array.size_push,Nat.add_assoc,Nat.add_comm 1 k,← this]; rfl
  ·have:=hl 0 (by simp)
   rw [Nat.add_zero] at this
   rw [← this]; rfl
theorem before_held (ops:Array Oper):Held ops (Region.before ops):=by
 unfold Region.before
 rw [← Array.foldl_toList]
 refine held_fold _ _ (fun k hk=>?_) (fun i p h=>by simp at h)
 simp
def remL (ops:Array Oper) (listed:Array Bool):List Nat:=(List.range ops.size).filter fun i=>!listed.getD i true
theorem remL_sorted (ops:Array Oper) (listed:Array Bool):(remL ops listed).Pairwise (·<·):=List.Pairwise.filter _ List.pairwise_lt_range
theorem mem_remL {ops:Array Oper} {listed:Array Bool} {i:Nat}:i ∈ remL ops listed↔i<ops.size∧listed.getD i true=false:=by
 unfold remL
 rw [List.mem_filter,List.mem_range]
 simp
theorem getD_any {listed:Array Bool} {i:Nat} (h:i<listed.size) (a b:Bool):listed.getD i a=listed.getD i b:=by simp [Array.getD,h]
theorem drawOk_edge {cs:Nat→Bool} {ops:Array Oper} (h:drawOk cs ops=true) {i:Nat} {o:Oper} (ho:ops[i]?=some o) {e:Edge} (he:e ∈ o.after) (hb:Region.binds .any e=true):e.on<i:=by
 unfold drawOk at h
 have hi:i<ops.size:=(Array.getElem?_eq_some_iff.1 ho).1
 have:=List.all_eq_true.1 h i (List.mem_range.2 hi)
 simp only [Bool.and_eq_true,ho,Option.map_some,Option.getD_some] at this
 have:=List.all_eq_true.1 this.1 e (by simpa using he)
 simp only [hb,Bool.not_true,Bool.false_or] at this
 simpa [Nat.blt_eq] using this
theorem drawOk_free {cs:Nat→Bool} {ops:Array Oper} (h:drawOk cs ops=true) {i p:Nat} {o:Oper} (ho:ops[i]?=some o) (hp:p<i):((Region.before ops).getD i 0).testBit p=true∨∃ op,ops[p]?=some op∧free2 (cs p) (cs i) ops op o=true:=by
 unfold drawOk at h
 have hi:i<ops.size:=(Array.getElem?_eq_some_iff.1 ho).1
 have:=List.all_eq_true.1 h i (List.mem_range.2 hi)
 simp only [Bool.and_eq_true] at this
 have:=List.all_eq_true.1 this.2 p (List.mem_range.2 hp)
 split at this
 ·rename_i hb; exact .inl hb
 ·split at this
  ·rename_i op oi k1 k2
   rw [ho] at k2; cases k2
   exact .inr ⟨op,k1,this⟩
  ·simp at this
theorem remL_set {ops:Array Oper} {listed:Array Bool} (hs:listed.size=ops.size) {i:Nat} {pre post:List Nat} (h:remL ops listed=pre++i :: post):remL ops (listed.setIfInBounds i true)=pre++post:=by
 have hsort:=remL_sorted ops listed
 rw [h,List.pairwise_append] at hsort
 obtain ⟨_,h2,h3⟩:=hsort
 rw [List.pairwise_cons] at h2
 have hi:i<ops.size:=(mem_remL.1 (by rw [h]; simp:i ∈ remL ops listed)).1
 have e1:remL ops (listed.setIfInBounds i true)=(remL ops listed).filter (fun j=>j != i):=by
  unfold remL
  rw [List.filter_filter]
  apply List.filter_congr
  intro j hj
  have hj:=List.mem_range.1 hj
  by_cases hji:j=i
  ·subst hji
   simp [Array.getD_eq_getD_getElem?,hs,hi]
  ·rw [getD_set_ne true (Ne.symm hji)]
   simp [hji]
 rw [e1,h,List.filter_append,List.filter_cons]
 have f1:pre.filter (fun j=>j != i)=pre:=List.filter_eq_self.2 fun x hx=>by
  have:=h3 x hx i (by simp)
  simp; omega
 have f2:post.filter (fun j=>j != i)=post:=List.filter_eq_self.2 fun x hx=>by
  have:=h2.1 x hx
  simp; omega
 rw [f1,f2]
 simp
theorem any_ok (hT:TabOk P) {r:Rec} (hr:RecOk B w0 P E r) {cs:Nat→Bool} {ops:Array Oper} (hcs:∀ p op,ops[p]?=some op→cs p=true→agreeKind op.op=true) (hd:drawOk cs ops=true) {roc:Option Nat} {Q:Exit→Act→World→Prop} :
  ∀ (fuel:Nat) {listed:Array Bool} {σ:Sig} {f f' f2:Fr} {a:Act} {S S':AS} {w:World},listed.size=ops.size→Closed ops listed→fuel=(remL ops listed).length→HR B w0 E.G σ S w→FR σ f a →
  evOps P E r cs ops (remL ops listed) f S=some (f2,S')→f2.Eq f'→(∀ σ' a' w',σ.le σ'→FR σ' f' a'→a'.defers=a.defers→HR B w0 E.G σ' S' w'→Q .normal a' w')→wpAnyIn (WF roc) 0 P .any ops Q fuel listed a w
 | 0,listed,σ,f,f',f2,a,S,S',w,hs,hc,hl,h,hf,e,heq,hQ=>by
  have hnil:remL ops listed=[]:=List.length_eq_zero_iff.1 hl.symm
  rw [hnil] at e
  simp only [evOps,Option.some.injEq,Prod.mk.injEq] at e
  obtain ⟨rfl,rfl⟩:=e
  refine ⟨?_,hQ σ a w (Sig.le_refl _) (FR.congr heq hf) rfl h⟩
  rw [List.eq_nil_iff_forall_not_mem]
  intro i hi
  obtain ⟨h0,o,ho,_⟩:=mem_ready.1 hi
  have:i ∈ remL ops listed:=mem_remL.2 ⟨(Array.getElem?_eq_some_iff.1 ho).1,h0⟩
  rw [hnil] at this
  simp at this
 | fuel+1,listed,σ,f,f',f2,a,S,S',w,hs,hc,hl,h,hf,e,heq,hQ=>by
  refine ⟨fun hready=>?_,fun i hi=>?_⟩
  ·exfalso
   cases hL:remL ops listed with
   | nil=>rw [hL] at hl; simp at hl
   | cons i tl =>
    have hi:=mem_remL.1 (by rw [hL]; simp:i ∈ remL ops listed)
    have hsort:=remL_sorted ops listed
    rw [hL,List.pairwise_cons] at hsort
    have:i ∈ Region.ready .any ops listed:=by
     refine mem_ready.2 ⟨hi.2,ops[i]'hi.1,by simp [hi.1],fun e he hb=>?_⟩
     have hlt:=drawOk_edge hd (i:=i) (o:=ops[i]'hi.1) (by simp [hi.1]) he hb
     have hlt':e.on<ops.size:=Nat.lt_trans hlt hi.1
     cases hx:listed.getD e.on true with
     | false =>
      have:e.on ∈ remL ops listed:=mem_remL.2 ⟨hlt',hx⟩
      rw [hL] at this
      rcases List.mem_cons.1 this with h1|h1
      ·omega
      ·have:=hsort.1 _ h1; omega
     | true=>rw [getD_any (by omega) false true]; exact hx
    rw [hready] at this
    simp at this
  ·obtain ⟨h0,o,ho,hedges⟩:=mem_ready.1 hi
   have hlt:i<ops.size:=(Array.getElem?_eq_some_iff.1 ho).1
   have hmem:i ∈ remL ops listed:=mem_remL.2 ⟨hlt,h0⟩
   obtain ⟨pre,post,hsplit⟩:=List.append_of_mem hmem
   have hsort:=remL_sorted ops listed
   rw [hsplit,List.pairwise_append] at hsort
   have hpre:∀ p ∈ pre,∃ op,ops[p]?=some op∧free2 (cs p) (cs i) ops op o=true:=by
    intro p hp
    have hpi:p<i:=hsort.2.2 p hp i (by simp)
    rcases drawOk_free hd ho hpi with hb|hb
    ·obtain ⟨o',k1,k2⟩:=before_held ops i p hb
     rw [ho] at k1; cases k1
     have k3:=k2 listed hc hedges
     have:=(mem_remL.1 (by rw [hsplit]; simp [hp]:p ∈ remL ops listed)).2
     rw [getD_any (by omega) true false,k3] at this
     cases this
    ·exact hb
   rw [hsplit] at e
   obtain ⟨v,S1,f3,q1,q2,q3⟩:=move_front (B:=B) (w0:=w0) hT hcs ho post pre hpre (fun _=>⟨σ,w,a,h,hf⟩) (.inr (.inr fun x hx v id hv ht=>topId_lt h (val_ok h hf hv) ht)) e
   have hs':(listed.setIfInBounds i true).size=ops.size:=by rw [Array.size_setIfInBounds]; exact hs
   have hset:=remL_set hs hsplit
   have mono:∀ j,listed.getD j false=true→(listed.setIfInBounds i true).getD j false=true:=by
    intro j hj
    by_cases hji:i=j
    ·subst hji; simp [Array.getD_eq_getD_getElem?,hs,hlt]
    ·rw [getD_set_ne false hji]; exact hj
   have hc':Closed ops (listed.setIfInBounds i true):=by
    intro j oj hj hoj e he hb
    by_cases hji:i=j
    ·subst hji
     rw [ho] at hoj; cases hoj
     exact mono _ (hedges e he hb)
    ·rw [getD_set_ne false hji] at hj
     exact mono _ (hc j oj hj hoj e he hb)
   have hlen:fuel=(remL ops (listed.setIfInBounds i true)).length:=by
    rw [hset]
    rw [hsplit] at hl
    simp at hl ⊢
    omega
   unfold wpOpIn
   simp only [ho]
   have q1:(match guardA ops o f with
    | some true=>evOp P E r o f S
    | some false=>some (undef,S)
    | none=>none)=some (v,S1):=by
    unfold stepA at q1
    cases hg:guardA ops o f with
    | none=>simp [hg] at q1
    | some b =>
     cases b
     ·simpa [hg] using q1
     ·simp only [hg] at q1 ⊢
      split at q1
      ·split at q1
       ·rename_i he _ _; rw [he]; exact q1
       ·simp at q1
      ·simp at q1
   cases hg:guardA ops o f with
   | none=>simp [hg] at q1
   | some b =>
    rw [guard_ok hf hg]
    cases b with
    | true =>
     simp only [hg] at q1
     simp only [if_true]
     refine evOp_ok hT hr h hf q1 (fun σ' v' w' k1 k2 k3=>?_)
     have hput:(a.put o.dst v').defers=a.defers:=by cases o.dst<;>rfl
     exact any_ok hT hr hcs hd fuel hs' hc' hlen k3 (put_ok (hf.mono k1) o.dst k2) (by rw [hset]; exact q2) (q3.symm.trans heq)
      (fun σ2 a2 w2 p1 p2 p3 p4=>hQ σ2 a2 w2 (Sig.le_trans k1 p1) p2 (p3.trans hput) p4)
    | false =>
     simp only [hg,Option.some.injEq,Prod.mk.injEq] at q1
     obtain ⟨rfl,rfl⟩:=q1
     simp only [Bool.false_eq_true,if_false]
     have hput:(a.put o.dst undef).defers=a.defers:=by cases o.dst<;>rfl
     exact ⟨fun f _=>WF_fn _ f,any_ok hT hr hcs hd fuel hs' hc' hlen h (put_ok hf o.dst (undef_ok _)) (by rw [hset]; exact q2) (q3.symm.trans heq)
      (fun σ2 a2 w2 p1 p2 p3 p4=>hQ σ2 a2 w2 p1 p2 (p3.trans hput) p4)⟩
theorem draw_ok (hT:TabOk P) (hm:P.follows .mixedOrders=true) {r:Rec} (hr:RecOk B w0 P E r) {ops:Array Oper} (hd:drawOk (needy ops) ops=true) {roc:Option Nat} {Q:Exit→Act→World→Prop}
  {σ:Sig} {f f':Fr} {a:Act} {S S':AS} {w:World} {id:Nat} (h:HR B w0 E.G σ S { w with drawn:=w.drawn+1 }) (hf:FR σ f a) (e:evOps P E r (needy ops) ops (List.range ops.size) f S=some (f',S'))
  (hQ:∀ σ' a' w',σ.le σ'→FR σ' f' a'→a'.defers=a.defers→HR B w0 E.G σ' S' w'→Q .normal a' w'):(Code.region id ops true).wpIn (WF roc) 0 P Q a w:=by
 refine wpIn_region_any hm ?_
 have hcs:∀ p op,ops[p]?=some op→needy ops p=true→agreeKind op.op=true:=by
  intro p op hop hn
  unfold needy at hn
  simp only [hop] at hn
  split at hn
  ·assumption
  ·simp at hn
 have hall:remL ops (Array.replicate ops.size false)=List.range ops.size:=by
  unfold remL
  refine List.filter_eq_self.2 fun i hi=>?_
  have:=List.mem_range.1 hi
  simp [Array.getD,this]
 exact any_ok hT hr hcs hd ops.size (by simp) (fun j o hj=>by
  simp only [Array.getD_eq_getD_getElem?,Array.getElem?_replicate] at hj
  split at hj<;>simp at hj) (by rw [hall]; simp) h hf (by rw [hall]; exact e) (Fr.Eq.refl _) hQ
end
end Go.Aev
end
section
set_option linter.unusedSimpArgs false
set_option linter.unusedVariables false
namespace Go.Aev
open Go Go.RowKit
section
variable {B:Nat} {w0:World} {P:Program} {E:Env} {σ:Sig}
def AlK.is:AlK→Op→Prop
 | .var e,op=>op=.alloc e
 | .sl y n l,op=>∃ parts:Array (Nat × Operand),op=.buildSlice y n parts∧parts.toList=l
theorem isAl_spec {o:Oper} {t:AlK} (h:isAl o=some t):t.is o.op∧o.guard=none:=by
 unfold isAl at h
 split at h
 ·rename_i e h1 h2; cases h; exact ⟨h1,h2⟩
 ·rename_i y n parts h1 h2; cases h; exact ⟨⟨parts,h1,rfl⟩,h2⟩
 ·simp at h
theorem pVals_congr {G:Nat} {f g:Fr}:∀ (l:List (Nat × Operand)),(∀ x ∈ l,f.val G x.2=g.val G x.2)→pVals f G l=pVals g G l
 | [],_=>rfl
 | (i,x) :: l,h=>by
  simp only [pVals,h (i,x) (by simp),pVals_congr l (fun y hy=>h y (by simp [hy]))]
theorem alB_congr {ops:Array Oper} {o:Oper} {t:AlK} (ht:isAl o=some t) {f g:Fr} (h:∀ d,d ∈ o.looksAt ops→f.t.get d=g.t.get d) (id:Nat):alB P E.G t f id=alB P E.G t g id:=by
 obtain ⟨h1,_⟩:=isAl_spec ht
 cases t with
 | var e=>rfl
 | sl y n l =>
  obtain ⟨parts,h1,rfl⟩:=h1
  have:pVals f E.G parts.toList=pVals g E.G parts.toList:=pVals_congr _ fun x hx=>val_of_looks (E:=E) h (by
   rw [h1]
   have hx':x ∈ parts:=Array.mem_toList_iff.1 hx
   simp only [Op.operands]
   first|exact (Array.mem_map (f:=fun x:Nat × Operand=>x.2)).2 ⟨x,hx',rfl⟩|(simp; exact ⟨_,hx'⟩))
  simp only [alB,this]
theorem stepA2_non {r:Rec} {cs:Nat→Bool} {ops:Array Oper} {base i:Nat} {o:Oper} (ht:isAl o=none) (f:Fr) (S:AS):stepA2 P E r cs ops base i o f S=stepA P E r (cs i) ops o f S:=by unfold stepA2; simp only [ht]
theorem stepA2_congr {r:Rec} {cs:Nat→Bool} {ops:Array Oper} {base i:Nat} {o:Oper} {f g:Fr} (h:∀ d,d ∈ o.looksAt ops→f.t.get d=g.t.get d) (S:AS):stepA2 P E r cs ops base i o f S=stepA2 P E r cs ops base i o g S:=by
 unfold stepA2
 rw [stepA_congr h]
 cases ha:isAl o with
 | none=>rfl
 | some t=>simp only [alB_congr ha h]
theorem evOps2_cons {r:Rec} {cs:Nat→Bool} {ops:Array Oper} {base i:Nat} {rest:List Nat} {f:Fr} {S:AS} {o:Oper} (ho:ops[i]?=some o) :
  evOps2 P E r cs ops base (i :: rest) f S=match stepA2 P E r cs ops base i o f S with
   | some (v,S')=>evOps2 P E r cs ops base rest (f.put o.dst v) S'
   | none=>none:=by
 simp only [evOps2,ho]
 cases stepA2 P E r cs ops base i o f S<;>rfl
theorem evOps2_congr {r:Rec} {cs:Nat→Bool} {ops:Array Oper} {base:Nat}:∀ (l:List Nat) {f g f':Fr} {S S':AS},f.Eq g→evOps2 P E r cs ops base l f S=some (f',S')→∃ g',evOps2 P E r cs ops base l g S=some (g',S')∧f'.Eq g'
 | [],f,g,f',S,S',h,e=>by
  simp only [evOps2,Option.some.injEq,Prod.mk.injEq] at e
  obtain ⟨rfl,rfl⟩:=e
  exact ⟨g,rfl,h⟩
 | i :: l,f,g,f',S,S',h,e=>by
  cases ho:ops[i]? with
  | none=>simp only [evOps2,ho] at e ⊢; exact evOps2_congr l h e
  | some o =>
   rw [evOps2_cons ho] at e ⊢
   rw [← stepA2_congr (fun d _=>h.2 d)]
   cases hs:stepA2 P E r cs ops base i o f S with
   | none=>simp [hs] at e
   | some x =>
    obtain ⟨v,S1⟩:=x
    simp only [hs] at e
    exact evOps2_congr l (h.put o.dst v) e
theorem apart_spec {ops:Array Oper} {p i:Oper} (h:apart ops p i=true):(∀ d,i.dst=some d→d ∉ namesOf ops p)∧(∀ d,p.dst=some d→d ∉ namesOf ops i):=by
 have dd:∀ {l:List Tmp} {d:Option Tmp},(match d with|some d=>!l.contains d|none=>true)=true→∀ x,d=some x→x ∉ l:=by
  intro l d h x hx
  subst hx
  simpa using h
 unfold apart at h
 simp only [Bool.and_eq_true] at h
 exact ⟨dd h.1,dd h.2⟩
theorem free3_spec {c c':Bool} {ops:Array Oper} {p i:Oper} (h:free3 c c' ops p i=true):(isAl i=none→(∃ t,isAl p=some t)→pureKind i.op=true∨readKind i.op=true) ∧
  (isAl i=none→isAl p=none→(pureKind i.op=true∨pureKind p.op=true∨(readKind i.op=true∧(readKind p.op=true∨c=true))∨(readKind p.op=true∧c'=true))∨loose p i=true) ∧
  (∀ d,i.dst=some d→d ∉ namesOf ops p)∧(∀ d,p.dst=some d→d ∉ namesOf ops i):=by
 unfold free3 at h
 cases h1:isAl i with
 | none =>
  cases h2:isAl p with
  | none =>
   simp only [h1,h2,Bool.or_eq_true,Bool.and_eq_true] at h
   rcases h with h|⟨h,h'⟩
   ·obtain ⟨k1,k2,k3⟩:=free2_spec h
    exact ⟨fun _ ⟨t,ht⟩=>(by cases ht),fun _ _=>.inl k1,k2,k3⟩
   ·exact ⟨fun _ ⟨t,ht⟩=>(by cases ht),fun _ _=>.inr h,(apart_spec h').1,(apart_spec h').2⟩
  | some t =>
   simp only [h1,h2,Bool.and_eq_true,Bool.or_eq_true] at h
   exact ⟨fun _ _=>h.1,fun _ hh=>(by cases hh),(apart_spec h.2).1,(apart_spec h.2).2⟩
 | some t =>
  simp only [h1] at h
  exact ⟨fun hh=>(by cases hh),fun hh=>(by cases hh),(apart_spec h).1,(apart_spec h).2⟩
theorem loose_spec {p i:Oper} (h:loose p i=true):∃ t a t' a' x,p.op=.load t a∧p.guard=none∧isLd p=some a∧i.op=.store t' a' x∧i.guard=none∧isSt i=some a':=by
 obtain ⟨d1,o1,y1,s1,f1,g1⟩:=p
 obtain ⟨d2,o2,y2,s2,f2,g2⟩:=i
 unfold loose isLd isSt at h
 cases o1<;>try (simp at h; done)
 cases g1<;>try (simp at h; done)
 cases o2<;>try (simp at h; done)
 cases g2<;>try (simp at h; done)
 exact ⟨_,_,_,_,_,rfl,rfl,rfl,rfl,rfl,rfl⟩
theorem puts_frame {S S':AS} {a:Addr} {v:Value} (e:S.put? a v=some S'):∀ j,j≠a.block→S'.heap.get j=S.heap.get j:=by
 intro j hj
 unfold AS.put? at e
 split at e
 ·simp at e
 ·rename_i hs
  split at e
  ·split at e
   ·cases e; simp only [T.get_set,if_neg hj]
   ·simp at e
  ·simp at e
theorem ai_storeCells_frame (sz:Nat) (a:Addr):∀ (cs:List Value) (i:Nat) {S S':AS} {u:Unit},ai P sz (storeCells a cs i) S=some (u,S')→∀ j,j≠a.block→S'.heap.get j=S.heap.get j
 | [],i,S,S',u,e,j,hj=>by
  unfold storeCells at e
  have e1:ai P sz (Sem.pure ()) S=some (u,S'):=e
  simp only [ai,Option.some.injEq,Prod.mk.injEq] at e1
  rw [← e1.2]
 | v :: cs,i,S,S',u,e,j,hj=>by
  unfold storeCells at e
  have e1:ai P sz (Sem.bind (store (a.add i) v) fun _=>storeCells a cs (i+1)) S=some (u,S'):=e
  rw [ai_bind] at e1
  unfold store at e1
  simp only [ai] at e1
  cases hv:oneB v with
  | false=>simp [hv] at e1
  | true =>
   simp only [hv] at e1
   cases hp:S.put? (a.add i) v with
   | none=>simp [hp] at e1
   | some S1 =>
    simp only [hp] at e1
    rw [ai_storeCells_frame sz a cs (i+1) e1 j hj,puts_frame hp j (by rw [addr_block]; exact hj)]
theorem ai_storeAt_frame {t:TypeId} {pv v:Value} {S S':AS} {u:Unit} (e:ai P 0 (Instr.storeAt t pv v) S=some (u,S')):∀ j,topId pv≠some j→S'.heap.get j=S.heap.get j:=by
 intro j hj
 unfold Instr.storeAt at e
 have e1:ai P 0 (Sem.bind (Instr.sureAddr pv) fun a=>storeVar t a v) S=some (u,S'):=e
 clear e
 rw [ai_bind] at e1
 unfold Instr.sureAddr at e1
 split at e1
 ·rename_i a S1 h1
  split at h1
  ·rename_i a'
   have h1:ai P 0 (Sem.pure a') S=some (a,S1):=h1
   simp only [ai,Option.some.injEq,Prod.mk.injEq] at h1
   obtain ⟨rfl,rfl⟩:=h1
   have hj':a'.spot=none→j≠a'.block:=by
    intro hs hb
    obtain ⟨bb,off,sp⟩:=a'
    simp only at hs hb
    subst hs; subst hb
    exact hj rfl
   unfold storeVar at e1
   have e2 : ai P 0 (Sem.bind (sizeOf t) fun n => if v.cells.size ≠ n then Sem.bind (stuck "storeVar: the value has not the size of the variable") (fun (_ : Unit) => storeCells a' v.cells.toList) else storeCells a' v.cells.toList) S = some (u, S') := e1
   clear e1
   rw [ai_bind] at e2
   split at e2
   ·rename_i n S2 h2
    have hS2:S2=S:=by
     have ho:OnlyLoads 0 (sizeOf t):=by
      unfold sizeOf
      exact OnlyLoads.bind (only_typeInfo 0 t) (fun i=>.pure _)
     obtain ⟨q1,q2⟩:=ai_loads (P:=P) (sz:=0) (S:=S) (S2:=S) (id:=0) (.inl rfl) ho (.inl h2)
     rw [h2] at q1
     exact (Prod.mk.inj (Option.some.inj q1)).2
    rw [hS2] at e2
    split at e2
    ·rw [ai_bind] at e2
     split at e2
     ·rename_i h3; simp [stuck,ai] at h3
     ·simp at e2
    ·cases hs:a'.spot with
     | none=>exact ai_storeCells_frame 0 a' _ 0 e2 j (hj' hs)
     | some q =>
      generalize v.cells.toList=cs at e2
      cases cs with
      | nil =>
       unfold storeCells at e2
       have e3:ai P 0 (Sem.pure ()) S=some (u,S'):=e2
       simp only [ai,Option.some.injEq,Prod.mk.injEq] at e3
       rw [← e3.2]
      | cons w cs =>
       exfalso
       unfold storeCells at e2
       have e3:ai P 0 (Sem.bind (store (a'.add 0) w) fun _=>storeCells a' cs (0+1)) S=some (u,S'):=e2
       rw [ai_bind] at e3
       have h0:a'.add 0=a':=by simp [Addr.add]
       unfold store at e3
       simp only [ai,h0,AS.put?,hs] at e3
       cases hw:oneB w<;>rw [hw] at e3<;>simp at e3
   ·simp at e2
  ·rename_i h1'
   simp [stuck,ai] at h1
 ·simp at e1
theorem stepA_store {r:Rec} {c:Bool} {ops:Array Oper} {o:Oper} {t:TypeId} {a x:Operand} (ho:o.op=.store t a x) (hg:o.guard=none) {f:Fr} {S S':AS} {v:Value} (e:stepA P E r c ops o f S=some (v,S')) :
  ∀ j,(∀ pv,f.val E.G a=some pv→topId pv≠some j)→S'.heap.get j=S.heap.get j:=by
 obtain ⟨dst,op,ty,pos,after,guard⟩:=o
 simp only at ho hg
 subst ho; subst hg
 intro j hj
 have hga:guardA ops ⟨dst,.store t a x,ty,pos,after,none⟩ f=some true:=rfl
 unfold stepA at e
 simp only [hga] at e
 cases hv:evOp P E r ⟨dst,.store t a x,ty,pos,after,none⟩ f S with
 | none=>simp [hv] at e
 | some y =>
  obtain ⟨v1,S1⟩:=y
  simp only [hv] at e
  split at e
  ·cases e
   unfold evOp at hv
   simp only at hv
   split at hv
   ·rename_i vs hvs
    obtain ⟨pv,hpv⟩:=vals_mem _ hvs a (by simp [Op.operands])
    have key:∀ z,evSimple P ⟨dst,.store t a x,ty,pos,after,none⟩ (fun x=>(f.val E.G x).getD undef) S=some (z,S')→S'.heap.get j=S.heap.get j:=by
     intro z hz
     unfold evSimple at hz
     have hflat:evFlat P ⟨dst,.store t a x,ty,pos,after,none⟩ (fun x=>(f.val E.G x).getD undef)=none:=rfl
     simp only [hflat] at hz
     cases hst:evStruct P ⟨dst,.store t a x,ty,pos,after,none⟩ (fun x=>(f.val E.G x).getD undef) S with
     | none=>simp [hst] at hz
     | some q =>
      simp only [hst,Option.some.injEq] at hz
      subst hz
      simp only [evStruct,Option.map_eq_some_iff] at hst
      obtain ⟨⟨u,S2⟩,h1,h2⟩:=hst
      cases h2
      refine ai_storeAt_frame h1 j ?_
      rw [hpv]
      exact hj pv hpv
    split at hv
    ·rename_i h1; cases hv; exact key _ h1
    ·rename_i h1; cases hv; exact key _ h1
    ·simp at hv
   ·simp at hv
  ·simp at e
theorem evOps2_val {r:Rec} {cs:Nat→Bool} {ops:Array Oper} {base:Nat} {G:Nat} {x:Operand}:∀ (l:List Nat) {f f':Fr} {S S':AS},(∀ q ∈ l,∀ oq d,ops[q]?=some oq→oq.dst=some d→x≠.tmp d)→evOps2 P E r cs ops base l f S=some (f',S')→f'.val G x=f.val G x
 | [],f,f',S,S',_,e=>by
  simp only [evOps2,Option.some.injEq,Prod.mk.injEq] at e
  rw [← e.1]
 | i :: l,f,f',S,S',h,e=>by
  cases ho:ops[i]? with
  | none=>simp only [evOps2,ho] at e; exact evOps2_val l (fun q hq=>h q (by simp [hq])) e
  | some o =>
   rw [evOps2_cons ho] at e
   cases hs:stepA2 P E r cs ops base i o f S with
   | none=>simp [hs] at e
   | some y =>
    obtain ⟨v,S1⟩:=y
    simp only [hs] at e
    rw [evOps2_val l (fun q hq=>h q (by simp [hq])) e]
    exact put_val f v G (fun d hd=>h i (by simp) o d ho hd)
theorem fixedB_spec {ops:Array Oper} {p:Nat} {op:Oper} (h:fixedB ops p op=true) {x:Operand} (hx:x ∈ op.op.operands):∀ q,p≤q→∀ oq d,ops[q]?=some oq→oq.dst=some d→x≠.tmp d:=by
 intro q hq oq d ho hd hxd
 subst hxd
 unfold fixedB at h
 have hlt:q<ops.size:=(Array.getElem?_eq_some_iff.1 ho).1
 have:=List.all_eq_true.1 h q (List.mem_range.2 hlt)
 have hb:Nat.blt q p=false:=by
  cases hb:Nat.blt q p with
  | false=>rfl
  | true=>rw [Nat.blt_eq] at hb; omega
 simp only [hb,ho,hd,Bool.false_or,Bool.not_eq_true',List.contains_eq_mem,decide_eq_false_iff_not] at this
 exact this (by simp only [Oper.looksAt,List.mem_append,List.mem_filterMap]; exact .inl ⟨.tmp d,by simpa using hx,rfl⟩)
theorem apart_val {ops:Array Oper} {i:Oper} {l:List Nat} (h:∀ q ∈ l,∀ oq,ops[q]?=some oq→∀ d,oq.dst=some d→d ∉ namesOf ops i) {x:Operand} (hx:x ∈ i.op.operands):∀ q ∈ l,∀ oq d,ops[q]?=some oq→oq.dst=some d→x≠.tmp d:=by
 intro q hq oq d ho hd hxd
 subst hxd
 exact h q hq oq ho d hd (by simp only [namesOf,Oper.looksAt,List.mem_append,List.mem_filterMap]; exact .inr (.inl ⟨.tmp d,by simpa using hx,rfl⟩))
def Told (G:Nat) (o:Oper) (f:Fr) (S:AS):Prop:=∀ x ∈ o.op.operands,∀ v id,f.val G x=some v→topId v=some id→id<S.next∧S.heap.get id≠some .resv
theorem Stands.told {f:Fr} {S:AS} (h:Stands B w0 E f S) (o:Oper):Told E.G o f S:=by
 obtain ⟨σ,w,a,h,hf⟩:=h
 intro x hx v id hv ht
 have hvr:=val_ok h hf hv
 have hs:∃ L,σ id=some L:=by
  generalize a.eval x=v' at hvr
  cases hvr with
  | p h1=>simp [topId] at ht; subst ht; exact ⟨_,h1⟩
  | sl h1 _ _ _=>simp [topId] at ht; subst ht; exact ⟨_,h1⟩
  | mp h1=>simp [topId] at ht; subst ht; exact ⟨_,h1⟩
  | _=>simp [topId] at ht
 obtain ⟨L,hL⟩:=hs
 refine ⟨(h.dom _ _ hL).1,fun hr=>?_⟩
 have:σ id=none:=h.blk id _ hr
 rw [hL] at this; cases this
theorem move_front2 (hT:TabOk P) (hE:LcE E) {r:Rec} (hr:RecLc r) {cs:Nat→Bool} {ops:Array Oper} (hcs:∀ p op,ops[p]?=some op→cs p=true→agreeKind op.op=true) {base i:Nat} {o:Oper} (ho:ops[i]?=some o) (post:List Nat):∀ (pre:List Nat) {f f':Fr} {S S':AS},
  (∀ p ∈ pre,p<i∧∃ op,ops[p]?=some op∧free3 (cs p) (cs i) ops op o=true)→(∀ t,isAl o=some t→Rs (base+slot ops i) S)→(isAl o=none→cs i=true→Stands B w0 E f S)→(isAl o=none→pureKind o.op=true∨cs i=true∨Told E.G o f S) →
  (pre++i :: post).Pairwise (·<·)→(∀ p ∈ pre,∀ op,ops[p]?=some op→loose op o=true→fixedB ops p op=true∧fixedB ops i o=true∧disV E.G f' (isLd op) (isSt o)=true) →
  evOps2 P E r cs ops base (pre++i :: post) f S=some (f',S') →
  ∃ v S1 f2,stepA2 P E r cs ops base i o f S=some (v,S1)∧evOps2 P E r cs ops base (pre++post) (f.put o.dst v) S1=some (f2,S')∧f'.Eq f2
 | [],f,f',S,S',_,_,_,_,_,_,e=>by
  rw [List.nil_append,evOps2_cons ho] at e
  cases hs:stepA2 P E r cs ops base i o f S with
  | none=>simp [hs] at e
  | some x =>
   obtain ⟨v,S1⟩:=x
   simp only [hs] at e
   exact ⟨v,S1,f',rfl,e,Fr.Eq.refl _⟩
 | p :: pre,f,f',S,S',hp,hrs,hst,hid,hsort,hdis,e=>by
  have hsort':(pre++i :: post).Pairwise (·<·):=(List.pairwise_cons.1 hsort).2
  have hdis':∀ q ∈ pre,∀ op,ops[q]?=some op→loose op o=true→fixedB ops q op=true∧fixedB ops i o=true∧disV E.G f' (isLd op) (isSt o)=true:=fun q hq=>hdis q (List.mem_cons_of_mem _ hq)
  have e00:=e
  obtain ⟨hpi,op,hop,hfree⟩:=hp p (by simp)
  obtain ⟨hka,hkn,hd1,hd2⟩:=free3_spec hfree
  rw [List.cons_append,evOps2_cons hop] at e
  cases hs:stepA2 P E r cs ops base p op f S with
  | none=>simp [hs] at e
  | some x =>
   obtain ⟨u,S2⟩:=x
   simp only [hs] at e
   have hlook:∀ d,d ∈ o.looksAt ops→(f.put op.dst u).t.get d=f.t.get d:=by
    intro d hd
    rw [put_get,if_neg]
    rintro ⟨h1,_⟩
    exact hd2 d h1 (by simp [namesOf,hd])
   have hlook2:∀ (v:Value) d,d ∈ op.looksAt ops→(f.put o.dst v).t.get d=f.t.get d:=by
    intro v d hd
    rw [put_get,if_neg]
    rintro ⟨h1,_⟩
    exact hd1 d h1 (by simp [namesOf,hd])
   have hne:∀ x,op.dst=some x→o.dst≠some x:=by
    intro x hx hy
    exact hd1 x hy (by simp [namesOf,hx])
   have fin:∀ {v:Value} {S3:AS} {f2:Fr},(∃ S1,stepA2 P E r cs ops base i o f S=some (v,S1)∧stepA2 P E r cs ops base p op f S1=some (u,S3))→evOps2 P E r cs ops base (pre++post) ((f.put op.dst u).put o.dst v) S3=some (f2,S')→f'.Eq f2 →
     ∃ v S1 f2,stepA2 P E r cs ops base i o f S=some (v,S1)∧evOps2 P E r cs ops base (p :: pre++post) (f.put o.dst v) S1=some (f2,S')∧f'.Eq f2:=by
    rintro v S3 f2 ⟨S1,q1,q2⟩ k2 k3
    obtain ⟨f3,h3,h4⟩:=evOps2_congr _ (put_comm f u v hne) k2
    refine ⟨v,S1,f3,q1,?_,k3.trans h4⟩
    rw [List.cons_append,evOps2_cons hop,stepA2_congr (hlook2 v),q2]
    exact h3
   cases hi:isAl o with
   | some t =>
    have hn:∀ t',isAl op=some t'→base+slot ops i≠base+slot ops p:=fun t' ht'=>by
     have:=slot_lt ops (isAlAt_of hop ht') hpi
     omega
    obtain ⟨v0,c0,c1,c2⟩:∃ v c,alB P E.G t f (base+slot ops i)=some (v,c)∧goodB c=true:=by
     obtain ⟨v,S3,f2,k1,_,_⟩:=move_front2 hT hE hr hcs ho post pre (f:=f.put op.dst u) (S:=S2) (fun q hq=>hp q (List.mem_cons_of_mem _ hq)) (fun t' ht'=>((stepA2_lc (b:=.gone) hE hr rfl cs ops base p op f hn) S u S2 (hrs t' ht') hs).1)
      (fun hh=>by rw [hi] at hh; cases hh) (fun hh=>by rw [hi] at hh; cases hh) hsort' hdis' e
     obtain ⟨c,q1,q2,_⟩:=stepA2_al hi k1
     exact ⟨v,c,by rw [← alB_congr hi hlook]; exact q1,q2⟩
    obtain ⟨r1,r2⟩:=(stepA2_lc hE hr c2 cs ops base p op f hn) S u S2 (hrs t hi) hs
    obtain ⟨v,S3,f2,k1,k2,k3⟩:=move_front2 hT hE hr hcs ho post pre (f:=f.put op.dst u) (S:=S2) (fun q hq=>hp q (List.mem_cons_of_mem _ hq)) (fun _ _=>r1)
      (fun hh=>by rw [hi] at hh; cases hh) (fun hh=>by rw [hi] at hh; cases hh) hsort' hdis' e
    obtain ⟨c,q1,q2,q3,rfl⟩:=stepA2_al hi k1
    rw [alB_congr hi hlook,c1] at q1; cases q1
    exact fin ⟨_,stepA2_al_mk hi c1 c2 (hrs t hi).1,r2⟩ k2 k3
   | none =>
    have ci:pureKind o.op=true∨readKind o.op=true→cs i=false:=fun hh=>by
     cases hx:cs i with
     | false=>rfl
     | true=>have:=hcs i o ho hx; obtain ⟨n1,n2⟩:=agreeKind_not this; rcases hh with hh|hh<;>simp_all
    have cp:pureKind op.op=true∨readKind op.op=true→cs p=false:=fun hh=>by
     cases hx:cs p with
     | false=>rfl
     | true=>have:=hcs p op hop hx; obtain ⟨n1,n2⟩:=agreeKind_not this; rcases hh with hh|hh<;>simp_all
    have ag:readKind op.op=true∨cs p=true→(cs p=false∧readKind op.op=true)∨cs p=true:=fun hh=>by
     rcases hh with hh|hh
     ·exact .inl ⟨cp (.inr hh),hh⟩
     ·exact .inr hh
    cases hpa:isAl op with
    | some tp =>
     obtain ⟨c,c1,c2,c3,rfl⟩:=stepA2_al hpa hs
     have hk:=hka hi ⟨tp,hpa⟩
     have hcsi:=ci hk
     have hid2:isAl o=none→pureKind o.op=true∨cs i=true∨Told E.G o (f.put op.dst u) (S.fil (base+slot ops p) c):=fun _=>by
      rcases hid hi with h|h|h
      ·exact .inl h
      ·exact .inr (.inl h)
      ·refine .inr (.inr fun x hx v id hv ht=>?_)
       obtain ⟨h1,h2⟩:=h x hx v id (by rw [← val_of_looks hlook hx]; exact hv) ht
       have hne2:id≠base+slot ops p:=by rintro rfl; exact h2 c3
       exact ⟨h1,by rw [fil_get hne2]; exact h2⟩
     obtain ⟨v,S3,f2,k1,k2,k3⟩:=move_front2 hT hE hr hcs ho post pre (fun q hq=>hp q (List.mem_cons_of_mem _ hq)) (fun t' ht'=>by rw [hi] at ht'; cases ht')
      (fun _ hh=>by rw [hcsi] at hh; cases hh) hid2 hsort' hdis' e
     rw [stepA2_congr hlook,stepA2_non hi] at k1
     refine fin (S3:=S3) (v:=v) ?_ k2 k3
     rcases hk with hk|hk
     ·obtain ⟨rfl,h2⟩:=stepA_pure hcsi hk k1
      exact ⟨S,by rw [stepA2_non hi]; exact h2 S,stepA2_al_mk hpa c1 c2 c3⟩
     ·by_cases hpu:pureKind o.op=true
      ·obtain ⟨rfl,h2⟩:=stepA_pure hcsi hpu k1
       exact ⟨S,by rw [stepA2_non hi]; exact h2 S,stepA2_al_mk hpa c1 c2 c3⟩
      ·have htold:Told E.G o f S:=by
        rcases hid hi with h|h|h
        ·exact absurd h hpu
        ·rw [hcsi] at h; cases h
        ·exact h
       obtain ⟨rfl,h2⟩:=stepA_read hcsi hk (S:=S) (fun x hx v id hv ht=>by
        obtain ⟨h1,h2⟩:=htold x hx v id hv ht
        exact .inl (fil_get (by rintro rfl; exact h2 c3))) k1
       exact ⟨S,by rw [stepA2_non hi]; exact h2,stepA2_al_mk hpa c1 c2 c3⟩
    | none =>
     have hk:=hkn hi hpa
     rw [stepA2_non hpa] at hs
     have hid2:isAl o=none→pureKind o.op=true∨cs i=true∨Told E.G o (f.put op.dst u) S2:=fun _=>by
      have tr:Agree0 S S2→Told E.G o f S→Told E.G o (f.put op.dst u) S2:=fun hag h x hx v id hv ht=>by
       obtain ⟨h1,h2⟩:=h x hx v id (by rw [← val_of_looks hlook hx]; exact hv) ht
       exact ⟨Nat.lt_of_lt_of_le h1 hag.1,fun e=>(hag.2 id h1).loops.elim (fun q=>h2 (q ▸ e)) (fun ⟨_,_,q,_⟩=>by rw [q] at e; cases e)⟩
      rcases hid hi with hid|hid|hid
      ·exact .inl hid
      ·exact .inr (.inl hid)
      ·rcases hk with (h|h|⟨hq,h⟩|⟨_,h⟩)|hl
       ·exact .inl h
       ·refine .inr (.inr (tr ?_ hid))
        rw [(stepA_pure (cp (.inl h)) h hs).1]
        exact ⟨Nat.le_refl _,fun _ _=>.inl rfl⟩
       ·exact .inr (.inr (tr (stepA_agree (ag h) hs) hid))
       ·exact .inr (.inl h)
       ·have hq:readKind op.op=true:=by obtain ⟨t,a,t',a',x,l1,_⟩:=loose_spec hl; rw [l1]; rfl
        refine .inr (.inr (tr ?_ hid))
        rw [(stepA_read (cp (.inr hq)) hq (S:=S) (fun _ _ _ _ _ _=>.inl rfl) hs).1]
        exact ⟨Nat.le_refl _,fun _ _=>.inl rfl⟩
     have hst2:isAl o=none→cs i=true→Stands B w0 E (f.put op.dst u) S2:=fun _ hci=>by
      have hpr:pureKind op.op=true∨readKind op.op=true:=by
       obtain ⟨n1,n2⟩:=agreeKind_not (hcs i o ho hci)
       rcases hk with (h|h|⟨hq,h⟩|⟨h,_⟩)|hl
       ·rw [n1] at h; cases h
       ·exact .inl h
       ·rw [n2] at hq; cases hq
       ·exact .inr h
       ·obtain ⟨t,a,t',a',x,l1,_⟩:=loose_spec hl; rw [l1]; exact .inr rfl
      rw [cp hpr] at hs
      exact (hst hi hci).step hT hpr hs
     obtain ⟨v,S3,f2,k1,k2,k3⟩:=move_front2 hT hE hr hcs ho post pre (fun q hq=>hp q (List.mem_cons_of_mem _ hq)) (fun t' ht'=>by rw [hi] at ht'; cases ht') hst2 hid2 hsort' hdis' e
     rw [stepA2_congr hlook,stepA2_non hi] at k1
     refine fin (S3:=S3) (v:=v) ?_ k2 k3
     simp only [stepA2_non hi,stepA2_non hpa]
     rcases hk with (h|h|⟨hq,h⟩|⟨hq,h⟩)|hl
     rotate_right
     ·-- a load beside a store: they lead to two blocks
      obtain ⟨t,a,t',a',x,l1,l2,l3,l4,l5,l6⟩:=loose_spec hl
      obtain ⟨z1,z2,z3⟩:=hdis p (by simp) op hop hl
      have hq:readKind op.op=true:=by rw [l1]; rfl
      obtain ⟨rfl,_⟩:=stepA_read (cp (.inr hq)) hq (S:=S) (fun _ _ _ _ _ _=>.inl rfl) hs
      have ha:a ∈ op.op.operands:=by rw [l1]; simp [Op.operands]
      have ha':a' ∈ o.op.operands:=by rw [l4]; simp [Op.operands]
      have v1:f'.val E.G a=f.val E.G a:=evOps2_val _ (fun q hq oq d ho' hd'=>fixedB_spec z1 ha q (by
       rcases List.mem_cons.1 hq with h|h
       ·omega
       ·have:=(List.pairwise_cons.1 hsort).1 q h; omega) oq d ho' hd') e00
      have v2:f'.val E.G a'=f.val E.G a':=evOps2_val _ (fun q hq oq d ho' hd'=>by
       rcases List.mem_append.1 hq with h|h
       ·obtain ⟨_,op',hop',hfr'⟩:=hp q h
        rw [ho'] at hop'; cases hop'
        exact apart_val (ops:=ops) (i:=o) (l:=[q]) (fun q' hq' oq' ho'' d' hd''=>by
         rw [List.mem_singleton] at hq'; subst hq'
         rw [ho'] at ho''; cases ho''
         exact (free3_spec hfr').2.2.2 d' hd'') ha' q (by simp) oq d ho' hd'
       ·refine fixedB_spec z2 ha' q ?_ oq d ho' hd'
        rcases List.mem_cons.1 h with h|h
        ·omega
        ·have:=(List.pairwise_cons.1 (List.pairwise_append.1 hsort).2.1).1 q h; omega) e00
      refine ⟨S3,k1,(stepA_read (cp (.inr hq)) hq (fun y hy w id hv ht=>?_) hs).2⟩
      have hya:y=a:=by rw [l1] at hy; simpa [Op.operands] using hy
      subst hya
      refine .inl (stepA_store l4 l5 k1 id (fun pv hpv htp=>?_)).symm
      unfold disV at z3
      simp only [l3,l6,v1,v2,hv,hpv,ht,htp] at z3
      have hbe:Nat.beq id id=true:=Nat.beq_refl id
      rw [hbe] at z3
      cases z3
     ·obtain ⟨rfl,h2⟩:=stepA_pure (ci (.inl h)) h k1
      exact ⟨S,h2 S,hs⟩
     ·obtain ⟨rfl,h2⟩:=stepA_pure (cp (.inl h)) h hs
      exact ⟨S3,k1,h2 S3⟩
     rotate_left
     ·obtain ⟨rfl,_⟩:=stepA_read (cp (.inr hq)) hq (S:=S) (fun _ _ _ _ _ _=>.inl rfl) hs
      have hag:=stepA_checked h k1
      exact ⟨S3,k1,(stepA_read (cp (.inr hq)) hq (fun x _ v id hv ht=>(hag.2 id ((hst hi h).ids hv ht)).symm) hs).2⟩
     ·by_cases hp:pureKind o.op=true
      ·obtain ⟨rfl,h2⟩:=stepA_pure (ci (.inl hp)) hp k1
       exact ⟨S,h2 S,hs⟩
      ·have htold:Told E.G o f S:=by
        rcases hid hi with hid|hid|hid
        ·exact absurd hid hp
        ·rw [ci (.inr hq)] at hid; cases hid
        ·exact hid
       obtain ⟨rfl,h2⟩:=stepA_read (ci (.inr hq)) hq (S:=S) (fun x hx v id hv ht=>(stepA_agree (ag h) hs).2 id (htold x hx v id hv ht).1) k1
       exact ⟨S,h2,hs⟩
theorem run_alloc {t:TypeId} {z:Value} (hz:zeroOf P t=some z) {ρ:Operand→Value} {dst:Option Tmp} {ty:TypeId} {pos:String} {after:Array Edge} {g:Option (Nat × Bool)} (w:World) :
  (execOp ρ ⟨dst,.alloc t,ty,pos,after,g⟩).run P w=.ok (.value (.pointer (some ⟨w.heap.size,0,none⟩))) { w with heap:=w.heap.push (.cells z.cells t) }:=by
 simp [execOp,Instr.alloc,newVar,newRow,newObj,Sem.run_bind,run_zeroOf hz,Result.andThen,Sem.run,pure]
theorem HR.fillZ (hZ:ZeroOk P) {S:AS} {w:World} {G:Nat} (h:HR B w0 G σ S w) {n:Nat} (hr:Rs n S) {t:TypeId} {z:Value} (hz:zeroOf P t=some z) :
  HR B w0 G (σ.more n ⟨w.heap.size,0,z.cells.size,0⟩) (S.fil n (.cells z.cells.toList t 0 true true)) { w with heap:=w.heap.push (.cells z.cells t) }:=by
 have hc:AR σ z.cells z.cells:=(zeroOf_self (σ:=σ) hZ hz).cells
 have hn:σ n=none:=h.blk n _ hr.1
 refine h.fill hr.1 hr.2 rfl ⟨_,z.cells,t,(0,0),Sig.more_self _ _ _,by simp,rfl,rfl,fun _=>⟨rfl,h.hB,rfl⟩,fun _=>⟨rfl,rfl,by simp⟩,fun j v e=>?_⟩
 rw [Array.getElem?_toList] at e
 obtain ⟨v',e',r⟩:=hc.get e
 exact ⟨v',by simpa using e',r.mono (Sig.more_le hn)⟩
theorem pVals_rel {S:AS} {w:World} (h:HR B w0 E.G σ S w) {f:Fr} {a:Act} (hf:FR σ f a):∀ (l:List (Nat × Operand)) {vs:List (Nat × Value)},pVals f E.G l=some vs→vs=l.map (fun x=>(x.1,(f.val E.G x.2).getD undef))∧∀ x ∈ l,VR σ ((f.val E.G x.2).getD undef) (a.eval x.2)
 | [],vs,e=>by simp only [pVals,Option.some.injEq] at e; subst e; exact ⟨rfl,fun x hx=>by simp at hx⟩
 | (i,x) :: l,vs,e=>by
  simp only [pVals] at e
  split at e
  ·rename_i v vs' hv hvs
   simp only [Option.some.injEq] at e
   subst e
   obtain ⟨h1,h2⟩:=pVals_rel h hf l hvs
   refine ⟨by rw [List.map_cons,← h1]; simp [hv],fun y hy=>?_⟩
   rcases List.mem_cons.1 hy with rfl|hy
   ·simp only [hv,Option.getD_some]; exact val_ok h hf hv
   ·exact h2 y hy
  ·simp at e
theorem run_slB (hT:TabOk P) {S:AS} {w:World} (h:HR B w0 E.G σ S w) {id:Nat} (hr:Rs id S) {f:Fr} {a:Act} (hf:FR σ f a) {dst:Option Tmp} {t:TypeId} {len:Nat} {parts:Array (Nat × Operand)} {ty:TypeId} {pos:String} {after:Array Edge} {g:Option (Nat × Bool)}
  {l:List (Nat × Value)} (hl:pVals f E.G parts.toList=some l) {v:Value} {c:ABlk} (e:slB P t len l id=some (v,c)) :
  ∃ v' L o',(execOp (fun x=>a.eval x) ⟨dst,.buildSlice t len parts,ty,pos,after,g⟩).run P w=.ok (.value v') { w with heap:=w.heap.push o' }∧VR (σ.more id L) v v'∧HR B w0 E.G (σ.more id L) (S.fil id c) { w with heap:=w.heap.push o' }:=by
 obtain ⟨rfl,hx⟩:=pVals_rel h hf _ hl
 unfold slB at e
 split at e
 case h_2=>simp at e
 rename_i v1 S1 e1
 obtain ⟨c1,e2,e3⟩:=Option.map_eq_some_iff.1 e
 cases e3
 unfold aBuildSlice at e1
 split at e1
 case h_2=>simp at e1
 rename_i el hu
 split at e1
 case h_2=>simp at e1
 rename_i s z hs hzz
 split at e1
 case h_2=>simp at e1
 rename_i hle
 split at e1
 case h_2=>simp at e1
 rename_i cc hfl
 split at e1
 case h_2=>simp at e1
 rename_i hsize
 have hsz:=Nat.eq_of_beq_eq_true hsize
 have hle':=Nat.le_of_ble_eq_true hle
 simp only [Option.some.injEq,Prod.mk.injEq] at e1
 obtain ⟨rfl,rfl⟩:=e1
 simp only [AS.push,T.get_set,if_true,Option.some.injEq] at e2
 subst e2
 obtain ⟨c',e',hc⟩:=fill_rel (ρa:=fun x=>(f.val E.G x).getD undef) (ρc:=fun x=>a.eval x) _ hx (zerosOf_rel (σ:=σ) (zeroOf_self hT.zero hzz).cells (len * (s+1))) cc hfl
 have hn:σ id=none:=h.blk id _ hr.1
 refine ⟨.slice (some ⟨w.heap.size,0,none⟩) len len,⟨w.heap.size,0,c'.size,s+1⟩,.cells c' el,?_,?_,?_⟩
 ·have hnot:¬ (len * (s+1) > 2 ^ 24):=by omega
  have hrun:(Instr.buildSlice t len (parts.map fun (i,x)=>(i,a.eval x))).run P w=.ok (.slice (some ⟨w.heap.size,0,none⟩) len len) { w with heap:=w.heap.push (.cells c' el) }:=by
   unfold zerosOf at e'
   simp only [Instr.buildSlice,Sem.run_bind,run_und hu,run_sz hs,Result.andThen_ok,hnot,if_false]
   by_cases h0:len * (s+1)=0
   ·have hl:len=0:=by
     rcases Nat.mul_eq_zero.1 h0 with h|h
     ·exact h
     ·omega
    subst hl
    have r0:Array.range 0=#[]:=rfl
    simp only [Nat.zero_mul,r0,Array.map_empty] at e'
    simp [newRow,newObj,pure,Sem.run,Array.toList_map,r0,e']
   ·simp [h0,run_zeroOf hzz,newRow,newObj,pure,Sem.run,Array.toList_map,e']
  simp [execOp,Sem.run_bind,hrun,Result.andThen]
  try rfl
 ·exact VR.sl (σ:=σ.more id ⟨w.heap.size,0,c'.size,s+1⟩) (id:=id) (off:=0) (L:=⟨w.heap.size,0,c'.size,s+1⟩) (Sig.more_self _ _ _) (Nat.le_refl _) (Nat.le_refl _) (by intro _; simp only [← hc.1,hsz]; omega)
 ·refine h.fill hr.1 hr.2 rfl ⟨_,c',el,(0,0),Sig.more_self _ _ _,by simp,rfl,rfl,fun _=>⟨rfl,h.hB,rfl⟩,fun _=>⟨rfl,rfl,by simp [hc.1]⟩,fun j v e=>?_⟩
  rw [Array.getElem?_toList] at e
  obtain ⟨v',e',r⟩:=hc.get e
  exact ⟨v',by simpa using e',r.mono (Sig.more_le hn)⟩
theorem drawOk2_edge {cs:Nat→Bool} {ops:Array Oper} (h:drawOk2 cs ops=true) {i:Nat} {o:Oper} (ho:ops[i]?=some o) {e:Edge} (he:e ∈ o.after) (hb:Region.binds .any e=true):e.on<i:=by
 unfold drawOk2 at h
 have hi:i<ops.size:=(Array.getElem?_eq_some_iff.1 ho).1
 have:=List.all_eq_true.1 h i (List.mem_range.2 hi)
 simp only [Bool.and_eq_true,ho,Option.map_some,Option.getD_some] at this
 have:=List.all_eq_true.1 this.1 e (by simpa using he)
 simp only [hb,Bool.not_true,Bool.false_or] at this
 simpa [Nat.blt_eq] using this
theorem drawOk2_free {cs:Nat→Bool} {ops:Array Oper} (h:drawOk2 cs ops=true) {i p:Nat} {o:Oper} (ho:ops[i]?=some o) (hp:p<i) (hb:((Region.before ops).getD i 0).testBit p=false):∃ op,ops[p]?=some op∧free3 (cs p) (cs i) ops op o=true∧(loose op o=true→fixedB ops p op=true∧fixedB ops i o=true):=by
 unfold drawOk2 at h
 have hi:i<ops.size:=(Array.getElem?_eq_some_iff.1 ho).1
 have:=List.all_eq_true.1 h i (List.mem_range.2 hi)
 simp only [Bool.and_eq_true] at this
 have:=List.all_eq_true.1 this.2 p (List.mem_range.2 hp)
 split at this
 ·rename_i hb'; rw [hb] at hb'; cases hb'
 ·split at this
  ·rename_i op oi k1 k2
   rw [ho] at k2; cases k2
   simp only [Bool.and_eq_true,Bool.or_eq_true,Bool.not_eq_true'] at this
   refine ⟨op,k1,this.1,fun hl=>?_⟩
   rcases this.2 with h1|h1
   ·rw [hl] at h1; cases h1
   ·exact h1
  ·simp at this
theorem disB_spec {G:Nat} {ops:Array Oper} {f:Fr} (h:disB G ops f=true) {i p:Nat} {op o:Oper} (hop:ops[p]?=some op) (ho:ops[i]?=some o) (hp:p<i) (hb:((Region.before ops).getD i 0).testBit p=false) (hl:loose op o=true):disV G f (isLd op) (isSt o)=true:=by
 unfold disB at h
 have hi:i<ops.size:=(Array.getElem?_eq_some_iff.1 ho).1
 have:=List.all_eq_true.1 h i (List.mem_range.2 hi)
 have:=List.all_eq_true.1 this p (List.mem_range.2 hp)
 simp only [hop,ho,hl,hb,Bool.false_or] at this
 exact this
theorem disV_congr {G:Nat} {f g:Fr} (h:f.Eq g) (x y:Option Operand):disV G f x y=disV G g x y:=by
 unfold disV
 cases x with
 | none=>rfl
 | some x=>cases y with
  | none=>rfl
  | some y=>simp only [h.val G x,h.val G y]
theorem any_ok2 (hT:TabOk P) (hE:LcE E) {r:Rec} (hr:RecOk B w0 P E r) {cs:Nat→Bool} {ops:Array Oper} (hcs:∀ p op,ops[p]?=some op→cs p=true→agreeKind op.op=true) (hd:drawOk2 cs ops=true) {base:Nat} {roc:Option Nat} {Q:Exit→Act→World→Prop} :
  ∀ (fuel:Nat) {listed:Array Bool} {σ:Sig} {f f' f2:Fr} {a:Act} {S S':AS} {w:World},listed.size=ops.size→Closed ops listed→fuel=(remL ops listed).length→(∀ i ∈ remL ops listed,∀ o (t:AlK),ops[i]?=some o→isAl o=some t→Rs (base+slot ops i) S)→HR B w0 E.G σ S w→FR σ f a →
  evOps2 P E r cs ops base (remL ops listed) f S=some (f2,S')→f2.Eq f'→disB E.G ops f'=true→(∀ σ' a' w',σ.le σ'→FR σ' f' a'→a'.defers=a.defers→HR B w0 E.G σ' S' w'→Q .normal a' w')→wpAnyIn (WF roc) 0 P .any ops Q fuel listed a w
 | 0,listed,σ,f,f',f2,a,S,S',w,hs,hc,hl,hres,h,hf,e,heq,hdB,hQ=>by
  have hnil:remL ops listed=[]:=List.length_eq_zero_iff.1 hl.symm
  rw [hnil] at e
  simp only [evOps2,Option.some.injEq,Prod.mk.injEq] at e
  obtain ⟨rfl,rfl⟩:=e
  refine ⟨?_,hQ σ a w (Sig.le_refl _) (FR.congr heq hf) rfl h⟩
  rw [List.eq_nil_iff_forall_not_mem]
  intro i hi
  obtain ⟨h0,o,ho,_⟩:=mem_ready.1 hi
  have:i ∈ remL ops listed:=mem_remL.2 ⟨(Array.getElem?_eq_some_iff.1 ho).1,h0⟩
  rw [hnil] at this
  simp at this
 | fuel+1,listed,σ,f,f',f2,a,S,S',w,hs,hc,hl,hres,h,hf,e,heq,hdB,hQ=>by
  refine ⟨fun hready=>?_,fun i hi=>?_⟩
  ·exfalso
   cases hL:remL ops listed with
   | nil=>rw [hL] at hl; simp at hl
   | cons i tl =>
    have hi:=mem_remL.1 (by rw [hL]; simp:i ∈ remL ops listed)
    have hsort:=remL_sorted ops listed
    rw [hL,List.pairwise_cons] at hsort
    have:i ∈ Region.ready .any ops listed:=by
     refine mem_ready.2 ⟨hi.2,ops[i]'hi.1,by simp [hi.1],fun e he hb=>?_⟩
     have hlt:=drawOk2_edge hd (i:=i) (o:=ops[i]'hi.1) (by simp [hi.1]) he hb
     have hlt':e.on<ops.size:=Nat.lt_trans hlt hi.1
     cases hx:listed.getD e.on true with
     | false =>
      have:e.on ∈ remL ops listed:=mem_remL.2 ⟨hlt',hx⟩
      rw [hL] at this
      rcases List.mem_cons.1 this with h1|h1
      ·omega
      ·have:=hsort.1 _ h1; omega
     | true=>rw [getD_any (by omega) false true]; exact hx
    rw [hready] at this
    simp at this
  ·obtain ⟨h0,o,ho,hedges⟩:=mem_ready.1 hi
   have hlt:i<ops.size:=(Array.getElem?_eq_some_iff.1 ho).1
   have hmem:i ∈ remL ops listed:=mem_remL.2 ⟨hlt,h0⟩
   obtain ⟨pre,post,hsplit⟩:=List.append_of_mem hmem
   have hsort:=remL_sorted ops listed
   rw [hsplit,List.pairwise_append] at hsort
   have hunb:∀ p ∈ pre,((Region.before ops).getD i 0).testBit p=false:=by
    intro p hp
    cases hb:((Region.before ops).getD i 0).testBit p with
    | false=>rfl
    | true =>
     obtain ⟨o',k1,k2⟩:=before_held ops i p hb
     rw [ho] at k1; cases k1
     have k3:=k2 listed hc hedges
     have hpi:p<i:=hsort.2.2 p hp i (by simp)
     have:=(mem_remL.1 (by rw [hsplit]; simp [hp]:p ∈ remL ops listed)).2
     rw [getD_any (by omega) true false,k3] at this
     cases this
   have hpre:∀ p ∈ pre,p<i∧∃ op,ops[p]?=some op∧free3 (cs p) (cs i) ops op o=true:=by
    intro p hp
    have hpi:p<i:=hsort.2.2 p hp i (by simp)
    obtain ⟨op,k1,k2,_⟩:=drawOk2_free hd ho hpi (hunb p hp)
    exact ⟨hpi,op,k1,k2⟩
   have hdis:∀ p ∈ pre,∀ op,ops[p]?=some op→loose op o=true→fixedB ops p op=true∧fixedB ops i o=true∧disV E.G f2 (isLd op) (isSt o)=true:=by
    intro p hp op hop hl
    have hpi:p<i:=hsort.2.2 p hp i (by simp)
    obtain ⟨op',k1,_,k3⟩:=drawOk2_free hd ho hpi (hunb p hp)
    rw [hop] at k1; cases k1
    exact ⟨(k3 hl).1,(k3 hl).2,by rw [disV_congr heq]; exact disB_spec hdB hop ho hpi (hunb p hp) hl⟩
   have hstands:Stands B w0 E f S:=⟨σ,w,a,h,hf⟩
   have hresi:=hres i hmem
   rw [hsplit] at e
   obtain ⟨v,S1,f3,q1,q2,q3⟩:=move_front2 (B:=B) (w0:=w0) hT hE hr.loc hcs ho post pre hpre (fun t ht=>hresi o t ho ht) (fun _ _=>hstands) (fun _=>.inr (.inr (hstands.told o))) (by rw [← hsplit]; exact remL_sorted ops listed) hdis e
   have hs':(listed.setIfInBounds i true).size=ops.size:=by rw [Array.size_setIfInBounds]; exact hs
   have hset:=remL_set hs hsplit
   have mono:∀ j,listed.getD j false=true→(listed.setIfInBounds i true).getD j false=true:=by
    intro j hj
    by_cases hji:i=j
    ·subst hji; simp [Array.getD_eq_getD_getElem?,hs,hlt]
    ·rw [getD_set_ne false hji]; exact hj
   have hc':Closed ops (listed.setIfInBounds i true):=by
    intro j oj hj hoj e he hb
    by_cases hji:i=j
    ·subst hji
     rw [ho] at hoj; cases hoj
     exact mono _ (hedges e he hb)
    ·rw [getD_set_ne false hji] at hj
     exact mono _ (hc j oj hj hoj e he hb)
   have hlen:fuel=(remL ops (listed.setIfInBounds i true)).length:=by
    rw [hset]
    rw [hsplit] at hl
    simp at hl ⊢
    omega
   have hres':∀ j ∈ remL ops (listed.setIfInBounds i true),∀ oj t,ops[j]?=some oj→isAl oj=some t→Rs (base+slot ops j) S1:=by
    intro j hj oj t hoj ht
    rw [hset] at hj
    have hj2:j ∈ remL ops listed:=by rw [hsplit]; rcases List.mem_append.1 hj with h1|h1<;>simp [h1]
    have hji:j≠i:=by
     rcases List.mem_append.1 hj with h1|h1
     ·have:=hsort.2.2 j h1 i (by simp); omega
     ·have:=(List.pairwise_cons.1 hsort.2.1).1 j h1; omega
    refine ((stepA2_lc (b:=.gone) hE hr.loc rfl cs ops base i o f (fun t' ht'=>?_)) S v S1 (hres j hj2 oj t hoj ht) q1).1
    have a1:=isAlAt_of hoj ht
    have a2:=isAlAt_of ho ht'
    rcases Nat.lt_or_gt_of_ne hji with hh|hh
    ·have:=slot_lt ops a1 hh; omega
    ·have:=slot_lt ops a2 hh; omega
   unfold wpOpIn
   simp only [ho]
   cases hal:isAl o with
   | some t =>
    obtain ⟨c,c1,c2,c3,rfl⟩:=stepA2_al hal q1
    obtain ⟨hop,hgd⟩:=isAl_spec hal
    have hw:Region.wanted o (yielded ops a.tmps)=true:=guard_ok hf (show guardA ops o f=some true by unfold guardA; simp only [hgd])
    rw [hw]
    simp only [if_true]
    have hrs:=hresi o t ho hal
    have hgo:∃ v' L o',(execOp (fun x=>a.eval x) o).run P w=.ok (.value v') { w with heap:=w.heap.push o' }∧VR (σ.more (base+slot ops i) L) v v'∧HR B w0 E.G (σ.more (base+slot ops i) L) (S.fil (base+slot ops i) c) { w with heap:=w.heap.push o' }:=by
     cases t with
     | var t =>
      simp only [alB,allocB] at c1
      obtain ⟨bb,c1,c1'⟩:=Option.map_eq_some_iff.1 c1
      obtain ⟨z,hz,rfl⟩:=Option.map_eq_some_iff.1 c1
      cases c1'
      obtain ⟨dst,op,ty,pos,after,guard⟩:=o
      simp only at hop
      subst hop
      exact ⟨_,⟨w.heap.size,0,z.cells.size,0⟩,_,run_alloc hz w,.p (L:=⟨w.heap.size,0,z.cells.size,0⟩) (Sig.more_self _ _ _),h.fillZ hT.zero hrs hz⟩
     | sl y n l =>
      obtain ⟨parts,hop,rfl⟩:=hop
      obtain ⟨dst,op,ty,pos,after,guard⟩:=o
      simp only at hop
      subst hop
      simp only [alB] at c1
      split at c1
      ·rename_i l hl
       exact run_slB hT h hrs hf hl c1
      ·simp at c1
    obtain ⟨v',L,o',hrun,hvr,hfil⟩:=hgo
    have hle:σ.le (σ.more (base+slot ops i) L):=Sig.more_le (h.blk _ _ hrs.1)
    have hput:(a.put o.dst v').defers=a.defers:=by cases o.dst<;>rfl
    have hnd:∀ q,¬ o.op=.defer q:=by
     intro q hq
     cases t with
     | var e=>rw [show o.op=.alloc e from hop] at hq; cases hq
     | sl y n l=>obtain ⟨parts,hop,_⟩:=hop; rw [hop] at hq; cases hq
    refine wpIn_of_run hnd (n:=.value v') hrun ?_
    exact any_ok2 hT hE hr hcs hd fuel hs' hc' hlen hres' hfil (put_ok (hf.mono hle) o.dst hvr) (by rw [hset]; exact q2) (q3.symm.trans heq) hdB
      (fun σ2 a2 w2 p1 p2 p3 p4=>hQ σ2 a2 w2 (Sig.le_trans hle p1) p2 (p3.trans hput) p4)
   | none =>
    rw [stepA2_non hal] at q1
    have q1:(match guardA ops o f with
     | some true=>evOp P E r o f S
     | some false=>some (undef,S)
     | none=>none)=some (v,S1):=by
     unfold stepA at q1
     cases hg:guardA ops o f with
     | none=>simp [hg] at q1
     | some b =>
      cases b
      ·simpa [hg] using q1
      ·simp only [hg] at q1 ⊢
       split at q1
       ·split at q1
        ·rename_i he _ _; rw [he]; exact q1
        ·simp at q1
       ·simp at q1
    cases hg:guardA ops o f with
    | none=>simp [hg] at q1
    | some b =>
     rw [guard_ok hf hg]
     cases b with
     | true =>
      simp only [hg] at q1
      simp only [if_true]
      refine evOp_ok hT hr h hf q1 (fun σ' v' w' k1 k2 k3=>?_)
      have hput:(a.put o.dst v').defers=a.defers:=by cases o.dst<;>rfl
      exact any_ok2 hT hE hr hcs hd fuel hs' hc' hlen hres' k3 (put_ok (hf.mono k1) o.dst k2) (by rw [hset]; exact q2) (q3.symm.trans heq) hdB
       (fun σ2 a2 w2 p1 p2 p3 p4=>hQ σ2 a2 w2 (Sig.le_trans k1 p1) p2 (p3.trans hput) p4)
     | false =>
      simp only [hg,Option.some.injEq,Prod.mk.injEq] at q1
      obtain ⟨rfl,rfl⟩:=q1
      simp only [Bool.false_eq_true,if_false]
      have hput:(a.put o.dst undef).defers=a.defers:=by cases o.dst<;>rfl
      exact ⟨fun f _=>WF_fn _ f,any_ok2 hT hE hr hcs hd fuel hs' hc' hlen hres' h (put_ok hf o.dst (undef_ok _)) (by rw [hset]; exact q2) (q3.symm.trans heq) hdB
       (fun σ2 a2 w2 p1 p2 p3 p4=>hQ σ2 a2 w2 p1 p2 (p3.trans hput) p4)⟩
theorem HR.pushR {G:Nat} {w:World}:∀ (k:Nat) {S:AS},HR B w0 G σ S w→HR B w0 G σ (pushR k S) w
 | 0,S,h=>h
 | k+1,S,h=>HR.pushR k h.keep
theorem draw_ok2 (hT:TabOk P) (hE:LcE E) (hm:P.follows .mixedOrders=true) {r:Rec} (hr:RecOk B w0 P E r) {ops:Array Oper} (hd:drawOk2 (needy ops) ops=true) {roc:Option Nat} {Q:Exit→Act→World→Prop}
  {σ:Sig} {f f':Fr} {a:Act} {S S':AS} {w:World} {id:Nat} (h:HR B w0 E.G σ S { w with drawn:=w.drawn+1 }) (hf:FR σ f a) (e:evReg2 P E r ops f S=some (f',S'))
  (hQ:∀ σ' a' w',σ.le σ'→FR σ' f' a'→a'.defers=a.defers→HR B w0 E.G σ' S' w'→Q .normal a' w'):(Code.region id ops true).wpIn (WF roc) 0 P Q a w:=by
 refine wpIn_region_any hm ?_
 unfold evReg2 at e
 split at e
 case h_2=>simp at e
 rename_i f1 S1 e1
 split at e
 case h_2=>simp at e
 rename_i hdB
 simp only [Option.some.injEq,Prod.mk.injEq] at e
 obtain ⟨rfl,rfl⟩:=e
 have e:=e1
 have hcs:∀ p op,ops[p]?=some op→needy ops p=true→agreeKind op.op=true:=by
  intro p op hop hn
  unfold needy at hn
  simp only [hop] at hn
  split at hn
  ·assumption
  ·simp at hn
 have hall:remL ops (Array.replicate ops.size false)=List.range ops.size:=by
  unfold remL
  refine List.filter_eq_self.2 fun i hi=>?_
  have:=List.mem_range.1 hi
  simp [Array.getD,this]
 refine any_ok2 hT hE hr hcs hd ops.size (by simp) (fun j o hj=>by
  simp only [Array.getD_eq_getD_getElem?,Array.getElem?_replicate] at hj
  split at hj<;>simp at hj) (by rw [hall]; simp) (fun i hi o t ho ht=>?_) (HR.pushR _ h) hf (by rw [hall]; exact e) (Fr.Eq.refl _) hdB hQ
 have hi:i<ops.size:=(Array.getElem?_eq_some_iff.1 ho).1
 have:=slot_lt ops (isAlAt_of ho ht) hi
 refine ⟨?_,by rw [pushR_next]; omega⟩
 rw [pushR_get,if_pos ⟨by omega,by omega⟩]
end
end Go.Aev
end
section
set_option linter.unusedSimpArgs false
set_option linter.unusedVariables false
namespace Go.Aev
open Go Go.RowKit
section
variable {B:Nat} {w0:World} {P:Program} {E:Env} {σ:Sig}
theorem HR.setObj {G:Nat} {S:AS} {w:World} (h:HR B w0 G σ S w) {id:Nat} {b b':ABlk} {L:Loc} {o:Obj} (hg:S.heap.get id=some b) (hl:b.live=true) (hmu:b.mut=true) (hL:σ id=some L) (hB:B≤L.blk)
  (hnew:BR B σ { w with heap:=w.heap.setIfInBounds L.blk o } id b') :
  HR B w0 G σ { S with heap:=S.heap.set id (some b') } { w with heap:=w.heap.setIfInBounds L.blk o }:=by
 have same:∀ k,k≠L.blk→(w.heap.setIfInBounds L.blk o)[k]?=w.heap[k]?:=fun k hk=>by rw [Array.getElem?_setIfInBounds,if_neg (Ne.symm hk)]
 refine ⟨h.below.trans ⟨rfl,rfl,rfl,by simp,fun k hk=>same k (by omega)⟩,by simpa using h.hB,fun i M hM=>by simpa using h.dom i M hM,?_,?_,h.glob⟩
 ·intro i c hc
  simp only [T.get_set] at hc
  by_cases hi:i=id
  ·rw [if_pos hi] at hc; cases hc; rw [hi]; exact hnew
  ·rw [if_neg hi] at hc
   exact (h.blk i c hc).of_same (w':={ w with heap:=w.heap.setIfInBounds L.blk o }) (fun hcl M hM=>same _ fun eM=>hi (h.inj i id c b M L hc hcl hg hl hM hL eM (by simp [hmu])))
 ·intro i i' c c' M M' hc hcl hc' hcl' hM hM' e hm
  simp only [T.get_set] at hc hc'
  by_cases hi:i=id
  ·by_cases hi':i'=id
   ·rw [hi,hi']
   ·rw [if_neg hi'] at hc'
    subst hi
    exact h.inj _ _ _ _ M M' hg hl hc' hcl' hM hM' e (by simp [hmu])
  ·rw [if_neg hi] at hc
   by_cases hi':i'=id
   ·subst hi'
    exact h.inj _ _ _ _ M M' hc hcl hg hl hM hM' e (by simp [hmu])
   ·rw [if_neg hi'] at hc'
    exact h.inj _ _ _ _ M M' hc hcl hc' hcl' hM hM' e hm
theorem HR.loopOf {G : Nat} {S : AS} {w : World} (h : HR B w0 G σ S w) {l : Nat} {A : ALoop} (hg : S.heap.get l = some (.loop A)) : ∃ L l',σ l = some L ∧ B ≤ L.blk ∧ w.heap[L.blk]? = some (.loop l') ∧ l'.state = A.state ∧ l'.pending = A.pending ∧ l'.params = A.params ∧
      l'.assign = A.assign ∧ l'.body = A.body ∧ TR σ A.t A.m l'.tmps := h.blk _ _ hg
theorem HR.setLoop {G:Nat} {S:AS} {w:World} (h:HR B w0 G σ S w) {l:Nat} {A:ALoop} (hg:S.heap.get l=some (.loop A)) {L:Loc} (hL:σ l=some L) {l':Loop} (hw:w.heap[L.blk]?=some (.loop l')) (st:LoopState) (pe:Option Code) :
  HR B w0 G σ { S with heap:=S.heap.set l (some (.loop { A with state:=st,pending:=pe })) } { w with heap:=w.heap.setIfInBounds L.blk (.loop { l' with state:=st,pending:=pe }) }:=by
 obtain ⟨L2,l2,k1,k2,k3,k4,k5,k6,k7,k8,k9⟩:=h.loopOf hg
 rw [hL] at k1; cases k1
 rw [hw] at k3; cases k3
 have hlt:L.blk<w.heap.size:=(h.dom _ _ hL).2
 exact h.setObj hg rfl rfl hL k2 ⟨L,{ l' with state:=st,pending:=pe },hL,k2,by simp [hlt],rfl,rfl,k6,k7,k8,k9⟩
theorem run_getLoop {w:World} {r:Nat} {l:Loop} (h:w.heap[r]?=some (.loop l)):(Instr.getLoop r).run P w=.ok l w:=by
 simp [Instr.getLoop,getObj,Sem.run,h]
theorem run_endLoop {w:World} {r:Nat} {l:Loop} (h:w.heap[r]?=some (.loop l)) (hs:l.state≠.busy) :
  (Instr.endLoop r).run P w=.ok l.pending { w with heap:=w.heap.setIfInBounds r (.loop { l with state:=.exhausted }) }:=by
 have hb:(l.state == LoopState.busy)=false:=by cases hl:l.state<;>first|rfl|exact absurd hl hs
 simp [Instr.endLoop,Sem.run_bind,run_getLoop h,Result.andThen,hb,Go.setObj,Sem.run,h]
 exact fun hh=>absurd hh hs
theorem run_endRound {w:World} {r:Nat} {l:Loop} (h:w.heap[r]?=some (.loop l)) (j:Option Code) :
  (Instr.endRound r j).run P w=.ok (.bool j.isNone) { w with heap:=w.heap.setIfInBounds r (.loop { l with state:=if j.isNone then .ready else .done,pending:=j }) }:=by
 simp [Instr.endRound,Sem.run_bind,run_getLoop h,Result.andThen,Go.setObj,Sem.run,h]
theorem run_beginRound {w:World} {r:Nat} {l:Loop} (h:w.heap[r]?=some (.loop l)) (hs:l.state=.ready) :
  (Instr.beginRound r).run P w=.ok () { w with heap:=w.heap.setIfInBounds r (.loop { l with state:=.busy }) }:=by
 simp [Instr.beginRound,Sem.run_bind,run_getLoop h,Result.andThen,Go.setObj,Sem.run,h,hs]
theorem run_take {w:World} {r:Nat} (h:w.heap[r]?=some (.deferred (some []))) :
  (Instr.takeDeferred r).run P w=.ok [] { w with heap:=w.heap.setIfInBounds r (.deferred none) }:=by
 simp [Instr.takeDeferred,getObj,Sem.run,Go.setObj,h]
theorem run_yield {w:World} {r:Nat} {l:Loop} (h:w.heap[r]?=some (.loop l)) {args:Array Value} (hs:args.size=l.params.size) :
  (Instr.yield r args).run P w=.ok (.round r l.fn ((l.params.zip args).foldl (fun tmps (t,a)=>tmps.setIfInBounds t a) l.tmps) l.assign l.body) w:=by
 simp [Instr.yield,Sem.run_bind,run_getLoop h,Result.andThen,hs]
def resOf (a:Act):ResultVar→Sem Value
 | .tmp t=>pure (a.tmps.getD t undef)
 | .cell c t=>do loadVar t (← asAddr (a.tmps.getD c undef))
theorem OnlyLoads.world {id:Nat} {α:Type} {s:Sem α} (h:OnlyLoads id s):∀ {w w':World} {x:α},s.run P w=.ok x w'→w'=w:=by
 induction h with
 | pure a=>intro w w' x e; simp [Sem.run] at e; exact e.2.symm
 | load h hk ih =>
  intro w w' x e
  simp only [Sem.run] at e
  split at e
  ·exact ih _ e
  ·split at e
   ·exact ih _ e
   ·simp at e
 | program hk ih=>intro w w' x e; simp only [Sem.run] at e; exact ih _ e
 | halt h=>intro w w' x e; simp [Sem.run] at e
theorem run_loadVar {S S':AS} {w:World} (h:HR B w0 E.G σ S w) {a:Addr} (ha:a.spot=none) {v':Value} (hv:VR σ (.pointer (some a)) v') {t:TypeId} {x:Value} (e:ai P 0 (loadVar t a) S=some (x,S')) :
  ∃ σ' a' x',σ.le σ'∧v'=.pointer (some a')∧(loadVar t a').run P w=.ok x' w∧VR σ' x x'∧HR B w0 E.G σ' S w:=by
 cases hv with
 | p hL =>
  rename_i id off L
  have hS:ai P 0 (loadVar t ⟨id,off,none⟩) S=some (x,S):=(load_read (t:=t) (v:=.pointer (some ⟨id,off,none⟩)) (S:=S) (S2:=S) (fun _ _=>.inl rfl) (by simp [topId]) (.inl e)).1
  obtain ⟨σ',x',w',k1,k2,k3,k4⟩:=rs_loadVar (B:=B) (w0:=w0) (G:=E.G) (P:=P) (sz:=0) t (σ₀:=σ) (a:=⟨id,off,none⟩) (a':=⟨L.blk,L.off+off,none⟩) ⟨L,hL,rfl,rfl⟩ σ S w (Sig.le_refl _) h _ _ hS
  have hol:OnlyLoads L.blk (loadVar t ⟨L.blk,L.off+off,none⟩):=only_loadAt t ⟨L.blk,L.off+off,none⟩
  have hw:w'=w:=hol.world (P:=P) k2
  subst hw
  exact ⟨σ',_,x',k1,rfl,k2,k3,k4⟩
theorem run_mapM_results {S:AS} {f:Fr} {a:Act} {w:World}:∀ (l:List ResultVar) {σ:Sig} {vs:List Value},HR B w0 E.G σ S w→FR σ f a→resultsA P f S l=some vs →
  ∃ σ' vs',σ.le σ'∧HR B w0 E.G σ' S w∧(l.mapM (resOf a)).run P w=.ok vs' w∧vs.length=vs'.length∧∀ (i:Nat) (v v':Value),vs[i]?=some v→vs'[i]?=some v'→VR σ' v v'
 | [],σ,vs,h,hf,e=>by
  simp only [resultsA,Option.some.injEq] at e
  subst e
  exact ⟨σ,[],Sig.le_refl _,h,rfl,rfl,fun i v v' h=>by simp at h⟩
 | .tmp t :: l,σ,vs,h,hf,e=>by
  simp only [resultsA] at e
  split at e
  ·rename_i v us h1 h2
   simp only [Option.some.injEq] at e
   subst e
   obtain ⟨σ',us',k0,kh,k1,k2,k3⟩:=run_mapM_results l h hf h2
   obtain ⟨v',q1,q2⟩:=hf.2 t v h1
   refine ⟨σ',v' :: us',k0,kh,?_,by simp [k2],fun i x x' hx hx'=>?_⟩
   ·rw [List.mapM_cons]
    have:a.tmps.getD t undef=v':=by simp [Array.getD_eq_getD_getElem?,q1]
    have hv:resOf a (.tmp t)=pure v':=by rw [resOf,this]
    rw [hv]
    simp [Sem.run_bind,Result.andThen,k1]
   ·cases i with
    | zero=>simp at hx hx'; subst hx; subst hx'; exact q2.mono k0
    | succ i=>exact k3 i x x' (by simpa using hx) (by simpa using hx')
  ·simp at e
 | .cell c t :: l,σ,vs,h,hf,e=>by
  simp only [resultsA] at e
  split at e
  ·rename_i ad h1
   split at e
   ·rename_i v S' us hsp hld h2
    simp only [Option.some.injEq] at e
    subst e
    obtain ⟨p',q1,q2⟩:=hf.2 c _ h1
    obtain ⟨σ1,a',v',r1,rfl,r3,r4,r5⟩:=run_loadVar h hsp q2 hld
    obtain ⟨σ',us',k0,kh,k1,k2,k3⟩:=run_mapM_results l r5 (hf.mono r1) h2
    refine ⟨σ',v' :: us',Sig.le_trans r1 k0,kh,?_,by simp [k2],fun i x x' hx hx'=>?_⟩
    ·rw [List.mapM_cons]
     have:a.tmps.getD c undef=.pointer (some a'):=by simp [Array.getD_eq_getD_getElem?,q1]
     have hv:resOf a (.cell c t)=loadVar t a':=by rw [resOf,this]; rfl
     rw [hv]
     simp [Sem.run_bind,Result.andThen,k1,r3]
    ·cases i with
     | zero=>simp at hx hx'; subst hx; subst hx'; exact r4.mono k0
     | succ i=>exact k3 i x x' (by simpa using hx) (by simpa using hx')
   ·simp at e
  ·simp at e
theorem run_results {S:AS} {f:Fr} {a:Act} {w:World} (h:HR B w0 E.G σ S w) (hf:FR σ f a) {fn:Func} {vs:List Value} (e:resultsA P f S fn.results.toList=some vs) :
  ∃ σ' vs',σ.le σ'∧HR B w0 E.G σ' S w∧(results fn a.tmps).run P w=.ok (if h:vs'.size=1 then vs'[0] else .tuple vs') w∧AR σ' vs.toArray vs':=by
 obtain ⟨σ',vs',k0,kh,k1,k2,k3⟩:=run_mapM_results _ h hf e
 refine ⟨σ',vs'.toArray,k0,kh,?_,AR.of_get (by simpa using k2) (fun i v v' h h'=>k3 i v v' (by simpa using h) (by simpa using h'))⟩
 have:results fn a.tmps=(fn.results.mapM (resOf a) >>= fun vs=>pure (if h:vs.size=1 then vs[0] else .tuple vs)):=rfl
 rw [this,Array.mapM_eq_mapM_toList]
 simp only [map_eq_pure_bind,bind_assoc,pure_bind]
 simp [Sem.run_bind,Result.andThen,k1]
end
end Go.Aev
end
section
set_option linter.unusedSimpArgs false
set_option linter.unusedVariables false
namespace Go.Aev
open Go Go.RowKit
section
variable {B:Nat} {w0:World} {P:Program} {E:Env} {σ:Sig}
theorem roundsIn_mono {F:Fence} {n:Nat} {c:Code} {Q Q':Exit→Act→World→Prop} (hq:∀ e a w,Q e a w→Q' e a w):∀ (m:Nat) {a:Act} {w:World},Code.roundsIn F n P c Q m a w→Code.roundsIn F n P c Q' m a w
 | 0,_,_,h=>h
 | m+1,a,w,h=>wpIn_mono h fun e a w k=>by
  cases e<;>first|exact roundsIn_mono hq m k|exact hq _ _ _ k
theorem then_of_post {K:Act→World→Prop} {Q:Exit→Act→World→Prop} {x:X} {s:St} {e:Exit} {a:Act} {w:World} (h:Post B w0 E σ x s e a w)
  (hn:x=.normal→Post B w0 E σ .normal s .normal a w→K a w) (hx:x≠.normal→Post B w0 E σ x s e a w→Q e a w):Exit.then K Q e a w:=by
 have h':=h
 obtain ⟨σ',h1,rfl,h3⟩:=h
 cases x with
 | normal=>exact hn rfl h'
 | exit id=>exact hx (by simp) h'
 | ret=>exact hx (by simp) h'
theorem around_ok {ro:Option Nat} {s:St} {S1:AS} {d1:List Nat} (e:around ro s=some (S1,d1)) {w:World} {a:Act} {roc:Option Nat} (h:HR B w0 E.G σ s.S w) (hf:FR σ s.f a) (hd:DR σ s.d a.defers) (hro:RoR σ ro roc)
  (fn:FuncId) (ps:Array Tmp) (assign body:Code):∃ σ' mark w1 blk,σ.le σ'∧DR σ' d1 (mark++a.defers)∧HR B w0 E.G σ' S1 w1 ∧
   (Instr.enterLoop fn a.tmps ps assign body roc).run P w=.ok (w1.heap.size,mark) { w1 with heap:=w1.heap.push (.loop { state:=.ready,pending:=none,fn,tmps:=a.tmps,params:=ps,assign,body,defers:=blk }) }:=by
 unfold around at e
 cases ro with
 | none =>
  simp only [RoR] at hro
  subst hro
  simp only [Option.some.injEq,Prod.mk.injEq] at e
  obtain ⟨rfl,rfl⟩:=e
  refine ⟨σ.more s.S.next ⟨w.heap.size,0,0,0⟩,[{ target:=.collected w.heap.size,args:=#[] }],{ w with heap:=w.heap.push (.deferred (some [])) },w.heap.size,Sig.more_le h.fresh,?_,?_,?_⟩
  ·exact .cons (L:=⟨w.heap.size,0,0,0⟩) (Sig.more_self _ _ _) (hd.mono (Sig.more_le h.fresh))
  ·exact h.push rfl ⟨_,Sig.more_self _ _ _,h.hB,by simp⟩
  ·simp [Instr.enterLoop,newObj,Sem.run]
   rfl
 | some l =>
  obtain ⟨L,hL,rfl⟩:=hro
  simp only at e
  split at e
  ·rename_i A hg
   simp only [Option.some.injEq,Prod.mk.injEq] at e
   obtain ⟨rfl,rfl⟩:=e
   obtain ⟨L2,l2,k1,k2,k3,k4⟩:=h.loopOf hg
   rw [hL] at k1; cases k1
   refine ⟨σ,[],w,l2.defers,Sig.le_refl _,hd,h,?_⟩
   simp [Instr.enterLoop,newObj,Sem.run_bind,run_getLoop k3,Result.andThen,Sem.run]
  ·simp at e
theorem jump_post {F : Fence} {n : Nat} {j : Option Code} {x : X} (hj : jumpOf j = some x) {Q : Exit → Act → World → Prop} {a : Act} {w : World} (h : Q x.toExit a w) :
    (match (generalizing := false) j with
     | none => Q .normal a w
     | some c => c.wpIn F n P Q a w) := by
  unfold jumpOf at hj
  split at hj
  · cases hj; exact h
  · cases hj; exact wpIn_exit h
  · cases hj; exact wpIn_ret h
  · simp at hj
theorem range_enter {roc:Option Nat} {g:Operand} {ps:Array Tmp} {assign body:Code} {Q:Exit→Act→World→Prop} {a:Act} {w:World} {k:FuncId} {cs ds:Array Value} (hge:a.eval g=.func (.func k) cs ds)
  (h:∀ fn,∃ l mark w1,(Instr.enterLoop fn a.tmps ps assign body roc).run P w=.ok (l,mark) w1 ∧
   (callFunc k (cs++#[.func (.yield l) #[] #[]]++ds)).run P w1=.ok (.enter k (cs++#[.func (.yield l) #[] #[]]++ds)) w1 ∧
   CallsIn (WF roc) 0 P k (cs++#[.func (.yield l) #[] #[]]++ds) w1 (rangePost (WF roc) 0 P l Q { a with defers:=mark++a.defers })) :
  (Code.rangeFunc g ps assign body).wpIn (WF roc) 0 P Q a w:=by
 refine wpIn_rangeFunc fun fn _=>?_
 obtain ⟨l,mark,w1,h1,h2,h3⟩:=h fn
 have hcv:∀ v,a.eval (.const v)=v:=fun _=>rfl
 have hres:(resolve a.eval (rangeCall g l) 0).run P w1=.ok ⟨.fn (.func k) ds,cs++#[.func (.yield l) #[] #[]]⟩ w1:=by
  simp [resolve,Deferred.ofValue,hge,rangeCall,hcv]
 have hinv:(invoke (.fn (.func k) ds) (cs++#[.func (.yield l) #[] #[]])).run P w1=.ok (.enter k (cs++#[.func (.yield l) #[] #[]]++ds)) w1:=h2
 exact ⟨l,mark,w1,_,w1,k,_,w1,h1,hres,fun _ _=>WF_fn _ _,hinv,WF_depth _,h3⟩
theorem stepR_scope {P:Program} {b:Frame} {a:Act} {k:List Item} {cs:List Frame} {w:World} {c:Code} :
  step P (lone (b.atR a (.code (.scope c) :: k)) cs w)=.next (lone (b.atR a (.code c :: .inScope c :: k)) cs w) :=
 step_lone_go (by simp [stepG,stepG.exec,Frame.atR])
theorem stepR_inScope {P:Program} {b:Frame} {a:Act} {k:List Item} {cs:List Frame} {w:World} {c:Code} :
  step P (lone (b.atR a (.inScope c :: k)) cs w)=.next (lone (b.atR a k) cs w) :=
 step_lone_go (by simp [stepG,stepG.exec,Frame.atR])
theorem wpIn_scope {F:Fence} {n:Nat} {Q:Exit→Act→World→Prop} {a:Act} {w:World} {c:Code} (h:c.wpIn F n P (Exit.noGoto Q) a w):(Code.scope c).wpIn F n P Q a w:=by
 intro b k cs hro hb hr
 have h0:(lone (b.atR a (.code (.scope c) :: k)) cs w).fenced P F:=fenced_calm hb hr rfl
 obtain ⟨e,a₁,w₁,hq,harr⟩:=h b (.inScope c :: k) cs hro hb hr
 cases e with
 | normal=>exact ⟨.normal,a₁,w₁,hq,.head h0 stepR_scope (StepsIn.trans harr (.one (fenced_calm hb hr rfl) stepR_inScope))⟩
 | exit id' =>
  have hx:exitTo id' (.inScope c :: k)=exitTo id' k:=by simp [exitTo]
  exact ⟨.exit id',a₁,w₁,hq,fun k' hk=>.head h0 stepR_scope (harr.1 k' (by rw [hx]; exact hk)),
   fun hr' hk=>let ⟨k₁,h1,h2⟩:=harr.2 hr' (by rw [hx]; exact hk); ⟨k₁,h1,.head h0 stepR_scope h2⟩⟩
 | goto l=>exact hq.elim
 | ret=>exact ⟨_,a₁,w₁,hq,.of_steps (.one h0 stepR_scope) harr⟩
 | panic ch=>exact ⟨_,a₁,w₁,hq,.of_steps (.one h0 stepR_scope) harr⟩
 | outgrown=>exact ⟨_,a₁,w₁,hq,.of_steps (.one h0 stepR_scope) harr⟩
set_option maxHeartbeats 1000000 in
theorem evCode_ok (hT:TabOk P) (hm:P.follows .mixedOrders=true) {r:Rec} (hr:RecOk B w0 P E r) {ro:Option Nat}:∀ (c:Code) {s s':St} {x:X},evCode P E r ro c s=some (x,s') →
  ∀ {σ:Sig} {w:World} {a:Act} {roc:Option Nat},HR B w0 E.G σ s.S w→FR σ s.f a→DR σ s.d a.defers→RoR σ ro roc→c.wpIn (WF roc) 0 P (Post B w0 E σ x s') a w:=by
 intro c
 induction c with
 | skip =>
  intro s s' x e σ w a roc h hf hd hro
  simp only [evCode,Option.some.injEq,Prod.mk.injEq] at e
  obtain ⟨rfl,rfl⟩:=e
  exact wpIn_skip ⟨σ,Sig.le_refl _,rfl,hf,hd,h⟩
 | label l =>
  intro s s' x e σ w a roc h hf hd hro
  simp only [evCode,Option.some.injEq,Prod.mk.injEq] at e
  obtain ⟨rfl,rfl⟩:=e
  exact wpIn_label ⟨σ,Sig.le_refl _,rfl,hf,hd,h⟩
 | ret =>
  intro s s' x e σ w a roc h hf hd hro
  simp only [evCode,Option.some.injEq,Prod.mk.injEq] at e
  obtain ⟨rfl,rfl⟩:=e
  exact wpIn_ret ⟨σ,Sig.le_refl _,rfl,hf,hd,h⟩
 | exit id =>
  intro s s' x e σ w a roc h hf hd hro
  simp only [evCode,Option.some.injEq,Prod.mk.injEq] at e
  obtain ⟨rfl,rfl⟩:=e
  exact wpIn_exit ⟨σ,Sig.le_refl _,rfl,hf,hd,h⟩
 | goto l=>intro s s' x e; simp [evCode] at e
 | seq c1 c2 ih1 ih2 =>
  intro s s' x e σ w a roc h hf hd hro
  simp only [evCode] at e
  cases h1:evCode P E r ro c1 s with
  | none=>simp [h1] at e
  | some y =>
   obtain ⟨x1,s1⟩:=y
   refine wpIn_seq (wpIn_mono (ih1 h1 h hf hd hro) fun e1 a1 w1 hp=>then_of_post hp (fun hx hp=>?_) (fun hx hp=>?_))
   ·subst hx
    simp only [h1] at e
    obtain ⟨σ1,k1,_,k3,k4,k5⟩:=hp
    exact wpIn_mono (ih2 e k5 k3 k4 (hro.mono k1)) fun _ _ _ hp=>hp.mono k1
   ·cases x1 with
    | normal=>exact absurd rfl hx
    | exit id=>simp only [h1,Option.some.injEq,Prod.mk.injEq] at e; obtain ⟨rfl,rfl⟩:=e; exact hp
    | ret=>simp only [h1,Option.some.injEq,Prod.mk.injEq] at e; obtain ⟨rfl,rfl⟩:=e; exact hp
 | cond c c1 c2 ih1 ih2 =>
  intro s s' x e σ w a roc h hf hd hro
  simp only [evCode] at e
  split at e
  ·rename_i hc
   have hb:=val_ok h hf hc
   have hc':a.eval c=.bool true:=by generalize a.eval c=q at hb; cases hb; rfl
   exact wpIn_cond_true hc' (ih1 e h hf hd hro)
  ·rename_i hc
   have hb:=val_ok h hf hc
   have hc':a.eval c=.bool false:=by generalize a.eval c=q at hb; cases hb; rfl
   exact wpIn_cond_false hc' (ih2 e h hf hd hro)
  ·simp at e
 | block id c ih =>
  intro s s' x e σ w a roc h hf hd hro
  simp only [evCode] at e
  cases h1:evCode P E r ro c s with
  | none=>simp [h1] at e
  | some y =>
   obtain ⟨x1,s1⟩:=y
   refine wpIn_block (wpIn_mono (ih h1 h hf hd hro) fun e1 a1 w1 hp=>?_)
   have hp':=hp
   obtain ⟨σ1,k1,rfl,k3⟩:=hp
   cases x1 with
   | normal=>simp only [h1,Option.some.injEq,Prod.mk.injEq] at e; obtain ⟨rfl,rfl⟩:=e; exact hp'
   | ret=>simp only [h1,Option.some.injEq,Prod.mk.injEq] at e; obtain ⟨rfl,rfl⟩:=e; exact hp'
   | exit k =>
    simp only [h1] at e
    show if k=id then Post B w0 E σ x s' .normal a1 w1 else Post B w0 E σ x s' (.exit k) a1 w1
    split at e
    ·rename_i hk
     have hk:=Nat.eq_of_beq_eq_true hk
     simp only [Option.some.injEq,Prod.mk.injEq] at e; obtain ⟨rfl,rfl⟩:=e
     rw [if_pos hk]
     exact ⟨σ1,k1,rfl,k3⟩
    ·rename_i hk
     have hk:=Nat.ne_of_beq_eq_false hk
     simp only [Option.some.injEq,Prod.mk.injEq] at e; obtain ⟨rfl,rfl⟩:=e
     rw [if_neg hk]
     exact hp'
 | scope c ih =>
  intro s s' x e σ w a roc h hf hd hro
  simp only [evCode] at e
  refine wpIn_scope (wpIn_mono (ih e h hf hd hro) fun e1 a1 w1 hp=>?_)
  have hp':=hp
  obtain ⟨σ1,k1,rfl,k3⟩:=hp
  cases x<;>exact hp'
 | loop c ih =>
  intro s s' x e σ w a roc h hf hd hro
  simp only [evCode] at e
  obtain ⟨m,k⟩:=hr.loop _ _ _ _ _ e
  exact wpIn_loop_rounds m (k σ w a roc h hf hd hro)
 | region id ops draw =>
  intro s s' x e σ w a roc h hf hd hro
  cases draw with
  | false =>
   simp only [evCode] at e
   obtain ⟨y,hy,hz⟩:=mapR e
   obtain ⟨f',S'⟩:=y
   cases hz
   exact wpIn_region (evOps_ok hT hr _ h hf hy fun σ' a' w' k1 k2 k3 k4=>⟨σ',k1,rfl,k2,by rw [k3]; exact hd.mono k1,k4⟩)
  | true =>
   simp only [evCode] at e
   split at e
   ·rename_i hdr
    obtain ⟨y,hy,hz⟩:=mapR e
    obtain ⟨f',S'⟩:=y
    cases hz
    exact draw_ok hT hm hr hdr h.drew hf hy fun σ' a' w' k1 k2 k3 k4=>⟨σ',k1,rfl,k2,by rw [k3]; exact hd.mono k1,k4⟩
   ·split at e
    ·rename_i hdr
     obtain ⟨y,hy,hz⟩:=mapR e
     obtain ⟨f',S'⟩:=y
     cases hz
     exact draw_ok2 hT hr.env hm hr hdr h.drew hf hy fun σ' a' w' k1 k2 k3 k4=>⟨σ',k1,rfl,k2,by rw [k3]; exact hd.mono k1,k4⟩
    ·simp at e
 | rangeFunc g ps assign body ih1 ih2 =>
  intro s s' x e σ w a roc h hf hd hro
  simp only [evCode] at e
  cases hAr:around ro s with
  | none=>simp [hAr] at e
  | some y =>
  obtain ⟨S1,d1⟩:=y
  simp only [hAr] at e
  split at e
  ·rename_i k cs ds hg
   split at e
   ·rename_i v1 rv S3 ho hcall
    split at e
    ·rename_i L hL
     have hgv:=val_ok h hf hg
     generalize hge:a.eval g=gv at hgv
     cases hgv with
     | @fn _ _ cs' _ ds' p1 p2 p3 p4 =>
     refine range_enter hge fun fn=>?_
     obtain ⟨σ1,mark,w1,blk,k1,k2,k3,k4⟩:=around_ok (P:=P) hAr h hf hd hro fn ps assign body
     have hle2:σ1.le (σ1.more S1.next ⟨w1.heap.size,0,0,0⟩):=Sig.more_le k3.fresh
     have hle:σ.le (σ1.more S1.next ⟨w1.heap.size,0,0,0⟩):=Sig.le_trans k1 hle2
     have h2:=k3.push (L:=⟨w1.heap.size,0,0,0⟩) rfl (o:=.loop { state:=.ready,pending:=none,fn,tmps:=a.tmps,params:=ps,assign,body,defers:=blk })
      (b:=.loop { state:=.ready,pending:=none,t:=s.f.t,m:=s.f.m,params:=ps,assign,body }) ⟨_,{ state:=.ready,pending:=none,fn,tmps:=a.tmps,params:=ps,assign,body,defers:=blk },Sig.more_self _ _ _,k3.hB,by simp,rfl,rfl,rfl,rfl,rfl,hf.mono hle⟩
     have hargs:AR (σ1.more S1.next ⟨w1.heap.size,0,0,0⟩) (cs++#[.func (.yield S1.next) #[] #[]]++ds) (cs'++#[.func (.yield w1.heap.size) #[] #[]]++ds'):=by
      have a1:AR (σ1.more S1.next ⟨w1.heap.size,0,0,0⟩) cs cs':=⟨p1,fun i hi=>(p2 i hi).mono hle⟩
      have a2:AR (σ1.more S1.next ⟨w1.heap.size,0,0,0⟩) ds ds':=⟨p3,fun i hi=>(p4 i hi).mono hle⟩
      exact (a1.append (AR.single (.yield (L:=⟨w1.heap.size,0,0,0⟩) (Sig.more_self _ _ _)))).append a2
     rcases hr.call _ _ _ _ _ hcall _ _ _ h2 hargs with ⟨hne,_⟩|⟨q1,q2⟩
     ·exact absurd ho hne
     ·refine ⟨w1.heap.size,mark,_,k4,q1,CallsIn.mono (F:=WF roc) q2 ?_⟩
      ·rintro e1 w3 ⟨σ3,v',l1,rfl,l2,l3⟩
       obtain ⟨Lc,l',m1,m2,m3,m4,m5,m6,m7,m8,m9⟩:=l3.loopOf hL
       have hlc:=l1 _ _ (Sig.more_self σ1 S1.next ⟨w1.heap.size,0,0,0⟩)
       rw [m1] at hlc; cases hlc
       have hle3:σ.le σ3:=Sig.le_trans hle l1
       have hf3:FR σ3 s.f { a with defers:=mark++a.defers }:=hf.mono hle3
       have hd3:DR σ3 d1 (mark++a.defers):=k2.mono (Sig.le_trans hle2 l1)
       have hb:L.state≠.busy∧∃ x',jumpOf L.pending=some x'∧x=x'∧s'={ s with d:=d1,S:={ S3 with heap:=S3.heap.set S1.next (some .gone) } }:=by
        split at e
        ·simp at e
        ·rename_i hj hb
         simp only [Option.some.injEq,Prod.mk.injEq] at e
         exact ⟨hb,_,hj,e.1.symm,e.2.symm⟩
        ·simp at e
       obtain ⟨hb,x',hj,rfl,rfl⟩:=hb
       refine ⟨_,_,run_endLoop m3 (by rw [m4]; exact hb),?_⟩
       have hset':HR B w0 E.G σ3 { S3 with heap:=S3.heap.set S1.next (some .gone) } { w3 with heap:=w3.heap.setIfInBounds w1.heap.size (.loop { l' with state:=.exhausted }) } :=
        l3.setObj hL rfl rfl m1 m2 (b':=.gone) trivial
       have hj':jumpOf l'.pending=some x:=by rw [m5]; exact hj
       have hpost:Post B w0 E σ x { s with d:=d1,S:={ S3 with heap:=S3.heap.set S1.next (some .gone) } } x.toExit { a with defers:=mark++a.defers } { w3 with heap:=w3.heap.setIfInBounds w1.heap.size (.loop { l' with state:=.exhausted }) } :=
        ⟨σ3,hle3,rfl,hf3,hd3,hset'⟩
       exact jump_post hj' (Q:=Post B w0 E σ x { s with d:=d1,S:={ S3 with heap:=S3.heap.set S1.next (some .gone) } }) hpost
    ·simp at e
   ·simp at e
  ·simp at e
 | _=>intro s s' x e; simp [evCode] at e
end
end Go.Aev
end
section
set_option linter.unusedSimpArgs false
set_option linter.unusedVariables false
namespace Go.Aev
open Go Go.RowKit
section
variable {B:Nat} {w0:World} {P:Program} {E:Env} {σ:Sig}
theorem evLoop_ok (hT:TabOk P) (hm:P.follows .mixedOrders=true) {r:Rec} (hr:RecOk B w0 P E r):LoopOk B w0 P E (evLoop P E r):=by
 intro ro c s x s' e
 unfold evLoop at e
 cases h1:evCode P E r ro c s with
 | none=>simp [h1] at e
 | some y =>
  obtain ⟨x1,s1⟩:=y
  cases x1 with
  | normal =>
   simp only [h1] at e
   obtain ⟨m,k⟩:=hr.loop _ _ _ _ _ e
   refine ⟨m+1,fun σ w a roc h hf hd hro=>wpIn_mono (evCode_ok hT hm hr c h1 h hf hd hro) fun e1 a1 w1 hp=>then_of_post hp (fun _ hp=>?_) (fun hx _=>absurd rfl hx)⟩
   obtain ⟨σ1,k1,_,k3,k4,k5⟩:=hp
   exact roundsIn_mono (fun _ _ _ hp=>hp.mono k1) m (k σ1 w1 a1 roc k5 k3 k4 (hro.mono k1))
  | exit id =>
   simp only [h1,Option.some.injEq,Prod.mk.injEq] at e
   obtain ⟨rfl,rfl⟩:=e
   exact ⟨1,fun σ w a roc h hf hd hro=>wpIn_mono (evCode_ok hT hm hr c h1 h hf hd hro) fun e1 a1 w1 hp=>then_of_post hp (fun hx=>by cases hx) (fun _ hp=>hp)⟩
  | ret =>
   simp only [h1,Option.some.injEq,Prod.mk.injEq] at e
   obtain ⟨rfl,rfl⟩:=e
   exact ⟨1,fun σ w a roc h hf hd hro=>wpIn_mono (evCode_ok hT hm hr c h1 h hf hd hro) fun e1 a1 w1 hp=>then_of_post hp (fun hx=>by cases hx) (fun _ hp=>hp)⟩
theorem setArgs_get:∀ (vs:List Value) (i:Nat) (t:T Value) (j:Nat),(setArgs vs i t).get j=if i≤j∧j<i+vs.length then vs[j - i]? else t.get j
 | [],i,t,j=>by simp [setArgs]; intro h1 h2; omega
 | v :: vs,i,t,j=>by
  rw [setArgs,setArgs_get vs (i+1) _ j,T.get_set]
  by_cases hj:j=i
  ·subst hj
   rw [if_neg (by omega),if_pos rfl,if_pos (by simp)]
   simp
  ·by_cases h1:i+1≤j∧j<i+1+vs.length
   ·rw [if_pos h1,if_pos (by simp; omega)]
    have:j - i=(j - (i+1))+1:=by omega
    rw [this]; rfl
   ·rw [if_neg h1,if_neg hj,if_neg (by simp; omega)]
theorem setArgs_ok {args args':Array Value} (h:AR σ args args') (n:Nat) (ds:List Deferred) :
  FR σ { t:=setArgs args.toList 0 .lf,m:=args.size+(n - args.size) } { tmps:=args'++Array.replicate (n - args'.size) undef,defers:=ds }:=by
 refine ⟨by simp [h.1],fun i v e=>?_⟩
 simp only [setArgs_get] at e
 split at e
 ·rename_i hi
  simp only [Nat.sub_zero,Array.getElem?_toList] at e
  obtain ⟨v',e',r⟩:=h.get e
  have hlt:=(Array.getElem?_eq_some_iff.1 e').1
  exact ⟨v',by simp only; rw [Array.getElem?_append_left hlt]; exact e',r⟩
 ·simp [T.get] at e
theorem leaves_ok {f:Fr} {a:Act} {fn:Func} {R:Ending→World→Prop} {S':AS} (hend:∀ w',HR B w0 E.G σ S' w'→∃ v,(results fn a.tmps).run P w'=.ok v w'∧R (.returned v) w'):∀ {d:List Nat} {ds:List Deferred},DR σ d ds→∀ {S:AS} {w:World},
  HR B w0 E.G σ S w→takeAll d S=some S'→LeavesInM (WF none) 0 P fn a.tmps R ds .returning w:=by
 intro d ds hd
 induction hd with
 | nil =>
  intro S w h e
  simp only [takeAll,Option.some.injEq] at e
  subst e
  exact hend w h
 | @cons r L d ds hL _ ih =>
  intro S w h e
  simp only [takeAll] at e
  split at e
  ·rename_i hg
   obtain ⟨L2,k1,k2,k3⟩:=h.blk _ _ hg
   rw [hL] at k1; cases k1
   have hlt:L.blk<w.heap.size:=(h.dom _ _ hL).2
   have hset:=h.setObj hg rfl rfl hL k2 (o:=.deferred none) (b':=.dfd false) ⟨L,hL,k2,by simp [hlt]⟩
   refine ⟨by simp,.inl ⟨L.blk,_,rfl,run_take (by simpa using k3),ih hset e⟩⟩
  ·simp at e
def OrcRuns (B:Nat) (w0:World) (P:Program) (E:Env):Prop:=∀ k args S v S',E.orc k args S=some (v,S')→∀ σ w args',HR B w0 E.G σ S w→AR σ args args' →
  (∃ σ' v' w',σ.le σ'∧(callFunc k args').run P w=.ok (.value v') w'∧VR σ' v v'∧HR B w0 E.G σ' S' w') ∨
  ((callFunc k args').run P w=.ok (.enter k args') w∧CallsIn Fence.wide 0 P k args' w (fun e w'=>∃ σ' v',σ.le σ'∧e=.returned v'∧VR σ' v v'∧HR B w0 E.G σ' S' w'))
def OrcOk (B:Nat) (w0:World) (P:Program) (E:Env):Prop:=OrcRuns B w0 P E∧LcE E
set_option maxHeartbeats 1000000 in
theorem evCall_ok (hT:TabOk P) (hm:P.follows .mixedOrders=true) (hO:OrcOk B w0 P E) {r:Rec} (hr:RecOk B w0 P E r):CallOk B w0 P E (evCall P E r):=by
 intro k args S v S' e σ w args' h hargs
 unfold evCall at e
 cases ho:E.orc k args S with
 | some x =>
  simp only [ho] at e
  rw [e] at ho
  rcases hO.1 k args S v S' ho σ w args' h hargs with hh|hh
  ·exact .inl ⟨by simp,hh⟩
  ·exact .inr hh
 | none =>
  simp only [ho] at e
  right
  ·split at e
   ·rename_i fn hfn
    split at e
    ·rename_i c hc hname
     have hrun:(callFunc k args').run P w=.ok (.enter k args') w:=by
      have hn : ¬ fn.name = "runtime.NumGoroutine" := by simpa using hname
      simp [callFunc,Go.program,Sem.run,hfn,hn,hc]
     refine ⟨hrun,?_⟩
     have hbody:c.wpIn (WF none) 0 P (bodyPostM (WF none) 0 P fn (fun e w'=>∃ σ' v',σ.le σ'∧e=.returned v'∧VR σ' v v'∧HR B w0 E.G σ' S' w')) { tmps:=args'++Array.replicate (fn.ntmps - args'.size) undef,defers:=[] } w:=by
      cases h1:evCode P E r none c { f:={ t:=setArgs args.toList 0 .lf,m:=args.size+(fn.ntmps - args.size) },d:=[],S } with
      | none=>simp [h1] at e
      | some y =>
       obtain ⟨x,s'⟩:=y
       simp only [h1] at e
       have hx:(x=.normal∨x=.ret)∧∃ S2 vs,takeAll s'.d s'.S=some S2∧resultsA P s'.f S2 fn.results.toList=some vs∧S'=S2∧((∃ u,vs=[u]∧v=u)∨(vs.length≠1∧v=.tuple vs.toArray)):=by
        have main:(match takeAll s'.d s'.S with
          | some S' =>
           match resultsA P s'.f S' fn.results.toList with
           | some [v]=>some (v,S')
           | some vs=>some (.tuple vs.toArray,S')
           | none=>none
          | none=>none)=some (v,S')→∃ S2 vs,takeAll s'.d s'.S=some S2∧resultsA P s'.f S2 fn.results.toList=some vs∧S'=S2∧((∃ u,vs=[u]∧v=u)∨(vs.length≠1∧v=.tuple vs.toArray)):=by
         intro e
         split at e
         ·rename_i S2 k1
          split at e
          ·rename_i u k2; simp only [Option.some.injEq,Prod.mk.injEq] at e; exact ⟨S2,[u],k1,k2,e.2.symm,.inl ⟨u,rfl,e.1.symm⟩⟩
          ·rename_i vs k2 k3
           simp only [Option.some.injEq,Prod.mk.injEq] at e
           refine ⟨S2,vs,k1,k3,e.2.symm,.inr ⟨fun hl=>?_,e.1.symm⟩⟩
           obtain ⟨u,hu⟩:=List.length_eq_one_iff.1 hl
           exact k2 u hu
          ·simp at e
         ·simp at e
        cases x with
        | normal=>exact ⟨.inl rfl,main e⟩
        | ret=>exact ⟨.inr rfl,main e⟩
        | exit id=>simp at e
       obtain ⟨hx,S2,vs,t1,t2,rfl,t4⟩:=hx
       refine wpIn_mono (evCode_ok hT hm hr c h1 h (setArgs_ok hargs fn.ntmps []) .nil rfl) fun e1 a1 w1 hp=>?_
       obtain ⟨σ1,q1,rfl,q3,q4,q5⟩:=hp
       have hl:LeavesInM (WF none) 0 P fn a1.tmps (fun e w'=>∃ σ' v',σ.le σ'∧e=.returned v'∧VR σ' v v'∧HR B w0 E.G σ' S' w') a1.defers .returning w1:=by
        refine leaves_ok (f:=s'.f) (fun w' hw=>?_) q4 q5 t1
        obtain ⟨σ2,vs',p0,ph,p1,p2⟩:=run_results (P:=P) hw q3 t2
        refine ⟨_,p1,σ2,_,Sig.le_trans q1 p0,rfl,?_,ph⟩
        rcases t4 with ⟨u,rfl,rfl⟩|⟨hlen,rfl⟩
        ·have hs:vs'.size=1:=by rw [← p2.1]; rfl
         rw [dif_pos hs]
         obtain ⟨z,hz,rz⟩:=p2.get (i:=0) (v:=v) (by simp)
         have:vs'[0]=z:=by rw [Array.getElem?_eq_getElem (by omega)] at hz; exact Option.some.inj hz
         rw [this]; exact rz
        ·have hs:vs'.size≠1:=by rw [← p2.1]; simpa using hlen
         rw [dif_neg hs]
         exact VR.tup_iff.2 ⟨_,rfl,p2⟩
       rcases hx with rfl|rfl
       ·exact hl
       ·exact hl
     exact callsIn_of_wp_marks (F:=WF none) hfn hc trivial hbody
    ·simp at e
   ·simp at e
theorem setParams_ok:∀ (l l':List (Tmp × Value)) {f:Fr} {a:Act},FR σ f a→l.length=l'.length→(∀ (i:Nat) (x x':Tmp × Value),l[i]?=some x→l'[i]?=some x'→x.1=x'.1∧VR σ x.2 x'.2) →
  FR σ (setParams l f) { a with tmps:=l'.foldl (fun tmps (t,v)=>tmps.setIfInBounds t v) a.tmps }
 | [],[],f,a,h,_,_=>h
 | [],_ :: _,_,_,_,hl,_=>by simp at hl
 | _ :: _,[],_,_,_,hl,_=>by simp at hl
 | (t,v) :: l,(t',v') :: l',f,a,h,hl,hx=>by
  obtain ⟨h1,h2⟩:=hx 0 (t,v) (t',v') rfl rfl
  simp only at h1 h2
  subst h1
  rw [setParams,List.foldl_cons]
  exact setParams_ok l l' (put_ok h (some t) h2) (by simpa using hl) (fun i x x' e e'=>hx (i+1) x x' (by simpa using e) (by simpa using e'))
set_option maxHeartbeats 1000000 in
theorem evRound_ok (hT:TabOk P) (hm:P.follows .mixedOrders=true) {r:Rec} (hr:RecOk B w0 P E r):RoundOk B w0 P E (evRound P E r):=by
 intro l args S v S' e σ w args' Lc h hargs hLc
 unfold evRound at e
 split at e
 ·rename_i A hA
  split at e
  ·simp at e
  ·rename_i hsz
   have hsz:=Nat.eq_of_beq_eq_true hsz
   obtain ⟨L2,l',k1,k2,k3,k4,k5,k6,k7,k8,k9⟩:=h.loopOf hA
   rw [hLc] at k1; cases k1
   have hs':args'.size=l'.params.size:=by rw [k6,← hargs.1,hsz]
   refine ⟨l'.fn,_,l'.assign,l'.body,run_yield k3 hs',?_⟩
   refine roundIn_of_wpIn (F:=Fence.wide) trivial ?_
   show l'.assign.wpIn (WF (some Lc.blk)) 0 P _ _ w
   have hf0:FR σ (setParams (A.params.toList.zip args.toList) { t:=A.t,m:=A.m }) { tmps:=(l'.params.zip args').foldl (fun tmps (t,a)=>tmps.setIfInBounds t a) l'.tmps,defers:=[] }:=by
    rw [← Array.foldl_toList]
    refine setParams_ok (a:={ tmps:=l'.tmps,defers:=[] }) _ _ k9 (by simp [k6,hargs.1]) (fun i x x' hx hx'=>?_)
    rw [Array.toList_zip] at hx'
    rw [List.getElem?_zip_eq_some] at hx hx'
    obtain ⟨a1,a2⟩:=hx
    obtain ⟨b1,b2⟩:=hx'
    rw [k6,a1] at b1
    refine ⟨Option.some.inj b1,?_⟩
    obtain ⟨z,hz,rz⟩:=hargs.get (by simpa using a2)
    rw [Array.getElem?_toList,hz] at b2
    rw [← Option.some.inj b2]; exact rz
   cases h1:evCode P E r (some l) A.assign { f:=setParams (A.params.toList.zip args.toList) { t:=A.t,m:=A.m },d:=[],S } with
   | none=>simp [h1] at e
   | some y =>
    obtain ⟨x1,s1⟩:=y
    cases x1 with
    | exit id=>simp [h1] at e
    | ret=>simp [h1] at e
    | normal =>
     simp only [h1] at e
     split at e
     ·rename_i A1 hA1 hd1
      split at e
      ·rename_i hready
       rw [k7]
       refine wpIn_mono (evCode_ok hT hm hr A.assign h1 h hf0 .nil ⟨Lc,hLc,rfl⟩) fun e1 a1 w1 hp=>then_of_post hp (fun _ hp=>?_) (fun hx _=>absurd rfl hx)
       obtain ⟨σ1,q1,_,q3,q4,q5⟩:=hp
       obtain ⟨L3,l1,m1,m2,m3,m4,m5,m6,m7,m8,m9⟩:=q5.loopOf hA1
       rw [q1 _ _ hLc] at m1; cases m1
       have hbusy:=q5.setLoop hA1 (q1 _ _ hLc) m3 .busy A1.pending
       have hbusy':HR B w0 E.G σ1 { s1.S with heap:=s1.S.heap.set l (some (.loop { A1 with state:=.busy })) } { w1 with heap:=w1.heap.setIfInBounds Lc.blk (.loop { l1 with state:=.busy }) }:=by
        have:({ l1 with state:=.busy,pending:=A1.pending }:Loop)={ l1 with state:=.busy }:=by rw [← m5]
        rw [this] at hbusy
        exact hbusy
       refine ⟨_,run_beginRound m3 (by rw [m4]; exact hready),?_⟩
       show l'.body.wpIn (WF (some Lc.blk)) 0 P _ _ _
       rw [k8]
       split at e
       ·rename_i x s3 h3
        refine wpIn_mono (evCode_ok hT hm hr A.body h3 (a:=a1) hbusy' q3 q4 ⟨Lc,q1 _ _ hLc,rfl⟩) fun e2 a2 w2 hp=>?_
        obtain ⟨σ2,p1,rfl,p3,p4,p5⟩:=hp
        split at e
        ·rename_i A3 hA3
         obtain ⟨L4,l3,n1,n2,n3,n4,n5,n6,n7,n8,n9⟩:=p5.loopOf hA3
         rw [p1 _ _ (q1 _ _ hLc)] at n1; cases n1
         have hend:=fun st pe=>p5.setLoop hA3 (p1 _ _ (q1 _ _ hLc)) n3 st pe
         cases x with
         | normal =>
          simp only [Option.some.injEq,Prod.mk.injEq] at e
          obtain ⟨rfl,rfl⟩:=e
          exact ⟨_,_,run_endRound n3 none,σ2,_,Sig.le_trans q1 p1,rfl,.bool _,hend .ready none⟩
         | exit id =>
          simp only [Option.some.injEq,Prod.mk.injEq] at e
          obtain ⟨rfl,rfl⟩:=e
          exact ⟨_,_,run_endRound n3 (some (.exit id)),σ2,_,Sig.le_trans q1 p1,rfl,.bool _,hend .done (some (.exit id))⟩
         | ret =>
          simp only [Option.some.injEq,Prod.mk.injEq] at e
          obtain ⟨rfl,rfl⟩:=e
          exact ⟨_,_,run_endRound n3 (some .ret),σ2,_,Sig.le_trans q1 p1,rfl,.bool _,hend .done (some .ret)⟩
        ·simp at e
       ·simp at e
      ·simp at e
     ·simp at e
 ·simp at e
theorem ev_ok (hT:TabOk P) (hm:P.follows .mixedOrders=true) (hO:OrcOk B w0 P E):∀ n,RecOk B w0 P E (ev P E n)
 | 0=>⟨fun k args S v S' e=>by simp [ev] at e,fun l args S v S' e=>by simp [ev] at e,fun ro c s x s' e=>by simp [ev] at e,ev_lc hO.2 0,hO.2⟩
 | n+1 =>
  have h1:=ev_ok hT hm hO n
  ⟨evCall_ok hT hm hO h1,evRound_ok hT hm h1,evLoop_ok hT hm h1,ev_lc hO.2 (n+1),hO.2⟩
end
end Go.Aev
end
section
set_option linter.unusedSimpArgs false
set_option linter.unusedVariables false
namespace Go.Aev
open Go Go.RowKit
def orc (ne mk:FuncId) (u8:TypeId) (k:FuncId) (args:Array Value) (S:AS):Option (Value × AS) :=
 match Nat.beq k ne with
 | true=>match args.toList with
  | [x]=>some (x,S)
  | _=>none
 | false=>match Nat.beq k mk with
  | false=>none
  | true=>match args.toList with
   | [.int .i64 (.ofNat n)]=>match Nat.ble n 131072 with
    | true=>some (.slice (some ⟨S.next,0,none⟩) n n,S.push (.cells (List.replicate n (.chan (some 0))) u8 1 true false))
    | false=>none
   | _=>none
def mkEnv (G:Nat) (ne mk:FuncId) (u8:TypeId):Env:={ G,orc:=orc ne mk u8 }
structure ExtOk (P:Program) (ne mk:FuncId) (u8:TypeId):Prop where
 esc:∀ x w,(callFunc ne #[x]).run P w=.ok (.value x) w
 zer:∀ (n:Nat) w,n≤131072→∃ cs:Array Value,(callFunc mk #[.int .i64 n]).run P w=.ok (.value (.slice (some ⟨w.heap.size,0,none⟩) n cs.size)) (w.drew.drew.alloc (.cells cs u8))∧n≤cs.size∧∀ (i:Nat) (v:Value),cs[i]?=some v→oneB v=true
section
variable {B:Nat} {w0:World} {P:Program} {σ:Sig}
theorem orc_runs {G:Nat} {ne mk:FuncId} {u8:TypeId} (hX:ExtOk P ne mk u8):OrcRuns B w0 P (mkEnv G ne mk u8):=by
 intro k args S v S' e σ w args' h hargs
 simp only [mkEnv,orc] at e
 split at e
 ·rename_i hk
  have hk:=Nat.eq_of_beq_eq_true hk
  subst hk
  split at e
  ·rename_i x hx
   have hx':args=#[x]:=by apply Array.ext'; simpa using hx
   subst hx'
   simp only [Option.some.injEq,Prod.mk.injEq] at e
   obtain ⟨rfl,rfl⟩:=e
   obtain ⟨x',hx',r⟩:=hargs.get (i:=0) (v:=x) (by simp)
   have ha':args'=#[x']:=by
    have hs:args'.size=1:=by rw [← hargs.1]; rfl
    apply Array.ext
    ·simpa using hs
    ·intro i h1 h2
     have:i=0:=by omega
     subst this
     rw [Array.getElem?_eq_getElem h1] at hx'
     simpa using hx'
   subst ha'
   exact .inl ⟨σ,x',w,Sig.le_refl _,hX.esc x' w,r,h⟩
  ·simp at e
 ·split at e
  ·simp at e
  ·rename_i hk
   have hk:=Nat.eq_of_beq_eq_true hk
   subst hk
   split at e
   ·rename_i n hx
    have hx':args=#[.int .i64 (.ofNat n)]:=by apply Array.ext'; simpa using hx
    subst hx'
    split at e
    ·rename_i hb
     have hb:=Nat.le_of_ble_eq_true hb
     simp only [Option.some.injEq,Prod.mk.injEq] at e
     obtain ⟨rfl,rfl⟩:=e
     obtain ⟨x',hx',r⟩:=hargs.get (i:=0) (v:=.int .i64 (.ofNat n)) (by simp)
     cases r
     have ha':args'=#[.int .i64 (.ofNat n)]:=by
      have hs:args'.size=1:=by rw [← hargs.1]; rfl
      apply Array.ext
      ·simpa using hs
      ·intro i h1 h2
       have:i=0:=by omega
       subst this
       rw [Array.getElem?_eq_getElem h1] at hx'
       simpa using hx'
     subst ha'
     obtain ⟨cs,q1,q2,q3⟩:=hX.zer n w hb
     have hnew:=(h.drew.drew).newPart (cs:=List.replicate n (.chan (some 0))) (C:=cs) (fun j v hv=>by
      rw [List.getElem?_replicate] at hv
      split at hv
      ·rename_i hj
       simp only [Option.some.injEq] at hv
       subst hv
       exact ⟨cs[j]'(by omega),by simp [show j<cs.size by omega],.unk (q3 j _ (by simp [show j<cs.size by omega]))⟩
      ·simp at hv) u8 1
     refine .inl ⟨_,_,_,Sig.more_le h.fresh,q1,?_,hnew⟩
     exact VR.sl (σ:=σ.more S.next ⟨w.heap.size,0,cs.size,1⟩) (id:=S.next) (off:=0) (L:=⟨w.heap.size,0,cs.size,1⟩) (Sig.more_self _ _ _) q2 q2 (by simp)
    ·simp at e
   ·simp at e
theorem orc_lc (ne mk:FuncId) (u8:TypeId) (n:Nat) (b:ABlk) (k:FuncId) (args:Array Value):Lc n b (orc ne mk u8 k args):=by
 intro S v S' h e
 unfold orc at e ⊢
 split at e
 ·split at e
  ·rename_i hx
   cases e
   exact ⟨h,rfl⟩
  ·simp at e
 ·split at e
  ·simp at e
  ·split at e
   ·split at e
    ·rename_i hb
     cases e
     obtain ⟨k1,k2⟩:=h.push (b:=b) (.cells (List.replicate _ (.chan (some 0))) u8 1 true false)
     exact ⟨k1,by rw [k2]; rfl⟩
    ·simp at e
   ·simp at e
theorem orc_non (ne mk:FuncId) (u8:TypeId) (k:FuncId) (args:Array Value) (S S2:AS) (e:orc ne mk u8 k args S=none):orc ne mk u8 k args S2=none:=by
 unfold orc at e ⊢
 split at e
 ·split at e
  ·simp at e
  ·rfl
 ·split at e
  ·rfl
  ·split at e
   ·split at e
    ·simp at e
    ·rfl
   ·rfl
theorem orc_ok {G:Nat} {ne mk:FuncId} {u8:TypeId} (hX:ExtOk P ne mk u8):OrcOk B w0 P (mkEnv G ne mk u8) :=
 ⟨orc_runs hX,orc_lc ne mk u8,orc_non ne mk u8,fun n b hb S S2 h h2 e=>agreeB_lc hb h h2 e⟩
end
theorem HR.grow {B:Nat} {w0 w w':World} {G:Nat} {σ:Sig} {S:AS} (h:HR B w0 G σ S w) (hb:Below w.heap.size w w'):HR B w0 G σ S w':=by
 refine ⟨h.below.trans (hb.mono h.hB),Nat.le_trans h.hB hb.size,fun id L e=>⟨(h.dom id L e).1,Nat.lt_of_lt_of_le (h.dom id L e).2 hb.size⟩,fun id b e=>?_,h.inj,h.glob⟩
 exact (h.blk id b e).of_same (fun _ M hM=>hb.block _ (h.dom id M hM).2)
theorem HR.start {G:Nat} {w:World} {S0:AS} (hG:G≤w.heap.size) (hnext:S0.next=G)
  (hblk:∀ id b,S0.heap.get id=some b→id<G∧∃ c ty sz,b=.cells c ty sz false false∧∃ C T fz,w.heap[id]?=some (.cells C T fz)∧∀ (j:Nat) (v:Value),c[j]?=some v→C[j]?=some v∧selfB 8 v=true) :
  ∃ σ,HR w.heap.size w G σ S0 w:=by
 let σ:Sig:=fun id=>if id<G then some ⟨id,0,(match w.heap[id]? with|some (.cells C _ _)=>C.size|_=>0),(match S0.heap.get id with|some (.cells _ _ sz _ _)=>sz|_=>0)⟩ else none
 have hσ:∀ id L,σ id=some L→id<G∧L.blk=id∧L.off=0:=by
  intro id L e
  simp only [σ] at e
  split at e
  ·cases e; exact ⟨by assumption,rfl,rfl⟩
  ·simp at e
 refine ⟨σ,Below.refl _ _,Nat.le_refl _,fun id L e=>?_,fun id b e=>?_,fun id id' b b' L L' _ _ _ _ e e' he _=>?_,fun g hg=>?_⟩
 ·obtain ⟨h1,h2,_⟩:=hσ id L e
  rw [hnext,h2]; exact ⟨h1,by omega⟩
 ·obtain ⟨h1,c,ty,sz,rfl,C,T,fz,h2,h3⟩:=hblk id b e
  refine ⟨⟨id,0,C.size,sz⟩,C,T,fz,?_,h2,rfl,rfl,fun hx=>by simp at hx,fun hx=>by simp at hx,fun j v hv=>?_⟩
  ·simp only [σ,if_pos h1,h2,e]
  ·obtain ⟨k1,k2⟩:=h3 j v hv
   exact ⟨v,by simpa using k1,selfB_spec _ _ _ k2⟩
 ·obtain ⟨_,h2,_⟩:=hσ id L e
  obtain ⟨_,k2,_⟩:=hσ id' L' e'
  rw [← h2,← k2]; exact he
 ·exact ⟨_,if_pos hg,rfl,rfl⟩
theorem calls_of_run {P:Program} (hT:TabOk P) (hm:P.follows .mixedOrders=true) {G:Nat} {ne mk:FuncId} {u8:TypeId} (hX:ExtOk P ne mk u8) {n:Nat} {k:FuncId} {S0 S':AS} {v:Value} {w:World} {σ:Sig}
  (h:HR w.heap.size w G σ S0 w) (hn:orc ne mk u8 k #[] S0=none) (e:(ev P (mkEnv G ne mk u8) n).call k #[] S0=some (v,S')) :
  Calls P k #[] w fun e w'=>∃ σ' v',e=.returned v'∧VR σ' v v'∧Below w.heap.size w w':=by
 have hr:=ev_ok (B:=w.heap.size) (w0:=w) hT hm (orc_ok (G:=G) hX) n
 rcases hr.call k #[] S0 v S' e σ w #[] h (AR.empty _) with ⟨hne,_⟩|⟨_,hc⟩
 ·exact absurd hn hne
 ·refine (callsIn_wide.1 hc).mono ?_
  rintro e w' ⟨σ',v',_,rfl,h2,h3⟩
  exact ⟨σ',v',rfl,h2,h3.below⟩
theorem calls_true {P:Program} (hT:TabOk P) (hm:P.follows .mixedOrders=true) {G:Nat} {ne mk:FuncId} {u8:TypeId} (hX:ExtOk P ne mk u8) {n:Nat} {k:FuncId} {S0 S':AS} {w:World} {σ:Sig}
  (h:HR w.heap.size w G σ S0 w) (hn:orc ne mk u8 k #[] S0=none) (e:(ev P (mkEnv G ne mk u8) n).call k #[] S0=some (.bool true,S')) :
  Calls P k #[] w fun e w'=>e=.returned (.bool true)∧Below w.heap.size w w' :=
 (calls_of_run hT hm hX h hn e).mono fun e w' ⟨_,_,he,hv,hb⟩=>by cases hv; exact ⟨he,hb⟩
end Go.Aev
end
section
set_option linter.unusedSimpArgs false
set_option linter.unusedVariables false
namespace Go.Aev
open Go Go.RowKit
def tabB (P:Program):Bool:=P.types.toList.all fun i =>
 match i.zero with
 | some v=>selfB 8 v && Nat.beq v.cells.size i.size
 | none=>true
theorem TabOk.of_check {P:Program} (h:tabB P=true):TabOk P:=by
 have key:∀ t i v,inTab P t=true→P.info? t=some i→i.zero=some v→selfB 8 v=true∧v.cells.size=i.size:=by
  intro t i v ht hi hv
  have hmem:i ∈ P.types.toList:=by
   have hlt:t<P.types.size:=by simpa [inTab,Nat.blt_eq] using ht
   have hi:P.types[t]?=some i:=by
    have:P.info? t=P.types[t]?:=if_pos hlt
    rw [← this]; exact hi
   exact Array.mem_toList_iff.2 (Array.mem_of_getElem? hi)
  have:=List.all_eq_true.1 h i hmem
  simp only [hv,Bool.and_eq_true] at this
  exact ⟨this.1,Nat.eq_of_beq_eq_true this.2⟩
 exact ⟨fun t i v ht hi hv=>(key t i v ht hi hv).1,fun t i z ht hi hz=>(key t i z ht hi hz).2⟩
def startAS (G:Nat) (gs:List (Nat × List Value)):AS:={ heap:=gs.foldl (fun h x=>h.set x.1 (some (.cells x.2 0 0 false false))) .lf,next:=G }
theorem foldl_get (gs:List (Nat × List Value)):∀ (h:T ABlk) (id:Nat) (b:ABlk),(gs.foldl (fun h x=>h.set x.1 (some (.cells x.2 0 0 false false))) h).get id=some b→h.get id=some b∨∃ c,(id,c) ∈ gs∧b=.cells c 0 0 false false:=by
 induction gs with
 | nil=>intro h id b e; exact .inl e
 | cons x gs ih =>
  intro h id b e
  rw [List.foldl_cons] at e
  rcases ih _ id b e with e1|⟨c,hc,rfl⟩
  ·rw [T.get_set] at e1
   split at e1
   ·rename_i hi
    cases e1
    exact .inr ⟨x.2,by rw [hi]; simp,rfl⟩
   ·exact .inl e1
  ·exact .inr ⟨c,by simp [hc],rfl⟩
theorem HR.startAt {G:Nat} {w:World} {gs:List (Nat × List Value)} (hG:G≤w.heap.size) (hlt:∀ x ∈ gs,x.1<G) (hself:∀ x ∈ gs,∀ v ∈ x.2,selfB 8 v=true)
  (hblk:∀ x ∈ gs,∃ C T fz,w.heap[x.1]?=some (.cells C T fz)∧∀ (j:Nat) (v:Value),x.2[j]?=some v→C[j]?=some v):∃ σ,HR w.heap.size w G σ (startAS G gs) w:=by
 refine HR.start hG rfl (fun id b e=>?_)
 rcases foldl_get gs .lf id b e with e1|⟨c,hc,rfl⟩
 ·simp [T.get] at e1
 ·refine ⟨hlt _ hc,c,0,0,rfl,?_⟩
  obtain ⟨C,T,fz,h1,h2⟩:=hblk _ hc
  exact ⟨C,T,fz,h1,fun j v hv=>⟨h2 j v hv,hself _ hc v (List.mem_of_getElem? hv)⟩⟩
end Go.Aev
end
section
set_option linter.unusedSimpArgs false
set_option linter.unusedVariables false
namespace Go.Aev
open Go Go.RowKit
def rdAt (P:Program):Nat→TypeId→DataW Unit→Nat→Option Value
 | 0,_,_,_=>none
 | n+1,t,d,j =>
  match P.underlying t,d with
  | some (.int _),.lit (.int k x)=>match Nat.beq j 0 with
   | true=>some (.int k x)
   | false=>none
  | some (.struct fs),.agg ds=>(fs.toList.zip ds).findSome? fun y =>
   match Nat.ble y.1.offset j,Nat.blt (j - y.1.offset) (P.cellsOf y.1.type) with
   | true,true=>rdAt P n y.1.type y.2 (j - y.1.offset)
   | _,_=>none
  | some (.array m e),.agg ds =>
   match Nat.blt (j / P.cellsOf e) m,ds[j / P.cellsOf e]?,Nat.blt 0 (P.cellsOf e) with
   | true,some d,true=>rdAt P n e d (j % P.cellsOf e)
   | _,_,_=>none
  | _,_=>none
theorem rdAt_ok {P:Program} {w:World} {base:Nat} {spare:Nat→Bool} {held:Bool}:∀ (n:Nat) {t:TypeId} {d:DataW Unit} {j:Nat} {v:Value} {fuel:Nat} {cs:List Value} {ps:List MemPlace},
  DataW.trod (fun _=>()) P w base spare held fuel t cs=some (d,ps)→rdAt P n t d j=some v→cs[j]?=some v:=by
 intro n
 induction n with
 | zero=>intro t d j v fuel cs ps _ e; simp [rdAt] at e
 | succ n ih =>
  intro t d j v fuel cs ps h e
  unfold rdAt at e
  split at e
  ·rename_i k0 k x hu
   obtain ⟨m,rfl,hx,_⟩:=DataW.trod_int hu h
   simp only [Prod.mk.injEq,DataW.lit.injEq,Lit.int.injEq] at hx
   obtain ⟨⟨rfl,rfl⟩,_⟩:=hx
   split at e
   ·rename_i hj
    have:=Nat.eq_of_beq_eq_true hj
    subst this
    simpa using e
   ·simp at e
  ·rename_i fs ds hu
   obtain ⟨xs,m,_,hx,_,hlen,hf⟩:=DataW.trod_struct hu h
   simp only [Prod.mk.injEq,DataW.agg.injEq] at hx
   obtain ⟨rfl,_⟩:=hx
   obtain ⟨y,hy,e⟩:=List.exists_of_findSome?_eq_some e
   split at e
   ·rename_i h1 h2
    have h1:=Nat.le_of_ble_eq_true h1
    have h2:j - y.1.offset<P.cellsOf y.1.type:=by simpa [Nat.blt_eq] using h2
    obtain ⟨i,hi,hy⟩:=List.getElem_of_mem hy
    have hi1:i<fs.toList.length:=by simp at hi; simp; omega
    have hi2:i<xs.length:=by simp at hi; omega
    have hy1:fs[i]?=some y.1:=by
     rw [← hy]; simp at hi1; simp [hi1]
    have hy2:(xs[i]).1=y.2:=by rw [← hy]; simp
    have:=hf i y.1 hy1
    rw [List.getElem?_eq_getElem hi2] at this
    have hd:xs[i]=(y.2,(xs[i]).2):=by rw [← hy2]
    rw [hd] at this
    have:=ih this e
    rw [List.getElem?_take] at this
    simp only [h2,if_true,List.getElem?_drop] at this
    rwa [show y.1.offset+(j - y.1.offset)=j by omega] at this
   ·simp at e
  ·rename_i m0 e0 ds hu
   obtain ⟨xs,m,_,hx,_,hlen,hf⟩:=DataW.trod_array hu h
   simp only [Prod.mk.injEq,DataW.agg.injEq] at hx
   obtain ⟨rfl,_⟩:=hx
   split at e
   ·rename_i d0 h1 h2 h3
    have h1:j / P.cellsOf e0<m0:=by simpa [Nat.blt_eq] using h1
    have h3:0<P.cellsOf e0:=by simpa [Nat.blt_eq] using h3
    have:=hf _ h1
    have hi2:j / P.cellsOf e0<xs.length:=by omega
    rw [List.getElem?_eq_getElem hi2] at this
    rw [List.getElem?_map,List.getElem?_eq_getElem hi2] at h2
    simp only [Option.map_some,Option.some.injEq] at h2
    have hd:xs[j / P.cellsOf e0]=(d0,(xs[j / P.cellsOf e0]).2):=by rw [← h2]
    rw [hd] at this
    have:=ih this e
    have hm:=Nat.mod_lt j h3
    rw [List.getElem?_take] at this
    simp only [hm,if_true,List.getElem?_drop] at this
    have hdm:j / P.cellsOf e0 * P.cellsOf e0+j % P.cellsOf e0=j:=by rw [Nat.mul_comm]; exact Nat.div_add_mod _ _
    rwa [hdm] at this
   ·simp at e
  ·simp at e
theorem laidVars_mem {P:Program} {w:World}:∀ {laid:List (String × DataW Unit)} {ps:List MemPlace},DataW.LaidVars P w laid ps→∀ x ∈ laid,
  ∃ g t cs fuel p,P.globalNamed x.1=some g∧(P.globals[g]?).map (·.type)=some t∧w.var? P x.1=some cs∧DataW.trod (fun _=>()) P w 0 (fun _=>true) false fuel t cs.toList=some (x.2,p)
 | [],_,_,x,hx=>by simp at hx
 | (n,d) :: r,_,h,x,hx=>by
  obtain ⟨g,t,cs,fuel,p,q,h1,h2,h3,h4,h5,_⟩:=h
  rcases List.mem_cons.1 hx with rfl|hx
  ·exact ⟨g,t,cs,fuel,p,h1,h2,h3,h4⟩
  ·exact laidVars_mem h5 x hx
def knownOf (P:Program) (laid:List (String × DataW Unit)):List (Nat × List Value):=laid.filterMap fun x =>
 match P.globalNamed x.1 with
 | some g=>match (P.globals[g]?).map (·.type) with
  | some t=>((List.range (P.cellsOf t)).mapM (rdAt P 8 t x.2)).map fun l=>(g,l)
  | none=>none
 | none=>none
theorem mapM_get {α β:Type} {f:α→Option β}:∀ {l:List α} {r:List β},l.mapM f=some r→∀ (i:Nat) (y:β),r[i]?=some y→∃ x,l[i]?=some x∧f x=some y
 | [],r,h,i,y,hy=>by
  simp at h; subst h; simp at hy
 | a :: l,r,h,i,y,hy=>by
  rw [List.mapM_cons] at h
  simp only [Option.bind_eq_bind,Option.bind_eq_some_iff,Option.pure_def,Option.some.injEq] at h
  obtain ⟨b,hb,r',hr,rfl⟩:=h
  cases i with
  | zero=>simp at hy; subst hy; exact ⟨a,rfl,hb⟩
  | succ i=>simpa using mapM_get hr i y (by simpa using hy)
theorem known_ok {P:Program} {w:World} {laid:List (String × DataW Unit)} (h:laidMet P laid w) {x:Nat × List Value} (hx:x ∈ knownOf P laid) :
  ∃ C T fz,w.heap[x.1]?=some (.cells C T fz)∧∀ (j:Nat) (v:Value),x.2[j]?=some v→C[j]?=some v:=by
 obtain ⟨ps,hl,_⟩:=h
 obtain ⟨y,hy,e⟩:=List.mem_filterMap.1 hx
 obtain ⟨g,t,cs,fuel,p,h1,h2,h3,h4⟩:=laidVars_mem hl y hy
 simp only [h1,h2] at e
 simp only [Option.map_eq_some_iff] at e
 obtain ⟨l,hl,rfl⟩:=e
 unfold World.var? at h3
 simp only [h1,Option.bind_some] at h3
 split at h3
 ·rename_i C T fz hw
  simp only [Option.some.injEq] at h3
  subst h3
  refine ⟨_,T,fz,hw,fun j v hv=>?_⟩
  obtain ⟨i,hi,hr⟩:=mapM_get hl j v hv
  have:i=j:=by
   rw [List.getElem?_range] at hi
   ·simpa using hi.symm
   ·rcases Nat.lt_or_ge j (P.cellsOf t) with h|h
    ·exact h
    ·rw [List.getElem?_eq_none (by simpa using h)] at hi; simp at hi
  subst this
  have:=rdAt_ok 8 h4 hr
  simpa using this
 ·simp at h3
end Go.Aev
end
section
set_option linter.unusedSimpArgs false
set_option linter.unusedVariables false
namespace Go.Aev
open Go Go.RowKit Go.WideShapes Go.ChangeShapes
theorem trodAll_stays {H:Type} {enc:TypeId × Value→H} {P:Program} (hl:laidOutB P=true) {W W':World} {sp:Nat→Bool}:∀ {ts:List TypeId} {vs:List Value} {ds:List (DataW H)} {ps:List MemPlace},
  (ts.all fun t=>P.readableRec t && Nat.blt t P.types.size)=true→DataW.TrodAll enc P W 0 (fun _=>true) true ts vs ds ps→(∀ x ∈ ps,W.sameAt W' x)→(∀ x ∈ ps,sp x.block=true)→DataW.TrodAll enc P W' 0 sp true ts vs ds ps
 | [],[],[],_,_,h,_,_=>h
 | t :: ts,v :: vs,d :: ds,_,hr,h,hs,hp=>by
  obtain ⟨p,q,h1,h2,rfl⟩:=h
  simp only [List.all_cons,Bool.and_eq_true,Nat.blt_eq] at hr
  exact ⟨p,q,WideElems.Trod_stays hl hr.1.1 hr.1.2 h1 (fun x hx=>hs x (by simp [hx])) (fun x hx=>hp x (by simp [hx])),
   trodAll_stays hl hr.2 h2 (fun x hx=>hs x (by simp [hx])) (fun x hx=>hp x (by simp [hx])),rfl⟩
 | [],[],_ :: _,_,_,h,_,_=>h.elim
 | [],_ :: _,_,_,_,h,_,_=>h.elim
 | _ :: _,[],_,_,_,h,_,_=>h.elim
 | _ :: _,_ :: _,[],_,_,h,_,_=>h.elim
theorem law_post {H:Type} {enc:TypeId × Value→H} {P:Program} {fn:Func} {s:ChangeSpec} {tb:TypeId} {apart fresh handsOn again:Bool} (hv:s.vars=[]) (hl:laidOutB P=true)
  (hread:(fn.params.toList.all fun t=>P.readableRec t && Nat.blt t P.types.size)=true) (hres:fn.resultTypes=#[tb]) (htb:P.underlying tb=some .bool) {W W':World} {args:Array Value} {ds gs:List (DataW H)} {before:List MemPlace}
  (hW:DataW.Whole enc P fn.params.toList s.vars apart W args.toList ds gs before) (hs:s.fn H ds={ results:=[.lit (.bool true)],args:=ds }) (hb:Below W.heap.size W W'):s.post enc P fn apart fresh handsOn again W args (.bool true) W':=by
 have hlt:∀ x ∈ before,x.block<W.heap.size:=fun x hx=>hW.lt x hx
 have hW0:=hW
 obtain ⟨p,q,hA,hV,rfl,hz,hn⟩:=hW0
 rw [hv] at hV
 obtain ⟨rfl,rfl⟩:=trodVars_none hV
 have hsame:∀ x ∈ p,W.sameAt W' x:=fun x hx=>hb.same (hlt x (by simp [hx]))
 have hR:∀ (b:Nat) (sp:Nat→Bool) (hd:Bool),DataW.TrodAll enc P W' b sp hd fn.resultTypes.toList ((Value.bool true).resultList fn.resultTypes.size) [.lit (.bool true)] []:=by
  intro b sp hd; rw [hres]; exact trodAll_mk1 (shut_bool htb true)
 have hvar:∀ sp:Nat→Bool,DataW.TrodVars enc P W' sp s.vars [] []:=by intro sp; rw [hv]; rfl
 have hA2:∀ sp:Nat→Bool,(∀ x ∈ p,sp x.block=true)→DataW.TrodAll enc P W' 0 sp true fn.params.toList args.toList ds p:=fun sp h=>trodAll_stays hl hread hA hsame h
 have e:s.fn H (ds++[])={ results:=[.lit (.bool true)],args:=ds }:=by rw [List.append_nil]; exact hs
 refine ⟨ds,[],p++[],[],p,[],hW,?_,?_,?_,?_,fun _=>⟨?_,ds.cons (.lit (.bool true)),[],p++[],?_,fun x hx _=>hx⟩⟩
 ·rw [e]; exact hR _ _ _
 ·rw [e]; exact hA2 _ (fun x hx=>by simpa using hlt x (by simp [hx]))
 ·rw [e]; exact hvar _
 ·exact World.keptBut_mono (fun x hx=>⟨hx,by simp at hx; simp [hx]⟩) (hb.frame (· ∈ p++[]))
 ·exact ok_one hres rfl (okWide_bool_mk htb _)
 ·refine ⟨p,[],trodAll_append (hA2 _ (fun _ _=>rfl)) (hR _ _ _),hvar _,rfl,fun b off hx=>?_,hn⟩
  rw [hb.frozen (hlt _ hx)]
  exact hz b off hx
theorem law_lifted {C:Checked} {os:Os} {H:Type} {enc:TypeId × Value→H} {f:FuncId} {fn:Func} {s:ChangeSpec} {laid:List (String × DataW Unit)} {tb:TypeId} {apart fresh handsOn again:Bool}
  (own:ownKnob C.prog.godebug=none) (started:os.Started) (noInit:C.prog.inits.idxOf? f=none) (hfn:C.prog.funcs[f]?=some fn) (hplain:(laid.all fun x=>x.2.handleName?.isNone)=true)
  (hv:s.vars=[]) (hl:laidOutB C.prog=true) (hread:(fn.params.toList.all fun t=>C.prog.readableRec t && Nat.blt t C.prog.types.size)=true) (hres:fn.resultTypes=#[tb]) (htb:C.prog.underlying tb=some .bool)
  (hs:∀ ds:List (DataW H),ds.length=fn.params.size→s.fn H ds={ results:=[.lit (.bool true)],args:=ds })
  (witness:∃ (w:World) (tape:Tape) (i:Input),w.os=os∧(w.forCall tape i).Shaped C.prog∧i.vars=[]∧Input.okWide C.prog (w.forCall tape i) .any w.heap.size f i ∧
   ((s.pre enc C.prog fn [] apart (w.forCall tape i).memory i.args∧laidMetH C.prog laid (w.forCall tape i).memory)∧sizedMet enc C.prog fn (OpenSpec.ofChange s) apart (w.forCall tape i).memory i.args)∧Assume.holds {} C.prog (lone (Frame.enter C.prog f i.args .normal) [] (w.forCall tape i)))
  (calls:∀ (W:World) (base:Nat) (args:Array Value) (ds:List (DataW H)) (p:List MemPlace),(∀ (j:Nat) t v,fn.params[j]?=some t→args[j]?=some v→Value.okWide C.prog W .any base t v) →
   DataW.TrodAll enc C.prog W 0 (fun _=>true) true fn.params.toList args.toList ds p→(∀ x ∈ p,x.block<W.heap.size)→(DataW.weightsEach C.prog fn.params.toList ds).all (·≤reachBytes)=true→laidMet C.prog laid W →
   Calls C.prog f args W fun e W'=>e=.returned (.bool true)∧Below W.heap.size W W') :
  ReturnsInHanded {} C os f .any (fun w args=>(s.pre enc C.prog fn [] apart w args∧laidMetH C.prog laid w)∧sizedMet enc C.prog fn (OpenSpec.ofChange s) apart w args) (s.post enc C.prog fn apart fresh handsOn again):=by
 refine returnsInHanded_of_change_and (C:=C) (X:=fun w _=>laidMetH C.prog laid w) (fun _ _ _ hh h=>h.of_heap hh) own started noInit hfn witness ?_
 intro W base args ds gs before hval hW _ hwt hL _
 rw [MakeChecks.laidMetH_plain _ _ _ hplain] at hL
 have hW0:=hW
 obtain ⟨p,q,hA,hV,rfl,hz,hn⟩:=hW0
 rw [hv] at hV
 obtain ⟨rfl,rfl⟩:=trodVars_none hV
 have hlen:ds.length=fn.params.size:=by
  have:=trodAll_length hA
  simp at this
  omega
 refine (calls W base args ds p hval hA (fun x hx=>hW.lt x (by simp [hx])) ?_ hL).mono fun e W' ⟨he,hb⟩=>⟨_,he,law_post hv hl hread hres htb hW (hs ds hlen) hb⟩
 have:s.plain.varTypes C.prog=[]:=by simp [ChangeSpec.plain,DataSpec.varTypes,hv]
 rw [this] at hwt
 simpa using hwt
end Go.Aev
end
