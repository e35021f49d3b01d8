import Derived.Test.YtpaipdipkgnpdaaGreatAE4
section
set_option linter.unusedSimpArgs false
set_option linter.unusedVariables false
namespace Go.Aev
open Go Go.RowKit Go.WideShapes Go.ChangeShapes
class Rep (α:Type) where
 n:Nat
 rep:AS→List Value→α→Prop
 len:∀ {S:AS} {cs:List Value} {x:α},rep S cs x→cs.length=n
 agree:∀ {S S':AS} {cs:List Value} {x:α},rep S cs x→Agree S S'→rep S' cs x
instance (priority:=low) repFlat {α:Type} [Cel α]:Rep α:=⟨(Cel.n α),fun _ cs x=>cs=cellsOf x,fun h=>by rw [h,cellsOf_len],fun h _=>h⟩
instance repBool:Rep Bool:=⟨1,fun _ cs x=>cs=[.bool x],fun h=>by rw [h]; rfl,fun h _=>h⟩
instance repStr:Rep ByteArray:=⟨1,fun _ cs x=>cs=[.string x],fun h=>by rw [h]; rfl,fun h _=>h⟩
structure Pr (α β:Type) where
 a:α
 b:β
instance repUnit:Rep Unit:=⟨0,fun _ cs _=>cs=[],fun h=>by rw [h]; rfl,fun h _=>h⟩
instance repPr {α β:Type} [Rep α] [Rep β]:Rep (Pr α β):=⟨Rep.n α+Rep.n β,fun S cs x=>∃ c1 c2,cs=c1++c2∧Rep.rep S c1 x.a∧Rep.rep S c2 x.b,
 fun ⟨c1,c2,e,h1,h2⟩=>by rw [e,List.length_append,Rep.len h1,Rep.len h2],fun ⟨c1,c2,e,h1,h2⟩ ha=>⟨c1,c2,e,Rep.agree h1 ha,Rep.agree h2 ha⟩⟩
def LstR {α:Type} [Rep α] (S:AS) (v:Value) (l:List α):Prop :=
 (l=[]∧(v=.slice none 0 0∨v=.slice (some ⟨0,0,some 0⟩) 0 0)) ∨
 ∃ id off c ty cap wr ex,v=.slice (some ⟨id,off,none⟩) l.length cap∧l.length≤cap∧S.heap.get id=some (.cells c ty (Rep.n α) wr ex)∧id<S.next ∧
  ∀ i x,l[i]?=some x→∃ cs,Rep.rep S cs x∧∀ j,j<Rep.n α→c[off+i * Rep.n α+j]?=cs[j]?
theorem LstR.agree {α:Type} [Rep α] {S S':AS} {v:Value} {l:List α} (h:LstR S v l) (ha:Agree S S'):LstR S' v l:=by
 rcases h with h|⟨id,off,c,ty,cap,wr,ex,h1,h2,h3,h4,h5⟩
 ·exact .inl h
 ·exact .inr ⟨id,off,c,ty,cap,wr,ex,h1,h2,(ha.2 id h4).trans h3,Nat.lt_of_lt_of_le h4 ha.1,fun i x hx=>let ⟨cs,k1,k2⟩:=h5 i x hx; ⟨cs,Rep.agree k1 ha,k2⟩⟩
instance (priority:=low) repList {α:Type} [Rep α]:Rep (List α):=⟨1,fun S cs x=>∃ v,cs=[v]∧LstR S v x,fun ⟨v,e,_⟩=>by rw [e]; rfl,fun ⟨v,e,h⟩ ha=>⟨v,e,h.agree ha⟩⟩
theorem LstR.flat {α:Type} [Cel α] {S:AS} {v:Value} {l:List α} (h:LstR S v l):Lst S v l:=by
 rcases h with ⟨rfl,h⟩|⟨id,off,c,ty,cap,wr,ex,h1,h2,h3,h4,h5⟩
 ·exact .inl ⟨rfl,h⟩
 ·refine .inr ⟨id,off,c,ty,cap,wr,ex,by simpa using h1,by simpa using h2,h3,h4,fun i ns hi j hj=>?_⟩
  obtain ⟨cs,rfl,k2⟩:=h5 i ns hi
  exact k2 j hj
def ARL (σ:Sig) (cs' cs:List Value):Prop:=cs'.length=cs.length∧∀ (i:Nat) (v v':Value),cs'[i]?=some v→cs[i]?=some v'→VR σ v v'
theorem ARL.mono {σ τ:Sig} {a b:List Value} (h:ARL σ a b) (hle:σ.le τ):ARL τ a b:=⟨h.1,fun i v v' h1 h2=>(h.2 i v v' h1 h2).mono hle⟩
theorem ARL.nil (σ:Sig):ARL σ [] []:=⟨rfl,fun i v v' h=>by simp at h⟩
theorem ARL.one {σ:Sig} {v v':Value} (h:VR σ v v'):ARL σ [v] [v']:=⟨rfl,fun i a b h1 h2=>by
 cases i with
 | zero=>simp at h1 h2; subst h1; subst h2; exact h
 | succ i=>simp at h1⟩
theorem ARL.append {σ:Sig} {a b c d:List Value} (h:ARL σ a b) (k:ARL σ c d):ARL σ (a++c) (b++d):=by
 refine ⟨by simp [h.1,k.1],fun i v v' h1 h2=>?_⟩
 rw [List.getElem?_append] at h1 h2
 rw [h.1] at h1
 split at h1
 ·rename_i hi; rw [if_pos hi] at h2; exact h.2 i v v' h1 h2
 ·rename_i hi; rw [if_neg hi] at h2; exact k.2 _ v v' h1 h2
section
variable (P:Program)
def Opens (t:TypeId) (α:Type) [Rep α]:Prop :=
 P.cellsOf t=Rep.n α∧∀ (H:Type) (enc:TypeId × Value→H) (W:World) (fuel:Nat) (cs:List Value) (x:DataW H × List MemPlace) (G:Nat) (σ:Sig) (S:AS),
  DataW.trod enc P W 0 (fun _=>true) true fuel t cs=some x→HR W.heap.size W G σ S W →
  ∃ σ' S' cs' a,σ.le σ'∧HR W.heap.size W G σ' S' W∧Agree S S'∧ARL σ' cs' cs∧Rep.rep (α:=α) S' cs' a
def OpensF (l:List Field) (off:Nat) (α:Type) [Rep α]:Prop :=
 ∀ (H:Type) (enc:TypeId × Value→H) (W:World) (m:Nat) (cs:List Value) (G:Nat) (σ:Sig) (S:AS),
  off+Rep.n α≤cs.length→(∀ f ∈ l,∃ x,DataW.trod enc P W 0 (fun _=>true) true m f.type ((cs.drop f.offset).take (P.cellsOf f.type))=some x)→HR W.heap.size W G σ S W →
  ∃ σ' S' cs' a,σ.le σ'∧HR W.heap.size W G σ' S' W∧Agree S S'∧ARL σ' cs' ((cs.drop off).take (Rep.n α))∧Rep.rep (α:=α) S' cs' a
end
section
variable {P:Program} {t:TypeId}
theorem Opens.int (hu:P.underlying t=some (.int .i64)) (hc:P.cellsOf t=1):Opens P t Int:=by
 refine ⟨hc,fun H enc W fuel cs x G σ S h hr=>?_⟩
 obtain ⟨n,rfl,_,_⟩:=DataW.trod_int hu h
 exact ⟨σ,S,_,n,Sig.le_refl _,hr,Agree.refl S,ARL.one (.int _ _),rfl⟩
theorem Opens.bool (hu:P.underlying t=some .bool) (hc:P.cellsOf t=1):Opens P t Bool:=by
 refine ⟨hc,fun H enc W fuel cs x G σ S h hr=>?_⟩
 obtain ⟨n,rfl,_⟩:=DataW.trod_bool hu h
 exact ⟨σ,S,_,n,Sig.le_refl _,hr,Agree.refl S,ARL.one (.bool _),rfl⟩
theorem Opens.str (hu:P.underlying t=some .string) (hc:P.cellsOf t=1):Opens P t ByteArray:=by
 refine ⟨hc,fun H enc W fuel cs x G σ S h hr=>?_⟩
 obtain ⟨n,rfl,_⟩:=DataW.trod_string hu h
 exact ⟨σ,S,_,n,Sig.le_refl _,hr,Agree.refl S,ARL.one (.str _),rfl⟩
theorem OpensF.nil (off:Nat):OpensF P [] off Unit:=by
 intro H enc W m cs G σ S _ _ hr
 exact ⟨σ,S,[],(),Sig.le_refl _,hr,Agree.refl S,by show ARL σ [] (List.take 0 _); rw [List.take_zero]; exact ARL.nil σ,rfl⟩
theorem OpensF.cons {f:Field} {l:List Field} {off:Nat} {α β:Type} [Rep α] [Rep β] (h1:Opens P f.type α) (ho:f.offset=off) (h2:OpensF P l (off+Rep.n α) β):OpensF P (f :: l) off (Pr α β):=by
 intro H enc W m cs G σ S hl hx hr
 have hl:off+(Rep.n α+Rep.n β)≤cs.length:=hl
 obtain ⟨x,hx1⟩:=hx f (by simp)
 rw [ho,h1.1] at hx1
 obtain ⟨σ1,S1,c1,a,le1,hr1,ag1,ar1,rp1⟩:=h1.2 H enc W m _ x G σ S hx1 hr
 obtain ⟨σ2,S2,c2,b,le2,hr2,ag2,ar2,rp2⟩:=h2 H enc W m cs G σ1 S1 (by omega) (fun g hg=>hx g (by simp [hg])) hr1
 refine ⟨σ2,S2,c1++c2,⟨a,b⟩,Sig.le_trans le1 le2,hr2,ag1.trans ag2,?_,c1,c2,rfl,Rep.agree rp1 ag2,rp2⟩
 have:=(ar1.mono le2).append ar2
 show ARL σ2 _ ((cs.drop off).take (Rep.n α+Rep.n β))
 rw [List.take_add,List.drop_drop]
 exact this
theorem Opens.struct {fs:Array Field} {α:Type} [Rep α] (hu:P.underlying t=some (.struct fs)) (h:OpensF P fs.toList 0 α) (hc:P.cellsOf t=Rep.n α):Opens P t α:=by
 refine ⟨hc,fun H enc W fuel cs x G σ S hx hr=>?_⟩
 obtain ⟨xs,m,_,_,hlen,hl,hf⟩:=DataW.trod_struct hu hx
 obtain ⟨σ1,S1,c1,a,le1,hr1,ag1,ar1,rp1⟩:=h H enc W m cs G σ S (by omega) (fun f hf'=>by
  obtain ⟨i,hi,e⟩:=List.getElem_of_mem hf'
  have hi':i<fs.size:=by simpa using hi
  have e':fs[i]?=some f:=by rw [← e]; simp [hi']
  have:=hf i f e'
  rw [this]
  exact ⟨_,List.getElem?_eq_getElem (by omega)⟩) hr
 refine ⟨σ1,S1,c1,a,le1,hr1,ag1,?_,rp1⟩
 rw [List.drop_zero,← hc,← hlen,List.take_length] at ar1
 exact ar1
theorem Opens.map {α β:Type} [Rep α] [Rep β] (h:Opens P t α) (hn:Rep.n α=Rep.n β) (f:α→β) (hf:∀ S cs a,Rep.rep (α:=α) S cs a→Rep.rep (α:=β) S cs (f a)):Opens P t β:=by
 refine ⟨h.1.trans hn,fun H enc W fuel cs x G σ S hx hr=>?_⟩
 obtain ⟨σ1,S1,c1,a,le1,hr1,ag1,ar1,rp1⟩:=h.2 H enc W fuel cs x G σ S hx hr
 exact ⟨σ1,S1,c1,f a,le1,hr1,ag1,ar1,hf _ _ _ rp1⟩
theorem HR.windowG {B:Nat} {w0:World} {G:Nat} {σ:Sig} {S:AS} {w:World} (h:HR B w0 G σ S w) {b off:Nat} {C:Array Value} {Ty:TypeId} {fz:Nat × Nat} {c:List Value} (ty sz:Nat) (hb:b<B) (hw:w.heap[b]?=some (.cells C Ty fz))
  (hcs:∀ (j:Nat) (v:Value),c[j]?=some v→∃ v',C[off+j]?=some v'∧VR σ v v') :
  HR B w0 G (σ.more S.next ⟨b,off,C.size,sz⟩) (S.push (.cells c ty sz false false)) w:=by
 have hle:=Sig.more_le (L:=⟨b,off,C.size,sz⟩) h.fresh
 have hlt:b<w.heap.size:=(Array.getElem?_eq_some_iff.1 hw).1
 refine ⟨h.below,h.hB,?_,?_,?_,fun g hg=>let ⟨M,h1,h2⟩:=h.glob g hg; ⟨M,hle _ _ h1,h2⟩⟩
 ·intro id M hM
  unfold Sig.more at hM
  by_cases hi:id=S.next
  ·rw [if_pos hi] at hM; cases hM; exact ⟨by simp [AS.push,hi],hlt⟩
  ·rw [if_neg hi] at hM; have:=h.dom id M hM; simp [AS.push]; omega
 ·intro id d hd
  simp only [AS.push,T.get_set] at hd
  by_cases hi:id=S.next
  ·rw [if_pos hi] at hd; cases hd
   subst hi
   exact ⟨_,C,Ty,fz,Sig.more_self _ _ _,hw,rfl,rfl,fun hx=>by simp at hx,fun hx=>by simp at hx,fun j v hv=>let ⟨v',k1,k2⟩:=hcs j v hv; ⟨v',k1,k2.mono hle⟩⟩
  ·rw [if_neg hi] at hd; exact (h.blk id d hd).more h.fresh hi
 ·intro id id' d d' M M' hd hl hd' hl' hM hM' e hm
  simp only [AS.push,T.get_set] at hd hd'
  unfold Sig.more at hM hM'
  by_cases hi:id=S.next<;>by_cases hi':id'=S.next
  ·rw [hi,hi']
  ·rw [if_pos hi] at hM hd; rw [if_neg hi'] at hM' hd'; cases hM; cases hd
   have:=(h.blk id' d' hd').low (by simpa [ABlk.mut] using hm) hM'
   simp only at e; omega
  ·rw [if_neg hi] at hM hd; rw [if_pos hi'] at hM' hd'; cases hM'; cases hd'
   have:=(h.blk id d hd).low (by simpa [ABlk.mut] using hm) hM
   simp only at e; omega
  ·rw [if_neg hi] at hM hd; rw [if_neg hi'] at hM' hd'
   exact h.inj _ _ _ _ M M' hd hl hd' hl' hM hM' e hm
theorem slice_cells {H:Type} {enc:TypeId × Value→H} {W:World} {e:TypeId} {fuel:Nat} {cs:List Value} {x:DataW H × List MemPlace} (hpos:0<P.cellsOf e) (hu:P.underlying t=some (.slice e)) (hf:DataW.trod enc P W 0 (fun _=>true) true fuel t cs=some x) :
  cs=[.slice none 0 0]∨(∃ a cap,cs=[.slice (some a) 0 cap]) ∨
  ∃ b off len cap C T fz m,cs=[.slice (some ⟨b,off,none⟩) len cap]∧0<len∧len≤cap∧W.heap[b]?=some (.cells C T fz)∧off+cap * P.cellsOf e≤C.size ∧
   ∀ i,i<len→∃ es y,es.length=P.cellsOf e∧(∀ j,j<P.cellsOf e→C[off+i * P.cellsOf e+j]?=es[j]?)∧DataW.trod enc P W 0 (fun _=>true) true m e es=some y:=by
 rcases DataW.trod_slice hu hf with ⟨hc,_⟩|⟨a,len,cap,elems,rest,m,_,hc,_,_,hl,_,he,hE,hR,_⟩
 ·exact .inl hc
 ·right
  by_cases h0:len=0
  ·subst h0; exact .inl ⟨a,cap,hc⟩
  right
  obtain ⟨hrl,hR⟩:=hR rfl
  have key:∀ i,i<cap→∃ es y,W.cells? 0 (a.add (i * P.cellsOf e)) (P.cellsOf e)=some es∧DataW.trod enc P W 0 (fun _=>true) true m e es=some y:=by
   intro i hi
   by_cases hil:i<len
   ·have:=hE i hil
    rw [List.getElem?_eq_getElem (by omega)] at this
    obtain ⟨es,h1,h2⟩:=Option.bind_eq_some_iff.1 this
    exact ⟨es,_,h1,h2⟩
   ·have:=hR (i - len) (by omega)
    rw [List.getElem?_eq_getElem (by omega),show len+(i - len)=i by omega] at this
    obtain ⟨es,h1,h2⟩:=Option.bind_eq_some_iff.1 this
    exact ⟨es,_,h1,h2⟩
  have some_at:∀ i,i<cap→∀ j,j<P.cellsOf e→∃ u,W.cell? ((a.add (i * P.cellsOf e)).add j)=some u:=by
   intro i hi j hj
   obtain ⟨es,y,h1,_⟩:=key i hi
   obtain ⟨h3,h4⟩:=cells_get h1
   exact ⟨es[j],by rw [h4 j hj,List.getElem?_eq_getElem (by omega)]⟩
  obtain ⟨u,hu0⟩:=some_at 0 (by omega) 0 hpos
  have ha0:(a.add (0 * P.cellsOf e)).add 0=a:=by simp [Addr.add]
  rw [ha0] at hu0
  obtain ⟨hs,C,T,fz,hw,_⟩:=cell_of hu0
  have at_:∀ i j,W.cell? ((a.add (i * P.cellsOf e)).add j)=C[a.off+i * P.cellsOf e+j]?:=by
   intro i j
   rw [addr_two hs]
   simp [World.cell?,hw]
  refine ⟨a.block,a.off,len,cap,C,T,fz,m,?_,by omega,hl,hw,?_,fun i hi=>?_⟩
  ·obtain ⟨b,o,s⟩:=a
   simp only at hs
   subst hs
   exact hc
  ·obtain ⟨u,hu⟩:=some_at (cap - 1) (by omega) (P.cellsOf e - 1) (by omega)
   rw [at_] at hu
   have hlt:=(Array.getElem?_eq_some_iff.1 hu).1
   have:cap * P.cellsOf e=(cap - 1) * P.cellsOf e+P.cellsOf e:=by
    rw [← Nat.succ_mul]; congr 1; omega
   omega
  ·obtain ⟨es,y,h1,h2⟩:=key i (by omega)
   obtain ⟨h3,h4⟩:=cells_get h1
   exact ⟨es,y,h3,fun j hj=>by rw [← h4 j hj,at_],h2⟩
theorem open_each {H:Type} {enc:TypeId × Value→H} {W:World} {e:TypeId} {α:Type} [Rep α] (ho:Opens P e α) {G:Nat} {C:Array Value} {off len m:Nat}
  (hE:∀ i,i<len→∃ es y,es.length=P.cellsOf e∧(∀ j,j<P.cellsOf e→C[off+i * P.cellsOf e+j]?=es[j]?)∧DataW.trod enc P W 0 (fun _=>true) true m e es=some y) :
  ∀ (k:Nat),k≤len→∀ {σ:Sig} {S:AS},HR W.heap.size W G σ S W→∃ σ' S',∃ css:List (List Value),∃ l:List α,σ.le σ'∧HR W.heap.size W G σ' S' W∧Agree S S'∧css.length=k∧l.length=k∧(∀ z ∈ css,z.length=Rep.n α) ∧
   (∀ (i:Nat) (cs:List Value) (x:α),css[i]?=some cs→l[i]?=some x→Rep.rep S' cs x) ∧
   ∀ (i:Nat) (cs:List Value),css[i]?=some cs→∀ (j:Nat) (v:Value),cs[j]?=some v→∃ v',C[off+i * Rep.n α+j]?=some v'∧VR σ' v v':=by
 intro k
 induction k with
 | zero=>intro _ σ S hr; exact ⟨σ,S,[],[],Sig.le_refl _,hr,Agree.refl S,rfl,rfl,fun z hz=>by simp at hz,fun i cs x h=>by simp at h,fun i cs h=>by simp at h⟩
 | succ k ih =>
  intro hk σ S hr
  obtain ⟨σ1,S1,css,l,le1,hr1,ag1,k1,k2,k3,k4,k5⟩:=ih (by omega) hr
  obtain ⟨es,y,e1,e2,e3⟩:=hE k (by omega)
  obtain ⟨σ2,S2,c2,a,le2,hr2,ag2,ar2,rp2⟩:=ho.2 H enc W m es y G σ1 S1 e3 hr1
  refine ⟨σ2,S2,css++[c2],l++[a],Sig.le_trans le1 le2,hr2,ag1.trans ag2,by simp [k1],by simp [k2],fun z hz=>?_,fun i cs x h1 h2=>?_,fun i cs h1 j v h2=>?_⟩
  ·rcases List.mem_append.1 hz with hz|hz
   ·exact k3 z hz
   ·rw [List.mem_singleton] at hz; subst hz; exact Rep.len rp2
  ·rw [List.getElem?_append] at h1 h2
   rw [k1] at h1
   rw [k2] at h2
   split at h1
   ·rename_i hi; rw [if_pos hi] at h2; exact Rep.agree (k4 i cs x h1 h2) ag2
   ·rename_i hi
    rw [if_neg hi] at h2
    cases hq:i - k with
    | zero=>rw [hq] at h1 h2; simp at h1 h2; subst h1; subst h2; exact rp2
    | succ q=>rw [hq] at h1; simp at h1
  ·rw [List.getElem?_append] at h1
   rw [k1] at h1
   split at h1
   ·obtain ⟨v',q1,q2⟩:=k5 i cs h1 j v h2; exact ⟨v',q1,q2.mono le2⟩
   ·rename_i hi
    cases hq:i - k with
    | succ q=>rw [hq] at h1; simp at h1
    | zero =>
     rw [hq] at h1
     simp at h1
     subst h1
     have hik:i=k:=by
      have:i<k+1:=by
       rename_i h1'
       omega
      omega
     subst hik
     have hj:j<P.cellsOf e:=by have:=(List.getElem?_eq_some_iff.1 h2).1; have:=Rep.len rp2; rw [ho.1]; omega
     have hes:j<es.length:=by omega
     refine ⟨es[j],?_,ar2.2 j v es[j] h2 (List.getElem?_eq_getElem hes)⟩
     rw [← ho.1,e2 j hj,List.getElem?_eq_getElem hes]
theorem Opens.slice {e:TypeId} {α:Type} [Rep α] (hu:P.underlying t=some (.slice e)) (ho:Opens P e α) (hpos:0<Rep.n α) (hc:P.cellsOf t=1):Opens P t (List α):=by
 refine ⟨hc,fun H enc W fuel cs x G σ S hx hr=>?_⟩
 rcases slice_cells (by rw [ho.1]; exact hpos) hu hx with rfl|⟨a,cap,rfl⟩|⟨b,off,len,cap,C,T,fz,m,rfl,h1,h2,h3,h4,h5⟩
 ·exact ⟨σ,S,[.slice none 0 0],[],Sig.le_refl _,hr,Agree.refl S,ARL.one .sl0,_,rfl,.inl ⟨rfl,.inl rfl⟩⟩
 ·exact ⟨σ,S,[.slice (some ⟨0,0,some 0⟩) 0 0],[],Sig.le_refl _,hr,Agree.refl S,ARL.one .slg,_,rfl,.inl ⟨rfl,.inr rfl⟩⟩
 ·obtain ⟨σ1,S1,css,l,le1,hr1,ag1,k1,k2,k3,k4,k5⟩:=open_each ho h5 len (Nat.le_refl _) hr
  have hfl:=flat_len css k3
  have hlen:len * Rep.n α≤cap * Rep.n α:=Nat.mul_le_mul_right _ h2
  rw [ho.1] at h4
  have hw:=hr1.windowG (off:=off) (c:=css.flatten) 0 (Rep.n α) (Array.getElem?_eq_some_iff.1 h3).1 h3 (fun j u hj=>by
   have hj2:j<len * Rep.n α:=by have:=(List.getElem?_eq_some_iff.1 hj).1; rw [hfl,k1] at this; exact this
   have hi:j / Rep.n α<len:=Nat.div_lt_of_lt_mul (by rw [Nat.mul_comm]; exact hj2)
   have hm:=Nat.mod_lt j hpos
   have hcs:css[j / Rep.n α]?=some css[j / Rep.n α]:=List.getElem?_eq_getElem (by omega)
   have e1:j=j / Rep.n α * Rep.n α+j % Rep.n α:=(Nat.div_add_mod' j _).symm
   rw [e1,flat_get _ k3 _ _ hcs _ hm] at hj
   obtain ⟨v',q1,q2⟩:=k5 _ _ hcs _ u hj
   exact ⟨v',by rw [e1,← Nat.add_assoc]; exact q1,q2⟩)
  have ag2:Agree S1 (S1.push (.cells css.flatten 0 (Rep.n α) false false)):=⟨by simp [AS.push],fun id hid=>push_ne _ _ (by omega)⟩
  refine ⟨_,_,[.slice (some ⟨S1.next,0,none⟩) len len],l,Sig.le_trans le1 (Sig.more_le hr1.fresh),hw,ag1.trans ag2,ARL.one ?_,_,rfl,.inr ⟨S1.next,0,_,0,len,false,false,by rw [k2],by rw [k2]; exact Nat.le_refl _,by rw [push_eq _ _ rfl],by simp [AS.push],fun i x hx=>?_⟩⟩
  ·exact VR.sl (L:=⟨b,off,C.size,Rep.n α⟩) (off:=0) (Sig.more_self _ _ _) h2 h2 (fun _=>by simpa using h4)
  ·have hi:i<len:=by have:=(List.getElem?_eq_some_iff.1 hx).1; omega
   have hcs:css[i]?=some css[i]:=List.getElem?_eq_getElem (by omega)
   refine ⟨css[i],Rep.agree (k4 i _ x hcs hx) ag2,fun j hj=>?_⟩
   rw [Nat.zero_add,flat_get _ k3 _ _ hcs _ hj]
theorem HR.argO {G:Nat} {σ:Sig} {S:AS} {W:World} {H:Type} {enc:TypeId × Value→H} {α:Type} [Rep α] (ho:Opens P t α) (hr:HR W.heap.size W G σ S W) {v:Value} {d:DataW H} {ps:List MemPlace} (h:DataW.Trod enc P W 0 (fun _=>true) true t v d ps) :
  ∃ σ' S' cs' a,σ.le σ'∧HR W.heap.size W G σ' S' W∧Agree S S'∧ARL σ' cs' v.cells.toList∧Rep.rep (α:=α) S' cs' a:=by
 obtain ⟨fuel,hf⟩:=h
 exact ho.2 H enc W fuel _ _ G σ S hf hr
end
end Go.Aev
end
section
set_option linter.unusedSimpArgs false
set_option linter.unusedVariables false
namespace Go.Aev
open Go Go.RowKit
section
variable {P:Program} {E:Env} {r:Rec}
variable (dst:Option Tmp) (ty:TypeId) (pos:String) (after:Array Edge) (g:Option (Nat × Bool)) (f:Fr) (S:AS)
theorem firstOfC {x:Option (Value × AS)} {o:Oper} (h:∀ z,x=some z→evOp P E r o f S=some z):evOpB P E r o f S=firstOf x (evOpB P E r o f S):=by
 cases x with
 | none=>rfl
 | some z=>exact h z rfl
def evOpC (P:Program) (E:Env) (r:Rec) (o:Oper) (f:Fr) (S:AS):Option (Value × AS):=evOpB P E r o f S
theorem op_makeMap (t:TypeId):evOp P E r ⟨dst,.makeMap t none,ty,pos,after,g⟩ f S=some (.map (some S.next),S.push (.mapb [] 0)):=by
 have hs:evSimple P ⟨dst,.makeMap t none,ty,pos,after,g⟩ (fun x=>(f.val E.G x).getD undef) S=some (some (.map (some S.next)),S.push (.mapb [] 0)):=by
  simp only [evSimple,evStruct,aMakeMap,Option.map_none,Option.map_some]
 simp [evOp,Op.operands,vals,hs]
theorem op_lookup (t:TypeId) (x k:Operand) (c:Bool):evOp P E r ⟨dst,.lookup t x k c,ty,pos,after,g⟩ f S=firstOf ((f.val E.G x).bind fun m=>(f.val E.G k).bind fun u=>(aLookup P t m u c S).map fun v=>(v,S)) (evOpB P E r ⟨dst,.lookup t x k c,ty,pos,after,g⟩ f S):=by
 refine firstOf_of fun z hz=>?_
 obtain ⟨m,hm,hz⟩:=Option.bind_eq_some_iff.1 hz
 obtain ⟨u,hu,hz⟩:=Option.bind_eq_some_iff.1 hz
 obtain ⟨v,hv,rfl⟩:=Option.map_eq_some_iff.1 hz
 exact op_struct2 (z:=(some v,S)) dst ty pos after g f S rfl (by simp) (by simp) (by simp) (by simp) hm hu (by simp [evStruct,hm,hu,hv])
theorem op_mapUpdate (t:TypeId) (x k v:Operand):evOp P E r ⟨dst,.mapUpdate t x k v,ty,pos,after,g⟩ f S=firstOf ((f.val E.G x).bind fun m=>(f.val E.G k).bind fun u=>(f.val E.G v).bind fun y=>(aMapUpdate P t m u y S).map fun S'=>(undef,S')) (evOpB P E r ⟨dst,.mapUpdate t x k v,ty,pos,after,g⟩ f S):=by
 refine firstOf_of fun z hz=>?_
 obtain ⟨m,hm,hz⟩:=Option.bind_eq_some_iff.1 hz
 obtain ⟨u,hu,hz⟩:=Option.bind_eq_some_iff.1 hz
 obtain ⟨y,hy,hz⟩:=Option.bind_eq_some_iff.1 hz
 obtain ⟨S',hS,rfl⟩:=Option.map_eq_some_iff.1 hz
 have hs:evSimple P ⟨dst,.mapUpdate t x k v,ty,pos,after,g⟩ (fun x=>(f.val E.G x).getD undef) S=some (none,S'):=by
  simp only [evSimple,evStruct,hm,hu,hy,hS,Option.getD_some,Option.map_some]
 have hv:vals f E.G [x,k,v]=some [m,u,y]:=by simp [vals,hm,hu,hy]
 simp [evOp,Op.operands,hv,hs]
theorem op_makeFunc1 (k:FuncId) (y:Operand):evOp P E r ⟨dst,.makeFunc (.func k) #[] #[y],ty,pos,after,g⟩ f S=firstOf ((f.val E.G y).map fun v=>(.func (.func k) #[] #[v],S)) (evOpB P E r ⟨dst,.makeFunc (.func k) #[] #[y],ty,pos,after,g⟩ f S):=by
 refine firstOf_of fun z hz=>?_
 obtain ⟨v,hv,rfl⟩:=Option.map_eq_some_iff.1 hz
 have hs:evSimple P ⟨dst,.makeFunc (.func k) #[] #[y],ty,pos,after,g⟩ (fun x=>(f.val E.G x).getD undef) S=some (some (.func (.func k) #[] #[v]),S):=by
  simp [evSimple,evStruct,hv]
 have hk:f.val E.G (.func k)=some (.func (.func k) #[] #[]):=rfl
 simp [evOp,Op.operands,vals,hv,hs,hk]
theorem op_makeFunc2 (k:FuncId) (y y2:Operand):evOp P E r ⟨dst,.makeFunc (.func k) #[] #[y,y2],ty,pos,after,g⟩ f S=firstOf ((f.val E.G y).bind fun v=>(f.val E.G y2).map fun v2=>(.func (.func k) #[] #[v,v2],S)) (evOpB P E r ⟨dst,.makeFunc (.func k) #[] #[y,y2],ty,pos,after,g⟩ f S):=by
 refine firstOf_of fun z hz=>?_
 obtain ⟨v,hv,hz⟩:=Option.bind_eq_some_iff.1 hz
 obtain ⟨v2,hv2,rfl⟩:=Option.map_eq_some_iff.1 hz
 have hs:evSimple P ⟨dst,.makeFunc (.func k) #[] #[y,y2],ty,pos,after,g⟩ (fun x=>(f.val E.G x).getD undef) S=some (some (.func (.func k) #[] #[v,v2]),S):=by
  simp [evSimple,evStruct,hv,hv2]
 have hk:f.val E.G (.func k)=some (.func (.func k) #[] #[]):=rfl
 simp [evOp,Op.operands,vals,hv,hv2,hs,hk]
theorem ba_beq (a b:ByteArray):(a == b)=decide (a=b):=by
 by_cases h:a=b
 ·subst h; rw [ba_refl,decide_eq_true rfl]
 ·rw [decide_eq_false h,Bool.eq_false_iff]
  exact fun hb=>h (ba_eq hb)
theorem str_list (a b:ByteArray):(a.toList == b.toList)=(a == b):=by
 have h:∀ x:ByteArray,x.toList=x.data.toList:=ByteArray.toList_eq
 rw [h,h]
 cases a with
 | mk x =>
  cases b with
  | mk y =>
   show (x.toList == y.toList)=(x == y)
   by_cases e:x=y
   ·subst e; simp
   ·have:¬ x.toList=y.toList:=fun h=>e (Array.toList_inj.1 h)
    rw [beq_eq_false_iff_ne.2 this,beq_eq_false_iff_ne.2 e]
def strEq (d:Option TypeDesc) (u v:Option Value) (n:Bool) (S:AS):Option (Value × AS) :=
 match d,u,v with
 | some .string,some (.string a),some (.string b)=>some (.bool (n ^^ decide (a=b)),S)
 | _,_,_=>none
theorem opB_eql (t t2:TypeId) (x y:Operand):evOpB P E r ⟨dst,.binOp .eql t x y t2,ty,pos,after,g⟩ f S=firstOf (strEq (P.underlying t) (f.val E.G x) (f.val E.G y) false S) (evOpC P E r ⟨dst,.binOp .eql t x y t2,ty,pos,after,g⟩ f S):=by
 refine firstOfC f S fun z hz=>?_
 unfold strEq at hz
 split at hz
 ·rename_i a b hu hx hy
  simp only [Option.some.injEq] at hz
  subst hz
  have h0:at0 P (execOp (fun x=>(f.val E.G x).getD undef) ⟨dst,.binOp .eql t x y t2,ty,pos,after,g⟩)=some (.value (.bool (a == b))):=by
   simp [execOp,hx,hy,eqGuard,binOp,at0_bind,at0_map,Op.stringOp,at0_pure,str_list]
  have hf:evFlat P ⟨dst,.binOp .eql t x y t2,ty,pos,after,g⟩ (fun x=>(f.val E.G x).getD undef)=some (.bool (a == b)):=by
   simp [evFlat,flatKind,Op.operands,hx,hy,selfB,h0]
  have hs:evStruct P ⟨dst,.binOp .eql t x y t2,ty,pos,after,g⟩ (fun x=>(f.val E.G x).getD undef) S=none:=by simp [evStruct,hx,hy,aEqs,aEqAgg,aEq,hu]
  rw [Bool.false_xor,← ba_beq]
  simp [evOp,Op.operands,vals_two hx hy,evSimple,hs,hf]
 ·simp at hz
end
section
variable {α:Type} [Rep α]
theorem LstR.len {S:AS} {v:Value} {l:List α} (h:LstR S v l) {P:Program} {t e:TypeId} (hu:P.underlying t=some (.slice e)):lenV P t v=some (.int .i64 (l.length:Int)):=by
 rcases h with ⟨rfl,rfl|rfl⟩|⟨id,off,c,ty,cap,wr,ex,rfl,h⟩
 ·simp [lenV,hu]
 ·simp [lenV,hu]
 ·simp [lenV,hu]
theorem LstR.at {S:AS} {v:Value} {l:List α} (h:LstR S v l) {P:Program} {t e:TypeId} (hu:P.underlying t=some (.slice e)) (hs:szOf P e=some (Rep.n α)) {i:Nat} {x:α} (hx:l[i]?=some x) :
  ∃ id o c ty wr ex cs,aIndexAddr P t v (.int .i64 (i:Int))=some (.pointer (some ⟨id,o,none⟩))∧S.heap.get id=some (.cells c ty (Rep.n α) wr ex)∧id<S.next∧Rep.rep S cs x ∧
   ∀ j,j<Rep.n α→c[o+j]?=cs[j]?:=by
 have hi:i<l.length:=(List.getElem?_eq_some_iff.1 hx).1
 rcases h with ⟨rfl,_⟩|⟨id,off,c,ty,cap,wr,ex,rfl,_,h2,h3,h4⟩
 ·simp at hi
 ·obtain ⟨cs,k1,k2⟩:=h4 i x hx
  refine ⟨id,off+i * Rep.n α,c,ty,wr,ex,cs,?_,h2,h3,k1,k2⟩
  have hb:inB (i:Int) l.length=true:=inBnd hi
  simp [aIndexAddr,hu,hs,hb,addr_add]
end
section
variable {β:Type}
end
end Go.Aev
end
