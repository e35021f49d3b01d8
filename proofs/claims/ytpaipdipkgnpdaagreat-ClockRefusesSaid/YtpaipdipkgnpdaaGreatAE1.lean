import Derived.RangeFuncIn
import Derived.LoopNIn
import Derived.Orders
import Derived.Below
import Derived.KernelRfl
import Derived.Laws.Strings
import Derived.Laws.Tables
import Derived.IntWalk
import Derived.Lib.UnsafeStr
section
namespace Go.Aev
open Go Go.RowKit
inductive T (α:Type) where
 | lf
 | nd (l:T α) (v:Option α) (r:T α)
def T.get {α:Type}:T α→Nat→Option α
 | .lf,_=>none
 | .nd l v r,n =>
  match Nat.beq n 0 with
  | true=>v
  | false =>
   match Nat.beq (n % 2) 1 with
   | true=>l.get (n / 2)
   | false=>r.get (n / 2 - 1)
def T.setF {α:Type}:Nat→T α→Nat→Option α→T α
 | 0,t,_,_=>t
 | f+1,.lf,n,x =>
  match Nat.beq n 0 with
  | true=>.nd .lf x .lf
  | false =>
   match Nat.beq (n % 2) 1 with
   | true=>.nd (T.setF f .lf (n / 2) x) none .lf
   | false=>.nd .lf none (T.setF f .lf (n / 2 - 1) x)
 | f+1,.nd l v r,n,x =>
  match Nat.beq n 0 with
  | true=>.nd l x r
  | false =>
   match Nat.beq (n % 2) 1 with
   | true=>.nd (T.setF f l (n / 2) x) v r
   | false=>.nd l v (T.setF f r (n / 2 - 1) x)
def T.set {α:Type} (t:T α) (n:Nat) (x:Option α):T α:=T.setF (n+1) t n x
theorem T.get_setF {α:Type} (x:Option α):∀ (f:Nat) (t:T α) (n m:Nat),n<f→(T.setF f t n x).get m=if m=n then x else t.get m:=by
 intro f
 induction f with
 | zero=>intro t n m h; omega
 | succ f ih =>
  intro t n m h
  have key:∀ (l:T α) (v:Option α) (r:T α),(match Nat.beq n 0 with
    | true=>T.nd l x r
    | false=>match Nat.beq (n % 2) 1 with
     | true=>.nd (T.setF f l (n / 2) x) v r
     | false=>.nd l v (T.setF f r (n / 2 - 1) x)).get m=if m=n then x else (T.nd l v r).get m:=by
   intro l v r
   cases hn0:Nat.beq n 0 with
   | true =>
    have hn:n=0:=Nat.eq_of_beq_eq_true hn0
    subst hn
    cases hm0:Nat.beq m 0 with
    | true=>have hm:m=0:=Nat.eq_of_beq_eq_true hm0; subst hm; simp [T.get]
    | false=>have hm:m≠0:=Nat.ne_of_beq_eq_false hm0; simp [T.get,hm0,hm]
   | false =>
    have hn:n≠0:=Nat.ne_of_beq_eq_false hn0
    cases hn1:Nat.beq (n % 2) 1 with
    | true =>
     have hn2:n % 2=1:=Nat.eq_of_beq_eq_true hn1
     simp only
     cases hm0:Nat.beq m 0 with
     | true=>have hm:m=0:=Nat.eq_of_beq_eq_true hm0; subst hm; simp [T.get,hn.symm]
     | false =>
      have hm:m≠0:=Nat.ne_of_beq_eq_false hm0
      cases hm1:Nat.beq (m % 2) 1 with
      | true =>
       have hm2:m % 2=1:=Nat.eq_of_beq_eq_true hm1
       simp only [T.get,hm0,hm1]
       rw [ih l (n / 2) (m / 2) (by omega)]
       have:(m / 2=n / 2)↔(m=n):=by omega
       simp [this]
      | false =>
       have hm2:m % 2≠1:=Nat.ne_of_beq_eq_false hm1
       have:m≠n:=by omega
       simp [T.get,hm0,hm1,this]
    | false =>
     have hn2:n % 2≠1:=Nat.ne_of_beq_eq_false hn1
     simp only
     cases hm0:Nat.beq m 0 with
     | true=>have hm:m=0:=Nat.eq_of_beq_eq_true hm0; subst hm; simp [T.get,hn.symm]
     | false =>
      have hm:m≠0:=Nat.ne_of_beq_eq_false hm0
      cases hm1:Nat.beq (m % 2) 1 with
      | true =>
       have hm2:m % 2=1:=Nat.eq_of_beq_eq_true hm1
       have:m≠n:=by omega
       simp [T.get,hm0,hm1,this]
      | false =>
       have hm2:m % 2≠1:=Nat.ne_of_beq_eq_false hm1
       simp only [T.get,hm0,hm1]
       rw [ih r (n / 2 - 1) (m / 2 - 1) (by omega)]
       have:(m / 2 - 1=n / 2 - 1)↔(m=n):=by omega
       simp [this]
  cases t with
  | nd l v r=>exact key l v r
  | lf =>
   have h1:=key .lf none .lf
   have e:(T.nd (.lf:T α) none .lf).get m=(T.lf:T α).get m:=by
    cases hm0:Nat.beq m 0<;>simp only [T.get,hm0]
    cases Nat.beq (m % 2) 1<;>rfl
   rw [e] at h1
   exact h1
theorem T.get_set {α:Type} (t:T α) (n m:Nat) (x:Option α):(t.set n x).get m=if m=n then x else t.get m :=
 T.get_setF x _ t n m (by omega)
structure Loc where
 blk:Nat
 off:Nat
 ext:Nat
 sz:Nat
abbrev Sig:=Nat→Option Loc
def Sig.le (σ τ:Sig):Prop:=∀ i L,σ i=some L→τ i=some L
theorem Sig.le_refl (σ:Sig):σ.le σ:=fun _ _ h=>h
theorem Sig.le_trans {σ τ υ:Sig} (h:σ.le τ) (k:τ.le υ):σ.le υ:=fun i L e=>k i L (h i L e)
structure ALoop where
 state:LoopState
 pending:Option Code
 t:T Value
 m:Nat
 params:Array Tmp
 assign:Code
 body:Code
inductive ABlk where
 | cells (c:List Value) (ty:TypeId) (sz:Nat) (wr ex:Bool)
 | loop (l:ALoop)
 | dfd (o:Bool)
 | mapb (es:List (Value × Value)) (clock:Nat)
 | resv
 | gone
structure AS where
 heap:T ABlk
 next:Nat
def oneB:Value→Bool
 | .agg _=>false
 | .tuple _=>false
 | _=>true
inductive VR (σ:Sig):Value→Value→Prop
 | bool (b:Bool):VR σ (.bool b) (.bool b)
 | int (k:IntKind) (n:Int):VR σ (.int k n) (.int k n)
 | float (k:FloatKind) (b:Nat):VR σ (.float k b) (.float k b)
 | complex (k:FloatKind) (a b:Nat):VR σ (.complex k a b) (.complex k a b)
 | str (s:ByteArray):VR σ (.string s) (.string s)
 | p0:VR σ (.pointer none) (.pointer none)
 | p {id off:Nat} {L:Loc} (h:σ id=some L):VR σ (.pointer (some ⟨id,off,none⟩)) (.pointer (some ⟨L.blk,L.off+off,none⟩))
 | sl0:VR σ (.slice none 0 0) (.slice none 0 0)
 | sl {id off:Nat} {L:Loc} {len cap cap':Nat} (h:σ id=some L) (hc:cap≤cap') (hl:len≤cap') (he:L.sz≠0→L.off+off+cap' * L.sz≤L.ext) :
   VR σ (.slice (some ⟨id,off,none⟩) len cap) (.slice (some ⟨L.blk,L.off+off,none⟩) len cap')
 | slg {a:Addr} {cap':Nat}:VR σ (.slice (some ⟨0,0,some 0⟩) 0 0) (.slice (some a) 0 cap')
 | slz {a:Addr}:VR σ (.slice (some ⟨0,0,some 1⟩) 0 0) (.slice (some a) 0 0)
 | unk {v:Value} (h:oneB v=true):VR σ (.chan (some 0)) v
 | map0:VR σ (.map none) (.map none)
 | mp {id:Nat} {L:Loc} (h:σ id=some L):VR σ (.map (some id)) (.map (some L.blk))
 | chan0:VR σ (.chan none) (.chan none)
 | nilFunc:VR σ .nilFunc .nilFunc
 | nilIface:VR σ .nilIface .nilIface
 | iface (t:TypeId) {v v':Value} (h:VR σ v v'):VR σ (.iface t v) (.iface t v')
 | agg {cs cs':Array Value} (hs:cs.size=cs'.size) (h:∀ i,i<cs.size→VR σ (cs.getD i undef) (cs'.getD i undef)):VR σ (.agg cs) (.agg cs')
 | tup {cs cs':Array Value} (hs:cs.size=cs'.size) (h:∀ i,i<cs.size→VR σ (cs.getD i undef) (cs'.getD i undef)):VR σ (.tuple cs) (.tuple cs')
 | fn (f:FuncId) {cs cs' ds ds':Array Value} (hs:cs.size=cs'.size) (h:∀ i,i<cs.size→VR σ (cs.getD i undef) (cs'.getD i undef))
   (ks:ds.size=ds'.size) (k:∀ i,i<ds.size→VR σ (ds.getD i undef) (ds'.getD i undef)):VR σ (.func (.func f) cs ds) (.func (.func f) cs' ds')
 | yield {l:Nat} {L:Loc} (h:σ l=some L):VR σ (.func (.yield l) #[] #[]) (.func (.yield L.blk) #[] #[])
theorem VR.mono {σ τ:Sig} (hle:σ.le τ) {a b:Value} (h:VR σ a b):VR τ a b:=by
 induction h with
 | bool b=>exact .bool b
 | int k n=>exact .int k n
 | float k b=>exact .float k b
 | complex k a b=>exact .complex k a b
 | str s=>exact .str s
 | p0=>exact .p0
 | p h=>exact .p (hle _ _ h)
 | sl0=>exact .sl0
 | sl h hc hl he=>exact .sl (hle _ _ h) hc hl he
 | slg=>exact .slg
 | slz=>exact .slz
 | unk h=>exact .unk h
 | map0=>exact .map0
 | mp h=>exact .mp (hle _ _ h)
 | chan0=>exact .chan0
 | nilFunc=>exact .nilFunc
 | nilIface=>exact .nilIface
 | iface t _ ih=>exact .iface t ih
 | agg hs _ ih=>exact .agg hs ih
 | tup hs _ ih=>exact .tup hs ih
 | fn f hs _ ks _ ih ik=>exact .fn f hs ih ks ik
 | yield h=>exact .yield (hle _ _ h)
def AR (σ:Sig) (cs cs':Array Value):Prop:=cs.size=cs'.size∧∀ i,i<cs.size→VR σ (cs.getD i undef) (cs'.getD i undef)
theorem AR.mono {σ τ:Sig} (hle:σ.le τ) {a b:Array Value} (h:AR σ a b):AR τ a b:=⟨h.1,fun i hi=>(h.2 i hi).mono hle⟩
theorem AR.empty (σ:Sig):AR σ #[] #[]:=⟨rfl,fun i hi=>by simp at hi⟩
theorem AR.get {σ:Sig} {a b:Array Value} (h:AR σ a b) {i:Nat} {v:Value} (e:a[i]?=some v):∃ v',b[i]?=some v'∧VR σ v v':=by
 obtain ⟨hi,rfl⟩:=Array.getElem?_eq_some_iff.1 e
 have hb:i<b.size:=h.1 ▸ hi
 refine ⟨b[i],by simp [hb],?_⟩
 have:=h.2 i hi
 simpa [Array.getD,hi,hb] using this
theorem AR.of_get {σ:Sig} {a b:Array Value} (hs:a.size=b.size) (h:∀ (i:Nat) (v v':Value),a[i]?=some v→b[i]?=some v'→VR σ v v'):AR σ a b:=by
 refine ⟨hs,fun i hi=>?_⟩
 have hb:i<b.size:=hs ▸ hi
 have:=h i a[i] b[i] (by simp [hi]) (by simp [hb])
 simpa [Array.getD,hi,hb] using this
theorem AR.push {σ:Sig} {a b:Array Value} (h:AR σ a b) {v v':Value} (hv:VR σ v v'):AR σ (a.push v) (b.push v'):=by
 refine AR.of_get (by simp [h.1]) (fun i x y hx hy=>?_)
 rw [Array.getElem?_push] at hx hy
 rw [h.1] at hx
 by_cases hi:i=b.size
 ·simp [hi] at hx hy; subst hx; subst hy; exact hv
 ·simp [hi] at hx hy
  obtain ⟨z,hz,r⟩:=h.get hx
  rw [hz] at hy; cases hy; exact r
theorem AR.append {σ:Sig} {a b c d:Array Value} (h:AR σ a b) (k:AR σ c d):AR σ (a++c) (b++d):=by
 refine AR.of_get (by simp [h.1,k.1]) (fun i x y hx hy=>?_)
 rw [Array.getElem?_append] at hx hy
 rw [h.1] at hx
 split at hx
 ·rename_i hi
  rw [if_pos hi] at hy
  obtain ⟨z,hz,r⟩:=h.get hx; rw [hz] at hy; cases hy; exact r
 ·rename_i hi
  rw [if_neg hi] at hy
  obtain ⟨z,hz,r⟩:=k.get hx; rw [hz] at hy; cases hy; exact r
theorem VR.agg_iff {σ:Sig} {cs:Array Value} {v:Value}:VR σ (.agg cs) v↔∃ cs',v=.agg cs'∧AR σ cs cs' :=
 ⟨fun h=>by cases h with|agg hs h=>exact ⟨_,rfl,hs,h⟩,fun ⟨_,e,h⟩=>e ▸ .agg h.1 h.2⟩
theorem VR.tup_iff {σ:Sig} {cs:Array Value} {v:Value}:VR σ (.tuple cs) v↔∃ cs',v=.tuple cs'∧AR σ cs cs' :=
 ⟨fun h=>by cases h with|tup hs h=>exact ⟨_,rfl,hs,h⟩,fun ⟨_,e,h⟩=>e ▸ .tup h.1 h.2⟩
theorem AR.single {σ:Sig} {v v':Value} (h:VR σ v v'):AR σ #[v] #[v']:=by
 have:=(AR.empty σ).push h
 simpa using this
theorem VR.cells {σ:Sig} {v v':Value} (h:VR σ v v'):AR σ v.cells v'.cells:=by
 cases h with
 | agg hs h=>exact ⟨hs,h⟩
 | bool b=>exact AR.single (.bool b)
 | int k n=>exact AR.single (.int k n)
 | float k b=>exact AR.single (.float k b)
 | complex k a b=>exact AR.single (.complex k a b)
 | str s=>exact AR.single (.str s)
 | p0=>exact AR.single .p0
 | p h=>exact AR.single (.p h)
 | sl0=>exact AR.single .sl0
 | sl h hc hl he=>exact AR.single (.sl h hc hl he)
 | slg=>exact AR.single .slg
 | slz=>exact AR.single .slz
 | unk h =>
  have:v'.cells=#[v']:=by cases v'<;>first|rfl|simp [oneB] at h
  rw [this]; exact AR.single (.unk h)
 | map0=>exact AR.single .map0
 | mp h=>exact AR.single (.mp h)
 | chan0=>exact AR.single .chan0
 | nilFunc=>exact AR.single .nilFunc
 | nilIface=>exact AR.single .nilIface
 | iface t h=>exact AR.single (.iface t h)
 | tup hs h=>exact AR.single (.tup hs h)
 | fn f hs h ks k=>exact AR.single (.fn f hs h ks k)
 | yield h=>exact AR.single (.yield h)
def selfB:Nat→Value→Bool
 | 0,_=>false
 | n+1,v =>
  match v with
  | .bool _|.int _ _|.float _ _|.complex _ _ _|.string _=>true
  | .pointer none|.map none|.chan none|.nilFunc|.nilIface=>true
  | .slice none 0 0=>true
  | .iface _ v=>selfB n v
  | .agg cs=>cs.toList.all (selfB n)
  | .tuple cs=>cs.toList.all (selfB n)
  | .func (.func _) cs ds=>cs.toList.isEmpty && ds.toList.isEmpty
  | _=>false
theorem AR.of_all {σ:Sig} {cs:Array Value} (h:∀ v,v ∈ cs.toList→VR σ v v):AR σ cs cs:=by
 refine AR.of_get rfl (fun i v v' e e'=>?_)
 rw [e] at e'; cases e'
 exact h v (by rw [Array.mem_toList_iff]; exact Array.mem_of_getElem? e)
theorem selfB_spec (σ:Sig):∀ (n:Nat) (v:Value),selfB n v=true→VR σ v v:=by
 intro n
 induction n with
 | zero=>intro v h; simp [selfB] at h
 | succ n ih =>
  intro v h
  unfold selfB at h
  split at h<;>first|(simp at h; done)|skip
  ·exact .bool _
  ·exact .int _ _
  ·exact .float _ _
  ·exact .complex _ _ _
  ·exact .str _
  ·exact .p0
  ·exact .map0
  ·exact .chan0
  ·exact .nilFunc
  ·exact .nilIface
  ·exact .sl0
  ·exact .iface _ (ih _ h)
  ·rw [VR.agg_iff]; exact ⟨_,rfl,AR.of_all fun v hv=>ih v (List.all_eq_true.1 h v hv)⟩
  ·rw [VR.tup_iff]; exact ⟨_,rfl,AR.of_all fun v hv=>ih v (List.all_eq_true.1 h v hv)⟩
  ·simp only [Bool.and_eq_true,List.isEmpty_iff] at h
   obtain ⟨h1,h2⟩:=h
   exact .fn _ rfl (fun i hi=>by rw [← Array.length_toList,h1] at hi; simp at hi) rfl (fun i hi=>by rw [← Array.length_toList,h2] at hi; simp at hi)
def TR (σ:Sig) (t:T Value) (m:Nat) (tmps:Array Value):Prop:=tmps.size=m∧∀ (i:Nat) (v:Value),t.get i=some v→∃ v',tmps[i]?=some v'∧VR σ v v'
theorem TR.mono {σ τ:Sig} (hle:σ.le τ) {t:T Value} {m:Nat} {tmps:Array Value} (h:TR σ t m tmps):TR τ t m tmps :=
 ⟨h.1,fun i v e=>let ⟨v',e',r⟩:=h.2 i v e; ⟨v',e',r.mono hle⟩⟩
section
variable (B:Nat) (w0:World) (G:Nat)
def BR (σ:Sig) (w:World) (id:Nat):ABlk→Prop
 | .cells c ty sz wr ex=>∃ L C T fz,σ id=some L∧w.heap[L.blk]?=some (.cells C T fz)∧C.size=L.ext∧L.sz=sz∧(wr=true→fz=(0,0)∧B≤L.blk∧T=ty) ∧
   (ex=true→T=ty∧L.off=0∧C.size=c.length) ∧
   ∀ (j:Nat) (v:Value),c[j]?=some v→∃ v',C[L.off+j]?=some v'∧VR σ v v'
 | .loop l=>∃ L l',σ id=some L∧B≤L.blk∧w.heap[L.blk]?=some (.loop l')∧l'.state=l.state∧l'.pending=l.pending∧l'.params=l.params ∧
   l'.assign=l.assign∧l'.body=l.body∧TR σ l.t l.m l'.tmps
 | .dfd o=>∃ L,σ id=some L∧B≤L.blk∧w.heap[L.blk]?=some (.deferred (if o then some [] else none))
 | .mapb es clock=>∃ L es',σ id=some L∧B≤L.blk∧w.heap[L.blk]?=some (.map es' clock)∧es'.size=es.length ∧
   ∀ (i:Nat) (k v:Value),es[i]?=some (k,v)→∃ e,es'[i]?=some e∧VR σ k e.key∧VR σ v e.val
 | .resv=>σ id=none
 | .gone=>True
def ABlk.live:ABlk→Bool
 | .gone=>false
 | .resv=>false
 | _=>true
def ABlk.mut:ABlk→Bool
 | .cells _ _ _ wr _=>wr
 | .gone=>false
 | .resv=>false
 | _=>true
structure HR (σ:Sig) (S:AS) (w:World):Prop where
 below:Below B w0 w
 hB:B≤w.heap.size
 dom:∀ id L,σ id=some L→id<S.next∧L.blk<w.heap.size
 blk:∀ id b,S.heap.get id=some b→BR B σ w id b
 inj:∀ id id' b b' L L',S.heap.get id=some b→b.live=true→S.heap.get id'=some b'→b'.live=true→σ id=some L→σ id'=some L'→L.blk=L'.blk→(b.mut || b'.mut)=true→id=id'
 glob:∀ g,g<G→∃ L,σ g=some L∧L.blk=g∧L.off=0
end
theorem BR.mono {B:Nat} {σ τ:Sig} (hle:σ.le τ) {w:World} {id:Nat} {b:ABlk} (h:BR B σ w id b) (hr:b=.resv→τ id=none):BR B τ w id b:=by
 cases b with
 | cells c ty sz wr ex =>
  obtain ⟨L,C,T,fz,h1,h2,h3,h4,h5,h7,h6⟩:=h
  exact ⟨L,C,T,fz,hle _ _ h1,h2,h3,h4,h5,h7,fun j v e=>let ⟨v',e',r⟩:=h6 j v e; ⟨v',e',r.mono hle⟩⟩
 | loop l =>
  obtain ⟨L,l',h1,h2,h3,h4,h5,h6,h7,h8,h9⟩:=h
  exact ⟨L,l',hle _ _ h1,h2,h3,h4,h5,h6,h7,h8,h9.mono hle⟩
 | dfd o =>
  obtain ⟨L,h1,h2,h3⟩:=h
  exact ⟨L,hle _ _ h1,h2,h3⟩
 | mapb es clock =>
  obtain ⟨L,es',h1,h2,h3,h4,h5⟩:=h
  exact ⟨L,es',hle _ _ h1,h2,h3,h4,fun i k v e=>let ⟨x,k1,k2,k3⟩:=h5 i k v e; ⟨x,k1,k2.mono hle,k3.mono hle⟩⟩
 | resv=>exact hr rfl
 | gone=>trivial
theorem BR.of_same {B:Nat} {σ:Sig} {w w':World} {id:Nat} {b:ABlk} (h:BR B σ w id b) (hs:b.live=true→∀ L,σ id=some L→w'.heap[L.blk]?=w.heap[L.blk]?):BR B σ w' id b:=by
 cases b with
 | cells c ty sz wr ex =>
  obtain ⟨L,C,T,fz,h1,h2,h3,h4,h5,h6⟩:=h
  exact ⟨L,C,T,fz,h1,(hs rfl L h1).trans h2,h3,h4,h5,h6⟩
 | loop l =>
  obtain ⟨L,l',h1,h2,h3,h4⟩:=h
  exact ⟨L,l',h1,h2,(hs rfl L h1).trans h3,h4⟩
 | dfd o =>
  obtain ⟨L,h1,h2,h3⟩:=h
  exact ⟨L,h1,h2,(hs rfl L h1).trans h3⟩
 | mapb es clock =>
  obtain ⟨L,es',h1,h2,h3,h4⟩:=h
  exact ⟨L,es',h1,h2,(hs rfl L h1).trans h3,h4⟩
 | resv=>exact h
 | gone=>trivial
theorem BR.sig {B:Nat} {σ:Sig} {w:World} {id:Nat} {b:ABlk} (h:BR B σ w id b) (hl:b.live=true):∃ L,σ id=some L:=by
 cases b with
 | cells c ty sz wr ex=>obtain ⟨L,_,_,_,h1,_⟩:=h; exact ⟨L,h1⟩
 | loop l=>obtain ⟨L,_,h1,_⟩:=h; exact ⟨L,h1⟩
 | dfd o=>obtain ⟨L,h1,_⟩:=h; exact ⟨L,h1⟩
 | mapb es clock=>obtain ⟨L,_,h1,_⟩:=h; exact ⟨L,h1⟩
 | resv=>simp [ABlk.live] at hl
 | gone=>simp [ABlk.live] at hl
end Go.Aev
end
section
namespace Go.Aev
open Go Go.RowKit
def AS.cell? (S:AS) (a:Addr):Option Value :=
 match a.spot with
 | some _=>none
 | none =>
  match S.heap.get a.block with
  | some (.cells c _ _ _ _)=>c[a.off]?
  | _=>none
def AS.put? (S:AS) (a:Addr) (v:Value):Option AS :=
 match a.spot with
 | some _=>none
 | none =>
  match S.heap.get a.block with
  | some (.cells c ty sz true ex) =>
   match Nat.ble (a.off+1) c.length with
   | true=>some { S with heap:=S.heap.set a.block (some (.cells (c.set a.off v) ty sz true ex)) }
   | false=>none
  | _=>none
def AS.push (S:AS) (b:ABlk):AS:={ heap:=S.heap.set S.next (some b),next:=S.next+1 }
def rowOf:Obj→Option (List Value × TypeId)
 | .cells c ty fz =>
  match Nat.beq fz.1 0,Nat.beq fz.2 0 with
  | true,true=>some (c.toList,ty)
  | _,_=>none
 | _=>none
def AS.shape? (S:AS) (r:Nat):Option (TypeId × Nat) :=
 match S.heap.get r with
 | some (.cells c ty _ _ true)=>some (ty,c.length)
 | _=>none
def ai (P:Program) (sz:Nat) {α:Type}:Sem α→AS→Option (α × AS)
 | .pure a,S=>some (a,S)
 | .load _ a k,S =>
  match S.cell? a with
  | some v=>ai P sz (k v) S
  | none=>none
 | .store _ a v k,S =>
  match oneB v with
  | false=>none
  | true =>
   match S.put? a v with
   | some S'=>ai P sz k S'
   | none=>none
 | .new o k,S =>
  match rowOf o with
  | some (c,ty)=>ai P sz (k S.next) (S.push (.cells c ty sz true true))
  | none=>none
 | .shape r k,S =>
  match S.shape? r with
  | some x=>ai P sz (k (some x)) S
  | none=>none
 | .program k,S=>ai P sz (k P) S
 | .mark _ k,S=>ai P sz k S
 | _,_=>none
theorem ai_bind (P:Program) (sz:Nat) {α β:Type} (f:α→Sem β):∀ (e:Sem α) (S:AS),ai P sz (e.bind f) S=match ai P sz e S with
  | some (a,S')=>ai P sz (f a) S'
  | none=>none:=by
 intro e
 induction e with
 | pure a=>intro S; simp [Sem.bind,ai]
 | load m a k ih=>intro S; simp only [Sem.bind,ai]; cases S.cell? a<;>simp [ih]
 | store m a v k ih=>intro S; simp only [Sem.bind,ai]; cases oneB v<;>simp; cases S.put? a v<;>simp [ih]
 | new o k ih =>
  intro S
  simp only [Sem.bind,ai]
  cases rowOf o<;>simp [ih]
 | program k ih=>intro S; simp [Sem.bind,ai,ih]
 | mark m k ih=>intro S; simp [Sem.bind,ai,ih]
 | shape r k ih=>intro S; simp only [Sem.bind,ai]; cases S.shape? r<;>simp [ih]
 | freeze a n k ih=>intro S; simp [Sem.bind,ai]
 | frozen a k ih=>intro S; simp [Sem.bind,ai]
 | getObj r k ih=>intro S; simp [Sem.bind,ai]
 | setObj r o k ih=>intro S; simp [Sem.bind,ai]
 | choose q k ih=>intro S; simp [Sem.bind,ai]
 | sys c k ih=>intro S; simp [Sem.bind,ai]
 | halt h=>intro S; simp [Sem.bind,ai]
section
variable {B:Nat} {w0:World} {G:Nat}
def AddrR (σ:Sig) (a a':Addr):Prop:=∃ L,σ a.block=some L∧a.spot=none∧a'=⟨L.blk,L.off+a.off,none⟩
theorem AddrR.add {σ:Sig} {a a':Addr} (h:AddrR σ a a') (n:Nat):AddrR σ (a.add n) (a'.add n):=by
 obtain ⟨L,h1,h2,rfl⟩:=h
 unfold Addr.add
 by_cases hn:n=0
 ·simp [hn]; exact ⟨L,h1,h2,rfl⟩
 ·simp only [hn,if_false]; exact ⟨L,h1,rfl,by simp [Nat.add_assoc]⟩
theorem AddrR.mono {σ τ:Sig} (hle:σ.le τ) {a a':Addr} (h:AddrR σ a a'):AddrR τ a a' :=
 let ⟨L,h1,h2⟩:=h; ⟨L,hle _ _ h1,h2⟩
theorem cell_inv {S:AS} {a:Addr} {v:Value} (e:S.cell? a=some v):∃ c ty sz wr ex,S.heap.get a.block=some (.cells c ty sz wr ex)∧c[a.off]?=some v:=by
 unfold AS.cell? at e
 split at e
 ·simp at e
 ·split at e
  ·rename_i c ty sz wr ex hg; exact ⟨c,ty,sz,wr,ex,hg,e⟩
  ·simp at e
theorem HR.cell {σ:Sig} {S:AS} {w:World} (h:HR B w0 G σ S w) {a a':Addr} (ha:AddrR σ a a') {v:Value} (e:S.cell? a=some v) :
  ∃ v',w.cell? a'=some v'∧VR σ v v':=by
 obtain ⟨c,ty,sz,wr,ex,hg,hc⟩:=cell_inv e
 obtain ⟨L,h1,h2,rfl⟩:=ha
 obtain ⟨L',C,Ty,fz,k1,k2,_,_,_,_,k6⟩:=h.blk _ _ hg
 rw [h1] at k1; cases k1
 obtain ⟨v',e',r⟩:=k6 _ _ hc
 exact ⟨v',by simp [World.cell?,k2,e'],r⟩
theorem put_inv {S S':AS} {a:Addr} {v:Value} (e:S.put? a v=some S'):∃ c ty sz ex,S.heap.get a.block=some (.cells c ty sz true ex)∧a.off<c.length ∧
  S'={ S with heap:=S.heap.set a.block (some (.cells (c.set a.off v) ty sz true ex)) }:=by
 unfold AS.put? at e
 split at e
 ·simp at e
 ·split at e
  ·rename_i c ty sz ex hg
   split at e
   ·rename_i hb; have:=Nat.le_of_ble_eq_true hb; exact ⟨c,ty,sz,ex,hg,by omega,by simpa using e.symm⟩
   ·simp at e
  ·simp at e
theorem HR.put {σ:Sig} {S S':AS} {w:World} (h:HR B w0 G σ S w) {a a':Addr} (ha:AddrR σ a a') {v v':Value} (hv:VR σ v v') (e:S.put? a v=some S') :
  (∃ u,w.cell? a'=some u)∧w.frozen? a'=false∧HR B w0 G σ S' (w.setCell a' v'):=by
 obtain ⟨c,ty,sz,ex,hg,hlt,rfl⟩:=put_inv e
 obtain ⟨L,h1,h2,rfl⟩:=ha
 obtain ⟨L',C,Ty,fz,k1,k2,k3,k4,k5,k7,k6⟩:=h.blk _ _ hg
 rw [h1] at k1; cases k1
 obtain ⟨rfl,kB,kT⟩:=k5 rfl
 obtain ⟨u,hu,_⟩:=k6 a.off c[a.off] (by simp [hlt])
 have hCs:L.off+a.off<C.size:=(Array.getElem?_eq_some_iff.1 hu).1
 have hblk:L.blk<w.heap.size:=(h.dom _ _ h1).2
 have same:∀ k,k≠L.blk→(w.setCell ⟨L.blk,L.off+a.off,none⟩ v').heap[k]?=w.heap[k]?:=fun k hk=>Below.heap_setCell _ _ _ _ hk
 have here:(w.setCell ⟨L.blk,L.off+a.off,none⟩ v').heap[L.blk]?=some (.cells (C.setIfInBounds (L.off+a.off) v') Ty (0,0)):=by
  simp [World.setCell,Array.getElem?_modify,k2]
 refine ⟨⟨u,by simp [World.cell?,k2,hu]⟩,by simp [World.frozen?,k2],?_⟩
 refine ⟨h.below.setCell (p:=⟨L.blk,L.off+a.off,none⟩) kB v',by simpa [World.setCell] using h.hB,fun id M hM=>by simpa [World.setCell] using h.dom id M hM,?_,?_,h.glob⟩
 ·intro id b hb
  simp only [T.get_set] at hb
  by_cases hid:id=a.block
  ·subst hid
   simp only [if_true,Option.some.injEq] at hb
   subst hb
   refine ⟨L,_,Ty,(0,0),h1,here,by simpa using k3,k4,fun _=>⟨rfl,kB,kT⟩,fun hx=>by simpa using k7 hx,fun j x hx=>?_⟩
   rw [List.getElem?_set] at hx
   by_cases hj:a.off=j
   ·subst hj
    simp [hlt] at hx; subst hx
    exact ⟨v',by simp [hCs],hv⟩
   ·rw [if_neg hj] at hx
    obtain ⟨x',hx',r⟩:=k6 _ _ hx
    exact ⟨x',by rw [Array.getElem?_setIfInBounds,if_neg (by omega)]; exact hx',r⟩
  ·rw [if_neg hid] at hb
   refine (h.blk id b hb).of_same (fun hl M hM=>same _ fun eM=>hid ?_)
   exact h.inj id a.block b _ M L hb hl hg rfl hM h1 eM (by simp [ABlk.mut])
 ·intro id id' b b' M M' hb hl hb' hl' hM hM' e hm
  simp only [T.get_set] at hb hb'
  by_cases hid:id=a.block
  ·by_cases hid':id'=a.block
   ·rw [hid,hid']
   ·rw [if_neg hid'] at hb'
    subst hid
    exact h.inj _ _ _ _ M M' hg rfl hb' hl' hM hM' e (by simp [ABlk.mut])
  ·rw [if_neg hid] at hb
   by_cases hid':id'=a.block
   ·subst hid'
    exact h.inj _ _ _ _ M M' hb hl hg rfl hM hM' e (by simp [ABlk.mut])
   ·rw [if_neg hid'] at hb'
    exact h.inj _ _ _ _ M M' hb hl hb' hl' hM hM' e hm
def Sig.more (σ:Sig) (n:Nat) (L:Loc):Sig:=fun i=>if i=n then some L else σ i
theorem Sig.more_le {σ:Sig} {n:Nat} {L:Loc} (h:σ n=none):σ.le (σ.more n L):=fun i M e=>by
 unfold Sig.more
 by_cases hi:i=n
 ·subst hi; rw [h] at e; cases e
 ·rw [if_neg hi]; exact e
theorem Sig.more_self (σ:Sig) (n:Nat) (L:Loc):(σ.more n L) n=some L:=by simp [Sig.more]
theorem HR.fresh {σ:Sig} {S:AS} {w:World} (h:HR B w0 G σ S w):σ S.next=none:=by
 cases e:σ S.next with
 | none=>rfl
 | some L=>have:=(h.dom _ _ e).1; omega
theorem BR.more {B:Nat} {σ:Sig} {w:World} {id n:Nat} {b:ABlk} {L:Loc} (h:BR B σ w id b) (hn:σ n=none) (hid:id≠n):BR B (σ.more n L) w id b :=
 h.mono (Sig.more_le hn) fun e=>by subst e; unfold Sig.more; rw [if_neg hid]; exact h
theorem HR.fill {σ:Sig} {S:AS} {w:World} (h:HR B w0 G σ S w) {n:Nat} (hr:S.heap.get n=some .resv) (hlt:n<S.next) {L:Loc} (hL:L.blk=w.heap.size) {o:Obj} {b:ABlk}
  (hb:BR B (σ.more n L) { w with heap:=w.heap.push o } n b) :
  HR B w0 G (σ.more n L) { S with heap:=S.heap.set n (some b) } { w with heap:=w.heap.push o }:=by
 have hn:σ n=none:=h.blk n _ hr
 have hle:=Sig.more_le (L:=L) hn
 have old:∀ k,k<w.heap.size→(w.heap.push o)[k]?=w.heap[k]?:=fun k hk=>by rw [Array.getElem?_push,if_neg (by omega)]
 refine ⟨h.below.alloc h.hB o,by simp; have:=h.hB; omega,?_,?_,?_,?_⟩
 ·intro id M hM
  unfold Sig.more at hM
  by_cases hi:id=n
  ·rw [if_pos hi] at hM; cases hM; simp [hi,hL,hlt]
  ·rw [if_neg hi] at hM; have:=h.dom id M hM; simp; omega
 ·intro id c hc
  simp only [T.get_set] at hc
  by_cases hi:id=n
  ·rw [if_pos hi] at hc; cases hc; rw [hi]; exact hb
  ·rw [if_neg hi] at hc
   exact ((h.blk id c hc).of_same (w':={ w with heap:=w.heap.push o }) (fun _ M hM=>old _ (h.dom id M hM).2)).more hn hi
 ·intro id id' c c' M M' hc hl hc' hl' hM hM' e hm
  simp only [T.get_set] at hc hc'
  unfold Sig.more at hM hM'
  by_cases hi:id=n<;>by_cases hi':id'=n
  ·rw [hi,hi']
  ·rw [if_pos hi] at hM; rw [if_neg hi'] at hM'; cases hM; have:=(h.dom _ _ hM').2; omega
  ·rw [if_neg hi] at hM; rw [if_pos hi'] at hM'; cases hM'; have:=(h.dom _ _ hM).2; omega
  ·rw [if_neg hi] at hM hc; rw [if_neg hi'] at hM' hc'
   exact h.inj _ _ _ _ M M' hc hl hc' hl' hM hM' e hm
 ·intro g hg
  obtain ⟨M,h1,h2⟩:=h.glob g hg
  exact ⟨M,hle _ _ h1,h2⟩
theorem HR.keep {σ:Sig} {S:AS} {w:World} (h:HR B w0 G σ S w):HR B w0 G σ (S.push .resv) w:=by
 refine ⟨h.below,h.hB,fun id L hL=>?_,fun id b hb=>?_,fun id id' b b' L L' hb hl hb' hl'=>?_,h.glob⟩
 ·have:=h.dom id L hL; simp [AS.push]; omega
 ·simp only [AS.push,T.get_set] at hb
  by_cases hi:id=S.next
  ·rw [if_pos hi] at hb; cases hb; subst hi; exact h.fresh
  ·rw [if_neg hi] at hb; exact h.blk id b hb
 ·simp only [AS.push,T.get_set] at hb hb'
  by_cases hi:id=S.next
  ·rw [if_pos hi] at hb; cases hb; simp [ABlk.live] at hl
  ·rw [if_neg hi] at hb
   by_cases hi':id'=S.next
   ·rw [if_pos hi'] at hb'; cases hb'; simp [ABlk.live] at hl'
   ·rw [if_neg hi'] at hb'; exact h.inj id id' b b' L L' hb hl hb' hl'
theorem HR.push {σ:Sig} {S:AS} {w:World} (h:HR B w0 G σ S w) {L:Loc} (hL:L.blk=w.heap.size) {o:Obj} {b:ABlk}
  (hb:BR B (σ.more S.next L) { w with heap:=w.heap.push o } S.next b) :
  HR B w0 G (σ.more S.next L) (S.push b) { w with heap:=w.heap.push o }:=by
 have hle:=Sig.more_le (L:=L) h.fresh
 have old:∀ k,k<w.heap.size→(w.heap.push o)[k]?=w.heap[k]?:=fun k hk=>by rw [Array.getElem?_push,if_neg (by omega)]
 refine ⟨h.below.alloc h.hB o,by simp; have:=h.hB; omega,?_,?_,?_,?_⟩
 ·intro id M hM
  unfold Sig.more at hM
  by_cases hi:id=S.next
  ·rw [if_pos hi] at hM; cases hM; simp [AS.push,hi,hL]
  ·rw [if_neg hi] at hM; have:=h.dom id M hM; simp [AS.push]; omega
 ·intro id c hc
  simp only [AS.push,T.get_set] at hc
  by_cases hi:id=S.next
  ·rw [if_pos hi] at hc; cases hc; rw [hi]; exact hb
  ·rw [if_neg hi] at hc
   refine ((h.blk id c hc).of_same (w':={ w with heap:=w.heap.push o }) (fun _ M hM=>old _ (h.dom id M hM).2)).more h.fresh hi
 ·intro id id' c c' M M' hc hl hc' hl' hM hM' e hm
  simp only [AS.push,T.get_set] at hc hc'
  unfold Sig.more at hM hM'
  by_cases hi:id=S.next<;>by_cases hi':id'=S.next
  ·rw [hi,hi']
  ·rw [if_pos hi] at hM; rw [if_neg hi'] at hM'; cases hM; have:=(h.dom _ _ hM').2; omega
  ·rw [if_neg hi] at hM; rw [if_pos hi'] at hM'; cases hM'; have:=(h.dom _ _ hM).2; omega
  ·rw [if_neg hi] at hM hc; rw [if_neg hi'] at hM' hc'
   exact h.inj _ _ _ _ M M' hc hl hc' hl' hM hM' e hm
 ·intro g hg
  obtain ⟨M,h1,h2⟩:=h.glob g hg
  exact ⟨M,hle _ _ h1,h2⟩
theorem HR.new {σ:Sig} {S:AS} {w:World} (h:HR B w0 G σ S w) {c c':Array Value} (hc:AR σ c c') (Ty:TypeId) (sz:Nat) :
  HR B w0 G (σ.more S.next ⟨w.heap.size,0,c'.size,sz⟩) (S.push (.cells c.toList Ty sz true true)) { w with heap:=w.heap.push (.cells c' Ty) }:=by
 refine h.push rfl ⟨_,c',Ty,(0,0),Sig.more_self _ _ _,by simp,rfl,rfl,fun _=>⟨rfl,h.hB,rfl⟩,fun _=>⟨rfl,rfl,by simp [hc.1]⟩,fun j v e=>?_⟩
 rw [Array.getElem?_toList] at e
 obtain ⟨v',e',r⟩:=hc.get e
 exact ⟨v',by simpa using e',r.mono (Sig.more_le h.fresh)⟩
variable (B w0 G) in
def RSem (P:Program) (sz:Nat) {α β:Type} (A:Sig→α→β→Prop) (σ₀:Sig) (sa:Sem α) (sc:Sem β):Prop :=
 ∀ σ S w,σ₀.le σ→HR B w0 G σ S w→∀ a S',ai P sz sa S=some (a,S')→∃ σ' b w',σ.le σ'∧sc.run P w=.ok b w'∧A σ' a b∧HR B w0 G σ' S' w'
variable {P:Program} {sz:Nat} {σ₀:Sig}
theorem RSem.pure {α β:Type} {A:Sig→α→β→Prop} {a:α} {b:β} (h:∀ σ,σ₀.le σ→A σ a b):RSem B w0 G P sz A σ₀ (.pure a) (.pure b):=by
 intro σ S w hle hr x S' e
 simp only [ai,Option.some.injEq,Prod.mk.injEq] at e
 obtain ⟨rfl,rfl⟩:=e
 exact ⟨σ,b,w,Sig.le_refl _,rfl,h σ hle,hr⟩
theorem RSem.bind {α β γ δ:Type} {A:Sig→α→β→Prop} {A':Sig→γ→δ→Prop} {sa:Sem α} {sc:Sem β} {f:α→Sem γ} {g:β→Sem δ}
  (h:RSem B w0 G P sz A σ₀ sa sc) (k:∀ σ a b,σ₀.le σ→A σ a b→RSem B w0 G P sz A' σ (f a) (g b)):RSem B w0 G P sz A' σ₀ (sa.bind f) (sc.bind g):=by
 intro σ S w hle hr x S' e
 rw [ai_bind] at e
 split at e
 ·rename_i a S1 e1
  obtain ⟨σ1,b,w1,l1,r1,hA,hr1⟩:=h σ S w hle hr a S1 e1
  obtain ⟨σ2,d,w2,l2,r2,hA',hr2⟩:=k σ1 a b (Sig.le_trans hle l1) hA σ1 S1 w1 (Sig.le_refl _) hr1 x S' e
  exact ⟨σ2,d,w2,Sig.le_trans l1 l2,by rw [show sc.bind g=sc >>= g from rfl,Sem.run_bind,r1]; exact r2,hA',hr2⟩
 ·simp at e
theorem RSem.halt {α β:Type} {A:Sig→α→β→Prop} {h:Halt} {sc:Sem β}:RSem B w0 G P sz A σ₀ (.halt h:Sem α) sc:=by
 intro σ S w hle hr x S' e; simp [ai] at e
theorem RSem.load {m:Mode} {a a':Addr} (ha:AddrR σ₀ a a'):RSem B w0 G P sz VR σ₀ (.load m a .pure) (.load m a' .pure):=by
 intro σ S w hle hr x S' e
 simp only [ai] at e
 split at e
 ·rename_i v hv
  simp only [Option.some.injEq,Prod.mk.injEq] at e
  obtain ⟨rfl,rfl⟩:=e
  obtain ⟨v',e',r⟩:=hr.cell (ha.mono hle) hv
  exact ⟨σ,v',w,Sig.le_refl _,by simp [Sem.run,e'],r,hr⟩
 ·simp at e
theorem VR.oneCell {σ:Sig} {v v':Value} (h:VR σ v v'):oneB v'=oneB v:=by cases h<;>first|rfl|assumption
theorem RSem.store {m:Mode} {a a':Addr} (ha:AddrR σ₀ a a') {v v':Value} (hv:VR σ₀ v v'):RSem B w0 G P sz (fun _ (_ _:Unit)=>True) σ₀ (.store m a v (.pure ())) (.store m a' v' (.pure ())):=by
 intro σ S w hle hr x S' e
 simp only [ai] at e
 split at e
 ·simp at e
 ·rename_i h1
  split at e
  ·rename_i S1 hp
   simp only [Option.some.injEq,Prod.mk.injEq] at e
   obtain ⟨_,rfl⟩:=e
   obtain ⟨⟨u,hu⟩,hf,hr'⟩:=hr.put (ha.mono hle) (hv.mono hle) hp
   have h1':oneB v'=true:=hv.oneCell.trans h1
   refine ⟨σ,(),_,Sig.le_refl _,?_,trivial,hr'⟩
   cases v'<;>simp_all [Sem.run,oneB]
  ·simp at e
theorem RSem.newCells {c c':Array Value} (hc:AR σ₀ c c') (Ty:TypeId) :
  RSem B w0 G P sz (fun σ r r'=>∃ L,σ r=some L∧L.off=0∧L.blk=r'∧L.sz=sz∧L.ext=c'.size) σ₀ (.new (.cells c Ty) .pure) (.new (.cells c' Ty) .pure):=by
 intro σ S w hle hr x S' e
 simp only [ai,rowOf,Option.some.injEq,Prod.mk.injEq] at e
 obtain ⟨rfl,rfl⟩:=e
 exact ⟨_,_,_,Sig.more_le hr.fresh,rfl,⟨_,Sig.more_self _ _ _,rfl,rfl,rfl,rfl⟩,hr.new (hc.mono hle) Ty sz⟩
theorem RSem.shape {r r':Nat} (ha:∃ L,σ₀ r=some L∧r'=L.blk):RSem B w0 G P sz (fun _ a b=>a=b) σ₀ (.shape r .pure) (.shape r' .pure):=by
 intro σ S w hle hr x S' e
 obtain ⟨L,hL,rfl⟩:=ha
 simp only [ai] at e
 split at e
 ·rename_i y hy
  simp only [Option.some.injEq,Prod.mk.injEq] at e
  obtain ⟨rfl,rfl⟩:=e
  unfold AS.shape? at hy
  split at hy
  ·rename_i c ty sz wr hg
   simp only [Option.some.injEq] at hy
   subst hy
   obtain ⟨L',C,Ty,fz,k1,k2,k3,k4,k5,k7,k6⟩:=hr.blk _ _ hg
   rw [hle _ _ hL] at k1; cases k1
   obtain ⟨rfl,_,hs⟩:=k7 rfl
   exact ⟨σ,_,w,Sig.le_refl _,by simp [Sem.run,World.shape?,k2,hs],rfl,hr⟩
  ·simp at hy
 ·simp at e
theorem RSem.program {α β:Type} {A:Sig→α→β→Prop} {f:Program→Sem α} {g:Program→Sem β} (h:RSem B w0 G P sz A σ₀ (f P) (g P)):RSem B w0 G P sz A σ₀ (.program f) (.program g):=by
 intro σ S w hle hr x S' e
 simp only [ai] at e
 obtain ⟨σ',b,w',h1,h2,h3⟩:=h σ S w hle hr x S' e
 exact ⟨σ',b,w',h1,by simpa [Sem.run] using h2,h3⟩
theorem RSem.mark {α β:Type} {A:Sig→α→β→Prop} {m m':Mark} {f:Sem α} {g:Sem β} (h:RSem B w0 G P sz A σ₀ f g):RSem B w0 G P sz A σ₀ (.mark m f) (.mark m' g):=by
 intro σ S w hle hr x S' e
 simp only [ai] at e
 obtain ⟨σ',b,w',h1,h2,h3⟩:=h σ S w hle hr x S' e
 exact ⟨σ',b,w',h1,by simpa [Sem.run] using h2,h3⟩
theorem RSem.weaken {α β:Type} {A A':Sig→α→β→Prop} {sa:Sem α} {sc:Sem β} (h:RSem B w0 G P sz A σ₀ sa sc) (k:∀ σ a b,A σ a b→A' σ a b):RSem B w0 G P sz A' σ₀ sa sc :=
 fun σ S w hle hr x S' e=>let ⟨σ',b,w',h1,h2,h3,h4⟩:=h σ S w hle hr x S' e; ⟨σ',b,w',h1,h2,k _ _ _ h3,h4⟩
theorem RSem.le {α β:Type} {A:Sig→α→β→Prop} {σ₁:Sig} {sa:Sem α} {sc:Sem β} (h:RSem B w0 G P sz A σ₀ sa sc) (l:σ₀.le σ₁):RSem B w0 G P sz A σ₁ sa sc :=
 fun σ S w hle hr x S' e=>h σ S w (Sig.le_trans l hle) hr x S' e
def Tab {α:Type} (P:Program):Sem α→Prop
 | .pure _=>True
 | .program k=>Tab P (k P)
 | .mark _ k=>Tab P k
 | .halt _=>True
 | _=>False
theorem RSem.tab {α:Type}:∀ {s:Sem α},Tab P s→RSem B w0 G P sz (fun _ a b=>a=b) σ₀ s s:=by
 intro s
 induction s with
 | pure a=>intro _; exact .pure fun _ _=>rfl
 | program k ih=>intro h; exact .program (ih P h)
 | mark m k ih=>intro h; exact .mark (ih h)
 | halt h=>intro _; exact .halt
 | load m a k ih=>intro h; exact h.elim
 | store m a v k ih=>intro h; exact h.elim
 | new o k ih=>intro h; exact h.elim
 | shape r k ih=>intro h; exact h.elim
 | freeze a n k ih=>intro h; exact h.elim
 | frozen a k ih=>intro h; exact h.elim
 | getObj r k ih=>intro h; exact h.elim
 | setObj r o k ih=>intro h; exact h.elim
 | choose q k ih=>intro h; exact h.elim
 | sys c k ih=>intro h; exact h.elim
theorem Tab.bind {α β:Type} {f:α→Sem β}:∀ {s:Sem α},Tab P s→(∀ a,Tab P (f a))→Tab P (s.bind f):=by
 intro s
 induction s with
 | pure a=>intro _ h; exact h a
 | program k ih=>intro h h'; exact ih P h h'
 | mark m k ih=>intro h h'; exact ih h h'
 | halt h=>intro _ _; trivial
 | _=>intro h; exact h.elim
end
end Go.Aev
end
section
namespace Go.Aev
open Go Go.RowKit
section
variable {B:Nat} {w0:World} {G:Nat} {P:Program} {sz:Nat} {σ₀:Sig}
def inTab (P:Program) (t:TypeId):Bool:=Nat.blt t P.types.size
def ZeroOk (P:Program):Prop:=∀ t i v,inTab P t=true→P.info? t=some i→i.zero=some v→selfB 8 v=true
theorem tab_typeInfo (t:TypeId):Tab P (typeInfo t):=by
 unfold typeInfo program
 refine Tab.bind (s:=.program .pure) trivial (fun p=>?_)
 split
 ·trivial
 ·trivial
theorem tab_underlying (t:TypeId):Tab P (underlying t):=by
 unfold underlying program
 refine Tab.bind (s:=.program .pure) trivial (fun p=>?_)
 split
 ·trivial
 ·trivial
theorem tab_sizeOf (t:TypeId):Tab P (sizeOf t):=Tab.bind (tab_typeInfo t) (fun _=>trivial)
theorem tab_isAgg (t:TypeId):Tab P (isAgg t):=by
 unfold isAgg
 refine Tab.bind (tab_underlying t) (fun d=>?_)
 split<;>trivial
theorem rs_sizeOf (t:TypeId):RSem B w0 G P sz (fun _ a b=>a=b) σ₀ (sizeOf t) (sizeOf t):=.tab (tab_sizeOf t)
theorem rs_isAgg (t:TypeId):RSem B w0 G P sz (fun _ a b=>a=b) σ₀ (isAgg t) (isAgg t):=.tab (tab_isAgg t)
theorem rs_zero (hz:ZeroOk P) (t:TypeId) (ht:inTab P t=true):RSem B w0 G P sz (fun σ a b=>a=b∧VR σ a b) σ₀ (zeroValue t) (zeroValue t):=by
 intro σ S w hle hr x S' e
 have e0:=e
 obtain ⟨σ',b,w',h1,h2,rfl,h4⟩:=(RSem.tab (B:=B) (w0:=w0) (G:=G) (P:=P) (sz:=sz) (σ₀:=σ₀) (s:=zeroValue t) (by
  unfold zeroValue
  refine Tab.bind (tab_typeInfo t) (fun i=>?_)
  split<;>trivial)) σ S w hle hr x S' e
 refine ⟨σ',x,w',h1,h2,⟨rfl,?_⟩,h4⟩
 unfold zeroValue typeInfo program at e0
 simp only [bind,Sem.bind,ai] at e0
 cases hi:P.info? t with
 | none=>simp [hi,stuck,Sem.bind,ai] at e0
 | some i =>
  cases hv:i.zero with
  | none=>simp [hi,hv,unsupported,pure,Sem.bind,ai] at e0
  | some v =>
   simp [hi,hv,pure,Sem.bind,ai] at e0
   obtain ⟨rfl,rfl⟩:=e0
   exact selfB_spec _ _ _ (hz t i v ht hi hv)
theorem rs_sure {v v':Value} (h:VR σ₀ v v'):RSem B w0 G P sz AddrR σ₀ (Instr.sureAddr v) (Instr.sureAddr v'):=by
 cases h<;>unfold Instr.sureAddr<;>first|exact .halt|skip
 ·exact .pure fun σ hle=>⟨_,hle _ _ (by assumption),rfl,rfl⟩
theorem rs_loadCellsFrom {a a':Addr}:∀ (n i:Nat) {σ₀:Sig} {acc acc':Array Value},AddrR σ₀ a a'→AR σ₀ acc acc' →
  RSem B w0 G P sz AR σ₀ (loadCellsFrom a i n acc) (loadCellsFrom a' i n acc')
 | 0,i,σ₀,acc,acc',ha,hc=>by
  unfold loadCellsFrom
  exact .pure fun σ hle=>hc.mono hle
 | n+1,i,σ₀,acc,acc',ha,hc=>by
  unfold loadCellsFrom
  refine RSem.bind (RSem.load (ha.add i)) (fun σ v v' hle hv=>?_)
  exact rs_loadCellsFrom n (i+1) (ha.mono hle) ((hc.mono hle).push hv)
theorem rs_loadCells {a a':Addr} (n:Nat) (ha:AddrR σ₀ a a'):RSem B w0 G P sz AR σ₀ (loadCells a n) (loadCells a' n):=rs_loadCellsFrom n 0 ha (AR.empty _)
theorem rs_loadVar (t:TypeId) {a a':Addr} (ha:AddrR σ₀ a a'):RSem B w0 G P sz VR σ₀ (loadVar t a) (loadVar t a'):=by
 unfold loadVar
 refine RSem.bind (rs_isAgg t) (fun σ b _ hle e=>?_)
 subst e
 cases b
 ·exact RSem.load (ha.mono hle)
 ·refine RSem.bind (rs_sizeOf t) (fun σ1 n _ hle1 e=>?_)
  subst e
  refine RSem.bind (rs_loadCells n (ha.mono (Sig.le_trans hle hle1))) (fun σ2 c c' _ hc=>?_)
  exact .pure fun σ3 h3=>VR.agg_iff.2 ⟨_,rfl,hc.mono h3⟩
theorem rs_storeCells {a a':Addr}:∀ (vs vs':List Value) (i:Nat) {σ₀:Sig},AddrR σ₀ a a'→AR σ₀ ⟨vs⟩ ⟨vs'⟩ →
  RSem B w0 G P sz (fun _ (_ _:Unit)=>True) σ₀ (storeCells a vs i) (storeCells a' vs' i)
 | [],[],i,σ₀,ha,h=>by unfold storeCells; exact .pure fun _ _=>trivial
 | [],_ :: _,i,σ₀,ha,h=>by have:=h.1; simp at this
 | _ :: _,[],i,σ₀,ha,h=>by have:=h.1; simp at this
 | v :: vs,v' :: vs',i,σ₀,ha,h=>by
  unfold storeCells
  have h0:VR σ₀ v v':=by obtain ⟨u,hu,r⟩:=h.get (i:=0) (v:=v) (by simp); simp at hu; exact hu ▸ r
  have hr:AR σ₀ ⟨vs⟩ ⟨vs'⟩:=by
   refine AR.of_get (by have:=h.1; simpa using this) (fun j x y hx hy=>?_)
   obtain ⟨u,hu,r⟩:=h.get (i:=j+1) (v:=x) (by simpa using hx)
   have:u=y:=by simp at hu hy; rw [hu] at hy; exact Option.some.inj hy
   exact this ▸ r
  refine RSem.bind (RSem.store (ha.add i) h0) (fun σ _ _ hle _=>?_)
  exact rs_storeCells vs vs' (i+1) (ha.mono hle) (hr.mono hle)
theorem rs_storeVar (t:TypeId) {a a':Addr} (ha:AddrR σ₀ a a') {v v':Value} (hv:VR σ₀ v v'):RSem B w0 G P sz (fun _ (_ _:Unit)=>True) σ₀ (storeVar t a v) (storeVar t a' v'):=by
 unfold storeVar
 have hc:=hv.cells
 refine RSem.bind (rs_sizeOf t) (fun σ n _ hle e=>?_)
 subst e
 rw [← hc.1]
 split
 ·refine RSem.bind (A:=fun _ _ _=>True) .halt (fun σ1 _ _ h1 _=>?_)
  exact rs_storeCells _ _ 0 (ha.mono (Sig.le_trans hle h1)) (hc.mono (Sig.le_trans hle h1))
 ·exact rs_storeCells _ _ 0 (ha.mono hle) (hc.mono hle)
theorem rs_newRow (e:TypeId) {c c':Array Value} (hc:AR σ₀ c c'):RSem B w0 G P sz (fun σ a a'=>AddrR σ a a'∧a.off=0∧∃ L,σ a.block=some L∧L.sz=sz∧L.ext=c'.size∧L.off=0) σ₀ (newRow e c) (newRow e c'):=by
 unfold newRow newObj
 refine RSem.bind (RSem.newCells hc e) (fun σ r r' hle ⟨L,h1,h2,h3,h4,h5⟩=>?_)
 exact .pure fun σ1 h6=>⟨⟨L,h6 _ _ h1,rfl,by simp [h2,h3]⟩,rfl,L,h6 _ _ h1,h4,h5,h2⟩
theorem AddrR.val {σ:Sig} {a a':Addr} (h:AddrR σ a a'):VR σ (.pointer (some a)) (.pointer (some a')):=by
 obtain ⟨L,h1,h2,rfl⟩:=h
 obtain ⟨b,o,s⟩:=a
 subst h2
 exact .p h1
theorem rs_newVar (t:TypeId) {v v':Value} (hv:VR σ₀ v v'):RSem B w0 G P sz AddrR σ₀ (newVar t v) (newVar t v'):=by
 unfold newVar
 exact (rs_newRow t hv.cells).weaken fun _ _ _ h=>h.1
theorem rs_alloc (hz:ZeroOk P) (e:TypeId) (ht:inTab P e=true):RSem B w0 G P sz VR σ₀ (Instr.alloc e true (.tuple #[])) (Instr.alloc e true (.tuple #[])):=by
 unfold Instr.alloc
 refine RSem.bind (rs_zero hz e ht) (fun σ v _ hle ⟨e1,hv⟩=>?_)
 subst e1
 refine RSem.bind (rs_newVar e hv) (fun σ1 a a' h1 ha=>?_)
 exact .pure fun σ2 h2=>(ha.mono h2).val
theorem rs_box (e:TypeId) {v v':Value} (hv:VR σ₀ v v'):RSem B w0 G P sz VR σ₀ (Instr.box e v) (Instr.box e v'):=by
 unfold Instr.box
 refine RSem.bind (rs_newVar e hv) (fun σ1 a a' h1 ha=>?_)
 exact .pure fun σ2 h2=>(ha.mono h2).val
theorem rs_loadAt (t:TypeId) {v v':Value} (hv:VR σ₀ v v'):RSem B w0 G P sz VR σ₀ (Instr.loadAt t v) (Instr.loadAt t v'):=by
 unfold Instr.loadAt
 exact RSem.bind (rs_sure hv) (fun σ a a' _ ha=>rs_loadVar t ha)
theorem rs_storeAt (t:TypeId) {v v' x x':Value} (hv:VR σ₀ v v') (hx:VR σ₀ x x'):RSem B w0 G P sz (fun _ (_ _:Unit)=>True) σ₀ (Instr.storeAt t v x) (Instr.storeAt t v' x'):=by
 unfold Instr.storeAt
 exact RSem.bind (rs_sure hv) (fun σ a a' hle ha=>rs_storeVar t ha (hx.mono hle))
def at0 (P:Program) {α:Type}:Sem α→Option α
 | .pure a=>some a
 | .program k=>at0 P (k P)
 | .mark _ k=>at0 P k
 | _=>none
theorem at0_run {α:Type} (w:World):∀ {s:Sem α} {a:α},at0 P s=some a→s.run P w=.ok a w:=by
 intro s
 induction s with
 | pure a=>intro x e; simp [at0] at e; simp [Sem.run,e]
 | program k ih=>intro x e; simpa [Sem.run] using ih P e
 | mark m k ih=>intro x e; simpa [Sem.run] using ih e
 | _=>intro x e; simp [at0] at e
theorem AR.eq_of {cs cs':Array Value} (hs:cs.size=cs'.size) (h:∀ i,i<cs.size→cs.getD i undef=cs'.getD i undef):cs=cs':=by
 apply Array.ext hs
 intro i h1 h2
 have:=h i h1
 simpa [Array.getD,h1,h2] using this
theorem selfB_eq {σ:Sig}:∀ (n:Nat) (v v':Value),selfB n v=true→VR σ v v'→v'=v:=by
 intro n
 induction n with
 | zero=>intro v v' h; simp [selfB] at h
 | succ n ih =>
  intro v v' h r
  have arr:∀ {cs cs':Array Value},cs.toList.all (selfB n)=true→cs.size=cs'.size→(∀ i,i<cs.size→VR σ (cs.getD i undef) (cs'.getD i undef))→cs'=cs:=by
   intro cs cs' ha hs hr
   refine (AR.eq_of hs (fun i hi=>?_)).symm
   have hm:cs[i] ∈ cs.toList:=by simp
   have:=ih _ _ (List.all_eq_true.1 ha _ hm) (by simpa [Array.getD,hi] using hr i hi)
   simpa [Array.getD,hi] using this.symm
  cases r with
  | bool|int|float|complex|str|p0|sl0|map0|chan0|nilFunc|nilIface=>rfl
  | p h'=>simp [selfB] at h
  | sl h'=>simp [selfB] at h
  | slg=>simp [selfB] at h
  | slz=>simp [selfB] at h
  | unk h'=>simp [selfB] at h
  | iface t h'=>rw [ih _ _ (by simpa [selfB] using h) h']
  | agg hs hr=>rw [arr (by simpa [selfB] using h) hs hr]
  | tup hs hr=>rw [arr (by simpa [selfB] using h) hs hr]
  | fn f hs hr ks kr =>
   simp only [selfB,Bool.and_eq_true,List.isEmpty_iff] at h
   obtain ⟨h1,h2⟩:=h
   have e1:=Array.toList_eq_nil_iff.1 h1
   have e2:=Array.toList_eq_nil_iff.1 h2
   subst e1; subst e2
   have e3:=Array.eq_empty_of_size_eq_zero hs.symm
   have e4:=Array.eq_empty_of_size_eq_zero ks.symm
   rw [e3,e4]
  | yield h'=>simp [selfB] at h
  | mp h'=>simp [selfB] at h
def szOf (P:Program) (t:TypeId):Option Nat:=(P.info? t).map (·.size)
theorem run_sz {t:TypeId} {n:Nat} (h:szOf P t=some n) (w:World):(sizeOf t).run P w=.ok n w:=by
 unfold szOf at h
 cases hi:P.info? t with
 | none=>simp [hi] at h
 | some i=>simp [hi] at h; subst h; simp [sizeOf,typeInfo,program,hi,pure,Sem.run]
theorem run_und {t:TypeId} {d:TypeDesc} (h:P.underlying t=some d) (w:World):(underlying t).run P w=.ok d w:=by
 simp [underlying,program,h,pure,Sem.run]
def aField (P:Program) (s:TypeId) (x:Value) (f:Nat):Option Value :=
 match x,P.underlying s with
 | .pointer (some a),some (.struct fs) =>
  match fs[f]? with
  | some fd =>
   match szOf P fd.type with
   | some (_+1)=>some (.pointer (some (a.add fd.offset)))
   | _=>none
  | none=>none
 | _,_=>none
theorem aField_ok {σ:Sig} {s:TypeId} {x x':Value} {f:Nat} {v:Value} (hx:VR σ x x') (e:aField P s x f=some v) (w:World) :
  ∃ v',(Instr.fieldAt s x' f).run P w=.ok v' w∧VR σ v v':=by
 unfold aField at e
 split at e
 ·rename_i a fs hu
  cases hx with
  | p h =>
   rename_i id off L
   split at e
   ·rename_i fd hf
    split at e
    ·rename_i n hn
     simp only [Option.some.injEq] at e
     subst e
     have ha:AddrR σ ⟨id,off,none⟩ ⟨L.blk,L.off+off,none⟩:=⟨L,h,rfl,rfl⟩
     refine ⟨.pointer (some (Addr.add ⟨L.blk,L.off+off,none⟩ fd.offset)),?_,(ha.add _).val⟩
     simp [Instr.fieldAt,run_und hu,hf,Instr.sureAddr,fieldPlace,run_sz hn,pure,Sem.run]
    ·simp at e
   ·simp at e
 ·simp at e
def inB (i:Int) (n:Nat):Bool:=match i with
 | .ofNat k=>Nat.ble (k+1) n
 | .negSucc _=>false
theorem inB_spec {i:Int} {n:Nat} (h:inB i n=true):0≤i∧i<n:=by
 unfold inB at h
 split at h
 ·have:=Nat.le_of_ble_eq_true h; constructor<;>(try simp)<;>omega
 ·simp at h
def aIndexAddr (P:Program) (t:TypeId) (x ix:Value):Option Value :=
 match ix with
 | .int _ i =>
  match x,P.underlying t with
  | .pointer (some a),some (.array len el) =>
   match inB i len,szOf P el with
   | true,some n=>some (.pointer (some (a.add (i.toNat * n))))
   | _,_=>none
  | .slice (some a) len _,some (.slice el) =>
   match inB i len,szOf P el with
   | true,some n=>some (.pointer (some (a.add (i.toNat * n))))
   | _,_=>none
  | _,_=>none
 | _=>none
theorem aIndexAddr_ok {σ:Sig} {t:TypeId} {x x' ix ix':Value} {v:Value} (hx:VR σ x x') (hi:VR σ ix ix') (e:aIndexAddr P t x ix=some v) (w:World) :
  ∃ v',(Instr.indexAt t x' ix').run P w=.ok v' w∧VR σ v v':=by
 unfold aIndexAddr at e
 split at e
 ·cases hi
  rename_i k i
  split at e
  ·rename_i a len el hu
   cases hx with
   | p h =>
    rename_i id off L
    split at e
    ·rename_i n hb hn
     have hb':=inB_spec hb
     simp only [Option.some.injEq] at e
     subst e
     have ha:AddrR σ ⟨id,off,none⟩ ⟨L.blk,L.off+off,none⟩:=⟨L,h,rfl,rfl⟩
     refine ⟨.pointer (some (Addr.add ⟨L.blk,L.off+off,none⟩ (i.toNat * n))),?_,(ha.add _).val⟩
     simp [Instr.indexAt,asIntOf,run_und hu,Instr.sureAddr,hb',run_sz hn,pure,Sem.run]
    ·simp at e
  ·rename_i a len cap el hu
   cases hx with
   | slg =>
    split at e
    ·rename_i n hb hn; have hb':=inB_spec hb; omega
    ·simp at e
   | slz =>
    split at e
    ·rename_i n hb hn; have hb':=inB_spec hb; omega
    ·simp at e
   | sl h hc hl he =>
    rename_i id off L cap'
    split at e
    ·rename_i n hb hn
     have hb':=inB_spec hb
     simp only [Option.some.injEq] at e
     subst e
     have ha:AddrR σ ⟨id,off,none⟩ ⟨L.blk,L.off+off,none⟩:=⟨L,h,rfl,rfl⟩
     refine ⟨.pointer (some (Addr.add ⟨L.blk,L.off+off,none⟩ (i.toNat * n))),?_,(ha.add _).val⟩
     simp [Instr.indexAt,asIntOf,run_und hu,hb',run_sz hn,pure,Sem.run]
    ·simp at e
  ·simp at e
 ·simp at e
theorem AR.extract {σ:Sig} {a b:Array Value} (h:AR σ a b) (i j:Nat):AR σ (a.extract i j) (b.extract i j):=by
 refine AR.of_get (by simp [h.1]) (fun k x y hx hy=>?_)
 rw [Array.getElem?_extract] at hx hy
 rw [h.1] at hx
 split at hx
 ·rename_i hc
  rw [if_pos hc] at hy
  obtain ⟨z,hz,r⟩:=h.get hx
  rw [hz] at hy; cases hy; exact r
 ·simp at hx
def aggD:TypeDesc→Bool
 | .struct _|.array _ _=>true
 | _=>false
def aPart (P:Program) (t:TypeId) (cs:Array Value) (off:Nat):Option Value :=
 match P.underlying t with
 | some d =>
  match aggD d with
  | true=>(szOf P t).map fun n=>.agg (cs.extract off (off+n))
  | false=>cs[off]?
 | none=>none
theorem aPart_ok {σ:Sig} {t:TypeId} {cs cs':Array Value} {off:Nat} {v:Value} (h:AR σ cs cs') (e:aPart P t cs off=some v) (w:World) :
  ∃ v',(part t cs' off).run P w=.ok v' w∧VR σ v v':=by
 unfold aPart at e
 split at e
 ·rename_i d hu
  have hagg:(isAgg t).run P w=.ok (aggD d) w:=by
   simp only [isAgg,Sem.run_bind,run_und hu,Result.andThen_ok]
   cases d<;>rfl
  split at e
  ·rename_i hd
   cases hn:szOf P t with
   | none=>simp [hn] at e
   | some n =>
    simp [hn] at e
    subst e
    refine ⟨.agg (cs'.extract off (off+n)),?_,VR.agg_iff.2 ⟨_,rfl,h.extract _ _⟩⟩
    simp [part,hagg,hd,run_sz hn,pure,Sem.run]
  ·rename_i hd
   obtain ⟨v',e',r⟩:=h.get e
   exact ⟨v',by simp [part,hagg,hd,e',pure,Sem.run],r⟩
 ·simp at e
def aFieldV (P:Program) (s:TypeId) (x:Value) (f:Nat):Option Value :=
 match x,P.underlying s with
 | .agg cs,some (.struct fs) =>
  match fs[f]? with
  | some fd=>aPart P fd.type cs fd.offset
  | none=>none
 | _,_=>none
theorem aFieldV_ok {σ:Sig} {s:TypeId} {x x':Value} {f:Nat} {v:Value} (hx:VR σ x x') (e:aFieldV P s x f=some v) (w:World) :
  ∃ v',(Instr.field s x' f).run P w=.ok v' w∧VR σ v v':=by
 unfold aFieldV at e
 split at e
 ·rename_i cs fs hu
  obtain ⟨cs',rfl,hc⟩:=VR.agg_iff.1 hx
  split at e
  ·rename_i fd hf
   obtain ⟨v',h1,h2⟩:=aPart_ok hc e w
   exact ⟨v',by simp [Instr.field,run_und hu,hf,asAgg,pure,Sem.run,h1],h2⟩
  ·simp at e
 ·simp at e
def aIndexV (P:Program) (t:TypeId) (x ix:Value):Option Value :=
 match x,ix,P.underlying t with
 | .agg cs,.int _ i,some (.array len el) =>
  match inB i len,szOf P el with
  | true,some n=>aPart P el cs (i.toNat * n)
  | _,_=>none
 | .string s,.int _ i,some .string =>
  match inB i s.size,s.data[i.toNat]? with
  | true,some b=>some (.int .u8 (b.toNat:Int))
  | _,_=>none
 | _,_,_=>none
theorem aIndexV_ok {σ:Sig} {t:TypeId} {x x' ix ix':Value} {v:Value} (hx:VR σ x x') (hi:VR σ ix ix') (e:aIndexV P t x ix=some v) (w:World) :
  ∃ v',(Instr.index t x' ix').run P w=.ok v' w∧VR σ v v':=by
 unfold aIndexV at e
 split at e
 ·rename_i cs k i len el hu
  obtain ⟨cs',rfl,hc⟩:=VR.agg_iff.1 hx
  cases hi
  split at e
  ·rename_i n hb hn
   have hb':=inB_spec hb
   obtain ⟨v',h1,h2⟩:=aPart_ok hc e w
   exact ⟨v',by simp [Instr.index,asIntOf,run_und hu,hb',run_sz hn,pure,Sem.run,← h1],h2⟩
  ·simp at e
 ·rename_i s k i hu
  cases hx
  cases hi
  split at e
  ·rename_i b hb hn
   have hb':=inB_spec hb
   have e2:=(Option.some.inj e).symm
   subst e2
   obtain ⟨hlt,hge⟩:=Array.getElem?_eq_some_iff.1 hn
   refine ⟨_,?_,.int _ _⟩
   rw [Go.run_index_string (P:=P) w t s k i hu,dif_pos ⟨hb'.1,hb'.2⟩,← hge]
   rfl
  ·simp at e
 ·simp at e
def aExtract (x:Value) (i:Nat):Option Value :=
 match x with
 | .tuple vs=>vs[i]?
 | _=>none
theorem aExtract_ok {σ:Sig} {x x':Value} {i:Nat} {v:Value} (hx:VR σ x x') (e:aExtract x i=some v) (w:World) :
  ∃ v',(Instr.extract x' i).run P w=.ok v' w∧VR σ v v':=by
 unfold aExtract at e
 split at e
 ·obtain ⟨vs',rfl,hc⟩:=VR.tup_iff.1 hx
  obtain ⟨v',e',r⟩:=hc.get e
  exact ⟨v',by simp [Instr.extract,e',pure],r⟩
 ·simp at e
end
end Go.Aev
end
section
namespace Go.Aev
open Go Go.RowKit
set_option linter.unusedSimpArgs false
section
variable {B:Nat} {w0:World} {G:Nat} {P:Program} {σ:Sig}
theorem AR.set {a b:Array Value} (h:AR σ a b) (i:Nat) {v v':Value} (hv:VR σ v v'):AR σ (a.setIfInBounds i v) (b.setIfInBounds i v'):=by
 refine AR.of_get (by simp [h.1]) (fun k x y hx hy=>?_)
 rw [Array.getElem?_setIfInBounds] at hx hy
 rw [h.1] at hx
 by_cases hik:i=k
 ·rw [if_pos hik] at hx hy
  split at hx
  ·rename_i hlt
   rw [if_pos hlt] at hy
   cases hx; cases hy; exact hv
  ·simp at hx
 ·rw [if_neg hik] at hx hy
  obtain ⟨z,hz,r⟩:=h.get hx
  rw [hz] at hy; cases hy; exact r
theorem fold_rel (off:Nat):∀ (l l':List Value) (k:Nat) {a b:Array Value},l.length=l'.length→(∀ (i:Nat) (x y:Value),l[i]?=some x→l'[i]?=some y→VR σ x y)→AR σ a b →
  AR σ ((l.zipIdx k).foldl (fun cs (c,j)=>cs.setIfInBounds (off+j) c) a) ((l'.zipIdx k).foldl (fun cs (c,j)=>cs.setIfInBounds (off+j) c) b)
 | [],[],k,a,b,_,_,h=>by simpa using h
 | [],_ :: _,k,a,b,e,_,_=>by simp at e
 | _ :: _,[],k,a,b,e,_,_=>by simp at e
 | x :: l,y :: l',k,a,b,e,hr,h=>by
  simp only [List.zipIdx_cons,List.foldl_cons]
  refine fold_rel off l l' (k+1) (by simpa using e) (fun i u v hu hv=>hr (i+1) u v (by simpa using hu) (by simpa using hv)) (h.set _ ?_)
  exact hr 0 x y (by simp) (by simp)
theorem AR.list {a b:Array Value} (h:AR σ a b):∀ (i:Nat) (x y:Value),a.toList[i]?=some x→b.toList[i]?=some y→VR σ x y:=by
 intro i x y hx hy
 rw [Array.getElem?_toList] at hx hy
 obtain ⟨z,hz,r⟩:=h.get hx
 rw [hz] at hy; cases hy; exact r
theorem fill_rel {ρa ρc:Operand→Value} {place:Nat→Option (Nat × Nat)}:∀ (l:List (Nat × Operand)) {cells cells':Array Value},(∀ x ∈ l,VR σ (ρa x.2) (ρc x.2))→AR σ cells cells' →
  ∀ r,Instr.fill place cells (l.map fun x=>(x.1,ρa x.2))=some r→∃ r',Instr.fill place cells' (l.map fun x=>(x.1,ρc x.2))=some r'∧AR σ r r'
 | [],cells,cells',_,h,r,e=>by
  simp [Instr.fill] at e
  subst e
  exact ⟨cells',by simp [Instr.fill],h⟩
 | x :: l,cells,cells',hx,h,r,e=>by
  simp only [List.map_cons,Instr.fill] at e ⊢
  cases hp:place x.1 with
  | none=>simp [hp] at e
  | some os =>
   obtain ⟨off,size⟩:=os
   simp only [hp] at e ⊢
   have hv:=(hx x (by simp)).cells
   rw [← hv.1,← h.1]
   split at e
   ·simp at e
   ·rename_i hc
    rw [if_neg hc]
    refine fill_rel l (fun y hy=>hx y (List.mem_cons_of_mem _ hy)) ?_ r e
    have:=fold_rel (σ:=σ) off (ρa x.2).cells.toList (ρc x.2).cells.toList 0 (by simpa using hv.1) hv.list h
    rw [← Array.foldl_toList,← Array.foldl_toList,Array.toList_zipIdx,Array.toList_zipIdx]
    exact this
def aBuild (P:Program) (t:TypeId) (parts:List (Nat × Value)):Option Value :=
 match inTab P t with
 | true=>(P.built t parts).map .agg
 | false=>none
theorem zero_self (hz:ZeroOk P) {t:TypeId} {i:TypeInfo} {z:Value} (ht:inTab P t=true) (hi:P.info? t=some i) (e:i.zero=some z):VR σ z z:=selfB_spec _ _ _ (hz t i z ht hi e)
theorem built_rel (hz:ZeroOk P) {ρa ρc:Operand→Value} (t:TypeId) (ht:inTab P t=true) (l:List (Nat × Operand)) (hx:∀ x ∈ l,VR σ (ρa x.2) (ρc x.2)) {r:Array Value}
  (e:P.built t (l.map fun x=>(x.1,ρa x.2))=some r):∃ r',P.built t (l.map fun x=>(x.1,ρc x.2))=some r'∧AR σ r r':=by
 unfold Program.built at e ⊢
 split at e
 ·rename_i it n el h1 h2
  split at e
  ·rename_i z ie h3 h4
   obtain ⟨r',e',h'⟩:=fill_rel l hx (zero_self (σ:=σ) hz ht h1 h3).cells r e
   exact ⟨r',e',h'⟩
  ·simp at e
 ·rename_i it fields h1 h2
  split at e
  ·rename_i z places h3 h4
   obtain ⟨r',e',h'⟩:=fill_rel l hx (zero_self (σ:=σ) hz ht h1 h3).cells r e
   exact ⟨r',e',h'⟩
  ·simp at e
 ·simp at e
theorem aBuild_ok (hz:ZeroOk P) {ρa ρc:Operand→Value} (t:TypeId) (parts:Array (Nat × Operand)) (hx:∀ x ∈ parts.toList,VR σ (ρa x.2) (ρc x.2)) {v:Value}
  (e:aBuild P t (parts.toList.map fun x=>(x.1,ρa x.2))=some v) (w:World) :
  ∃ v',(Instr.build t (parts.map fun (i,x)=>(i,ρc x))).run P w=.ok v' w∧VR σ v v':=by
 unfold aBuild at e
 split at e
 case h_2=>simp at e
 rename_i ht
 cases hb:P.built t (parts.toList.map fun x=>(x.1,ρa x.2)) with
 | none=>simp [hb] at e
 | some r =>
  simp [hb] at e
  subst e
  obtain ⟨r',e',h'⟩:=built_rel hz t ht _ hx hb
  exact ⟨.agg r',run_build w t _ r' (by simpa [Array.toList_map] using e'),VR.agg_iff.2 ⟨_,rfl,h'⟩⟩
theorem HR.row {S:AS} {w:World} (h:HR B w0 G σ S w) {c c':Array Value} (hc:AR σ c c') (el:TypeId) (sz n cap':Nat) (hcap:n≤cap') (hs:sz≠0→cap' * sz≤c'.size) :
  ∃ σ',σ.le σ'∧VR σ' (.slice (some ⟨S.next,0,none⟩) n n) (.slice (some ⟨w.heap.size,0,none⟩) n cap') ∧
   HR B w0 G σ' (S.push (.cells c.toList el sz true true)) { w with heap:=w.heap.push (.cells c' el) }:=by
 refine ⟨_,Sig.more_le h.fresh,?_,h.new hc el sz⟩
 exact VR.sl (σ:=σ.more S.next ⟨w.heap.size,0,c'.size,sz⟩) (id:=S.next) (off:=0) (L:=⟨w.heap.size,0,c'.size,sz⟩) (Sig.more_self _ _ _) hcap hcap (by simpa using hs)
def zerosOf (z:Array Value) (n:Nat):Array Value:=(Array.range n).map (z[· % z.size]!)
theorem zerosOf_rel {z:Array Value} (hz:AR σ z z) (n:Nat):AR σ (zerosOf z n) (zerosOf z n):=by
 refine AR.of_get rfl (fun i x y hx hy=>?_)
 rw [hx] at hy; cases hy
 unfold zerosOf at hx
 simp only [Array.getElem?_map,Option.map_eq_some_iff] at hx
 obtain ⟨k,hk,rfl⟩:=hx
 cases hs:z[k % z.size]? with
 | none =>
  have:z[k % z.size]! = default:=by simp [getElem!_def,hs]
  rw [this]
  exact selfB_spec _ 8 _ (by decide)
 | some u =>
  have:z[k % z.size]! = u:=by simp [getElem!_def,hs]
  rw [this]
  obtain ⟨u',e',r⟩:=hz.get hs
  rw [hs] at e'; cases e'; exact r
def zeroOf (P:Program) (t:TypeId):Option Value :=
 match inTab P t with
 | true=>(P.info? t).bind (·.zero)
 | false=>none
theorem run_zeroOf {t:TypeId} {z:Value} (h:zeroOf P t=some z) (w:World):(zeroValue t).run P w=.ok z w:=by
 unfold zeroOf at h
 split at h
 case h_2=>simp at h
 cases hi:P.info? t with
 | none=>simp [hi] at h
 | some i=>simp [hi] at h; simp [zeroValue,typeInfo,program,hi,h,pure,Sem.run]
theorem zeroOf_self (hz:ZeroOk P) {t:TypeId} {z:Value} (h:zeroOf P t=some z):VR σ z z:=by
 unfold zeroOf at h
 split at h
 case h_2=>simp at h
 rename_i ht
 cases hi:P.info? t with
 | none=>simp [hi] at h
 | some i=>exact zero_self hz ht hi (by simpa [hi] using h)
def aBuildSlice (P:Program) (t:TypeId) (len:Nat) (parts:List (Nat × Value)) (S:AS):Option (Value × AS) :=
 match P.underlying t with
 | some (.slice el) =>
  match szOf P el,zeroOf P el with
  | some (s+1),some z =>
   match Nat.ble (len * (s+1)) 65536 with
   | true =>
    match Instr.fill (fun i=>some (i * (s+1),s+1)) (zerosOf z.cells (len * (s+1))) parts with
    | some c=>match Nat.beq c.size (len * (s+1)) with
     | true=>some (.slice (some ⟨S.next,0,none⟩) len len,S.push (.cells c.toList el (s+1) true true))
     | false=>none
    | none=>none
   | false=>none
  | _,_=>none
 | _=>none
theorem aBuildSlice_ok (hz:ZeroOk P) {S S':AS} {w:World} (h:HR B w0 G σ S w) {ρa ρc:Operand→Value} (t:TypeId) (len:Nat) (parts:Array (Nat × Operand)) (hx:∀ x ∈ parts.toList,VR σ (ρa x.2) (ρc x.2)) {v:Value}
  (e:aBuildSlice P t len (parts.toList.map fun x=>(x.1,ρa x.2)) S=some (v,S')) :
  ∃ σ' v' w',σ.le σ'∧(Instr.buildSlice t len (parts.map fun (i,x)=>(i,ρc x))).run P w=.ok v' w'∧VR σ' v v'∧HR B w0 G σ' S' w':=by
 unfold aBuildSlice at e
 split at e
 ·rename_i el hu
  split at e
  ·rename_i s z hs hzz
   split at e
   ·rename_i hle
    split at e
    ·rename_i c hf
     split at e
     ·rename_i hsize
      have hsz:=Nat.eq_of_beq_eq_true hsize
      have hle':=Nat.le_of_ble_eq_true hle
      simp only [Option.some.injEq,Prod.mk.injEq] at e
      obtain ⟨rfl,rfl⟩:=e
      obtain ⟨c',e',hc⟩:=fill_rel _ hx (zerosOf_rel (σ:=σ) (zeroOf_self hz hzz).cells (len * (s+1))) c hf
      obtain ⟨σ',h1,h2,h3⟩:=h.row hc el (s+1) len len (Nat.le_refl _) (fun _=>by rw [← hc.1,hsz]; exact Nat.le_refl _)
      have hnot:¬ (len * (s+1) > 2 ^ 24):=by omega
      refine ⟨σ',.slice (some ⟨w.heap.size,0,none⟩) len len,_,h1,?_,h2,h3⟩
      unfold zerosOf at e'
      simp only [Instr.buildSlice,Sem.run_bind,run_und hu,run_sz hs,Result.andThen_ok,hnot,if_false]
      by_cases h0:len * (s+1)=0
      ·have hl:len=0:=by
        rcases Nat.mul_eq_zero.1 h0 with h|h
        ·exact h
        ·omega
       subst hl
       have r0:Array.range 0=#[]:=rfl
       simp only [Nat.zero_mul,r0,Array.map_empty] at e'
       simp [newRow,newObj,pure,Sem.run,Array.toList_map,r0,e']
      ·simp [h0,run_zeroOf hzz,newRow,newObj,pure,Sem.run,Array.toList_map,e']
     ·simp at e
    ·simp at e
   ·simp at e
  ·simp at e
 ·simp at e
def aMakeSlice (P:Program) (t:TypeId) (l c:Value) (S:AS):Option (Value × AS) :=
 match P.underlying t,l,c with
 | some (.slice el),.int _ (.ofNat n),.int _ (.ofNat m) =>
  match P.info? el,zeroOf P el,szOf P el with
  | some i,some z,some (s+1) =>
   match Nat.ble n m,Nat.ble m 65536,Nat.ble i.bytes 65536,Nat.beq (zerosOf z.cells (m * (s+1))).size (m * (s+1)) with
   | true,true,true,true=>some (.slice (some ⟨S.next,0,none⟩) n m,S.push (.cells (zerosOf z.cells (m * (s+1))).toList el (s+1) true true))
   | _,_,_,_=>none
  | _,_,_=>none
 | _,_,_=>none
theorem wrap_small {n:Nat} (h:n≤65536):IntKind.i64.wrap (n:Int)=n:=by
 have:=IntWalk.i64_in (n:Int) (by omega)
 exact this
theorem aMakeSlice_ok (hz:ZeroOk P) {S S':AS} {w:World} (h:HR B w0 G σ S w) (t:TypeId) {l l' c c':Value} (hl:VR σ l l') (hc:VR σ c c') {v:Value}
  (e:aMakeSlice P t l c S=some (v,S')) :
  ∃ σ' v' w',σ.le σ'∧(Instr.makeSlice t l' c').run P w=.ok v' w'∧VR σ' v v'∧HR B w0 G σ' S' w':=by
 unfold aMakeSlice at e
 split at e
 ·rename_i el k n k' m hu
  cases hl; cases hc
  split at e
  ·rename_i i z s hi hzz hs
   split at e
   ·rename_i h1 h2 h3 h4
    have h1:=Nat.le_of_ble_eq_true h1
    have h2:=Nat.le_of_ble_eq_true h2
    have h3:=Nat.le_of_ble_eq_true h3
    have h4:=Nat.eq_of_beq_eq_true h4
    simp only [Option.some.injEq,Prod.mk.injEq] at e
    obtain ⟨rfl,rfl⟩:=e
    obtain ⟨σ',k1,k2,k3⟩:=h.new (zerosOf_rel (σ:=σ) (zeroOf_self hz hzz).cells (m * (s+1))) el (s+1) |> fun k3=>(⟨_,Sig.more_le h.fresh,VR.sl (σ:=σ.more S.next ⟨w.heap.size,0,(zerosOf z.cells (m * (s+1))).size,s+1⟩) (id:=S.next) (off:=0) (len:=n) (cap:=m) (cap':=m) (L:=⟨w.heap.size,0,(zerosOf z.cells (m * (s+1))).size,s+1⟩) (Sig.more_self _ _ _) (Nat.le_refl _) h1 (fun _=>by show 0+0+m * (s+1)≤(zerosOf z.cells (m * (s+1))).size; rw [h4]; omega),k3⟩:∃ σ',σ.le σ'∧VR σ' (.slice (some ⟨S.next,0,none⟩) n m) (.slice (some ⟨w.heap.size,0+0,none⟩) n m)∧HR B w0 G σ' _ _)
    refine ⟨σ',_,_,k1,?_,k2,k3⟩
    have w1:IntKind.i64.wrap (n:Int)=n:=wrap_small (by omega)
    have w2:IntKind.i64.wrap (m:Int)=m:=wrap_small (by omega)
    have hm:i.bytes * m≤65536 * 65536:=Nat.mul_le_mul h3 h2
    have b1:¬ ((i.bytes:Int) * (m:Int) > 2 ^ 48):=by
     have:((i.bytes * m:Nat):Int)≤65536 * 65536:=Int.ofNat_le.2 hm
     rw [Int.natCast_mul] at this
     omega
    have b2:¬ (281474976710656<(i.bytes:Int) * (m:Int)):=by simpa using b1
    have b3:¬ ((m:Int)<(n:Int)):=by omega
    have b4:¬ (m<n):=by omega
    have b5:¬ ((m:Int)<0):=by omega
    have b6:¬ ((n:Int)<0):=by omega
    have ask:∀ b,(askRoom b).run P w=.ok () w:=by intro b; unfold askRoom; split<;>rfl
    have mz:(Array.range (m * (s+1))).map (fun x=>z.cells[x % z.cells.size]!)=zerosOf z.cells (m * (s+1)):=rfl
    by_cases h0:m * (s+1)=0
    ·have hm0:m=0:=by
      rcases Nat.mul_eq_zero.1 h0 with h|h
      ·exact h
      ·omega
     subst hm0
     have r0:Array.range 0=#[]:=rfl
     have hn0:n=0:=by omega
     subst hn0
     have w00:IntKind.i64.wrap 0=0:=by decide
     simp [w00,Instr.makeSlice,run_und hu,asInt,asIntOf,typeInfo,program,hi,w1,w2,b2,b3,b4,b5,b6,ask,run_sz hs,newRow,newObj,pure,Sem.run,r0,zerosOf]
    ·simp [Instr.makeSlice,run_und hu,asInt,asIntOf,typeInfo,program,hi,w1,w2,b2,b3,b4,b5,b6,ask,run_sz hs,run_zeroOf hzz,h0,newRow,newObj,pure,Sem.run,mz]
   ·simp at e
  ·simp at e
 ·simp at e
end
end Go.Aev
end
section
set_option linter.unusedSimpArgs false
namespace Go.Aev
open Go Go.RowKit
section
variable {B:Nat} {w0:World} {G:Nat} {P:Program} {σ:Sig}
def natOr (d:Nat):Option Value→Option Nat
 | none=>some d
 | some (.int _ (.ofNat n))=>some n
 | _=>none
def aSlice (P:Program) (t:TypeId) (x:Value) (lo hi:Option Value) (S:AS):Option Value :=
 match x,P.underlying t with
 | .slice none 0 0,some (.slice el) =>
  match szOf P el,natOr 0 lo,natOr 0 hi with
  | some _,some 0,some 0=>some (.slice none 0 0)
  | _,_,_=>none
 | .slice (some a) len cap,some (.slice el) =>
  match a.spot,S.heap.get a.block,szOf P el,natOr 0 lo,natOr len hi with
  | none,some (.cells _ _ sz _ _),some n,some l,some h =>
   match Nat.ble l h,Nat.ble h cap,Nat.beq sz n with
   | true,true,true =>
    match Nat.beq cap l with
    | true=>some (.slice (some ⟨0,0,some 0⟩) 0 0)
    | false=>some (.slice (some (a.add (l * n))) (h - l) (cap - l))
   | _,_,_=>none
  | _,_,_,_,_=>none
 | .pointer (some a),some (.array n el) =>
  match a.spot,S.heap.get a.block,szOf P el,natOr 0 lo,natOr n hi with
  | none,some (.cells _ _ sz _ _),some s,some l,some h =>
   match Nat.ble l h,Nat.ble h n,Nat.beq sz 0,Nat.beq n l with
   | true,true,true,false=>some (.slice (some (a.add (l * s))) (h - l) (n - l))
   | _,_,_,_=>none
  | _,_,_,_,_=>none
 | _,_=>none
theorem bound_run {v v':Value} {n y d:Nat} {c:BoundsCode} (hv:VR σ v v') (e:natOr d (some v)=some n) (hy:n≤y) (w:World):(Instr.sliceBound v' y c).run P w=.ok n w:=by
 unfold natOr at e
 split at e
 ·rename_i h; cases h
 ·rename_i k m h
  cases h
  cases hv
  simp at e
  subst e
  have:(0:Int)≤(Int.ofNat m)∧(Int.ofNat m)≤(y:Int):=by constructor<;>simp<;>omega
  simp [Instr.sliceBound,asIntOf,hy,pure,Sem.run]
 ·simp at e
theorem aSlice_ok {S:AS} {w:World} (h:HR B w0 G σ S w) (t:TypeId) {x x':Value} (hx:VR σ x x') {lo hi lo' hi':Option Value} (hlo:∀ v,lo=some v→∃ v',lo'=some v'∧VR σ v v') (hlo0:lo=none→lo'=none)
  (hhi:∀ v,hi=some v→∃ v',hi'=some v'∧VR σ v v') (hhi0:hi=none→hi'=none) {v:Value} (e:aSlice P t x lo hi S=some v) :
  ∃ v',(Instr.sliceAt t x' lo' hi' none).run P w=.ok v' w∧VR σ v v':=by
 unfold aSlice at e
 split at e
 ·rename_i el hu
  split at e
  ·rename_i n hn hl hhh
   simp only [Option.some.injEq] at e
   subst e
   cases hx
   have runb:(Instr.sliceBounds true 0 0 lo' hi' none).run P w=.ok (0,0,0) w:=by
    cases hi with
    | none =>
     rw [hhi0 rfl]
     cases lo with
     | none=>rw [hlo0 rfl]; simp [Instr.sliceBounds,pure,Sem.run]
     | some y =>
      obtain ⟨y',rfl,hy⟩:=hlo y rfl
      have hb:=bound_run (P:=P) (c:=.sliceB) hy hl (Nat.le_refl 0) w
      simp [Instr.sliceBounds,pure,Sem.run,hb]
    | some z =>
     obtain ⟨z',rfl,hz⟩:=hhi z rfl
     have ha:=bound_run (P:=P) (c:=.sliceAcap) hz hhh (Nat.le_refl 0) w
     cases lo with
     | none=>rw [hlo0 rfl]; simp [Instr.sliceBounds,pure,Sem.run,ha]
     | some y =>
      obtain ⟨y',rfl,hy⟩:=hlo y rfl
      have hb:=bound_run (P:=P) (c:=.sliceB) hy hl (Nat.le_refl 0) w
      simp [Instr.sliceBounds,pure,Sem.run,ha,hb]
   refine ⟨.slice none 0 0,?_,.sl0⟩
   simp [Instr.sliceAt,Instr.slice,Sem.run_bind,run_und hu,Result.andThen_ok,runb,run_sz hn,pure,Sem.run]
  ·simp at e
 ·rename_i a len cap el hu
  split at e
  ·rename_i c ty sz wr ex n l hh hsp hg hn hl hhh
   split at e
   ·rename_i b1 b2 b3
    have b1:=Nat.le_of_ble_eq_true b1
    have b2:=Nat.le_of_ble_eq_true b2
    have b3:=Nat.eq_of_beq_eq_true b3
    subst b3
    cases hx with
    | slg=>simp at hsp
    | slz=>simp at hsp
    | sl hs hc hlc he =>
     rename_i id off L cap'
     obtain ⟨L',C,Ty,fz,k1,k2,k3,k4,_⟩:=h.blk _ _ hg
     rw [hs] at k1; cases k1
     have runb:(Instr.sliceBounds true len cap' lo' hi' none).run P w=.ok (l,hh,cap') w:=by
      cases hi with
      | none =>
       rw [hhi0 rfl]
       simp only [natOr,Option.some.injEq] at hhh
       subst hhh
       cases lo with
       | none=>rw [hlo0 rfl]; simp only [natOr,Option.some.injEq] at hl; subst hl; simp [Instr.sliceBounds,pure,Sem.run]
       | some y =>
        obtain ⟨y',rfl,hy⟩:=hlo y rfl
        have hb:=bound_run (P:=P) (c:=.sliceB) hy hl b1 w
        simp [Instr.sliceBounds,pure,Sem.run,hb]
      | some z =>
       obtain ⟨z',rfl,hz⟩:=hhi z rfl
       have ha:=bound_run (P:=P) (c:=.sliceAcap) hz hhh (Nat.le_trans b2 hc) w
       cases lo with
       | none=>rw [hlo0 rfl]; simp only [natOr,Option.some.injEq] at hl; subst hl; simp [Instr.sliceBounds,pure,Sem.run,ha]
       | some y =>
        obtain ⟨y',rfl,hy⟩:=hlo y rfl
        have hb:=bound_run (P:=P) (c:=.sliceB) hy hl b1 w
        simp [Instr.sliceBounds,pure,Sem.run,ha,hb]
     have run:(Instr.sliceAt t (.slice (some ⟨L.blk,L.off+off,none⟩) len cap') lo' hi' none).run P w =
       .ok (.slice (some (if cap'=l then ⟨L.blk,L.off+off,none⟩ else Addr.add ⟨L.blk,L.off+off,none⟩ (l * sz))) (hh - l) (cap' - l)) w:=by
      simp only [Instr.sliceAt,Instr.slice,Sem.run_bind,run_und hu,Result.andThen_ok,runb,run_sz hn,pure,Sem.run]
      by_cases hcl:cap'=l<;>simp [hcl]
     split at e
     ·rename_i b4
      have b4:=Nat.eq_of_beq_eq_true b4
      simp only [Option.some.injEq] at e
      subst e
      have:hh - l=0:=by omega
      rw [this] at run
      exact ⟨_,run,.slg⟩
     ·rename_i b4
      have b4:=Nat.ne_of_beq_eq_false b4
      simp only [Option.some.injEq] at e
      subst e
      have hne:¬ cap'=l:=by omega
      rw [if_neg hne] at run
      refine ⟨_,run,?_⟩
      have e1:Addr.add ⟨id,off,none⟩ (l * sz)=⟨id,off+l * sz,none⟩:=by unfold Addr.add; split<;>simp_all
      have e2:Addr.add ⟨L.blk,L.off+off,none⟩ (l * sz)=⟨L.blk,L.off+(off+l * sz),none⟩:=by unfold Addr.add; split<;>simp_all [Nat.add_assoc]
      rw [e1,e2]
      refine .sl hs (by omega) (by omega) (fun h0=>?_)
      have:=he h0
      rw [k4] at this ⊢
      have h5:cap' * sz=l * sz+(cap' - l) * sz:=by rw [← Nat.add_mul]; congr 1; omega
      omega
   ·simp at e
  ·simp at e
 ·rename_i a n el hu
  split at e
  ·rename_i c ty sz wr ex s l hh hsp hg hn hl hhh
   split at e
   ·rename_i b1 b2 b3 b4
    have b1:=Nat.le_of_ble_eq_true b1
    have b2:=Nat.le_of_ble_eq_true b2
    have b3:=Nat.eq_of_beq_eq_true b3
    have b4:=Nat.ne_of_beq_eq_false b4
    simp only [Option.some.injEq] at e
    subst e
    cases hx with
    | p hs =>
     rename_i id off L
     obtain ⟨L',C,Ty,fz,k1,k2,k3,k4,_⟩:=h.blk _ _ hg
     rw [hs] at k1; cases k1
     have runb:(Instr.sliceBounds false n n lo' hi' none).run P w=.ok (l,hh,n) w:=by
      cases hi with
      | none =>
       rw [hhi0 rfl]
       simp only [natOr,Option.some.injEq] at hhh
       subst hhh
       cases lo with
       | none=>rw [hlo0 rfl]; simp only [natOr,Option.some.injEq] at hl; subst hl; simp [Instr.sliceBounds,pure,Sem.run]
       | some y =>
        obtain ⟨y',rfl,hy⟩:=hlo y rfl
        have hb:=bound_run (P:=P) (c:=.sliceB) hy hl b1 w
        simp [Instr.sliceBounds,pure,Sem.run,hb]
      | some z =>
       obtain ⟨z',rfl,hz⟩:=hhi z rfl
       have ha:=bound_run (P:=P) (c:=.sliceAlen) hz hhh b2 w
       cases lo with
       | none=>rw [hlo0 rfl]; simp only [natOr,Option.some.injEq] at hl; subst hl; simp [Instr.sliceBounds,pure,Sem.run,ha]
       | some y =>
        obtain ⟨y',rfl,hy⟩:=hlo y rfl
        have hb:=bound_run (P:=P) (c:=.sliceB) hy hl b1 w
        simp [Instr.sliceBounds,pure,Sem.run,ha,hb]
     have hnl:¬ n=l:=b4
     have run:(Instr.sliceAt t (.pointer (some ⟨L.blk,L.off+off,none⟩)) lo' hi' none).run P w =
       .ok (.slice (some (Addr.add ⟨L.blk,L.off+off,none⟩ (l * s))) (hh - l) (n - l)) w:=by
      simp only [Instr.sliceAt,Instr.sureAddr,Sem.run_bind,run_und hu,Result.andThen_ok,runb,run_sz hn,pure,Sem.run,if_neg hnl]
     refine ⟨_,run,?_⟩
     have e1:Addr.add ⟨id,off,none⟩ (l * s)=⟨id,off+l * s,none⟩:=by unfold Addr.add; split<;>simp_all
     have e2:Addr.add ⟨L.blk,L.off+off,none⟩ (l * s)=⟨L.blk,L.off+(off+l * s),none⟩:=by unfold Addr.add; split<;>simp_all [Nat.add_assoc]
     rw [e1,e2]
     exact .sl hs (Nat.le_refl _) (by omega) (fun h0=>absurd (k4.trans b3) h0)
   ·simp at e
  ·simp at e
 ·simp at e
def zeroV:Option Value→Bool
 | some (.int _ (.ofNat 0))=>true
 | _=>false
def aSlice3 (P:Program) (t:TypeId) (x:Value) (lo hi mx:Option Value):Option Value :=
 match P.underlying t with
 | some (.slice el) =>
  match szOf P el,natOr 0 lo,zeroV hi,zeroV mx with
  | some _,some 0,true,true =>
   match x with
   | .slice none 0 0=>some (.slice none 0 0)
   | .slice (some _) _ _=>some (.slice (some ⟨0,0,some 1⟩) 0 0)
   | _=>none
  | _,_,_,_=>none
 | _=>none
theorem zeroV_run {v v':Value} (hv:VR σ v v') (e:zeroV (some v)=true) {y:Nat} {c:BoundsCode} (w:World):(Instr.sliceBound v' y c).run P w=.ok 0 w:=by
 unfold zeroV at e
 split at e
 ·rename_i k h
  cases h
  cases hv
  simp [Instr.sliceBound,asIntOf,pure,Sem.run]
 ·simp at e
theorem aSlice3_ok (t:TypeId) {x x':Value} (hx:VR σ x x') {lo hi mx lo' hi' mx':Option Value} (hlo:∀ v,lo=some v→∃ v',lo'=some v'∧VR σ v v') (hlo0:lo=none→lo'=none)
  (hhi:∀ v,hi=some v→∃ v',hi'=some v'∧VR σ v v') (hmx:∀ v,mx=some v→∃ v',mx'=some v'∧VR σ v v') {v:Value} (e:aSlice3 P t x lo hi mx=some v) (w:World) :
  ∃ v',(Instr.sliceAt t x' lo' hi' mx').run P w=.ok v' w∧VR σ v v':=by
 unfold aSlice3 at e
 split at e
 case h_2=>simp at e
 rename_i el hu
 split at e
 case h_2=>simp at e
 rename_i n hn hl hh hm
 cases hi with
 | none=>simp [zeroV] at hh
 | some z =>
 cases mx with
 | none=>simp [zeroV] at hm
 | some u =>
 obtain ⟨z',rfl,hz⟩:=hhi z rfl
 obtain ⟨u',rfl,hu'⟩:=hmx u rfl
 have runb:∀ len cap,(Instr.sliceBounds true len cap lo' (some z') (some u')).run P w=.ok (0,0,0) w:=by
  intro len cap
  have h1:=fun (y:Nat) (c:BoundsCode)=>zeroV_run (P:=P) (y:=y) (c:=c) hz hh w
  have h2:=fun (y:Nat) (c:BoundsCode)=>zeroV_run (P:=P) (y:=y) (c:=c) hu' hm w
  cases lo with
  | none=>rw [hlo0 rfl]; simp [Instr.sliceBounds,pure,Sem.run,h1,h2]
  | some y =>
   obtain ⟨y',rfl,hy⟩:=hlo y rfl
   have hb:=bound_run (P:=P) (c:=.slice3C) hy hl (Nat.le_refl 0) w
   simp [Instr.sliceBounds,pure,Sem.run,h1,h2,hb]
 split at e
 ·cases hx
  simp only [Option.some.injEq] at e
  subst e
  refine ⟨.slice none 0 0,?_,.sl0⟩
  simp [Instr.sliceAt,Instr.slice,Sem.run_bind,run_und hu,Result.andThen_ok,runb,run_sz hn,pure,Sem.run]
 ·simp only [Option.some.injEq] at e
  subst e
  have run:∀ (a:Addr) (len cap:Nat),(Instr.sliceAt t (.slice (some a) len cap) lo' (some z') (some u')).run P w=.ok (.slice (some a) 0 0) w:=by
   intro a len cap
   simp [Instr.sliceAt,Instr.slice,Sem.run_bind,run_und hu,Result.andThen_ok,runb,run_sz hn,pure,Sem.run]
  cases hx with
  | sl=>exact ⟨_,run _ _ _,.slz⟩
  | slg=>exact ⟨_,run _ _ _,.slz⟩
  | slz=>exact ⟨_,run _ _ _,.slz⟩
 ·simp at e
def AS.cellsAt (S:AS) (a:Addr) (n:Nat):Option (List Value) :=
 match a.spot,S.heap.get a.block with
 | none,some (.cells c _ _ _ _) =>
  match Nat.ble (a.off+n) c.length with
  | true=>some ((c.drop a.off).take n)
  | false=>none
 | _,_=>none
theorem HR.move {S:AS} {w:World} (h:HR B w0 G σ S w) {id off:Nat} {c:List Value} {ty sz:Nat} {ex:Bool} {L:Loc} (hg:S.heap.get id=some (.cells c ty sz true ex)) (hL:σ id=some L) :
  HR B w0 G (σ.more S.next ⟨L.blk,L.off+off,L.ext,L.sz⟩) ({ heap:=(S.heap.set id (some .gone)).set S.next (some (.cells (c.drop off) ty sz true false)),next:=S.next+1 }) w:=by
 have hle:=Sig.more_le (L:=⟨L.blk,L.off+off,L.ext,L.sz⟩) h.fresh
 obtain ⟨L',C,Ty,fz,k1,k2,k3,k4,k5,k7,k6⟩:=h.blk _ _ hg
 rw [hL] at k1; cases k1
 have hidn:id<S.next:=(h.dom _ _ hL).1
 refine ⟨h.below,h.hB,?_,?_,?_,fun g hg=>let ⟨M,a,b⟩:=h.glob g hg; ⟨M,hle _ _ a,b⟩⟩
 ·intro i M hM
  unfold Sig.more at hM
  by_cases hi:i=S.next
  ·rw [if_pos hi] at hM; cases hM; exact ⟨by simp [hi],(h.dom _ _ hL).2⟩
  ·rw [if_neg hi] at hM; have:=h.dom i M hM; exact ⟨by simp only; omega,this.2⟩
 ·intro i b hb
  simp only [T.get_set] at hb
  by_cases hi:i=S.next
  ·rw [if_pos hi] at hb; cases hb
   subst hi
   refine ⟨_,C,Ty,fz,Sig.more_self _ _ _,k2,k3,k4,k5,fun hf=>by simp at hf,fun j v e=>?_⟩
   rw [List.getElem?_drop] at e
   obtain ⟨v',e',r⟩:=k6 _ _ e
   exact ⟨v',by rw [← e']; congr 1; simp only; omega,r.mono hle⟩
  ·rw [if_neg hi] at hb
   by_cases hi2:i=id
   ·rw [if_pos hi2] at hb; cases hb; trivial
   ·rw [if_neg hi2] at hb; exact (h.blk i b hb).more h.fresh hi
 ·intro i i' b b' M M' hb hl hb' hl' hM hM' e hm
  simp only [T.get_set] at hb hb'
  unfold Sig.more at hM hM'
  have notid:∀ {j:Nat} {b:ABlk},(if j=id then some ABlk.gone else S.heap.get j)=some b→b.live=true→j≠id∧S.heap.get j=some b:=by
   intro j b hb hl
   by_cases hj:j=id
   ·rw [if_pos hj] at hb; cases hb; simp [ABlk.live] at hl
   ·rw [if_neg hj] at hb; exact ⟨hj,hb⟩
  by_cases hi:i=S.next<;>by_cases hi':i'=S.next
  ·rw [hi,hi']
  ·rw [if_pos hi] at hM; rw [if_neg hi'] at hM' hb'
   cases hM
   obtain ⟨h1,h2⟩:=notid hb' hl'
   exact absurd (h.inj _ _ _ _ _ _ h2 hl' hg rfl hM' hL e.symm (by simp [ABlk.mut])) h1
  ·rw [if_neg hi] at hM hb; rw [if_pos hi'] at hM'
   cases hM'
   obtain ⟨h1,h2⟩:=notid hb hl
   exact absurd (h.inj _ _ _ _ _ _ h2 hl hg rfl hM hL e (by simp [ABlk.mut])) h1
  ·rw [if_neg hi] at hM hb; rw [if_neg hi'] at hM' hb'
   exact h.inj _ _ _ _ M M' (notid hb hl).2 hl (notid hb' hl').2 hl' hM hM' e hm
theorem HR.more {S:AS} {w:World} (h:HR B w0 G σ S w) {id:Nat} {c:List Value} {ty sz:Nat} {L:Loc} (hg:S.heap.get id=some (.cells c ty sz true false)) (hL:σ id=some L) (hroom:L.off+c.length<L.ext)
  {v v':Value} (hv:VR σ v v') :
  (∃ u,w.cell? ⟨L.blk,L.off+c.length,none⟩=some u)∧w.frozen? ⟨L.blk,L.off+c.length,none⟩=false ∧
   HR B w0 G σ { S with heap:=S.heap.set id (some (.cells (c++[v]) ty sz true false)) } (w.setCell ⟨L.blk,L.off+c.length,none⟩ v'):=by
 obtain ⟨L',C,Ty,fz,k1,k2,k3,k4,k5,k7,k6⟩:=h.blk _ _ hg
 rw [hL] at k1; cases k1
 obtain ⟨rfl,kB,kT⟩:=k5 rfl
 have hCs:L.off+c.length<C.size:=by omega
 have same:∀ k,k≠L.blk→(w.setCell ⟨L.blk,L.off+c.length,none⟩ v').heap[k]?=w.heap[k]?:=fun k hk=>Below.heap_setCell _ _ _ _ hk
 have here:(w.setCell ⟨L.blk,L.off+c.length,none⟩ v').heap[L.blk]?=some (.cells (C.setIfInBounds (L.off+c.length) v') Ty (0,0)):=by
  simp [World.setCell,Array.getElem?_modify,k2]
 refine ⟨⟨C[L.off+c.length],by simp [World.cell?,k2,hCs]⟩,by simp [World.frozen?,k2],?_⟩
 refine ⟨h.below.setCell (p:=⟨L.blk,L.off+c.length,none⟩) kB v',by simpa [World.setCell] using h.hB,fun id M hM=>by simpa [World.setCell] using h.dom id M hM,?_,?_,h.glob⟩
 ·intro i b hb
  simp only [T.get_set] at hb
  by_cases hid:i=id
  ·subst hid
   simp only [if_true,Option.some.injEq] at hb
   subst hb
   refine ⟨L,_,Ty,(0,0),hL,here,by simpa using k3,k4,fun _=>⟨rfl,kB,kT⟩,fun hx=>by simp at hx,fun j x hx=>?_⟩
   rw [List.getElem?_append] at hx
   split at hx
   ·rename_i hj
    obtain ⟨x',hx',r⟩:=k6 _ _ hx
    exact ⟨x',by rw [Array.getElem?_setIfInBounds,if_neg (by omega)]; exact hx',r⟩
   ·rename_i hj
    have hj2:j=c.length:=by
     rcases Nat.lt_or_ge j (c.length+1) with h1|h1
     ·omega
     ·rw [List.getElem?_eq_none (by simp; omega)] at hx; cases hx
    subst hj2
    simp at hx
    subst hx
    exact ⟨v',by simp [hCs],hv⟩
  ·rw [if_neg hid] at hb
   refine (h.blk i b hb).of_same (fun hl M hM=>same _ fun eM=>hid ?_)
   exact h.inj i id b _ M L hb hl hg rfl hM hL eM (by simp [ABlk.mut])
 ·intro i i' b b' M M' hb hl hb' hl' hM hM' e hm
  simp only [T.get_set] at hb hb'
  by_cases hid:i=id
  ·by_cases hid':i'=id
   ·rw [hid,hid']
   ·rw [if_neg hid'] at hb'
    subst hid
    exact h.inj _ _ _ _ M M' hg rfl hb' hl' hM hM' e (by simp [ABlk.mut])
  ·rw [if_neg hid] at hb
   by_cases hid':i'=id
   ·subst hid'
    exact h.inj _ _ _ _ M M' hb hl hg rfl hM hM' e (by simp [ABlk.mut])
   ·rw [if_neg hid'] at hb'
    exact h.inj _ _ _ _ M M' hb hl hb' hl' hM hM' e hm
theorem HR.congr {S S':AS} {w:World} (h:HR B w0 G σ S w) (hn:S'.next=S.next) (hg:∀ j,S'.heap.get j=S.heap.get j):HR B w0 G σ S' w :=
 ⟨h.below,h.hB,fun i L e=>by rw [hn]; exact h.dom i L e,fun j b hb=>h.blk j b ((hg j).symm.trans hb),
  fun j j' b b' M M' hb hl hb' hl'=>h.inj j j' b b' M M' ((hg j).symm.trans hb) hl ((hg j').symm.trans hb') hl',h.glob⟩
theorem run_store {w:World} {a:Addr} {v u:Value} (h1:oneB v=true) (hc:w.cell? a=some u) (hf:w.frozen? a=false):(Sem.store .plain a v (.pure ())).run P w=.ok () (w.setCell a v):=by
 cases v<;>first|(simp [oneB] at h1; done)|simp [Sem.run,hc,hf]
theorem HR.moreAll {id:Nat} {ty sz:Nat} {L:Loc}:∀ (vs vs':List Value) {S:AS} {w:World} {c:List Value} (a:Addr) (i:Nat),HR B w0 G σ S w→S.heap.get id=some (.cells c ty sz true false)→σ id=some L →
  L.off+c.length+vs.length≤L.ext→a.spot=none→a.block=L.blk→a.off+i=L.off+c.length→AR σ ⟨vs⟩ ⟨vs'⟩→(∀ v ∈ vs,oneB v=true) →
  ∃ w',(storeCells a vs' i).run P w=.ok () w'∧HR B w0 G σ { S with heap:=S.heap.set id (some (.cells (c++vs) ty sz true false)) } w'
 | [],[],S,w,c,a,i,h,hg,hL,_,_,_,_,_,_=>by
  refine ⟨w,by simp [storeCells,pure,Sem.run],h.congr rfl (fun j=>?_)⟩
  simp only [T.get_set,List.append_nil]
  by_cases hj:j=id
  ·subst hj; simp [hg]
  ·rw [if_neg hj]
 | [],_ :: _,_,_,_,_,_,_,_,_,_,_,_,_,hr,_=>by have:=hr.1; simp at this
 | _ :: _,[],_,_,_,_,_,_,_,_,_,_,_,_,hr,_=>by have:=hr.1; simp at this
 | v :: vs,v' :: vs',S,w,c,a,i,h,hg,hL,hroom,hs,hb,ho,hr,h1=>by
  have h0:VR σ v v':=by obtain ⟨u,hu,r⟩:=hr.get (i:=0) (v:=v) (by simp); simp at hu; exact hu ▸ r
  have hr':AR σ ⟨vs⟩ ⟨vs'⟩:=by
   refine AR.of_get (by have:=hr.1; simpa using this) (fun j x y hx hy=>?_)
   obtain ⟨u,hu,r⟩:=hr.get (i:=j+1) (v:=x) (by simpa using hx)
   have:u=y:=by simp at hu hy; rw [hu] at hy; exact Option.some.inj hy
   exact this ▸ r
  obtain ⟨⟨u,hu⟩,hf,hm⟩:=h.more hg hL (by simp at hroom; omega) h0
  have hadd:a.add i=⟨L.blk,L.off+c.length,none⟩:=by
   obtain ⟨ab,ao,as⟩:=a
   simp only at hs hb ho
   subst hs; subst hb
   unfold Addr.add
   split<;>simp_all
  have hone:oneB v'=true:=h0.oneCell.trans (h1 v (by simp))
  obtain ⟨w',hrun,hr2⟩:=HR.moreAll (ty:=ty) (sz:=sz) vs vs' (S:={ S with heap:=S.heap.set id (some (.cells (c++[v]) ty sz true false)) }) (c:=c++[v]) a (i+1) hm (by simp [T.get_set]) hL (by simp at hroom ⊢; omega) hs hb (by simp; omega) hr'
   (fun x hx=>h1 x (List.mem_cons_of_mem _ hx))
  refine ⟨w',?_,?_⟩
  ·simp only [storeCells,store,hadd,Sem.run_bind]
   rw [run_store hone hu hf,Result.andThen_ok,hrun]
  ·refine hr2.congr rfl (fun j=>?_)
   simp only [T.get_set]
   by_cases hj:j=id<;>simp [hj]
end
end Go.Aev
end
section
set_option linter.unusedSimpArgs false
namespace Go.Aev
open Go Go.RowKit
section
variable {B:Nat} {w0:World} {G:Nat} {P:Program} {σ:Sig}
theorem load_list {w:World} {a':Addr}:∀ (cs:List Value) (i:Nat) {acc acc':Array Value},(∀ (j:Nat) (v:Value),cs[j]?=some v→∃ v',w.cell? (a'.add (i+j))=some v'∧VR σ v v')→AR σ acc acc' →
  ∃ r',(loadCellsFrom a' i cs.length acc').run P w=.ok r' w∧AR σ (acc++cs.toArray) r'
 | [],i,acc,acc',_,h=>⟨acc',by simp [loadCellsFrom,pure,Sem.run],by simpa using h⟩
 | v :: cs,i,acc,acc',hc,h=>by
  obtain ⟨v',e',r⟩:=hc 0 v (by simp)
  obtain ⟨r',h1,h2⟩:=load_list cs (i+1) (acc:=acc.push v) (acc':=acc'.push v') (fun j x hx=>by
   obtain ⟨x',hx',rx⟩:=hc (j+1) x (by simpa using hx)
   exact ⟨x',by rw [show i+1+j=i+(j+1) from by omega]; exact hx',rx⟩) (h.push r)
  refine ⟨r',?_,by simpa using h2⟩
  simp only [List.length_cons,loadCellsFrom,load,Sem.run_bind]
  have:(Sem.load .plain (a'.add i) .pure).run P w=.ok v' w:=by simp [Sem.run,show w.cell? (a'.add i)=some v' from e']
  rw [this,Result.andThen_ok,h1]
theorem cellsAt_inv {S:AS} {a:Addr} {n:Nat} {cs:List Value} (e:S.cellsAt a n=some cs):a.spot=none∧cs.length=n∧∃ c ty sz wr ex,S.heap.get a.block=some (.cells c ty sz wr ex)∧a.off+n≤c.length∧cs=(c.drop a.off).take n:=by
 unfold AS.cellsAt at e
 split at e
 ·rename_i c ty sz wr ex hs hg
  split at e
  ·rename_i hb
   have hb:=Nat.le_of_ble_eq_true hb
   simp only [Option.some.injEq] at e
   subst e
   exact ⟨hs,by simp; omega,c,ty,sz,wr,ex,hg,hb,rfl⟩
  ·simp at e
 ·simp at e
theorem add_lit (b o n:Nat):Addr.add ⟨b,o,none⟩ n=⟨b,o+n,none⟩:=by unfold Addr.add; split<;>simp_all
theorem cellsAt_ok {S:AS} {w:World} (h:HR B w0 G σ S w) {id off:Nat} {L:Loc} (hL:σ id=some L) {n:Nat} {cs:List Value} (e:S.cellsAt ⟨id,off,none⟩ n=some cs) :
  ∃ c',(loadCells ⟨L.blk,L.off+off,none⟩ n).run P w=.ok c' w∧AR σ cs.toArray c':=by
 obtain ⟨_,hlen,c,ty,sz,wr,ex,hg,hb,rfl⟩:=cellsAt_inv e
 obtain ⟨L',C,Ty,fz,k1,k2,k3,k4,k5,k7,k6⟩:=h.blk _ _ hg
 rw [hL] at k1; cases k1
 obtain ⟨r',h1,h2⟩:=load_list (P:=P) (σ:=σ) (w:=w) (a':=⟨L.blk,L.off+off,none⟩) ((c.drop off).take n) 0 (acc:=#[]) (acc':=#[]) (fun j v hv=>by
  have hj:j<n:=by
   rcases Nat.lt_or_ge j n with h|h
   ·exact h
   ·rw [List.getElem?_eq_none (by simp; omega)] at hv; cases hv
  rw [List.getElem?_take,if_pos hj,List.getElem?_drop] at hv
  obtain ⟨v',e',r⟩:=k6 _ _ hv
  refine ⟨v',?_,r⟩
  rw [add_lit]
  simp only [World.cell?,k2,Option.isSome_none,Bool.false_eq_true,if_false]
  rw [← e']; congr 1; omega) (AR.empty _)
 rw [hlen] at h1
 exact ⟨r',h1,by simpa using h2⟩
def bytesOf (s:ByteArray):List Value:=s.data.toList.map fun b=>.int .u8 b.toNat
def srcOf (P:Program) (tx:TypeId) (size:Nat) (x:Value) (S:AS):Option (List Value × Nat) :=
 match x,P.underlying tx with
 | .slice none 0 0,some (.slice _)=>some ([],0)
 | .slice (some a) n _,some (.slice _) =>
  match n with
  | 0=>some ([],0)
  | k+1=>(S.cellsAt a ((k+1) * size)).map fun cs=>(cs,k+1)
 | .string s,some .string =>
  match Nat.beq size 1 with
  | true=>some (bytesOf s,s.size)
  | false=>none
 | _,_=>none
theorem firstCells_str (s:ByteArray) (w:World):(Builtin.firstCells 1 s.size (.string s)).run P w=.ok (bytesOf s).toArray w:=by
 have:s.extract 0 s.size=s:=by
  apply ByteArray.ext
  simp
 simp [Builtin.firstCells,this,pure,Sem.run,bytesOf]
 apply Array.ext'
 simp
theorem srcOf_ok {S:AS} {tx size n:Nat} {x x':Value} (hx:VR σ x x') {cs:List Value} (e:srcOf P tx size x S=some (cs,n)) :
  ((∃ e',P.underlying tx=some (.slice e'))∨P.underlying tx=some .string)∧(∀ w,(Builtin.lenOf x').run P w=.ok n w)∧cs.length=n * size ∧
   ∀ w,HR B w0 G σ S w→∃ c',AR σ cs.toArray c'∧(Builtin.firstCells size n x').run P w=.ok c' w:=by
 unfold srcOf at e
 split at e
 ·rename_i el hu
  cases hx
  simp only [Option.some.injEq,Prod.mk.injEq] at e
  obtain ⟨rfl,rfl⟩:=e
  exact ⟨.inl ⟨_,hu⟩,fun w=>rfl,by simp,fun w _=>⟨#[],AR.empty _,rfl⟩⟩
 ·rename_i a n' cap el hu
  split at e
  ·simp only [Option.some.injEq,Prod.mk.injEq] at e
   obtain ⟨rfl,rfl⟩:=e
   cases hx with
   | sl hs hc hl he=>exact ⟨.inl ⟨_,hu⟩,fun w=>rfl,by simp,fun w _=>⟨#[],AR.empty _,by simp [Builtin.firstCells,loadCells,loadCellsFrom,pure,Sem.run]⟩⟩
   | slg=>exact ⟨.inl ⟨_,hu⟩,fun w=>rfl,by simp,fun w _=>⟨#[],AR.empty _,by simp [Builtin.firstCells,loadCells,loadCellsFrom,pure,Sem.run]⟩⟩
   | slz=>exact ⟨.inl ⟨_,hu⟩,fun w=>rfl,by simp,fun w _=>⟨#[],AR.empty _,by simp [Builtin.firstCells,loadCells,loadCellsFrom,pure,Sem.run]⟩⟩
  ·rename_i k
   cases hc:S.cellsAt a ((k+1) * size) with
   | none=>simp [hc] at e
   | some cs' =>
    simp [hc] at e
    obtain ⟨rfl,rfl⟩:=e
    cases hx with
    | sl hs hcap hl he =>
     rename_i id off L cap'
     refine ⟨.inl ⟨_,hu⟩,fun w=>rfl,(cellsAt_inv hc).2.1,fun w' h'=>?_⟩
     obtain ⟨c2,h3,h4⟩:=cellsAt_ok (P:=P) h' hs hc
     exact ⟨c2,h4,by simpa [Builtin.firstCells] using h3⟩
 ·rename_i s hu
  split at e
  ·rename_i hb
   have hb:=Nat.eq_of_beq_eq_true hb
   subst hb
   simp only [Option.some.injEq,Prod.mk.injEq] at e
   obtain ⟨rfl,rfl⟩:=e
   cases hx
   refine ⟨.inr hu,fun w=>rfl,by simp [bytesOf],fun w _=>⟨_,?_,firstCells_str s w⟩⟩
   exact AR.of_all (fun v hv=>by simp [bytesOf] at hv; obtain ⟨b,_,rfl⟩:=hv; exact .int _ _)
  ·simp at e
 ·simp at e
theorem HR.drew {S:AS} {w:World} (h:HR B w0 G σ S w):HR B w0 G σ S w.drew :=
 ⟨h.below.drew,h.hB,h.dom,fun i b hb=>(h.blk i b hb).of_same (fun _ _ _=>rfl),h.inj,h.glob⟩
theorem growBy_le (n:Nat):∀ (r c:Nat),c<n→Builtin.growBy n r c≤2 * n+768
 | 0,c,h=>by simp [Builtin.growBy]; omega
 | r+1,c,h=>by
  unfold Builtin.growBy
  rw [if_neg (by omega)]
  rcases Nat.lt_or_ge (c+(c+768) / 4) n with h1|h1
  ·exact growBy_le n r _ h1
  ·cases r with
   | zero=>simp [Builtin.growBy]; omega
   | succ r=>unfold Builtin.growBy; rw [if_pos h1]; omega
theorem nextcap_le {n c:Nat} (h:c<n):Builtin.nextslicecap n c≤2 * n+768:=by
 unfold Builtin.nextslicecap
 split
 ·omega
 ·split
  ·omega
  ·exact growBy_le n 4 c h
def aAppend (P:Program) (t tx:TypeId) (s x:Value) (S:AS):Option (Value × AS) :=
 match P.underlying t with
 | some (.slice el) =>
  match P.info? el,zeroOf P el,szOf P el with
  | some i,some _,some (sz+1) =>
   match srcOf P tx (sz+1) x S with
   | some (cs,n) =>
    match cs.all oneB,Nat.ble i.bytes 65536,Nat.ble n 65536 with
    | true,true,true =>
     match s with
     | .slice none 0 0 =>
      match n with
      | 0=>some (s,S)
      | m+1=>some (.slice (some ⟨S.next,0,none⟩) (m+1) (m+1),S.push (.cells cs el (sz+1) true false))
     | .slice (some a) len cap =>
      match a.spot,S.heap.get a.block with
      | none,some (.cells c ty sz' true _) =>
       match Nat.beq sz' (sz+1),Nat.ble len 1048576,Nat.beq ty el with
       | true,true,true =>
        match n with
        | 0=>some (s,S)
        | m+1 =>
         match Nat.ble (len+(m+1)) cap with
         | true =>
          match ai P 0 (storeCells (a.add (len * (sz+1))) cs 0) S with
          | some (_,S')=>some (.slice (some a) (len+(m+1)) cap,S')
          | none=>none
         | false =>
          match Nat.beq (a.off+len * (sz+1)) c.length with
          | true=>some (.slice (some ⟨S.next,0,none⟩) (len+(m+1)) (len+(m+1)),
            { heap:=(S.heap.set a.block (some .gone)).set S.next (some (.cells (c.drop a.off++cs) ty (sz+1) true false)),next:=S.next+1 })
          | false=>none
       | _,_,_=>none
      | some 1,_ =>
       match n with
       | 0=>some (s,S)
       | m+1=>some (.slice (some ⟨S.next,0,none⟩) (m+1) (m+1),S.push (.cells cs el (sz+1) true false))
      | _,_=>none
     | _=>none
    | _,_,_=>none
   | none=>none
  | _,_,_=>none
 | _=>none
set_option maxHeartbeats 1000000 in
theorem append_room {t tx ty el size n sLen sCap:Nat} {a':Addr} {x':Value} {c':Array Value} {w w':World} (hu:P.underlying t=some (.slice el)) (hs:szOf P el=some size)
  (hx:(∃ e',P.underlying tx=some (.slice e'))∨P.underlying tx=some .string) (hlen:(Builtin.lenOf x').run P w=.ok n w) (hc:(Builtin.firstCells size n x').run P w=.ok c' w)
  (hroom:sLen+n≤sCap) (hst:(storeCells (a'.add (sLen * size)) c'.toList 0).run P w=.ok () w') :
  (Builtin.append_ #[t,tx] ty #[.slice (some a') sLen sCap,x']).run P w=.ok (.slice (some a') (sLen+n) sCap) w':=by
 rcases hx with ⟨e',hd⟩|hd<;>simp [Builtin.append_,run_und hu,run_und hd,run_sz hs,hlen,hroom,hc,hst]
set_option maxHeartbeats 1000000 in
theorem append_grow {t tx ty el size n sLen sCap:Nat} {base:Option Addr} {x' z:Value} {i:TypeInfo} {o' c':Array Value} {w:World} (hu:P.underlying t=some (.slice el)) (hi:P.info? el=some i)
  (hz:zeroOf P el=some z) (hs:szOf P el=some size)
  (hx:(∃ e',P.underlying tx=some (.slice e'))∨P.underlying tx=some .string) (hlen:(Builtin.lenOf x').run P w=.ok n w)
  (ho:(Builtin.firstCells size sLen (.slice base sLen sCap)).run P w.drew=.ok o' w.drew)
  (hc:(Builtin.firstCells size n x').run P w.drew=.ok c' w.drew)
  (hg:sCap<sLen+n) (hb:i.bytes≤65536) (hn:sLen+n≤2097152) :
  ∃ cap',sLen+n≤cap'∧(Builtin.append_ #[t,tx] ty #[.slice base sLen sCap,x']).run P w =
   .ok (.slice (some ⟨w.heap.size,0,none⟩) (sLen+n) cap') (w.drew.alloc (.cells (o'++c'++Builtin.zeroCells z.cells (cap' - (sLen+n))) el)):=by
 have hle:=nextcap_le hg
 have hm:Builtin.nextslicecap (sLen+n) sCap * i.bytes≤4195072 * 65536:=Nat.mul_le_mul (by omega) hb
 have h1:¬ (sLen+n≤sCap):=by omega
 have h2:¬ (281474976710656<Builtin.nextslicecap (sLen+n) sCap * i.bytes):=by omega
 have h3:¬ ((9223372036854775807:Int)<(sLen:Int)+(n:Int)):=by omega
 have hq:(Question.appendCap (sLen+n) sCap el).forced=false:=rfl
 have hmax:IntKind.i64.max=9223372036854775807:=by decide
 refine ⟨(Question.appendCap (sLen+n) sCap el).cut (w.tape w.drawn (Question.appendCap (sLen+n) sCap el)),by simp [Question.cut],?_⟩
 have ask:∀ b w,(askRoom b).run P w=.ok () w:=by intro b w; unfold askRoom; split<;>rfl
 rcases hx with ⟨e',hd⟩|hd <;>
  simp [Builtin.append_,run_und hu,run_und hd,run_sz hs,typeInfo,hi,hlen,h1,h2,h3,hq,hmax,ho,hc,ask,run_zeroOf hz,newRow]
theorem HR.newPart {S:AS} {w:World} (h:HR B w0 G σ S w) {cs:List Value} {C:Array Value} (hc:∀ (j:Nat) (v:Value),cs[j]?=some v→∃ v',C[j]?=some v'∧VR σ v v') (el sz:Nat) :
  HR B w0 G (σ.more S.next ⟨w.heap.size,0,C.size,sz⟩) (S.push (.cells cs el sz true false)) { w with heap:=w.heap.push (.cells C el) }:=by
 refine h.push rfl ⟨_,C,el,(0,0),Sig.more_self _ _ _,by simp,rfl,rfl,fun _=>⟨rfl,h.hB,rfl⟩,fun hf=>by simp at hf,fun j v e=>?_⟩
 obtain ⟨v',e',r⟩:=hc j v e
 exact ⟨v',by simpa using e',r.mono (Sig.more_le h.fresh)⟩
theorem AR.of_append {a b:List Value} {a' b':Array Value} {r:Array Value} (ha:AR σ a.toArray a') (hb:AR σ b.toArray b'):∀ (j:Nat) (v:Value),(a++b)[j]?=some v→∃ v',(a'++b'++r)[j]?=some v'∧VR σ v v':=by
 intro j v e
 have h:AR σ (a.toArray++b.toArray) (a'++b'):=ha.append hb
 obtain ⟨v',e',r'⟩:=h.get (i:=j) (v:=v) (by simpa using e)
 refine ⟨v',?_,r'⟩
 rw [Array.getElem?_append,if_pos (Array.getElem?_eq_some_iff.1 e').1]
 exact e'
theorem zeroCells_size (z:Array Value) (n:Nat):(Builtin.zeroCells z n).size=n * z.size:=by simp [Builtin.zeroCells]
theorem zero_size (hzs:∀ t i z,inTab P t=true→P.info? t=some i→i.zero=some z→z.cells.size=i.size) {t s:Nat} {z:Value} (hz:zeroOf P t=some z) (hs:szOf P t=some s):z.cells.size=s:=by
 unfold zeroOf at hz; unfold szOf at hs
 split at hz
 case h_2=>simp at hz
 rename_i ht
 cases hi:P.info? t with
 | none=>simp [hi] at hz
 | some i=>simp [hi] at hz hs; rw [← hs]; exact hzs t i z ht hi hz
set_option maxHeartbeats 1000000 in
theorem aAppend_ok (hzs : ∀ t i z,inTab P t = true → P.info? t = some i → i.zero = some z → z.cells.size = i.size) {S S' : AS} {w : World} (h : HR B w0 G σ S w) {t tx ty : Nat} {s s' x x' : Value} (hs : VR σ s s') (hx : VR σ x x') {v : Value}
    (e : aAppend P t tx s x S = some (v,S')) :
    ∃ σ' v' w',σ.le σ' ∧ (Builtin.append_ #[t,tx] ty #[s',x']).run P w = .ok v' w' ∧ VR σ' v v' ∧ HR B w0 G σ' S' w' := by
  unfold aAppend at e
  split at e
  case h_2 => simp at e
  rename_i el hu
  split at e
  case h_2 => simp at e
  rename_i i z sz hi hz hsz
  split at e
  case h_2 => simp at e
  rename_i cs n hsrc
  obtain ⟨k1,k2,k3,k4⟩ := srcOf_ok (B := B) (w0 := w0) (G := G) hx hsrc
  split at e
  case h_2 => simp at e
  rename_i b1 b2 b3
  have b2 := Nat.le_of_ble_eq_true b2
  have b3 := Nat.le_of_ble_eq_true b3
  have zs := zero_size hzs hz hsz
  split at e
  · -- the nil slice
    cases hs
    split at e
    · simp only [Option.some.injEq,Prod.mk.injEq] at e
      obtain ⟨rfl,rfl⟩ := e
      obtain ⟨c',hc',hrun⟩ := k4 w h
      refine ⟨σ,.slice none 0 0,w,Sig.le_refl _,?_,.sl0,h⟩
      rcases k1 with ⟨e',hd⟩ | hd <;> simp [Builtin.append_,run_und hu,run_und hd,run_sz hsz,k2,hrun]
    · rename_i m _
      simp only [Option.some.injEq,Prod.mk.injEq] at e
      obtain ⟨rfl,rfl⟩ := e
      obtain ⟨c',hc',hrun⟩ := k4 _ h.drew
      obtain ⟨cap',hcap,hr⟩ := append_grow (P := P) (w := w) (ty := ty) (sLen := 0) (sCap := 0) (base := none) hu hi hz hsz k1 (k2 w) (o' := #[]) (by simp [Builtin.firstCells]) hrun (by omega) b2 (by omega)
      have hcs : c'.size = (m + 1) * (sz + 1) := by rw [← hc'.1]; simpa using k3
      have h0 : 0 + (m + 1) = m + 1 := by omega
      rw [show 0 + m.succ = m + 1 from by omega] at hcap hr
      have hnew := h.drew.newPart (cs := cs) (C := #[] ++ c' ++ Builtin.zeroCells z.cells (cap' - (m + 1))) (fun j v hv => by
        have := AR.of_append (σ := σ) (a := []) (r := Builtin.zeroCells z.cells (cap' - (m + 1))) (AR.empty _) hc' j v (by simpa using hv)
        exact this) el (sz + 1)
      refine ⟨_,_,_,Sig.more_le h.fresh,hr,?_,hnew⟩
      refine VR.sl (σ := σ.more S.next _) (id := S.next) (off := 0) (L := ⟨w.heap.size,0,(#[] ++ c' ++ Builtin.zeroCells z.cells (cap' - (m + 1))).size,sz + 1⟩) (Sig.more_self _ _ _) (by omega) (by omega) (fun _ => ?_)
      simp only [Nat.zero_add,Array.size_append,zeroCells_size,hcs,zs]
      have : cap' = (m + 1) + (cap' - (m + 1)) := by omega
      calc cap' * (sz + 1) = ((m + 1) + (cap' - (m + 1))) * (sz + 1) := by rw [← this]
        _ = (m + 1) * (sz + 1) + (cap' - (m + 1)) * (sz + 1) := Nat.add_mul _ _ _
        _ ≤ _ := by simp
  · rename_i a len cap
    split at e
    case h_3 => simp at e
    case h_2 =>
      rename_i hsp
      cases hs with
      | sl => simp at hsp
      | slg => simp at hsp
      | slz =>
      rename_i a'
      split at e
      · simp only [Option.some.injEq,Prod.mk.injEq] at e
        obtain ⟨rfl,rfl⟩ := e
        obtain ⟨c',hc',hrun⟩ := k4 w h
        have hc0 : c' = #[] := by
          have : c'.size = 0 := by rw [← hc'.1]; simpa using k3
          exact Array.eq_empty_of_size_eq_zero this
        subst hc0
        have hr := append_room (P := P) (w := w) (w' := w) (ty := ty) (a' := a') (sLen := 0) (sCap := 0) hu hsz k1 (k2 w) hrun (by omega) (by simp [storeCells])
        exact ⟨σ,_,w,Sig.le_refl _,hr,.slz,h⟩
      · rename_i m _
        simp only [Option.some.injEq,Prod.mk.injEq] at e
        obtain ⟨rfl,rfl⟩ := e
        obtain ⟨c',hc',hrun⟩ := k4 _ h.drew
        obtain ⟨cap',hcap,hr⟩ := append_grow (P := P) (w := w) (ty := ty) (sLen := 0) (sCap := 0) (base := some a') hu hi hz hsz k1 (k2 w) (o' := #[]) (by simp [Builtin.firstCells,loadCells,loadCellsFrom,pure,Sem.run]) hrun (by omega) b2 (by omega)
        have hcs : c'.size = (m + 1) * (sz + 1) := by rw [← hc'.1]; simpa using k3
        rw [show 0 + m.succ = m + 1 from by omega] at hcap hr
        have hnew := h.drew.newPart (cs := cs) (C := #[] ++ c' ++ Builtin.zeroCells z.cells (cap' - (m + 1))) (fun j v hv => by
          have := AR.of_append (σ := σ) (a := []) (r := Builtin.zeroCells z.cells (cap' - (m + 1))) (AR.empty _) hc' j v (by simpa using hv)
          exact this) el (sz + 1)
        refine ⟨_,_,_,Sig.more_le h.fresh,hr,?_,hnew⟩
        refine VR.sl (σ := σ.more S.next _) (id := S.next) (off := 0) (L := ⟨w.heap.size,0,(#[] ++ c' ++ Builtin.zeroCells z.cells (cap' - (m + 1))).size,sz + 1⟩) (Sig.more_self _ _ _) (by omega) (by omega) (fun _ => ?_)
        simp only [Nat.zero_add,Array.size_append,zeroCells_size,hcs,zs]
        have : cap' = (m + 1) + (cap' - (m + 1)) := by omega
        calc cap' * (sz + 1) = ((m + 1) + (cap' - (m + 1))) * (sz + 1) := by rw [← this]
          _ = (m + 1) * (sz + 1) + (cap' - (m + 1)) * (sz + 1) := Nat.add_mul _ _ _
          _ ≤ _ := by simp
    rename_i c ty' sz' ex hsp hg
    split at e
    case h_2 => simp at e
    rename_i d1 d2 d3
    have d1 := Nat.eq_of_beq_eq_true d1
    have d2 := Nat.le_of_ble_eq_true d2
    have d3 := Nat.eq_of_beq_eq_true d3
    subst d1; subst d3
    cases hs with
    | slg => simp at hsp
    | slz => simp at hsp
    | sl hL hcap hlen he =>
      rename_i id off L cap'
      obtain ⟨L',C,Ty,fz,q1,q2,q3,q4,q5,q7,q6⟩ := h.blk _ _ hg
      simp only at q1
      rw [hL] at q1; cases q1
      have he' := he (by rw [q4]; omega)
      rw [q4] at he'
      split at e
      · -- nothing is appended
        simp only [Option.some.injEq,Prod.mk.injEq] at e
        obtain ⟨rfl,rfl⟩ := e
        obtain ⟨c',hc',hrun⟩ := k4 w h
        have hc0 : c' = #[] := by
          have : c'.size = 0 := by rw [← hc'.1]; simpa using k3
          exact Array.eq_empty_of_size_eq_zero this
        subst hc0
        have hr := append_room (P := P) (w := w) (w' := w) (ty := ty) (a' := ⟨L.blk,L.off + off,none⟩) (sLen := len) (sCap := cap') hu hsz k1 (k2 w) hrun (by omega) (by simp [storeCells])
        exact ⟨σ,_,w,Sig.le_refl _,hr,.sl hL hcap hlen he,h⟩
      · rename_i m _
        split at e
        · -- room that is known of
          rename_i hroom
          have hroom := Nat.le_of_ble_eq_true hroom
          split at e
          case h_2 => simp at e
          rename_i u S1 hai
          simp only [Option.some.injEq,Prod.mk.injEq] at e
          obtain ⟨rfl,rfl⟩ := e
          obtain ⟨c',hc',hrun⟩ := k4 w h
          have ha : AddrR σ ⟨id,off,none⟩ ⟨L.blk,L.off + off,none⟩ := ⟨L,hL,rfl,rfl⟩
          obtain ⟨σ',_,w',h1,h2,_,h4⟩ := rs_storeCells (B := B) (w0 := w0) (G := G) (P := P) (sz := 0) cs c'.toList 0 (ha.add (len * (sz + 1))) (by simpa using hc') σ S w (Sig.le_refl _) h u S1 hai
          have hr := append_room (P := P) (w := w) (w' := w') (ty := ty) (a' := ⟨L.blk,L.off + off,none⟩) (sLen := len) (sCap := cap') hu hsz k1 (k2 w) hrun (by omega) h2
          exact ⟨σ',_,w',h1,hr,.sl (h1 _ _ hL) (by omega) (by omega) he,h4⟩
        · split at e
          case h_2 => simp at e
          rename_i hfr
          have hfr := Nat.eq_of_beq_eq_true hfr
          simp only at hfr
          simp only [Option.some.injEq,Prod.mk.injEq] at e
          obtain ⟨rfl,rfl⟩ := e
          have hmove := h.move (off := off) hg hL
          rcases Nat.lt_or_ge cap' (len + (m + 1)) with hgr | hroom
          · -- the model makes a new row
            obtain ⟨c',hc',hrun⟩ := k4 _ h.drew
            have hcells : S.cellsAt ⟨id,off,none⟩ (len * (sz + 1)) = some ((c.drop off).take (len * (sz + 1))) := by
              simp only [AS.cellsAt,hg]
              rw [show Nat.ble (off + len * (sz + 1)) c.length = true from Nat.ble_eq_true_of_le (by omega)]
            obtain ⟨o',ho,hco⟩ := cellsAt_ok (P := P) h.drew hL hcells
            have htake : (c.drop off).take (len * (sz + 1)) = c.drop off := List.take_of_length_le (by simp; omega)
            rw [htake] at hco
            obtain ⟨cap2,hcap2,hr⟩ := append_grow (P := P) (w := w) (ty := ty) (sLen := len) (sCap := cap') (base := some ⟨L.blk,L.off + off,none⟩) hu hi hz hsz k1 (k2 w) (o' := o') (by simpa [Builtin.firstCells] using ho) hrun hgr b2 (by omega)
            have hnew := h.drew.newPart (cs := c.drop off ++ cs) (C := o' ++ c' ++ Builtin.zeroCells z.cells (cap2 - (len + (m + 1)))) (AR.of_append hco hc') ty' (sz + 1)
            have hgone : HR B w0 G (σ.more S.next ⟨w.heap.size,0,(o' ++ c' ++ Builtin.zeroCells z.cells (cap2 - (len + (m + 1)))).size,sz + 1⟩)
                { heap := (S.heap.set id (some .gone)).set S.next (some (.cells (c.drop off ++ cs) ty' (sz + 1) true false)),next := S.next + 1 } (w.drew.alloc (.cells (o' ++ c' ++ Builtin.zeroCells z.cells (cap2 - (len + (m + 1)))) ty')) := by
              have hidn : id ≠ S.next := by have := (h.dom _ _ hL).1; omega
              refine ⟨hnew.below,hnew.hB,hnew.dom,?_,?_,hnew.glob⟩
              · intro j b hb
                simp only [T.get_set] at hb
                by_cases hj : j = S.next
                · exact hnew.blk j b (by simp only [AS.push,T.get_set]; rw [if_pos hj] at hb ⊢; exact hb)
                · rw [if_neg hj] at hb
                  by_cases hj2 : j = id
                  · rw [if_pos hj2] at hb; cases hb; trivial
                  · rw [if_neg hj2] at hb; exact hnew.blk j b (by simp only [AS.push,T.get_set]; rw [if_neg hj]; exact hb)
              · have keep : ∀ {j : Nat} {b : ABlk},(if j = S.next then some (ABlk.cells (c.drop off ++ cs) ty' (sz + 1) true false) else if j = id then some .gone else S.heap.get j) = some b → b.live = true →
                    (S.push (.cells (c.drop off ++ cs) ty' (sz + 1) true false)).heap.get j = some b := by
                  intro j b hb hl
                  simp only [AS.push,T.get_set]
                  by_cases hj : j = S.next
                  · rw [if_pos hj] at hb ⊢; exact hb
                  · rw [if_neg hj] at hb ⊢
                    by_cases hj2 : j = id
                    · rw [if_pos hj2] at hb; cases hb; simp [ABlk.live] at hl
                    · rw [if_neg hj2] at hb; exact hb
                intro j j' b b' M M' hb hl hb' hl' hM hM' e hm
                simp only [T.get_set] at hb hb'
                exact hnew.inj j j' b b' M M' (keep hb hl) hl (keep hb' hl') hl' hM hM' e hm
            refine ⟨_,_,_,Sig.more_le h.fresh,hr,?_,hgone⟩
            refine VR.sl (σ := σ.more S.next _) (id := S.next) (off := 0) (L := ⟨w.heap.size,0,(o' ++ c' ++ Builtin.zeroCells z.cells (cap2 - (len + (m + 1)))).size,sz + 1⟩) (Sig.more_self _ _ _) (by omega) (by omega) (fun _ => ?_)
            have ho1 : o'.size = len * (sz + 1) := by rw [← hco.1]; simp; omega
            have hc1 : c'.size = (m + 1) * (sz + 1) := by rw [← hc'.1]; simpa using k3
            simp only [Nat.zero_add,Array.size_append,zeroCells_size,ho1,hc1,zs]
            rw [← Nat.add_mul,← Nat.add_mul]
            exact Nat.mul_le_mul_right _ (by omega)
          · -- the model writes behind its end
            obtain ⟨c',hc',hrun⟩ := k4 w h
            have hle := Sig.more_le (L := ⟨L.blk,L.off + off,L.ext,L.sz⟩) h.fresh
            have hrt : (len + (m + 1)) * (sz + 1) ≤ cap' * (sz + 1) := Nat.mul_le_mul_right _ hroom
            have hdist : (len + (m + 1)) * (sz + 1) = len * (sz + 1) + (m + 1) * (sz + 1) := Nat.add_mul _ _ _
            obtain ⟨w',h1,h2⟩ := HR.moreAll (P := P) (c := c.drop off) (id := S.next) (ty := ty') (sz := sz + 1) (L := ⟨L.blk,L.off + off,L.ext,L.sz⟩) cs c'.toList (Addr.add ⟨L.blk,L.off + off,none⟩ (len * (sz + 1))) 0 hmove
              (by simp [T.get_set]) (Sig.more_self _ _ _) (by simp only [List.length_drop,show cs.length = (m + 1) * (sz + 1) from k3]; omega) (by rw [add_lit]) (by rw [add_lit]) (by rw [add_lit]; simp only [List.length_drop]; omega) (by simpa using hc'.mono hle) (fun v hv => List.all_eq_true.1 b1 v hv)
            have hr := append_room (P := P) (w := w) (w' := w') (ty := ty) (a' := ⟨L.blk,L.off + off,none⟩) (sLen := len) (sCap := cap') hu hsz k1 (k2 w) hrun (by omega) h1
            refine ⟨_,_,w',hle,hr,?_,h2.congr rfl (fun j => ?_)⟩
            · exact VR.sl (σ := σ.more S.next _) (id := S.next) (off := 0) (L := ⟨L.blk,L.off + off,L.ext,L.sz⟩) (Sig.more_self _ _ _) (by omega) (by omega) (fun _ => by simp only [q4]; omega)
            · simp only [T.get_set]
              by_cases hj : j = S.next <;> simp [hj]
  · simp at e
def aAppendZ (P:Program) (t tx:TypeId) (s x:Value) (S:AS):Option (Value × AS) :=
 match s,x with
 | .slice none 0 0,.int _ (.ofNat (n+1)) =>
  match P.underlying t,P.underlying tx with
  | some (.slice el),some (.int _) =>
   match P.info? el,zeroOf P el,szOf P el with
   | some i,some z,some (sz+1) =>
    match Nat.ble n 65535,Nat.ble i.bytes 65536,Nat.beq z.cells.size (sz+1) with
    | true,true,true=>some (.slice (some ⟨S.next,0,none⟩) (n+1) (n+1),S.push (.cells (zerosOf z.cells ((n+1) * (sz+1))).toList el (sz+1) true false))
    | _,_,_=>none
   | _,_,_=>none
  | _,_=>none
 | _,_=>none
set_option maxHeartbeats 1000000 in
theorem append_zeros {t tx ty el size n:Nat} {k k':IntKind} {z:Value} {i:TypeInfo} {w:World} (hu:P.underlying t=some (.slice el)) (hd:P.underlying tx=some (.int k')) (hi:P.info? el=some i)
  (hz:zeroOf P el=some z) (hs:szOf P el=some (size+1)) (hb:i.bytes≤65536) (hn:n+1≤65536) :
  ∃ cap',n+1≤cap'∧(Builtin.append_ #[t,tx] ty #[.slice none 0 0,.int k ((n+1:Nat):Int)]).run P w =
   .ok (.slice (some ⟨w.heap.size,0,none⟩) (n+1) cap') (w.drew.alloc (.cells (#[]++Builtin.zeroCells z.cells (n+1)++Builtin.zeroCells z.cells (cap' - (n+1))) el)):=by
 have hg:0<n+1:=by omega
 have hle:=nextcap_le hg
 have hm:Builtin.nextslicecap (n+1) 0 * i.bytes≤262912 * 65536:=Nat.mul_le_mul (by omega) hb
 have hw:IntKind.i64.wrap (((n+1:Nat):Int))=((n+1:Nat):Int):=IntWalk.i64_in _ (by omega)
 have h2:¬ (281474976710656<Builtin.nextslicecap (n+1) 0 * i.bytes):=by omega
 have h3:¬ ((9223372036854775807:Int)<((n+1:Nat):Int)):=by omega
 have h4:¬ (((n+1:Nat):Int)<0):=by omega
 have hm2:(n+1) * i.bytes≤65536 * 65536:=Nat.mul_le_mul (by omega) hb
 have h5:¬ ((281474976710656:Int)<((n+1:Nat):Int) * (i.bytes:Int)):=by
  have:(((n+1) * i.bytes:Nat):Int)≤65536 * 65536:=Int.ofNat_le.2 hm2
  rw [Int.natCast_mul] at this
  omega
 have h6:¬ ((n+1) * (size+1)=0):=by simp
 have hq:(Question.appendCap (n+1) 0 el).forced=false:=rfl
 have hmax:IntKind.i64.max=9223372036854775807:=by decide
 have h7:(((n+1:Nat):Int)).toNat=n+1:=by omega
 refine ⟨(Question.appendCap (n+1) 0 el).cut (w.tape w.drawn (Question.appendCap (n+1) 0 el)),by simp [Question.cut],?_⟩
 have ask:∀ b w,(askRoom b).run P w=.ok () w:=by intro b w; unfold askRoom; split<;>rfl
 generalize hN:((n+1:Nat):Int)=N at hw h3 h4 h5 h7
 have h8:¬ (N≤0):=by omega
 have h9:¬ ((9223372036854775807:Int)<max N 0):=by omega
 simp [Builtin.append_,run_und hu,run_und hd,run_sz hs,typeInfo,hi,asInt,asIntOf,hw,h2,h3,h4,h5,h6,h7,hq,hmax,ask,run_zeroOf hz,newRow,Builtin.firstCells,h8,h9]
theorem aAppendZ_ok (hZ:ZeroOk P) {S S':AS} {w:World} (h:HR B w0 G σ S w) {t tx ty:Nat} {s s' x x':Value} (hs:VR σ s s') (hx:VR σ x x') {v:Value} (e:aAppendZ P t tx s x S=some (v,S')) :
  ∃ σ' v' w',σ.le σ'∧(Builtin.append_ #[t,tx] ty #[s',x']).run P w=.ok v' w'∧VR σ' v v'∧HR B w0 G σ' S' w':=by
 unfold aAppendZ at e
 split at e
 case h_2=>simp at e
 rename_i k n
 split at e
 case h_2=>simp at e
 rename_i el k' hu hd
 split at e
 case h_2=>simp at e
 rename_i i z sz hi hz hsz
 split at e
 case h_2=>simp at e
 rename_i b1 b2 b3
 have b1:=Nat.le_of_ble_eq_true b1
 have b2:=Nat.le_of_ble_eq_true b2
 have b3:=Nat.eq_of_beq_eq_true b3
 simp only [Option.some.injEq,Prod.mk.injEq] at e
 obtain ⟨rfl,rfl⟩:=e
 cases hs
 cases hx
 obtain ⟨cap',hcap,hr⟩:=append_zeros (P:=P) (w:=w) (ty:=ty) (k:=k) hu hd hi hz hsz b2 (show n+1≤65536 by omega)
 have hzz:AR σ z.cells z.cells:=(zeroOf_self (σ:=σ) hZ hz).cells
 have hrel:=zerosOf_rel (σ:=σ) hzz ((n+1) * (sz+1))
 have hzc:Builtin.zeroCells z.cells (n+1)=zerosOf z.cells ((n+1) * (sz+1)):=by rw [← b3]; rfl
 have hnew:=h.drew.newPart (cs:=(zerosOf z.cells ((n+1) * (sz+1))).toList) (C:=#[]++Builtin.zeroCells z.cells (n+1)++Builtin.zeroCells z.cells (cap' - (n+1))) (fun j v hv=>by
  have:=AR.of_append (σ:=σ) (a:=[]) (r:=Builtin.zeroCells z.cells (cap' - (n+1))) (AR.empty _) (show AR σ (zerosOf z.cells ((n+1) * (sz+1))).toList.toArray (Builtin.zeroCells z.cells (n+1)) by rw [hzc]; simpa using hrel) j v (by simpa using hv)
  exact this) el (sz+1)
 refine ⟨_,_,_,Sig.more_le h.fresh,hr,?_,hnew⟩
 refine VR.sl (σ:=σ.more S.next _) (id:=S.next) (off:=0) (L:=⟨w.heap.size,0,(#[]++Builtin.zeroCells z.cells (n+1)++Builtin.zeroCells z.cells (cap' - (n+1))).size,sz+1⟩) (Sig.more_self _ _ _) (by omega) (by omega) (fun _=>?_)
 simp only [Nat.zero_add,Array.size_append,zeroCells_size,b3,Array.size_empty]
 have:cap'=(n+1)+(cap' - (n+1)):=by omega
 calc cap' * (sz+1)=((n+1)+(cap' - (n+1))) * (sz+1):=by rw [← this]
  _=(n+1) * (sz+1)+(cap' - (n+1)) * (sz+1):=Nat.add_mul _ _ _
  _≤_:=by simp
theorem aAppendZ_non {t tx:Nat} {s x:Value} {S:AS} {y:Value × AS} (e:aAppendZ P t tx s x S=some y) (S2:AS):aAppend P t tx s x S2=none:=by
 unfold aAppendZ at e
 split at e
 case h_2=>simp at e
 rename_i k n
 have hsrc:∀ (size:Nat) (m:Int),srcOf P tx size (.int k m) S2=none:=fun size m=>by unfold srcOf; split<;>simp_all
 unfold aAppend
 simp only [hsrc]
 repeat' split
 all_goals first|rfl|(simp_all; done)
end
end Go.Aev
end
section
set_option linter.unusedSimpArgs false
set_option linter.unusedVariables false
namespace Go.Aev
open Go Go.RowKit
section
variable {B:Nat} {w0:World} {G:Nat} {P:Program} {σ:Sig}
theorem HR.turn {S:AS} {w w':World} (h:HR B w0 G σ S w) {id:Nat} {b b':ABlk} {L:Loc} (hg:S.heap.get id=some b) (hl:b.live=true) (hmu:b.mut=true) (hL:σ id=some L) (hbelow:Below B w0 w') (hsize:w'.heap.size=w.heap.size)
  (same:∀ k,k≠L.blk→w'.heap[k]?=w.heap[k]?) (hnew:BR B σ w' id b') :
  HR B w0 G σ { S with heap:=S.heap.set id (some b') } w':=by
 refine ⟨hbelow,by rw [hsize]; exact h.hB,fun i M hM=>by rw [hsize]; exact h.dom i M hM,?_,?_,h.glob⟩
 ·intro i c hc
  simp only [T.get_set] at hc
  by_cases hi:i=id
  ·rw [if_pos hi] at hc; cases hc; rw [hi]; exact hnew
  ·rw [if_neg hi] at hc
   exact (h.blk i c hc).of_same (fun hcl M hM=>same _ fun eM=>hi (h.inj i id c b M L hc hcl hg hl hM hL eM (by simp [hmu])))
 ·intro i i' c c' M M' hc hcl hc' hcl' hM hM' e hm
  simp only [T.get_set] at hc hc'
  by_cases hi:i=id
  ·by_cases hi':i'=id
   ·rw [hi,hi']
   ·rw [if_neg hi'] at hc'
    subst hi
    exact h.inj _ _ _ _ M M' hg hl hc' hcl' hM hM' e (by simp [hmu])
  ·rw [if_neg hi] at hc
   by_cases hi':i'=id
   ·subst hi'
    exact h.inj _ _ _ _ M M' hc hcl hg hl hM hM' e (by simp [hmu])
   ·rw [if_neg hi'] at hc'
    exact h.inj _ _ _ _ M M' hc hcl hc' hcl' hM hM' e hm
def valByte:Value→Option UInt8
 | .int .u8 (.ofNat k)=>match Nat.ble k 255 with
  | true=>some (UInt8.ofNat k)
  | false=>none
 | _=>none
def valBytes:List Value→Option (List UInt8)
 | []=>some []
 | v :: l=>match valByte v,valBytes l with
  | some x,some xs=>some (x :: xs)
  | _,_=>none
theorem valBytes_spec:∀ (vs:List Value) {l:List UInt8},valBytes vs=some l→l.length=vs.length∧∀ (j:Nat) (x:UInt8),l[j]?=some x→vs[j]?=some (.int .u8 x.toNat)
 | [],l,e=>by simp [valBytes] at e; subst e; exact ⟨rfl,fun j x h=>by simp at h⟩
 | v :: vs,l,e=>by
  simp only [valBytes] at e
  split at e
  ·rename_i x xs h1 h2
   simp only [Option.some.injEq] at e
   subst e
   obtain ⟨k1,k2⟩:=valBytes_spec vs h2
   refine ⟨by simp [k1],fun j y hy=>?_⟩
   cases j with
   | zero =>
    simp at hy; subst hy
    unfold valByte at h1
    split at h1
    ·rename_i k
     split at h1
     ·rename_i hb
      have hb:=Nat.le_of_ble_eq_true hb
      simp only [Option.some.injEq] at h1
      subst h1
      have:(UInt8.ofNat k).toNat=k:=by simp; omega
      simp [this]
     ·simp at h1
    ·simp at h1
   | succ j=>simpa using k2 j y (by simpa using hy)
  ·simp at e
def aString (P:Program) (pt:TypeId) (p n:Value) (S:AS):Option (Value × AS) :=
 match p,n with
 | .pointer _,.int .i64 (.ofNat 0)=>some (.string .empty,S)
 | .pointer (some a),.int .i64 (.ofNat n) =>
  match a.spot,S.heap.get a.block,P.underlying pt with
  | none,some (.cells c ty sz true ex),some (.pointer e) =>
   match Nat.beq e ty,Nat.beq (P.cellsOf e) 1,Nat.ble (a.off+n) c.length,Nat.ble n 9223372036854775807,valBytes ((c.drop a.off).take n) with
   | true,true,true,true,some l=>some (.string ⟨l.toArray⟩,{ S with heap:=S.heap.set a.block (some (.cells c ty sz false ex)) })
   | _,_,_,_,_=>none
  | _,_,_=>none
 | _,_=>none
theorem liesAt_row {e:TypeId} (hc:P.cellsOf e=1) (count off n:Nat) (hn:off+n≤count):liesAt P P.depth e count off e n=true:=by
 have hd:P.depth=(2 * (P.types.size+Made.depth)+1)+1:=rfl
 rw [hd]
 simp only [liesAt,Bool.or_eq_true]
 left
 rw [hd]
 simp [rowAt,hc,hn,sameLayout,Nat.mod_one]
theorem run_unsafeString_at (w:World) (pt it ty e:TypeId) (hp:P.underlying pt=some (.pointer e)) (hc:P.cellsOf e=1) (g off cells:Nat) (hsh:w.shape? g=some (e,cells)) (l:List UInt8) (hn:off+l.length≤cells) (h63:l.length≤9223372036854775807)
  (hcell:∀ j x,l[j]?=some x→w.cell? ((⟨g,off,none⟩:Addr).add j)=some (.int .u8 x.toNat)) :
  (Builtin.unsafeString_ #[pt,it] ty #[.pointer (some ⟨g,off,none⟩),.int .i64 l.length]).run P w=.ok (.string ⟨l.toArray⟩) (w.freeze ⟨g,off,none⟩ l.length):=by
 have hlb:=Go.Lib.run_loadBytes (P:=P) w l ⟨g,off,none⟩ .empty hcell
 have hlies:=liesAt_row (P:=P) hc (cells / P.cellsOf e) off l.length (by rw [hc]; simpa using hn)
 have h63':¬ (9223372036854775807:Int)<(l.length:Int):=by omega
 have key:∀ (A:Option Addr→Value→Sem Value) (B:Array Value→Sem Value),Builtin.unsafeString_.match_3 (fun _=>Sem Value) #[.pointer (some ⟨g,off,none⟩),.int .i64 l.length] A B=A (some ⟨g,off,none⟩) (.int .i64 l.length):=fun _ _=>rfl
 rw [Builtin.unsafeString_.eq_1,key]
 have hmax:IntKind.i64.max=9223372036854775807:=rfl
 have hneg:¬ (l.length:Int)<0:=by omega
 by_cases hl:l=[]
 ·subst hl
  simp [asInt,asIntOf,hmax,World.freeze]
  rfl
 ·have hl:l.length≠0:=by simpa using hl
  simp [asInt,asIntOf,hmax,h63',hneg,hl,variablesAt,hsh,elemOf,run_und hp,hlies,hlb]
theorem aString_ok {S S':AS} {w:World} (h:HR B w0 G σ S w) {pt it ty:TypeId} {p p' n n':Value} (hp:VR σ p p') (hn:VR σ n n') {v:Value} (e:aString P pt p n S=some (v,S')) :
  ∃ w',(Builtin.unsafeString_ #[pt,it] ty #[p',n']).run P w=.ok v w'∧HR B w0 G σ S' w'∧VR σ v v:=by
 unfold aString at e
 split at e
 ·rename_i q
  have hp':∃ q',p'=.pointer q':=by cases hp<;>exact ⟨_,rfl⟩
  obtain ⟨q',rfl⟩:=hp'
  cases hn
  simp only [Option.some.injEq,Prod.mk.injEq] at e
  obtain ⟨rfl,rfl⟩:=e
  exact ⟨w,Go.Lib.run_unsafeString_none w pt it ty q',h,.str _⟩
 ·rename_i a k hk0
  have hk:k≠0:=fun hh=>by subst hh; exact hk0 rfl
  cases hn
  cases hp with
  | p hL =>
   rename_i id off L
   split at e
   ·rename_i c tyc sz ex el hsp hg hu
    split at e
    ·rename_i l b1 b2 b3 b4 hb
     have b1:=Nat.eq_of_beq_eq_true b1
     have b2:=Nat.eq_of_beq_eq_true b2
     have b3:=Nat.le_of_ble_eq_true b3
     have b4:=Nat.le_of_ble_eq_true b4
     subst b1
     simp only [Option.some.injEq,Prod.mk.injEq] at e
     obtain ⟨rfl,rfl⟩:=e
     simp only at b3 hb hg
     obtain ⟨L',C,Ty,fz,k1,k2,k3,k4,k5,k7,k6⟩:=h.blk _ _ hg
     rw [hL] at k1; cases k1
     obtain ⟨rfl,kB,rfl⟩:=k5 rfl
     obtain ⟨s1,s2⟩:=valBytes_spec _ hb
     have hlen:l.length=k:=by rw [s1]; simp; omega
     have hcells:L.off+off+k≤C.size:=by
      obtain ⟨v',hv',_⟩:=k6 (off+k - 1) c[off+k - 1] (by rw [List.getElem?_eq_getElem])
      have:=(Array.getElem?_eq_some_iff.1 hv').1
      omega
     have hrun:=run_unsafeString_at (P:=P) w pt it ty Ty hu b2 L.blk (L.off+off) C.size (by simp [World.shape?,k2]) l (by rw [hlen]; exact hcells) (by rw [hlen]; exact b4) (fun j x hx=>by
      have h1:=s2 j x hx
      rw [List.getElem?_take] at h1
      split at h1
      ·rw [List.getElem?_drop] at h1
       obtain ⟨v',hv',r⟩:=k6 _ _ h1
       cases r
       unfold Addr.add
       by_cases hj:j=0
       ·subst hj; simp [World.cell?,k2]; simpa using hv'
       ·simp [hj,World.cell?,k2,Nat.add_assoc]; exact hv'
      ·simp at h1)
     rw [hlen] at hrun
     refine ⟨_,hrun,?_,.str _⟩
     have hblk:L.blk<w.heap.size:=(h.dom _ _ hL).2
     refine h.turn hg rfl rfl hL (Go.Lib.below_freeze h.below kB _) ?_ ?_ ?_
     ·unfold World.freeze; split<;>simp
     ·intro j hj
      unfold World.freeze
      split
      ·rfl
      ·simp only [Array.getElem?_modify]; rw [if_neg (fun hh=>hj hh.symm)]
     ·unfold World.freeze
      split
      ·exact ⟨L,C,Ty,(0,0),hL,k2,k3,k4,fun hx=>by simp at hx,k7,k6⟩
      ·exact ⟨L,C,Ty,(L.off+off,L.off+off+k),hL,by simp [Array.getElem?_modify,k2],k3,k4,fun hx=>by simp at hx,k7,k6⟩
    ·simp at e
   ·simp at e
 ·simp at e
def aCopy0 (P:Program) (t:TypeId) (d s:Value):Option Value :=
 match P.underlying t,d,s with
 | some (.slice el),.slice _ 0 _,.slice _ _ _ =>
  match szOf P el with
  | some _=>some (.int .i64 0)
  | none=>none
 | _,_,_=>none
theorem aCopy0_ok {t:TypeId} {ts:Array TypeId} {ty:TypeId} {d d' s s' v:Value} (ht:ts[0]?=some t) (hd:VR σ d d') (hs:VR σ s s') (e:aCopy0 P t d s=some v) (w:World) :
  (Builtin.copy_ ts ty #[d',s']).run P w=.ok v w∧v=.int .i64 0:=by
 unfold aCopy0 at e
 split at e
 ·rename_i el a1 c1 a2 n2 c2 hu
  split at e
  ·rename_i m hz
   simp only [Option.some.injEq] at e
   subst e
   have hd':∃ a c,d'=.slice a 0 c:=by cases hd<;>exact ⟨_,_,rfl⟩
   have hs':∃ a n c,s'=.slice a n c:=by cases hs<;>exact ⟨_,_,_,rfl⟩
   obtain ⟨a,c,rfl⟩:=hd'
   obtain ⟨a2,n2,c2,rfl⟩:=hs'
   refine ⟨?_,rfl⟩
   cases a<;>cases a2<;>simp [Builtin.copy_,ht,run_und hu,run_sz hz,Builtin.lenOf,Builtin.firstCells,loadCells,loadCellsFrom,storeCells,goInt,Sem.run_bind,Result.andThen]
  ·simp at e
 ·simp at e
def aCopy (P:Program) (t:TypeId) (d s:Value) (S:AS):Option (Value × AS) :=
 match P.underlying t,d,s with
 | some (.slice el),.slice (some a) dl _,.slice (some b) sl _ =>
  match szOf P el,a.spot,b.spot with
  | some sz,none,none =>
   match S.cellsAt b (Nat.min sl dl * sz) with
   | some cs =>
    match ai P 0 (storeCells a cs 0) S with
    | some (_,S')=>some (.int .i64 (Nat.min sl dl),S')
    | none=>none
   | none=>none
  | _,_,_=>none
 | _,_,_=>none
theorem aCopy_ok {S S':AS} {w:World} (h:HR B w0 G σ S w) {t:TypeId} {ts:Array TypeId} {ty:TypeId} {d d' s s' v:Value} (ht:ts[0]?=some t) (hd:VR σ d d') (hs:VR σ s s') (e:aCopy P t d s S=some (v,S')) :
  ∃ σ' w',σ.le σ'∧(Builtin.copy_ ts ty #[d',s']).run P w=.ok v w'∧VR σ' v v∧HR B w0 G σ' S' w':=by
 unfold aCopy at e
 split at e
 case h_2=>simp at e
 rename_i el a dl c1 b sl c2 hu
 split at e
 case h_2=>simp at e
 rename_i sz hz ha hb
 split at e
 case h_2=>simp at e
 rename_i cs hcs
 split at e
 case h_2=>simp at e
 rename_i u S1 hai
 simp only [Option.some.injEq,Prod.mk.injEq] at e
 obtain ⟨rfl,rfl⟩:=e
 cases hd with
 | slg=>simp at ha
 | slz=>simp at ha
 | sl hL hcap hlen he =>
 rename_i id off L cap'
 cases hs with
 | slg=>simp at hb
 | slz=>simp at hb
 | sl hL2 hcap2 hlen2 he2 =>
 rename_i id2 off2 L2 cap2
 obtain ⟨c',h3,h4⟩:=cellsAt_ok (P:=P) h hL2 hcs
 have hadd:AddrR σ ⟨id,off,none⟩ ⟨L.blk,L.off+off,none⟩:=⟨L,hL,rfl,rfl⟩
 obtain ⟨σ',_,w',k1,k2,_,k4⟩:=rs_storeCells (B:=B) (w0:=w0) (G:=G) (P:=P) (sz:=0) cs c'.toList 0 hadd (by simpa using h4) σ S w (Sig.le_refl _) h u S1 hai
 refine ⟨σ',w',k1,?_,.int _ _,k4⟩
 simp [Builtin.copy_,ht,run_und hu,run_sz hz,Builtin.lenOf,Builtin.firstCells,h3,k2,goInt,Sem.run_bind,Result.andThen,pure,Sem.run]
def aClear (P:Program) (t:TypeId) (x:Value) (S:AS):Option (Value × AS) :=
 match P.underlying t,x with
 | some (.slice el),.slice none 0 0=>some (.tuple #[],S)
 | some (.slice el),.slice (some a) 0 _=>some (.tuple #[],S)
 | some (.slice el),.slice (some a) (n+1) _ =>
  match zeroOf P el,a.spot with
  | some z,none =>
   match ai P 0 (storeCells a (Builtin.zeroCells z.cells (n+1)).toList 0) S with
   | some (_,S')=>some (.tuple #[],S')
   | none=>none
  | _,_=>none
 | _,_=>none
theorem aClear_ok {S S':AS} {w:World} {v:Value} (hzo:ZeroOk P) (h:HR B w0 G σ S w) {t:TypeId} {ts:Array TypeId} {ty:TypeId} {x x':Value} (ht:ts[0]?=some t) (hx:VR σ x x') (e:aClear P t x S=some (v,S')) :
  ∃ σ' w',σ.le σ'∧(Builtin.clear_ ts ty #[x']).run P w=.ok v w'∧VR σ' v v∧HR B w0 G σ' S' w':=by
 have tup0:∀ σ':Sig,VR σ' (.tuple #[]) (.tuple #[]):=fun σ'=>VR.tup_iff.2 ⟨_,rfl,AR.empty _⟩
 unfold aClear at e
 split at e
 ·rename_i el hu
  simp only [Option.some.injEq,Prod.mk.injEq] at e
  obtain ⟨rfl,rfl⟩:=e
  cases hx
  exact ⟨σ,w,Sig.le_refl _,by simp [Builtin.clear_,ht,run_und hu,pure,Sem.run,Sem.run_bind,Result.andThen],tup0 _,h⟩
 ·rename_i el a c1 hu
  simp only [Option.some.injEq,Prod.mk.injEq] at e
  obtain ⟨rfl,rfl⟩:=e
  cases hx<;>exact ⟨σ,w,Sig.le_refl _,by simp [Builtin.clear_,ht,run_und hu,pure,Sem.run,Sem.run_bind,Result.andThen],tup0 _,h⟩
 ·rename_i el a n c1 hu
  split at e
  case h_2=>simp at e
  rename_i z hz ha
  split at e
  case h_2=>simp at e
  rename_i u S1 hai
  simp only [Option.some.injEq,Prod.mk.injEq] at e
  obtain ⟨rfl,rfl⟩:=e
  cases hx with
  | sl hL hcap hlen he =>
  rename_i id off L cap'
  have hadd:AddrR σ ⟨id,off,none⟩ ⟨L.blk,L.off+off,none⟩:=⟨L,hL,rfl,rfl⟩
  have hrel:AR σ ⟨(Builtin.zeroCells z.cells (n+1)).toList⟩ ⟨(Builtin.zeroCells z.cells (n+1)).toList⟩:=by
   exact zerosOf_rel (σ:=σ) (zeroOf_self hzo hz).cells ((n+1) * z.cells.size)
  obtain ⟨σ',_,w',k1,k2,_,k4⟩:=rs_storeCells (B:=B) (w0:=w0) (G:=G) (P:=P) (sz:=0) _ _ 0 hadd hrel σ S w (Sig.le_refl _) h u S1 hai
  exact ⟨σ',w',k1,by simp [Builtin.clear_,ht,run_und hu,run_zeroOf hz,k2,Sem.run_bind,Result.andThen,pure,Sem.run],tup0 _,k4⟩
 ·simp at e
def aSliceData (x:Value):Option Value :=
 match x with
 | .slice none 0 0=>some (.pointer none)
 | .slice (some a) _ (c+1) =>
  match a.spot with
  | none=>some (.pointer (some a))
  | some _=>none
 | _=>none
theorem aSliceData_ok {x x' v:Value} (hx:VR σ x x') (e:aSliceData x=some v) (ts:Array TypeId) (ty:TypeId) (w:World):∃ v',(Builtin.unsafeSliceData_ ts ty #[x']).run P w=.ok v' w∧VR σ v v':=by
 unfold aSliceData at e
 split at e
 ·cases hx; simp only [Option.some.injEq] at e; subst e; exact ⟨_,rfl,.p0⟩
 ·rename_i a n c
  split at e
  ·simp only [Option.some.injEq] at e
   subst e
   cases hx with
   | sl hL hc _ _=>exact ⟨_,Go.Lib.run_unsafeSliceData_row w ts ty _ _ _ (by omega),.p hL⟩
  ·simp at e
 ·simp at e
end
end Go.Aev
end
