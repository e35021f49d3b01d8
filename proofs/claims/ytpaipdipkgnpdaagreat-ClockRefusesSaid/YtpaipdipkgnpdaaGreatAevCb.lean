import Derived.Test.YtpaipdipkgnpdaaGreatAevBv
import Derived.Test.YtpaipdipkgnpdaaGreatAE6
set_option linter.unusedVariables false
set_option linter.unusedSimpArgs false
namespace Go.Aev
open Go
variable {P:Program} {E:Env}
def Feeds (P:Program) (E:Env) (K:Nat→Prop) (S0:AS) (kf:FuncId) (cs ds:Array Value) {β:Type} (args:β→Array Value) (ys:List β):Prop :=
 ∀ (Sx:AS) (y:Nat) (I:Nat→(Nat→Prop)→AS→Prop) (T0:Nat→Prop),Off K S0 Sx→(∀ id,T0 id→S0.next≤id∨K id)→YieldS P E Sx y args ys I (fun _ _ _=>False)→I 0 T0 Sx →
  ∃ S' T',(evL P E).call kf (cs++#[.func (.yield y) #[] #[]]++ds) Sx=some (.tuple #[],S')∧I ys.length T' S'∧Off T0 Sx S'∧Wider T0 Sx T'
theorem Off.trans0 {K:Nat→Prop} {S S1 S2:AS} (h:Off K S S1) (k:Off K S1 S2):Off K S S2:=⟨Nat.le_trans h.1 k.1,fun id hid hn=>(k.2 id (Nat.lt_of_lt_of_le hid h.1) hn).trans (h.2 id hid hn)⟩
theorem Feeds.off {K:Nat→Prop} {S S':AS} {kf:FuncId} {cs ds:Array Value} {β:Type} {args:β→Array Value} {ys:List β} (h:Feeds P E K S kf cs ds args ys) (ha:Off K S S'):Feeds P E K S' kf cs ds args ys :=
 fun Sx y I T0 a hT=>h Sx y I T0 (ha.trans0 a) (fun id hid=>(hT id hid).imp_left (Nat.le_trans ha.1))
theorem range_feed {i:Tmp} {ps:Array Tmp} {A B:Code} {t:T Value} {m:Nat} {d:List Nat} {S:AS} {z:Option (X × St)} (hz:evCode P E (evL P E) none (.rangeFunc (.tmp i) ps A B) ⟨⟨t,m⟩,d,S⟩=z)
  {kf:FuncId} {cs ds:Array Value} (hg:t.get i=some (.func (.func kf) cs ds)) (ho:∀ a S',E.orc kf a S'=none) {S0:AS} {β:Type} {args:β→Array Value} {ys:List β} {K:Nat→Prop} (hf:Feeds P E K S0 kf cs ds args ys) (ag:Off K S0 S)
  (I:Nat→(Nat→Prop)→AS→Prop) (U0:Nat→Prop) (hT:∀ id,U0 id→S0.next≤id∨K id) (h0:I 0 U0 S)
  (hlow:∀ i U S1,I i U S1→∀ id,U id→id<S1.next)
  (hkeep:∀ i U S1 S2,I i U S1→S1.next≤S2.next→(∀ id,id<S1.next→(U id∨id<S.next)→S2.heap.get id=S1.heap.get id)→I i U S2)
  (hstep:∀ y L,Begun L t m ps A B→y=S.next+1→∀ i U S1 b,ys[i]?=some b→I i U S1→Off U0 S S1→(∀ id,U id→U0 id∨S.next+2≤id)→S.next+2≤S1.next→¬ U y→S1.heap.get y=some (.loop L) →
   ∃ S2 U',(evL P E).round y (args b) S1=some (.bool true,S2)∧S2.heap.get y=some (.loop L)∧I (i+1) U' S2∧Off (fun id=>U id∨id=y) S1 S2∧Wider U S1 U') :
  ∃ S' U',z=some (.normal,⟨⟨t,m⟩,S.next :: d,S'⟩)∧I ys.length U' S'∧S'.heap.get S.next=some (.dfd true)∧S.next<S'.next∧Off U0 S S'∧Wider U0 S U'∧¬ U' S.next:=by
 have hlow0:=hlow _ _ _ h0
 obtain ⟨x,S',rfl,hQ⟩:=range_met hz (k:=kf) (cs:=cs) (ds:=ds) (by rw [val_tmp]; exact hg) ho
  (fun x S'=>x=.normal∧∃ U',I ys.length U' S'∧S'.heap.get S.next=some (.dfd true)∧S.next<S'.next∧Off U0 S S'∧Wider U0 S U'∧¬ U' S.next) (by
   intro L S1 S2 e1 e2 hb
   obtain ⟨Sx,ex1,nx1,bx1,ax1⟩:=push_open S (.dfd true)
   obtain rfl:Sx=S1:=ex1.symm.trans e1
   obtain ⟨Sy,ex2,nx2,bx2,ax2⟩:=push_open Sx (.loop L)
   obtain rfl:Sy=S2:=ex2.symm.trans e2
   have a2:=ax1.trans ax2
   generalize hy:Sx.next=y at *
   have hys:y=S.next+1:=by omega
   have hSy:Sy.next=S.next+2:=by omega
   have key:=hf Sy y (fun i U' S'=>∃ U:Nat→Prop,U'=(fun id=>U id∨id=y)∧I i U S'∧S'.heap.get y=some (.loop L)∧Sy.next≤S'.next∧Off U0 S S'∧(∀ id,U id→U0 id∨S.next+2≤id)∧S'.heap.get S.next=some (.dfd true)) (fun id=>U0 id∨id=y) (Off.agree ag a2) ?_ ?_ ?_
   ·obtain ⟨S3,U3,hc,⟨U,rfl,hI,hL,hn,hoff,hw,hd⟩,off3,w3⟩:=key
    have hTy:¬ U y:=fun h=>(hw _ h).elim (fun h=>by have:=hlow0 _ h; omega) (fun h=>by omega)
    refine ⟨_,S3,_,.normal,hc,hL,hb.ready.1,hb.ready.2,rfl,U,hkeep _ _ _ _ hI (Nat.le_refl _) (fun id hid hh=>?_),?_,?_,⟨by show S.next≤S3.next; omega,fun id hid hnt=>?_⟩,fun id h=>(hw id h).imp_right (fun h=>by omega),fun h=>(hw _ h).elim (fun h=>by have:=hlow0 _ h; omega) (fun h=>by omega)⟩
    ·have:id≠y:=fun e=>hh.elim (fun h=>hTy (e ▸ h)) (fun h=>by omega)
     simp only [Aev.T.get_set,if_neg this]
    ·simp only [Aev.T.get_set]; rw [if_neg (by omega)]; exact hd
    ·show S.next<S3.next; omega
    ·simp only [Aev.T.get_set]; rw [if_neg (by omega)]; exact hoff.2 id hid hnt
   ·rintro id (h|h)
    ·exact hT id h
    ·have:=ag.1; exact .inl (by omega)
   ·refine ⟨?_,?_,?_⟩
    ·rintro i U' S' ⟨U,rfl,hI,hL,hn,_⟩ id (h|h)
     ·exact hlow _ _ _ hI id h
     ·omega
    ·rintro i U' S' S'' ⟨U,rfl,hI,hL,hn,hoff,hw,hd⟩ hle hk
     refine ⟨U,rfl,hkeep _ _ _ _ hI hle (fun id hid hh=>hk id hid (hh.elim (fun h=>.inl (.inl h)) (fun h=>.inr (by omega)))),(hk y (by omega) (.inl (.inr rfl))).trans hL,by omega,⟨by omega,fun id hid hnt=>(hk id (by omega) (.inr (by omega))).trans (hoff.2 id hid hnt)⟩,hw,(hk S.next (by omega) (.inr (by omega))).trans hd⟩
    ·rintro i U' S' b hb' ⟨U,rfl,hI,hL,hn,hoff,hw,hd⟩
     left
     have hTy:¬ U y:=fun h=>(hw _ h).elim (fun h=>by have:=hlow0 _ h; omega) (fun h=>by omega)
     have hTd:¬ U S.next:=fun h=>(hw _ h).elim (fun h=>by have:=hlow0 _ h; omega) (fun h=>by omega)
     obtain ⟨S3,U3,k1,k2,k3,k4,k5⟩:=hstep y L hb hys i U S' b hb' hI hoff hw (by omega) hTy hL
     have hn3:=k4.1
     refine ⟨S3,fun id=>U3 id∨id=y,k1,⟨U3,rfl,k3,k2,by omega,⟨by omega,fun id hid hnt=>?_⟩,fun id h=>(k5 id h).elim (hw id) (fun h=>.inr (by omega)),(k4.2 S.next (by omega) (fun h=>h.elim hTd (fun h=>by omega))).trans hd⟩,k4,fun id h=>?_⟩
     ·exact (k4.2 id (by omega) (fun h=>h.elim (fun h=>(hw id h).elim hnt (fun h=>by omega)) (fun h=>by omega))).trans (hoff.2 id hid hnt)
     ·exact h.elim (fun h=>(k5 id h).imp_left .inl) (fun h=>.inl (.inr h))
   ·exact ⟨U0,rfl,hkeep _ _ _ _ h0 a2.1 (fun id hid _=>a2.2 id hid),bx2,Nat.le_refl _,⟨a2.1,fun id hid _=>a2.2 id hid⟩,fun id h=>.inl h,(ax2.2 S.next (by omega)).trans bx1⟩)
 obtain ⟨rfl,U',h1,h2,h3,h4,h5,h6⟩:=hQ
 exact ⟨S',U',rfl,h1,h2,h3,h4,h5,h6⟩
end Go.Aev
