import Derived.Test.YtpaipdipkgnpdaaGreatAE6
set_option linter.unusedVariables false
set_option linter.unusedSimpArgs false
namespace Go.Aev
open Go
variable {P:Program} {E:Env}
def busyL (L:ALoop):ALoop:={ L with state:=.busy }
theorem round_in {l:Nat} {L:ALoop} {t:T Value} {m:Nat} {ps:List Tmp} {A B:Code} (hb:Begun L t m ps.toArray A B) {bs:List Value} (hlen:bs.length=ps.length) {S:AS}
  (hL:S.heap.get l=some (.loop L)) {Q:AS→Prop}
  (h:∀ z,evCode P E (evL P E) (some l) A ⟨setParams (List.zip ps bs) ⟨t,m⟩,[],S⟩=z→∃ f1 S1,z=some (.normal,⟨f1,[],S1⟩)∧S1.heap.get l=some (.loop L) ∧
   ∀ S2,S2.next=S1.next→S2.heap.get l=some (.loop (busyL L))→(∀ q,q≠l→S2.heap.get q=S1.heap.get q)→∀ z',evCode P E (evL P E) (some l) B ⟨f1,[],S2⟩=z' →
    ∃ f3 d3 S3,z'=some (.normal,⟨f3,d3,S3⟩)∧S3.heap.get l=some (.loop (busyL L)) ∧
     ∀ S4,S4.next=S3.next→S4.heap.get l=some (.loop L)→(∀ q,q≠l→S4.heap.get q=S3.heap.get q)→Q S4) :
  ∃ S',(evL P E).round l bs.toArray S=some (.bool true,S')∧Q S':=by
 obtain rfl:=hb.eq
 obtain ⟨f1,S1,h1,h2,h3⟩:=h _ rfl
 obtain ⟨f3,d3,S3,h4,h5,h6⟩:=h3 { S1 with heap:=S1.heap.set l (some (.loop ⟨.busy,none,t,m,ps.toArray,A,B⟩)) } rfl (by simp [T.get_set,busyL]) (fun q hq=>by simp [T.get_set,hq]) _ rfl
 have hsz:Nat.beq bs.toArray.size ps.toArray.size=true:=by rw [List.size_toArray,List.size_toArray,hlen]; exact Nat.beq_refl _
 have hz:setParams (List.zip ps.toArray.toList bs.toArray.toList) ⟨t,m⟩=setParams (List.zip ps bs) ⟨t,m⟩:=rfl
 refine ⟨_,?_,h6 { S3 with heap:=S3.heap.set l (some (.loop ⟨.ready,none,t,m,ps.toArray,A,B⟩)) } rfl (by simp [T.get_set]) (fun q hq=>by simp [T.get_set,hq])⟩
 rw [L_round]
 simp only [busyL] at h5
 simp only [evRound,hL,hsz,hz,h1,h2,h4,h5]
theorem range_in {g:Operand} {ps:Array Tmp} {A B:Code} {t:T Value} {m:Nat} {d:List Nat} {S:AS} {z:Option (X × St)} (hz:evCode P E (evL P E) none (.rangeFunc g ps A B) ⟨⟨t,m⟩,d,S⟩=z) (F:T Value→Prop) (hF:F t)
  {k:FuncId} {cs ds:Array Value} (hg:t.get (match g with|.tmp i=>i|_=>0)=some (.func (.func k) cs ds)) (hgt:∃ i,g=.tmp i) (ho:∀ a S',E.orc k a S'=none) (Q:X→AS→Prop)
  (hcall:∀ t,F t→∀ L S1 S2 y,S1.next=S.next+1→S1.heap.get S.next=some (.dfd true)→Agree S S1→S2.next=S1.next+1→S2.heap.get y=some (.loop L)→Agree S1 S2→y=S1.next→Begun L t m ps A B →
   ∀ zc,(evL P E).call k (cs++#[.func (.yield y) #[] #[]]++ds) S2=zc→∃ v S3 L3 x,zc=some (v,S3)∧S3.heap.get y=some (.loop L3)∧L3.state≠.busy∧jumpOf L3.pending=some x ∧
    ∀ S4,S4.next=S3.next→(∀ q,q≠y→S4.heap.get q=S3.heap.get q)→Q x S4) :
  ∃ x S',z=some (x,⟨⟨t,m⟩,S.next :: d,S'⟩)∧Q x S':=by
 obtain ⟨i,rfl⟩:=hgt
 refine range_met hz (k:=k) (cs:=cs) (ds:=ds) (by rw [val_tmp]; exact hg) ho Q ?_
 intro L S1 S2 e1 e2 hb
 obtain ⟨Sx,ex1,nx1,bx1,ax1⟩:=push_open S (.dfd true)
 obtain rfl:Sx=S1:=ex1.symm.trans e1
 obtain ⟨Sy,ex2,nx2,bx2,ax2⟩:=push_open Sx (.loop L)
 obtain rfl:Sy=S2:=ex2.symm.trans e2
 obtain ⟨v,S3,L3,x,h1,h2,h3,h4,h5⟩:=hcall t hF L Sx Sy _ nx1 bx1 ax1 nx2 bx2 ax2 rfl hb _ rfl
 exact ⟨v,S3,L3,x,h1,h2,h3,h4,h5 _ rfl (fun q hq=>by simp [T.get_set,hq])⟩
theorem Begun.ready {L:ALoop} {t:T Value} {m:Nat} {ps:Array Tmp} {A B:Code} (h:Begun L t m ps A B):L.state≠.busy∧jumpOf L.pending=some .normal:=by
 rw [h.state,h.pending]; exact ⟨by simp,rfl⟩
theorem setP_cons (t:Tmp) (v:Value) (l:List (Tmp × Value)) (f:Fr):setParams ((t,v) :: l) f=setParams l (f.put (some t) v):=rfl
theorem setP_nil (f:Fr):setParams [] f=f:=rfl
end Go.Aev
