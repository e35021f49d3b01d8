import Derived.Test.YtohfdkdjfoonjaaGreatDoorBW
import Derived.Test.YtohfdkdjfoonjaaGreatDoorBX
section
set_option linter.unusedSimpArgs false
set_option linter.unusedVariables false
namespace Go.Proofs
namespace House
open Go Go.RowKit Go.Aev
set_option maxRecDepth 100000
theorem cnt_two (l:List Bool):l.count true+l.count false=l.length:=by
 induction l with
 | nil=>rfl
 | cons b l ih=>cases b<;>simp [List.count_cons]<;>omega
def Bys (rooms:Nat) (l:List Pg) (g:Pg→Int→Int) (times by_:List Int) (here:Int) (a b:List Int):Prop :=
 ∀ i,i<rooms→(lget a i=lget times i∧lget b i=lget by_ i)∨(lget times here.toNat<lget times i∧∃ (k:Nat) (p:Pg),l[k]?=some p∧p.to.toNat=i∧p.fr=here∧lget b i=(k:Int)∧lget a i=g p (lget times here.toNat))
theorem R109_2_by {rooms:Nat} {fr ti:Int} {l:List Pg} {g:Pg→Int→Int} (hg:Crs rooms l g) (times by_:List Int) (left:List Bool) (here:Int) (he:R109_1 rooms fr ti l g times by_ left times 0 (-1)=here) (hT:Tm rooms times) (h0:0≤here∧here<(rooms:Int)) (hc:lget times here.toNat≤1073741823) :
  ∀ (m:List Pg) (t2 b2:List Int) (j:Nat),l.drop j=m→t2.length=rooms→b2.length=rooms→(∀ i,lget times i≤lget times here.toNat→lget t2 i=lget times i)→(∀ i,lget t2 i≤lget times i)→Bys rooms l g times by_ here t2 b2 →
   Bys rooms l g times by_ here (R109_2 rooms fr ti l g times by_ left m t2 b2 j).1 (R109_2 rooms fr ti l g times by_ left m t2 b2 j).2:=by
 intro m
 induction m with
 | nil=>intro t2 b2 j _ _ _ _ _ h; exact h
 | cons x m ih =>
  intro t2 b2 j hd h1 h2 h3 h5 h4
  obtain ⟨hx,hd'⟩:=drop_unc hd
  have hr:=hg.rms x (List.mem_of_getElem? hx)
  have c0:0≤lget times here.toNat:=(hT.at (lget_some (by have:=hT.len; omega))).1
  have hh:lget t2 here.toNat=lget times here.toNat:=h3 _ (Int.le_refl _)
  have inf:=hg.inf x (List.mem_of_getElem? hx) _ ⟨c0,hc⟩
  rw [R109_2,he]
  split
  ·rename_i e
   rw [hh]
   split
   ·rename_i c
    have h6:=h5 x.to.toNat
    have ne:¬ lget times x.to.toNat≤lget times here.toNat:=fun q=>by have:=h3 _ q; omega
    refine ih _ _ _ hd' (by rw [List.length_set]; exact h1) (by rw [List.length_set]; exact h2) (fun i hi=>?_) (fun i=>?_) (fun i hi=>?_)
    ·by_cases ei:x.to.toNat=i
     ·subst ei; exact absurd hi ne
     ·rw [lget_set_ne ei]; exact h3 i hi
    ·by_cases ei:x.to.toNat=i
     ·subst ei; rw [lget_set_self (by omega)]; omega
     ·rw [lget_set_ne ei]; exact h5 i
    ·by_cases ei:x.to.toNat=i
     ·subst ei
      rw [lget_set_self (by omega),lget_set_self (by omega)]
      exact .inr ⟨by omega,j,x,hx,rfl,e,rfl,rfl⟩
     ·rw [lget_set_ne ei,lget_set_ne ei]; exact h4 i hi
   ·exact ih _ _ _ hd' h1 h2 h3 h5 h4
  ·exact ih _ _ _ hd' h1 h2 h3 h5 h4
structure Tree (rooms:Nat) (fr ti:Int) (l:List Pg) (g:Pg→Int→Int) (times by_:List Int) (left:List Bool) (rk:Nat→Nat):Prop where
 st:lget times fr.toNat=ti
 lo:∀ i,i<rooms→ti≤lget times i
 rl:∀ i,i<rooms→lget left i=true→rk i<left.count true
 ed:∀ i,i<rooms→i≠fr.toNat→lget times i≤1073741823→∃ (k:Nat) (p:Pg),lget by_ i=(k:Int)∧l[k]?=some p∧p.to.toNat=i∧lget left p.fr.toNat=true∧lget times i=g p (lget times p.fr.toNat)∧lget times p.fr.toNat≤1073741823∧(lget left i=true→rk p.fr.toNat<rk i)
structure Trees (rooms:Nat) (fr ti:Int) (l:List Pg) (g:Pg→Int→Int) (times by_:List Int) (rk:Nat→Nat):Prop where
 st:lget times fr.toNat=ti
 lo:∀ i,i<rooms→ti≤lget times i
 rl:∀ i,i<rooms→lget times i≤1073741823→rk i<rooms
 ed:∀ i,i<rooms→i≠fr.toNat→lget times i≤1073741823→∃ (k:Nat) (p:Pg),lget by_ i=(k:Int)∧l[k]?=some p∧p.to.toNat=i∧lget times i=g p (lget times p.fr.toNat)∧lget times p.fr.toNat≤1073741823∧rk p.fr.toNat<rk i
theorem R109_0_tree {rooms:Nat} {fr ti:Int} {l:List Pg} {g:Pg→Int→Int} (hg:Crs rooms l g) (hf:0≤fr∧fr<(rooms:Int)):∀ (m:Nat) (times by_:List Int) (left:List Bool) (rk:Nat→Nat),by_.length=rooms→left.count false<m→Inv rooms l g times left→Tree rooms fr ti l g times by_ left rk →
  ∃ rk',Trees rooms fr ti l g (R109_0 rooms fr ti l g m times by_ left).1 (R109_0 rooms fr ti l g m times by_ left).2 rk':=by
 intro m
 induction m with
 | zero=>intro times by_ left rk _ h; omega
 | succ m ih =>
  intro times by_ left rk hb hm hI hR
  have hH:=R109_1_hr rooms fr ti l g times by_ left times 0 (-1) rfl (Hr.init _ _)
  have hM:=R109_1_min rooms fr ti l g times by_ left times 0 (-1) rfl (fun j hj=>by omega)
  have hlen:=hI.tm.len
  rw [R109_0]
  generalize he:R109_1 rooms fr ti l g times by_ left times 0 (-1)=here at *
  by_cases hn:here<0
  ·rw [if_pos hn]
   have fin:∀ i,i<rooms→lget times i≤1073741823→lget left i=true:=by
    intro i hi hl
    cases hb2:lget left i with
    | true=>rfl
    | false =>
     rcases hM i (by omega) hb2 with h|h
     ·omega
     ·omega
   refine ⟨rk,hR.st,hR.lo,fun i hi hl=>?_,fun i hi hne hl=>?_⟩
   ·have:=hR.rl i hi (fin i hi hl); have:=cnt_two left; have:=hI.len; omega
   ·obtain ⟨k,p,e1,e2,e3,e4,e5,e6,e7⟩:=hR.ed i hi hne hl
    exact ⟨k,p,e1,e2,e3,e5,e6,e7 (fin i hi hl)⟩
  ·rw [if_neg hn]
   have q:=hH.get hn
   have hT:=R109_2_tm rooms fr ti l g hg.rng times by_ left here he ⟨q.1,by omega⟩ l times by_ 0 (fun p hp=>hp) hI.tm hb q.2.2.1
   have r:=R109_2_rel (fr:=fr) (ti:=ti) hg times by_ left here he hI.tm ⟨q.1,by omega⟩ q.2.2.1 l times by_ 0 (fun p hp=>hp) hlen (fun i=>Int.le_refl _) (fun i=>.inr rfl) (fun i _=>rfl)
   have B:=R109_2_by (fr:=fr) (ti:=ti) hg times by_ left here he hI.tm ⟨q.1,by omega⟩ q.2.2.1 l times by_ 0 rfl hlen hb (fun i _=>rfl) (fun i=>Int.le_refl _) (fun i _=>.inl ⟨rfl,rfl⟩)
   have hll:=hI.len
   have hc:=cnt_set left here.toNat (by omega) q.2.2.2
   have ct:(left.set here.toNat true).count true=left.count true+1:=by
    have:=cnt_two left; have a2:=cnt_two (left.set here.toNat true); rw [List.length_set] at a2; omega
   have hself:lget (left.set here.toNat true) here.toNat=true:=lget_set_self (by omega)
   have hI':Inv rooms l g (R109_2 rooms fr ti l g times by_ left l times by_ 0).1 (left.set here.toNat true):=by
    refine ⟨hT.1,by rw [List.length_set]; exact hI.len,?_,?_⟩
    ·intro i j hi hj h1 h2
     have ej:here.toNat≠j:=by
      rintro rfl
      rw [hself] at h2; cases h2
     rw [lget_set_ne ej] at h2
     have hj2:lget times here.toNat≤lget times j:=by
      rcases hM j (by omega) h2 with h|h
      ·omega
      ·exact h.2
     have hj3:lget times here.toNat≤lget (R109_2 rooms fr ti l g times by_ left l times by_ 0).1 j:=by
      rcases r.2.1 j with h|h
      ·exact h
      ·rw [h]; exact hj2
     by_cases ei:here.toNat=i
     ·rw [← ei,r.2.2.1 here.toNat (Int.le_refl _)]; exact hj3
     ·rw [lget_set_ne ei] at h1
      have h3:=hI.ord i here.toNat hi (by omega) h1 q.2.2.2
      rw [r.2.2.1 i h3]; omega
    ·intro p hp h1
     have hr:=hg.rms p hp
     by_cases ei:here.toNat=p.fr.toNat
     ·rw [← ei,r.2.2.1 here.toNat (Int.le_refl _)]
      exact r.2.2.2 p hp (by omega)
     ·rw [lget_set_ne ei] at h1
      have h3:=hI.ord p.fr.toNat here.toNat (by omega) (by omega) h1 q.2.2.2
      rw [r.2.2.1 _ h3]
      have:=r.1 p.to.toNat
      have:=hI.cl p hp h1
      omega
   have sameT:∀ i,lget times i≤lget times here.toNat→lget (R109_2 rooms fr ti l g times by_ left l times by_ 0).1 i=lget times i:=r.2.2.1
   have hlo:∀ i,i<rooms→ti≤lget (R109_2 rooms fr ti l g times by_ left l times by_ 0).1 i:=by
    intro i hi
    rcases r.2.1 i with h|h
    ·have:=hR.lo here.toNat (by omega); omega
    ·rw [h]; exact hR.lo i hi
   refine ih _ _ _ (fun i=>if i=here.toNat then left.count true else rk i) hT.2 (by omega) hI' ⟨?_,hlo,fun i hi h=>?_,fun i hi hne hl=>?_⟩
   ·have a1:=hlo fr.toNat (by omega); have a2:=r.1 fr.toNat; have a3:=hR.st; omega
   ·rw [ct]
    show (if i=here.toNat then left.count true else rk i)<_
    by_cases ei:here.toNat=i
    ·rw [if_pos ei.symm]; omega
    ·rw [if_neg (fun h=>ei h.symm)]
     rw [lget_set_ne ei] at h
     have:=hR.rl i hi h; omega
   ·rcases B i hi with ⟨b1,b2⟩|⟨b0,k,p,b1,b2,b3,b4,b5⟩
    ·rw [b1] at hl
     obtain ⟨k,p,e1,e2,e3,e4,e5,e6,e7⟩:=hR.ed i hi hne hl
     have hr:=hg.rms p (List.mem_of_getElem? e2)
     have pne:here.toNat≠p.fr.toNat:=by
      intro e; rw [← e,q.2.2.2] at e4; cases e4
     have h3:=hI.ord p.fr.toNat here.toNat (by omega) (by omega) e4 q.2.2.2
     refine ⟨k,p,by rw [b2]; exact e1,e2,e3,by rw [lget_set_ne pne]; exact e4,by rw [b1,sameT _ h3]; exact e5,by rw [sameT _ h3]; exact e6,fun h=>?_⟩
     show (if p.fr.toNat=here.toNat then left.count true else rk p.fr.toNat)<(if i=here.toNat then left.count true else rk i)
     rw [if_neg (fun h=>pne h.symm)]
     by_cases ei:here.toNat=i
     ·rw [if_pos ei.symm]; exact hR.rl _ (by omega) e4
     ·rw [if_neg (fun h=>ei h.symm)]
      rw [lget_set_ne ei] at h; exact e7 h
    ·have hs:=sameT here.toNat (Int.le_refl _)
     refine ⟨k,p,b4,b1,b2,by rw [b3]; exact hself,by rw [b3,hs]; exact b5,by rw [b3,hs]; exact q.2.2.1,fun h=>?_⟩
     exfalso
     have ei:here.toNat≠i:=by rintro rfl; omega
     rw [lget_set_ne ei] at h
     have:=hI.ord i here.toNat hi (by omega) h q.2.2.2
     omega
theorem tree {rooms:Nat} {fr ti:Int} {l:List Pg} {g:Pg→Int→Int} (hg:Crs rooms l g) (hf:0≤fr∧fr<(rooms:Int)) (ht:0≤ti∧ti≤1073741823) :
  ∃ rk,Trees rooms fr ti l g (r109 rooms fr ti l g).1 (r109 rooms fr ti l g).2 rk:=by
 have h0:∀ i,i<rooms→fr.toNat≠i→lget ((List.replicate rooms (1073741824:Int)).set (Int.toNat fr) ti) i=1073741824:=fun i hi e=>by rw [lget_set_ne e,lget_replicate hi]
 have h1:lget ((List.replicate rooms (1073741824:Int)).set (Int.toNat fr) ti) fr.toNat=ti:=lget_set_self (by simp; omega)
 refine R109_0_tree hg hf (rooms+1) _ _ _ (fun _=>0) (by simp) (by rw [List.count_replicate_self]; omega) ⟨(Tm.rep _ (by decide)).set _ (by omega),by simp,fun i j hi hj h=>absurd h (by rw [lget_replicate hi]; decide),fun p hp h=>absurd h (by have:=hg.rms p hp; rw [lget_replicate (by omega)]; decide)⟩ ⟨h1,fun i hi=>?_,fun i hi h=>absurd h (by rw [lget_replicate hi]; decide),fun i hi hne hl=>?_⟩
 ·by_cases e:fr.toNat=i
  ·rw [← e,h1]; omega
  ·rw [h0 i hi e]; omega
 ·rw [h0 i hi (fun e=>hne e.symm)] at hl; omega
end House
end Go.Proofs
end
section
set_option linter.unusedSimpArgs false
set_option linter.unusedVariables false
namespace Go.Proofs
namespace House
open Go Go.RowKit Go.Aev
set_option maxRecDepth 100000
instance:Cel Stp:=⟨3,fun x=>[.int .i64 x.way,.bool x.back,.int .i64 x.at_],fun _=>rfl,fun _=>rfl⟩
def Keep (v:Value) (S S':AS):Prop:=S.next≤S'.next∧∀ q,q<S.next→blkOf v≠some q→S'.heap.get q=S.heap.get q
theorem Keep.refl (v:Value) (S:AS):Keep v S S:=⟨Nat.le_refl _,fun _ _ _=>rfl⟩
theorem Keep.trans {v:Value} {S S' S'':AS} (h:Keep v S S') (h':Keep v S' S''):Keep v S S'':=⟨Nat.le_trans h.1 h'.1,fun q hq hn=>(h'.2 q (Nat.lt_of_lt_of_le hq h.1) hn).trans (h.2 q hq hn)⟩
theorem Keep.put {v:Value} {S S':AS} {id:Nat} (hn:S'.next=S.next) (hb:blkOf v=some id) (h:∀ q,q≠id→S'.heap.get q=S.heap.get q):Keep v S S' :=
 ⟨Nat.le_of_eq hn.symm,fun q _ hq=>h q (fun e=>hq (by rw [hb,e]))⟩
def swpS (l:List Stp) (i j:Nat):List Stp:=(l.set i (lget l j)).set j (lget l i)
theorem own_blk {lo:Nat} {S:AS} {v:Value} {l:List Stp} (ho:Own 94 lo S v l) (h:0<l.length):∃ id,blkOf v=some id:=by
 rcases ho with ⟨rfl,_⟩|⟨id',ex,rfl,h1,h2,h3⟩
 ·simp at h
 ·exact ⟨id',rfl⟩
theorem own_cut94 {lo:Nat} {S:AS} {v:Value} {l:List Stp} (ho:Own 94 lo S v l) {id:Nat} (hb:blkOf v=some id) :
  lo≤id∧id<S.next∧∃ c ex,S.heap.get id=some (.cells c 94 3 true ex)∧∀ i:Nat,i<l.length→∃ of,of=i * 3∧aIndexAddr Tryz.prog 47 v (.int .i64 (i:Int))=some (.pointer (some ⟨id,of,none⟩)) ∧
   c[of]?=some (.int .i64 (lget l i).way)∧c[of+1]?=some (.bool (lget l i).back)∧c[of+2]?=some (.int .i64 (lget l i).at_):=by
 have ho':=ho
 rcases ho with ⟨rfl,rfl⟩|⟨id',ex,rfl,h1,h2,h3⟩
 ·simp [blkOf] at hb
 ·obtain rfl:id'=id:=by simpa [blkOf] using hb
  refine ⟨h1,h2,_,ex,h3,fun i hi=>?_⟩
  obtain ⟨id',c,ex',hb',h1',h2',h4,h5,h6⟩:=ho'.at (P:=Tryz.prog) (t:=47) Tryz.underlying47 (by decide +kernel) (lget_some hi)
  obtain rfl:id'=_:=by simpa [blkOf] using hb'.symm
  rw [h3] at h5
  simp only [Option.some.injEq,ABlk.cells.injEq] at h5
  obtain ⟨rfl,-⟩:=h5
  exact ⟨_,rfl,h4,h6 0 (by decide),h6 1 (by decide),h6 2 (by decide)⟩
theorem own_swp94 {lo:Nat} {S:AS} {v:Value} {l:List Stp} (ho:Own 94 lo S v l) {id:Nat} (hb:blkOf v=some id) {i j:Nat} (hi:i<l.length) (hj:j<l.length) {oi oj:Nat} (hoi:oi=i * 3) (hoj:oj=j * 3) :
  ∃ S1 S2,stA Tryz.prog 94 ⟨id,oi,none⟩ (.agg #[.int .i64 (lget l j).way,.bool (lget l j).back,.int .i64 (lget l j).at_]) S=some S1 ∧
   stA Tryz.prog 94 ⟨id,oj,none⟩ (.agg #[.int .i64 (lget l i).way,.bool (lget l i).back,.int .i64 (lget l i).at_]) S1=some S2∧Own 94 lo S2 v (swpS l i j)∧Keep v S S2∧S2.next=S.next:=by
 subst hoi hoj
 obtain ⟨S1,e1,n1,o1,f1⟩:=ho.put (P:=Tryz.prog) (u:=.agg #[.int .i64 (lget l j).way,.bool (lget l j).back,.int .i64 (lget l j).at_]) (by decide +kernel) hi (x:=lget l j) rfl hb
 obtain ⟨S2,e2,n2,o2,f2⟩:=o1.put (P:=Tryz.prog) (u:=.agg #[.int .i64 (lget l i).way,.bool (lget l i).back,.int .i64 (lget l i).at_]) (by decide +kernel) (i:=j) (by rw [List.length_set]; exact hj) (x:=lget l i) rfl hb
 exact ⟨S1,S2,e1,e2,o2,(Keep.put n1 hb f1).trans (Keep.put n2 hb f2),by omega⟩
def Trn (l o:List Stp) (i:Nat):Prop:=o.length=l.length∧∀ q,q<l.length→lget o q=if q<i∨l.length≤q+i then lget l (l.length - 1 - q) else lget l q
theorem Trn.step {l o:List Stp} {i:Nat} (h:Trn l o i) (hi:2 * i+1<l.length):Trn l (swpS o i (l.length - 1 - i)) (i+1):=by
 have hl:=h.1
 refine ⟨by unfold swpS; rw [List.length_set,List.length_set]; exact hl,fun q hq=>?_⟩
 have a1:=h.2 i (by omega); rw [if_neg (by omega)] at a1
 have a2:=h.2 (l.length - 1 - i) (by omega); rw [if_neg (by omega)] at a2
 unfold swpS
 by_cases e:l.length - 1 - i=q
 ·subst e
  rw [lget_set_self (by rw [List.length_set]; omega),a1,if_pos (by omega)]
  congr 1; omega
 ·rw [lget_set_ne e]
  by_cases e2:i=q
  ·subst e2
   rw [lget_set_self (by omega),a2,if_pos (by omega)]
  ·rw [lget_set_ne e2,h.2 q hq]
   by_cases c:q<i∨l.length≤q+i
   ·rw [if_pos c,if_pos (by omega)]
   ·rw [if_neg c,if_neg (by omega)]
theorem Trn.fin {l o:List Stp} {i:Nat} (h:Trn l o i) (hi:l.length≤2 * i+1):o=l.reverse:=by
 have hl:=h.1
 apply List.ext_getElem (by rw [List.length_reverse]; exact hl)
 intro q h1 h2
 have k:=h.2 q (by omega)
 have k1:lget o q=o[q]:=lget_of (List.getElem?_eq_getElem h1)
 rw [← k1,k,List.getElem_reverse]
 split
 ·exact lget_of (List.getElem?_eq_getElem (by omega))
 ·rw [lget_of (List.getElem?_eq_getElem (by omega:q<l.length))]
  congr 1; omega
set_option maxHeartbeats 4000000 in
theorem c115 (l:List Stp) (hn:l.length≤100000) (lo:Nat) (S:AS) (v:Value) (ho:Own 94 lo S v l) :
  ∃ S',(evL Tryz.prog E0).call 115 #[v] S=some (.tuple #[],S')∧Keep v S S'∧Own 94 lo S' v l.reverse:=by
 generalize hz:(evL Tryz.prog E0).call 115 _ _=z
 rw [L_call,evCall_said rfl Tryz.func115 rfl (by decide) Tryz.ntmps115 Tryz.results115] at hz
 have w0:IntKind.i64.wrap ((l.length:Int) - 1)=(l.length:Int) - 1:=by rw [IntWalk.i64_in]<;>omega
 have hlen:=(ho.rows).len (P:=Tryz.prog) (t:=47) Tryz.underlying47
 try simp (disch:=first|omega|assumption) only [E0_G,SY,setArgs,off,agreeKind,partVals,vals,allocV,boxed,ldA,rdCells,oneB,aggD,aField,aFieldV,aExtract,eq_self,ne_eq,if_true,if_false,not_false_eq_true,Nat.reduceAdd,Nat.reduceSub,Nat.reduceMul,Nat.reduceLT,Nat.reduceEqDiff,Nat.reduceBEq,reduceIte,Int.reduceEq,Int.reduceLT,Int.reduceLE,reduceCtorEq,off,agreeKind,vals,ldA,aggD,aField,Nat.reduceAdd,Nat.reduceSub,Nat.reduceLT,Nat.reduceBEq,setArgs,TY_EvH32,hlen,w0] at hz
 generalize hL1:Rec.loop _ _ _ _=L1 at hz
 obtain ⟨x1,t1,S1e,rfl,hQ1⟩:=loop_met hL1 (fun m t S'=>∃ (i:Nat) (o:List Stp),m+i=l.length+1∧2 * i≤l.length+1∧Trn l o i∧t.get 0=some v∧t.get 2=some (.int .i64 (i:Int))∧t.get 3=some (.int .i64 ((l.length:Int) - 1 - i))∧Keep v S S'∧Own 94 lo S' v o)
  (fun x t S'=>x=.exit 0∧Keep v S S'∧Own 94 lo S' v l.reverse) (l.length+1)
  ⟨0,l,by omega,by omega,⟨rfl,fun q hq=>by rw [if_neg (by omega)]⟩,by simp only [SY,setArgs,off,agreeKind,partVals,vals,allocV,boxed,ldA,rdCells,oneB,aggD,aField,aFieldV,aExtract,eq_self,ne_eq,if_true,if_false,not_false_eq_true,Nat.reduceAdd,Nat.reduceSub,Nat.reduceMul,Nat.reduceLT,Nat.reduceEqDiff,Nat.reduceBEq,reduceIte,Int.reduceEq,Int.reduceLT,Int.reduceLE,reduceCtorEq,w0]<;>rfl,by simp only [SY,setArgs,off,agreeKind,partVals,vals,allocV,boxed,ldA,rdCells,oneB,aggD,aField,aFieldV,aExtract,eq_self,ne_eq,if_true,if_false,not_false_eq_true,Nat.reduceAdd,Nat.reduceSub,Nat.reduceMul,Nat.reduceLT,Nat.reduceEqDiff,Nat.reduceBEq,reduceIte,Int.reduceEq,Int.reduceLT,Int.reduceLE,reduceCtorEq,w0]<;>rfl,by simp only [SY,setArgs,off,agreeKind,partVals,vals,allocV,boxed,ldA,rdCells,oneB,aggD,aField,aFieldV,aExtract,eq_self,ne_eq,if_true,if_false,not_false_eq_true,Nat.reduceAdd,Nat.reduceSub,Nat.reduceMul,Nat.reduceLT,Nat.reduceEqDiff,Nat.reduceBEq,reduceIte,Int.reduceEq,Int.reduceLT,Int.reduceLE,reduceCtorEq,w0]<;>first|rfl|(congr 2; omega),Keep.refl v S,ho⟩ (by
   rintro m t S1 ⟨i,o,hm,hi,hs,g0,g2,g3,kp,ow⟩
   refine .run fun z he=>?_
   have hlo:=hs.1
   try simp (disch:=first|omega|assumption) only [E0_G,SY,setArgs,off,agreeKind,partVals,vals,allocV,boxed,ldA,rdCells,oneB,aggD,aField,aFieldV,aExtract,eq_self,ne_eq,if_true,if_false,not_false_eq_true,Nat.reduceAdd,Nat.reduceSub,Nat.reduceMul,Nat.reduceLT,Nat.reduceEqDiff,Nat.reduceBEq,reduceIte,Int.reduceEq,Int.reduceLT,Int.reduceLE,reduceCtorEq,off,agreeKind,vals,ldA,aggD,aField,Nat.reduceAdd,Nat.reduceSub,Nat.reduceLT,Nat.reduceBEq,setArgs,TY_EvH32,g0,g2,g3] at he
   rcases dP ((i:Int)<(l.length:Int) - 1 - i) with ⟨h3a,h3⟩|⟨h3a,h3⟩
   ·try simp (disch:=first|omega|assumption) only [E0_G,SY,setArgs,off,agreeKind,partVals,vals,allocV,boxed,ldA,rdCells,oneB,aggD,aField,aFieldV,aExtract,eq_self,ne_eq,if_true,if_false,not_false_eq_true,Nat.reduceAdd,Nat.reduceSub,Nat.reduceMul,Nat.reduceLT,Nat.reduceEqDiff,Nat.reduceBEq,reduceIte,Int.reduceEq,Int.reduceLT,Int.reduceLE,reduceCtorEq,off,agreeKind,vals,ldA,aggD,aField,Nat.reduceAdd,Nat.reduceSub,Nat.reduceLT,Nat.reduceBEq,setArgs,TY_EvH32,g0,g2,g3,h3a] at he
    have w1:IntKind.i64.wrap ((i:Int)+1)=((i+1:Nat):Int):=by rw [IntWalk.i64_in]<;>omega
    have w2:IntKind.i64.wrap ((l.length:Int) - 1 - i - 1)=(l.length:Int) - 1 - ((i+1:Nat):Int):=by rw [IntWalk.i64_in]<;>omega
    have ej:(l.length:Int) - 1 - i=((l.length - 1 - i:Nat):Int):=by omega
    rw [code_draws _ _ _ (by kernel_rfl)] at he
    generalize hnd1:needy _=nd1 at he
    obtain ⟨id,hb⟩:=own_blk ow (by omega)
    obtain ⟨loA,ltA,ccA,exA,hxA,hcA⟩:=own_cut94 ow hb
    obtain ⟨ofAj,hoAj,iaAj,pAj0,pAj1,pAj2⟩:=hcA (l.length - 1 - i) (by omega)
    obtain ⟨ofAi,hoAi,iaAi,pAi0,pAi1,pAi2⟩:=hcA (i) (by omega)
    obtain ⟨SxA,SyA,exA,eyA,owA,kpA,nxA⟩:=own_swp94 ow hb (i:=i) (j:=l.length - 1 - i) (by omega) (by omega) hoAi hoAj
    rw [← ej] at iaAj
    try simp (disch:=first|omega|assumption) only [E0_G,SY,setArgs,off,agreeKind,partVals,vals,allocV,boxed,ldA,rdCells,oneB,aggD,aField,aFieldV,aExtract,eq_self,ne_eq,if_true,if_false,not_false_eq_true,Nat.reduceAdd,Nat.reduceSub,Nat.reduceMul,Nat.reduceLT,Nat.reduceEqDiff,Nat.reduceBEq,reduceIte,Int.reduceEq,Int.reduceLT,Int.reduceLE,reduceCtorEq,off,agreeKind,vals,ldA,aggD,aField,Nat.reduceAdd,Nat.reduceSub,Nat.reduceLT,Nat.reduceBEq,setArgs,TY_EvH32,store_agree,store_refl E0_same,g0,g2,g3,w1,w2,hxA,iaAj,pAj0,pAj1,pAj2,iaAi,pAi0,pAi1,pAi2,exA,eyA] at he
    exact .next he (m - 1) (by omega) ⟨i+1,_,by omega,by omega,hs.step (by omega),by simp only [SY,setArgs,off,agreeKind,partVals,vals,allocV,boxed,ldA,rdCells,oneB,aggD,aField,aFieldV,aExtract,eq_self,ne_eq,if_true,if_false,not_false_eq_true,Nat.reduceAdd,Nat.reduceSub,Nat.reduceMul,Nat.reduceLT,Nat.reduceEqDiff,Nat.reduceBEq,reduceIte,Int.reduceEq,Int.reduceLT,Int.reduceLE,reduceCtorEq,g0,g2,g3]<;>rfl,by simp only [SY,setArgs,off,agreeKind,partVals,vals,allocV,boxed,ldA,rdCells,oneB,aggD,aField,aFieldV,aExtract,eq_self,ne_eq,if_true,if_false,not_false_eq_true,Nat.reduceAdd,Nat.reduceSub,Nat.reduceMul,Nat.reduceLT,Nat.reduceEqDiff,Nat.reduceBEq,reduceIte,Int.reduceEq,Int.reduceLT,Int.reduceLE,reduceCtorEq,g0,g2,g3]<;>rfl,by simp only [SY,setArgs,off,agreeKind,partVals,vals,allocV,boxed,ldA,rdCells,oneB,aggD,aField,aFieldV,aExtract,eq_self,ne_eq,if_true,if_false,not_false_eq_true,Nat.reduceAdd,Nat.reduceSub,Nat.reduceMul,Nat.reduceLT,Nat.reduceEqDiff,Nat.reduceBEq,reduceIte,Int.reduceEq,Int.reduceLT,Int.reduceLE,reduceCtorEq,g0,g2,g3]<;>rfl,kp.trans kpA,owA⟩
   try simp (disch:=first|omega|assumption) only [E0_G,SY,setArgs,off,agreeKind,partVals,vals,allocV,boxed,ldA,rdCells,oneB,aggD,aField,aFieldV,aExtract,eq_self,ne_eq,if_true,if_false,not_false_eq_true,Nat.reduceAdd,Nat.reduceSub,Nat.reduceMul,Nat.reduceLT,Nat.reduceEqDiff,Nat.reduceBEq,reduceIte,Int.reduceEq,Int.reduceLT,Int.reduceLE,reduceCtorEq,off,agreeKind,vals,ldA,aggD,aField,Nat.reduceAdd,Nat.reduceSub,Nat.reduceLT,Nat.reduceBEq,setArgs,TY_EvH32,g0,g2,g3,h3a] at he
   exact .exit he ⟨rfl,kp,hs.fin (by omega) ▸ ow⟩)
 obtain ⟨rfl,kp,ow⟩:=hQ1
 try simp (disch:=first|omega|assumption) only [E0_G,SY,setArgs,off,agreeKind,partVals,vals,allocV,boxed,ldA,rdCells,oneB,aggD,aField,aFieldV,aExtract,eq_self,ne_eq,if_true,if_false,not_false_eq_true,Nat.reduceAdd,Nat.reduceSub,Nat.reduceMul,Nat.reduceLT,Nat.reduceEqDiff,Nat.reduceBEq,reduceIte,Int.reduceEq,Int.reduceLT,Int.reduceLE,reduceCtorEq,off,agreeKind,vals,Nat.reduceAdd,Nat.reduceSub,Nat.reduceLT,Nat.reduceBEq,TY_EvH32] at hz
 exact ⟨_,hz.symm,kp,ow⟩
end House
end Go.Proofs
end
section
set_option linter.unusedSimpArgs false
set_option linter.unusedVariables false
namespace Go.Proofs
namespace House
open Go Go.RowKit Go.Aev
set_option maxRecDepth 100000
theorem TY_EvH34:type_of% (And.intro (And.intro (And.intro (And.intro (And.intro (And.intro (And.intro Tryz.underlying3 tz3) (And.intro tt3 (And.intro t0_3 Tryz.underlying4))) (And.intro (And.intro tz4 tt4) (And.intro t0_4 (And.intro Tryz.underlying9 tz9)))) (And.intro (And.intro (And.intro tt9 t0_9) (And.intro Tryz.underlying22 (And.intro tz22 tt22))) (And.intro (And.intro t0_22 (And.intro Tryz.underlying23 tz23)) (And.intro tt23 (And.intro t0_23 Tryz.underlying24))))) (And.intro (And.intro (And.intro (And.intro tz24 tt24) (And.intro t0_24 (And.intro Tryz.underlying25 tz25))) (And.intro (And.intro tt25 t0_25) (And.intro Tryz.underlying26 (And.intro tz26 tt26)))) (And.intro (And.intro (And.intro t0_26 Tryz.underlying29) (And.intro tz29 (And.intro tt29 t0_29))) (And.intro (And.intro Tryz.underlying35 (And.intro tz35 tt35)) (And.intro t0_35 (And.intro Tryz.underlying36 tz36)))))) (And.intro (And.intro (And.intro (And.intro (And.intro tt36 t0_36) (And.intro Tryz.underlying40 (And.intro tz40 tt40))) (And.intro (And.intro t0_40 Tryz.underlying47) (And.intro tz47 (And.intro tt47 t0_47)))) (And.intro (And.intro (And.intro Tryz.underlying50 tz50) (And.intro tt50 (And.intro t0_50 Tryz.underlying51))) (And.intro (And.intro tz51 (And.intro tt51 t0_51)) (And.intro Tryz.underlying54 (And.intro tz54 tt54))))) (And.intro (And.intro (And.intro (And.intro t0_54 Tryz.underlying57) (And.intro tz57 (And.intro tt57 t0_57))) (And.intro (And.intro Tryz.underlying58 tz58) (And.intro tt58 (And.intro t0_58 Tryz.underlying91)))) (And.intro (And.intro (And.intro tz91 tt91) (And.intro t0_91 (And.intro Tryz.underlying92 tz92))) (And.intro (And.intro tt92 (And.intro t0_92 Tryz.underlying93)) (And.intro tz93 (And.intro tt93 t0_93))))))) (And.intro (And.intro (And.intro (And.intro (And.intro (And.intro Tryz.underlying94 tz94) (And.intro tt94 (And.intro t0_94 Tryz.underlying97))) (And.intro (And.intro tz97 tt97) (And.intro t0_97 (And.intro Tryz.underlying98 tz98)))) (And.intro (And.intro (And.intro tt98 t0_98) (And.intro Tryz.underlying109 (And.intro tz109 tt109))) (And.intro (And.intro t0_109 (And.intro Tryz.underlying110 tz110)) (And.intro tt110 (And.intro t0_110 Tryz.underlying113))))) (And.intro (And.intro (And.intro (And.intro tz113 tt113) (And.intro t0_113 (And.intro Tryz.underlying124 tz124))) (And.intro (And.intro tt124 t0_124) (And.intro Tryz.underlying125 (And.intro tz125 tt125)))) (And.intro (And.intro (And.intro t0_125 Tryz.underlying127) (And.intro tz127 (And.intro tt127 t0_127))) (And.intro (And.intro Tryz.underlying128 (And.intro tz128 tt128)) (And.intro t0_128 (And.intro Tryz.underlying134 tz134)))))) (And.intro (And.intro (And.intro (And.intro (And.intro tt134 t0_134) (And.intro Tryz.underlying136 (And.intro tz136 tt136))) (And.intro (And.intro t0_136 Tryz.underlying137) (And.intro tz137 (And.intro tt137 t0_137)))) (And.intro (And.intro (And.intro Tryz.underlying141 tz141) (And.intro tt141 (And.intro t0_141 Tryz.underlying142))) (And.intro (And.intro tz142 (And.intro tt142 t0_142)) (And.intro Tryz.underlying148 (And.intro tz148 tt148))))) (And.intro (And.intro (And.intro (And.intro t0_148 Tryz.underlying149) (And.intro tz149 (And.intro tt149 t0_149))) (And.intro (And.intro Tryz.underlying154 tz154) (And.intro tt154 (And.intro t0_154 Tryz.underlying168)))) (And.intro (And.intro (And.intro tz168 tt168) (And.intro t0_168 (And.intro Tryz.underlying204 tz204))) (And.intro (And.intro tt204 (And.intro t0_204 Tryz.underlying207)) (And.intro tz207 (And.intro tt207 t0_207)))))))):=(And.intro (And.intro (And.intro (And.intro (And.intro (And.intro (And.intro Tryz.underlying3 tz3) (And.intro tt3 (And.intro t0_3 Tryz.underlying4))) (And.intro (And.intro tz4 tt4) (And.intro t0_4 (And.intro Tryz.underlying9 tz9)))) (And.intro (And.intro (And.intro tt9 t0_9) (And.intro Tryz.underlying22 (And.intro tz22 tt22))) (And.intro (And.intro t0_22 (And.intro Tryz.underlying23 tz23)) (And.intro tt23 (And.intro t0_23 Tryz.underlying24))))) (And.intro (And.intro (And.intro (And.intro tz24 tt24) (And.intro t0_24 (And.intro Tryz.underlying25 tz25))) (And.intro (And.intro tt25 t0_25) (And.intro Tryz.underlying26 (And.intro tz26 tt26)))) (And.intro (And.intro (And.intro t0_26 Tryz.underlying29) (And.intro tz29 (And.intro tt29 t0_29))) (And.intro (And.intro Tryz.underlying35 (And.intro tz35 tt35)) (And.intro t0_35 (And.intro Tryz.underlying36 tz36)))))) (And.intro (And.intro (And.intro (And.intro (And.intro tt36 t0_36) (And.intro Tryz.underlying40 (And.intro tz40 tt40))) (And.intro (And.intro t0_40 Tryz.underlying47) (And.intro tz47 (And.intro tt47 t0_47)))) (And.intro (And.intro (And.intro Tryz.underlying50 tz50) (And.intro tt50 (And.intro t0_50 Tryz.underlying51))) (And.intro (And.intro tz51 (And.intro tt51 t0_51)) (And.intro Tryz.underlying54 (And.intro tz54 tt54))))) (And.intro (And.intro (And.intro (And.intro t0_54 Tryz.underlying57) (And.intro tz57 (And.intro tt57 t0_57))) (And.intro (And.intro Tryz.underlying58 tz58) (And.intro tt58 (And.intro t0_58 Tryz.underlying91)))) (And.intro (And.intro (And.intro tz91 tt91) (And.intro t0_91 (And.intro Tryz.underlying92 tz92))) (And.intro (And.intro tt92 (And.intro t0_92 Tryz.underlying93)) (And.intro tz93 (And.intro tt93 t0_93))))))) (And.intro (And.intro (And.intro (And.intro (And.intro (And.intro Tryz.underlying94 tz94) (And.intro tt94 (And.intro t0_94 Tryz.underlying97))) (And.intro (And.intro tz97 tt97) (And.intro t0_97 (And.intro Tryz.underlying98 tz98)))) (And.intro (And.intro (And.intro tt98 t0_98) (And.intro Tryz.underlying109 (And.intro tz109 tt109))) (And.intro (And.intro t0_109 (And.intro Tryz.underlying110 tz110)) (And.intro tt110 (And.intro t0_110 Tryz.underlying113))))) (And.intro (And.intro (And.intro (And.intro tz113 tt113) (And.intro t0_113 (And.intro Tryz.underlying124 tz124))) (And.intro (And.intro tt124 t0_124) (And.intro Tryz.underlying125 (And.intro tz125 tt125)))) (And.intro (And.intro (And.intro t0_125 Tryz.underlying127) (And.intro tz127 (And.intro tt127 t0_127))) (And.intro (And.intro Tryz.underlying128 (And.intro tz128 tt128)) (And.intro t0_128 (And.intro Tryz.underlying134 tz134)))))) (And.intro (And.intro (And.intro (And.intro (And.intro tt134 t0_134) (And.intro Tryz.underlying136 (And.intro tz136 tt136))) (And.intro (And.intro t0_136 Tryz.underlying137) (And.intro tz137 (And.intro tt137 t0_137)))) (And.intro (And.intro (And.intro Tryz.underlying141 tz141) (And.intro tt141 (And.intro t0_141 Tryz.underlying142))) (And.intro (And.intro tz142 (And.intro tt142 t0_142)) (And.intro Tryz.underlying148 (And.intro tz148 tt148))))) (And.intro (And.intro (And.intro (And.intro t0_148 Tryz.underlying149) (And.intro tz149 (And.intro tt149 t0_149))) (And.intro (And.intro Tryz.underlying154 tz154) (And.intro tt154 (And.intro t0_154 Tryz.underlying168)))) (And.intro (And.intro (And.intro tz168 tt168) (And.intro t0_168 (And.intro Tryz.underlying204 tz204))) (And.intro (And.intro tt204 (And.intro t0_204 Tryz.underlying207)) (And.intro tz207 (And.intro tt207 t0_207))))))))
theorem trees (h:Hs) (fr ti:Int):∃ rk:Nat→Nat,r59 h=0→0≤fr∧fr<(h.rooms.length:Int)→0≤ti∧ti≤1073741823→Trees h.rooms.length fr ti (psg h) (fun p t=>r145 p t h) (r114 h fr ti).1.1 (r114 h fr ti).1.2 rk:=by
 by_cases c:r59 h=0∧(0≤fr∧fr<(h.rooms.length:Int))∧0≤ti∧ti≤1073741823
 ·obtain ⟨rk,hT⟩:=tree (crs c.1) c.2.1 c.2.2
  exact ⟨rk,fun _ _ _=>hT⟩
 ·exact ⟨fun _=>0,fun a b d=>absurd ⟨a,b,d⟩ c⟩
theorem hop {h:Hs} {fr ti now:Int} {rk:Nat→Nat} (hV:r59 h=0) (hR:Trees h.rooms.length fr ti (psg h) (fun p t=>r145 p t h) (r114 h fr ti).1.1 (r114 h fr ti).1.2 rk) (hf:0≤fr) (ht:0≤ti) (h0:0≤now∧now<(h.rooms.length:Int)) (hne:now≠fr) (hi:lget (r114 h fr ti).1.1 now.toNat≤1073741823) :
  (0≤lget (r114 h fr ti).1.2 now.toNat∧lget (r114 h fr ti).1.2 now.toNat<((r114 h fr ti).2.length:Int)) ∧
  OkQ h (lget ((r114 h fr ti).2) (lget (r114 h fr ti).1.2 now.toNat).toNat)∧(lget ((r114 h fr ti).2) (lget (r114 h fr ti).1.2 now.toNat).toNat) ∈ psg h ∧
  (0≤(lget ((r114 h fr ti).2) (lget (r114 h fr ti).1.2 now.toNat).toNat).fr∧(lget ((r114 h fr ti).2) (lget (r114 h fr ti).1.2 now.toNat).toNat).fr<(h.rooms.length:Int)) ∧
  (0≤(lget ((r114 h fr ti).2) (lget (r114 h fr ti).1.2 now.toNat).toNat).secs∧(lget ((r114 h fr ti).2) (lget (r114 h fr ti).1.2 now.toNat).toNat).secs≤3600) ∧
  (lget ((r114 h fr ti).2) (lget (r114 h fr ti).1.2 now.toNat).toNat).to=now ∧
  lget (r114 h fr ti).1.1 now.toNat=r145 (lget ((r114 h fr ti).2) (lget (r114 h fr ti).1.2 now.toNat).toNat) (lget (r114 h fr ti).1.1 (lget ((r114 h fr ti).2) (lget (r114 h fr ti).1.2 now.toNat).toNat).fr.toNat) h ∧
  (0≤lget (r114 h fr ti).1.1 (lget ((r114 h fr ti).2) (lget (r114 h fr ti).1.2 now.toNat).toNat).fr.toNat∧lget (r114 h fr ti).1.1 (lget ((r114 h fr ti).2) (lget (r114 h fr ti).1.2 now.toNat).toNat).fr.toNat≤1073741823) ∧
  rk (lget ((r114 h fr ti).2) (lget (r114 h fr ti).1.2 now.toNat).toNat).fr.toNat<rk now.toNat∧ti≤lget (r114 h fr ti).1.1 now.toNat:=by
 obtain ⟨k,p,e1,e2,e3,e4,e5,e6⟩:=hR.ed now.toNat (by omega) (by omega) hi
 have hk:=(List.getElem?_eq_some_iff.1 e2).1
 have ep:lget ((r114 h fr ti).2) (lget (r114 h fr ti).1.2 now.toNat).toNat=p:=by rw [e1]; exact lget_of (l:=(r114 h fr ti).2) e2
 have hk2:k<(r114 h fr ti).2.length:=hk
 have q:=psg_ok hV (List.mem_of_getElem? e2)
 have qs:=q.ok.s; have qf:=q.f; have qt:=q.t
 rw [ep]
 refine ⟨by rw [e1]; omega,q,List.mem_of_getElem? e2,q.f,qs,by omega,e4,⟨?_,e5⟩,e6,hR.lo _ (by omega)⟩
 have:=hR.lo p.fr.toNat (by omega)
 omega
theorem r114_tm {h:Hs} (hV:r59 h=0) {fr ti:Int} (ht:0≤ti∧ti≤1073741823):Tm h.rooms.length (r114 h fr ti).1.1:=(r109_tm (rooms:=h.rooms.length) (fr:=fr) ht (psg_hg hV)).1
theorem r114_len {h:Hs} (hV:r59 h=0) {fr ti:Int} (ht:0≤ti∧ti≤1073741823):(r114 h fr ti).1.1.length=h.rooms.length∧(r114 h fr ti).1.2.length=h.rooms.length∧(r114 h fr ti).2=psg h :=
 ⟨(r109_tm (rooms:=h.rooms.length) (fr:=fr) ht (psg_hg hV)).1.len,(r109_tm (rooms:=h.rooms.length) (fr:=fr) ht (psg_hg hV)).2,rfl⟩
def R48_0 (h:Hs) (fr:Int) (ti:Int) (to_:Int)  : Nat→List Stp→Int→(List Stp)
 | 0,steps,now=>steps
 | m'+1,steps,now=>(if now=fr then steps else R48_0 h fr ti to_ m' (steps++([(⟨(lget ((r114 h fr ti).2) (Int.toNat (lget ((r114 h fr ti).1.2) (Int.toNat now)))).way,(lget ((r114 h fr ti).2) (Int.toNat (lget ((r114 h fr ti).1.2) (Int.toNat now)))).back,(lget ((r114 h fr ti).1.1) (Int.toNat now)) - ((lget ((r114 h fr ti).2) (Int.toNat (lget ((r114 h fr ti).1.2) (Int.toNat now)))).secs)⟩:Stp)])) ((lget ((r114 h fr ti).2) (Int.toNat (lget ((r114 h fr ti).1.2) (Int.toNat now)))).fr))
def r48 (h:Hs) (fr:Int) (ti:Int) (to_:Int):List Stp × Int:=(if (r102 h fr)=true then (if (r88 ti)=true then (if (r84 h (r102 h to_))=0 then (if (lget ((r114 h fr ti).1.1) (Int.toNat to_))=1073741824 then ([],5) else ((R48_0 h fr ti to_ (h.rooms.length+1) ([]) to_).reverse,0)) else ([],(r84 h (r102 h to_)))) else ([],(r84 h false))) else ([],(r84 h false)))
set_option maxHeartbeats 8000000 in
theorem c48 (h:Hs) (fr:Int) (ti:Int) (to_:Int) (hF:Few h) (hs:∀ x ∈ h.rooms,x.name.size≤9223372036854775807) (rk:Nat→Nat) (hT:r59 h=0→0≤fr∧fr<(h.rooms.length:Int)→0≤ti∧ti≤1073741823→Trees h.rooms.length fr ti (psg h) (fun p t=>r145 p t h) (r114 h fr ti).1.1 (r114 h fr ti).1.2 rk) (S:AS) (v_h_rooms:Value) (hv_h_rooms:LstR S v_h_rooms h.rooms) (v_h_doors:Value) (hv_h_doors:LstR S v_h_doors h.doors) (v_h_ways:Value) (hv_h_ways:Lst S v_h_ways h.ways) :
  ∃ v' S',(evL Tryz.prog E0).call 48 #[.agg #[v_h_rooms,v_h_doors,v_h_ways],.int .i64 fr,.int .i64 ti,.int .i64 to_] S=some (.tuple #[v',.int .i64 (r48 h fr ti to_).2],S')∧Agree S S'∧Own 94 S.next S' v' (r48 h fr ti to_).1:=by
 have qr:=hF.r; have qd:=hF.d; have qw:=hF.w
 generalize hz:(evL Tryz.prog E0).call 48 _ _=z
 rw [L_call,evCall_said rfl Tryz.func48 rfl (by decide) Tryz.ntmps48 Tryz.results48] at hz
 obtain ⟨S1,e1,n1,b1,a1⟩:=push_open S (.cells [v_h_rooms,v_h_doors,v_h_ways] 26 0 true true)
 have g1:Agree S S1:=a1
 have s1:E0.same S S1=true:=symEnv_same a1
 try simp (disch:=first|omega|assumption) only [E0_G,SY,setArgs,off,agreeKind,partVals,vals,allocV,boxed,ldA,rdCells,oneB,aggD,aField,aFieldV,aExtract,eq_self,ne_eq,if_true,if_false,not_false_eq_true,Nat.reduceAdd,Nat.reduceSub,Nat.reduceMul,Nat.reduceLT,Nat.reduceEqDiff,Nat.reduceBEq,reduceIte,Int.reduceEq,Int.reduceLT,Int.reduceLE,reduceCtorEq,TY_EvH34,s1,e1,b1] at hz
 rw [code_draws _ _ _ (by kernel_rfl)] at hz
 generalize hnd2:needy _=nd2 at hz
 obtain ⟨S3,k3,a3⟩:=c102 h fr  S1 (v_h_rooms) (hv_h_rooms.agree g1) (v_h_doors) (hv_h_doors.agree g1) (v_h_ways) (hv_h_ways.agree g1)
 have l3:=a3.1
 have s3:E0.same S1 S3=true:=symEnv_same a3
 have v1_3:=(a3.2 S.next (by omega)).trans b1
 have g3:Agree S S3:=g1.trans a3
 try simp (disch:=first|omega|assumption) only [E0_G,SY,setArgs,off,agreeKind,partVals,vals,allocV,boxed,ldA,rdCells,oneB,aggD,aField,aFieldV,aExtract,eq_self,ne_eq,if_true,if_false,not_false_eq_true,Nat.reduceAdd,Nat.reduceSub,Nat.reduceMul,Nat.reduceLT,Nat.reduceEqDiff,Nat.reduceBEq,reduceIte,Int.reduceEq,Int.reduceLT,Int.reduceLE,reduceCtorEq,TY_EvH34,s1,e1,b1,store_agree,store_refl E0_same,k3,s3,v1_3] at hz
 rcases dB ((r102 h fr)) with ⟨h4a,h4⟩|⟨h4a,h4⟩
 ·have lq5:=r102_iff.1 h4
  obtain ⟨S6,k6,a6⟩:=c88 ti  S3
  have l6:=a6.1
  have s6:E0.same S3 S6=true:=symEnv_same a6
  have v1_6:=(a6.2 S.next (by omega)).trans v1_3
  have g6:Agree S S6:=g3.trans a6
  try simp (disch:=first|omega|assumption) only [E0_G,SY,setArgs,off,agreeKind,partVals,vals,allocV,boxed,ldA,rdCells,oneB,aggD,aField,aFieldV,aExtract,eq_self,ne_eq,if_true,if_false,not_false_eq_true,Nat.reduceAdd,Nat.reduceSub,Nat.reduceMul,Nat.reduceLT,Nat.reduceEqDiff,Nat.reduceBEq,reduceIte,Int.reduceEq,Int.reduceLT,Int.reduceLE,reduceCtorEq,TY_EvH34,s1,e1,b1,store_agree,store_refl E0_same,k3,s3,v1_3,h4a,k6,s6,v1_6] at hz
  rcases dB ((r88 ti)) with ⟨h7a,h7⟩|⟨h7a,h7⟩
  ·have lq8:=r88_iff.1 h7
   obtain ⟨S9,k9,a9⟩:=c102 h to_  S6 (v_h_rooms) (hv_h_rooms.agree g6) (v_h_doors) (hv_h_doors.agree g6) (v_h_ways) (hv_h_ways.agree g6)
   have l9:=a9.1
   have s9:E0.same S6 S9=true:=symEnv_same a9
   have v1_9:=(a9.2 S.next (by omega)).trans v1_6
   have g9:Agree S S9:=g6.trans a9
   obtain ⟨S10,k10,a10⟩:=c84 h (r102 h to_) hF hs S9 (v_h_rooms) (hv_h_rooms.agree g9) (v_h_doors) (hv_h_doors.agree g9) (v_h_ways) (hv_h_ways.agree g9)
   have l10:=a10.1
   have s10:E0.same S9 S10=true:=symEnv_same a10
   have v1_10:=(a10.2 S.next (by omega)).trans v1_9
   have g10:Agree S S10:=g9.trans a10
   try simp (disch:=first|omega|assumption) only [E0_G,SY,setArgs,off,agreeKind,partVals,vals,allocV,boxed,ldA,rdCells,oneB,aggD,aField,aFieldV,aExtract,eq_self,ne_eq,if_true,if_false,not_false_eq_true,Nat.reduceAdd,Nat.reduceSub,Nat.reduceMul,Nat.reduceLT,Nat.reduceEqDiff,Nat.reduceBEq,reduceIte,Int.reduceEq,Int.reduceLT,Int.reduceLE,reduceCtorEq,TY_EvH34,s1,e1,b1,store_agree,store_refl E0_same,k3,s3,v1_3,h4a,k6,s6,v1_6,h7a,k9,s9,v1_9,k10,s10,v1_10] at hz
   rcases dP ((r84 h (r102 h to_))=0) with ⟨h11a,h11⟩|⟨h11a,h11⟩
   ·have hV:=(r84_ok h11).1
    have lq12:=r102_iff.1 (r84_ok h11).2
    obtain ⟨u13_0,u13_1,u13_2,S13,k13,a13,oo13_0,oo13_1,oo13_2,ab13_0_1,ab13_0_2,ab13_1_2⟩:=c114 h fr ti hF hV (by omega) (by omega) S10 (v_h_rooms) (hv_h_rooms.agree g10) (v_h_doors) (hv_h_doors.agree g10) (v_h_ways) (hv_h_ways.agree g10)
    obtain ⟨pu13_0,nu13_0,cu13_0,rfl⟩:=own_slice oo13_0
    obtain ⟨pu13_1,nu13_1,cu13_1,rfl⟩:=own_slice oo13_1
    obtain ⟨pu13_2,nu13_2,cu13_2,rfl⟩:=own_slice oo13_2
    have l13:=a13.1
    have s13:E0.same S10 S13=true:=symEnv_same a13
    have v1_13:=(a13.2 S.next (by omega)).trans v1_10
    have g13:Agree S S13:=g10.trans a13
    have p13:=r114_len hV (fr:=fr) (ti:=ti) (by omega)
    obtain ⟨S14,e14,n14,b14,a14⟩:=push_open S13 (.cells [.slice none 0 0,.slice none 0 0] 142 0 true true)
    have v1_14:=(a14.2 S.next (by omega)).trans v1_13
    have o13_15:=oo13_0.agree a14
    have o13_16:=oo13_1.agree a14
    have o13_17:=oo13_2.agree a14
    have g14:Agree S S14:=g13.trans a14
    have s14:E0.same S13 S14=true:=symEnv_same a14
    have ne18:blkOf (.slice pu13_0 nu13_0 cu13_0)≠some S13.next:=oo13_0.new (Nat.le_refl _)
    have ne19:blkOf (.slice pu13_1 nu13_1 cu13_1)≠some S13.next:=oo13_1.new (Nat.le_refl _)
    have ne20:blkOf (.slice pu13_2 nu13_2 cu13_2)≠some S13.next:=oo13_2.new (Nat.le_refl _)
    obtain ⟨S21,k21,n21,b21,q21⟩:=st_at (o:=0) (c':=[.slice pu13_0 nu13_0 cu13_0,.slice pu13_1 nu13_1 cu13_1]) (v:=.agg #[.slice pu13_0 nu13_0 cu13_0,.slice pu13_1 nu13_1 cu13_1]) tz142 b14 rfl rfl (show 0+2≤2 by decide) rfl
    have v1_21:=(q21 S.next (by omega)).trans v1_14
    have o13_22:=o13_15.frame (by omega) (fun id hid hb=>q21 id (fun e=>(show blkOf (.slice pu13_0 nu13_0 cu13_0)≠some S13.next from by first|exact o13_15.ne (by omega)|exact o13_15.new (by omega)|assumption) (e ▸ hb)))
    have o13_23:=o13_16.frame (by omega) (fun id hid hb=>q21 id (fun e=>(show blkOf (.slice pu13_1 nu13_1 cu13_1)≠some S13.next from by first|exact o13_16.ne (by omega)|exact o13_16.new (by omega)|assumption) (e ▸ hb)))
    have o13_24:=o13_17.frame (by omega) (fun id hid hb=>q21 id (fun e=>(show blkOf (.slice pu13_2 nu13_2 cu13_2)≠some S13.next from by first|exact o13_17.ne (by omega)|exact o13_17.new (by omega)|assumption) (e ▸ hb)))
    have g21:Agree S S21:=⟨by have:=(g14).1; omega,fun id hid=>(q21 id (by have:=(g14).1; omega)).trans ((g14).2 id hid)⟩
    have qz25:((Int.toNat to_:Nat):Int)=to_:=Int.toNat_of_nonneg (by first|omega|simp; omega)
    have hx26:((r114 h fr ti).1.1)[(Int.toNat to_)]?=some (lget ((r114 h fr ti).1.1) (Int.toNat to_)):=lget_some (by first|omega|simp; omega)
    have eb27:=(r114_tm hV (fr:=fr) (ti:=ti) (by omega)).at hx26
    obtain ⟨id26,of26,cc26,ty26,wr26,ex26,i26,j26,l26,q26,lb26,bk26,oq26⟩:=o13_22.at4 (P:=Tryz.prog) (t:=54) Tryz.underlying54 tz3 hx26
    have m26_0:cc26[of26]?=some (.int .i64 (lget ((r114 h fr ti).1.1) (Int.toNat to_))):=q26 0 (show 0<1 by decide)
    rw [qz25] at i26
    try simp (disch:=first|omega|assumption) only [E0_G,SY,setArgs,off,agreeKind,partVals,vals,allocV,boxed,ldA,rdCells,oneB,aggD,aField,aFieldV,aExtract,eq_self,ne_eq,if_true,if_false,not_false_eq_true,Nat.reduceAdd,Nat.reduceSub,Nat.reduceMul,Nat.reduceLT,Nat.reduceEqDiff,Nat.reduceBEq,reduceIte,Int.reduceEq,Int.reduceLT,Int.reduceLE,reduceCtorEq,TY_EvH34,s1,e1,b1,store_agree,store_refl E0_same,k3,s3,v1_3,h4a,k6,s6,v1_6,h7a,k9,s9,v1_9,k10,s10,v1_10,h11a,k13,s13,v1_13,v1_14,s14,e14,b14,v1_21,k21,b21,i26,j26,m26_0] at hz
    rcases dP ((lget ((r114 h fr ti).1.1) (Int.toNat to_))=1073741824) with ⟨h28a,h28⟩|⟨h28a,h28⟩
    ·try simp (disch:=first|omega|assumption) only [E0_G,SY,setArgs,off,agreeKind,partVals,vals,allocV,boxed,ldA,rdCells,oneB,aggD,aField,aFieldV,aExtract,eq_self,ne_eq,if_true,if_false,not_false_eq_true,Nat.reduceAdd,Nat.reduceSub,Nat.reduceMul,Nat.reduceLT,Nat.reduceEqDiff,Nat.reduceBEq,reduceIte,Int.reduceEq,Int.reduceLT,Int.reduceLE,reduceCtorEq,TY_EvH34,s1,e1,b1,store_agree,store_refl E0_same,k3,s3,v1_3,h4a,k6,s6,v1_6,h7a,k9,s9,v1_9,k10,s10,v1_10,h11a,k13,s13,v1_13,v1_14,s14,e14,b14,v1_21,k21,b21,i26,j26,m26_0,h28a] at hz
     have hr:r48 h fr ti to_=([],5):=(if_pos h4).trans ((if_pos h7).trans ((if_pos h11).trans ((if_pos h28).trans (rfl))))
     exact ⟨.slice none 0 0,S21,by first|(rw [hr]; exact hz.symm)|exact hz.symm,g21,by rw [hr]; exact Own.nil _ _ _⟩
    try simp (disch:=first|omega|assumption) only [E0_G,SY,setArgs,off,agreeKind,partVals,vals,allocV,boxed,ldA,rdCells,oneB,aggD,aField,aFieldV,aExtract,eq_self,ne_eq,if_true,if_false,not_false_eq_true,Nat.reduceAdd,Nat.reduceSub,Nat.reduceMul,Nat.reduceLT,Nat.reduceEqDiff,Nat.reduceBEq,reduceIte,Int.reduceEq,Int.reduceLT,Int.reduceLE,reduceCtorEq,TY_EvH34,s1,e1,b1,store_agree,store_refl E0_same,k3,s3,v1_3,h4a,k6,s6,v1_6,h7a,k9,s9,v1_9,k10,s10,v1_10,h11a,k13,s13,v1_13,v1_14,s14,e14,b14,v1_21,k21,b21,i26,j26,m26_0,h28a] at hz
    have hR:=hT hV (by omega) (by omega)
    have hrl:=hR.rl (Int.toNat to_) (by omega) (by omega)
    generalize hL29:Rec.loop _ _ _ _=L29 at hz
    obtain ⟨x29,t29,S29e,rfl,hQ29⟩:=loop_met hL29 (fun m t S'=>∃ (v_steps:Value) (steps:List Stp) (now:Int),rk (Int.toNat now)<m∧steps.length+m=h.rooms.length+1∧steps.length≤h.rooms.length∧0≤now∧now<(h.rooms.length:Int)∧lget (r114 h fr ti).1.1 (Int.toNat now)≤1073741823∧t.get 1=some (.int .i64 fr)∧t.get 11=some (.pointer (some ⟨S13.next,0,none⟩))∧t.get 12=some (.slice pu13_2 nu13_2 cu13_2)∧t.get 13=some (v_steps)∧t.get 14=some (.int .i64 now)∧S'.heap.get S13.next=some (.cells [.slice pu13_0 nu13_0 cu13_0,.slice pu13_1 nu13_1 cu13_1] 142 0 true true)∧Agree S S'∧S21.next≤S'.next∧Own 94 S21.next S' v_steps steps∧Own 137 S10.next S' (.slice pu13_2 nu13_2 cu13_2) ((r114 h fr ti).2)∧Own 3 S10.next S' (.slice pu13_0 nu13_0 cu13_0) ((r114 h fr ti).1.1)∧Own 3 S10.next S' (.slice pu13_1 nu13_1 cu13_1) ((r114 h fr ti).1.2)∧(∀ b,blkOf v_steps=some b→blkOf (.slice pu13_2 nu13_2 cu13_2)≠some b)∧(∀ b,blkOf v_steps=some b→blkOf (.slice pu13_0 nu13_0 cu13_0)≠some b)∧(∀ b,blkOf v_steps=some b→blkOf (.slice pu13_1 nu13_1 cu13_1)≠some b)∧R48_0 h fr ti to_ m steps now=R48_0 h fr ti to_ (h.rooms.length+1) ([]) to_)
     (fun x t S'=>x=.exit 0∧∃ (v_steps:Value) (steps:List Stp) (now:Int),t.get 13=some (v_steps)∧S'.heap.get S13.next=some (.cells [.slice pu13_0 nu13_0 cu13_0,.slice pu13_1 nu13_1 cu13_1] 142 0 true true)∧Agree S S'∧S21.next≤S'.next∧Own 94 S21.next S' v_steps steps∧Own 137 S10.next S' (.slice pu13_2 nu13_2 cu13_2) ((r114 h fr ti).2)∧Own 3 S10.next S' (.slice pu13_0 nu13_0 cu13_0) ((r114 h fr ti).1.1)∧Own 3 S10.next S' (.slice pu13_1 nu13_1 cu13_1) ((r114 h fr ti).1.2)∧(∀ b,blkOf v_steps=some b→blkOf (.slice pu13_2 nu13_2 cu13_2)≠some b)∧(∀ b,blkOf v_steps=some b→blkOf (.slice pu13_0 nu13_0 cu13_0)≠some b)∧(∀ b,blkOf v_steps=some b→blkOf (.slice pu13_1 nu13_1 cu13_1)≠some b)∧steps.length≤h.rooms.length∧0≤now∧now<(h.rooms.length:Int)∧lget (r114 h fr ti).1.1 (Int.toNat now)≤1073741823∧R48_0 h fr ti to_ (h.rooms.length+1) ([]) to_=steps) (h.rooms.length+1) (by refine ⟨.slice none 0 0,[],to_,?_,?_,?_,?_,?_,?_,?_,?_,?_,?_,?_,b21,g21,Nat.le_refl _,Own.nil _ _ _,o13_24,o13_22,o13_23,(fun b hb=>by simp [blkOf] at hb),(fun b hb=>by simp [blkOf] at hb),(fun b hb=>by simp [blkOf] at hb),rfl⟩<;>first|(simp only [SY,setArgs,off,agreeKind,partVals,vals,allocV,boxed,ldA,rdCells,oneB,aggD,aField,aFieldV,aExtract,eq_self,ne_eq,if_true,if_false,not_false_eq_true,Nat.reduceAdd,Nat.reduceSub,Nat.reduceMul,Nat.reduceLT,Nat.reduceEqDiff,Nat.reduceBEq,reduceIte,Int.reduceEq,Int.reduceLT,Int.reduceLE,reduceCtorEq]<;>rfl)|omega|assumption|(simp; omega)|simp) (by
      rintro m t S29 ⟨v_steps,steps,now,hi29_0,hi29_1,hi29_2,hi29_3,hi29_4,hi29_5,g29_1,g29_11,g29_12,g29_13,g29_14,bb29_14,ga29,gn29,ow_steps,cw29_0,cw29_1,cw29_2,pr29_0,pr29_1,pr29_2,hd29⟩
      refine .run fun z he=>?_
      try simp (disch:=first|omega|assumption) only [E0_G,SY,setArgs,off,agreeKind,partVals,vals,allocV,boxed,ldA,rdCells,oneB,aggD,aField,aFieldV,aExtract,eq_self,ne_eq,if_true,if_false,not_false_eq_true,Nat.reduceAdd,Nat.reduceSub,Nat.reduceMul,Nat.reduceLT,Nat.reduceEqDiff,Nat.reduceBEq,reduceIte,Int.reduceEq,Int.reduceLT,Int.reduceLE,reduceCtorEq,TY_EvH34,g29_1,g29_11,g29_12,g29_13,g29_14,bb29_14,h4a,h7a,h11a,h28a] at he
      rcases dP (now=fr) with ⟨h30a,h30⟩|⟨h30a,h30⟩
      ·try simp (disch:=first|omega|assumption) only [E0_G,SY,setArgs,off,agreeKind,partVals,vals,allocV,boxed,ldA,rdCells,oneB,aggD,aField,aFieldV,aExtract,eq_self,ne_eq,if_true,if_false,not_false_eq_true,Nat.reduceAdd,Nat.reduceSub,Nat.reduceMul,Nat.reduceLT,Nat.reduceEqDiff,Nat.reduceBEq,reduceIte,Int.reduceEq,Int.reduceLT,Int.reduceLE,reduceCtorEq,TY_EvH34,g29_1,g29_11,g29_12,g29_13,g29_14,bb29_14,h4a,h7a,h11a,h28a,h30a] at he
       obtain ⟨m',rfl⟩:∃ m',m=m'+1:=⟨m - 1,by omega⟩
       have hf:=(show _=(steps:(List Stp)) from (if_pos h30).trans (rfl)).symm.trans hd29
       refine .exit he ⟨rfl,⟨v_steps,steps,now,?_,bb29_14,ga29,by omega,(ow_steps.low (by omega)),cw29_0,cw29_1,cw29_2,pr29_0,pr29_1,pr29_2,?_,?_,?_,?_,hf.symm⟩⟩<;>first|(simp only [SY,setArgs,off,agreeKind,partVals,vals,allocV,boxed,ldA,rdCells,oneB,aggD,aField,aFieldV,aExtract,eq_self,ne_eq,if_true,if_false,not_false_eq_true,Nat.reduceAdd,Nat.reduceSub,Nat.reduceMul,Nat.reduceLT,Nat.reduceEqDiff,Nat.reduceBEq,reduceIte,Int.reduceEq,Int.reduceLT,Int.reduceLE,reduceCtorEq,g29_1,g29_11,g29_12,g29_13,g29_14]<;>rfl)|omega|assumption|(simp; omega)|simp
      have qz31:((Int.toNat now:Nat):Int)=now:=Int.toNat_of_nonneg (by first|omega|simp; omega)
      have hx32:((r114 h fr ti).1.2)[(Int.toNat now)]?=some (lget ((r114 h fr ti).1.2) (Int.toNat now)):=lget_some (by first|omega|simp; omega)
      obtain ⟨hb33,hq33,hm33,hf33,hs33,hto33,ha33,hi33,hk33,hl33⟩:=hop hV hR (by omega) (by omega) (now:=now) (by omega) (by omega) (by omega)
      obtain ⟨id32,of32,cc32,ty32,wr32,ex32,i32,j32,l32,q32,lb32,bk32,oq32⟩:=cw29_2.at4 (P:=Tryz.prog) (t:=54) Tryz.underlying54 tz3 hx32
      have m32_0:cc32[of32]?=some (.int .i64 (lget ((r114 h fr ti).1.2) (Int.toNat now))):=q32 0 (show 0<1 by decide)
      rw [qz31] at i32
      have qz34:((Int.toNat (lget ((r114 h fr ti).1.2) (Int.toNat now)):Nat):Int)=(lget ((r114 h fr ti).1.2) (Int.toNat now)):=Int.toNat_of_nonneg (by first|omega|simp; omega)
      have hx35:((r114 h fr ti).2)[(Int.toNat (lget ((r114 h fr ti).1.2) (Int.toNat now)))]?=some (lget ((r114 h fr ti).2) (Int.toNat (lget ((r114 h fr ti).1.2) (Int.toNat now)))):=lget_some (by first|omega|simp; omega)
      obtain ⟨id35,of35,cc35,ty35,wr35,ex35,i35,j35,l35,q35,lb35,bk35,oq35⟩:=cw29_0.at4 (P:=Tryz.prog) (t:=134) Tryz.underlying134 tz137 hx35
      have m35_0:cc35[of35]?=some (.int .i64 ((lget ((r114 h fr ti).2) (Int.toNat (lget ((r114 h fr ti).1.2) (Int.toNat now)))).way)):=q35 0 (show 0<6 by decide)
      have m35_1:cc35[of35+1]?=some (.bool ((lget ((r114 h fr ti).2) (Int.toNat (lget ((r114 h fr ti).1.2) (Int.toNat now)))).back)):=q35 1 (show 1<6 by decide)
      have m35_2:cc35[of35+2]?=some (.int .i64 ((lget ((r114 h fr ti).2) (Int.toNat (lget ((r114 h fr ti).1.2) (Int.toNat now)))).fr)):=q35 2 (show 2<6 by decide)
      have m35_3:cc35[of35+3]?=some (.int .i64 ((lget ((r114 h fr ti).2) (Int.toNat (lget ((r114 h fr ti).1.2) (Int.toNat now)))).to)):=q35 3 (show 3<6 by decide)
      have m35_4:cc35[of35+4]?=some (.int .i64 ((lget ((r114 h fr ti).2) (Int.toNat (lget ((r114 h fr ti).1.2) (Int.toNat now)))).secs)):=q35 4 (show 4<6 by decide)
      have m35_5:cc35[of35+5]?=some (.int .i64 ((lget ((r114 h fr ti).2) (Int.toNat (lget ((r114 h fr ti).1.2) (Int.toNat now)))).door)):=q35 5 (show 5<6 by decide)
      rw [qz34] at i35
      obtain ⟨S36,e36,n36,b36,a36⟩:=push_open S29 (.cells [.int .i64 0,.bool false,.int .i64 0,.int .i64 0,.int .i64 0,.int .i64 0] 137 0 true true)
      have v14_36:=(a36.2 S13.next (by omega)).trans bb29_14
      have v32_36:=(a36.2 id32 (by omega)).trans j32
      have v35_36:=(a36.2 id35 (by omega)).trans j35
      have ow_37:=ow_steps.agree a36
      have ocw29_38:=cw29_0.agree a36
      have ocw29_39:=cw29_2.agree a36
      have ocw29_40:=cw29_1.agree a36
      have g36:Agree S S36:=ga29.trans a36
      have s36:E0.same S29 S36=true:=symEnv_same a36
      have ne41:blkOf (v_steps)≠some S29.next:=ow_steps.new (Nat.le_refl _)
      have ne42:blkOf (.slice pu13_2 nu13_2 cu13_2)≠some S29.next:=cw29_0.new (Nat.le_refl _)
      have ne43:blkOf (.slice pu13_1 nu13_1 cu13_1)≠some S29.next:=cw29_2.new (Nat.le_refl _)
      have ne44:blkOf (.slice pu13_0 nu13_0 cu13_0)≠some S29.next:=cw29_1.new (Nat.le_refl _)
      obtain ⟨S45,k45,n45,b45,q45⟩:=st_at (o:=0) (c':=[.int .i64 ((lget ((r114 h fr ti).2) (Int.toNat (lget ((r114 h fr ti).1.2) (Int.toNat now)))).way),.bool ((lget ((r114 h fr ti).2) (Int.toNat (lget ((r114 h fr ti).1.2) (Int.toNat now)))).back),.int .i64 ((lget ((r114 h fr ti).2) (Int.toNat (lget ((r114 h fr ti).1.2) (Int.toNat now)))).fr),.int .i64 ((lget ((r114 h fr ti).2) (Int.toNat (lget ((r114 h fr ti).1.2) (Int.toNat now)))).to),.int .i64 ((lget ((r114 h fr ti).2) (Int.toNat (lget ((r114 h fr ti).1.2) (Int.toNat now)))).secs),.int .i64 ((lget ((r114 h fr ti).2) (Int.toNat (lget ((r114 h fr ti).1.2) (Int.toNat now)))).door)]) (v:=.agg #[.int .i64 ((lget ((r114 h fr ti).2) (Int.toNat (lget ((r114 h fr ti).1.2) (Int.toNat now)))).way),.bool ((lget ((r114 h fr ti).2) (Int.toNat (lget ((r114 h fr ti).1.2) (Int.toNat now)))).back),.int .i64 ((lget ((r114 h fr ti).2) (Int.toNat (lget ((r114 h fr ti).1.2) (Int.toNat now)))).fr),.int .i64 ((lget ((r114 h fr ti).2) (Int.toNat (lget ((r114 h fr ti).1.2) (Int.toNat now)))).to),.int .i64 ((lget ((r114 h fr ti).2) (Int.toNat (lget ((r114 h fr ti).1.2) (Int.toNat now)))).secs),.int .i64 ((lget ((r114 h fr ti).2) (Int.toNat (lget ((r114 h fr ti).1.2) (Int.toNat now)))).door)]) tz137 b36 rfl rfl (show 0+6≤6 by decide) rfl
      have v14_45:=(q45 S13.next (by omega)).trans v14_36
      have ow_46:=ow_37.frame (by omega) (fun id hid hb=>q45 id (fun e=>(show blkOf (v_steps)≠some S29.next from by first|exact ow_37.ne (by omega)|exact ow_37.new (by omega)|assumption) (e ▸ hb)))
      have ocw29_47:=ocw29_38.frame (by omega) (fun id hid hb=>q45 id (fun e=>(show blkOf (.slice pu13_2 nu13_2 cu13_2)≠some S29.next from by first|exact ocw29_38.ne (by omega)|exact ocw29_38.new (by omega)|assumption) (e ▸ hb)))
      have ocw29_48:=ocw29_39.frame (by omega) (fun id hid hb=>q45 id (fun e=>(show blkOf (.slice pu13_1 nu13_1 cu13_1)≠some S29.next from by first|exact ocw29_39.ne (by omega)|exact ocw29_39.new (by omega)|assumption) (e ▸ hb)))
      have ocw29_49:=ocw29_40.frame (by omega) (fun id hid hb=>q45 id (fun e=>(show blkOf (.slice pu13_0 nu13_0 cu13_0)≠some S29.next from by first|exact ocw29_40.ne (by omega)|exact ocw29_40.new (by omega)|assumption) (e ▸ hb)))
      have g45:Agree S S45:=⟨by have:=(g36).1; omega,fun id hid=>(q45 id (by have:=(g36).1; omega)).trans ((g36).2 id hid)⟩
      try simp (disch:=first|omega|assumption) only [E0_G,SY,setArgs,off,agreeKind,partVals,vals,allocV,boxed,ldA,rdCells,oneB,aggD,aField,aFieldV,aExtract,eq_self,ne_eq,if_true,if_false,not_false_eq_true,Nat.reduceAdd,Nat.reduceSub,Nat.reduceMul,Nat.reduceLT,Nat.reduceEqDiff,Nat.reduceBEq,reduceIte,Int.reduceEq,Int.reduceLT,Int.reduceLE,reduceCtorEq,TY_EvH34,g29_1,g29_11,g29_12,g29_13,g29_14,bb29_14,h4a,h7a,h11a,h28a,h30a,i32,j32,m32_0,i35,j35,m35_0,m35_1,m35_2,m35_3,m35_4,m35_5,v14_36,v32_36,v35_36,s36,e36,b36,v14_45,k45,b45] at he
      rw [code_draws _ _ _ (by kernel_rfl)] at he
      generalize hnd50:needy _=nd50 at he
      have nn50_15:nd50 15=false:=by rw [← hnd50]; kernel_rfl
      have qz51:((Int.toNat now:Nat):Int)=now:=Int.toNat_of_nonneg (by first|omega|simp; omega)
      have hx52:((r114 h fr ti).1.1)[(Int.toNat now)]?=some (lget ((r114 h fr ti).1.1) (Int.toNat now)):=lget_some (by first|omega|simp; omega)
      have eb53:=(r114_tm hV (fr:=fr) (ti:=ti) (by omega)).at hx52
      obtain ⟨id52,of52,cc52,ty52,wr52,ex52,i52,j52,l52,q52,lb52,bk52,oq52⟩:=ocw29_49.at4 (P:=Tryz.prog) (t:=54) Tryz.underlying54 tz3 hx52
      have m52_0:cc52[of52]?=some (.int .i64 (lget ((r114 h fr ti).1.1) (Int.toNat now))):=q52 0 (show 0<1 by decide)
      rw [qz51] at i52
      have w54:IntKind.i64.wrap ((lget ((r114 h fr ti).1.1) (Int.toNat now)) - ((lget ((r114 h fr ti).2) (Int.toNat (lget ((r114 h fr ti).1.2) (Int.toNat now)))).secs))=(lget ((r114 h fr ti).1.1) (Int.toNat now)) - ((lget ((r114 h fr ti).2) (Int.toNat (lget ((r114 h fr ti).1.2) (Int.toNat now)))).secs):=by rw [IntWalk.i64_in]; omega
      have y55:aBuild Tryz.prog 94 [(0,.int .i64 ((lget ((r114 h fr ti).2) (Int.toNat (lget ((r114 h fr ti).1.2) (Int.toNat now)))).way)),(1,.bool ((lget ((r114 h fr ti).2) (Int.toNat (lget ((r114 h fr ti).1.2) (Int.toNat now)))).back)),(2,.int .i64 ((lget ((r114 h fr ti).1.1) (Int.toNat now)) - ((lget ((r114 h fr ti).2) (Int.toNat (lget ((r114 h fr ti).1.2) (Int.toNat now)))).secs)))]=some (.agg #[.int .i64 ((lget ((r114 h fr ti).2) (Int.toNat (lget ((r114 h fr ti).1.2) (Int.toNat now)))).way),.bool ((lget ((r114 h fr ti).2) (Int.toNat (lget ((r114 h fr ti).1.2) (Int.toNat now)))).back),.int .i64 ((lget ((r114 h fr ti).1.1) (Int.toNat now)) - ((lget ((r114 h fr ti).2) (Int.toNat (lget ((r114 h fr ti).1.2) (Int.toNat now)))).secs))]):=by kernel_rfl
      have y56:aBuildSlice Tryz.prog 47 1 [(0,.agg #[.int .i64 ((lget ((r114 h fr ti).2) (Int.toNat (lget ((r114 h fr ti).1.2) (Int.toNat now)))).way),.bool ((lget ((r114 h fr ti).2) (Int.toNat (lget ((r114 h fr ti).1.2) (Int.toNat now)))).back),.int .i64 ((lget ((r114 h fr ti).1.1) (Int.toNat now)) - ((lget ((r114 h fr ti).2) (Int.toNat (lget ((r114 h fr ti).1.2) (Int.toNat now)))).secs))])] S45=some (.slice (some ⟨S45.next,0,none⟩) 1 1,S45.push (.cells [.int .i64 ((lget ((r114 h fr ti).2) (Int.toNat (lget ((r114 h fr ti).1.2) (Int.toNat now)))).way),.bool ((lget ((r114 h fr ti).2) (Int.toNat (lget ((r114 h fr ti).1.2) (Int.toNat now)))).back),.int .i64 ((lget ((r114 h fr ti).1.1) (Int.toNat now)) - ((lget ((r114 h fr ti).2) (Int.toNat (lget ((r114 h fr ti).1.2) (Int.toNat now)))).secs))] 94 3 true true)):=by kernel_rfl
      obtain ⟨S57,e57,n57,b57,a57⟩:=push_open S45 (.cells [.int .i64 ((lget ((r114 h fr ti).2) (Int.toNat (lget ((r114 h fr ti).1.2) (Int.toNat now)))).way),.bool ((lget ((r114 h fr ti).2) (Int.toNat (lget ((r114 h fr ti).1.2) (Int.toNat now)))).back),.int .i64 ((lget ((r114 h fr ti).1.1) (Int.toNat now)) - ((lget ((r114 h fr ti).2) (Int.toNat (lget ((r114 h fr ti).1.2) (Int.toNat now)))).secs))] 94 3 true true)
      have v14_57:=(a57.2 S13.next (by omega)).trans v14_45
      have v36_57:=(a57.2 S29.next (by omega)).trans b45
      have v52_57:=(a57.2 id52 (by omega)).trans j52
      have ow_58:=ow_46.agree a57
      have ocw29_59:=ocw29_47.agree a57
      have ocw29_60:=ocw29_48.agree a57
      have ocw29_61:=ocw29_49.agree a57
      have g57:Agree S S57:=g45.trans a57
      have s57:E0.same S45 S57=true:=symEnv_same a57
      have ne62:blkOf (v_steps)≠some S45.next:=ow_46.new (Nat.le_refl _)
      have ne63:blkOf (.slice pu13_2 nu13_2 cu13_2)≠some S45.next:=ocw29_47.new (Nat.le_refl _)
      have ne64:blkOf (.slice pu13_1 nu13_1 cu13_1)≠some S45.next:=ocw29_48.new (Nat.le_refl _)
      have ne65:blkOf (.slice pu13_0 nu13_0 cu13_0)≠some S45.next:=ocw29_49.new (Nat.le_refl _)
      have o66:Own 94 S45.next S57 (.slice (some ⟨S45.next,0,none⟩) 1 1) ([(⟨(lget ((r114 h fr ti).2) (Int.toNat (lget ((r114 h fr ti).1.2) (Int.toNat now)))).way,(lget ((r114 h fr ti).2) (Int.toNat (lget ((r114 h fr ti).1.2) (Int.toNat now)))).back,(lget ((r114 h fr ti).1.1) (Int.toNat now)) - ((lget ((r114 h fr ti).2) (Int.toNat (lget ((r114 h fr ti).1.2) (Int.toNat now)))).secs)⟩:Stp)]:List Stp):=.inr ⟨_,true,rfl,Nat.le_refl _,by omega,b57⟩
      have ap67:∀ b,blkOf (v_steps)=some b→blkOf (.slice (some ⟨S45.next,0,none⟩) 1 1)≠some b:=fun b hb=>o66.ne (Nat.lt_of_lt_of_le (ow_46.lt hb) (by omega))
      have ap68:∀ b,blkOf (.slice pu13_2 nu13_2 cu13_2)=some b→blkOf (.slice (some ⟨S45.next,0,none⟩) 1 1)≠some b:=fun b hb=>o66.ne (Nat.lt_of_lt_of_le (ocw29_47.lt hb) (by omega))
      have ap69:∀ b,blkOf (.slice pu13_1 nu13_1 cu13_1)=some b→blkOf (.slice (some ⟨S45.next,0,none⟩) 1 1)≠some b:=fun b hb=>o66.ne (Nat.lt_of_lt_of_le (ocw29_48.lt hb) (by omega))
      have ap70:∀ b,blkOf (.slice pu13_0 nu13_0 cu13_0)=some b→blkOf (.slice (some ⟨S45.next,0,none⟩) 1 1)≠some b:=fun b hb=>o66.ne (Nat.lt_of_lt_of_le (ocw29_49.lt hb) (by omega))
      obtain ⟨u71,S71,k71,o71,n71,f71,d71⟩:=own_append (P:=Tryz.prog) (t:=47) (tx:=47) (n:=2) (v:=v_steps) ow_58 (o66.rows) (by omega) (by first|omega|(simp; omega)|simp) (by first|omega|(simp; omega)|simp) Tryz.underlying47 Tryz.underlying47 ti94 tv94 rfl tz94
      have v14_71:=(f71 S13.next (by omega) (by first|(simp [blkOf]; done)|exact ow_58.ne (by omega)|exact ow_58.new (by omega)|assumption)).trans v14_57
      have v36_71:=(f71 S29.next (by omega) (by first|(simp [blkOf]; done)|exact ow_58.ne (by omega)|exact ow_58.new (by omega)|assumption)).trans v36_57
      have apocw29_72:∀ b,blkOf (.slice pu13_2 nu13_2 cu13_2)=some b→blkOf u71≠some b:=fun b hb=>d71 b (ocw29_59.lt hb) ((fun b h1 h2=>pr29_0 b h2 h1) b hb)
      have ocw29_72:=ocw29_59.frame n71 (fun id hid hb=>f71 id hid ((fun b h1 h2=>pr29_0 b h2 h1) id hb))
      have apocw29_73:∀ b,blkOf (.slice pu13_1 nu13_1 cu13_1)=some b→blkOf u71≠some b:=fun b hb=>d71 b (ocw29_60.lt hb) ((fun b h1 h2=>pr29_2 b h2 h1) b hb)
      have ocw29_73:=ocw29_60.frame n71 (fun id hid hb=>f71 id hid ((fun b h1 h2=>pr29_2 b h2 h1) id hb))
      have apocw29_74:∀ b,blkOf (.slice pu13_0 nu13_0 cu13_0)=some b→blkOf u71≠some b:=fun b hb=>d71 b (ocw29_61.lt hb) ((fun b h1 h2=>pr29_1 b h2 h1) b hb)
      have ocw29_74:=ocw29_61.frame n71 (fun id hid hb=>f71 id hid ((fun b h1 h2=>pr29_1 b h2 h1) id hb))
      have apo66_75:∀ b,blkOf (.slice (some ⟨S45.next,0,none⟩) 1 1)=some b→blkOf u71≠some b:=fun b hb=>d71 b (o66.lt hb) ((fun b h1 h2=>ap67 b h2 h1) b hb)
      have o66_75:=o66.frame n71 (fun id hid hb=>f71 id hid ((fun b h1 h2=>ap67 b h2 h1) id hb))
      have g71:Agree S S71:=⟨Nat.le_trans (g57).1 n71,fun id hid=>(f71 id (by have:=(g57).1; omega) (by first|(simp [blkOf]; done)|exact ow_58.ne (by omega)|assumption)).trans ((g57).2 id hid)⟩
      have ne76:blkOf u71≠some S13.next:=by first|exact o71.ne (by omega)|exact o71.new (by omega)|exact d71 _ (by omega) (by first|(simp [blkOf]; done)|exact ow_58.ne (by omega)|exact ow_58.new (by omega)|assumption)
      have ne77:blkOf u71≠some S29.next:=by first|exact o71.ne (by omega)|exact o71.new (by omega)|exact d71 _ (by omega) (by first|(simp [blkOf]; done)|exact ow_58.ne (by omega)|exact ow_58.new (by omega)|assumption)
      try simp (disch:=first|omega|assumption) only [E0_G,SY,setArgs,off,agreeKind,partVals,vals,allocV,boxed,ldA,rdCells,oneB,aggD,aField,aFieldV,aExtract,eq_self,ne_eq,if_true,if_false,not_false_eq_true,Nat.reduceAdd,Nat.reduceSub,Nat.reduceMul,Nat.reduceLT,Nat.reduceEqDiff,Nat.reduceBEq,reduceIte,Int.reduceEq,Int.reduceLT,Int.reduceLE,reduceCtorEq,TY_EvH34,g29_1,g29_11,g29_12,g29_13,g29_14,bb29_14,h4a,h7a,h11a,h28a,h30a,i32,j32,m32_0,i35,j35,m35_0,m35_1,m35_2,m35_3,m35_4,m35_5,v14_36,v32_36,v35_36,s36,e36,b36,v14_45,k45,b45,nn50_15,store_agree,store_refl E0_same,i52,j52,m52_0,w54,y55,y56,v14_57,v36_57,v52_57,s57,e57,b57,v14_71,v36_71,k71] at he
      obtain ⟨m',rfl⟩:∃ m',m=m'+1:=⟨m - 1,by omega⟩
      have hf:=(show _=(R48_0 h fr ti to_ m' (steps++([(⟨(lget ((r114 h fr ti).2) (Int.toNat (lget ((r114 h fr ti).1.2) (Int.toNat now)))).way,(lget ((r114 h fr ti).2) (Int.toNat (lget ((r114 h fr ti).1.2) (Int.toNat now)))).back,(lget ((r114 h fr ti).1.1) (Int.toNat now)) - ((lget ((r114 h fr ti).2) (Int.toNat (lget ((r114 h fr ti).1.2) (Int.toNat now)))).secs)⟩:Stp)])) ((lget ((r114 h fr ti).2) (Int.toNat (lget ((r114 h fr ti).1.2) (Int.toNat now)))).fr):(List Stp)) from (if_neg h30).trans (rfl)).symm.trans hd29
      refine .next he m' (by omega) ⟨u71,steps++([(⟨(lget ((r114 h fr ti).2) (Int.toNat (lget ((r114 h fr ti).1.2) (Int.toNat now)))).way,(lget ((r114 h fr ti).2) (Int.toNat (lget ((r114 h fr ti).1.2) (Int.toNat now)))).back,(lget ((r114 h fr ti).1.1) (Int.toNat now)) - ((lget ((r114 h fr ti).2) (Int.toNat (lget ((r114 h fr ti).1.2) (Int.toNat now)))).secs)⟩:Stp)]),(lget ((r114 h fr ti).2) (Int.toNat (lget ((r114 h fr ti).1.2) (Int.toNat now)))).fr,?_,?_,?_,?_,?_,?_,?_,?_,?_,?_,?_,v14_71,g71,by omega,(o71.low (by omega)),ocw29_72,ocw29_74,ocw29_73,(fun b h1 h2=>apocw29_72 b h2 h1),(fun b h1 h2=>apocw29_74 b h2 h1),(fun b h1 h2=>apocw29_73 b h2 h1),hf⟩<;>first|(simp only [SY,setArgs,off,agreeKind,partVals,vals,allocV,boxed,ldA,rdCells,oneB,aggD,aField,aFieldV,aExtract,eq_self,ne_eq,if_true,if_false,not_false_eq_true,Nat.reduceAdd,Nat.reduceSub,Nat.reduceMul,Nat.reduceLT,Nat.reduceEqDiff,Nat.reduceBEq,reduceIte,Int.reduceEq,Int.reduceLT,Int.reduceLE,reduceCtorEq,g29_1,g29_11,g29_12,g29_13,g29_14]<;>rfl)|omega|assumption|(simp; omega)|simp)
    obtain ⟨rfl,v_steps,steps,now,ge29_13,be29_14,ge29,gm29,oe_steps29,ce29_0,ce29_1,ce29_2,pe29_0,pe29_1,pe29_2,hj29_0,hj29_1,hj29_2,hj29_3,hR29⟩:=hQ29
    obtain rfl:steps=R48_0 h fr ti to_ (h.rooms.length+1) ([]) to_:=hR29.symm
    obtain ⟨S79,k79,kp79,o79⟩:=c115 (R48_0 h fr ti to_ (h.rooms.length+1) ([]) to_) (by omega) _ S29e (v_steps) oe_steps29
    have n79:=kp79.1
    have g79:Agree S S79:=⟨by have:=(ge29).1; omega,fun id hid=>(kp79.2 id (by have:=(ge29).1; omega) (show blkOf (v_steps)≠some id from oe_steps29.ne (by omega))).trans ((ge29).2 id hid)⟩
    try simp (disch:=first|omega|assumption) only [E0_G,SY,setArgs,off,agreeKind,partVals,vals,allocV,boxed,ldA,rdCells,oneB,aggD,aField,aFieldV,aExtract,eq_self,ne_eq,if_true,if_false,not_false_eq_true,Nat.reduceAdd,Nat.reduceSub,Nat.reduceMul,Nat.reduceLT,Nat.reduceEqDiff,Nat.reduceBEq,reduceIte,Int.reduceEq,Int.reduceLT,Int.reduceLE,reduceCtorEq,TY_EvH34,h4a,h7a,h11a,h28a,ge29_13,be29_14,k79] at hz
    have hr:r48 h fr ti to_=((R48_0 h fr ti to_ (h.rooms.length+1) ([]) to_).reverse,0):=(if_pos h4).trans ((if_pos h7).trans ((if_pos h11).trans ((if_neg h28).trans (rfl))))
    exact ⟨v_steps,S79,by first|(rw [hr]; exact hz.symm)|exact hz.symm,g79,by rw [hr]; exact o79.low (by omega)⟩
   try simp (disch:=first|omega|assumption) only [E0_G,SY,setArgs,off,agreeKind,partVals,vals,allocV,boxed,ldA,rdCells,oneB,aggD,aField,aFieldV,aExtract,eq_self,ne_eq,if_true,if_false,not_false_eq_true,Nat.reduceAdd,Nat.reduceSub,Nat.reduceMul,Nat.reduceLT,Nat.reduceEqDiff,Nat.reduceBEq,reduceIte,Int.reduceEq,Int.reduceLT,Int.reduceLE,reduceCtorEq,TY_EvH34,s1,e1,b1,store_agree,store_refl E0_same,k3,s3,v1_3,h4a,k6,s6,v1_6,h7a,k9,s9,v1_9,k10,s10,v1_10,h11a] at hz
   have hr:r48 h fr ti to_=([],(r84 h (r102 h to_))):=(if_pos h4).trans ((if_pos h7).trans ((if_neg h11).trans (rfl)))
   exact ⟨.slice none 0 0,S10,by first|(rw [hr]; exact hz.symm)|exact hz.symm,g10,by rw [hr]; exact Own.nil _ _ _⟩
  obtain ⟨S80,k80,a80⟩:=c84 h false hF hs S6 (v_h_rooms) (hv_h_rooms.agree g6) (v_h_doors) (hv_h_doors.agree g6) (v_h_ways) (hv_h_ways.agree g6)
  have l80:=a80.1
  have s80:E0.same S6 S80=true:=symEnv_same a80
  have v1_80:=(a80.2 S.next (by omega)).trans v1_6
  have g80:Agree S S80:=g6.trans a80
  try simp (disch:=first|omega|assumption) only [E0_G,SY,setArgs,off,agreeKind,partVals,vals,allocV,boxed,ldA,rdCells,oneB,aggD,aField,aFieldV,aExtract,eq_self,ne_eq,if_true,if_false,not_false_eq_true,Nat.reduceAdd,Nat.reduceSub,Nat.reduceMul,Nat.reduceLT,Nat.reduceEqDiff,Nat.reduceBEq,reduceIte,Int.reduceEq,Int.reduceLT,Int.reduceLE,reduceCtorEq,TY_EvH34,s1,e1,b1,store_agree,store_refl E0_same,k3,s3,v1_3,h4a,k6,s6,v1_6,h7a,k80,s80,v1_80] at hz
  have h81:¬ ((r84 h false)=0):=r84_false
  have h81a:=decide_eq_false h81
  try simp (disch:=first|omega|assumption) only [E0_G,SY,setArgs,off,agreeKind,partVals,vals,allocV,boxed,ldA,rdCells,oneB,aggD,aField,aFieldV,aExtract,eq_self,ne_eq,if_true,if_false,not_false_eq_true,Nat.reduceAdd,Nat.reduceSub,Nat.reduceMul,Nat.reduceLT,Nat.reduceEqDiff,Nat.reduceBEq,reduceIte,Int.reduceEq,Int.reduceLT,Int.reduceLE,reduceCtorEq,TY_EvH34,s1,e1,b1,store_agree,store_refl E0_same,k3,s3,v1_3,h4a,k6,s6,v1_6,h7a,k80,s80,v1_80,h81a] at hz
  have hr:r48 h fr ti to_=([],(r84 h false)):=(if_pos h4).trans ((if_neg h7).trans (rfl))
  exact ⟨.slice none 0 0,S80,by first|(rw [hr]; exact hz.symm)|exact hz.symm,g80,by rw [hr]; exact Own.nil _ _ _⟩
 obtain ⟨S82,k82,a82⟩:=c84 h false hF hs S3 (v_h_rooms) (hv_h_rooms.agree g3) (v_h_doors) (hv_h_doors.agree g3) (v_h_ways) (hv_h_ways.agree g3)
 have l82:=a82.1
 have s82:E0.same S3 S82=true:=symEnv_same a82
 have v1_82:=(a82.2 S.next (by omega)).trans v1_3
 have g82:Agree S S82:=g3.trans a82
 try simp (disch:=first|omega|assumption) only [E0_G,SY,setArgs,off,agreeKind,partVals,vals,allocV,boxed,ldA,rdCells,oneB,aggD,aField,aFieldV,aExtract,eq_self,ne_eq,if_true,if_false,not_false_eq_true,Nat.reduceAdd,Nat.reduceSub,Nat.reduceMul,Nat.reduceLT,Nat.reduceEqDiff,Nat.reduceBEq,reduceIte,Int.reduceEq,Int.reduceLT,Int.reduceLE,reduceCtorEq,TY_EvH34,s1,e1,b1,store_agree,store_refl E0_same,k3,s3,v1_3,h4a,k82,s82,v1_82] at hz
 have h83:¬ ((r84 h false)=0):=r84_false
 have h83a:=decide_eq_false h83
 try simp (disch:=first|omega|assumption) only [E0_G,SY,setArgs,off,agreeKind,partVals,vals,allocV,boxed,ldA,rdCells,oneB,aggD,aField,aFieldV,aExtract,eq_self,ne_eq,if_true,if_false,not_false_eq_true,Nat.reduceAdd,Nat.reduceSub,Nat.reduceMul,Nat.reduceLT,Nat.reduceEqDiff,Nat.reduceBEq,reduceIte,Int.reduceEq,Int.reduceLT,Int.reduceLE,reduceCtorEq,TY_EvH34,s1,e1,b1,store_agree,store_refl E0_same,k3,s3,v1_3,h4a,k82,s82,v1_82,h83a] at hz
 have hr:r48 h fr ti to_=([],(r84 h false)):=(if_neg h4).trans (rfl)
 exact ⟨.slice none 0 0,S82,by first|(rw [hr]; exact hz.symm)|exact hz.symm,g82,by rw [hr]; exact Own.nil _ _ _⟩
end House
end Go.Proofs
end
section
set_option linter.unusedSimpArgs false
set_option linter.unusedVariables false
namespace Go.Proofs
namespace House
open Go Go.RowKit Go.Aev
set_option maxRecDepth 100000
theorem rep94 {S:AS} {v:Value} {l:List Stp} (h:Lst S v l):LstR S v l:=by
 rcases h with ⟨rfl,h⟩|⟨id,off,c,ty,cap,wr,ex,h1,h2,h3,h4,h5⟩
 ·exact .inl ⟨rfl,h⟩
 ·exact .inr ⟨id,off,c,ty,cap,wr,ex,h1,h2,h3,h4,fun i x hx=>⟨[.int .i64 x.way,.bool x.back,.int .i64 x.at_],rfl,fun j hj=>h5 i x hx j hj⟩⟩
theorem R48_len (h:Hs) (fr ti to_:Int):∀ (m:Nat) (steps:List Stp) (now:Int),(R48_0 h fr ti to_ m steps now).length≤steps.length+m:=by
 intro m
 induction m with
 | zero=>intro steps now; rw [R48_0]; omega
 | succ m ih =>
  intro steps now
  rw [R48_0]
  split
  ·omega
  ·refine Nat.le_trans (ih _ _) ?_
   rw [List.length_append,List.length_singleton]; omega
theorem r48_len (h:Hs) (fr ti to_:Int):(r48 h fr ti to_).1.length≤h.rooms.length+1:=by
 unfold r48
 split
 ·split
  ·split
   ·split
    ·simp
    ·have:=R48_len h fr ti to_ (h.rooms.length+1) [] to_
     simpa using this
   ·simp
  ·simp
 ·simp
end House
end Go.Proofs
end
section
set_option linter.unusedSimpArgs false
set_option linter.unusedVariables false
namespace Go.Proofs
namespace House
open Go Go.RowKit Go.Aev
set_option maxRecDepth 100000
theorem psg_way {h:Hs} {p:Pg} (hp:p ∈ psg h):(0≤p.way∧p.way<(h.ways.length:Int))∧r144 h p.way p.back=((p.way,p.back,p.fr,p.to,p.secs,p.door),true):=by
 obtain ⟨w,b,h1,h2,h3,rfl⟩:=R148_mem h h.ways 0 (by simp) p hp
 have e1:(r144 h w b).1.1=w:=by unfold r144; split<;>rfl
 have e2:(r144 h w b).1.2.1=b:=by
  unfold r144
  cases b<;>simp
 have e:r144 h w b=(((r144 h w b).1.1,(r144 h w b).1.2.1,(r144 h w b).1.2.2.1,(r144 h w b).1.2.2.2.1,(r144 h w b).1.2.2.2.2.1,(r144 h w b).1.2.2.2.2.2),(r144 h w b).2):=rfl
 refine ⟨?_,?_⟩
 ·show 0≤(r144 h w b).1.1∧(r144 h w b).1.1<_
  rw [e1]; exact ⟨h1,h2⟩
 ·show r144 h (r144 h w b).1.1 (r144 h w b).1.2.1=(((r144 h w b).1.1,(r144 h w b).1.2.1,(r144 h w b).1.2.2.1,(r144 h w b).1.2.2.2.1,(r144 h w b).1.2.2.2.2.1,(r144 h w b).1.2.2.2.2.2),true)
  rw [← h3,e1,e2]
  rw [e1,e2] at e
  exact e
theorem step_ok {h:Hs} (hV:r59 h=0) {p:Pg} (hp:p ∈ psg h) {t:Int} (ht:0≤t∧t≤1073741823) (hi:r145 p t h≤1073741823) :
  r103 h p.fr t ⟨p.way,p.back,r145 p t h - p.secs⟩=(p.to,r145 p t h,0):=by
 have hw:=psg_way hp
 have ok:=(psg_ok hV hp).ok
 have hs:=ok.s
 have key:t≤r145 p t h - p.secs∧(0≤p.door→r89 (lget h.doors (Int.toNat p.door)) (r145 p t h - p.secs)=r145 p t h - p.secs):=by
  unfold r145 at hi ⊢
  split
  ·rename_i hd
   rw [if_pos hd] at hi
   have hO:=oko hV (List.mem_of_getElem? (lget_some (l:=h.doors) (i:=Int.toNat p.door) (by have:=ok.d; omega)))
   have hn:=r89_nx hO ht.1
   have e:min (r89 (lget h.doors (Int.toNat p.door)) t+p.secs) 1073741824 - p.secs=r89 (lget h.doors (Int.toNat p.door)) t:=by omega
   rw [e]
   have g:=r89_ge hO ht
   refine ⟨g.1,fun _=>?_⟩
   refine Nx.unique (r89_nx hO (by omega)) ?_
   rcases hn with ⟨n1,n2⟩|⟨n1,n2,n3,n4⟩
   ·omega
   ·exact .inr ⟨Int.le_refl _,n2,n3,fun n q1 q2=>by omega⟩
  ·rename_i hd
   rw [if_neg hd] at hi
   exact ⟨by omega,fun h=>absurd h hd⟩
 unfold r103
 simp only [hw.2]
 rw [if_pos (r143_iff.2 hw.1),if_pos (r88_iff.2 (by omega))]
 rw [if_pos trivial,if_pos trivial,if_neg (by omega)]
 have e:r145 p t h - p.secs+p.secs=r145 p t h:=by omega
 rw [e]
 by_cases hd:0≤p.door
 ·rw [if_pos hd,if_pos (key.2 hd),if_pos (r88_iff.2 (by omega))]
 ·rw [if_neg hd,if_pos (r88_iff.2 (by omega))]
theorem R39_app (h:Hs) (f t:Int) (L:List Stp):∀ (a b:List Stp) (fr tv fr' tv':Int),R39_0 h f t L a fr tv=.inr (fr',tv')→R39_0 h f t L (a++b) fr tv=R39_0 h f t L b fr' tv':=by
 intro a
 induction a with
 | nil=>intro b fr tv fr' tv' e; rw [R39_0] at e; cases e; rfl
 | cons x a ih =>
  intro b fr tv fr' tv' e
  rw [R39_0] at e
  rw [List.cons_append,R39_0]
  split
  ·rename_i c; rw [if_pos c] at e; exact ih b _ _ _ _ e
  ·rename_i c; rw [if_neg c] at e; cases e
theorem route_walks {h:Hs} {fr ti:Int} {rk:Nat→Nat} (hV:r59 h=0) (hR:Trees h.rooms.length fr ti (psg h) (fun p t=>r145 p t h) (r114 h fr ti).1.1 (r114 h fr ti).1.2 rk) (hf:0≤fr) (ht:0≤ti) (to_:Int) (L:List Stp) :
  ∀ (m:Nat) (steps:List Stp) (now:Int),rk now.toNat<m→0≤now∧now<(h.rooms.length:Int)→lget (r114 h fr ti).1.1 now.toNat≤1073741823 →
   ∃ pre,R48_0 h fr ti to_ m steps now=steps++pre∧R39_0 h fr ti L pre.reverse fr ti=.inr (now,lget (r114 h fr ti).1.1 now.toNat):=by
 intro m
 induction m with
 | zero=>intro steps now h0; omega
 | succ m ih =>
  intro steps now h0 h1 h2
  rw [R48_0]
  by_cases e:now=fr
  ·rw [if_pos e]
   exact ⟨[],by simp,by rw [e,hR.st]; rfl⟩
  ·rw [if_neg e]
   obtain ⟨hb,hq,hm,hf2,hs,hto,ha,hi,hk,hl⟩:=hop hV hR hf ht h1 e h2
   generalize lget (r114 h fr ti).2 (lget (r114 h fr ti).1.2 now.toNat).toNat=p at *
   obtain ⟨pre,e1,e2⟩:=ih (steps++[⟨p.way,p.back,lget (r114 h fr ti).1.1 now.toNat - p.secs⟩]) p.fr (by omega) hf2 hi.2
   refine ⟨⟨p.way,p.back,lget (r114 h fr ti).1.1 now.toNat - p.secs⟩ :: pre,by rw [e1]; simp,?_⟩
   rw [List.reverse_cons,R39_app h fr ti L _ _ _ _ _ _ e2,R39_0,R39_0]
   have hi2:r145 p (lget (r114 h fr ti).1.1 p.fr.toNat) h≤1073741823:=by rw [← ha]; exact h2
   have st:=step_ok hV hm hi hi2
   rw [ha,st,hto]
   rfl
theorem r104_cs (h:Hs) (f t:Int):r104 h f t=if r59 h=0 then (if r102 h f=true∧r88 t=true then 0 else 1) else r59 h:=by
 unfold r104
 by_cases h0:r59 h=0
 case neg=>rw [if_neg h0,if_neg h0]
 rw [if_pos h0,if_pos h0]
 by_cases h1:r102 h f=true
 case neg=>rw [if_neg (fun e=>h1 (r102_iff.2 (by have:=r71_iff.1 (show r71 f 0 ((h.rooms.length:Int) - 1)=true from e); omega))),if_neg (fun e=>h1 e.1)]
 have h1':=r102_iff.1 h1
 have h2:r122 h f=true:=r71_iff.2 (by omega)
 rw [if_pos h2]
 by_cases h3:r88 t=true
 ·rw [if_pos (r69_iff.2 (r88_iff.1 h3)),if_pos ⟨h1,h3⟩,h0]
 ·rw [if_neg (fun e=>h3 (r88_iff.2 (r69_iff.1 e))),if_neg (fun e=>h3 e.2)]
end House
end Go.Proofs
end
