import Derived.Test.YtohfdkdjfoonjaaGreatDoorBW
import Derived.Test.YtohfdkdjfoonjaaGreatDoorBX
section
set_option linter.unusedSimpArgs false
set_option linter.unusedVariables false
namespace Go.Proofs
namespace House
open Go Go.RowKit Go.Aev
set_option maxRecDepth 100000
theorem cnt_two (l:List Bool):l.count true+l.count false=l.length:=by
 induction l with
 | nil=>rfl
 | cons b l ih=>cases b<;>simp [List.count_cons]<;>omega
def Bys (rooms:Nat) (l:List Pg) (g:Pg→Int→Int) (times by_:List Int) (here:Int) (a b:List Int):Prop :=
 ∀ i,i<rooms→(lget a i=lget times i∧lget b i=lget by_ i)∨(lget times here.toNat<lget times i∧∃ (k:Nat) (p:Pg),l[k]?=some p∧p.to.toNat=i∧p.fr=here∧lget b i=(k:Int)∧lget a i=g p (lget times here.toNat))
theorem R109_2_by {rooms:Nat} {fr ti:Int} {l:List Pg} {g:Pg→Int→Int} (hg:Crs rooms l g) (times by_:List Int) (left:List Bool) (here:Int) (he:R109_1 rooms fr ti l g times by_ left times 0 (-1)=here) (hT:Tm rooms times) (h0:0≤here∧here<(rooms:Int)) (hc:lget times here.toNat≤1073741823) :
  ∀ (m:List Pg) (t2 b2:List Int) (j:Nat),l.drop j=m→t2.length=rooms→b2.length=rooms→(∀ i,lget times i≤lget times here.toNat→lget t2 i=lget times i)→(∀ i,lget t2 i≤lget times i)→Bys rooms l g times by_ here t2 b2 →
   Bys rooms l g times by_ here (R109_2 rooms fr ti l g times by_ left m t2 b2 j).1 (R109_2 rooms fr ti l g times by_ left m t2 b2 j).2:=by
 intro m
 induction m with
 | nil=>intro t2 b2 j _ _ _ _ _ h; exact h
 | cons x m ih =>
  intro t2 b2 j hd h1 h2 h3 h5 h4
  obtain ⟨hx,hd'⟩:=drop_unc hd
  have hr:=hg.rms x (List.mem_of_getElem? hx)
  have c0:0≤lget times here.toNat:=(hT.at (lget_some (by have:=hT.len; omega))).1
  have hh:lget t2 here.toNat=lget times here.toNat:=h3 _ (Int.le_refl _)
  have inf:=hg.inf x (List.mem_of_getElem? hx) _ ⟨c0,hc⟩
  rw [R109_2,he]
  split
  ·rename_i e
   rw [hh]
   split
   ·rename_i c
    have h6:=h5 x.to.toNat
    have ne:¬ lget times x.to.toNat≤lget times here.toNat:=fun q=>by have:=h3 _ q; omega
    refine ih _ _ _ hd' (by rw [List.length_set]; exact h1) (by rw [List.length_set]; exact h2) (fun i hi=>?_) (fun i=>?_) (fun i hi=>?_)
    ·by_cases ei:x.to.toNat=i
     ·subst ei; exact absurd hi ne
     ·rw [lget_set_ne ei]; exact h3 i hi
    ·by_cases ei:x.to.toNat=i
     ·subst ei; rw [lget_set_self (by omega)]; omega
     ·rw [lget_set_ne ei]; exact h5 i
    ·by_cases ei:x.to.toNat=i
     ·subst ei
      rw [lget_set_self (by omega),lget_set_self (by omega)]
      exact .inr ⟨by omega,j,x,hx,rfl,e,rfl,rfl⟩
     ·rw [lget_set_ne ei,lget_set_ne ei]; exact h4 i hi
   ·exact ih _ _ _ hd' h1 h2 h3 h5 h4
  ·exact ih _ _ _ hd' h1 h2 h3 h5 h4
structure Tree (rooms:Nat) (fr ti:Int) (l:List Pg) (g:Pg→Int→Int) (times by_:List Int) (left:List Bool) (rk:Nat→Nat):Prop where
 st:lget times fr.toNat=ti
 lo:∀ i,i<rooms→ti≤lget times i
 rl:∀ i,i<rooms→lget left i=true→rk i<left.count true
 ed:∀ i,i<rooms→i≠fr.toNat→lget times i≤1073741823→∃ (k:Nat) (p:Pg),lget by_ i=(k:Int)∧l[k]?=some p∧p.to.toNat=i∧lget left p.fr.toNat=true∧lget times i=g p (lget times p.fr.toNat)∧lget times p.fr.toNat≤1073741823∧(lget left i=true→rk p.fr.toNat<rk i)
structure Trees (rooms:Nat) (fr ti:Int) (l:List Pg) (g:Pg→Int→Int) (times by_:List Int) (rk:Nat→Nat):Prop where
 st:lget times fr.toNat=ti
 lo:∀ i,i<rooms→ti≤lget times i
 rl:∀ i,i<rooms→lget times i≤1073741823→rk i<rooms
 ed:∀ i,i<rooms→i≠fr.toNat→lget times i≤1073741823→∃ (k:Nat) (p:Pg),lget by_ i=(k:Int)∧l[k]?=some p∧p.to.toNat=i∧lget times i=g p (lget times p.fr.toNat)∧lget times p.fr.toNat≤1073741823∧rk p.fr.toNat<rk i
theorem R109_0_tree {rooms:Nat} {fr ti:Int} {l:List Pg} {g:Pg→Int→Int} (hg:Crs rooms l g) (hf:0≤fr∧fr<(rooms:Int)):∀ (m:Nat) (times by_:List Int) (left:List Bool) (rk:Nat→Nat),by_.length=rooms→left.count false<m→Inv rooms l g times left→Tree rooms fr ti l g times by_ left rk →
  ∃ rk',Trees rooms fr ti l g (R109_0 rooms fr ti l g m times by_ left).1 (R109_0 rooms fr ti l g m times by_ left).2 rk':=by
 intro m
 induction m with
 | zero=>intro times by_ left rk _ h; omega
 | succ m ih =>
  intro times by_ left rk hb hm hI hR
  have hH:=R109_1_hr rooms fr ti l g times by_ left times 0 (-1) rfl (Hr.init _ _)
  have hM:=R109_1_min rooms fr ti l g times by_ left times 0 (-1) rfl (fun j hj=>by omega)
  have hlen:=hI.tm.len
  rw [R109_0]
  generalize he:R109_1 rooms fr ti l g times by_ left times 0 (-1)=here at *
  by_cases hn:here<0
  ·rw [if_pos hn]
   have fin:∀ i,i<rooms→lget times i≤1073741823→lget left i=true:=by
    intro i hi hl
    cases hb2:lget left i with
    | true=>rfl
    | false =>
     rcases hM i (by omega) hb2 with h|h
     ·omega
     ·omega
   refine ⟨rk,hR.st,hR.lo,fun i hi hl=>?_,fun i hi hne hl=>?_⟩
   ·have:=hR.rl i hi (fin i hi hl); have:=cnt_two left; have:=hI.len; omega
   ·obtain ⟨k,p,e1,e2,e3,e4,e5,e6,e7⟩:=hR.ed i hi hne hl
    exact ⟨k,p,e1,e2,e3,e5,e6,e7 (fin i hi hl)⟩
  ·rw [if_neg hn]
   have q:=hH.get hn
   have hT:=R109_2_tm rooms fr ti l g hg.rng times by_ left here he ⟨q.1,by omega⟩ l times by_ 0 (fun p hp=>hp) hI.tm hb q.2.2.1
   have r:=R109_2_rel (fr:=fr) (ti:=ti) hg times by_ left here he hI.tm ⟨q.1,by omega⟩ q.2.2.1 l times by_ 0 (fun p hp=>hp) hlen (fun i=>Int.le_refl _) (fun i=>.inr rfl) (fun i _=>rfl)
   have B:=R109_2_by (fr:=fr) (ti:=ti) hg times by_ left here he hI.tm ⟨q.1,by omega⟩ q.2.2.1 l times by_ 0 rfl hlen hb (fun i _=>rfl) (fun i=>Int.le_refl _) (fun i _=>.inl ⟨rfl,rfl⟩)
   have hll:=hI.len
   have hc:=cnt_set left here.toNat (by omega) q.2.2.2
   have ct:(left.set here.toNat true).count true=left.count true+1:=by
    have:=cnt_two left; have a2:=cnt_two (left.set here.toNat true); rw [List.length_set] at a2; omega
   have hself:lget (left.set here.toNat true) here.toNat=true:=lget_set_self (by omega)
   have hI':Inv rooms l g (R109_2 rooms fr ti l g times by_ left l times by_ 0).1 (left.set here.toNat true):=by
    refine ⟨hT.1,by rw [List.length_set]; exact hI.len,?_,?_⟩
    ·intro i j hi hj h1 h2
     have ej:here.toNat≠j:=by
      rintro rfl
      rw [hself] at h2; cases h2
     rw [lget_set_ne ej] at h2
     have hj2:lget times here.toNat≤lget times j:=by
      rcases hM j (by omega) h2 with h|h
      ·omega
      ·exact h.2
     have hj3:lget times here.toNat≤lget (R109_2 rooms fr ti l g times by_ left l times by_ 0).1 j:=by
      rcases r.2.1 j with h|h
      ·exact h
      ·rw [h]; exact hj2
     by_cases ei:here.toNat=i
     ·rw [← ei,r.2.2.1 here.toNat (Int.le_refl _)]; exact hj3
     ·rw [lget_set_ne ei] at h1
      have h3:=hI.ord i here.toNat hi (by omega) h1 q.2.2.2
      rw [r.2.2.1 i h3]; omega
    ·intro p hp h1
     have hr:=hg.rms p hp
     by_cases ei:here.toNat=p.fr.toNat
     ·rw [← ei,r.2.2.1 here.toNat (Int.le_refl _)]
      exact r.2.2.2 p hp (by omega)
     ·rw [lget_set_ne ei] at h1
      have h3:=hI.ord p.fr.toNat here.toNat (by omega) (by omega) h1 q.2.2.2
      rw [r.2.2.1 _ h3]
      have:=r.1 p.to.toNat
      have:=hI.cl p hp h1
      omega
   have sameT:∀ i,lget times i≤lget times here.toNat→lget (R109_2 rooms fr ti l g times by_ left l times by_ 0).1 i=lget times i:=r.2.2.1
   have hlo:∀ i,i<rooms→ti≤lget (R109_2 rooms fr ti l g times by_ left l times by_ 0).1 i:=by
    intro i hi
    rcases r.2.1 i with h|h
    ·have:=hR.lo here.toNat (by omega); omega
    ·rw [h]; exact hR.lo i hi
   refine ih _ _ _ (fun i=>if i=here.toNat then left.count true else rk i) hT.2 (by omega) hI' ⟨?_,hlo,fun i hi h=>?_,fun i hi hne hl=>?_⟩
   ·have a1:=hlo fr.toNat (by omega); have a2:=r.1 fr.toNat; have a3:=hR.st; omega
   ·rw [ct]
    show (if i=here.toNat then left.count true else rk i)<_
    by_cases ei:here.toNat=i
    ·rw [if_pos ei.symm]; omega
    ·rw [if_neg (fun h=>ei h.symm)]
     rw [lget_set_ne ei] at h
     have:=hR.rl i hi h; omega
   ·rcases B i hi with ⟨b1,b2⟩|⟨b0,k,p,b1,b2,b3,b4,b5⟩
    ·rw [b1] at hl
     obtain ⟨k,p,e1,e2,e3,e4,e5,e6,e7⟩:=hR.ed i hi hne hl
     have hr:=hg.rms p (List.mem_of_getElem? e2)
     have pne:here.toNat≠p.fr.toNat:=by
      intro e; rw [← e,q.2.2.2] at e4; cases e4
     have h3:=hI.ord p.fr.toNat here.toNat (by omega) (by omega) e4 q.2.2.2
     refine ⟨k,p,by rw [b2]; exact e1,e2,e3,by rw [lget_set_ne pne]; exact e4,by rw [b1,sameT _ h3]; exact e5,by rw [sameT _ h3]; exact e6,fun h=>?_⟩
     show (if p.fr.toNat=here.toNat then left.count true else rk p.fr.toNat)<(if i=here.toNat then left.count true else rk i)
     rw [if_neg (fun h=>pne h.symm)]
     by_cases ei:here.toNat=i
     ·rw [if_pos ei.symm]; exact hR.rl _ (by omega) e4
     ·rw [if_neg (fun h=>ei h.symm)]
      rw [lget_set_ne ei] at h; exact e7 h
    ·have hs:=sameT here.toNat (Int.le_refl _)
     refine ⟨k,p,b4,b1,b2,by rw [b3]; exact hself,by rw [b3,hs]; exact b5,by rw [b3,hs]; exact q.2.2.1,fun h=>?_⟩
     exfalso
     have ei:here.toNat≠i:=by rintro rfl; omega
     rw [lget_set_ne ei] at h
     have:=hI.ord i here.toNat hi (by omega) h q.2.2.2
     omega
theorem tree {rooms:Nat} {fr ti:Int} {l:List Pg} {g:Pg→Int→Int} (hg:Crs rooms l g) (hf:0≤fr∧fr<(rooms:Int)) (ht:0≤ti∧ti≤1073741823) :
  ∃ rk,Trees rooms fr ti l g (r109 rooms fr ti l g).1 (r109 rooms fr ti l g).2 rk:=by
 have h0:∀ i,i<rooms→fr.toNat≠i→lget ((List.replicate rooms (1073741824:Int)).set (Int.toNat fr) ti) i=1073741824:=fun i hi e=>by rw [lget_set_ne e,lget_replicate hi]
 have h1:lget ((List.replicate rooms (1073741824:Int)).set (Int.toNat fr) ti) fr.toNat=ti:=lget_set_self (by simp; omega)
 refine R109_0_tree hg hf (rooms+1) _ _ _ (fun _=>0) (by simp) (by rw [List.count_replicate_self]; omega) ⟨(Tm.rep _ (by decide)).set _ (by omega),by simp,fun i j hi hj h=>absurd h (by rw [lget_replicate hi]; decide),fun p hp h=>absurd h (by have:=hg.rms p hp; rw [lget_replicate (by omega)]; decide)⟩ ⟨h1,fun i hi=>?_,fun i hi h=>absurd h (by rw [lget_replicate hi]; decide),fun i hi hne hl=>?_⟩
 ·by_cases e:fr.toNat=i
  ·rw [← e,h1]; omega
  ·rw [h0 i hi e]; omega
 ·rw [h0 i hi (fun e=>hne e.symm)] at hl; omega
end House
end Go.Proofs
end
section
set_option linter.unusedSimpArgs false
set_option linter.unusedVariables false
namespace Go.Proofs
namespace House
open Go Go.RowKit Go.Aev
set_option maxRecDepth 100000
instance:Cel Stp:=⟨3,fun x=>[.int .i64 x.way,.bool x.back,.int .i64 x.at_],fun _=>rfl,fun _=>rfl⟩
def Keep (v:Value) (S S':AS):Prop:=S.next≤S'.next∧∀ q,q<S.next→blkOf v≠some q→S'.heap.get q=S.heap.get q
theorem Keep.refl (v:Value) (S:AS):Keep v S S:=⟨Nat.le_refl _,fun _ _ _=>rfl⟩
theorem Keep.trans {v:Value} {S S' S'':AS} (h:Keep v S S') (h':Keep v S' S''):Keep v S S'':=⟨Nat.le_trans h.1 h'.1,fun q hq hn=>(h'.2 q (Nat.lt_of_lt_of_le hq h.1) hn).trans (h.2 q hq hn)⟩
def Trn (l o:List Stp) (i:Nat):Prop:=o.length=l.length∧∀ q,q<l.length→lget o q=if q<i∨l.length≤q+i then lget l (l.length - 1 - q) else lget l q
theorem Trn.fin {l o:List Stp} {i:Nat} (h:Trn l o i) (hi:l.length≤2 * i+1):o=l.reverse:=by
 have hl:=h.1
 apply List.ext_getElem (by rw [List.length_reverse]; exact hl)
 intro q h1 h2
 have k:=h.2 q (by omega)
 have k1:lget o q=o[q]:=lget_of (List.getElem?_eq_getElem h1)
 rw [← k1,k,List.getElem_reverse]
 split
 ·exact lget_of (List.getElem?_eq_getElem (by omega))
 ·rw [lget_of (List.getElem?_eq_getElem (by omega:q<l.length))]
  congr 1; omega
end House
end Go.Proofs
end
section
set_option linter.unusedSimpArgs false
set_option linter.unusedVariables false
namespace Go.Proofs
namespace House
open Go Go.RowKit Go.Aev
set_option maxRecDepth 100000
theorem trees (h:Hs) (fr ti:Int):∃ rk:Nat→Nat,r59 h=0→0≤fr∧fr<(h.rooms.length:Int)→0≤ti∧ti≤1073741823→Trees h.rooms.length fr ti (psg h) (fun p t=>r145 p t h) (r114 h fr ti).1.1 (r114 h fr ti).1.2 rk:=by
 by_cases c:r59 h=0∧(0≤fr∧fr<(h.rooms.length:Int))∧0≤ti∧ti≤1073741823
 ·obtain ⟨rk,hT⟩:=tree (crs c.1) c.2.1 c.2.2
  exact ⟨rk,fun _ _ _=>hT⟩
 ·exact ⟨fun _=>0,fun a b d=>absurd ⟨a,b,d⟩ c⟩
end House
end Go.Proofs
end
section
set_option linter.unusedSimpArgs false
set_option linter.unusedVariables false
namespace Go.Proofs
namespace House
open Go Go.RowKit Go.Aev
set_option maxRecDepth 100000
end House
end Go.Proofs
end
section
set_option linter.unusedSimpArgs false
set_option linter.unusedVariables false
namespace Go.Proofs
namespace House
open Go Go.RowKit Go.Aev
set_option maxRecDepth 100000
theorem psg_way {h:Hs} {p:Pg} (hp:p ∈ psg h):(0≤p.way∧p.way<(h.ways.length:Int))∧r144 h p.way p.back=((p.way,p.back,p.fr,p.to,p.secs,p.door),true):=by
 obtain ⟨w,b,h1,h2,h3,rfl⟩:=R148_mem h h.ways 0 (by simp) p hp
 have e1:(r144 h w b).1.1=w:=by unfold r144; split<;>rfl
 have e2:(r144 h w b).1.2.1=b:=by
  unfold r144
  cases b<;>simp
 have e:r144 h w b=(((r144 h w b).1.1,(r144 h w b).1.2.1,(r144 h w b).1.2.2.1,(r144 h w b).1.2.2.2.1,(r144 h w b).1.2.2.2.2.1,(r144 h w b).1.2.2.2.2.2),(r144 h w b).2):=rfl
 refine ⟨?_,?_⟩
 ·show 0≤(r144 h w b).1.1∧(r144 h w b).1.1<_
  rw [e1]; exact ⟨h1,h2⟩
 ·show r144 h (r144 h w b).1.1 (r144 h w b).1.2.1=(((r144 h w b).1.1,(r144 h w b).1.2.1,(r144 h w b).1.2.2.1,(r144 h w b).1.2.2.2.1,(r144 h w b).1.2.2.2.2.1,(r144 h w b).1.2.2.2.2.2),true)
  rw [← h3,e1,e2]
  rw [e1,e2] at e
  exact e
end House
end Go.Proofs
end
