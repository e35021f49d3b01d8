import Derived.Test.YtohfdkdjfoonjaaGreatDoorEvH6
set_option linter.unusedSimpArgs false
set_option linter.unusedVariables false
namespace Go.Proofs
namespace House
open Go Go.RowKit Go.Aev
set_option maxRecDepth 100000
def Ord (l:List Sp):Prop:=l.Pairwise fun x y=>x.hi+1<y.lo
def In (l:List Sp) (n:Int):Prop:=∃ x ∈ l,x.lo≤n∧n≤x.hi
theorem R82_pw (l:List Sp) (n:Int) (hn:n≤1073741823):∀ (m:List Sp) (k:Nat),l.drop k=m→onSum (R82_0 l n m k) (fun b=>b) (fun _=>true)=true→(0<k→0≤(lget l (k - 1)).hi∧(lget l (k - 1)).hi≤n) →
  (∀ y ∈ m,0<k→(lget l (k - 1)).hi+1<y.lo)∧Ord m:=by
 intro m
 induction m with
 | nil=>intro k _ _ _; exact ⟨fun y hy=>by simp at hy,.nil⟩
 | cons x m ih =>
  intro k hd e hk
  obtain ⟨d1,d2,d3⟩:=drop_lget hd
  unfold R82_0 at e
  split at e
  ·simp [onSum] at e
  rename_i h0
  split at e
  case isFalse=>simp [onSum] at e
  rename_i h1
  split at e
  case isFalse=>simp [onSum] at e
  rename_i h2
  have h1:=r71_iff.1 h1
  have h2:=r71_iff.1 h2
  have key:onSum (R82_0 l n m (k+1)) (fun b=>b) (fun _=>true)=true∧(0<k→(lget l (k - 1)).hi+1<x.lo):=by
   split at e
   ·rename_i h3
    have:=hk (by omega)
    split at e
    ·simp [onSum] at e
    ·rename_i h4
     rw [wr64 (by omega)] at h4
     exact ⟨e,fun _=>by omega⟩
   ·exact ⟨e,fun _=>by omega⟩
  obtain ⟨i1,i2⟩:=ih (k+1) d2 key.1 (fun _=>by rw [show k+1 - 1=k by omega,d1]; omega)
  have i1':∀ y ∈ m,x.hi+1<y.lo:=fun y hy=>by have:=i1 y hy (by omega); rw [show k+1 - 1=k by omega,d1] at this; exact this
  refine ⟨fun y hy hk'=>?_,.cons i1' i2⟩
  have:=key.2 hk'
  rcases List.mem_cons.1 hy with rfl|hy
  ·exact this
  ·have:=i1' y hy; omega
theorem r82_ord {l:List Sp} {n:Int} (hn:n≤1073741823) (e:r82 l n=true):Ord l:=by
 unfold r82 at e
 split at e
 ·simp at e
 ·exact (R82_pw l n hn l 0 rfl e (fun h=>by omega)).2
theorem okd_ord {h:Hs} (e:r59 h=0) {d:Dr} (hd:d ∈ h.doors):Ord d.hours∧Ord d.shut:=by
 obtain ⟨h1,h2⟩:=R23_2_ok h _ _ (valid_parts e).1 d hd
 exact ⟨r82_ord (by decide) h1,r82_ord (by decide) h2⟩
def later (d:Dr) (t:Int):Int:=if (r137 d.shut (r136 d.hours t)).2=true then (r137 d.shut (r136 d.hours t)).1.2+1 else r136 d.hours t
end House
end Go.Proofs
