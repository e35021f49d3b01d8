import Derived.Test.YtohfdkdjfoonjaaGreatDoorEvH6
set_option linter.unusedSimpArgs false
set_option linter.unusedVariables false
namespace Go.Proofs
namespace House
open Go Go.RowKit Go.Aev
set_option maxRecDepth 100000
def Ord (l:List Sp):Prop:=l.Pairwise fun x y=>x.hi+1<y.lo
def In (l:List Sp) (n:Int):Prop:=∃ x ∈ l,x.lo≤n∧n≤x.hi
theorem R82_pw (l:List Sp) (n:Int) (hn:n≤1073741823):∀ (m:List Sp) (k:Nat),l.drop k=m→onSum (R82_0 l n m k) (fun b=>b) (fun _=>true)=true→(0<k→0≤(lget l (k - 1)).hi∧(lget l (k - 1)).hi≤n) →
  (∀ y ∈ m,0<k→(lget l (k - 1)).hi+1<y.lo)∧Ord m:=by
 intro m
 induction m with
 | nil=>intro k _ _ _; exact ⟨fun y hy=>by simp at hy,.nil⟩
 | cons x m ih =>
  intro k hd e hk
  obtain ⟨d1,d2,d3⟩:=drop_lget hd
  unfold R82_0 at e
  split at e
  ·simp [onSum] at e
  rename_i h0
  split at e
  case isFalse=>simp [onSum] at e
  rename_i h1
  split at e
  case isFalse=>simp [onSum] at e
  rename_i h2
  have h1:=r71_iff.1 h1
  have h2:=r71_iff.1 h2
  have key:onSum (R82_0 l n m (k+1)) (fun b=>b) (fun _=>true)=true∧(0<k→(lget l (k - 1)).hi+1<x.lo):=by
   split at e
   ·rename_i h3
    have:=hk (by omega)
    split at e
    ·simp [onSum] at e
    ·rename_i h4
     rw [wr64 (by omega)] at h4
     exact ⟨e,fun _=>by omega⟩
   ·exact ⟨e,fun _=>by omega⟩
  obtain ⟨i1,i2⟩:=ih (k+1) d2 key.1 (fun _=>by rw [show k+1 - 1=k by omega,d1]; omega)
  have i1':∀ y ∈ m,x.hi+1<y.lo:=fun y hy=>by have:=i1 y hy (by omega); rw [show k+1 - 1=k by omega,d1] at this; exact this
  refine ⟨fun y hy hk'=>?_,.cons i1' i2⟩
  have:=key.2 hk'
  rcases List.mem_cons.1 hy with rfl|hy
  ·exact this
  ·have:=i1' y hy; omega
theorem r82_ord {l:List Sp} {n:Int} (hn:n≤1073741823) (e:r82 l n=true):Ord l:=by
 unfold r82 at e
 split at e
 ·simp at e
 ·exact (R82_pw l n hn l 0 rfl e (fun h=>by omega)).2
theorem okd_ord {h:Hs} (e:r59 h=0) {d:Dr} (hd:d ∈ h.doors):Ord d.hours∧Ord d.shut:=by
 obtain ⟨h1,h2⟩:=R23_2_ok h _ _ (valid_parts e).1 d hd
 exact ⟨r82_ord (by decide) h1,r82_ord (by decide) h2⟩
theorem R134_iff (l:List Sp) (n:Int):∀ (m:List Sp) (k:Nat),(R134_0 l n m k=.inl true∧In m n)∨(R134_0 l n m k=.inr ()∧¬ In m n):=by
 intro m
 induction m with
 | nil=>intro k; exact .inr ⟨rfl,fun ⟨x,hx,_⟩=>by simp at hx⟩
 | cons x m ih =>
  intro k
  unfold R134_0
  by_cases h:r71 n x.lo x.hi=true
  ·rw [if_pos h]; exact .inl ⟨rfl,x,by simp,r71_iff.1 h⟩
  ·rw [if_neg h]
   rcases ih (k+1) with ⟨h1,y,h2,h3⟩|⟨h1,h2⟩
   ·exact .inl ⟨h1,y,by simp [h2],h3⟩
   ·refine .inr ⟨h1,fun ⟨y,hy,hy2⟩=>?_⟩
    rcases List.mem_cons.1 hy with rfl|hy
    ·exact h (r71_iff.2 hy2)
    ·exact h2 ⟨y,hy,hy2⟩
theorem r134_iff {l:List Sp} {n:Int}:r134 l n=true↔In l n:=by
 unfold r134
 rcases R134_iff l n l 0 with ⟨h1,h2⟩|⟨h1,h2⟩<;>rw [h1]<;>simp [onSum,h2]
theorem R137_iff (l:List Sp) (n:Int):∀ (m:List Sp),(∃ a b,R137_0 l n m=.inl (a,b,true)∧In m n)∨(R137_0 l n m=.inr ()∧¬ In m n):=by
 intro m
 induction m with
 | nil=>exact .inr ⟨rfl,fun ⟨x,hx,_⟩=>by simp at hx⟩
 | cons x m ih =>
  unfold R137_0
  by_cases h:r133 x.lo x.hi n=true
  ·rw [if_pos h]; exact .inl ⟨_,_,rfl,x,by simp,r133_iff.1 h⟩
  ·rw [if_neg h]
   rcases ih with ⟨a,b,h1,y,h2,h3⟩|⟨h1,h2⟩
   ·exact .inl ⟨a,b,h1,y,by simp [h2],h3⟩
   ·refine .inr ⟨h1,fun ⟨y,hy,hy2⟩=>?_⟩
    rcases List.mem_cons.1 hy with rfl|hy
    ·exact h (r133_iff.2 hy2)
    ·exact h2 ⟨y,hy,hy2⟩
theorem r137_iff {l:List Sp} {n:Int}:(r137 l n).2=true↔In l n:=by
 unfold r137
 rcases R137_iff l n l with ⟨a,b,h1,h2⟩|⟨h1,h2⟩<;>rw [h1]<;>simp [onSum,h2]
theorem R136_iff (l:List Sp) (t:Int) (ht:0≤t):∀ (m:List Sp),Ord m→Bd 86399 m→(∃ r,R136_0 l t m=.inl r∧(r=t↔In m (t % 86400)))∨(R136_0 l t m=.inr ()∧¬ In m (t % 86400)):=by
 intro m
 have hq:=r160_ok ht
 induction m with
 | nil=>intro _ _; exact .inr ⟨rfl,fun ⟨x,hx,_⟩=>by simp at hx⟩
 | cons x m ih =>
  intro ho hb
  obtain ⟨o1,o2⟩:=List.pairwise_cons.1 ho
  have hx:=hb x (by simp)
  unfold R136_0
  by_cases h:(r160 t).2≤x.hi
  ·rw [if_pos h]
   refine .inl ⟨_,rfl,?_⟩
   constructor
   ·intro e; exact ⟨x,by simp,by omega,by omega⟩
   ·rintro ⟨y,hy,h1,h2⟩
    rcases List.mem_cons.1 hy with rfl|hy
    ·omega
    ·have:=o1 y hy; omega
  ·rw [if_neg h]
   rcases ih o2 (fun y hy=>hb y (by simp [hy])) with ⟨r,h1,h2⟩|⟨h1,h2⟩
   ·refine .inl ⟨r,h1,h2.trans ⟨fun ⟨y,hy,hz⟩=>⟨y,by simp [hy],hz⟩,?_⟩⟩
    rintro ⟨y,hy,hz⟩
    rcases List.mem_cons.1 hy with rfl|hy
    ·omega
    ·exact ⟨y,hy,hz⟩
   ·refine .inr ⟨h1,?_⟩
    rintro ⟨y,hy,hz⟩
    rcases List.mem_cons.1 hy with rfl|hy
    ·omega
    ·exact h2 ⟨y,hy,hz⟩
theorem r136_iff {l:List Sp} {t:Int} (ht:0≤t∧t≤1073741823) (ho:Ord l) (hb:Bd 86399 l):r136 l t=t↔In l (t % 86400):=by
 have hq:=r160_ok ht.1
 unfold r136
 by_cases h0:(l.length:Int)=0
 ·rw [if_pos h0]
  have:l=[]:=List.length_eq_zero_iff.1 (by omega)
  subst this
  constructor
  ·intro e; omega
  ·rintro ⟨x,hx,_⟩; simp at hx
 ·rw [if_neg h0]
  rcases R136_iff l t ht.1 l ho hb with ⟨r,h1,h2⟩|⟨h1,h2⟩
  ·rw [h1]; exact h2
  ·rw [h1]
   have hx:=hb (lget l 0) (List.mem_of_getElem? (lget_some (by omega)))
   constructor
   ·intro e; unfold onSum at e; simp only at e; omega
   ·intro e; exact absurd e h2
def later (d:Dr) (t:Int):Int:=if (r137 d.shut (r136 d.hours t)).2=true then (r137 d.shut (r136 d.hours t)).1.2+1 else r136 d.hours t
theorem later_ge {d:Dr} (hD:OkD d) {t:Int} (ht:0≤t∧t≤1073741823):t≤later d t:=by
 have h1:=r136_ge ht hD.h
 unfold later
 split
 ·rename_i h; have:=r137_ok hD.s h; omega
 ·omega
theorem R89_step (d:Dr) (ti:Int) (m:Nat) (tv:Int):R89_0 d ti (m+1) tv=if tv≤1073741823 then (if later d tv=tv then .inl tv else R89_0 d ti m (later d tv)) else .inr ():=by
 rw [R89_0]
 unfold later
 by_cases h1:tv≤1073741823
 ·rw [if_pos h1,if_pos h1]
  by_cases h2:(r137 d.shut (r136 d.hours tv)).2=true
  ·simp only [if_pos h2]
  ·simp only [if_neg h2]
 ·rw [if_neg h1,if_neg h1]
theorem later_iff {d:Dr} (hD:OkD d) (ho:Ord d.hours) {t:Int} (ht:0≤t∧t≤1073741823):later d t=t↔r86 d t=true:=by
 have h1:=r136_ge ht hD.h
 have hm:=tm_ok ht.1
 have hi:=r136_iff ht ho hD.h
 unfold later r86
 rw [hm.2.2.2]
 constructor
 ·intro e
  split at e
  ·rename_i h; have:=r137_ok hD.s h; omega
  ·rename_i h
   rw [e] at h
   rw [if_pos (r134_iff.2 (hi.1 e))]
   have:¬ r134 d.shut t=true:=fun q=>h (r137_iff.2 (r134_iff.1 q))
   simpa using this
 ·intro e
  split at e
  case isFalse=>simp at e
  rename_i h
  have e1:=hi.2 (r134_iff.1 h)
  have:¬ r134 d.shut t=true:=by simpa using e
  rw [e1,if_neg (fun q=>this (r134_iff.2 (r137_iff.1 q)))]
end House
end Go.Proofs
