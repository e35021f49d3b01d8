import Derived.Test.YtohfdkdjfoonjaaGreatDoorEvH10
set_option linter.unusedSimpArgs false
set_option linter.unusedVariables false
namespace Go.Proofs
namespace House
open Go Go.RowKit Go.Aev
set_option maxRecDepth 100000
def Op (d:Dr) (n:Int):Prop:=r86 d n=true
theorem op_iff {d:Dr} {n:Int} (hn:0≤n):Op d n↔In d.hours (n % 86400)∧¬ In d.shut n:=by
 unfold Op r86
 rw [(tm_ok hn).2.2.2]
 by_cases h:r134 d.hours (n % 86400)=true
 ·rw [if_pos h]
  have h':=r134_iff.1 h
  constructor
  ·intro e; exact ⟨h',fun q=>by rw [r134_iff.2 q] at e; simp at e⟩
  ·intro e
   have:¬ r134 d.shut n=true:=fun q=>e.2 (r134_iff.1 q)
   simpa using this
 ·rw [if_neg h]
  constructor
  ·intro e; simp at e
  ·intro e; exact absurd (r134_iff.2 e.1) h
structure OkO (d:Dr):Prop where
 o:OkD d
 h:Ord d.hours
 s:Ord d.shut
theorem oko {h:Hs} (e:r59 h=0) {d:Dr} (hd:d ∈ h.doors):OkO d:=⟨okd e hd,(okd_ord e hd).1,(okd_ord e hd).2⟩
def Nx (d:Dr) (t r:Int):Prop:=(r=1073741824∧∀ n,t≤n→n≤1073741823→¬ Op d n)∨(t≤r∧r≤1073741823∧Op d r∧∀ n,t≤n→n<r→¬ Op d n)
theorem R136_min (l:List Sp) (t:Int) (ht:0≤t):∀ (m:List Sp) (r:Int),Ord m→Bd 86399 m→R136_0 l t m=.inl r→∀ n,t≤n→n<r→¬ In m (n % 86400):=by
 intro m
 have hq:=r160_ok ht
 induction m with
 | nil=>intro r _ _ e; cases e
 | cons x m ih =>
  intro r ho hb e n h1 h2
  obtain ⟨o1,o2⟩:=List.pairwise_cons.1 ho
  have hx:=hb x (by simp)
  unfold R136_0 at e
  split at e
  ·simp only [Sum.inl.injEq] at e
   subst e
   rintro ⟨y,hy,h3,h4⟩
   have hn:n % 86400=n - (r160 t).1:=by omega
   rcases List.mem_cons.1 hy with rfl|hy
   ·omega
   ·have:=o1 y hy; omega
  ·rintro ⟨y,hy,h3,h4⟩
   rcases List.mem_cons.1 hy with rfl|hy
   ·have hr:=R136_ge l t ht m r (fun z hz=>hb z (by simp [hz])) e
    have hn:n % 86400=n - (r160 t).1:=by omega
    omega
   ·exact ih r o2 (fun z hz=>hb z (by simp [hz])) e n h1 h2 ⟨y,hy,h3,h4⟩
theorem R136_none (l:List Sp) (t:Int):∀ (m:List Sp),R136_0 l t m=.inr ()→∀ x ∈ m,x.hi<(r160 t).2:=by
 intro m
 induction m with
 | nil=>intro _ x hx; simp at hx
 | cons y m ih =>
  intro e x hx
  unfold R136_0 at e
  split at e
  ·cases e
  ·rcases List.mem_cons.1 hx with rfl|hx
   ·omega
   ·exact ih e x hx
theorem ord_first {l:List Sp} {most:Int} (ho:Ord l) (hb:Bd most l):∀ x ∈ l,(lget l 0).lo≤x.lo:=by
 cases l with
 | nil=>intro x hx; simp at hx
 | cons y l =>
  intro x hx
  have e:lget (y :: l) 0=y:=rfl
  rw [e]
  have hy:=hb y (by simp)
  rcases List.mem_cons.1 hx with rfl|hx
  ·omega
  ·have:=(List.pairwise_cons.1 ho).1 x hx; omega
theorem r136_min {l:List Sp} {t:Int} (ht:0≤t∧t≤1073741823) (ho:Ord l) (hb:Bd 86399 l):∀ n,t≤n→n<r136 l t→¬ In l (n % 86400):=by
 intro n h1 h2
 have hq:=r160_ok ht.1
 unfold r136 at h2
 by_cases h0:(l.length:Int)=0
 ·have:l=[]:=List.length_eq_zero_iff.1 (by omega)
  subst this
  rintro ⟨x,hx,_⟩; simp at hx
 ·rw [if_neg h0] at h2
  cases e:R136_0 l t l with
  | inl r=>rw [e] at h2; exact R136_min l t ht.1 l r ho hb e n h1 h2
  | inr u =>
   rw [e] at h2
   unfold onSum at h2
   simp only at h2
   have hn:=R136_none l t l e
   have hf:=ord_first ho hb
   rintro ⟨x,hx,h3,h4⟩
   have:=hn x hx
   have:=hf x hx
   have:=hb x hx
   omega
theorem later_min {d:Dr} (hO:OkO d) {t:Int} (ht:0≤t∧t≤1073741823):∀ n,t≤n→n<later d t→¬ Op d n:=by
 intro n h1 h2 ho
 have ho:=(op_iff (by omega)).1 ho
 have hm:=r136_min ht hO.h hO.o.h n h1
 unfold later at h2
 split at h2
 ·rename_i h
  have:=r137_ok hO.o.s h
  by_cases h3:n<r136 d.hours t
  ·exact hm h3 ho.1
  ·have hin:=r137_iff.1 h
   obtain ⟨x,hx,h4,h5⟩:=hin
   refine ho.2 ?_
   unfold r137 at h2
   rcases R137_iff d.shut (r136 d.hours t) d.shut with ⟨a,b,q1,_⟩|⟨_,q2⟩
   ·rw [q1] at h2
    obtain ⟨_,q3,q4,q5⟩:=R137_ok _ _ _ _ _ _ q1
    unfold onSum at h2
    simp only at h2
    exact ⟨_,q5,by simp only; omega,by simp only; omega⟩
   ·exact absurd ⟨x,hx,h4,h5⟩ q2
 ·exact hm h2 ho.1
theorem R89_nx {d:Dr} (hO:OkO d) (ti:Int):∀ (m:Nat) (tv:Int),0≤tv→1073741824 - tv<m→(∃ r,R89_0 d ti m tv=.inl r∧tv≤r∧r≤1073741823∧Op d r∧∀ n,tv≤n→n<r→¬ Op d n)∨(R89_0 d ti m tv=.inr ()∧∀ n,tv≤n→n≤1073741823→¬ Op d n):=by
 intro m
 induction m with
 | zero=>intro tv h0 h1; exact .inr ⟨rfl,fun n h2 h3=>by omega⟩
 | succ m ih =>
  intro tv h0 h1
  rw [R89_step]
  by_cases h2:tv≤1073741823
  case neg=>rw [if_neg h2]; exact .inr ⟨rfl,fun n h3 h4=>by omega⟩
  rw [if_pos h2]
  by_cases h3:later d tv=tv
  ·rw [if_pos h3]
   exact .inl ⟨tv,rfl,by omega,h2,(later_iff hO.o hO.h ⟨h0,h2⟩).1 h3,fun n h4 h5=>by omega⟩
  ·rw [if_neg h3]
   have hg:=later_ge hO.o (t:=tv) ⟨h0,h2⟩
   have hm:=later_min hO (t:=tv) ⟨h0,h2⟩
   rcases ih (later d tv) (by omega) (by omega) with ⟨r,k1,k2,k3,k4,k5⟩|⟨k1,k2⟩
   ·refine .inl ⟨r,k1,by omega,k3,k4,fun n h4 h5=>?_⟩
    by_cases h6:n<later d tv
    ·exact hm n h4 h6
    ·exact k5 n (by omega) h5
   ·refine .inr ⟨k1,fun n h4 h5=>?_⟩
    by_cases h6:n<later d tv
    ·exact hm n h4 h6
    ·exact k2 n (by omega) h5
theorem r89_nx {d:Dr} (hO:OkO d) {t:Int} (ht:0≤t):Nx d t (r89 d t):=by
 unfold r89
 rcases R89_nx hO t ((1073741824 - t).toNat+1) t ht (by omega) with ⟨r,k1,k2,k3,k4,k5⟩|⟨k1,k2⟩
 ·rw [k1]; exact .inr ⟨k2,k3,k4,k5⟩
 ·rw [k1]; exact .inl ⟨rfl,k2⟩
def Best (d:Dr) (t:Int) (C:Int→Prop) (b r:Int):Prop:=(r=b∨(t<r∧r<b∧Op d r))∧∀ n,C n→t<n→Op d n→r≤n
theorem Best.le {d:Dr} {t:Int} {C:Int→Prop} {b r:Int} (h:Best d t C b r):r≤b:=by rcases h.1 with h|h<;>omega
theorem Best.trans {d:Dr} {t:Int} {C D:Int→Prop} {b r q:Int} (h:Best d t C b r) (k:Best d t D r q):Best d t (fun n=>C n∨D n) b q:=by
 have hk:=k.le
 refine ⟨?_,fun n hn h1 h2=>?_⟩
 ·rcases k.1 with e|e
  ·rw [e]; exact h.1
  ·have:=h.le; exact .inr ⟨e.1,by omega,e.2.2⟩
 ·rcases hn with hn|hn
  ·have:=h.2 n hn h1 h2; omega
  ·exact k.2 n hn h1 h2
theorem Best.none {d:Dr} {t b:Int}:Best d t (fun _=>False) b b:=⟨.inl rfl,fun n h=>h.elim⟩
end House
end Go.Proofs
