import Derived.Test.YtohfdkdjfoonjaaGreatDoorEvH10
section
set_option linter.unusedSimpArgs false
set_option linter.unusedVariables false
namespace Go.Proofs
namespace House
open Go Go.RowKit Go.Aev
set_option maxRecDepth 100000
def Op (d:Dr) (n:Int):Prop:=r86 d n=true
theorem op_iff {d:Dr} {n:Int} (hn:0≤n):Op d n↔In d.hours (n % 86400)∧¬ In d.shut n:=by
 unfold Op r86
 rw [(tm_ok hn).2.2.2]
 by_cases h:r134 d.hours (n % 86400)=true
 ·rw [if_pos h]
  have h':=r134_iff.1 h
  constructor
  ·intro e; exact ⟨h',fun q=>by rw [r134_iff.2 q] at e; simp at e⟩
  ·intro e
   have:¬ r134 d.shut n=true:=fun q=>e.2 (r134_iff.1 q)
   simpa using this
 ·rw [if_neg h]
  constructor
  ·intro e; simp at e
  ·intro e; exact absurd (r134_iff.2 e.1) h
structure OkO (d:Dr):Prop where
 o:OkD d
 h:Ord d.hours
 s:Ord d.shut
theorem oko {h:Hs} (e:r59 h=0) {d:Dr} (hd:d ∈ h.doors):OkO d:=⟨okd e hd,(okd_ord e hd).1,(okd_ord e hd).2⟩
def Nx (d:Dr) (t r:Int):Prop:=(r=1073741824∧∀ n,t≤n→n≤1073741823→¬ Op d n)∨(t≤r∧r≤1073741823∧Op d r∧∀ n,t≤n→n<r→¬ Op d n)
theorem Nx.unique {d:Dr} {t r q:Int} (h:Nx d t r) (k:Nx d t q):r=q:=by
 rcases h with ⟨h1,h2⟩|⟨h1,h2,h3,h4⟩<;>rcases k with ⟨k1,k2⟩|⟨k1,k2,k3,k4⟩
 ·omega
 ·exact absurd k3 (h2 q k1 k2)
 ·exact absurd h3 (k2 r h1 h2)
 ·rcases Int.lt_trichotomy r q with e|e|e
  ·exact absurd h3 (k4 r h1 e)
  ·exact e
  ·exact absurd k3 (h4 q k1 e)
theorem R136_min (l:List Sp) (t:Int) (ht:0≤t):∀ (m:List Sp) (r:Int),Ord m→Bd 86399 m→R136_0 l t m=.inl r→∀ n,t≤n→n<r→¬ In m (n % 86400):=by
 intro m
 have hq:=r160_ok ht
 induction m with
 | nil=>intro r _ _ e; cases e
 | cons x m ih =>
  intro r ho hb e n h1 h2
  obtain ⟨o1,o2⟩:=List.pairwise_cons.1 ho
  have hx:=hb x (by simp)
  unfold R136_0 at e
  split at e
  ·simp only [Sum.inl.injEq] at e
   subst e
   rintro ⟨y,hy,h3,h4⟩
   have hn:n % 86400=n - (r160 t).1:=by omega
   rcases List.mem_cons.1 hy with rfl|hy
   ·omega
   ·have:=o1 y hy; omega
  ·rintro ⟨y,hy,h3,h4⟩
   rcases List.mem_cons.1 hy with rfl|hy
   ·have hr:=R136_ge l t ht m r (fun z hz=>hb z (by simp [hz])) e
    have hn:n % 86400=n - (r160 t).1:=by omega
    omega
   ·exact ih r o2 (fun z hz=>hb z (by simp [hz])) e n h1 h2 ⟨y,hy,h3,h4⟩
theorem R136_none (l:List Sp) (t:Int):∀ (m:List Sp),R136_0 l t m=.inr ()→∀ x ∈ m,x.hi<(r160 t).2:=by
 intro m
 induction m with
 | nil=>intro _ x hx; simp at hx
 | cons y m ih =>
  intro e x hx
  unfold R136_0 at e
  split at e
  ·cases e
  ·rcases List.mem_cons.1 hx with rfl|hx
   ·omega
   ·exact ih e x hx
theorem ord_first {l:List Sp} {most:Int} (ho:Ord l) (hb:Bd most l):∀ x ∈ l,(lget l 0).lo≤x.lo:=by
 cases l with
 | nil=>intro x hx; simp at hx
 | cons y l =>
  intro x hx
  have e:lget (y :: l) 0=y:=rfl
  rw [e]
  have hy:=hb y (by simp)
  rcases List.mem_cons.1 hx with rfl|hx
  ·omega
  ·have:=(List.pairwise_cons.1 ho).1 x hx; omega
theorem r136_min {l:List Sp} {t:Int} (ht:0≤t∧t≤1073741823) (ho:Ord l) (hb:Bd 86399 l):∀ n,t≤n→n<r136 l t→¬ In l (n % 86400):=by
 intro n h1 h2
 have hq:=r160_ok ht.1
 unfold r136 at h2
 by_cases h0:(l.length:Int)=0
 ·have:l=[]:=List.length_eq_zero_iff.1 (by omega)
  subst this
  rintro ⟨x,hx,_⟩; simp at hx
 ·rw [if_neg h0] at h2
  cases e:R136_0 l t l with
  | inl r=>rw [e] at h2; exact R136_min l t ht.1 l r ho hb e n h1 h2
  | inr u =>
   rw [e] at h2
   unfold onSum at h2
   simp only at h2
   have hn:=R136_none l t l e
   have hf:=ord_first ho hb
   rintro ⟨x,hx,h3,h4⟩
   have:=hn x hx
   have:=hf x hx
   have:=hb x hx
   omega
theorem later_min {d:Dr} (hO:OkO d) {t:Int} (ht:0≤t∧t≤1073741823):∀ n,t≤n→n<later d t→¬ Op d n:=by
 intro n h1 h2 ho
 have ho:=(op_iff (by omega)).1 ho
 have hm:=r136_min ht hO.h hO.o.h n h1
 unfold later at h2
 split at h2
 ·rename_i h
  have:=r137_ok hO.o.s h
  by_cases h3:n<r136 d.hours t
  ·exact hm h3 ho.1
  ·have hin:=r137_iff.1 h
   obtain ⟨x,hx,h4,h5⟩:=hin
   refine ho.2 ?_
   unfold r137 at h2
   rcases R137_iff d.shut (r136 d.hours t) d.shut with ⟨a,b,q1,_⟩|⟨_,q2⟩
   ·rw [q1] at h2
    obtain ⟨_,q3,q4,q5⟩:=R137_ok _ _ _ _ _ _ q1
    unfold onSum at h2
    simp only at h2
    exact ⟨_,q5,by simp only; omega,by simp only; omega⟩
   ·exact absurd ⟨x,hx,h4,h5⟩ q2
 ·exact hm h2 ho.1
theorem R89_nx {d:Dr} (hO:OkO d) (ti:Int):∀ (m:Nat) (tv:Int),0≤tv→1073741824 - tv<m→(∃ r,R89_0 d ti m tv=.inl r∧tv≤r∧r≤1073741823∧Op d r∧∀ n,tv≤n→n<r→¬ Op d n)∨(R89_0 d ti m tv=.inr ()∧∀ n,tv≤n→n≤1073741823→¬ Op d n):=by
 intro m
 induction m with
 | zero=>intro tv h0 h1; exact .inr ⟨rfl,fun n h2 h3=>by omega⟩
 | succ m ih =>
  intro tv h0 h1
  rw [R89_step]
  by_cases h2:tv≤1073741823
  case neg=>rw [if_neg h2]; exact .inr ⟨rfl,fun n h3 h4=>by omega⟩
  rw [if_pos h2]
  by_cases h3:later d tv=tv
  ·rw [if_pos h3]
   exact .inl ⟨tv,rfl,by omega,h2,(later_iff hO.o hO.h ⟨h0,h2⟩).1 h3,fun n h4 h5=>by omega⟩
  ·rw [if_neg h3]
   have hg:=later_ge hO.o (t:=tv) ⟨h0,h2⟩
   have hm:=later_min hO (t:=tv) ⟨h0,h2⟩
   rcases ih (later d tv) (by omega) (by omega) with ⟨r,k1,k2,k3,k4,k5⟩|⟨k1,k2⟩
   ·refine .inl ⟨r,k1,by omega,k3,k4,fun n h4 h5=>?_⟩
    by_cases h6:n<later d tv
    ·exact hm n h4 h6
    ·exact k5 n (by omega) h5
   ·refine .inr ⟨k1,fun n h4 h5=>?_⟩
    by_cases h6:n<later d tv
    ·exact hm n h4 h6
    ·exact k2 n (by omega) h5
theorem r89_nx {d:Dr} (hO:OkO d) {t:Int} (ht:0≤t):Nx d t (r89 d t):=by
 unfold r89
 rcases R89_nx hO t ((1073741824 - t).toNat+1) t ht (by omega) with ⟨r,k1,k2,k3,k4,k5⟩|⟨k1,k2⟩
 ·rw [k1]; exact .inr ⟨k2,k3,k4,k5⟩
 ·rw [k1]; exact .inl ⟨rfl,k2⟩
def Best (d:Dr) (t:Int) (C:Int→Prop) (b r:Int):Prop:=(r=b∨(t<r∧r<b∧Op d r))∧∀ n,C n→t<n→Op d n→r≤n
theorem Best.le {d:Dr} {t:Int} {C:Int→Prop} {b r:Int} (h:Best d t C b r):r≤b:=by rcases h.1 with h|h<;>omega
theorem Best.trans {d:Dr} {t:Int} {C D:Int→Prop} {b r q:Int} (h:Best d t C b r) (k:Best d t D r q):Best d t (fun n=>C n∨D n) b q:=by
 have hk:=k.le
 refine ⟨?_,fun n hn h1 h2=>?_⟩
 ·rcases k.1 with e|e
  ·rw [e]; exact h.1
  ·have:=h.le; exact .inr ⟨e.1,by omega,e.2.2⟩
 ·rcases hn with hn|hn
  ·have:=h.2 n hn h1 h2; omega
  ·exact k.2 n hn h1 h2
theorem Best.none {d:Dr} {t b:Int}:Best d t (fun _=>False) b b:=⟨.inl rfl,fun n h=>h.elim⟩
theorem Best.sub {d:Dr} {t:Int} {C D:Int→Prop} {b r:Int} (h:Best d t C b r) (hs:∀ n,D n→C n):Best d t D b r:=⟨h.1,fun n hn=>h.2 n (hs n hn)⟩
theorem best_one (d:Dr) (t c b:Int):Best d t (fun n=>n=c) b (if t<c then (if c<b then (if r86 d c=true then c else b) else b) else b):=by
 by_cases h1:t<c
 case neg=>rw [if_neg h1]; exact ⟨.inl rfl,fun n hn h2 _=>by omega⟩
 rw [if_pos h1]
 by_cases h2:c<b
 case neg=>rw [if_neg h2]; exact ⟨.inl rfl,fun n hn _ _=>by omega⟩
 rw [if_pos h2]
 by_cases h3:r86 d c=true
 ·rw [if_pos h3]; exact ⟨.inr ⟨h1,h2,h3⟩,fun n hn _ _=>by omega⟩
 ·rw [if_neg h3]; exact ⟨.inl rfl,fun n hn _ h4=>absurd (hn ▸ h4) h3⟩
theorem R90_1_best (d:Dr) (ti:Int) (kv:Nat) (b0:Int):∀ (m:List Sp) (b1:Int),Best d ti (fun n=>∃ x ∈ m,n=Int.tdiv ti 86400 * 86400+(kv:Int) * 86400+x.lo) b1 (R90_1 d ti kv b0 m b1):=by
 intro m
 induction m with
 | nil=>intro b1; exact Best.none.sub fun n ⟨x,hx,_⟩=>by simp at hx
 | cons x m ih =>
  intro b1
  have e:R90_1 d ti kv b0 (x :: m) b1=R90_1 d ti kv b0 m (if ti<Int.tdiv ti 86400 * 86400+(kv:Int) * 86400+x.lo then (if Int.tdiv ti 86400 * 86400+(kv:Int) * 86400+x.lo<b1 then (if r86 d (Int.tdiv ti 86400 * 86400+(kv:Int) * 86400+x.lo)=true then Int.tdiv ti 86400 * 86400+(kv:Int) * 86400+x.lo else b1) else b1) else b1):=by
   rw [R90_1]; repeat' split
   all_goals rfl
  rw [e]
  refine ((best_one d ti _ b1).trans (ih _)).sub fun n ⟨y,hy,hn⟩=>?_
  rcases List.mem_cons.1 hy with rfl|hy
  ·exact .inl hn
  ·exact .inr ⟨y,hy,hn⟩
theorem R90_0_best (d:Dr) (ti:Int) (b:Int):Best d ti (fun n=>∃ k:Nat,k<2∧∃ x ∈ d.hours,n=Int.tdiv ti 86400 * 86400+(k:Int) * 86400+x.lo) b (R90_0 d ti 3 0 b):=by
 have st:∀ (m kv:Nat) (b:Int),kv<2→R90_0 d ti (m+1) kv b=R90_0 d ti m (kv+1) (R90_1 d ti kv b d.hours b):=fun m kv b hk=>by rw [R90_0,if_pos (by omega)]
 have e0:∀ b,R90_0 d ti (0+1) 2 b=b:=fun b=>by rw [R90_0,if_neg (by omega)]
 have e:R90_0 d ti 3 0 b=R90_1 d ti 1 (R90_1 d ti 0 b d.hours b) d.hours (R90_1 d ti 0 b d.hours b):=(st 2 0 b (by omega)).trans ((st 1 1 _ (by omega)).trans (e0 _))
 rw [e]
 refine ((R90_1_best d ti 0 b d.hours b).trans (R90_1_best d ti 1 _ d.hours _)).sub fun n ⟨k,hk,x,hx,hn⟩=>?_
 rcases (show k=0∨k=1 by omega) with rfl|rfl
 ·exact .inl ⟨x,hx,hn⟩
 ·exact .inr ⟨x,hx,hn⟩
theorem R90_4_best (d:Dr) (ti:Int) (jv:Nat) (b2:Int) (x:Sp) (k3:Nat) (b3 b:Int):Best d ti (fun n=>∃ j:Nat,j<2∧n=Int.tdiv (x.hi+1) 86400 * 86400+86400 - (j:Int) * 86400+(lget d.hours k3).lo) b (R90_4 d ti jv b2 x k3 b3 3 0 b):=by
 have st:∀ (m j:Nat) (b:Int),j<2→R90_4 d ti jv b2 x k3 b3 (m+1) j b=R90_4 d ti jv b2 x k3 b3 m (j+1) (if ti<Int.tdiv (x.hi+1) 86400 * 86400+86400 - (j:Int) * 86400+(lget d.hours k3).lo then (if Int.tdiv (x.hi+1) 86400 * 86400+86400 - (j:Int) * 86400+(lget d.hours k3).lo<b then (if r86 d (Int.tdiv (x.hi+1) 86400 * 86400+86400 - (j:Int) * 86400+(lget d.hours k3).lo)=true then Int.tdiv (x.hi+1) 86400 * 86400+86400 - (j:Int) * 86400+(lget d.hours k3).lo else b) else b) else b):=by
  intro m j b hj
  rw [R90_4,if_pos (by omega)]
  repeat' split
  all_goals rfl
 have e:∀ b,R90_4 d ti jv b2 x k3 b3 (0+1) 2 b=b:=fun b=>by rw [R90_4,if_neg (by omega)]
 have e3:=(st 2 0 b (by omega)).trans ((st 1 1 _ (by omega)).trans (e _))
 rw [show R90_4 d ti jv b2 x k3 b3 3 0 b=_ from e3]
 refine ((best_one d ti _ b).trans (best_one d ti _ _)).sub fun n ⟨j,hj,hn⟩=>?_
 rcases (show j=0∨j=1 by omega) with rfl|rfl
 ·exact .inl hn
 ·exact .inr hn
theorem R90_3_best (d:Dr) (ti:Int) (jv:Nat) (b2:Int) (x:Sp):∀ (m:List Sp) (k3:Nat) (b:Int),d.hours.drop k3=m→Best d ti (fun n=>∃ y ∈ m,∃ j:Nat,j<2∧n=Int.tdiv (x.hi+1) 86400 * 86400+86400 - (j:Int) * 86400+y.lo) b (R90_3 d ti jv b2 x m k3 b):=by
 intro m
 induction m with
 | nil=>intro k3 b _; exact Best.none.sub fun n ⟨y,hy,_⟩=>by simp at hy
 | cons y m ih =>
  intro k3 b hd
  obtain ⟨d1,d2,d3⟩:=drop_lget hd
  rw [R90_3]
  have h1:=R90_4_best d ti jv b2 x k3 b b
  rw [d1] at h1
  refine (h1.trans (ih (k3+1) _ d2)).sub fun n ⟨z,hz,j,hj,hn⟩=>?_
  rcases List.mem_cons.1 hz with rfl|hz
  ·exact .inl ⟨j,hj,hn⟩
  ·exact .inr ⟨z,hz,j,hj,hn⟩
def C2 (d:Dr) (m:List Sp) (n:Int):Prop:=∃ s ∈ m,n=s.hi+1∨∃ y ∈ d.hours,∃ j:Nat,j<2∧n=Int.tdiv (s.hi+1) 86400 * 86400+86400 - (j:Int) * 86400+y.lo
theorem R90_2_best (d:Dr) (ti:Int):∀ (m:List Sp) (jv:Nat) (b:Int),Best d ti (C2 d m) b (R90_2 d ti m jv b):=by
 intro m
 induction m with
 | nil=>intro jv b; exact Best.none.sub fun n ⟨y,hy,_⟩=>by simp at hy
 | cons x m ih =>
  intro jv b
  have hone:=best_one d ti (x.hi+1) b
  have e:∃ b2,R90_2 d ti (x :: m) jv b=R90_2 d ti m (jv+1) (R90_3 d ti jv b2 x d.hours 0 (if ti<x.hi+1 then (if x.hi+1<b then (if r86 d (x.hi+1)=true then x.hi+1 else b) else b) else b)):=by
   refine ⟨b,?_⟩
   rw [R90_2]
   repeat' split
   all_goals rfl
  obtain ⟨b2,e⟩:=e
  rw [e]
  refine ((hone.trans (R90_3_best d ti jv b2 x d.hours 0 _ rfl)).trans (ih (jv+1) _)).sub fun n ⟨s,hs,hn⟩=>?_
  rcases List.mem_cons.1 hs with rfl|hs
  ·exact .inl hn
  ·exact .inr ⟨s,hs,hn⟩
theorem cand {d:Dr} (hO:OkO d) {t b:Int} (ht:0≤t) (hno:¬ Op d t)
  (hC:∀ n,((∃ k:Nat,k<2∧∃ x ∈ d.hours,n=Int.tdiv t 86400 * 86400+(k:Int) * 86400+x.lo)∨C2 d d.shut n)→t<n→Op d n→b≤n) :
  ∀ (k:Nat) (n:Int),n=t+k→Op d n→b≤n:=by
 intro k
 induction k using Nat.strongRecOn with
 | ind k ih =>
  intro n hn ho
  have hk:k≠0:=fun e=>by subst e; rw [show n=t by omega] at ho; exact hno ho
  by_cases hprev:∃ n',t≤n'∧n'<n∧Op d n'
  ·obtain ⟨n',h1,h2,h3⟩:=hprev
   have:=ih (n' - t).toNat (by omega) n' (by omega) h3
   omega
  have hp:∀ n',t≤n'→n'<n→¬ Op d n':=fun n' h1 h2 h3=>hprev ⟨n',h1,h2,h3⟩
  obtain ⟨⟨x,hx,x1,x2⟩,hs⟩:=(op_iff (by omega)).1 ho
  have hxb:=hO.o.h x hx
  have td:=td_ok ht
  have hn1:¬ Op d (n - 1):=hp (n - 1) (by omega) (by omega)
  by_cases hsh:In d.shut (n - 1)
  ·obtain ⟨s,hsm,s1,s2⟩:=hsh
   have:¬ (s.lo≤n∧n≤s.hi):=fun e=>hs ⟨s,hsm,e.1,e.2⟩
   exact hC n (.inr ⟨s,hsm,.inl (by omega)⟩) (by omega) ho
  have hh:¬ In d.hours ((n - 1) % 86400):=fun e=>hn1 ((op_iff (by omega)).2 ⟨e,hsh⟩)
  have hlo:x.lo=n % 86400:=by
   by_cases h0:n % 86400=0
   ·omega
   ·have:¬ (x.lo≤(n - 1) % 86400∧(n - 1) % 86400≤x.hi):=fun e=>hh ⟨x,hx,e.1,e.2⟩
    omega
  by_cases h0:n - n % 86400=Int.tdiv t 86400 * 86400
  ·exact hC n (.inl ⟨0,by decide,x,hx,by omega⟩) (by omega) ho
  by_cases h1:n - n % 86400=Int.tdiv t 86400 * 86400+86400
  ·exact hC n (.inl ⟨1,by decide,x,hx,by omega⟩) (by omega) ho
  have hfar:t+86400≤n:=by omega
  have hq:¬ Op d (n - 86400):=hp (n - 86400) (by omega) (by omega)
  have hin:In d.shut (n - 86400):=by
   by_cases q:In d.shut (n - 86400)
   ·exact q
   ·exact absurd ((op_iff (by omega)).2 ⟨⟨x,hx,by omega,by omega⟩,q⟩) hq
  obtain ⟨s,hsm,s1,s2⟩:=hin
  have hns:¬ (s.lo≤n∧n≤s.hi):=fun e=>hs ⟨s,hsm,e.1,e.2⟩
  have hsb:=hO.o.s s hsm
  have ts:=td_ok (t:=s.hi+1) (by omega)
  by_cases h2:Int.tdiv (s.hi+1) 86400 * 86400=n - n % 86400
  ·exact hC n (.inr ⟨s,hsm,.inr ⟨x,hx,1,by decide,by omega⟩⟩) (by omega) ho
  ·exact hC n (.inr ⟨s,hsm,.inr ⟨x,hx,0,by decide,by omega⟩⟩) (by omega) ho
theorem r90_nx {d:Dr} (hO:OkO d) {t:Int} (ht:0≤t∧t≤1073741823):Nx d t (r90 d t):=by
 unfold r90
 by_cases h:r86 d t=true
 ·rw [if_pos h]; exact .inr ⟨by omega,ht.2,h,fun n h1 h2=>by omega⟩
 rw [if_neg h]
 have hb:=(R90_0_best d t 1073741824).trans (R90_2_best d t d.shut 0 _)
 generalize hr:R90_2 d t d.shut 0 (R90_0 d t 3 0 1073741824)=r at hb
 have hc:=cand hO ht.1 h hb.2
 have hc':∀ n,t≤n→n<r→¬ Op d n:=fun n h1 h2 h3=>by
  have:=hc (n - t).toNat n (by omega) h3
  omega
 rcases hb.1 with e|e
 ·exact .inl ⟨e,fun n h1 h2=>hc' n h1 (by omega)⟩
 ·exact .inr ⟨by omega,by omega,e.2.2,hc'⟩
theorem next_eq {d:Dr} (hO:OkO d) {t:Int} (ht:0≤t∧t≤1073741823):r89 d t=r90 d t:=(r89_nx hO ht.1).unique (r90_nx hO ht)
end House
end Go.Proofs
end
section
set_option linter.unusedSimpArgs false
set_option linter.unusedVariables false
namespace Go.Proofs
namespace House
open Go Go.RowKit Go.Aev
set_option maxRecDepth 100000
def Lx (d:Dr) (t r:Int):Prop:=(r = -1∧∀ n,0≤n→n≤t→¬ Op d n)∨(0≤r∧r≤t∧Op d r∧∀ n,r<n→n≤t→¬ Op d n)
theorem Lx.unique {d:Dr} {t r q:Int} (h:Lx d t r) (k:Lx d t q):r=q:=by
 rcases h with ⟨h1,h2⟩|⟨h1,h2,h3,h4⟩<;>rcases k with ⟨k1,k2⟩|⟨k1,k2,k3,k4⟩
 ·omega
 ·exact absurd k3 (h2 q k1 k2)
 ·exact absurd h3 (k2 r h1 h2)
 ·rcases Int.lt_trichotomy r q with e|e|e
  ·exact absurd k3 (h4 q e k2)
  ·exact e
  ·exact absurd h3 (k4 r e h2)
theorem ord_get {l:List Sp} (ho:Ord l) {i j:Nat} (hij:i<j) (hj:j<l.length):(lget l i).hi+1<(lget l j).lo:=by
 have:=List.pairwise_iff_getElem.1 ho i j (by omega) hj hij
 rw [lget_of (List.getElem?_eq_getElem (show i<l.length by omega)),lget_of (List.getElem?_eq_getElem hj)]
 exact this
theorem mem_get {l:List Sp} {x:Sp} (h:x ∈ l):∃ j,j<l.length∧lget l j=x:=by
 obtain ⟨j,hj,e⟩:=List.getElem_of_mem h
 exact ⟨j,hj,by rw [lget_of (List.getElem?_eq_getElem hj),e]⟩
theorem hit_spec (l:List Sp) (day sec:Int):∀ (m:Nat) (iv:Int),(m:Int)=iv+2 → -1≤iv→iv<l.length →
  (hit day sec (R167_0 l m iv)=none∧∀ j:Nat,(j:Int)≤iv→sec<(lget l j).lo) ∨
  ∃ i:Nat,(i:Int)≤iv∧hit day sec (R167_0 l m iv)=some (day+min sec (lget l i).hi)∧(lget l i).lo≤sec∧∀ j:Nat,i<j→(j:Int)≤iv→sec<(lget l j).lo:=by
 intro m
 induction m with
 | zero=>intro iv h1 h2 _; omega
 | succ m ih =>
  intro iv h1 h2 h3
  rw [R167_0]
  by_cases h0:0≤iv
  case neg=>rw [if_neg h0]; exact .inl ⟨rfl,fun j hj=>by omega⟩
  rw [if_pos h0,hit]
  have ei:((Int.toNat iv:Nat):Int)=iv:=Int.toNat_of_nonneg h0
  by_cases hl:(lget l (Int.toNat iv)).lo≤sec
  ·simp only [if_pos hl]
   exact .inr ⟨Int.toNat iv,by omega,rfl,hl,fun j h4 h5=>by omega⟩
  ·simp only [if_neg hl]
   rcases ih (iv - 1) (by omega) (by omega) (by omega) with ⟨k1,k2⟩|⟨i,k1,k2,k3,k4⟩
   ·refine .inl ⟨k1,fun j hj=>?_⟩
    by_cases e:(j:Int)=iv
    ·have:j=Int.toNat iv:=by omega
     subst this; omega
    ·exact k2 j (by omega)
   ·refine .inr ⟨i,by omega,k2,k3,fun j h4 h5=>?_⟩
    by_cases e:(j:Int)=iv
    ·have:j=Int.toNat iv:=by omega
     subst this; omega
    ·exact k4 j h4 (by omega)
theorem r138_spec {l:List Sp} {t:Int} (ht:0≤t) (ho:Ord l) (hb:Bd 86399 l):(r138 l t=t↔In l (t % 86400))∧∀ n,0≤n→r138 l t<n→n≤t→¬ In l (n % 86400):=by
 have hq:=r160_ok ht
 unfold r138
 by_cases h0:(l.length:Int)=0
 ·have:l=[]:=List.length_eq_zero_iff.1 (by omega)
  subst this
  refine ⟨⟨fun e=>by rw [if_pos h0] at e; omega,fun ⟨x,hx,_⟩=>by simp at hx⟩,fun n _ _ _ ⟨x,hx,_⟩=>by simp at hx⟩
 rw [if_neg h0]
 have hbg:∀ j,j<l.length→0≤(lget l j).lo∧(lget l j).lo≤(lget l j).hi∧(lget l j).hi≤86399:=fun j hj=>hb _ (List.mem_of_getElem? (lget_some hj))
 rcases hit_spec l (r160 t).1 (r160 t).2 (l.length+1) ((l.length:Int) - 1) (by omega) (by omega) (by omega) with ⟨k1,k2⟩|⟨i,k1,k2,k3,k4⟩
 ·rw [show hit (r160 t).1 (r160 t).2 (r167 l)=none from k1]
  simp only
  have hlast:=hbg (l.length - 1) (by omega)
  have hle:∀ j,j<l.length→(lget l j).hi≤(lget l (l.length - 1)).hi:=fun j hj=>by
   by_cases e:j=l.length - 1
   ·rw [e]; omega
   ·have:=ord_get ho (i:=j) (j:=l.length - 1) (by omega) (by omega); omega
  refine ⟨⟨fun e=>by omega,fun ⟨x,hx,h1,h2⟩=>?_⟩,fun n h1 h2 h3=>?_⟩
  ·obtain ⟨j,hj,rfl⟩:=mem_get hx
   have:=k2 j (by omega); omega
  ·rintro ⟨x,hx,h4,h5⟩
   obtain ⟨j,hj,rfl⟩:=mem_get hx
   have:=k2 j (by omega)
   have:=hle j hj
   omega
 ·rw [show hit (r160 t).1 (r160 t).2 (r167 l)=some _ from k2]
  simp only
  have hi:=hbg i (by omega)
  have key:∀ s,s≤(r160 t).2→(lget l i).lo≤s→In l s→s≤(lget l i).hi:=by
   rintro s hs h0' ⟨x,hx,h1,h2⟩
   obtain ⟨j,hj,rfl⟩:=mem_get hx
   rcases Nat.lt_trichotomy j i with e|e|e
   ·have:=ord_get ho e (by omega); omega
   ·subst e; exact h2
   ·have:=k4 j e (by omega); omega
  refine ⟨⟨fun e=>⟨lget l i,List.mem_of_getElem? (lget_some (by omega)),by omega,by omega⟩,fun hin=>?_⟩,fun n h1 h2 h3 hin=>?_⟩
  ·have:=key (t % 86400) (by omega) (by omega) hin
   omega
  ·have hn:n % 86400=n - (r160 t).1:=by omega
   have:=key (n % 86400) (by omega) (by omega) hin
   omega
def sooner (d:Dr) (t:Int):Int:=if (r137 d.shut (r138 d.hours t)).2=true then (r137 d.shut (r138 d.hours t)).1.1 - 1 else r138 d.hours t
theorem R91_step (d:Dr) (ti:Int) (m:Nat) (tv:Int):R91_0 d ti (m+1) tv=if 0≤tv then (if sooner d tv=tv then .inl tv else R91_0 d ti m (sooner d tv)) else .inr ():=by
 rw [R91_0]
 unfold sooner
 by_cases h1:0≤tv
 ·rw [if_pos h1,if_pos h1]
  by_cases h2:(r137 d.shut (r138 d.hours tv)).2=true
  ·simp only [if_pos h2]
  ·simp only [if_neg h2]
 ·rw [if_neg h1,if_neg h1]
theorem sooner_spec {d:Dr} (hO:OkO d) {t:Int} (ht:0≤t):sooner d t≤t∧(sooner d t=t↔Op d t)∧∀ n,0≤n→sooner d t<n→n≤t→¬ Op d n:=by
 have hle:=r138_le ht hO.o.h
 obtain ⟨hi,hm⟩:=r138_spec ht hO.h hO.o.h
 rw [op_iff ht]
 unfold sooner
 by_cases h:(r137 d.shut (r138 d.hours t)).2=true
 ·simp only [if_pos h]
  have hk:=r137_ok hO.o.s h
  have hin:=r137_iff.1 h
  refine ⟨by omega,⟨fun e=>by omega,fun e=>?_⟩,fun n h0 h1 h2 h3=>?_⟩
  ·have:=hi.2 e.1
   rw [this] at hin
   exact absurd hin e.2
  ·have h3:=(op_iff h0).1 h3
   by_cases h4:r138 d.hours t<n
   ·exact hm n h0 h4 h2 h3.1
   ·refine h3.2 ?_
    unfold r137 at h1
    rcases R137_iff d.shut (r138 d.hours t) d.shut with ⟨a,b,q1,_⟩|⟨_,q2⟩
    ·rw [q1] at h1
     obtain ⟨_,q3,q4,q5⟩:=R137_ok _ _ _ _ _ _ q1
     unfold onSum at h1
     simp only at h1
     exact ⟨_,q5,by simp only; omega,by simp only; omega⟩
    ·exact absurd hin q2
 ·simp only [if_neg h]
  refine ⟨hle.1,⟨fun e=>⟨hi.1 e,fun q=>?_⟩,fun e=>hi.2 e.1⟩,fun n h0 h1 h2 h3=>hm n h0 h1 h2 ((op_iff h0).1 h3).1⟩
  rw [← e] at q
  exact h (r137_iff.2 (by rw [e] at q ⊢; exact q))
theorem R91_lx {d:Dr} (hO:OkO d) (ti:Int):∀ (m:Nat) (tv:Int),tv+1<m→(∃ r,R91_0 d ti m tv=.inl r∧0≤r∧r≤tv∧Op d r∧∀ n,r<n→n≤tv→¬ Op d n)∨(R91_0 d ti m tv=.inr ()∧∀ n,0≤n→n≤tv→¬ Op d n):=by
 intro m
 induction m with
 | zero=>intro tv h1; exact .inr ⟨rfl,fun n h2 h3=>by omega⟩
 | succ m ih =>
  intro tv h1
  rw [R91_step]
  by_cases h2:0≤tv
  case neg=>rw [if_neg h2]; exact .inr ⟨rfl,fun n h3 h4=>by omega⟩
  rw [if_pos h2]
  obtain ⟨s1,s2,s3⟩:=sooner_spec hO h2
  by_cases h3:sooner d tv=tv
  ·rw [if_pos h3]
   exact .inl ⟨tv,rfl,h2,by omega,s2.1 h3,fun n h4 h5=>by omega⟩
  ·rw [if_neg h3]
   rcases ih (sooner d tv) (by omega) with ⟨r,k1,k2,k3,k4,k5⟩|⟨k1,k2⟩
   ·refine .inl ⟨r,k1,k2,by omega,k4,fun n h4 h5=>?_⟩
    by_cases h6:sooner d tv<n
    ·exact s3 n (by omega) h6 h5
    ·exact k5 n h4 (by omega)
   ·refine .inr ⟨k1,fun n h4 h5=>?_⟩
    by_cases h6:sooner d tv<n
    ·exact s3 n h4 h6 h5
    ·exact k2 n h4 (by omega)
theorem r91_lx {d:Dr} (hO:OkO d) (t:Int):Lx d t (r91 d t):=by
 unfold r91
 rcases R91_lx hO t ((t+1).toNat+1) t (by omega) with ⟨r,k1,k2,k3,k4,k5⟩|⟨k1,k2⟩
 ·rw [k1]; exact .inr ⟨k2,k3,k4,k5⟩
 ·rw [k1]; exact .inl ⟨rfl,k2⟩
def Best2 (d:Dr) (t:Int) (C:Int→Prop) (b r:Int):Prop:=(r=b∨(0≤r∧r<t∧b<r∧Op d r))∧∀ n,C n→0≤n→n<t→Op d n→n≤r
theorem Best2.le {d:Dr} {t:Int} {C:Int→Prop} {b r:Int} (h:Best2 d t C b r):b≤r:=by rcases h.1 with h|h<;>omega
theorem Best2.trans {d:Dr} {t:Int} {C D:Int→Prop} {b r q:Int} (h:Best2 d t C b r) (k:Best2 d t D r q):Best2 d t (fun n=>C n∨D n) b q:=by
 have hk:=k.le
 refine ⟨?_,fun n hn h0 h1 h2=>?_⟩
 ·rcases k.1 with e|e
  ·rw [e]; exact h.1
  ·have:=h.le; exact .inr ⟨e.1,e.2.1,by omega,e.2.2.2⟩
 ·rcases hn with hn|hn
  ·have:=h.2 n hn h0 h1 h2; omega
  ·exact k.2 n hn h0 h1 h2
theorem Best2.none {d:Dr} {t b:Int}:Best2 d t (fun _=>False) b b:=⟨.inl rfl,fun n h=>h.elim⟩
theorem Best2.sub {d:Dr} {t:Int} {C D:Int→Prop} {b r:Int} (h:Best2 d t C b r) (hs:∀ n,D n→0≤n→C n):Best2 d t D b r:=⟨h.1,fun n hn h0=>h.2 n (hs n hn h0) h0⟩
theorem best2_one (d:Dr) (t c b:Int):Best2 d t (fun n=>n=c) b (if 0≤c then (if c<t then (if b<c then (if r86 d c=true then c else b) else b) else b) else b):=by
 by_cases h0:0≤c
 case neg=>rw [if_neg h0]; exact ⟨.inl rfl,fun n hn h2 _ _=>by omega⟩
 rw [if_pos h0]
 by_cases h1:c<t
 case neg=>rw [if_neg h1]; exact ⟨.inl rfl,fun n hn _ h2 _=>by omega⟩
 rw [if_pos h1]
 by_cases h2:b<c
 case neg=>rw [if_neg h2]; exact ⟨.inl rfl,fun n hn _ _ _=>by omega⟩
 rw [if_pos h2]
 by_cases h3:r86 d c=true
 ·rw [if_pos h3]; exact ⟨.inr ⟨h0,h1,h2,h3⟩,fun n hn _ _ _=>by omega⟩
 ·rw [if_neg h3]; exact ⟨.inl rfl,fun n hn _ _ h4=>absurd (hn ▸ h4) h3⟩
theorem R92_1_best (d:Dr) (ti:Int) (kv:Nat) (b0:Int):∀ (m:List Sp) (b1:Int),Best2 d ti (fun n=>∃ x ∈ m,n=Int.tdiv ti 86400 * 86400 - (kv:Int) * 86400+x.hi) b1 (R92_1 d ti kv b0 m b1):=by
 intro m
 induction m with
 | nil=>intro b1; exact Best2.none.sub fun n ⟨x,hx,_⟩=>by simp at hx
 | cons x m ih =>
  intro b1
  have e:R92_1 d ti kv b0 (x :: m) b1=R92_1 d ti kv b0 m (if 0≤Int.tdiv ti 86400 * 86400 - (kv:Int) * 86400+x.hi then (if Int.tdiv ti 86400 * 86400 - (kv:Int) * 86400+x.hi<ti then (if b1<Int.tdiv ti 86400 * 86400 - (kv:Int) * 86400+x.hi then (if r86 d (Int.tdiv ti 86400 * 86400 - (kv:Int) * 86400+x.hi)=true then Int.tdiv ti 86400 * 86400 - (kv:Int) * 86400+x.hi else b1) else b1) else b1) else b1):=by
   rw [R92_1]; repeat' split
   all_goals rfl
  rw [e]
  refine ((best2_one d ti _ b1).trans (ih _)).sub fun n ⟨y,hy,hn⟩ _=>?_
  rcases List.mem_cons.1 hy with rfl|hy
  ·exact .inl hn
  ·exact .inr ⟨y,hy,hn⟩
theorem R92_0_best (d:Dr) (ti:Int) (b:Int):Best2 d ti (fun n=>∃ k:Nat,k<2∧∃ x ∈ d.hours,n=Int.tdiv ti 86400 * 86400 - (k:Int) * 86400+x.hi) b (R92_0 d ti 3 0 b):=by
 have st:∀ (m kv:Nat) (b:Int),kv<2→R92_0 d ti (m+1) kv b=R92_0 d ti m (kv+1) (R92_1 d ti kv b d.hours b):=fun m kv b hk=>by rw [R92_0,if_pos (by omega)]
 have e0:∀ b,R92_0 d ti (0+1) 2 b=b:=fun b=>by rw [R92_0,if_neg (by omega)]
 have e:R92_0 d ti 3 0 b=R92_1 d ti 1 (R92_1 d ti 0 b d.hours b) d.hours (R92_1 d ti 0 b d.hours b):=(st 2 0 b (by omega)).trans ((st 1 1 _ (by omega)).trans (e0 _))
 rw [e]
 refine ((R92_1_best d ti 0 b d.hours b).trans (R92_1_best d ti 1 _ d.hours _)).sub fun n ⟨k,hk,x,hx,hn⟩ _=>?_
 rcases (show k=0∨k=1 by omega) with rfl|rfl
 ·exact .inl ⟨x,hx,hn⟩
 ·exact .inr ⟨x,hx,hn⟩
theorem R92_4_best (d:Dr) (ti:Int) (jv:Nat) (b2:Int) (x:Sp) (k3:Nat) (b3 b:Int):Best2 d ti (fun n=>∃ j:Nat,j<2∧n=Int.tdiv (x.lo - 1) 86400 * 86400 - 86400+(j:Int) * 86400+(lget d.hours k3).hi) b (R92_4 d ti jv b2 x k3 b3 3 0 b):=by
 have st:∀ (m j:Nat) (b:Int),j<2→R92_4 d ti jv b2 x k3 b3 (m+1) j b=R92_4 d ti jv b2 x k3 b3 m (j+1) (if 0≤Int.tdiv (x.lo - 1) 86400 * 86400 - 86400+(j:Int) * 86400+(lget d.hours k3).hi then (if Int.tdiv (x.lo - 1) 86400 * 86400 - 86400+(j:Int) * 86400+(lget d.hours k3).hi<ti then (if b<Int.tdiv (x.lo - 1) 86400 * 86400 - 86400+(j:Int) * 86400+(lget d.hours k3).hi then (if r86 d (Int.tdiv (x.lo - 1) 86400 * 86400 - 86400+(j:Int) * 86400+(lget d.hours k3).hi)=true then Int.tdiv (x.lo - 1) 86400 * 86400 - 86400+(j:Int) * 86400+(lget d.hours k3).hi else b) else b) else b) else b):=by
  intro m j b hj
  rw [R92_4,if_pos (by omega)]
  repeat' split
  all_goals rfl
 have e:∀ b,R92_4 d ti jv b2 x k3 b3 (0+1) 2 b=b:=fun b=>by rw [R92_4,if_neg (by omega)]
 have e3:=(st 2 0 b (by omega)).trans ((st 1 1 _ (by omega)).trans (e _))
 rw [show R92_4 d ti jv b2 x k3 b3 3 0 b=_ from e3]
 refine ((best2_one d ti _ b).trans (best2_one d ti _ _)).sub fun n ⟨j,hj,hn⟩ _=>?_
 rcases (show j=0∨j=1 by omega) with rfl|rfl
 ·exact .inl hn
 ·exact .inr hn
theorem R92_3_best (d:Dr) (ti:Int) (jv:Nat) (b2:Int) (x:Sp):∀ (m:List Sp) (k3:Nat) (b:Int),d.hours.drop k3=m→Best2 d ti (fun n=>∃ y ∈ m,∃ j:Nat,j<2∧n=Int.tdiv (x.lo - 1) 86400 * 86400 - 86400+(j:Int) * 86400+y.hi) b (R92_3 d ti jv b2 x m k3 b):=by
 intro m
 induction m with
 | nil=>intro k3 b _; exact Best2.none.sub fun n ⟨y,hy,_⟩=>by simp at hy
 | cons y m ih =>
  intro k3 b hd
  obtain ⟨d1,d2,d3⟩:=drop_lget hd
  rw [R92_3]
  have h1:=R92_4_best d ti jv b2 x k3 b b
  rw [d1] at h1
  refine (h1.trans (ih (k3+1) _ d2)).sub fun n ⟨z,hz,j,hj,hn⟩ _=>?_
  rcases List.mem_cons.1 hz with rfl|hz
  ·exact .inl ⟨j,hj,hn⟩
  ·exact .inr ⟨z,hz,j,hj,hn⟩
def C3 (d:Dr) (m:List Sp) (n:Int):Prop:=∃ s ∈ m,0≤s.lo - 1∧(n=s.lo - 1∨∃ y ∈ d.hours,∃ j:Nat,j<2∧n=Int.tdiv (s.lo - 1) 86400 * 86400 - 86400+(j:Int) * 86400+y.hi)
theorem R92_2_best (d:Dr) (ti:Int):∀ (m:List Sp) (jv:Nat) (b:Int),Best2 d ti (C3 d m) b (R92_2 d ti m jv b):=by
 intro m
 induction m with
 | nil=>intro jv b; exact Best2.none.sub fun n ⟨y,hy,_⟩=>by simp at hy
 | cons x m ih =>
  intro jv b
  by_cases h0:0≤x.lo - 1
  ·have hone:=best2_one d ti (x.lo - 1) b
   have e:R92_2 d ti (x :: m) jv b=R92_2 d ti m (jv+1) (R92_3 d ti jv b x d.hours 0 (if 0≤x.lo - 1 then (if x.lo - 1<ti then (if b<x.lo - 1 then (if r86 d (x.lo - 1)=true then x.lo - 1 else b) else b) else b) else b)):=by
    rw [R92_2]
    repeat' split
    all_goals first|rfl|omega
   rw [e]
   refine ((hone.trans (R92_3_best d ti jv b x d.hours 0 _ rfl)).trans (ih (jv+1) _)).sub fun n ⟨s,hs,h1,hn⟩ _=>?_
   rcases List.mem_cons.1 hs with rfl|hs
   ·exact .inl hn
   ·exact .inr ⟨s,hs,h1,hn⟩
  ·have e:R92_2 d ti (x :: m) jv b=R92_2 d ti m (jv+1) b:=by rw [R92_2,if_neg h0]
   rw [e]
   refine (ih (jv+1) b).sub fun n ⟨s,hs,h1,hn⟩ _=>?_
   rcases List.mem_cons.1 hs with rfl|hs
   ·exact absurd h1 h0
   ·exact ⟨s,hs,h1,hn⟩
theorem cand2 {d:Dr} (hO:OkO d) {t b:Int} (ht:0≤t) (hno:¬ Op d t)
  (hC:∀ n,((∃ k:Nat,k<2∧∃ x ∈ d.hours,n=Int.tdiv t 86400 * 86400 - (k:Int) * 86400+x.hi)∨C3 d d.shut n)→0≤n→n<t→Op d n→n≤b) :
  ∀ (k:Nat) (n:Int),n=t - k→0≤n→Op d n→n≤b:=by
 intro k
 induction k using Nat.strongRecOn with
 | ind k ih =>
  intro n hn h0n ho
  have hk:k≠0:=fun e=>by subst e; rw [show n=t by omega] at ho; exact hno ho
  by_cases hprev:∃ n',n<n'∧n'≤t∧Op d n'
  ·obtain ⟨n',h1,h2,h3⟩:=hprev
   have:=ih (t - n').toNat (by omega) n' (by omega) (by omega) h3
   omega
  have hp:∀ n',n<n'→n'≤t→¬ Op d n':=fun n' h1 h2 h3=>hprev ⟨n',h1,h2,h3⟩
  obtain ⟨⟨x,hx,x1,x2⟩,hs⟩:=(op_iff h0n).1 ho
  have hxb:=hO.o.h x hx
  have td:=td_ok ht
  have hn1:¬ Op d (n+1):=hp (n+1) (by omega) (by omega)
  by_cases hsh:In d.shut (n+1)
  ·obtain ⟨s,hsm,s1,s2⟩:=hsh
   have:¬ (s.lo≤n∧n≤s.hi):=fun e=>hs ⟨s,hsm,e.1,e.2⟩
   exact hC n (.inr ⟨s,hsm,by omega,.inl (by omega)⟩) h0n (by omega) ho
  have hh:¬ In d.hours ((n+1) % 86400):=fun e=>hn1 ((op_iff (by omega)).2 ⟨e,hsh⟩)
  have hhi:x.hi=n % 86400:=by
   by_cases h0:n % 86400=86399
   ·omega
   ·have:¬ (x.lo≤(n+1) % 86400∧(n+1) % 86400≤x.hi):=fun e=>hh ⟨x,hx,e.1,e.2⟩
    omega
  by_cases h0:n - n % 86400=Int.tdiv t 86400 * 86400
  ·exact hC n (.inl ⟨0,by decide,x,hx,by omega⟩) h0n (by omega) ho
  by_cases h1:n - n % 86400=Int.tdiv t 86400 * 86400 - 86400
  ·exact hC n (.inl ⟨1,by decide,x,hx,by omega⟩) h0n (by omega) ho
  have hfar:n+86400≤t:=by omega
  have hq:¬ Op d (n+86400):=hp (n+86400) (by omega) hfar
  have hin:In d.shut (n+86400):=by
   by_cases q:In d.shut (n+86400)
   ·exact q
   ·exact absurd ((op_iff (by omega)).2 ⟨⟨x,hx,by omega,by omega⟩,q⟩) hq
  obtain ⟨s,hsm,s1,s2⟩:=hin
  have hns:¬ (s.lo≤n∧n≤s.hi):=fun e=>hs ⟨s,hsm,e.1,e.2⟩
  have hsb:=hO.o.s s hsm
  have ts:=td_ok (t:=s.lo - 1) (by omega)
  by_cases h2:Int.tdiv (s.lo - 1) 86400 * 86400=n - n % 86400
  ·exact hC n (.inr ⟨s,hsm,by omega,.inr ⟨x,hx,1,by decide,by omega⟩⟩) h0n (by omega) ho
  ·exact hC n (.inr ⟨s,hsm,by omega,.inr ⟨x,hx,0,by decide,by omega⟩⟩) h0n (by omega) ho
theorem r92_lx {d:Dr} (hO:OkO d) {t:Int} (ht:0≤t):Lx d t (r92 d t):=by
 unfold r92
 by_cases h:r86 d t=true
 ·rw [if_pos h]; exact .inr ⟨ht,by omega,h,fun n h1 h2=>by omega⟩
 rw [if_neg h]
 have hb:=(R92_0_best d t (-1)).trans (R92_2_best d t d.shut 0 _)
 generalize hr:R92_2 d t d.shut 0 (R92_0 d t 3 0 (-1))=r at hb
 have hc:=cand2 hO ht h hb.2
 have hc':∀ n,0≤n→r<n→n≤t→¬ Op d n:=fun n h0 h1 h2 h3=>by
  have:=hc (t - n).toNat n (by omega) h0 h3
  omega
 rcases hb.1 with e|e
 ·exact .inl ⟨e,fun n h1 h2=>hc' n h1 (by omega) h2⟩
 ·exact .inr ⟨e.1,by omega,e.2.2.2,fun n h1 h2=>hc' n (by omega) h1 h2⟩
theorem last_eq {d:Dr} (hO:OkO d) {t:Int} (ht:0≤t):r91 d t=r92 d t:=(r91_lx hO t).unique (r92_lx hO ht)
end House
end Go.Proofs
end
