import Derived.Test.YtohfdkdjfoonjaaGreatDoorEvH13
set_option linter.unusedSimpArgs false
set_option linter.unusedVariables false
namespace Go.Proofs
namespace House
open Go Go.RowKit Go.Aev
set_option maxRecDepth 100000
theorem R95_0_le (d:Dr) (t:Int):∀ (m:List Sp) (u:Int),R95_0 d t m u≤u∧(t≤u→t≤R95_0 d t m u)∧∀ y ∈ m,(t<Int.tdiv t 86400 * 86400+y.lo→R95_0 d t m u<Int.tdiv t 86400 * 86400+y.lo)∧(t≤Int.tdiv t 86400 * 86400+y.hi→R95_0 d t m u≤Int.tdiv t 86400 * 86400+y.hi):=by
 intro m
 induction m with
 | nil=>intro u; exact ⟨Int.le_refl _,fun h=>h,fun y hy=>by simp at hy⟩
 | cons x m ih =>
  intro u
  generalize hD:Int.tdiv t 86400 * 86400=D at ih ⊢
  have key:∀ v,v≤u→(t≤u→t≤v)→(t<D+x.lo→v<D+x.lo)→(t≤D+x.hi→v≤D+x.hi)→R95_0 d t (x :: m) u=R95_0 d t m v→R95_0 d t (x :: m) u≤u∧(t≤u→t≤R95_0 d t (x :: m) u)∧∀ y ∈ (x :: m),(t<D+y.lo→R95_0 d t (x :: m) u<D+y.lo)∧(t≤D+y.hi→R95_0 d t (x :: m) u≤D+y.hi):=by
   intro v h1 h2 h3 h4 e
   obtain ⟨i1,i2,i3⟩:=ih v
   rw [e]
   refine ⟨by omega,fun h=>i2 (h2 h),?_⟩
   intro y hy
   rcases List.mem_cons.1 hy with rfl|hy
   ·exact ⟨fun h=>by have:=h3 h; omega,fun h=>by have:=h4 h; omega⟩
   ·exact i3 y hy
  by_cases h1:t<D+x.lo
  ·by_cases h2:t≤D+x.hi
   ·exact key (min (min u (D+x.lo - 1)) (D+x.hi)) (by omega) (by omega) (by omega) (by omega) (by subst hD; rw [R95_0,if_pos h1,if_pos h2])
   ·exact key (min u (D+x.lo - 1)) (by omega) (by omega) (by omega) (by omega) (by subst hD; rw [R95_0,if_pos h1,if_neg h2])
  ·by_cases h2:t≤D+x.hi
   ·exact key (min u (D+x.hi)) (by omega) (by omega) (by omega) (by omega) (by subst hD; rw [R95_0,if_neg h1,if_pos h2])
   ·exact key u (by omega) (by omega) (by omega) (by omega) (by subst hD; rw [R95_0,if_neg h1,if_neg h2])
theorem R95_1_le (d:Dr) (t:Int):∀ (m:List Sp) (u:Int),R95_1 d t m u≤u∧(t≤u→t≤R95_1 d t m u)∧∀ y ∈ m,(t<y.lo→R95_1 d t m u<y.lo)∧(t≤y.hi→R95_1 d t m u≤y.hi):=by
 intro m
 induction m with
 | nil=>intro u; exact ⟨Int.le_refl _,fun h=>h,fun y hy=>by simp at hy⟩
 | cons x m ih =>
  intro u
  have key:∀ v,v≤u→(t≤u→t≤v)→(t<x.lo→v<x.lo)→(t≤x.hi→v≤x.hi)→R95_1 d t (x :: m) u=R95_1 d t m v→R95_1 d t (x :: m) u≤u∧(t≤u→t≤R95_1 d t (x :: m) u)∧∀ y ∈ (x :: m),(t<y.lo→R95_1 d t (x :: m) u<y.lo)∧(t≤y.hi→R95_1 d t (x :: m) u≤y.hi):=by
   intro v h1 h2 h3 h4 e
   obtain ⟨i1,i2,i3⟩:=ih v
   rw [e]
   refine ⟨by omega,fun h=>i2 (h2 h),?_⟩
   intro y hy
   rcases List.mem_cons.1 hy with rfl|hy
   ·exact ⟨fun h=>by have:=h3 h; omega,fun h=>by have:=h4 h; omega⟩
   ·exact i3 y hy
  by_cases h1:t<x.lo
  ·by_cases h2:t≤x.hi
   ·exact key (min (min u (x.lo - 1)) x.hi) (by omega) (by omega) (by omega) (by omega) (by rw [R95_1,if_pos h1,if_pos h2])
   ·exact key (min u (x.lo - 1)) (by omega) (by omega) (by omega) (by omega) (by rw [R95_1,if_pos h1,if_neg h2])
  ·by_cases h2:t≤x.hi
   ·exact key (min u x.hi) (by omega) (by omega) (by omega) (by omega) (by rw [R95_1,if_neg h1,if_pos h2])
   ·exact key u (by omega) (by omega) (by omega) (by omega) (by rw [R95_1,if_neg h1,if_neg h2])
theorem r95_ge {d:Dr} {t:Int} (ht:0≤t):t≤r95 d t∧r95 d t≤Int.tdiv t 86400 * 86400+86399:=by
 have hq:=td_ok ht
 have h0:=R95_0_le d t d.hours (Int.tdiv t 86400 * 86400+86399)
 have h1:=R95_1_le d t d.shut (R95_0 d t d.hours (Int.tdiv t 86400 * 86400+86399))
 unfold r95
 exact ⟨h1.2.1 (h0.2.1 (by omega)),by omega⟩
theorem edge_shut {d:Dr} (hD:OkD d) {t:Int} (ht:0≤t) (hno:¬ Op d t):∀ n,t≤n→n≤r95 d t→¬ Op d n:=by
 intro n h1 h2 ho
 have hq:=td_ok ht
 have hg:=r95_ge (d:=d) ht
 have h3:=R95_0_le d t d.hours (Int.tdiv t 86400 * 86400+86399)
 have h4:=R95_1_le d t d.shut (R95_0 d t d.hours (Int.tdiv t 86400 * 86400+86399))
 have he:r95 d t=R95_1 d t d.shut (R95_0 d t d.hours (Int.tdiv t 86400 * 86400+86399)):=rfl
 have ho:=(op_iff (by omega)).1 ho
 refine hno ((op_iff ht).2 ⟨?_,?_⟩)
 ·obtain ⟨y,hy,h5,h6⟩:=ho.1
  have h7:=h3.2.2 y hy
  have hb:=hD.h y hy
  exact ⟨y,hy,by omega,by omega⟩
 ·rintro ⟨y,hy,h5,h6⟩
  have h7:=h4.2.2 y hy
  exact ho.2 ⟨y,hy,by omega,by omega⟩
theorem R142_0_none (d:Dr) (t:Int):∀ (m:List Sp) (u:Int),¬ In m (r160 t).2→R142_0 d t m u=u:=by
 intro m
 induction m with
 | nil=>intro u _; rfl
 | cons x m ih =>
  intro u h
  rw [R142_0]
  by_cases h1:r133 x.lo x.hi (r160 t).2=true
  ·exact absurd ⟨x,by simp,(r133_iff.1 h1).1,(r133_iff.1 h1).2⟩ h
  ·rw [if_neg h1]
   exact ih u (fun ⟨y,hy,hz⟩=>h ⟨y,by simp [hy],hz⟩)
theorem R95_0_keep (d:Dr) (t:Int):∀ (m:List Sp) (u:Int),(∀ y ∈ m,u<Int.tdiv t 86400 * 86400+y.lo∧u<Int.tdiv t 86400 * 86400+y.hi)→R95_0 d t m u=u:=by
 intro m
 induction m with
 | nil=>intro u _; rfl
 | cons x m ih =>
  intro u h
  have hx:=h x (by simp)
  have hm:=ih u (fun y hy=>h y (by simp [hy]))
  rw [R95_0]
  split<;>split<;>(first|exact hm|(rw [show min (min u (Int.tdiv t 86400 * 86400+x.lo - 1)) (Int.tdiv t 86400 * 86400+x.hi)=u by omega]; exact hm)|(rw [show min u (Int.tdiv t 86400 * 86400+x.lo - 1)=u by omega]; exact hm)|(rw [show min u (Int.tdiv t 86400 * 86400+x.hi)=u by omega]; exact hm))
theorem hours_end (d:Dr) {t:Int} (ht:0≤t):∀ (m:List Sp) (u b:Int),Ord m→Bd 86399 m→In m (r160 t).2→Int.tdiv t 86400 * 86400+86399≤b→R142_0 d t m u=R95_0 d t m b:=by
 have hq:=td_ok ht
 have hr:=r160_ok ht
 intro m
 induction m with
 | nil=>rintro u b _ _ ⟨y,hy,_⟩ _; simp at hy
 | cons x m ih =>
  intro u b ho hb hin hu
  obtain ⟨o1,o2⟩:=List.pairwise_cons.1 ho
  have hx:=hb x (by simp)
  have hb':Bd 86399 m:=fun y hy=>hb y (by simp [hy])
  rw [R142_0,R95_0]
  by_cases h1:r133 x.lo x.hi (r160 t).2=true
  ·have h2:=r133_iff.1 h1
   rw [if_pos h1,if_neg (by omega),if_pos (by omega)]
   rw [R142_0_none d t m _ (fun ⟨y,hy,h3,h4⟩=>by have:=o1 y hy; omega)]
   rw [show min b (Int.tdiv t 86400 * 86400+x.hi)=Int.tdiv t 86400 * 86400+x.hi by omega]
   rw [R95_0_keep d t m _ (fun y hy=>by have:=o1 y hy; have:=hb' y hy; omega)]
   omega
  ·rw [if_neg h1]
   have h2:¬ (x.lo≤(r160 t).2∧(r160 t).2≤x.hi):=fun h=>h1 (r133_iff.2 h)
   have hin':In m (r160 t).2:=by
    obtain ⟨y,hy,h3,h4⟩:=hin
    rcases List.mem_cons.1 hy with rfl|hy
    ·exact absurd ⟨h3,h4⟩ h2
    ·exact ⟨y,hy,h3,h4⟩
   have h5:x.hi<(r160 t).2:=by
    obtain ⟨y,hy,h3,h4⟩:=hin'
    have:=o1 y hy; omega
   rw [if_neg (by omega),if_neg (by omega)]
   exact ih u b o2 hb' hin' hu
theorem shut_end (d:Dr) {t:Int}:∀ (m:List Sp) (u:Int),Bd 1073741823 m→¬ In m t→R142_1 d t m u=R95_1 d t m u:=by
 intro m
 induction m with
 | nil=>intro u _ _; rfl
 | cons x m ih =>
  intro u hb hn
  have hx:=hb x (by simp)
  have hb':Bd 1073741823 m:=fun y hy=>hb y (by simp [hy])
  have hn':¬ In m t:=fun ⟨y,hy,hz⟩=>hn ⟨y,by simp [hy],hz⟩
  have h1:¬ (x.lo≤t∧t≤x.hi):=fun h=>hn ⟨x,by simp,h.1,h.2⟩
  rw [R142_1,R95_1]
  by_cases h2:t<x.lo
  ·rw [if_pos h2,if_pos h2,if_pos (by omega),show min (min u (x.lo - 1)) x.hi=min u (x.lo - 1) by omega]
   exact ih _ hb' hn'
  ·rw [if_neg h2,if_neg h2,if_neg (by omega)]
   exact ih _ hb' hn'
theorem until_edge {d:Dr} (hO:OkO d) {t:Int} (ht:0≤t) (ho:Op d t):r142 d t=r95 d t:=by
 have h:=(op_iff ht).1 ho
 have hr:=r160_ok ht
 unfold r142 r95
 rw [hours_end d ht d.hours t _ hO.h hO.o.h (by rw [hr.2.2.2.2]; exact h.1) (Int.le_refl _)]
 exact shut_end d d.shut _ hO.o.s h.2
def pcs (d:Dr) (shi:Int):Nat→Int→List Sp
 | 0,_=>[]
 | m+1,t=>if t≤shi then (if r86 d t=true then (⟨t,min (r95 d t) shi⟩:Sp) :: pcs d shi m (min (r95 d t) shi+1) else pcs d shi m (min (r95 d t) shi+1)) else []
theorem nx_op {d:Dr} (hO:OkO d) {t:Int} (ht:0≤t∧t≤1073741823) (ho:Op d t):r89 d t=t:=by
 rcases r89_nx hO ht.1 with ⟨_,h⟩|⟨h1,h2,h3,h4⟩
 ·exact absurd ho (h t (Int.le_refl _) ht.2)
 ·by_cases h:r89 d t=t
  ·exact h
  ·exact absurd ho (h4 t (Int.le_refl _) (by omega))
theorem nx_skip {d:Dr} (hO:OkO d) {t u:Int} (ht:0≤t) (hu:t≤u) (hno:∀ n,t≤n→n<u→¬ Op d n):r89 d t=r89 d u:=by
 refine (r89_nx hO ht).unique ?_
 rcases r89_nx hO (t:=u) (by omega) with ⟨h1,h2⟩|⟨h1,h2,h3,h4⟩
 ·refine .inl ⟨h1,fun n h3 h4=>?_⟩
  by_cases h:n<u
  ·exact hno n h3 h
  ·exact h2 n (by omega) h4
 ·refine .inr ⟨by omega,h2,h3,fun n h5 h6=>?_⟩
  by_cases h:n<u
  ·exact hno n h5 h
  ·exact h4 n (by omega) h6
theorem pcs_eq (hours shut:List Sp) (slo shi:Int) (hO:OkO (⟨hours,shut⟩:Dr)) (hs:0≤slo∧shi≤1073741823):∀ (n:Nat) (t:Int) (k m:Nat),slo≤t→t≤shi+1→shi+1 - t≤(n:Int)→shi+1 - t<(k:Int)→shi+1 - t<(m:Int)→R140_0 hours shut slo shi k (r89 (⟨hours,shut⟩:Dr) t)=pcs (⟨hours,shut⟩:Dr) shi m t:=by
 intro n
 induction n with
 | zero =>
  intro t k m h1 h2 h3 h4 h5
  obtain ⟨k,rfl⟩:∃ k',k=k'+1:=⟨k - 1,by omega⟩
  obtain ⟨m,rfl⟩:∃ m',m=m'+1:=⟨m - 1,by omega⟩
  have hg:=nx_ge hO (t:=t) (by omega)
  rw [R140_0,pcs,if_neg (by omega),if_neg (by omega)]
 | succ n ih =>
  intro t k m h1 h2 h3 h4 h5
  generalize hd:(⟨hours,shut⟩:Dr)=d at *
  obtain ⟨k,rfl⟩:∃ k',k=k'+1:=⟨k - 1,by omega⟩
  obtain ⟨m,rfl⟩:∃ m',m=m'+1:=⟨m - 1,by omega⟩
  have hg:=nx_ge hO (t:=t) (by omega)
  by_cases h6:t≤shi
  case neg=>rw [R140_0,pcs,if_neg (by omega),if_neg (by omega)]
  have he:=r95_ge (d:=d) (t:=t) (by omega)
  by_cases h7:r86 d t=true
  ·have hn:=nx_op hO (t:=t) (by omega) h7
   have hu:=until_edge hO (t:=t) (by omega) h7
   have e2:(r141 slo shi t (r142 d t)).2=min (r95 d t) shi:=by rw [(r141_eq slo shi t (r142 d t)).2,hu]; omega
   have e1:(r141 slo shi t (r142 d t)).1=t:=by rw [(r141_eq slo shi t (r142 d t)).1]; omega
   rw [hn,R140_0,hd,pcs,if_pos h6,if_pos h6,if_pos h7,e1,e2]
   congr 1
   exact ih _ _ _ (by omega) (by omega) (by omega) (by omega) (by omega)
  ·rw [pcs,if_pos h6,if_neg h7]
   rw [nx_skip hO (t:=t) (u:=min (r95 d t) shi+1) (by omega) (by omega) (fun q h8 h9=>edge_shut hO.o (by omega) h7 q h8 (by omega))]
   exact ih _ _ _ (by omega) (by omega) (by omega) (by omega) (by omega)
theorem r140_pcs (hours shut:List Sp) (slo shi:Int) (hO:OkO (⟨hours,shut⟩:Dr)) (hs:0≤slo∧slo≤shi∧shi≤1073741823):r140 hours shut slo shi=pcs (⟨hours,shut⟩:Dr) shi ((shi+1 - slo).toNat+1) slo :=
 pcs_eq hours shut slo shi hO ⟨hs.1,hs.2.2⟩ (shi+1 - slo).toNat slo _ _ (Int.le_refl _) (by omega) (by omega) (by omega) (by omega)
def joinS (l:List Sp) (x:Sp):List Sp:=if 0<l.length∧(lget l (l.length - 1)).hi+1=x.lo then l.set (l.length - 1) ⟨(lget l (l.length - 1)).lo,x.hi⟩ else l++[x]
end House
end Go.Proofs
