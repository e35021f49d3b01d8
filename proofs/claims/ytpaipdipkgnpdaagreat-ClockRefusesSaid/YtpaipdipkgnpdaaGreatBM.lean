import Derived.Test.YtpaipdipkgnpdaaGreatEvW17
section
set_option linter.unusedSimpArgs false
set_option linter.unusedVariables false
namespace Go.Proofs
namespace Clock
open Go Go.RowKit Go.Aev
def legOk (x:Lg):Prop:=1≤x.secs∧x.secs≤36000∧(x.rate=0∨900000≤x.rate∧x.rate≤1100000)
theorem r123_iff (x:Lg):r123 x=true↔legOk x:=by
 unfold r123 legOk
 repeat' split
 all_goals simp only [decide_eq_true_eq,Bool.false_eq_true,false_iff,true_iff]
 all_goals omega
theorem R66_69 (rn:Rn):∀ (l:List Lg) (k i:Nat),R69_0 rn l k=R66_0 rn l i
 | [],_,_=>rfl
 | x :: l,k,i=>by
  have h:=r123_iff x
  unfold legOk at h
  rw [R69_0,R66_0,R66_69 rn l (k+1) (i+1)]
  repeat' split
  all_goals first|rfl|(exfalso; simp_all; done)|(exfalso; simp_all; omega)
theorem R69_ok (rn:Rn):∀ (l:List Lg) (k:Nat),R69_0 rn l k=.inr ()→∀ x ∈ l,legOk x
 | [],_,_,x,hx=>by simp at hx
 | y :: l,k,h,x,hx=>by
  rw [R69_0] at h
  split at h
  ·rename_i hy
   rcases List.mem_cons.1 hx with rfl|hx
   ·exact (r123_iff x).1 hy
   ·exact R69_ok rn l (k+1) h x hx
  ·simp at h
def endT:Int→Int→List Lg→Int × Int
 | t,m,[]=>(t,m)
 | t,m,x :: l=>endT (t+x.secs) (m+x.secs * x.rate) l
theorem leg_mul {x:Lg} (h:legOk x):0≤x.secs * x.rate∧x.secs * x.rate≤39600000000:=by
 obtain ⟨h1,h2,h3⟩:=h
 have hr:0≤x.rate∧x.rate≤1100000:=by omega
 refine ⟨Int.mul_nonneg (by omega) hr.1,?_⟩
 calc x.secs * x.rate≤36000 * x.rate:=Int.mul_le_mul_of_nonneg_right h2 hr.1
  _≤36000 * 1100000:=Int.mul_le_mul_of_nonneg_left hr.2 (by decide)
  _=39600000000:=by decide
theorem endT_ge:∀ (l:List Lg) (t m:Int),(∀ x ∈ l,legOk x)→t≤(endT t m l).1∧m≤(endT t m l).2
 | [],t,m,_=>⟨Int.le_refl _,Int.le_refl _⟩
 | x :: l,t,m,h=>by
  have h1:=h x (by simp)
  have h2:=endT_ge l (t+x.secs) (m+x.secs * x.rate) (fun y hy=>h y (by simp [hy]))
  have h3:=leg_mul h1
  have h4:=h1.1
  rw [endT]; omega
theorem r118_e {t m:Int} {x:Lg} (hx:legOk x) (ht:0≤t∧t≤1000000000000) (hm:0≤m∧m≤1000000000000000):r118 t m x.secs x.rate=(t+x.secs,m+x.secs * x.rate):=by
 have h1:=leg_mul hx
 have h2:=hx.1; have h3:=hx.2.1
 unfold r118
 rw [wr64 (n:=x.secs * x.rate) (by omega),wr64 (n:=m+x.secs * x.rate) (by omega),wr64 (n:=t+x.secs) (by omega)]
theorem R116_e (rn:Rn):∀ (l:List Lg) (k:Nat) (t m:Int),(∀ x ∈ l,legOk x)→0≤t→t+36000 * l.length≤1000000000000→0≤m→m+39600000000 * l.length≤1000000000000000→R116_159_0 rn l k t m t m=endT t m l
 | [],k,t,m,_,_,_,_,_=>rfl
 | x :: l,k,t,m,h,h1,h2,h3,h4=>by
  have hx:=h x (by simp)
  have hm:=leg_mul hx
  have hs:=hx.1; have hs2:=hx.2.1
  simp only [List.length_cons] at h2 h4
  rw [R116_159_0,r118_e hx (by omega) (by omega),endT]
  exact R116_e rn l (k+1) _ _ (fun y hy=>h y (by simp [hy])) (by omega) (by omega) (by omega) (by omega)
theorem R71_e (rn:Rn):∀ (l:List Lg) (k:Nat) (t m:Int),(∀ x ∈ l,legOk x)→0≤t→t+36000 * l.length≤1000000000000→R71_0 rn l k t=(endT t m l).1
 | [],k,t,m,_,_,_=>rfl
 | x :: l,k,t,m,h,h1,h2=>by
  have hx:=h x (by simp)
  have hs:=hx.1; have hs2:=hx.2.1
  simp only [List.length_cons] at h2
  rw [R71_0,wr64 (by omega),endT]
  exact R71_e rn l (k+1) _ _ (fun y hy=>h y (by simp [hy])) (by omega) (by omega)
theorem R72_e (rn:Rn) (a:Int):∀ (l:List Lg) (k:Nat) (t m:Int),(∀ x ∈ l,legOk x)→0≤t→t+36000 * l.length≤1000000000000→0≤m→m+39600000000 * l.length≤1000000000000000→(endT t m l).1≤a→a≤1000000000000→R72_0 rn a l k m t=(endT t m l).2
 | [],k,t,m,_,_,_,_,_,_,_=>rfl
 | x :: l,k,t,m,h,h1,h2,h3,h4,h5,h6=>by
  have hx:=h x (by simp)
  have hm:=leg_mul hx
  have hs:=hx.1; have hs2:=hx.2.1
  have hl:=fun y (hy:y ∈ l)=>h y (by simp [hy])
  simp only [List.length_cons] at h2 h4
  rw [endT] at h5 ⊢
  have hg:=(endT_ge l (t+x.secs) (m+x.secs * x.rate) hl).1
  have e:min (max 0 (a - t)) x.secs=x.secs:=by omega
  rw [R72_0,wr64 (n:=a - t) (by omega),e,wr64 (n:=x.secs * x.rate) (by omega),wr64 (n:=m+x.secs * x.rate) (by omega),wr64 (n:=t+x.secs) (by omega)]
  exact R72_e rn a l (k+1) _ _ hl (by omega) (by omega) (by omega) (by omega) h5 h6
theorem r69_66 (rn:Rn):r69 rn=r66 rn:=by
 unfold r69 r66
 by_cases h40:40<(rn.legs.length:Int)
 ·simp [h40]
 ·rw [if_neg h40,if_neg h40]
  have e0:r100 rn.start=true↔0≤rn.start∧rn.start≤1073741823:=by unfold r100; split<;>simp<;>omega
  by_cases hs:r100 rn.start=true
  ·have h1:=e0.1 hs
   rw [if_pos hs,if_neg (show ¬ rn.start<0 by omega),if_neg (show ¬ 1073741823<rn.start by omega)]
   by_cases hm:rn.micro<0
   ·rw [if_pos hm,if_pos hm]
   ·rw [if_neg hm,if_neg hm]
    by_cases hm2:43199999999<rn.micro
    ·rw [if_pos hm2,if_pos hm2]
    ·rw [if_neg hm2,if_neg hm2,R66_69 rn rn.legs 0 0]
     cases hR:R66_0 rn rn.legs 0 with
     | inl q=>rfl
     | inr u =>
      have hok:=R69_ok rn rn.legs 0 (by rw [R66_69 rn rn.legs 0 0,hR])
      have a1:=R116_e rn rn.legs 0 rn.start rn.micro hok (by omega) (by omega) (by omega) (by omega)
      have a2:=R71_e rn rn.legs 0 rn.start rn.micro hok (by omega) (by omega)
      have a3:=endT_ge rn.legs rn.start rn.micro hok
      simp only [onSum]
      have e1:(r116 rn).1=(endT rn.start rn.micro rn.legs).1:=by unfold r116; rw [a1]
      have e2:(r116 rn).2=(endT rn.start rn.micro rn.legs).2:=by unfold r116; rw [a1]
      have e3:r71 rn=(endT rn.start rn.micro rn.legs).1:=a2
      rw [e1,e2,e3]
      have e4:r100 (endT rn.start rn.micro rn.legs).1=true↔(endT rn.start rn.micro rn.legs).1≤1073741823:=by unfold r100; split<;>simp<;>omega
      by_cases he:(endT rn.start rn.micro rn.legs).1≤1073741823
      ·rw [if_pos (e4.2 he),if_neg (show ¬ 1073741823<(endT rn.start rn.micro rn.legs).1 by omega)]
       have a4:=R72_e rn (endT rn.start rn.micro rn.legs).1 rn.legs 0 rn.start rn.micro hok (by omega) (by omega) (by omega) (by omega) (Int.le_refl _) (by omega)
       have e5:r72 rn (endT rn.start rn.micro rn.legs).1=(endT rn.start rn.micro rn.legs).2:=a4
       rw [e5]
      ·rw [if_neg (fun h=>he (e4.1 h)),if_pos (show 1073741823<(endT rn.start rn.micro rn.legs).1 by omega)]
  ·rw [if_neg hs]
   by_cases h:rn.start<0
   ·rw [if_pos h]
   ·rw [if_neg h,if_pos (by have:=mt e0.2 hs; omega)]
end Clock
end Go.Proofs
end
section
set_option linter.unusedSimpArgs false
set_option linter.unusedVariables false
namespace Go.Proofs
namespace Clock
open Go Go.RowKit Go.Aev
theorem R72_past (rn:Rn) (a:Int):∀ (l:List Lg) (k:Nat) (t m:Int),(∀ x ∈ l,legOk x)→0≤t→t+36000 * l.length≤1000000000000→0≤m→m≤1000000000000000→0≤a→a≤t→R72_0 rn a l k m t=m
 | [],k,t,m,_,_,_,_,_,_,_=>rfl
 | x :: l,k,t,m,h,h1,h2,h3,h4,h5,h6=>by
  have hx:=h x (by simp)
  have hs:=hx.1; have hs2:=hx.2.1
  have hl:=fun y (hy:y ∈ l)=>h y (by simp [hy])
  simp only [List.length_cons] at h2
  have e:min (max 0 (a - t)) x.secs=0:=by omega
  rw [R72_0,wr64 (n:=a - t) (by omega),e,Int.zero_mul,wr64 (n:=0) (by omega),Int.add_zero,wr64 (n:=m) (by omega),wr64 (n:=t+x.secs) (by omega)]
  exact R72_past rn a l (k+1) _ _ hl (by omega) (by omega) h3 h4 h5 (by omega)
theorem R67_e (rn:Rn) (a:Int):∀ (l:List Lg) (k i:Nat) (t m:Int),(∀ x ∈ l,legOk x)→0≤t→t+36000 * l.length≤1000000000000→0≤m→m+39600000000 * l.length≤1000000000000000→t≤a→a≤1000000000000 →
  (R67_159_0 rn a l k t m=.inl (IntKind.i64.wrap (Int.tdiv (R72_0 rn a l i m t) 1000000)))∨(R67_159_0 rn a l k t m=.inr ()∧(endT t m l).1≤a)
 | [],k,i,t,m,_,_,_,_,_,h5,_=>.inr ⟨rfl,h5⟩
 | x :: l,k,i,t,m,h,h1,h2,h3,h4,h5,h6=>by
  have hx:=h x (by simp)
  have hm:=leg_mul hx
  have hs:=hx.1; have hs2:=hx.2.1
  have hr:0≤x.rate∧x.rate≤1100000:=by have:=hx.2.2; omega
  have hl:=fun y (hy:y ∈ l)=>h y (by simp [hy])
  simp only [List.length_cons] at h2 h4
  rw [R67_159_0,wr64 (n:=a - t) (by omega)]
  by_cases hc:a - t<x.secs
  ·have hp:0≤(a - t) * x.rate∧(a - t) * x.rate≤39600000000:=by
    refine ⟨Int.mul_nonneg (by omega) hr.1,?_⟩
    calc (a - t) * x.rate≤36000 * x.rate:=Int.mul_le_mul_of_nonneg_right (by omega) hr.1
     _≤36000 * 1100000:=Int.mul_le_mul_of_nonneg_left hr.2 (by decide)
     _=39600000000:=by decide
   left
   have e:min (max 0 (a - t)) x.secs=a - t:=by omega
   rw [if_pos hc,R72_0,wr64 (n:=a - t) (by omega),e,wr64 (n:=(a - t) * x.rate) (by omega),wr64 (n:=m+(a - t) * x.rate) (by omega),wr64 (n:=t+x.secs) (by omega)]
   rw [R72_past rn a l (i+1) (t+x.secs) (m+(a - t) * x.rate) hl (by omega) (by omega) (by omega) (by omega) (by omega) (by omega)]
   unfold r119 r118
   rw [wr64 (n:=(a - t) * x.rate) (by omega),wr64 (n:=m+(a - t) * x.rate) (by omega)]
  ·rw [if_neg hc,r118_e hx (by omega) (by omega)]
   have e:min (max 0 (a - t)) x.secs=x.secs:=by omega
   rw [R72_0,wr64 (n:=a - t) (by omega),e,wr64 (n:=x.secs * x.rate) (by omega),wr64 (n:=m+x.secs * x.rate) (by omega),wr64 (n:=t+x.secs) (by omega),endT]
   exact R67_e rn a l (k+1) (i+1) _ _ hl (by omega) (by omega) (by omega) (by omega) (by omega) h6
theorem r66_ok {rn:Rn} (h:r66 rn=0):rn.legs.length≤40∧0≤rn.start∧rn.start≤1073741823∧0≤rn.micro∧rn.micro≤43199999999∧(∀ x ∈ rn.legs,legOk x)∧(endT rn.start rn.micro rn.legs).1≤1073741823∧(endT rn.start rn.micro rn.legs).2≤43199999999:=by
 unfold r66 at h
 split at h
 ·simp at h
 split at h
 ·simp at h
 split at h
 ·simp at h
 split at h
 ·simp at h
 split at h
 ·simp at h
 rename_i h1 h2 h3 h4 h5
 cases hR:R66_0 rn rn.legs 0 with
 | inl q =>
  rw [hR] at h
  have:∀ (l:List Lg) (i:Nat) (q:Int),R66_0 rn l i=.inl q→q=1:=by
   intro l
   induction l with
   | nil=>intro i q e; simp [R66_0] at e
   | cons x l ih =>
    intro i q e
    rw [R66_0] at e
    repeat' split at e
    all_goals first|(simp only [Sum.inl.injEq] at e; exact e.symm)|exact ih _ _ e
  have:=this _ _ _ hR
  simp only [onSum] at h; omega
 | inr u =>
  rw [hR] at h
  have hok:=R69_ok rn rn.legs 0 (by rw [R66_69 rn rn.legs 0 0,hR])
  have a2:=R71_e rn rn.legs 0 rn.start rn.micro hok (by omega) (by omega)
  have a3:=endT_ge rn.legs rn.start rn.micro hok
  have e3:r71 rn=(endT rn.start rn.micro rn.legs).1:=a2
  simp only [onSum,e3] at h
  split at h
  ·simp at h
  rename_i he
  have a4:=R72_e rn (endT rn.start rn.micro rn.legs).1 rn.legs 0 rn.start rn.micro hok (by omega) (by omega) (by omega) (by omega) (Int.le_refl _) (by omega)
  have e5:r72 rn (endT rn.start rn.micro rn.legs).1=(endT rn.start rn.micro rn.legs).2:=a4
  rw [e5] at h
  split at h
  ·simp at h
  exact ⟨by omega,by omega,by omega,by omega,by omega,hok,by omega,by omega⟩
theorem r67_e {rn:Rn} (h:r66 rn=0) (a:Int):r67 rn a=if a<rn.start∨r71 rn<a then (0,3) else (IntKind.i64.wrap (Int.tdiv (r72 rn a) 1000000),0):=by
 obtain ⟨h1,h2,h3,h4,h5,hok,h6,h7⟩:=r66_ok h
 have a1:=R116_e rn rn.legs 0 rn.start rn.micro hok (by omega) (by omega) (by omega) (by omega)
 have e1:(r116 rn).1=(endT rn.start rn.micro rn.legs).1:=by unfold r116; rw [a1]
 have e2:(r116 rn).2=(endT rn.start rn.micro rn.legs).2:=by unfold r116; rw [a1]
 have e3:r71 rn=(endT rn.start rn.micro rn.legs).1:=R71_e rn rn.legs 0 rn.start rn.micro hok (by omega) (by omega)
 unfold r67
 rw [r69_66,if_pos h,e1,e2,e3]
 by_cases c1:a<rn.start
 ·rw [if_pos c1,if_pos (.inl c1)]
 by_cases c2:(endT rn.start rn.micro rn.legs).1<a
 ·rw [if_neg c1,if_pos c2,if_pos (.inr c2)]
 rw [if_neg c1,if_neg c2,if_neg (by omega)]
 rcases R67_e rn a rn.legs 0 0 rn.start rn.micro hok (by omega) (by omega) (by omega) (by omega) (by omega) (by omega) with e|⟨e,e'⟩
 ·rw [e]; rfl
 ·rw [e]
  have a4:=R72_e rn a rn.legs 0 rn.start rn.micro hok (by omega) (by omega) (by omega) (by omega) e' (by omega)
  have e5:r72 rn a=(endT rn.start rn.micro rn.legs).2:=a4
  rw [e5]; rfl
end Clock
end Go.Proofs
end
section
set_option linter.unusedSimpArgs false
set_option linter.unusedVariables false
namespace Go.Proofs
namespace Clock
open Go Go.RowKit Go.Aev
theorem r142_iff (lo hi a b:Int):r142 lo hi a b=true↔a≤lo∧lo≤hi∧hi≤b:=by
 unfold r142; repeat' split
 all_goals simp only [decide_eq_true_eq,Bool.false_eq_true,false_iff,true_iff]
 all_goals omega
theorem r78_iff (lo hi a b:Int):r78 lo hi a b=true↔a≤lo∧lo≤hi∧hi≤b:=by
 unfold r78; repeat' split
 all_goals simp only [decide_eq_true_eq,Bool.false_eq_true,false_iff,true_iff]
 all_goals omega
theorem r85_iff (lo hi:Int):r85 lo hi=true↔0≤lo∧lo≤hi∧hi≤1073741823:=r142_iff _ _ _ _
theorem r141_iff (n:Int):r141 n=true↔1≤n∧n≤1099511627776:=by
 unfold r141; split<;>simp<;>omega
theorem r143_iff (s:Se) (x:Stp):r143 s x=true↔s.zHi<x.at_∧x.at_<s.eLo∧0≤x.lo∧x.lo≤x.hi∧x.hi≤36000:=by
 have h:=r142_iff x.lo x.hi 0 36000
 unfold r143
 by_cases h1:s.zHi<x.at_
 ·rw [if_pos h1]
  by_cases h2:x.at_<s.eLo
  ·rw [if_pos h2,h]; omega
  ·rw [if_neg h2]; simp; omega
 ·rw [if_neg h1]; simp; omega
theorem R82_77 (s:Se) (h1:0≤s.zHi∧s.zHi≤43199) (h2:0≤s.eLo∧s.eLo≤43199):∀ (l:List Stp) (k:Nat),(R82_0 s l k=.inl false∧R77_0 s l k=.inl 1)∨(R82_0 s l k=.inr ()∧R77_0 s l k=.inr ())
 | [],k=>.inr ⟨rfl,rfl⟩
 | x :: l,k=>by
  have ih:=R82_77 s h1 h2 l (k+1)
  have e1:=r143_iff s x
  have e2:=r78_iff x.lo x.hi 0 36000
  rw [R82_0,R77_0,wr64 (n:=s.zHi+1) (by omega),wr64 (n:=s.eLo - 1) (by omega)]
  by_cases c:r143 s x=true
  ·have c':=e1.1 c
   rw [if_pos c,if_neg (show ¬ x.at_<s.zHi+1 by omega),if_neg (show ¬ s.eLo - 1<x.at_ by omega),if_pos (e2.2 (by omega))]
   by_cases d:0<(k:Int)
   ·rw [if_pos d,if_pos d]
    by_cases e:x.at_≤(lget s.stops (k - 1)).at_
    ·rw [if_pos e,if_pos e]; exact .inl ⟨rfl,rfl⟩
    ·rw [if_neg e,if_neg e]; exact ih
   ·rw [if_neg d,if_neg d]; exact ih
  ·left
   rw [if_neg c]
   refine ⟨rfl,?_⟩
   by_cases d1:x.at_<s.zHi+1
   ·rw [if_pos d1]
   rw [if_neg d1]
   by_cases d2:s.eLo - 1<x.at_
   ·rw [if_pos d2]
   rw [if_neg d2,if_neg (fun h=>c (e1.2 (by have:=e2.1 h; omega)))]
theorem r82_77 (s:Se) (hl:¬ 4<(s.stops.length:Int)):(r82 s=true∧r77 s=0)∨(r82 s=false∧r77 s=1):=by
 unfold r82 r77
 rw [if_neg hl]
 have b1:=r141_iff s.id
 have b2:=r85_iff s.inLo s.inHi; have c2:=r78_iff s.inLo s.inHi 0 1073741823
 have b3:=r85_iff s.outLo s.outHi; have c3:=r78_iff s.outLo s.outHi 0 1073741823
 have b4:=r142_iff s.rLo s.rHi 900000 1100000; have c4:=r78_iff s.rLo s.rHi 900000 1100000
 have b5:=r142_iff s.zLo s.zHi 0 43199; have c5:=r78_iff s.zLo s.zHi 0 43199
 have b6:=r142_iff s.eLo s.eHi 0 43199; have c6:=r78_iff s.eLo s.eHi 0 43199
 have i1:r141 s.id=true↔¬ (s.id<1)∧¬ (1099511627776<s.id):=by rw [b1]; omega
 have i2:r78 s.inLo s.inHi 0 1073741823=r85 s.inLo s.inHi:=Bool.eq_iff_iff.2 (c2.trans b2.symm)
 have i3:r78 s.outLo s.outHi 0 1073741823=r85 s.outLo s.outHi:=Bool.eq_iff_iff.2 (c3.trans b3.symm)
 have i4:r78 s.rLo s.rHi 900000 1100000=r142 s.rLo s.rHi 900000 1100000:=Bool.eq_iff_iff.2 (c4.trans b4.symm)
 have i5:r78 s.zLo s.zHi 0 43199=r142 s.zLo s.zHi 0 43199:=Bool.eq_iff_iff.2 (c5.trans b5.symm)
 have i6:r78 s.eLo s.eHi 0 43199=r142 s.eLo s.eHi 0 43199:=Bool.eq_iff_iff.2 (c6.trans b6.symm)
 rw [i2,i3,i4,i5,i6]
 by_cases a1:r141 s.id=true
 ·obtain ⟨x1,x2⟩:=i1.1 a1
  rw [if_pos a1,if_neg x1,if_neg x2]
  by_cases a2:r85 s.inLo s.inHi=true
  ·rw [if_pos a2,if_pos a2]
   by_cases a3:r85 s.outLo s.outHi=true
   ·rw [if_pos a3,if_pos a3]
    by_cases a4:r142 s.rLo s.rHi 900000 1100000=true
    ·rw [if_pos a4,if_pos a4]
     by_cases a5:r142 s.zLo s.zHi 0 43199=true
     ·rw [if_pos a5,if_pos a5]
      by_cases a6:r142 s.eLo s.eHi 0 43199=true
      ·rw [if_pos a6,if_pos a6]
       by_cases a7:s.eLo<s.zLo
       ·rw [if_pos a7,if_pos a7]; exact .inr ⟨rfl,rfl⟩
       rw [if_neg a7,if_neg a7]
       by_cases a8:s.eHi<s.zHi
       ·rw [if_pos a8,if_pos a8]; exact .inr ⟨rfl,rfl⟩
       rw [if_neg a8,if_neg a8]
       have y5:=b5.1 a5; have y6:=b6.1 a6
       rcases R82_77 s (by omega) (by omega) s.stops 0 with ⟨h1,h2⟩|⟨h1,h2⟩
       ·rw [h1,h2]; exact .inr ⟨rfl,rfl⟩
       ·rw [h1,h2]; exact .inl ⟨rfl,rfl⟩
      ·rw [if_neg a6,if_neg a6]; exact .inr ⟨rfl,rfl⟩
     ·rw [if_neg a5,if_neg a5]; exact .inr ⟨rfl,rfl⟩
    ·rw [if_neg a4]
     by_cases a5:r142 s.zLo s.zHi 0 43199=true
     ·rw [if_pos a5]
      by_cases a6:r142 s.eLo s.eHi 0 43199=true
      ·rw [if_pos a6,if_neg a4]; exact .inr ⟨rfl,rfl⟩
      ·rw [if_neg a6]; exact .inr ⟨rfl,rfl⟩
     ·rw [if_neg a5]; exact .inr ⟨rfl,rfl⟩
   ·rw [if_neg a3,if_neg a3]; exact .inr ⟨rfl,rfl⟩
  ·rw [if_neg a2,if_neg a2]; exact .inr ⟨rfl,rfl⟩
 ·right
  rw [if_neg a1]
  refine ⟨rfl,?_⟩
  by_cases x1:s.id<1
  ·rw [if_pos x1]
  ·rw [if_neg x1,if_pos (by have:=mt i1.2 a1; omega)]
theorem r25_21 (s:Se):r25 ⟨s,[],[]⟩=r21 ⟨s,[],[]⟩:=by
 by_cases h:4<(s.stops.length:Int)
 ·have e:r77 s=2:=by unfold r77; rw [if_pos h]
  unfold r25 r21
  simp only [e]
  rw [if_pos h]; rfl
 ·unfold r25 r21
  simp only
  rw [if_neg h]
  rcases r82_77 s h with ⟨h1,h2⟩|⟨h1,h2⟩
  ·rw [h1,h2]; rfl
  ·rw [h1,h2]; rfl
end Clock
end Go.Proofs
end
