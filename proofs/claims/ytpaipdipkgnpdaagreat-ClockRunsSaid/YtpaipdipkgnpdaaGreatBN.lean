import Derived.Test.YtpaipdipkgnpdaaGreatBM
section
set_option linter.unusedSimpArgs false
set_option linter.unusedVariables false
namespace Go.Proofs
namespace Clock
open Go Go.RowKit Go.Aev
theorem endT_snoc:∀ (l:List Lg) (t m:Int) (x:Lg),endT t m (l++[x])=((endT t m l).1+x.secs,(endT t m l).2+x.secs * x.rate)
 | [],t,m,x=>rfl
 | y :: l,t,m,x=>by rw [List.cons_append,endT,endT_snoc l,endT]
theorem endT_le:∀ (l:List Lg) (t m:Int),(∀ x ∈ l,legOk x)→(endT t m l).1≤t+36000 * l.length∧(endT t m l).2≤m+39600000000 * l.length
 | [],t,m,_=>by simp [endT]
 | x :: l,t,m,h=>by
  have h1:=h x (by simp)
  have h2:=endT_le l (t+x.secs) (m+x.secs * x.rate) (fun y hy=>h y (by simp [hy]))
  have h3:=leg_mul h1
  have h4:=h1.2.1
  rw [endT,List.length_cons]; omega
theorem R72_pre (rn:Rn) (a:Int):∀ (pre l:List Lg) (k:Nat) (t m:Int),(∀ x ∈ pre++l,legOk x)→0≤t→t+36000 * (pre++l).length≤1000000000000→0≤m→m+39600000000 * (pre++l).length≤1000000000000000→a=(endT t m pre).1→R72_0 rn a (pre++l) k m t=(endT t m pre).2
 | [],l,k,t,m,h,h1,h2,h3,h4,h5=>by
  rw [List.nil_append] at *
  have h5:a=t:=h5
  rw [R72_past rn a l k t m h h1 h2 h3 (by omega) (by omega) (by omega)]; rfl
 | x :: pre,l,k,t,m,h,h1,h2,h3,h4,h5=>by
  have hx:=h x (by simp)
  have hm:=leg_mul hx
  have hs:=hx.1; have hs2:=hx.2.1
  have hl:=fun y (hy:y ∈ pre++l)=>h y (by simp only [List.cons_append,List.mem_cons]; exact .inr hy)
  simp only [List.cons_append,List.length_cons] at h2 h4
  rw [endT] at h5 ⊢
  have hp:=fun y (hy:y ∈ pre)=>hl y (List.mem_append_left _ hy)
  have hg:=(endT_ge pre (t+x.secs) (m+x.secs * x.rate) hp).1
  have hu:=(endT_le pre (t+x.secs) (m+x.secs * x.rate) hp).1
  have hq:pre.length≤(pre++l).length:=by simp
  have e:min (max 0 (a - t)) x.secs=x.secs:=by omega
  rw [List.cons_append,R72_0,wr64 (n:=a - t) (by omega),e,wr64 (n:=x.secs * x.rate) (by omega),wr64 (n:=m+x.secs * x.rate) (by omega),wr64 (n:=t+x.secs) (by omega)]
  exact R72_pre rn a pre l (k+1) _ _ hl (by omega) (by omega) (by omega) (by omega) h5
theorem R125_e {rn:Rn} (h:r66 rn=0) (a:Int):∀ (l pre:List Lg) (i:Nat) (u:Int),rn.legs=pre++l→0≤u→u+36000 * l.length≤1000000000000 →
  R125_0 rn a l i u (endT rn.start rn.micro pre).1=u+atP a (stands (endT rn.start rn.micro pre).1 (endT rn.start rn.micro pre).2 l)
 | [],pre,i,u,_,_,_=>by simp [R125_0,stands,atP]
 | x :: l,pre,i,u,e,h1,h2=>by
  obtain ⟨g1,g2,g3,g4,g5,hok,g6,g7⟩:=r66_ok h
  have hx:legOk x:=hok x (by rw [e]; simp)
  have hp:∀ y ∈ pre,legOk y:=fun y hy=>hok y (by rw [e]; simp [hy])
  have hs:=hx.1; have hs2:=hx.2.1
  have hle:=(endT_le pre rn.start rn.micro hp).1
  have hge:=(endT_ge pre rn.start rn.micro hp).1
  have hlen:pre.length+(l.length+1)≤40:=by have:=congrArg List.length e; simp at this; omega
  have hr:r72 rn (endT rn.start rn.micro pre).1=(endT rn.start rn.micro pre).2:=by
   have:=R72_pre rn (endT rn.start rn.micro pre).1 pre (x :: l) 0 rn.start rn.micro (by rw [← e]; exact hok) (by omega) (by rw [← e]; omega) (by omega) (by rw [← e]; omega) rfl
   rw [← e] at this
   exact this
  have ih:=fun u' h1' h2'=>R125_e h a l (pre++[x]) (i+1) u' (by rw [e]; simp) h1' h2'
  rw [endT_snoc] at ih
  dsimp only at ih
  simp only [List.length_cons] at h2
  rw [R125_0,wr64 (n:=(endT rn.start rn.micro pre).1+x.secs) (by omega),hr,stands]
  have ep:IntKind.i64.wrap (Int.tdiv (endT rn.start rn.micro pre).2 1000000)=r119 (endT rn.start rn.micro pre).1 (endT rn.start rn.micro pre).2:=rfl
  rw [ep]
  by_cases c:x.rate=0
  ·rw [if_pos c,if_pos c,atP]
   by_cases d:r119 (endT rn.start rn.micro pre).1 (endT rn.start rn.micro pre).2=a
   ·rw [if_pos d,if_pos d,wr64 (n:=u+x.secs) (by omega),ih _ (by omega) (by omega)]; omega
   ·rw [if_neg d,if_neg d,ih _ h1 (by omega)]; omega
  ·rw [if_neg c,if_neg c,ih _ h1 (by omega)]
theorem r125_e {rn:Rn} (h:r66 rn=0) (a:Int):r125 rn a=atP a (stands rn.start rn.micro rn.legs):=by
 obtain ⟨g1,_⟩:=r66_ok h
 have:=R125_e h a rn.legs [] 0 0 rfl (by omega) (by omega)
 rw [Int.zero_add] at this
 exact this
end Clock
end Go.Proofs
end
section
set_option linter.unusedSimpArgs false
set_option linter.unusedVariables false
namespace Go.Proofs
namespace Clock
open Go Go.RowKit Go.Aev
theorem R160_e (l:List Stp) (mo:Mo):∀ (l':List Stp) (k:Nat),(R160_0 l mo l' k=.inr ()∧∀ x ∈ l',x.at_≠r119 mo.time mo.micro)∨∃ j x,l'[j]?=some x∧x.at_=r119 mo.time mo.micro∧R160_0 l mo l' k=.inl ((k+j:Nat):Int)
 | [],k=>.inl ⟨rfl,by simp⟩
 | y :: l',k=>by
  rw [R160_0]
  by_cases c:r161 y mo=true
  ·have c':y.at_=r119 mo.time mo.micro:=by unfold r161 at c; exact of_decide_eq_true c
   exact .inr ⟨0,y,rfl,c',by rw [if_pos c]; rfl⟩
  ·have c':y.at_≠r119 mo.time mo.micro:=fun e=>c (by unfold r161; exact decide_eq_true e)
   rw [if_neg c]
   rcases R160_e l mo l' (k+1) with ⟨h1,h2⟩|⟨j,x,h1,h2,h3⟩
   ·exact .inl ⟨h1,fun x hx=>(List.mem_cons.1 hx).elim (fun e=>e ▸ c') (h2 x)⟩
   ·exact .inr ⟨j+1,x,by simpa using h1,h2,by rw [h3]; congr 2; omega⟩
theorem r160_e (l:List Stp) (mo:Mo):(r160 l mo = -1∧r119 mo.time mo.micro ∉ l.map (·.at_))∨∃ j x,l[j]?=some x∧x.at_=r119 mo.time mo.micro∧r160 l mo=((j:Nat):Int):=by
 unfold r160
 rcases R160_e l mo l 0 with ⟨h1,h2⟩|⟨j,x,h1,h2,h3⟩
 ·left
  rw [h1]
  refine ⟨rfl,fun h=>?_⟩
  obtain ⟨x,hx,e⟩:=List.mem_map.1 h
  exact h2 x hx e
 ·right
  rw [h3,Nat.zero_add]
  exact ⟨j,x,h1,h2,rfl⟩
theorem lget_setI (l:List Int) (i j:Nat) (x:Int) (h:i<l.length):lget (l.set i x) j=if i=j then x else lget l j:=by
 unfold lget
 rw [List.getD_eq_getElem?_getD,List.getD_eq_getElem?_getD,List.getElem?_set]
 by_cases c:i=j
 ·subst c; simp [h]
 ·simp [c]
theorem R122_e (s:Se) (rn:Rn) (hA:(s.stops.map (·.at_)).Nodup):∀ (l:List Lg) (k:Nat) (t m:Int) (sd:List Int),(∀ x ∈ l,legOk x)→0≤t→t+36000 * l.length≤1000000000000→0≤m→m+39600000000 * l.length≤1000000000000000→sd.length=s.stops.length→(∀ j,0≤lget sd j∧lget sd j+36000 * l.length≤1000000000000) →
  (R122_159_0 s rn l k t m sd=.inl ()∧∃ q ∈ stands t m l,q.1 ∉ s.stops.map (·.at_)) ∨
  ∃ sd',R122_159_0 s rn l k t m sd=.inr sd'∧(∀ q ∈ stands t m l,q.1 ∈ s.stops.map (·.at_))∧∀ j x,s.stops[j]?=some x→lget sd' j=lget sd j+atP x.at_ (stands t m l)
 | [],k,t,m,sd,_,_,_,_,_,_,_=>.inr ⟨sd,rfl,by simp [stands],fun j x _=>by simp [stands,atP]⟩
 | y :: l,k,t,m,sd,h,h1,h2,h3,h4,h5,h6=>by
  have hy:=h y (by simp)
  have hm:=leg_mul hy
  have hs:=hy.1; have hs2:=hy.2.1
  have hl:=fun x (hx:x ∈ l)=>h x (by simp [hx])
  simp only [List.length_cons] at h2 h4 h6
  have ih:=fun sd' h5' h6'=>R122_e s rn hA l (k+1) (t+y.secs) (m+y.secs * y.rate) sd' hl (by omega) (by omega) (by omega) (by omega) h5' h6'
  rw [R122_159_0,r118_e hy (by omega) (by omega),stands]
  by_cases c:y.rate=0
  ·rw [if_pos c,if_pos c]
   rcases r160_e s.stops ⟨t,m⟩ with ⟨e1,e2⟩|⟨j,x,e1,e2,e3⟩
   ·left
    rw [if_pos (by rw [e1]; decide)]
    exact ⟨rfl,(r119 t m,y.secs),by simp,e2⟩
   ·have hj:j<s.stops.length:=(List.getElem?_eq_some_iff.1 e1).1
    have hx:x.at_ ∈ s.stops.map (·.at_):=List.mem_map.2 ⟨x,List.mem_of_getElem? e1,rfl⟩
    have e2:x.at_=r119 t m:=e2
    rw [if_neg (by rw [e3]; omega),e3,Int.toNat_natCast,wr64 (n:=lget sd j+y.secs) (by have:=h6 j; omega)]
    have hset:=fun q=>lget_setI sd j q (lget sd j+y.secs) (by omega)
    rcases ih (sd.set j (lget sd j+y.secs)) (by rw [List.length_set]; exact h5) (fun q=>by
     rw [hset]; have a:=h6 q; have b:=h6 j; split<;>omega) with ⟨f1,q,f2,f3⟩|⟨sd',f1,f2,f3⟩
    ·exact .inl ⟨f1,q,by simp [f2],f3⟩
    ·refine .inr ⟨sd',f1,fun q hq=>?_,fun j' x' hx'=>?_⟩
     ·rcases List.mem_cons.1 hq with rfl|hq
      ·rw [← e2]; exact hx
      ·exact f2 q hq
     ·rw [f3 j' x' hx',hset,atP]
      by_cases d:j=j'
      ·subst d
       rw [e1] at hx'; cases hx'
       rw [if_pos rfl,if_pos e2.symm]; omega
      ·rw [if_neg d,if_neg (fun e=>d ?_)]
       ·omega
       ·have hj':j'<s.stops.length:=(List.getElem?_eq_some_iff.1 hx').1
        have k1:(s.stops.map (·.at_))[j]?=some x.at_:=by rw [List.getElem?_map,e1]; rfl
        have k2:(s.stops.map (·.at_))[j']?=some x'.at_:=by rw [List.getElem?_map,hx']; rfl
        exact (List.getElem?_inj (by rw [List.length_map]; exact hj) hA).1 (by rw [k1,k2,e2,e])
  ·rw [if_neg c,if_neg c]
   exact ih sd h5 (fun q=>by have:=h6 q; omega)
end Clock
end Go.Proofs
end
section
set_option linter.unusedSimpArgs false
set_option linter.unusedVariables false
namespace Go.Proofs
namespace Clock
open Go Go.RowKit Go.Aev
set_option maxRecDepth 100000
theorem r124_120 (a b c:Int):r124 a b c=r120 a b c:=rfl
theorem R70_0_e (s:Se) (rn:Rn):∀ (l:List Lg) (k i:Nat) (t m u:Int),(∀ x ∈ l,legOk x)→0≤u→u+36000 * l.length≤1000000000000 →
  (R121_0 s rn l k=.inl false∧R70_0 s rn l i u=.inl false)∨(R121_0 s rn l k=.inr ()∧R70_0 s rn l i u=.inr (u+totP (stands t m l)))
 | [],k,i,t,m,u,_,_,_=>.inr ⟨rfl,by rw [R70_0,stands,totP,Int.add_zero]⟩
 | x :: l,k,i,t,m,u,h,h1,h2=>by
  have hx:=h x (by simp)
  have hs:=hx.1; have hs2:=hx.2.1
  simp only [List.length_cons] at h2
  have ih:=fun u' a b=>R70_0_e s rn l (k+1) (i+1) (t+x.secs) (m+x.secs * x.rate) u' (fun y hy=>h y (by simp [hy])) a b
  rw [R121_0,R70_0,stands]
  by_cases c:x.rate=0
  ·rw [if_pos c,if_pos c,if_pos c,totP,wr64 (n:=u+x.secs) (by omega),← Int.add_assoc]
   exact ih _ (by omega) (by omega)
  ·rw [if_neg c,if_neg c,if_neg c,r124_120]
   by_cases d:r120 s.rLo s.rHi x.rate=true
   ·rw [if_pos d,if_pos d]; exact ih u h1 (by omega)
   ·rw [if_neg d,if_neg d]; exact .inl ⟨rfl,rfl⟩
theorem totP_le:∀ (l:List Lg) (t m:Int),(∀ x ∈ l,legOk x)→0≤totP (stands t m l)∧totP (stands t m l)≤36000 * l.length∧∀ a,0≤atP a (stands t m l)∧atP a (stands t m l)≤36000 * l.length
 | [],t,m,_=>by simp [stands,totP,atP]
 | x :: l,t,m,h=>by
  have hx:=h x (by simp)
  have hs:=hx.1; have hs2:=hx.2.1
  obtain ⟨h1,h2,h3⟩:=totP_le l (t+x.secs) (m+x.secs * x.rate) (fun y hy=>h y (by simp [hy]))
  rw [stands,List.length_cons]
  split
  ·rw [totP]
   refine ⟨by omega,by omega,fun a=>?_⟩
   have:=h3 a
   rw [atP]; split<;>omega
  ·exact ⟨h1,by omega,fun a=>by have:=h3 a; omega⟩
theorem stands_pos:∀ (l:List Lg) (t m:Int),(∀ x ∈ l,legOk x)→∀ q ∈ stands t m l,1≤q.2
 | [],t,m,_,q,hq=>by simp [stands] at hq
 | x :: l,t,m,h,q,hq=>by
  have ih:=stands_pos l (t+x.secs) (m+x.secs * x.rate) (fun y hy=>h y (by simp [hy])) q
  rw [stands] at hq
  split at hq
  ·rcases List.mem_cons.1 hq with e|hq
   ·rw [e]; exact (h x (by simp)).1
   ·exact ih hq
  ·exact ih hq
def keptAll (f:Int→Int) (l:List Stp):Prop:=∀ x ∈ l,r120 x.lo x.hi (f x.at_)=true
theorem R70_1_e (s:Se) (rn:Rn) (f:Int→Int) (hf:∀ a,r125 rn a=f a) (hb:∀ a,0≤f a∧f a≤10000000):∀ (l:List Stp) (i:Nat) (w:Int),10000000 * (l.length:Int)≤w+1000000000000→w≤1000000000000 →
  (¬ keptAll f l∧R70_1 s rn l i w=.inl false)∨(keptAll f l∧R70_1 s rn l i w=.inr (w - (l.map fun x=>f x.at_).sum))
 | [],i,w,_,_=>.inr ⟨fun x hx=>by simp at hx,by rw [R70_1]; simp⟩
 | x :: l,i,w,h1,h2=>by
  have hb':=hb x.at_
  simp only [List.length_cons] at h1
  rw [R70_1,hf,r124_120]
  by_cases c:r120 x.lo x.hi (f x.at_)=true
  ·rw [if_pos c,wr64 (n:=w - f x.at_) (by omega)]
   rcases R70_1_e s rn f hf hb l (i+1) (w - f x.at_) (by omega) (by omega) with ⟨a,b⟩|⟨a,b⟩
   ·exact .inl ⟨fun h=>a fun y hy=>h y (by simp [hy]),b⟩
   ·refine .inr ⟨fun y hy=>(List.mem_cons.1 hy).elim (fun e=>e ▸ c) (a y),?_⟩
    rw [b,List.map_cons,List.sum_cons]; congr 1; omega
  ·rw [if_neg c]
   exact .inl ⟨fun h=>c (h x (by simp)),rfl⟩
theorem R122_0_e (s:Se) (rn:Rn) (sd:List Int) (f:Int→Int):∀ (l:List Stp) (k:Nat),(∀ j x,l[j]?=some x→lget sd (k+j)=f x.at_) →
  (¬ keptAll f l∧R122_0 s rn sd l k=.inl false)∨(keptAll f l∧R122_0 s rn sd l k=.inr ())
 | [],k,_=>.inr ⟨fun x hx=>by simp at hx,rfl⟩
 | x :: l,k,h=>by
  have h0:=h 0 x rfl
  rw [Nat.add_zero] at h0
  rw [R122_0,h0]
  by_cases c:r120 x.lo x.hi (f x.at_)=true
  ·rw [if_pos c]
   rcases R122_0_e s rn sd f l (k+1) (fun j y hy=>by have:=h (j+1) y (by simpa using hy); rw [show k+1+j=k+(j+1) by omega]; exact this) with ⟨a,b⟩|⟨a,b⟩
   ·exact .inl ⟨fun h=>a fun y hy=>h y (by simp [hy]),b⟩
   ·exact .inr ⟨fun y hy=>(List.mem_cons.1 hy).elim (fun e=>e ▸ c) (a y),b⟩
  ·rw [if_neg c]
   exact .inl ⟨fun h=>c (h x (by simp)),rfl⟩
end Clock
end Go.Proofs
end
section
set_option linter.unusedSimpArgs false
set_option linter.unusedVariables false
namespace Go.Proofs
namespace Clock
open Go Go.RowKit Go.Aev
set_option maxRecDepth 100000
theorem R82_inc (s:Se):∀ (l:List Stp) (k:Nat),R82_0 s l k=.inr ()→∀ j x,l[j]?=some x→0<k+j→(lget s.stops (k+j - 1)).at_<x.at_
 | [],k,_,j,x,hj,_=>by simp at hj
 | y :: l,k,h,j,x,hj,h0=>by
  rw [R82_0] at h
  split at h
  ·split at h
   ·split at h
    ·simp at h
    ·cases j with
     | zero=>simp only [List.getElem?_cons_zero,Option.some.injEq] at hj; subst hj; rw [Nat.add_zero]; omega
     | succ j=>have:=R82_inc s l (k+1) h j x (by simpa using hj) (by omega); rw [show k+(j+1) - 1=k+1+j - 1 by omega]; exact this
   ·cases j with
    | zero=>omega
    | succ j=>have:=R82_inc s l (k+1) h j x (by simpa using hj) (by omega); rw [show k+(j+1) - 1=k+1+j - 1 by omega]; exact this
  ·simp at h
theorem nodup_of_inc (l:List Stp) (h:∀ j x,l[j]?=some x→0<j→(lget l (j - 1)).at_<x.at_):(l.map (·.at_)).Nodup:=by
 have mono:∀ d i x y,l[i]?=some x→l[i+d+1]?=some y→x.at_<y.at_:=by
  intro d
  induction d with
  | zero =>
   intro i x y hx hy
   have:=h (i+1) y hy (by omega)
   rw [Nat.add_sub_cancel,lget_of hx] at this
   exact this
  | succ d ih =>
   intro i x y hx hy
   have hlt:=(List.getElem?_eq_some_iff.1 hy).1
   have hz:l[i+d+1]?=some (lget l (i+d+1)):=lget_some (by omega)
   have a:=ih i x _ hx hz
   have b:=h (i+(d+1)+1) y hy (by omega)
   rw [show i+(d+1)+1 - 1=i+d+1 by omega] at b
   omega
 rw [List.nodup_iff_pairwise_ne,List.pairwise_map,List.pairwise_iff_getElem]
 intro i j hi hj hij e
 have:=mono (j - i - 1) i l[i] l[j] (List.getElem?_eq_getElem hi) (by rw [show i+(j - i - 1)+1=j by omega]; exact List.getElem?_eq_getElem hj)
 omega
theorem r21_ok {s:Se} (h:r21 ⟨s,[],[]⟩=0):s.stops.length≤4∧(s.stops.map (·.at_)).Nodup:=by
 have h25:=r25_21 s
 rw [h] at h25
 unfold r25 at h25
 split at h25
 ·simp at h25
 rename_i hl
 split at h25
 ·rename_i h82
  have h82:r82 s=true:=h82
  refine ⟨by simp only at hl; omega,nodup_of_inc _ fun j x hj h0=>?_⟩
  have hR:R82_0 s s.stops 0=.inr ():=by
   unfold r82 at h82
   repeat' split at h82
   all_goals first|(simp at h82; done)|skip
   cases hq:R82_0 s s.stops 0 with
   | inl q =>
    rw [hq] at h82
    simp only [onSum] at h82
    rename_i p1 p2 p3 p4 p5 p6 p7 p8
    have y5:=(r142_iff _ _ _ _).1 p5; have y6:=(r142_iff _ _ _ _).1 p6
    rcases R82_77 s (by omega) (by omega) s.stops 0 with ⟨k1,_⟩|⟨k1,_⟩
    ·rw [hq] at k1; cases k1; simp at h82
    ·rw [hq] at k1; cases k1
   | inr u=>rfl
  have:=R82_inc s s.stops 0 hR j x hj (by omega)
  rw [Nat.zero_add] at this
  exact this
 ·simp at h25
theorem plays_e {s:Se} {rn:Rn} (hc:r21 ⟨s,[],[]⟩=0) (h:r66 rn=0):r68 s rn=if r70 s rn=true then 0 else 8:=by
 obtain ⟨hl,hA⟩:=r21_ok hc
 obtain ⟨g1,g2,g3,g4,g5,hok,g6,g7⟩:=r66_ok h
 have a1:=R116_e rn rn.legs 0 rn.start rn.micro hok (by omega) (by omega) (by omega) (by omega)
 have e1:(r116 rn).1=(endT rn.start rn.micro rn.legs).1:=by unfold r116; rw [a1]
 have e2:(r116 rn).2=(endT rn.start rn.micro rn.legs).2:=by unfold r116; rw [a1]
 have e3:r71 rn=(endT rn.start rn.micro rn.legs).1:=R71_e rn rn.legs 0 rn.start rn.micro hok (by omega) (by omega)
 have e5:r72 rn (endT rn.start rn.micro rn.legs).1=(endT rn.start rn.micro rn.legs).2:=R72_e rn (endT rn.start rn.micro rn.legs).1 rn.legs 0 rn.start rn.micro hok (by omega) (by omega) (by omega) (by omega) (Int.le_refl _) (by omega)
 have k1:(r121 s rn=true∧r122 s rn=true)↔(onSum (R70_0 s rn rn.legs 0 0) (fun (r4:Bool)=>r4) (fun (u:Int)=>(onSum (R70_1 s rn s.stops 0 u) (fun (r4:Bool)=>r4) (fun (uw:Int)=>decide (uw=0)))))=true:=by
  obtain ⟨t1,t2,t3⟩:=totP_le rn.legs rn.start rn.micro hok
  have b1:=R70_0_e s rn rn.legs 0 0 rn.start rn.micro 0 hok (by omega) (by omega)
  have b2:=R70_1_e s rn (fun a=>atP a (stands rn.start rn.micro rn.legs)) (fun a=>r125_e h a) (fun a=>by have:=t3 a; omega) s.stops 0 (totP (stands rn.start rn.micro rn.legs)) (by omega) (by omega)
  have b3:=R122_e s rn hA rn.legs 0 rn.start rn.micro (List.replicate s.stops.length 0) hok (by omega) (by omega) (by omega) (by omega) (by simp) (fun j=>by
   have:lget (List.replicate s.stops.length (0:Int)) j=0:=by unfold lget; rw [List.getD_eq_getElem?_getD,List.getElem?_replicate]; split<;>rfl
   omega)
  have b4:=all_there hA (stands_pos rn.legs rn.start rn.micro hok)
  have b5:sumP (s.stops.map (·.at_)) (stands rn.start rn.micro rn.legs)=(s.stops.map fun x=>atP x.at_ (stands rn.start rn.micro rn.legs)).sum:=by unfold sumP; rw [List.map_map]; rfl
  unfold r121
  rcases b1 with ⟨x1,x2⟩|⟨x1,x2⟩
  ·rw [x1,x2]; simp [onSum]
  ·rw [x1,x2,Int.zero_add]
   simp only [onSum]
   unfold r122
   rcases b3 with ⟨y1,q,y2,y3⟩|⟨sd',y1,y2,y3⟩
   ·rw [y1]
    simp only [onSum]
    rcases b2 with ⟨z1,z2⟩|⟨z1,z2⟩
    ·rw [z2]; simp
    ·rw [z2]
     have:¬ (totP (stands rn.start rn.micro rn.legs) - (s.stops.map fun x=>atP x.at_ (stands rn.start rn.micro rn.legs)).sum=0):=fun e=>y3 (b4.1 (by rw [b5]; exact e) q y2)
     simp [this]
   ·rw [y1]
    simp only [onSum]
    have b6:=R122_0_e s rn sd' (fun a=>atP a (stands rn.start rn.micro rn.legs)) s.stops 0 (fun j x hj=>by
     rw [Nat.zero_add,y3 j x hj]
     have:lget (List.replicate s.stops.length (0:Int)) j=0:=by unfold lget; rw [List.getD_eq_getElem?_getD,List.getElem?_replicate]; split<;>rfl
     omega)
    rcases b2 with ⟨z1,z2⟩|⟨z1,z2⟩
    ·rcases b6 with ⟨w1,w2⟩|⟨w1,w2⟩
     ·rw [z2,w2]; simp
     ·exact absurd w1 z1
    ·rcases b6 with ⟨w1,w2⟩|⟨w1,w2⟩
     ·exact absurd z1 w1
     ·rw [z2,w2]
      have:totP (stands rn.start rn.micro rn.legs) - (s.stops.map fun x=>atP x.at_ (stands rn.start rn.micro rn.legs)).sum=0:=by rw [← b5]; exact b4.2 y2
      simp [this]
 have hq:r25 (mkRc s.id s.inLo s.inHi s.outLo s.outHi s.zLo s.zHi s.eLo s.eHi s.rLo s.rHi s.stops [] [])=0:=by rw [← hc]; exact r25_21 s
 unfold r68
 rw [if_pos hq,r69_66,if_pos h,e1,e2]
 have p1:r119 rn.start rn.micro=IntKind.i64.wrap (Int.tdiv rn.micro 1000000):=rfl
 have p2:r119 (endT rn.start rn.micro rn.legs).1 (endT rn.start rn.micro rn.legs).2=IntKind.i64.wrap (Int.tdiv (endT rn.start rn.micro rn.legs).2 1000000):=rfl
 unfold r70
 rw [e3,e5,p1,p2]
 rw [show @r124=@r120 from rfl]
 by_cases c1:r120 s.inLo s.inHi rn.start=true
 ·simp only [if_pos c1]
  by_cases c2:r120 s.outLo s.outHi (endT rn.start rn.micro rn.legs).1=true
  ·simp only [if_pos c2]
   by_cases c3:r120 s.zLo s.zHi (IntKind.i64.wrap (Int.tdiv rn.micro 1000000))=true
   ·simp only [if_pos c3]
    by_cases c4:r120 s.eLo s.eHi (IntKind.i64.wrap (Int.tdiv (endT rn.start rn.micro rn.legs).2 1000000))=true
    ·simp only [if_pos c4]
     by_cases c5:r121 s rn=true∧r122 s rn=true
     ·rw [if_pos c5.1,if_pos c5.2,if_pos (k1.1 c5)]
     ·rw [if_neg (fun h=>c5 (k1.2 h))]
      by_cases c6:r121 s rn=true
      ·rw [if_pos c6,if_neg (fun h=>c5 ⟨c6,h⟩)]
      ·rw [if_neg c6]
    ·simp [if_neg c4]
   ·simp [if_neg c3]
  ·simp [if_neg c2]
 ·simp [if_neg c1]
end Clock
end Go.Proofs
end
section
set_option linter.unusedSimpArgs false
set_option linter.unusedVariables false
namespace Go.Proofs
namespace Clock
open Go Go.RowKit Go.Aev
set_option maxRecDepth 100000
theorem r67_bad {rn:Rn} (h:¬ r66 rn=0) (a:Int):r67 rn a=(0,r66 rn):=by
 unfold r67
 rw [if_neg (by rw [r69_66]; exact h),r69_66]
theorem r68_bad {s:Se} {rn:Rn}:(¬ r21 ⟨s,[],[]⟩=0→r68 s rn=r21 ⟨s,[],[]⟩)∧(r21 ⟨s,[],[]⟩=0→¬ r66 rn=0→r68 s rn=r66 rn):=by
 have hq:r25 (mkRc s.id s.inLo s.inHi s.outLo s.outHi s.zLo s.zHi s.eLo s.eHi s.rLo s.rHi s.stops [] [])=r21 ⟨s,[],[]⟩:=r25_21 s
 unfold r68
 rw [hq,r69_66]
 exact ⟨fun h=>by rw [if_neg h],fun h h2=>by rw [if_pos h,if_neg h2]⟩
theorem r11_true (s:Se) (rn:Rn) (a:Int):r11 s rn a=true:=by
 have em:r21 (mkRc s.id s.inLo s.inHi s.outLo s.outHi s.zLo s.zHi s.eLo s.eHi s.rLo s.rHi s.stops [] [])=r21 ⟨s,[],[]⟩:=rfl
 unfold r11
 rw [em]
 split
 ·rfl
 rw [if_pos (r69_66 rn)]
 have hp:r68 s rn=(if ((if r21 ⟨s,[],[]⟩=0 then r66 rn else r21 ⟨s,[],[]⟩)=0)∧(¬ ((r70 s rn)=true)) then 8 else (if r21 ⟨s,[],[]⟩=0 then r66 rn else r21 ⟨s,[],[]⟩)):=by
  by_cases h1:r21 ⟨s,[],[]⟩=0
  ·simp only [if_pos h1]
   by_cases h2:r66 rn=0
   ·rw [plays_e h1 h2]
    by_cases h3:r70 s rn=true
    ·rw [if_pos h3,if_neg (fun h=>h.2 h3),h2]
    ·rw [if_neg h3,if_pos ⟨h2,h3⟩]
   ·rw [r68_bad.2 h1 h2,if_neg (fun h=>h2 h.1)]
  ·simp only [if_neg h1]
   rw [r68_bad.1 h1,if_neg (fun h=>h1 h.1)]
 rw [if_pos hp]
 by_cases h:r66 rn=0
 ·rw [if_pos h,r67_e h]
  by_cases c:a<rn.start∨r71 rn<a
  ·rw [if_pos c]; simp [c]
  ·rw [if_neg c]; simp [c]
 ·rw [if_neg h,r67_bad h]; simp
end Clock
end Go.Proofs
end
