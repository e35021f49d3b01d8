import Derived.Test.YtohfdkdjfoonjaaGreatDoorEvH31
set_option linter.unusedSimpArgs false
set_option linter.unusedVariables false
namespace Go.Proofs
namespace House
open Go Go.RowKit Go.Aev
set_option maxRecDepth 100000
theorem R62_never (h:Hs) (l:List Int) (ti:Int):∀ (m k2:Nat),R62_1 h l ti m k2 1073741824=1073741824:=by
 intro m k2
 cases m with
 | zero=>rfl
 | succ m =>
  rw [R62_1]
  split
  ·rw [if_neg (by omega)]
  ·rfl
theorem tour_sim {h:Hs} (hV:r59 h=0) (l:List Int) (ti:Int):∀ (tail:List Int) (k m:Nat) (tv:Int),l.drop (k+1)=tail→tail.length<m→0≤tv∧tv≤1073741823→(∀ x ∈ l,0≤x∧x<(h.rooms.length:Int))→R61_0 h l ti tail k tv=R62_1 h l ti m (k+1) tv:=by
 intro tail
 induction tail with
 | nil =>
  intro k m tv hd hm ht hr
  obtain ⟨m',rfl⟩:∃ m',m=m'+1:=⟨m - 1,by simp only [List.length_nil] at hm; omega⟩
  have:=List.drop_eq_nil_iff.1 hd
  rw [R61_0,R62_1,if_neg (by omega)]
 | cons x tail ih =>
  intro k m tv hd hm ht hr
  simp only [List.length_cons] at hm
  obtain ⟨m',rfl⟩:∃ m',m=m'+1:=⟨m - 1,by omega⟩
  obtain ⟨hx,hd'⟩:=drop_unc hd
  have hk:k+1<l.length:=(List.getElem?_eq_some_iff.1 hx).1
  have hxr:=hr x (List.mem_of_getElem? hx)
  have hlx:lget l (k+1)=x:=lget_of hx
  rw [R61_0,R62_1,if_pos (show ((k+1:Nat):Int)<(l.length:Int) by omega),if_pos (show tv<1073741824 by omega),hlx,show ((((k+1:Nat):Int) - 1).toNat)=k by omega,← arrivals_eq hV ht]
  have hv:=r106_at hV ht (lget_some (l:=r106 h (lget l k) tv) (i:=x.toNat) (by rw [r106_len hV ht]; omega))
  split
  ·rename_i e; rw [e,R62_never]
  ·exact ih (k+1) m' _ hd' (by omega) (by omega) hr
theorem R62_0_ok {h:Hs} (hV:r59 h=0) (l:List Int) (ti:Int) (ht:r88 ti=true):∀ (m:List Int),(∀ x ∈ m,r102 h x=true)→R62_0 h l ti m=.inr ():=by
 intro m
 induction m with
 | nil=>intro _; rfl
 | cons x m ih=>intro hm; rw [R62_0,r104_eq,if_pos hV,if_pos (hm x (by simp)),if_pos ht,if_pos rfl]; exact ih (fun y hy=>hm y (by simp [hy]))
theorem R62_0_no {h:Hs} (hV:r59 h=0) (l:List Int) (ti:Int):∀ (m:List Int),(∃ x ∈ m,¬ (r102 h x=true∧r88 ti=true))→R62_0 h l ti m=.inl (0,1):=by
 intro m
 induction m with
 | nil=>rintro ⟨x,hx,_⟩; simp at hx
 | cons y m ih =>
  rintro ⟨x,hx,hn⟩
  rw [R62_0,r104_eq,if_pos hV]
  by_cases h1:r102 h y=true
  ·by_cases h2:r88 ti=true
   ·rw [if_pos h1,if_pos h2,if_pos rfl]
    rcases List.mem_cons.1 hx with rfl|hx
    ·exact absurd ⟨h1,h2⟩ hn
    ·exact ih ⟨x,hx,hn⟩
   ·simp [h1,h2]
  ·simp [h1]
theorem tour_eq (h:Hs) (l:List Int) (ti:Int):r61 h l ti=r62 h l ti:=by
 unfold r61 r62
 rw [r84_eq]
 by_cases hV:r59 h=0
 case neg=>simp [hV]
 simp only [hV,if_true]
 by_cases h0:(l.length:Int)=0
 ·rw [if_pos h0,decide_eq_false (show ¬ 0<(l.length:Int) by omega)]; simp
 ·rw [if_neg h0,decide_eq_true (show 0<(l.length:Int) by omega)]
  simp only [if_true]
  by_cases h6:60<(l.length:Int)
  ·rw [if_pos h6,if_pos h6]
  ·rw [if_neg h6,if_neg h6]
   by_cases h1:r121 h l=true
   ·have hr:=r121_ok h1
    by_cases h2:r88 ti=true
    ·rw [if_pos h1,if_pos h2,R62_0_ok hV l ti h2 l (fun x hx=>r102_iff.2 (hr x hx))]
     show (R61_0 h l ti (l.drop 1) 0 ti,(0:Int))=(R62_1 h l ti (l.length+1) 1 ti,0)
     rw [tour_sim hV l ti (l.drop 1) 0 (l.length+1) ti rfl (by rw [List.length_drop]; omega) (r88_iff.1 h2) hr]
    ·rw [if_pos h1,if_neg h2,R62_0_no hV l ti l ⟨lget l 0,lget_mem' (by omega),fun e=>h2 e.2⟩]; rfl
   ·rw [if_neg h1,R62_0_no hV l ti l]
    ·rfl
    ·apply Classical.byContradiction
     intro hn
     refine h1 (r121_eq fun x hx=>r102_iff.1 ?_)
     apply Classical.byContradiction
     intro hx'
     exact hn ⟨x,hx,fun e=>hx' e.1⟩
theorem near_sim (h:Hs) (fr ti:Int) (l:List Int) (he:r106 h fr ti=r50 h fr ti):∀ (m:List Int) (fi at_ rm tm_ er:Int),(∀ x ∈ m,0≤x)→at_=tm_→((at_=1073741824∧er=5∧fi=0)∨(at_<1073741824∧fi=rm∧er=0)) →
  (R63_0 h fr ti l m fi at_).2=(R64_1 h fr ti l m rm tm_ er).2.1∧(((R63_0 h fr ti l m fi at_).2=1073741824∧(R64_1 h fr ti l m rm tm_ er).2.2=5)∨((R63_0 h fr ti l m fi at_).2<1073741824∧(R63_0 h fr ti l m fi at_).1=(R64_1 h fr ti l m rm tm_ er).1∧(R64_1 h fr ti l m rm tm_ er).2.2=0)):=by
 intro m
 induction m with
 | nil =>
  intro fi at_ rm tm_ er _ e hs
  refine ⟨e,?_⟩
  rcases hs with ⟨a,b,_⟩|⟨a,b,c⟩
  ·exact .inl ⟨a,b⟩
  ·exact .inr ⟨a,b,c⟩
 | cons x m ih =>
  intro fi at_ rm tm_ er hx e hs
  subst e
  have hx0:=hx x (by simp)
  have hx':∀ y ∈ m,0≤y:=fun y hy=>hx y (by simp [hy])
  rw [R63_0,R64_1,he]
  generalize lget (r50 h fr ti) x.toNat=v
  by_cases cc1:v<at_
  ·rw [if_pos cc1,if_pos cc1]
   exact ih _ _ _ _ _ hx' rfl (.inr ⟨by omega,rfl,rfl⟩)
  ·rw [if_neg cc1,if_neg cc1]
   rcases hs with ⟨a,b,c⟩|⟨a,b,c⟩
   ·rw [if_neg (show ¬ v<1073741824 by omega)]
    by_cases cc2:v=at_
    ·rw [if_pos cc2,if_neg (by omega)]; exact ih _ _ _ _ _ hx' rfl (.inl ⟨a,b,c⟩)
    ·rw [if_neg cc2]; exact ih _ _ _ _ _ hx' rfl (.inl ⟨a,b,c⟩)
   ·by_cases cc2:v=at_
    ·rw [if_pos cc2,if_pos (show v<1073741824 by omega),if_pos cc2,← b]
     by_cases cc3:x<fi
     ·rw [if_pos cc3,if_pos cc3]; exact ih _ _ _ _ _ hx' rfl (.inr ⟨by omega,rfl,rfl⟩)
     ·rw [if_neg cc3,if_neg cc3]; exact ih _ _ _ _ _ hx' rfl (.inr ⟨a,rfl,c⟩)
    ·rw [if_neg cc2]
     by_cases cc3:v<1073741824
     ·rw [if_pos cc3,if_neg cc2]; exact ih _ _ _ _ _ hx' rfl (.inr ⟨a,b,c⟩)
     ·rw [if_neg cc3]; exact ih _ _ _ _ _ hx' rfl (.inr ⟨a,b,c⟩)
theorem R64_0_ok (h:Hs) (fr ti:Int) (l:List Int):∀ (m:List Int),(∀ x ∈ m,r102 h x=true)→R64_0 h fr ti l m=.inr ():=by
 intro m
 induction m with
 | nil=>intro _; rfl
 | cons x m ih=>intro hm; rw [R64_0,if_pos (show r122 h x=true from r71_iff.2 (by have:=r102_iff.1 (hm x (by simp)); omega))]; exact ih (fun y hy=>hm y (by simp [hy]))
theorem R64_0_no (h:Hs) (fr ti:Int) (l:List Int):∀ (m:List Int),(∃ x ∈ m,¬ r102 h x=true)→R64_0 h fr ti l m=.inl (0,0,1):=by
 intro m
 induction m with
 | nil=>rintro ⟨x,hx,_⟩; simp at hx
 | cons y m ih =>
  rintro ⟨x,hx,hn⟩
  rw [R64_0]
  by_cases h1:r122 h y=true
  ·rw [if_pos h1]
   rcases List.mem_cons.1 hx with rfl|hx
   ·exact absurd (r102_iff.2 (by have:=r71_iff.1 (show r71 x 0 ((h.rooms.length:Int) - 1)=true from h1); omega)) hn
   ·exact ih ⟨x,hx,hn⟩
  ·rw [if_neg h1]
theorem nearest_eq (h:Hs) (fr ti:Int) (l:List Int):r63 h fr ti l=r64 h fr ti l:=by
 unfold r63 r64
 rw [r84_eq,r84_eq,r104_eq]
 by_cases hV:r59 h=0
 case neg=>simp [hV]
 simp only [hV,if_true]
 by_cases h1:r102 h fr=true
 case neg=>simp [h1]
 by_cases h2:r88 ti=true
 case neg=>simp [h1,h2]
 simp only [h1,h2,if_true]
 by_cases h3:r121 h l=true
 ·have hr:=r121_ok h3
  rw [if_pos h3,R64_0_ok h fr ti l l (fun x hx=>r102_iff.2 (hr x hx))]
  simp only [if_true]
  have s:=near_sim h fr ti l (arrivals_eq hV (r88_iff.1 h2)) l 0 1073741824 (-1) 1073741824 5 (fun x hx=>(hr x hx).1) rfl (.inl ⟨rfl,rfl,rfl⟩)
  show _=if (R64_1 h fr ti l l (-1) 1073741824 5).2.2=0 then _ else _
  rcases s with ⟨s1,⟨s2,s3⟩|⟨s2,s3,s4⟩⟩
  ·rw [if_pos s2,s3]; rfl
  ·rw [if_neg (by omega),if_pos s4,s3,s1,s4]
 ·rw [if_neg h3,R64_0_no h fr ti l l]
  ·simp; rfl
  ·apply Classical.byContradiction
   intro hn
   refine h3 (r121_eq fun x hx=>r102_iff.1 ?_)
   apply Classical.byContradiction
   intro hx'
   exact hn ⟨x,hx,hx'⟩
theorem r12_true (h:Hs) (fr ti:Int) (l:List Int):r12 h fr ti l=true:=by
 unfold r12
 rw [tour_eq,nearest_eq]; simp
end House
end Go.Proofs
