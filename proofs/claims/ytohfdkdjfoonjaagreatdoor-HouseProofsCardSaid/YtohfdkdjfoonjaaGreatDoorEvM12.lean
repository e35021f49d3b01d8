import Derived.Test.YtohfdkdjfoonjaaGreatDoorEvM11
import Derived.Test.YtohfdkdjfoonjaaGreatDoorEvH30
set_option linter.unusedSimpArgs false
set_option linter.unusedVariables false
namespace Go.Proofs
namespace House
open Go Go.RowKit Go.Aev
set_option maxRecDepth 100000
theorem R47_iff (l q:List Int):∀ (m:List Int) (k:Nat),m.length+k=q.length→(onSum (R47_0 l q m k) (fun r=>r) (fun _=>true)=true↔m=q.drop k):=by
 intro m
 induction m with
 | nil =>
  intro k hk
  simp only [List.length_nil,Nat.zero_add] at hk
  rw [hk,List.drop_length]; exact ⟨fun _=>rfl,fun _=>rfl⟩
 | cons x m ih =>
  intro k hk
  simp only [List.length_cons] at hk
  rw [R47_0,drop_cons' (lget_some (show k<q.length by omega))]
  by_cases e:x=lget q k
  ·rw [if_pos e,ih _ (by omega),List.cons.injEq]
   exact ⟨fun h=>⟨e,h⟩,fun h=>h.2⟩
  ·rw [if_neg e,List.cons.injEq]
   exact ⟨fun h=>by simp [onSum] at h,fun h=>absurd h.1 e⟩
theorem r47_iff (l q:List Int):r47 l q=true↔l=q:=by
 unfold r47
 by_cases h:(l.length:Int)=(q.length:Int)
 ·rw [if_pos h,R47_iff l q l 0 (by omega)]; rfl
 ·rw [if_neg h]; exact ⟨fun e=>absurd e (by decide),fun e=>absurd (by rw [e]) h⟩
theorem R117_eq (l q:List Int):∀ (m:List Int) (k:Nat),R117_0 l q m k=R47_0 l q m k:=by
 intro m
 induction m with
 | nil=>intro k; rfl
 | cons x m ih=>intro k; rw [R117_0,R47_0,ih]
theorem r117_iff (l q:List Int):r117 l q=true↔l=q:=by
 rw [← r47_iff]; unfold r117 r47; rw [R117_eq]
theorem labels_eq (h:Hs) (fr ti:Int) (l:List Int):r51 h fr ti l=if (r42 h fr ti).2=0 then (if r47 (r42 h fr ti).1 l=true then 0 else 8) else (r42 h fr ti).2:=by
 unfold r51
 rw [early_eq]
 by_cases e:(r42 h fr ti).2=0
 ·rw [if_pos e,if_pos e]
  by_cases e2:(r42 h fr ti).1=l
  ·rw [if_pos ((r117_iff _ _).2 e2.symm),if_pos ((r47_iff _ _).2 e2)]
  ·rw [if_neg (fun h=>e2 ((r117_iff _ _).1 h).symm),if_neg (fun h=>e2 ((r47_iff _ _).1 h))]
 ·rw [if_neg e,if_neg e]
theorem R52_R55 (h:Hs) (a ta b tb:Int) (l:List Int):∀ (m:List Int),(R52_0 h a ta b tb l m=.inl 8∧R55_0 h a ta b tb l m=.inl false)∨(R52_0 h a ta b tb l m=.inr ()∧R55_0 h a ta b tb l m=.inr ()∧∀ x ∈ m,0≤x∧x≤1073741824):=by
 intro m
 induction m with
 | nil=>exact .inr ⟨rfl,rfl,fun x hx=>by simp at hx⟩
 | cons x m ih =>
  rw [R52_0,R55_0]
  by_cases h1:x<0
  ·rw [if_pos h1,if_neg (fun e=>by have:=r71_iff.1 e; omega)]; exact .inl ⟨rfl,rfl⟩
  ·rw [if_neg h1]
   by_cases h2:1073741824<x
   ·rw [if_pos h2,if_neg (fun e=>by have:=r71_iff.1 e; omega)]; exact .inl ⟨rfl,rfl⟩
   ·rw [if_neg h2,if_pos (r71_iff.2 (by omega))]
    rcases ih with ih|⟨e1,e2,e3⟩
    ·exact .inl ih
    ·exact .inr ⟨e1,e2,fun y hy=>by rcases List.mem_cons.1 hy with rfl|hy; omega; exact e3 y hy⟩
theorem R55_any {h:Hs} (hV:r59 h=0) (a ta b tb:Int) (l:List Int) (hl:l.length=h.rooms.length) (hr:∀ x ∈ l,0≤x∧x≤1073741824):∀ (m:List Pg),(∀ p ∈ m,p ∈ psg h)→onSum (R55_1 h a ta b tb l (m.map gt)) (fun r=>r) (fun _=>true)=!m.any (bad h l):=by
 intro m
 induction m with
 | nil=>intro _; rfl
 | cons x m ih =>
  intro hm
  have k:=psg_ok hV (hm x (by simp))
  have kf:=k.f
  have ih:=ih (fun p hp=>hm p (by simp [hp]))
  have h0:=hr _ (lget_mem' (l:=l) (i:=x.fr.toNat) (by omega))
  rw [List.map_cons,R55_1,List.any_cons]
  show onSum (if lget l x.fr.toNat<1073741824 then (if r99 h (gt x) (lget l x.fr.toNat)<lget l x.to.toNat then Sum.inl false else _) else _) _ _=_
  by_cases c:lget l x.fr.toNat<1073741824
  ·rw [if_pos c,r99_r145 hV k.ok (by omega)]
   have e88:r88 (lget l x.fr.toNat)=true:=r88_iff.2 (by omega)
   by_cases d:r145 x (lget l x.fr.toNat) h<lget l x.to.toNat
   ·rw [if_pos d]; unfold bad; rw [e88,decide_eq_true d]; rfl
   ·rw [if_neg d,ih]; unfold bad; rw [e88,decide_eq_false d]; rfl
  ·rw [if_neg c,ih]
   have e88:r88 (lget l x.fr.toNat)=false:=Bool.eq_false_iff.2 (fun e=>by have:=r88_iff.1 e; omega)
   unfold bad; rw [e88]; rfl
theorem wall_eq (h:Hs) (a ta b tb:Int) (l:List Int):r52 h a ta b tb l=r53 h a ta b tb l:=by
 unfold r52 r53
 rw [two_eq]
 by_cases e:r49 h a ta b tb=0
 ·rw [if_pos e,if_pos e]
  have hV:=(r49_ok e).1
  unfold r55
  by_cases hl:(l.length:Int)=(h.rooms.length:Int)
  ·rw [if_pos hl,if_pos hl]
   rcases R52_R55 h a ta b tb l l with ⟨e1,e2⟩|⟨e1,e2,e3⟩
   ·rw [e1,e2]; rfl
   ·rw [e1,e2,gates_eq,R55_any hV a ta b tb l (by omega) e3 (psg h) (fun p hp=>hp)]
    show (if ta<lget l a.toNat then 8 else if lget l b.toNat≤tb then 8 else if r118 h l=true then 0 else 8)=if (if ta<lget l a.toNat then false else if lget l b.toNat≤tb then false else r118 h l)=true then 0 else 8
    by_cases cc1:ta<lget l a.toNat
    ·simp [cc1]
    ·by_cases cc2:lget l b.toNat≤tb
     ·simp [cc1,cc2]
     ·simp [cc1,cc2]
  ·rw [if_neg hl,if_neg hl]; rfl
 ·rw [if_neg e,if_neg e]
theorem r9_true (h:Hs) (a ta b tb:Int) (l:List Int):r9 h a ta b tb l=true:=by
 unfold r9
 rw [labels_eq,wall_eq]
 by_cases e:(r42 h a ta).2=0
 ·by_cases c:r47 (r42 h a ta).1 l=true
  ·simp [e,c]
  ·simp [e,c]
 ·simp [e]
end House
end Go.Proofs
