import Derived.Test.YtohfdkdjfoonjaaGreatDoorEvM11
import Derived.Test.YtohfdkdjfoonjaaGreatDoorEvH30
set_option linter.unusedSimpArgs false
set_option linter.unusedVariables false
namespace Go.Proofs
namespace House
open Go Go.RowKit Go.Aev
set_option maxRecDepth 100000
theorem R52_R55 (h:Hs) (a ta b tb:Int) (l:List Int):∀ (m:List Int),(R52_0 h a ta b tb l m=.inl 8∧R55_0 h a ta b tb l m=.inl false)∨(R52_0 h a ta b tb l m=.inr ()∧R55_0 h a ta b tb l m=.inr ()∧∀ x ∈ m,0≤x∧x≤1073741824):=by
 intro m
 induction m with
 | nil=>exact .inr ⟨rfl,rfl,fun x hx=>by simp at hx⟩
 | cons x m ih =>
  rw [R52_0,R55_0]
  by_cases h1:x<0
  ·rw [if_pos h1,if_neg (fun e=>by have:=r71_iff.1 e; omega)]; exact .inl ⟨rfl,rfl⟩
  ·rw [if_neg h1]
   by_cases h2:1073741824<x
   ·rw [if_pos h2,if_neg (fun e=>by have:=r71_iff.1 e; omega)]; exact .inl ⟨rfl,rfl⟩
   ·rw [if_neg h2,if_pos (r71_iff.2 (by omega))]
    rcases ih with ih|⟨e1,e2,e3⟩
    ·exact .inl ih
    ·exact .inr ⟨e1,e2,fun y hy=>by rcases List.mem_cons.1 hy with rfl|hy; omega; exact e3 y hy⟩
theorem R55_any {h:Hs} (hV:r59 h=0) (a ta b tb:Int) (l:List Int) (hl:l.length=h.rooms.length) (hr:∀ x ∈ l,0≤x∧x≤1073741824):∀ (m:List Pg),(∀ p ∈ m,p ∈ psg h)→onSum (R55_1 h a ta b tb l (m.map gt)) (fun r=>r) (fun _=>true)=!m.any (bad h l):=by
 intro m
 induction m with
 | nil=>intro _; rfl
 | cons x m ih =>
  intro hm
  have k:=psg_ok hV (hm x (by simp))
  have kf:=k.f
  have ih:=ih (fun p hp=>hm p (by simp [hp]))
  have h0:=hr _ (lget_mem' (l:=l) (i:=x.fr.toNat) (by omega))
  rw [List.map_cons,R55_1,List.any_cons]
  show onSum (if lget l x.fr.toNat<1073741824 then (if r99 h (gt x) (lget l x.fr.toNat)<lget l x.to.toNat then Sum.inl false else _) else _) _ _=_
  by_cases c:lget l x.fr.toNat<1073741824
  ·rw [if_pos c,r99_r145 hV k.ok (by omega)]
   have e88:r88 (lget l x.fr.toNat)=true:=r88_iff.2 (by omega)
   by_cases d:r145 x (lget l x.fr.toNat) h<lget l x.to.toNat
   ·rw [if_pos d]; unfold bad; rw [e88,decide_eq_true d]; rfl
   ·rw [if_neg d,ih]; unfold bad; rw [e88,decide_eq_false d]; rfl
  ·rw [if_neg c,ih]
   have e88:r88 (lget l x.fr.toNat)=false:=Bool.eq_false_iff.2 (fun e=>by have:=r88_iff.1 e; omega)
   unfold bad; rw [e88]; rfl
theorem wall_eq (h:Hs) (a ta b tb:Int) (l:List Int):r52 h a ta b tb l=r53 h a ta b tb l:=by
 unfold r52 r53
 rw [two_eq]
 by_cases e:r49 h a ta b tb=0
 ·rw [if_pos e,if_pos e]
  have hV:=(r49_ok e).1
  unfold r55
  by_cases hl:(l.length:Int)=(h.rooms.length:Int)
  ·rw [if_pos hl,if_pos hl]
   rcases R52_R55 h a ta b tb l l with ⟨e1,e2⟩|⟨e1,e2,e3⟩
   ·rw [e1,e2]; rfl
   ·rw [e1,e2,gates_eq,R55_any hV a ta b tb l (by omega) e3 (psg h) (fun p hp=>hp)]
    show (if ta<lget l a.toNat then 8 else if lget l b.toNat≤tb then 8 else if r118 h l=true then 0 else 8)=if (if ta<lget l a.toNat then false else if lget l b.toNat≤tb then false else r118 h l)=true then 0 else 8
    by_cases cc1:ta<lget l a.toNat
    ·simp [cc1]
    ·by_cases cc2:lget l b.toNat≤tb
     ·simp [cc1,cc2]
     ·simp [cc1,cc2]
  ·rw [if_neg hl,if_neg hl]; rfl
 ·rw [if_neg e,if_neg e]
theorem crs {h:Hs} (hV:r59 h=0):Crs h.rooms.length (psg h) (fun p t=>r145 p t h):=⟨psg_hg hV,fun p hp t ht=>(r145_ge (psg_ok hV hp).ok ht).1,psg_hp hV⟩
theorem r106_tm {h:Hs} (hV:r59 h=0) {fr ti:Int} (ht:0≤ti∧ti≤1073741823):Tm h.rooms.length (r106 h fr ti):=(r109_tm (rooms:=h.rooms.length) (fr:=fr) ht (psg_hg hV)).1
theorem r106_closed {h:Hs} (hV:r59 h=0) {fr ti:Int} (ht:0≤ti∧ti≤1073741823):∀ p ∈ psg h,lget (r106 h fr ti) p.fr.toNat≤1073741823→lget (r106 h fr ti) p.to.toNat≤r145 p (lget (r106 h fr ti) p.fr.toNat) h :=
 closed (fr:=fr) (crs hV) ht
theorem r106_start {h:Hs} (hV:r59 h=0) {fr ti:Int} (hf:0≤fr∧fr<(h.rooms.length:Int)) (ht:0≤ti∧ti≤1073741823):lget (r106 h fr ti) fr.toNat≤ti:=start_le (crs hV) hf ht
theorem not_bad {h:Hs} {l:List Int} (hc:∀ p ∈ psg h,lget l p.fr.toNat≤1073741823→lget l p.to.toNat≤r145 p (lget l p.fr.toNat) h):(psg h).any (bad h l)=false:=by
 rw [List.any_eq_false]
 intro p hp e
 unfold bad at e
 rw [Bool.and_eq_true,decide_eq_true_eq] at e
 have:=r88_iff.1 e.1
 have:=hc p hp this.2
 omega
theorem is_wall {h:Hs} (hV:r59 h=0) {a ta b tb:Int} {l:List Int} (hl:Tm h.rooms.length l) (h1:lget l a.toNat≤ta) (h2:tb<lget l b.toNat) (hc:∀ p ∈ psg h,lget l p.fr.toNat≤1073741823→lget l p.to.toNat≤r145 p (lget l p.fr.toNat) h):r55 h a ta b tb l=true:=by
 unfold r55
 rw [if_pos (by rw [hl.len])]
 rcases R52_R55 h a ta b tb l l with ⟨e1,e2⟩|⟨e1,e2,e3⟩
 ·exfalso
  have:∀ (m:List Int),(∀ x ∈ m,0≤x∧x≤1073741824)→R55_0 h a ta b tb l m=.inr ():=by
   intro m
   induction m with
   | nil=>intro _; rfl
   | cons x m ih=>intro hm; rw [R55_0,if_pos (r71_iff.2 (hm x (by simp)))]; exact ih (fun y hy=>hm y (by simp [hy]))
  rw [this l hl.all] at e2; cases e2
 ·rw [e2,gates_eq,R55_any hV a ta b tb l hl.len e3 (psg h) (fun p hp=>hp),not_bad hc]
  show (if ta<lget l a.toNat then false else if lget l b.toNat≤tb then false else !false)=true
  rw [if_neg (by omega),if_neg (by omega)]; rfl
end House
end Go.Proofs
