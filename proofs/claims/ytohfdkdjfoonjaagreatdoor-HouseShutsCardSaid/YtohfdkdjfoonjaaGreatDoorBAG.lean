import Derived.Test.YtohfdkdjfoonjaaGreatDoorEvH46
set_option linter.unusedSimpArgs false
set_option linter.unusedVariables false
namespace Go.Proofs
namespace House
open Go Go.RowKit Go.Aev
set_option maxRecDepth 100000
def jn (q:List Sp × List Sp × Int × Int):List Sp:=q.1++((⟨q.2.2.1,q.2.2.2⟩:Sp) :: q.2.1)
theorem R151_flat (ll:List (List Sp)):∀ (m:List (List Sp)) (acc:List Sp),R151_1 ll m acc=acc++m.flatten:=by
 intro m
 induction m with
 | nil=>intro acc; simp [R151_1]
 | cons x m ih=>intro acc; rw [R151_1,ih,List.flatten_cons,List.append_assoc]
theorem r123_jn (l:List Sp) (a b:Int):r123 l a b=jn (R123_0 l a b l [] [] a b):=by
 unfold r123 r151 jn
 rw [R151_flat]
 simp
theorem in_app {a b:List Sp} {t:Int}:In (a++b) t↔In a t∨In b t:=by
 unfold In
 constructor
 ·rintro ⟨x,hx,h⟩
  rcases List.mem_append.1 hx with k|k
  ·exact .inl ⟨x,k,h⟩
  ·exact .inr ⟨x,k,h⟩
 ·rintro (⟨x,hx,h⟩|⟨x,hx,h⟩)
  ·exact ⟨x,List.mem_append.2 (.inl hx),h⟩
  ·exact ⟨x,List.mem_append.2 (.inr hx),h⟩
theorem in_cons {x:Sp} {b:List Sp} {t:Int}:In (x :: b) t↔(x.lo≤t∧t≤x.hi)∨In b t:=by
 unfold In
 constructor
 ·rintro ⟨y,hy,h⟩
  rcases List.mem_cons.1 hy with rfl|k
  ·exact .inl h
  ·exact .inr ⟨y,k,h⟩
 ·rintro (h|⟨y,hy,h⟩)
  ·exact ⟨x,by simp,h⟩
  ·exact ⟨y,List.mem_cons.2 (.inr hy),h⟩
theorem in_nil {t:Int}:¬ In [] t:=fun ⟨x,hx,_⟩=>by simp at hx
theorem R123_ok (l:List Sp) (slo shi:Int):∀ (m bf bh:List Sp) (ulo uhi:Int),Bd 1073741823 m→Ord m→Bd 1073741823 bf→Ord bf→Bd 1073741823 bh→Ord bh→0≤ulo→ulo≤uhi→uhi≤1073741823 →
  (∀ x ∈ bf,x.hi+1<ulo)→(∀ y ∈ bh,uhi+1<y.lo)→(∀ x ∈ bf,∀ z ∈ m,x.hi+1<z.lo)→(∀ y ∈ bh,∀ z ∈ m,y.hi+1<z.lo) →
  Bd 1073741823 (jn (R123_0 l slo shi m bf bh ulo uhi))∧Ord (jn (R123_0 l slo shi m bf bh ulo uhi))∧∀ t,In (jn (R123_0 l slo shi m bf bh ulo uhi)) t↔(In bf t∨(ulo≤t∧t≤uhi)∨In bh t∨In m t):=by
 intro m
 induction m with
 | nil =>
  intro bf bh ulo uhi _ _ b1 o1 b2 o2 u0 u1 u2 f1 f2 _ _
  unfold R123_0 jn
  refine ⟨fun x hx=>?_,?_,fun t=>?_⟩
  ·rcases List.mem_append.1 hx with h|h
   ·exact b1 x h
   ·rcases List.mem_cons.1 h with rfl|h
    ·exact ⟨u0,u1,u2⟩
    ·exact b2 x h
  ·refine List.pairwise_append.2 ⟨o1,List.pairwise_cons.2 ⟨f2,o2⟩,fun x hx y hy=>?_⟩
   have k:=f1 x hx
   rcases List.mem_cons.1 hy with rfl|h
   ·exact k
   ·have:=f2 y h; omega
  ·rw [in_app,in_cons]
   have:=in_nil (t:=t)
   constructor
   ·rintro (h|h|h)
    ·exact .inl h
    ·exact .inr (.inl h)
    ·exact .inr (.inr (.inl h))
   ·rintro (h|h|h|h)
    ·exact .inl h
    ·exact .inr (.inl h)
    ·exact .inr (.inr h)
    ·exact absurd h this
 | cons x m ih =>
  intro bf bh ulo uhi bm om b1 o1 b2 o2 u0 u1 u2 f1 f2 f3 f4
  obtain ⟨om1,om2⟩:=List.pairwise_cons.1 om
  have bx:=bm x (by simp)
  have bm':Bd 1073741823 m:=fun y hy=>bm y (List.mem_cons.2 (.inr hy))
  unfold R123_0
  split
  ·rename_i h1
   obtain ⟨k1,k2,k3⟩:=ih (bf++[(⟨x.lo,x.hi⟩:Sp)]) bh ulo uhi bm' om2 (fun y hy=>by
     rcases List.mem_append.1 hy with h|h
     ·exact b1 y h
     ·rw [List.mem_singleton.1 h]; exact bx) (List.pairwise_append.2 ⟨o1,List.pairwise_singleton _ _,fun y hy z hz=>by rw [List.mem_singleton.1 hz]; exact f3 y hy x (by simp)⟩) b2 o2 u0 u1 u2 (fun y hy=>by
     rcases List.mem_append.1 hy with h|h
     ·exact f1 y h
     ·rw [List.mem_singleton.1 h]; exact h1) f2 (fun y hy z hz=>by
     rcases List.mem_append.1 hy with h|h
     ·exact f3 y h z (List.mem_cons.2 (.inr hz))
     ·rw [List.mem_singleton.1 h]; exact om1 z hz) (fun y hy z hz=>f4 y hy z (List.mem_cons.2 (.inr hz)))
   refine ⟨k1,k2,fun t=>?_⟩
   rw [k3,in_app,in_cons,in_cons]
   have:=in_nil (t:=t)
   constructor
   ·rintro ((h|h|h)|h|h|h)
    ·exact .inl h
    ·exact .inr (.inr (.inr (.inl h)))
    ·exact absurd h this
    ·exact .inr (.inl h)
    ·exact .inr (.inr (.inl h))
    ·exact .inr (.inr (.inr (.inr h)))
   ·rintro (h|h|h|h|h)
    ·exact .inl (.inl h)
    ·exact .inr (.inl h)
    ·exact .inr (.inr (.inl h))
    ·exact .inl (.inr (.inl h))
    ·exact .inr (.inr (.inr h))
  ·rename_i h1
   split
   ·rename_i h2
    obtain ⟨k1,k2,k3⟩:=ih bf (bh++[(⟨x.lo,x.hi⟩:Sp)]) ulo uhi bm' om2 b1 o1 (fun y hy=>by
      rcases List.mem_append.1 hy with h|h
      ·exact b2 y h
      ·rw [List.mem_singleton.1 h]; exact bx) (List.pairwise_append.2 ⟨o2,List.pairwise_singleton _ _,fun y hy z hz=>by rw [List.mem_singleton.1 hz]; exact f4 y hy x (by simp)⟩) u0 u1 u2 f1 (fun y hy=>by
      rcases List.mem_append.1 hy with h|h
      ·exact f2 y h
      ·rw [List.mem_singleton.1 h]; exact h2) (fun y hy z hz=>f3 y hy z (List.mem_cons.2 (.inr hz))) (fun y hy z hz=>by
      rcases List.mem_append.1 hy with h|h
      ·exact f4 y h z (List.mem_cons.2 (.inr hz))
      ·rw [List.mem_singleton.1 h]; exact om1 z hz)
    refine ⟨k1,k2,fun t=>?_⟩
    rw [k3,in_app,in_cons,in_cons]
    have:=in_nil (t:=t)
    constructor
    ·rintro (h|h|(h|h|h)|h)
     ·exact .inl h
     ·exact .inr (.inl h)
     ·exact .inr (.inr (.inl h))
     ·exact .inr (.inr (.inr (.inl h)))
     ·exact absurd h this
     ·exact .inr (.inr (.inr (.inr h)))
    ·rintro (h|h|h|h|h)
     ·exact .inl h
     ·exact .inr (.inl h)
     ·exact .inr (.inr (.inl (.inl h)))
     ·exact .inr (.inr (.inl (.inr (.inl h))))
     ·exact .inr (.inr (.inr h))
   ·rename_i h2
    have nb:∀ y ∈ bh,False:=fun y hy=>by
     have a1:=f2 y hy; have a2:=f4 y hy x (by simp); have a3:=b2 y hy
     omega
    obtain ⟨k1,k2,k3⟩:=ih bf bh (min ulo x.lo) (max uhi x.hi) bm' om2 b1 o1 b2 o2 (by omega) (by omega) (by omega) (fun y hy=>by
      have a1:=f1 y hy; have a2:=f3 y hy x (by simp); omega) (fun y hy=>(nb y hy).elim) (fun y hy z hz=>f3 y hy z (List.mem_cons.2 (.inr hz))) (fun y hy=>(nb y hy).elim)
    refine ⟨k1,k2,fun t=>?_⟩
    rw [k3,in_cons]
    have e:(min ulo x.lo≤t∧t≤max uhi x.hi)↔((ulo≤t∧t≤uhi)∨(x.lo≤t∧t≤x.hi)):=by omega
    rw [e]
    constructor
    ·rintro (h|(h|h)|h|h)
     ·exact .inl h
     ·exact .inr (.inl h)
     ·exact .inr (.inr (.inr (.inl h)))
     ·exact .inr (.inr (.inl h))
     ·exact .inr (.inr (.inr (.inr h)))
    ·rintro (h|h|h|h|h)
     ·exact .inl h
     ·exact .inr (.inl (.inl h))
     ·exact .inr (.inr (.inl h))
     ·exact .inr (.inl (.inr h))
     ·exact .inr (.inr (.inr h))
theorem r123_ok {l:List Sp} {a b:Int} (hb:Bd 1073741823 l) (ho:Ord l) (hs:0≤a∧a≤b∧b≤1073741823):Bd 1073741823 (r123 l a b)∧Ord (r123 l a b)∧∀ t,In (r123 l a b) t↔(In l t∨(a≤t∧t≤b)):=by
 rw [r123_jn]
 obtain ⟨k1,k2,k3⟩:=R123_ok l a b l [] [] a b hb ho (fun x hx=>by simp at hx) .nil (fun x hx=>by simp at hx) .nil hs.1 hs.2.1 hs.2.2 (fun x hx=>by simp at hx) (fun x hx=>by simp at hx) (fun x hx=>by simp at hx) (fun x hx=>by simp at hx)
 refine ⟨k1,k2,fun t=>?_⟩
 rw [k3]
 have:=in_nil (t:=t)
 constructor
 ·rintro (h|h|h|h)
  ·exact absurd h this
  ·exact .inr h
  ·exact absurd h this
  ·exact .inl h
 ·rintro (h|h)
  ·exact .inr (.inr (.inr h))
  ·exact .inr (.inl h)
def hw (h:Hs) (D:List Dr):Hs:=⟨h.rooms,D,h.ways⟩
end House
end Go.Proofs
