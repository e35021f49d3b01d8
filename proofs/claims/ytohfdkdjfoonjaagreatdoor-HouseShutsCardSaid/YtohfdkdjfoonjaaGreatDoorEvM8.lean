import Derived.Test.YtohfdkdjfoonjaaGreatDoorEvH17
set_option linter.unusedSimpArgs false
set_option linter.unusedVariables false
namespace Go.Proofs
namespace House
open Go Go.RowKit Go.Aev
set_option maxRecDepth 100000
theorem r85_eq (h:Hs) (n t:Int):r85 h n t=if r59 h=0 then (if (0≤n∧n<(h.doors.length:Int))∧(0≤t∧t≤1073741823) then 0 else 1) else r59 h:=by
 unfold r85
 by_cases h0:r59 h=0
 ·rw [if_pos h0,if_pos h0]
  by_cases h1:0≤n∧n<(h.doors.length:Int)
  ·rw [if_pos (r71_iff.2 (by omega))]
   by_cases h2:0≤t∧t≤1073741823
   ·rw [if_pos (r69_iff.2 h2),if_pos ⟨h1,h2⟩,h0]
   ·rw [if_neg (fun e=>h2 (r69_iff.1 e)),if_neg (fun e=>h2 e.2)]
  ·rw [if_neg (fun e=>h1 (by have:=r71_iff.1 e; omega)),if_neg (fun e=>h1 e.1)]
 ·rw [if_neg h0,if_neg h0]
theorem R34_refl (l:List Sp):∀ (m:List Sp) (k:Nat),l.drop k=m→R34_0 l l m k=.inr ():=by
 intro m
 induction m with
 | nil=>intro k _; rfl
 | cons x m ih =>
  intro k e
  obtain ⟨e1,e2⟩:=drop_unc e
  have e3:lget l k=x:=by
   have:=lget_some (l:=l) (List.getElem?_eq_some_iff.1 e1).1
   rw [e1] at this; exact (Option.some.inj this).symm
  rw [R34_0,e3,if_pos ⟨rfl,rfl⟩]
  exact ih _ e2
theorem r34_refl (l:List Sp):r34 l l=true:=by
 unfold r34
 rw [if_pos rfl,R34_refl l l 0 rfl]
 rfl
end House
end Go.Proofs
