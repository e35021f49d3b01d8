import Derived.Test.YtohfdkdjfoonjaaGreatDoorBW
import Derived.Test.YtohfdkdjfoonjaaGreatDoorBX
section
set_option linter.unusedSimpArgs false
set_option linter.unusedVariables false
namespace Go.Proofs
namespace House
open Go Go.RowKit Go.Aev
set_option maxRecDepth 100000
end House
end Go.Proofs
end
section
set_option linter.unusedSimpArgs false
set_option linter.unusedVariables false
namespace Go.Proofs
namespace House
open Go Go.RowKit Go.Aev
set_option maxRecDepth 100000
instance:Cel Stp:=⟨3,fun x=>[.int .i64 x.way,.bool x.back,.int .i64 x.at_],fun _=>rfl,fun _=>rfl⟩
def Keep (v:Value) (S S':AS):Prop:=S.next≤S'.next∧∀ q,q<S.next→blkOf v≠some q→S'.heap.get q=S.heap.get q
theorem Keep.refl (v:Value) (S:AS):Keep v S S:=⟨Nat.le_refl _,fun _ _ _=>rfl⟩
theorem Keep.trans {v:Value} {S S' S'':AS} (h:Keep v S S') (h':Keep v S' S''):Keep v S S'':=⟨Nat.le_trans h.1 h'.1,fun q hq hn=>(h'.2 q (Nat.lt_of_lt_of_le hq h.1) hn).trans (h.2 q hq hn)⟩
def Trn (l o:List Stp) (i:Nat):Prop:=o.length=l.length∧∀ q,q<l.length→lget o q=if q<i∨l.length≤q+i then lget l (l.length - 1 - q) else lget l q
theorem Trn.fin {l o:List Stp} {i:Nat} (h:Trn l o i) (hi:l.length≤2 * i+1):o=l.reverse:=by
 have hl:=h.1
 apply List.ext_getElem (by rw [List.length_reverse]; exact hl)
 intro q h1 h2
 have k:=h.2 q (by omega)
 have k1:lget o q=o[q]:=lget_of (List.getElem?_eq_getElem h1)
 rw [← k1,k,List.getElem_reverse]
 split
 ·exact lget_of (List.getElem?_eq_getElem (by omega))
 ·rw [lget_of (List.getElem?_eq_getElem (by omega:q<l.length))]
  congr 1; omega
end House
end Go.Proofs
end
section
set_option linter.unusedSimpArgs false
set_option linter.unusedVariables false
namespace Go.Proofs
namespace House
open Go Go.RowKit Go.Aev
set_option maxRecDepth 100000
end House
end Go.Proofs
end
section
set_option linter.unusedSimpArgs false
set_option linter.unusedVariables false
namespace Go.Proofs
namespace House
open Go Go.RowKit Go.Aev
set_option maxRecDepth 100000
end House
end Go.Proofs
end
section
set_option linter.unusedSimpArgs false
set_option linter.unusedVariables false
namespace Go.Proofs
namespace House
open Go Go.RowKit Go.Aev
set_option maxRecDepth 100000
theorem r104_cs (h:Hs) (f t:Int):r104 h f t=if r59 h=0 then (if r102 h f=true∧r88 t=true then 0 else 1) else r59 h:=by
 unfold r104
 by_cases h0:r59 h=0
 case neg=>rw [if_neg h0,if_neg h0]
 rw [if_pos h0,if_pos h0]
 by_cases h1:r102 h f=true
 case neg=>rw [if_neg (fun e=>h1 (r102_iff.2 (by have:=r71_iff.1 (show r71 f 0 ((h.rooms.length:Int) - 1)=true from e); omega))),if_neg (fun e=>h1 e.1)]
 have h1':=r102_iff.1 h1
 have h2:r122 h f=true:=r71_iff.2 (by omega)
 rw [if_pos h2]
 by_cases h3:r88 t=true
 ·rw [if_pos (r69_iff.2 (r88_iff.1 h3)),if_pos ⟨h1,h3⟩,h0]
 ·rw [if_neg (fun e=>h3 (r88_iff.2 (r69_iff.1 e))),if_neg (fun e=>h3 e.2)]
end House
end Go.Proofs
end
