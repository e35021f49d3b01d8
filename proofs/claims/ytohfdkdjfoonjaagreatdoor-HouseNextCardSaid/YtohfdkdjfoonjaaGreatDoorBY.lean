import Derived.Test.YtohfdkdjfoonjaaGreatDoorBW
import Derived.Test.YtohfdkdjfoonjaaGreatDoorBX
section
set_option linter.unusedSimpArgs false
set_option linter.unusedVariables false
namespace Go.Proofs
namespace House
open Go Go.RowKit Go.Aev
set_option maxRecDepth 100000
end House
end Go.Proofs
end
section
set_option linter.unusedSimpArgs false
set_option linter.unusedVariables false
namespace Go.Proofs
namespace House
open Go Go.RowKit Go.Aev
set_option maxRecDepth 100000
instance:Cel Stp:=⟨3,fun x=>[.int .i64 x.way,.bool x.back,.int .i64 x.at_],fun _=>rfl,fun _=>rfl⟩
def Keep (v:Value) (S S':AS):Prop:=S.next≤S'.next∧∀ q,q<S.next→blkOf v≠some q→S'.heap.get q=S.heap.get q
theorem Keep.refl (v:Value) (S:AS):Keep v S S:=⟨Nat.le_refl _,fun _ _ _=>rfl⟩
theorem Keep.trans {v:Value} {S S' S'':AS} (h:Keep v S S') (h':Keep v S' S''):Keep v S S'':=⟨Nat.le_trans h.1 h'.1,fun q hq hn=>(h'.2 q (Nat.lt_of_lt_of_le hq h.1) hn).trans (h.2 q hq hn)⟩
def Trn (l o:List Stp) (i:Nat):Prop:=o.length=l.length∧∀ q,q<l.length→lget o q=if q<i∨l.length≤q+i then lget l (l.length - 1 - q) else lget l q
theorem Trn.fin {l o:List Stp} {i:Nat} (h:Trn l o i) (hi:l.length≤2 * i+1):o=l.reverse:=by
 have hl:=h.1
 apply List.ext_getElem (by rw [List.length_reverse]; exact hl)
 intro q h1 h2
 have k:=h.2 q (by omega)
 have k1:lget o q=o[q]:=lget_of (List.getElem?_eq_getElem h1)
 rw [← k1,k,List.getElem_reverse]
 split
 ·exact lget_of (List.getElem?_eq_getElem (by omega))
 ·rw [lget_of (List.getElem?_eq_getElem (by omega:q<l.length))]
  congr 1; omega
end House
end Go.Proofs
end
section
set_option linter.unusedSimpArgs false
set_option linter.unusedVariables false
namespace Go.Proofs
namespace House
open Go Go.RowKit Go.Aev
set_option maxRecDepth 100000
end House
end Go.Proofs
end
section
set_option linter.unusedSimpArgs false
set_option linter.unusedVariables false
namespace Go.Proofs
namespace House
open Go Go.RowKit Go.Aev
set_option maxRecDepth 100000
end House
end Go.Proofs
end
section
set_option linter.unusedSimpArgs false
set_option linter.unusedVariables false
namespace Go.Proofs
namespace House
open Go Go.RowKit Go.Aev
set_option maxRecDepth 100000
end House
end Go.Proofs
end
