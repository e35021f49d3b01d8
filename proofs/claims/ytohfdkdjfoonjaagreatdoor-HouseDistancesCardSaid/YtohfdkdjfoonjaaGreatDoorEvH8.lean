import Derived.Test.YtohfdkdjfoonjaaGreatDoorEvH7
set_option linter.unusedSimpArgs false
set_option linter.unusedVariables false
namespace Go.Proofs
namespace House
open Go Go.RowKit Go.Aev
set_option maxRecDepth 100000
theorem lst_slice {α:Type} [Cel α] {S:AS} {v:Value} {l:List α} (h:Lst S v l):∃ p n c,v=.slice p n c:=by
 rcases h with ⟨_,rfl|rfl⟩|⟨id,off,c,ty,cap,wr,ex,rfl,_⟩
 ·exact ⟨_,_,_,rfl⟩
 ·exact ⟨_,_,_,rfl⟩
 ·exact ⟨_,_,_,rfl⟩
def hit (day sec:Int):List (Int × Sp)→Option Int
 | []=>none
 | b :: ys=>if b.2.lo≤sec then some (day+min sec b.2.hi) else hit day sec ys
def findR:Code→Option (Code × Code)
 | .rangeFunc _ _ A B=>some (A,B)
 | .seq x y=>match findR x with
  | some r=>some r
  | none=>findR y
 | .block _ c=>findR c
 | .loop c=>findR c
 | .cond _ x y=>match findR x with
  | some r=>some r
  | none=>findR y
 | _=>none
end House
end Go.Proofs
