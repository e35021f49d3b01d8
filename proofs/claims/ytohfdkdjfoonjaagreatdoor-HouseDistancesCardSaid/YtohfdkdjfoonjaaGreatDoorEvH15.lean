import Derived.Test.YtohfdkdjfoonjaaGreatDoorEvH14
set_option linter.unusedSimpArgs false
set_option linter.unusedVariables false
namespace Go.Proofs
namespace House
open Go Go.RowKit Go.Aev
set_option maxRecDepth 100000
def joinW (l:List Sp) (x:Sp):List Sp:=if 0<l.length∧IntKind.i64.wrap ((lget l (l.length - 1)).hi+1)=x.lo then l.set (l.length - 1) ⟨(lget l (l.length - 1)).lo,x.hi⟩ else l++[x]
end House
end Go.Proofs
