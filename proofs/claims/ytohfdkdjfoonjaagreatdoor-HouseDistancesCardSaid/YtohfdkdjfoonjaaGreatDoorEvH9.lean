import Derived.Test.YtohfdkdjfoonjaaGreatDoorEvH8
set_option linter.unusedSimpArgs false
set_option linter.unusedVariables false
namespace Go.Proofs
namespace House
open Go Go.RowKit Go.Aev
set_option maxRecDepth 100000
def r138 (l:List Sp) (ti:Int):Int :=
 if (l.length:Int)=0 then -1 else
 match hit (r160 ti).1 (r160 ti).2 (r167 l) with
 | some r=>r
 | none=>(r160 ti).1 - 86400+(lget l (l.length - 1)).hi
end House
end Go.Proofs
