import Derived.Test.YtohfdkdjfoonjaaGreatDoorEvH6
import Derived.Test.YtohfdkdjfoonjaaGreatDoorAE6
section
set_option linter.unusedSimpArgs false
set_option linter.unusedVariables false
namespace Go.Proofs
namespace House
open Go Go.RowKit Go.Aev
set_option maxRecDepth 100000
theorem TY_EvH7:type_of% TY_EvH6:=TY_EvH6
def R167_0 (l:List Sp)  : Nat→Int→List (Int × Sp)
 | 0,iv=>[]
 | m'+1,iv=>(if 0≤iv then ((iv,(lget l (Int.toNat iv))) :: R167_0 l m' (iv - 1)) else [])
def r167 (l:List Sp):List (Int × Sp):=R167_0 l (l.length+1) ((l.length:Int) - 1)
end House
end Go.Proofs
end
section
set_option linter.unusedSimpArgs false
set_option linter.unusedVariables false
namespace Go.Proofs
namespace House
open Go Go.RowKit Go.Aev
set_option maxRecDepth 100000
def hit (day sec:Int):List (Int × Sp)→Option Int
 | []=>none
 | b :: ys=>if b.2.lo≤sec then some (day+min sec b.2.hi) else hit day sec ys
end House
end Go.Proofs
end
section
set_option linter.unusedSimpArgs false
set_option linter.unusedVariables false
namespace Go.Proofs
namespace House
open Go Go.RowKit Go.Aev
set_option maxRecDepth 100000
def r138 (l:List Sp) (ti:Int):Int :=
 if (l.length:Int)=0 then -1 else
 match hit (r160 ti).1 (r160 ti).2 (r167 l) with
 | some r=>r
 | none=>(r160 ti).1 - 86400+(lget l (l.length - 1)).hi
end House
end Go.Proofs
end
