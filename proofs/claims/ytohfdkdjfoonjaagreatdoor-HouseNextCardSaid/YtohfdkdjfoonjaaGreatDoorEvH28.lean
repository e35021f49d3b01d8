import Derived.Test.YtohfdkdjfoonjaaGreatDoorBU
set_option linter.unusedSimpArgs false
set_option linter.unusedVariables false
namespace Go.Proofs
namespace House
open Go Go.RowKit Go.Aev
set_option maxRecDepth 100000
def r113 (h:Hs) (a:Int) (ta:Int) (b:Int) (tb:Int):Int:=(if (r102 h a)=true then (if (r88 ta)=true then (if (r102 h b)=true then (r84 h (r88 tb)) else (r84 h false)) else (r84 h false)) else (r84 h false))
def r49 (h:Hs) (a:Int) (ta:Int) (b:Int) (tb:Int):Int:=(if (r104 h a ta)=0 then (r104 h b tb) else (r104 h a ta))
def r46 (h:Hs) (a:Int) (ta:Int) (b:Int) (tb:Int):Bool × Int:=(if (r49 h a ta b tb)=0 then (decide ((lget (r50 h a ta) (Int.toNat b))≤tb),0) else (false,(r49 h a ta b tb)))
end House
end Go.Proofs
