import Derived.Test.YtohfdkdjfoonjaaGreatDoorEvH12
set_option linter.unusedSimpArgs false
set_option linter.unusedVariables false
namespace Go.Proofs
namespace House
open Go Go.RowKit Go.Aev
set_option maxRecDepth 100000
theorem TY_EvH13:type_of% TY_EvH12:=TY_EvH12
def R95_0 (d:Dr) (ti:Int)  : List Sp→Int→Int
 | [],u0=>u0
 | x5 :: l',u0=>(if ti<(((Int.tdiv ti 86400) * 86400)+x5.lo) then (if ti≤(((Int.tdiv ti 86400) * 86400)+x5.hi) then R95_0 d ti l' (min (min u0 ((((Int.tdiv ti 86400) * 86400)+x5.lo) - 1)) (((Int.tdiv ti 86400) * 86400)+x5.hi)) else R95_0 d ti l' (min u0 ((((Int.tdiv ti 86400) * 86400)+x5.lo) - 1))) else (if ti≤(((Int.tdiv ti 86400) * 86400)+x5.hi) then R95_0 d ti l' (min u0 (((Int.tdiv ti 86400) * 86400)+x5.hi)) else R95_0 d ti l' u0))
def R95_1 (d:Dr) (ti:Int)  : List Sp→Int→Int
 | [],u1=>u1
 | x35 :: l',u1=>(if ti<x35.lo then (if ti≤x35.hi then R95_1 d ti l' (min (min u1 (x35.lo - 1)) x35.hi) else R95_1 d ti l' (min u1 (x35.lo - 1))) else (if ti≤x35.hi then R95_1 d ti l' (min u1 x35.hi) else R95_1 d ti l' u1))
def r95 (d:Dr) (ti:Int):Int:=R95_1 d ti d.shut (R95_0 d ti d.hours (((Int.tdiv ti 86400) * 86400)+86399))
end House
end Go.Proofs
