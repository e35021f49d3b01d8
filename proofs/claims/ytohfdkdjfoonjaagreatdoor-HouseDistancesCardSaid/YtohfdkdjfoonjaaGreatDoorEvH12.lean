import Derived.Test.YtohfdkdjfoonjaaGreatDoorEvM6
set_option linter.unusedSimpArgs false
set_option linter.unusedVariables false
namespace Go.Proofs
namespace House
open Go Go.RowKit Go.Aev
set_option maxRecDepth 100000
theorem TY_EvH12:type_of% TY_EvH11:=TY_EvH11
def r93 (a b:Int):Bool:=(r139 a b 0 1073741823)
def R142_0 (d:Dr) (ti:Int)  : List Sp→Int→Int
 | [],u0=>u0
 | x4 :: l',u0=>(if (r133 x4.lo x4.hi ((r160 ti).2))=true then R142_0 d ti l' (((r160 ti).1)+x4.hi) else R142_0 d ti l' u0)
def R142_1 (d:Dr) (ti:Int)  : List Sp→Int→Int
 | [],u1=>u1
 | x18 :: l',u1=>(if ti<x18.lo then R142_1 d ti l' (min u1 (x18.lo - 1)) else R142_1 d ti l' u1)
def r142 (d:Dr) (ti:Int):Int:=R142_1 d ti d.shut (R142_0 d ti d.hours ti)
def R140_0 (hours:List Sp) (shut:List Sp) (slo shi:Int)  : Nat→Int→List Sp
 | 0,tv=>[]
 | m'+1,tv=>(if tv≤shi then ((⟨((r141 slo shi tv (r142 (⟨hours,shut⟩:Dr) tv))).1,((r141 slo shi tv (r142 (⟨hours,shut⟩:Dr) tv))).2⟩:Sp) :: R140_0 hours shut slo shi m' (r89 (⟨hours,shut⟩:Dr) ((((r141 slo shi tv (r142 (⟨hours,shut⟩:Dr) tv))).2)+1))) else [])
def r140 (hours:List Sp) (shut:List Sp) (slo shi:Int):List Sp:=R140_0 hours shut slo shi ((shi+1 - slo).toNat+1) (r89 (⟨hours,shut⟩:Dr) slo)
end House
end Go.Proofs
