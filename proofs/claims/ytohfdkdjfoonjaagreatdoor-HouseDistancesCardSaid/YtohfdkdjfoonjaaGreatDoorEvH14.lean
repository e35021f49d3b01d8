import Derived.Test.YtohfdkdjfoonjaaGreatDoorEvM7
import Derived.Test.YtohfdkdjfoonjaaGreatDoorAE6
set_option linter.unusedSimpArgs false
set_option linter.unusedVariables false
namespace Go.Proofs
namespace House
open Go Go.RowKit Go.Aev
set_option maxRecDepth 100000
theorem TY_EvH14:type_of% TY_EvH13:=TY_EvH13
def r85 (h:Hs) (n:Int) (ti:Int):Int:=(if (r59 h)=0 then (if (r71 n 0 ((h.doors.length:Int) - 1))=true then (if (r69 ti)=true then (r59 h) else 1) else 1) else (r59 h))
def R33_0 (h:Hs) (n:Int) (slo shi:Int)  : Nat→List Sp→Int→(List Sp)
 | 0,out,tv=>out
 | m'+1,out,tv=>(if tv≤shi then (if (r86 (lget h.doors (Int.toNat n)) tv)=true then (if 0<(out.length:Int) then (if ((lget out (Int.toNat (max ((out.length:Int) - 1) 0))).hi)=(tv - 1) then R33_0 h n slo shi m' (out.set (Int.toNat ((out.length:Int) - 1)) (⟨(lget out (Int.toNat ((out.length:Int) - 1))).lo,min (r95 (lget h.doors (Int.toNat n)) tv) shi⟩:Sp)) ((min (r95 (lget h.doors (Int.toNat n)) tv) shi)+1) else R33_0 h n slo shi m' (out++([(⟨tv,min (r95 (lget h.doors (Int.toNat n)) tv) shi⟩:Sp)])) ((min (r95 (lget h.doors (Int.toNat n)) tv) shi)+1)) else R33_0 h n slo shi m' (out++([(⟨tv,min (r95 (lget h.doors (Int.toNat n)) tv) shi⟩:Sp)])) ((min (r95 (lget h.doors (Int.toNat n)) tv) shi)+1)) else R33_0 h n slo shi m' out ((min (r95 (lget h.doors (Int.toNat n)) tv) shi)+1)) else out)
def r33 (h:Hs) (n:Int) (slo shi:Int):List Sp × Int:=(if (r85 h n 0)=0 then (if shi<slo then ([],1) else (if (r69 slo)=true then (if (r69 shi)=true then (if 604800≤(shi - slo) then ([],2) else (R33_0 h n slo shi ((shi+1 - slo).toNat+1) ([]) slo,0)) else ([],1)) else ([],1))) else ([],(r85 h n 0)))
end House
end Go.Proofs
