import Derived.Test.YtohfdkdjfoonjaaGreatDoorEvH15
set_option linter.unusedSimpArgs false
set_option linter.unusedVariables false
namespace Go.Proofs
namespace House
open Go Go.RowKit Go.Aev
set_option maxRecDepth 100000
theorem TY_EvH16:type_of% TY_EvH14:=TY_EvH14
def r32 (h:Hs) (door:Int) (slo shi:Int):List Sp × Int:=(if (r87 h door)=true then (if (r84 h (r93 slo shi))=0 then (if 604800≤(shi - slo) then ([],2) else (((r140 ((lget h.doors (Int.toNat door))).hours ((lget h.doors (Int.toNat door))).shut slo shi).foldl joinW []),0)) else ([],(r84 h (r93 slo shi)))) else ([],(r84 h false)))
end House
end Go.Proofs
