import Derived.Test.YtohfdkdjfoonjaaGreatDoorEvH14
section
set_option linter.unusedSimpArgs false
set_option linter.unusedVariables false
namespace Go.Proofs
namespace House
open Go Go.RowKit Go.Aev
set_option maxRecDepth 100000
def joinW (l:List Sp) (x:Sp):List Sp:=if 0<l.length∧IntKind.i64.wrap ((lget l (l.length - 1)).hi+1)=x.lo then l.set (l.length - 1) ⟨(lget l (l.length - 1)).lo,x.hi⟩ else l++[x]
end House
end Go.Proofs
end
section
set_option linter.unusedSimpArgs false
set_option linter.unusedVariables false
namespace Go.Proofs
namespace House
open Go Go.RowKit Go.Aev
set_option maxRecDepth 100000
theorem TY_EvH16:type_of% TY_EvH14:=TY_EvH14
theorem r93_iff {a b:Int}:r93 a b=true↔a≤b∧0≤a∧b≤1073741823:=by
 unfold r93 r139
 have:=r141_eq a b 0 1073741823
 split
 ·rw [decide_eq_true_eq]; omega
 ·simp; omega
def r32 (h:Hs) (door:Int) (slo shi:Int):List Sp × Int:=(if (r87 h door)=true then (if (r84 h (r93 slo shi))=0 then (if 604800≤(shi - slo) then ([],2) else (((r140 ((lget h.doors (Int.toNat door))).hours ((lget h.doors (Int.toNat door))).shut slo shi).foldl joinW []),0)) else ([],(r84 h (r93 slo shi)))) else ([],(r84 h false)))
end House
end Go.Proofs
end
