import Derived.Test.YtohfdkdjfoonjaaGreatDoorEvH11
set_option linter.unusedSimpArgs false
set_option linter.unusedVariables false
namespace Go.Proofs
namespace House
open Go Go.RowKit Go.Aev
set_option maxRecDepth 100000
theorem r84_eq (h:Hs) (b:Bool):r84 h b=if r59 h=0 then (if b=true then 0 else 1) else r59 h:=by
 unfold r84 r59; rw [check_eq]
end House
end Go.Proofs
