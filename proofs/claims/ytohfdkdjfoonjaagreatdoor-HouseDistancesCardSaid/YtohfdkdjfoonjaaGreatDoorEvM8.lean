import Derived.Test.YtohfdkdjfoonjaaGreatDoorEvH17
set_option linter.unusedSimpArgs false
set_option linter.unusedVariables false
namespace Go.Proofs
namespace House
open Go Go.RowKit Go.Aev
set_option maxRecDepth 100000
theorem r22_59 (h:Hs):(r22 h).1=r59 h:=by rw [check_eq]; rfl
theorem r84_sel (h:Hs) (b:Bool):r84 h b=if r59 h=0 then (if b=true then 0 else 1) else r59 h:=by unfold r84; rw [r22_59]
end House
end Go.Proofs
