/-
  The great seat of stage 1: the law DialSets is true.
-/
import Derived.Test.YtgbjgljchkodjaaGreatDoorEvC9
import Derived.Test.YtgbjgljchkodjaaGreatDoorEvM1
import Derived.Test.YtgbjgljchkodjaaGreatDoorEvQ13
set_option linter.unusedSimpArgs false
set_option linter.unusedVariables false
namespace Go.Proofs
namespace Great
open Go Go.RowKit Go.Aev
set_option maxRecDepth 100000
theorem nrm_pos {a : List Ar} (h : r20 a = 0) : nrm a = r23 a := if_pos h
theorem two_pos {g : List Ar → List Ar → List Ar} {a b : List Ar} (h : r21 a b = 0) : two g a b = g a b := if_pos h
end Great
end Go.Proofs
