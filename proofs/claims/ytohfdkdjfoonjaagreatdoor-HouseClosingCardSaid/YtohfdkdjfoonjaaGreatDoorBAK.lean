import Derived.Test.YtohfdkdjfoonjaaGreatDoorEvH14
section
set_option linter.unusedSimpArgs false
set_option linter.unusedVariables false
namespace Go.Proofs
namespace House
open Go Go.RowKit Go.Aev
set_option maxRecDepth 100000
end House
end Go.Proofs
end
section
set_option linter.unusedSimpArgs false
set_option linter.unusedVariables false
namespace Go.Proofs
namespace House
open Go Go.RowKit Go.Aev
set_option maxRecDepth 100000
theorem TY_EvH16:type_of% TY_EvH14:=TY_EvH14
theorem r93_iff {a b:Int}:r93 a b=true↔a≤b∧0≤a∧b≤1073741823:=by
 unfold r93 r139
 have:=r141_eq a b 0 1073741823
 split
 ·rw [decide_eq_true_eq]; omega
 ·simp; omega
end House
end Go.Proofs
end
