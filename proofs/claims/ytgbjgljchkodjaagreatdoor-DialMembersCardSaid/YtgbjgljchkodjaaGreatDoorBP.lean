/-
  BP: EvP, EvP2, EvP3, EvP4.
-/
import Derived.Test.YtgbjgljchkodjaaGreatDoorBK
section
/-
  The great seat of stage 1 at c2f8ee9: bunches.
-/
set_option linter.unusedSimpArgs false
set_option linter.unusedVariables false
namespace Go.Proofs
namespace Great
open Go Go.RowKit Go.Aev
set_option maxRecDepth 100000
def exG (ks : List K) (e : Nat → Int) : Int × Int := if 40 < (ks.length : Int) then (2, -1) else exFrom e ks.length 0
/-- Keys are a bunch. -/
def bunch (ks : List K) : Bool := decide ((exG ks (placeE ks)).1 = 0)
end Great
end Go.Proofs
end
section
/-
  The great seat of stage 1 at c2f8ee9: the reference's bunches, and rivals.
-/
set_option linter.unusedSimpArgs false
set_option linter.unusedVariables false
namespace Go.Proofs
namespace Great
open Go Go.RowKit Go.Aev
set_option maxRecDepth 100000
end Great
end Go.Proofs
end
section
/-
  The great seat of stage 1 at c2f8ee9: rivals.
-/
set_option linter.unusedSimpArgs false
set_option linter.unusedVariables false
namespace Go.Proofs
namespace Great
open Go Go.RowKit Go.Aev
set_option maxRecDepth 100000
def rivalId (q : K → Bool) : List K → Int
  | [] => 0
  | x :: l => if q x = true then x.i else rivalId q l
end Great
end Go.Proofs
end
section
/-
  The great seat of stage 1 at c2f8ee9: Rival.
-/
set_option linter.unusedSimpArgs false
set_option linter.unusedVariables false
namespace Go.Proofs
namespace Great
open Go Go.RowKit Go.Aev
set_option maxRecDepth 100000
end Great
end Go.Proofs
end
