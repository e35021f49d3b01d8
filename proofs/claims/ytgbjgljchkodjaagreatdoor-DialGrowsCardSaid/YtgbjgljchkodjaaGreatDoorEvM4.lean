/-
  The great seat of stage 1: pins as bits, arcs within arcs, makers of a mark.
-/
import Derived.Test.YtgbjgljchkodjaaGreatDoorBT
import Derived.Test.YtgbjgljchkodjaaGreatDoorEvM1
import Derived.Test.YtgbjgljchkodjaaGreatDoorBN
import Derived.Test.YtgbjgljchkodjaaGreatDoorBZZ
set_option linter.unusedSimpArgs false
set_option linter.unusedVariables false
namespace Go.Proofs
namespace Great
open Go Go.RowKit Go.Aev
set_option maxRecDepth 100000

/-! ### Arcs -/
/-- The arc from f on has an angle. -/
def InA (f l n : Int) : Prop := (f ≤ n ∧ n ≤ f + l ∧ n ≤ 43199) ∨ (0 ≤ n ∧ n + 43200 ≤ f + l)
end Great
end Go.Proofs
