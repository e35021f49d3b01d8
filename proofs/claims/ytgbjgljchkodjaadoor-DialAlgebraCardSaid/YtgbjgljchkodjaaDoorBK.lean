/-
  BK: EvK, EvK2, EvK3.
-/
import Derived.Test.YtgbjgljchkodjaaDoorBY
import Derived.Test.YtgbjgljchkodjaaDoorAE4
section
/-
  The great seat of stage 1 at c2f8ee9: lists of keys.
-/
set_option linter.unusedSimpArgs false
set_option linter.unusedVariables false
namespace Go.Proofs
namespace Great
open Go Go.RowKit Go.Aev
set_option maxRecDepth 100000
structure K where
  i : Int
  t : Int
  p : Int
def K.row (k : K) : List Int := [k.i, k.t, k.p]
def K.val (k : K) : Value := .agg #[.int .i64 k.i, .int .i64 k.t, .int .i64 k.p]
def Keys (S : AS) (v : Value) (ks : List K) : Prop := Row [.i64, .i64, .i64] S v (ks.map K.row)
theorem Keys.agree {S S' : AS} {v : Value} {ks : List K} (h : Keys S v ks) (ha : Agree S S') : Keys S' v ks := Row.agree h ha
end Great
end Go.Proofs
end
section
/-
  The great seat of stage 1 at c2f8ee9: CheckKeys.
-/
set_option linter.unusedSimpArgs false
set_option linter.unusedVariables false
namespace Go.Proofs
namespace Great
open Go Go.RowKit Go.Aev
set_option maxRecDepth 100000
end Great
end Go.Proofs
end
section
/-
  The great seat of stage 1 at c2f8ee9: the reference's CheckKeys.
-/
set_option linter.unusedSimpArgs false
set_option linter.unusedVariables false
namespace Go.Proofs
namespace Great
open Go Go.RowKit Go.Aev
set_option maxRecDepth 100000
end Great
end Go.Proofs
end
