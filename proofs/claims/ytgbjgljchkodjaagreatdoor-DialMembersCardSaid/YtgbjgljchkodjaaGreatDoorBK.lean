/-
  BK: EvK, EvK2, EvK3.
-/
import Derived.Test.YtgbjgljchkodjaaGreatDoorBZZ
import Derived.Test.YtgbjgljchkodjaaGreatDoorAE4
section
/-
  The great seat of stage 1 at c2f8ee9: lists of keys.
-/
set_option linter.unusedSimpArgs false
set_option linter.unusedVariables false
namespace Go.Proofs
namespace Great
open Go Go.RowKit Go.Aev
set_option maxRecDepth 100000
structure K where
  i : Int
  t : Int
  p : Int
def K.row (k : K) : List Int := [k.i, k.t, k.p]
def K.val (k : K) : Value := .agg #[.int .i64 k.i, .int .i64 k.t, .int .i64 k.p]
def Keys (S : AS) (v : Value) (ks : List K) : Prop := Row [.i64, .i64, .i64] S v (ks.map K.row)
theorem Keys.agree {S S' : AS} {v : Value} {ks : List K} (h : Keys S v ks) (ha : Agree S S') : Keys S' v ks := Row.agree h ha
/-- Whether a key of a list can be confused with k. -/
def confK (k : K) (f s : Int) (x : K) : Bool := decide (ConfP k.t k.p x.t x.p f s)
/-- The error of a key of a list by itself and by the key before. -/
def placeE (ks : List K) (i : Nat) : Int :=
  match ks[i]? with
  | none => 0
  | some k => if ¬ KeyOk k.i k.t k.p then 1 else match i with
    | 0 => 0
    | j + 1 => match ks[j]? with
      | none => 0
      | some k0 => if k.i ≤ k0.i then 6 else 0
end Great
end Go.Proofs
end
section
/-
  The great seat of stage 1 at c2f8ee9: CheckKeys.
-/
set_option linter.unusedSimpArgs false
set_option linter.unusedVariables false
namespace Go.Proofs
namespace Great
open Go Go.RowKit Go.Aev
set_option maxRecDepth 100000
/-- The first error that is not 0, and its place. -/
def exFrom (e : Nat → Int) : Nat → Nat → Int × Int
  | 0, _ => (0, -1)
  | m + 1, k => if e k = 0 then exFrom e m (k + 1) else (e k, (k : Int))
end Great
end Go.Proofs
end
section
/-
  The great seat of stage 1 at c2f8ee9: the reference's CheckKeys.
-/
set_option linter.unusedSimpArgs false
set_option linter.unusedVariables false
namespace Go.Proofs
namespace Great
open Go Go.RowKit Go.Aev
set_option maxRecDepth 100000
end Great
end Go.Proofs
end
