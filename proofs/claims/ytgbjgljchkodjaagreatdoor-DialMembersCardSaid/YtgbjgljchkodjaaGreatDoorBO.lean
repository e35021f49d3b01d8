/-
  The great seat of stage 1: what is known more has fewer makers, pairs and angles.
-/
import Derived.Test.YtgbjgljchkodjaaGreatDoorBU
import Derived.Test.YtgbjgljchkodjaaGreatDoorEvM4
set_option linter.unusedSimpArgs false
set_option linter.unusedVariables false
set_option linter.unusedSectionVars false
namespace Go.Proofs
namespace Great
open Go Go.RowKit Go.Aev
set_option maxRecDepth 100000

/-- Of the second mark no more is known than of the first. -/
structure Shp (a b c d e aa ba ca da ea : Int) : Prop where
  ok1 : MarkOk a b c d e
  ok2 : MarkOk aa ba ca da ea
  tr : c = ca
  arc : ∀ n, InA a b n → InA aa ba n
  bits : ∃ D E D2 E2 : BitVec 12, d = val D ∧ e = val E ∧ da = val D2 ∧ ea = val E2 ∧ (∀ k, D2.getLsbD k = true → D.getLsbD k = true) ∧ ∀ k, E2.getLsbD k = true → E.getLsbD k = true
section
variable {a b c d e aa ba ca da ea : Int} (h : Shp a b c d e aa ba ca da ea) {f s l : Int}
include h
end

section
variable {a b c d e aa ba ca da ea : Int} (h : Shp a b c d e aa ba ca da ea) (ks : List K) {f s l : Int}
include h
end
end Great
end Go.Proofs
