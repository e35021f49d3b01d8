/-
  The great seat of stage 1: the law DialSets, by the generator.
-/
import Derived.Test.YtgbjgljchkodjaaDoorEvC8
import Derived.Test.YtgbjgljchkodjaaDoorBJ
set_option linter.unusedSimpArgs false
set_option linter.unusedVariables false
namespace Go.Proofs
namespace Great
open Go Go.RowKit Go.Aev
set_option maxRecDepth 100000
def r3 (a : List Ar) (b : List Ar) : Bool := (if (r14 (a : List Ar)) = true then (if (r14 (b : List Ar)) = true then (if (r20 (a)) = (r20 (a : List Ar)) then (if (r21 (a) (b)) = (r21 (a : List Ar) (b : List Ar)) then (if (r20 (a : List Ar)) = 0 then (if (r21 (a : List Ar) (b : List Ar)) = 0 then (if (r22 ((nrm (a)) : List Ar) ((r23 (a : List Ar)) : List Ar)) = true then (if (r22 ((two r24 (a) (b)) : List Ar) ((r24 (a : List Ar) (b : List Ar)) : List Ar)) = true then (if (r22 ((two r25 (a) (b)) : List Ar) ((r25 (a : List Ar) (b : List Ar)) : List Ar)) = true then (r22 ((two r26 (a) (b)) : List Ar) ((r26 (a : List Ar) (b : List Ar)) : List Ar)) else false) else false) else false) else (if 0 < ((((two r24 (a) (b)).length + (two r25 (a) (b)).length) + (two r26 (a) (b)).length : Nat) : Int) then false else (if (r22 ((nrm (a)) : List Ar) ((r23 (a : List Ar)) : List Ar)) = true then true else false))) else (if 0 < ((nrm (a)).length : Int) then false else (if (r21 (a : List Ar) (b : List Ar)) = 0 then (if (r22 ((two r24 (a) (b)) : List Ar) ((r24 (a : List Ar) (b : List Ar)) : List Ar)) = true then (if (r22 ((two r25 (a) (b)) : List Ar) ((r25 (a : List Ar) (b : List Ar)) : List Ar)) = true then (r22 ((two r26 (a) (b)) : List Ar) ((r26 (a : List Ar) (b : List Ar)) : List Ar)) else false) else false) else (if 0 < ((((two r24 (a) (b)).length + (two r25 (a) (b)).length) + (two r26 (a) (b)).length : Nat) : Int) then false else true)))) else false) else false) else true) else true)
end Great
end Go.Proofs
