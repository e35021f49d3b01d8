/-
  BE: EvA11, EvA12.
-/
import Derived.Test.YtgbjgljchkodjaaGreatDoorBC
section
/-
  The great seat of stage 1: rest and common, by the generator.
-/
set_option linter.unusedSimpArgs false
set_option linter.unusedVariables false
namespace Go.Proofs
namespace Great
open Go Go.RowKit Go.Aev
set_option maxRecDepth 100000
theorem tz90 : szOf Tryz.prog 82 = some 1 := by kernel_rfl
theorem tt90 : inTab Tryz.prog 82 = true := by kernel_rfl
theorem t0_90 : zeroOf Tryz.prog 82 = some (.slice none 0 0) := by kernel_rfl
theorem tz177 : szOf Tryz.prog 136 = some 2 := by kernel_rfl
theorem tt177 : inTab Tryz.prog 136 = true := by kernel_rfl
theorem t0_177 : zeroOf Tryz.prog 136 = some (.agg #[.int .i64 0, .int .i64 0]) := by kernel_rfl
theorem tz178 : szOf Tryz.prog 137 = some 2 := by kernel_rfl
theorem tt178 : inTab Tryz.prog 137 = true := by kernel_rfl
theorem t0_178 : zeroOf Tryz.prog 137 = some (.agg #[.int .i64 0, .int .i64 0]) := by kernel_rfl
def R89_1 (a : List Sp) (b : List Sp) (i : Nat) (o : List Sp) : List Sp → List Sp → (List Sp)
  | [], p => p
  | x4 :: l', p => (if (max ((lget a i).lo) x4.lo) ≤ (min ((lget a i).hi) x4.hi) then R89_1 a b i o l' (r131 (p : List Sp) (max ((lget a i).lo) x4.lo) (min ((lget a i).hi) x4.hi)) else R89_1 a b i o l' p)
def R89_0 (a : List Sp) (b : List Sp)  : List Sp → Nat → List Sp → (List Sp)
  | [], i, o => o
  | _x :: l', i, o => R89_0 a b l' (i + 1) (R89_1 a b i o b o)
def r89 (a : List Sp) (b : List Sp) : List Sp := R89_0 a b a 0 ([])
end Great
end Go.Proofs
end
section
/-
  The great seat of stage 1: the specification's sets, by the generator.
-/
set_option linter.unusedSimpArgs false
set_option linter.unusedVariables false
namespace Go.Proofs
namespace Great
open Go Go.RowKit Go.Aev
set_option maxRecDepth 100000
def r25 (a : List Ar) (b : List Ar) : List Ar := (r87 ((r89 ((r88 (a : List Ar)) : List Sp) ((r88 (b : List Ar)) : List Sp)) : List Sp))
end Great
end Go.Proofs
end
