/-
  The great seat of stage 1: spans, by the generator.
-/
import Derived.Test.YtgbjgljchkodjaaGreatDoorEvA3
set_option linter.unusedSimpArgs false
set_option linter.unusedVariables false
namespace Go.Proofs
namespace Great
open Go Go.RowKit Go.Aev
set_option maxRecDepth 100000
theorem tz110 : szOf Tryz.prog 89 = some 1 := by kernel_rfl
theorem tt110 : inTab Tryz.prog 89 = true := by kernel_rfl
theorem t0_110 : zeroOf Tryz.prog 89 = some (.slice none 0 0) := by kernel_rfl
theorem tz115 : szOf Tryz.prog 94 = some 2 := by kernel_rfl
theorem tt115 : inTab Tryz.prog 94 = true := by kernel_rfl
theorem t0_115 : zeroOf Tryz.prog 94 = some (.agg #[.int .i64 0, .int .i64 0]) := by kernel_rfl
theorem tz116 : szOf Tryz.prog 95 = some 2 := by kernel_rfl
theorem tt116 : inTab Tryz.prog 95 = true := by kernel_rfl
theorem t0_116 : zeroOf Tryz.prog 95 = some (.agg #[.int .i64 0, .int .i64 0]) := by kernel_rfl
def R131_0 (l : List Sp) (lo hi : Int)  : List Sp → Int → Int → List Sp → Int × Int × (List Sp)
  | [], p, q, o => (p, q, o)
  | x2 :: l', p, q, o => (if (IntKind.i64.wrap (x2.hi + 1)) < p then R131_0 l lo hi l' p q (o ++ ([(⟨x2.lo, x2.hi⟩ : Sp)])) else (if (IntKind.i64.wrap (q + 1)) < x2.lo then R131_0 l lo hi l' p q (o ++ ([(⟨x2.lo, x2.hi⟩ : Sp)])) else R131_0 l lo hi l' (min p x2.lo) (max q x2.hi) o))
def R131_1 (l : List Sp) (lo hi : Int)  : List Sp → Nat → Nat
  | [], k => k
  | x36 :: l', k => (if x36.lo < ((R131_0 l lo hi l lo hi ([])).1) then R131_1 l lo hi l' (k + 1) else k)
def r131 (l : List Sp) (lo hi : Int) : List Sp := ((([] : List Sp) ++ (((R131_0 l lo hi l lo hi ([])).2.2).take (R131_1 l lo hi ((R131_0 l lo hi l lo hi ([])).2.2) 0))) ++ ([(⟨(R131_0 l lo hi l lo hi ([])).1, (R131_0 l lo hi l lo hi ([])).2.1⟩ : Sp)])) ++ (((R131_0 l lo hi l lo hi ([])).2.2).drop (R131_1 l lo hi ((R131_0 l lo hi l lo hi ([])).2.2) 0))
def R88_0 (l : List Ar)  : List Ar → List Sp → (List Sp)
  | [], o => o
  | x1 :: l', o => (if (IntKind.i64.wrap (x1.f + x1.l)) < 43200 then R88_0 l l' (r131 (o : List Sp) x1.f (IntKind.i64.wrap (x1.f + x1.l))) else R88_0 l l' (r131 ((r131 (o : List Sp) x1.f 43199) : List Sp) 0 (IntKind.i64.wrap ((IntKind.i64.wrap (x1.f + x1.l)) - 43200))))
def r88 (l : List Ar) : List Sp := R88_0 l l ([])
def R87_0 (l : List Sp)  : List Sp → Nat → List Ar → (List Ar)
  | [], i, o => o
  | x8 :: l', i, o => (if ((lget l (l.length - 1)).hi) = 43199 then (if (i : Int) = 0 then R87_0 l l' (i + 1) o else (if (i : Int) = ((l.length - 1 : Nat) : Int) then R87_0 l l' (i + 1) (o ++ ([(⟨x8.lo, IntKind.i64.wrap ((IntKind.i64.wrap ((IntKind.i64.wrap (x8.hi - x8.lo)) + 1)) + ((lget l 0).hi))⟩ : Ar)])) else R87_0 l l' (i + 1) (o ++ ([(⟨x8.lo, IntKind.i64.wrap (x8.hi - x8.lo)⟩ : Ar)])))) else R87_0 l l' (i + 1) (o ++ ([(⟨x8.lo, IntKind.i64.wrap (x8.hi - x8.lo)⟩ : Ar)])))
def R87_1 (l : List Sp)  : List Sp → Nat → List Ar → (List Ar)
  | [], i, o => o
  | x64 :: l', i, o => R87_1 l l' (i + 1) (o ++ ([(⟨x64.lo, IntKind.i64.wrap (x64.hi - x64.lo)⟩ : Ar)]))
def R87_2 (l : List Sp)  : List Sp → Nat → List Ar → (List Ar)
  | [], i, o => o
  | x85 :: l', i, o => R87_2 l l' (i + 1) (o ++ ([(⟨x85.lo, IntKind.i64.wrap (x85.hi - x85.lo)⟩ : Ar)]))
def r87 (l : List Sp) : List Ar := (if 1 < (l.length : Int) then (if ((lget l 0).lo) = 0 then R87_0 l l 0 ([]) else R87_1 l l 0 ([])) else R87_2 l l 0 ([]))
end Great
end Go.Proofs
