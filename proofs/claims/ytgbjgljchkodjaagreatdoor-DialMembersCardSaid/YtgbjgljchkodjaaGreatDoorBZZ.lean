/-
  BZZ: EvZ8, EvZ9, EvZ10.
-/
import Derived.Test.YtgbjgljchkodjaaGreatDoorBZ
section
/-
  The great seat of stage 1 at c2f8ee9: sets of pins as words of twelve bits.
-/
set_option linter.unusedSimpArgs false
set_option linter.unusedVariables false
namespace Go.Proofs
namespace Great
open Go Go.RowKit Go.Aev
set_option maxRecDepth 100000
def val (u : BitVec 12) : Int := (u.toNat : Int)
/-- How many of the first k bits are set. -/
def cb (u : BitVec 12) : Nat → Nat
  | 0 => 0
  | k + 1 => cb u k + if u.getLsbD k then 1 else 0
/-- The first n bits of a word, and how many are still wanted. -/
def fb (u : BitVec 12) (n : Nat) : Nat → BitVec 12 × Nat
  | 0 => (0#12, n)
  | k + 1 => if 0 < (fb u n k).2 ∧ u.getLsbD k = true then ((fb u n k).1 ||| BitVec.twoPow 12 k, (fb u n k).2 - 1) else fb u n k
def first (u : BitVec 12) (n : Nat) : BitVec 12 := (fb u n 12).1
end Great
end Go.Proofs
end
section
/-
  The great seat of stage 1 at c2f8ee9: keys that can be confused.
-/
set_option linter.unusedSimpArgs false
set_option linter.unusedVariables false
namespace Go.Proofs
namespace Great
open Go Go.RowKit Go.Aev
set_option maxRecDepth 100000
theorem w12 : IntKind.i64.wrap (1 + 1) = 2 := by kernel_rfl
/-- What two valid keys and a valid ink owe that a mark can be of both. -/
def ConfP (t1 p1 t2 p2 f s : Int) : Prop := cnt (notV p1 p2) ≤ f + s ∧ cnt (notV p2 p1) ≤ f + s ∧ t1 = t2
instance (t1 p1 t2 p2 f s : Int) : Decidable (ConfP t1 p1 t2 p2 f s) := by unfold ConfP; infer_instance
end Great
end Go.Proofs
end
section
/-
  The great seat of stage 1 at c2f8ee9: Confusable, Shows, Of.
-/
set_option linter.unusedSimpArgs false
set_option linter.unusedVariables false
namespace Go.Proofs
namespace Great
open Go Go.RowKit Go.Aev
set_option maxRecDepth 100000
def Conf (i1 t1 p1 i2 t2 p2 f s l : Int) : Prop := KeyOk i1 t1 p1 ∧ KeyOk i2 t2 p2 ∧ InkOk f s l ∧ ConfP t1 p1 t2 p2 f s
instance (i1 t1 p1 i2 t2 p2 f s l : Int) : Decidable (Conf i1 t1 p1 i2 t2 p2 f s l) := by unfold Conf; infer_instance
theorem KeyOk.set {i t p : Int} (h : KeyOk i t p) : 0 ≤ p ∧ p ≤ 4095 := by unfold KeyOk at h; omega
def ShowsP (d e set f s : Int) : Prop := cnt (andV set e) ≤ f ∧ cnt (notV d set) ≤ s
instance (d e set f s : Int) : Decidable (ShowsP d e set f s) := by unfold ShowsP; infer_instance
end Great
end Go.Proofs
end
