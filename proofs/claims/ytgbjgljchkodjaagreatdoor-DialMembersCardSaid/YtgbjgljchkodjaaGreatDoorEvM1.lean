/-
  The great seat of stage 1: the makers of a mark: what the program's functions and the reference's are.
-/
import Derived.Test.YtgbjgljchkodjaaGreatDoorBC
set_option linter.unusedSimpArgs false
set_option linter.unusedVariables false
namespace Go.Proofs
namespace Great
open Go Go.RowKit Go.Aev
set_option maxRecDepth 100000
theorem wrapS {n : Int} (h : -9223372036854775808 ≤ n ∧ n ≤ 9223372036854775807) : IntKind.i64.wrap n = n := IntWalk.i64_in n h
theorem r94_ok {x y w : Int} (h : ArcOk x y) (hw : 0 ≤ w ∧ w ≤ 43200) : ArcOk (r94 x y w).1 (r94 x y w).2 := by
  have h0 : 0 ≤ y ∧ y ≤ 43199 := by unfold ArcOk at h; omega
  have w1 : IntKind.i64.wrap (2 * w) = 2 * w := by apply wrapS; omega
  have w2 : IntKind.i64.wrap (y + 2 * w) = y + 2 * w := by apply wrapS; omega
  unfold r94
  rw [w1, w2]
  split
  · left; exact ⟨rfl, rfl⟩
  · right
    have := angle_range (IntKind.i64.wrap (x - w))
    exact ⟨this.1, this.2, by omega, by omega⟩
end Great
end Go.Proofs
