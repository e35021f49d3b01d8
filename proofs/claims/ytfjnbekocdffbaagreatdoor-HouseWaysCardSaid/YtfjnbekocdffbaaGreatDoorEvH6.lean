/-
  The house's seat: the law HouseWalks, by the generator.
-/
import Derived.Test.YtfjnbekocdffbaaGreatDoorEvH5
set_option linter.unusedSimpArgs false
set_option linter.unusedVariables false
namespace Go.Proofs
namespace House
open Go Go.RowKit Go.Aev
set_option maxRecDepth 100000
theorem tz29 : szOf Tryz.prog 29 = some 1 := by kernel_rfl
theorem tt29 : inTab Tryz.prog 29 = true := by kernel_rfl
theorem t0_29 : zeroOf Tryz.prog 29 = some (.int .i64 0) := by kernel_rfl
theorem tz50 : szOf Tryz.prog 50 = some 3 := by kernel_rfl
theorem tt50 : inTab Tryz.prog 50 = true := by kernel_rfl
theorem t0_50 : zeroOf Tryz.prog 50 = some (.agg #[.int .i64 0, .int .i64 0, .int .i64 0]) := by kernel_rfl
theorem tz51 : szOf Tryz.prog 51 = some 3 := by kernel_rfl
theorem tt51 : inTab Tryz.prog 51 = true := by kernel_rfl
theorem t0_51 : zeroOf Tryz.prog 51 = some (.agg #[.int .i64 0, .int .i64 0, .int .i64 0]) := by kernel_rfl
theorem r98_ok {h : Hs} {n : Int} {b : Bool} {ti : Int} (e : (r98 h n b ti).2 = 0) : r59 h = 0 ∧ 0 ≤ n ∧ n < h.ways.length ∧ -1 ≤ (r98 h n b ti).1.2.2.2.2 ∧ (r98 h n b ti).1.2.2.2.2 < h.doors.length ∧ 0 ≤ (r98 h n b ti).1.2.2.2.1 ∧ (r98 h n b ti).1.2.2.2.1 ≤ 3600 ∧ 0 ≤ ti ∧ ti ≤ 1073741823 := by
  unfold r98 at e ⊢
  split at e
  case isFalse => exact absurd e (by assumption)
  rename_i h1
  split at e
  case isFalse => simp at e
  rename_i h2
  split at e
  case isFalse => simp at e
  rename_i h3
  have h2' := r71_iff.1 h2
  have h3' := r69_iff.1 h3
  have k := okw_at h1 (n := n) (by omega)
  have k1 := k.k
  have k2 := k.s
  have k3 := k.d
  rw [if_pos h1, if_pos h2, if_pos h3]
  split at e
  · split at e
    · simp at e
    · rename_i h4 h5
      rw [if_pos h4, if_neg h5]
      simp only
      exact ⟨h1, by omega, by omega, by omega, by omega, by omega, by omega, by omega, by omega⟩
  · rename_i h4
    rw [if_neg h4]
    simp only
    exact ⟨h1, by omega, by omega, by omega, by omega, by omega, by omega, by omega, by omega⟩

end House
end Go.Proofs
