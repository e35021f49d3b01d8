/-
  The great seat of stage 1: the law DialMembers, by the generator.
-/
import Derived.Test.YtgbjgljchkodjaaDoorEvC12
set_option linter.unusedSimpArgs false
set_option linter.unusedVariables false
namespace Go.Proofs
namespace Great
open Go Go.RowKit Go.Aev
set_option maxRecDepth 100000
theorem usual_len {l : List Ar} (h : r75 l = true) : l.length ≤ 40 := by
  unfold r75 at h
  by_cases h1 : (l.length : Int) ≤ 40
  · omega
  · rw [if_neg h1] at h; simp at h
theorem usual_ok {l : List Ar} (h : r75 l = true) : r20 l = 0 := by
  have h2 := usual_len h
  unfold r75 at h
  rw [if_pos (by omega)] at h
  exact of_decide_eq_true h

end Great
end Go.Proofs
