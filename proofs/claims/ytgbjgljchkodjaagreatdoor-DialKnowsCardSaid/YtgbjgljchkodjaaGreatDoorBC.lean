/-
  BC: EvA5, EvA6, EvA7.
-/
import Derived.Test.YtgbjgljchkodjaaGreatDoorEvA4
section
/-
  The great seat of stage 1: Grow and Angles, by the generator.
-/
set_option linter.unusedSimpArgs false
set_option linter.unusedVariables false
namespace Go.Proofs
namespace Great
open Go Go.RowKit Go.Aev
set_option maxRecDepth 100000
theorem R88_0_len (l : List Ar) : ∀ (m : List Ar) (o : List Sp), (R88_0 l m o).length ≤ 2 * m.length + o.length := by
  intro m
  induction m with
  | nil => intro o; simp [R88_0]
  | cons x m ih =>
    intro o
    unfold R88_0
    split
    · refine Nat.le_trans (ih _) ?_
      have := r131_len o x.f (IntKind.i64.wrap (x.f + x.l))
      simp; omega
    · refine Nat.le_trans (ih _) ?_
      have h1 := r131_len o x.f 43199
      have h2 := r131_len (r131 o x.f 43199) 0 (IntKind.i64.wrap ((IntKind.i64.wrap (x.f + x.l)) - 43200))
      simp; omega
theorem r88_len (l : List Ar) : (r88 l).length ≤ 2 * l.length := by simpa [r88] using R88_0_len l l []

end Great
end Go.Proofs
end
section
/-
  The great seat of stage 1: DialMakers, by the generator.
-/
set_option linter.unusedSimpArgs false
set_option linter.unusedVariables false
namespace Go.Proofs
namespace Great
open Go Go.RowKit Go.Aev
set_option maxRecDepth 100000
theorem c15s (S : AS) : (evL Tryz.prog E0).call 11 #[] S = some (.bool true, S) := by rw [L_call]; rfl


end Great
end Go.Proofs
end
section
/-
  The great seat of stage 1: Propose, by the generator.
-/
set_option linter.unusedSimpArgs false
set_option linter.unusedVariables false
namespace Go.Proofs
namespace Great
open Go Go.RowKit Go.Aev
set_option maxRecDepth 100000
end Great
end Go.Proofs
end
