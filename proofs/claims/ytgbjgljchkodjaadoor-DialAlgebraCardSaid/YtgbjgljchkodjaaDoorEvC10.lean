/-
  The great seat of stage 1: Grow, Size and Covers of all lists that few admits.
-/
import Derived.Test.YtgbjgljchkodjaaDoorEvC9
set_option linter.unusedSimpArgs false
set_option linter.unusedVariables false
namespace Go.Proofs
namespace Great
open Go Go.RowKit Go.Aev
set_option maxRecDepth 100000
section
variable (hs : SortOk 1000) (a b : List Ar) (ha : r14 a = true) (hb : r14 b = true)
    (S : AS) (v_a : Value) (hv_a : Lst S v_a a) (v_b : Value) (hv_b : Lst S v_b b) (ht : Tab S)
include hs ha hb hv_a hv_b ht
/-! -/
end

def R27_0 (l : List Ar) (w : Int)  : List Ar → List Ar → (List Ar)
  | [], o => o
  | x6 :: l', o => R27_0 l w l' (o ++ ([(⟨((r92 x6.f x6.l w)).1, ((r92 x6.f x6.l w)).2⟩ : Ar)]))
theorem R27_len (l : List Ar) (w : Int) : ∀ (m o : List Ar), (R27_0 l w m o).length = m.length + o.length := by
  intro m
  induction m with
  | nil => intro o; simp [R27_0]
  | cons x m ih => intro o; rw [R27_0, ih]; simp; omega
def R28_0f (l : List Ar)  : List Ar → Int → Int
  | [], n => n
  | x3 :: l', n => R28_0f l l' (IntKind.i64.wrap (n + (IntKind.i64.wrap (x3.l + 1))))
end Great
end Go.Proofs
