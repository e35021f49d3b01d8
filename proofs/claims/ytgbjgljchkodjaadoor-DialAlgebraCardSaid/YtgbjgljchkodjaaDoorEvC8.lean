/-
  The great seat of stage 1: Normal, Union, Meet and Minus of all lists that few admits, with their errors.
-/
import Derived.Test.YtgbjgljchkodjaaDoorEvQ13
import Derived.Test.YtgbjgljchkodjaaDoorBI
import Derived.Test.YtgbjgljchkodjaaDoorBE
import Derived.Test.YtgbjgljchkodjaaDoorBU
set_option linter.unusedSimpArgs false
set_option linter.unusedVariables false
namespace Go.Proofs
namespace Great
open Go Go.RowKit Go.Aev
set_option maxRecDepth 100000

theorem r20_ok {l : List Ar} (h : r20 l = 0) : (∀ x ∈ l, ArcOk x.f x.l) ∧ l.length ≤ 200 := by
  unfold r20 at h
  by_cases h1 : (200 : Int) < (l.length : Int)
  · rw [if_pos h1] at h; omega
  rw [if_neg h1] at h
  have key : ∀ (k : List Ar) (i : Nat), onSum (R20_0 l k i) (fun (r2 : Int) => r2) (fun (_ : Unit) => (0 : Int)) = 0 → ∀ x ∈ k, ArcOk x.f x.l := by
    intro k
    induction k with
    | nil => intro i _ x hx; simp at hx
    | cons x k ih =>
      intro i hk y hy
      rw [R20_0] at hk
      by_cases hx : ArcOk x.f x.l
      · rw [if_pos hx] at hk
        rcases List.mem_cons.1 hy with rfl | hy
        · exact hx
        · exact ih _ hk y hy
      · rw [if_neg hx] at hk
        have : (1 : Int) = 0 := hk
        omega
  exact ⟨key l 0 h, by omega⟩
theorem fre_nil (lo : Nat) (S : AS) : Fre lo S (.slice none 0 0) ([] : List Ar) := ⟨Lst.nil S, fun q hq => by simp [blkOf] at hq⟩
/-- What is made of two lists, unless one of them is wrong. -/
def two (g : List Ar → List Ar → List Ar) (a b : List Ar) : List Ar := if r21 a b = 0 then g a b else []
section
variable (hs : SortOk 1000) (a b : List Ar) (ha : r14 a = true) (hb : r14 b = true)
    (S : AS) (v_a : Value) (hv_a : Lst S v_a a) (v_b : Value) (hv_b : Lst S v_b b) (ht : Tab S)
include hs ha hb hv_a hv_b ht
end
/-- The normal list, unless the list is wrong. -/
def nrm (a : List Ar) : List Ar := if r20 a = 0 then r23 a else []
theorem r87_le {l : List Sp} (h : SCan 0 l) (hu : Up l) : (r87 l).length ≤ l.length := by
  rw [r87_wrapA h hu]
  have := wrapA_len (l.map toAr)
  rw [List.length_map] at this
  exact this
end Great
end Go.Proofs
