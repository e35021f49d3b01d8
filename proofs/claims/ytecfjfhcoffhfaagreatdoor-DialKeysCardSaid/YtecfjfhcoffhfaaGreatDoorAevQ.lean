/-
  A REFERENCE RUN, PART Q: what a program's table owes, by a check.
-/
import Derived.Test.YtecfjfhcoffhfaaGreatDoorAevP
set_option linter.unusedSimpArgs false
set_option linter.unusedVariables false
namespace Go.Aev
open Go Go.RowKit

def tabB (P : Program) : Bool := P.types.toList.all fun i =>
  match i.zero with
  | some v => selfB 8 v && Nat.beq v.cells.size i.size
  | none => true

theorem TabOk.of_check {P : Program} (h : tabB P = true) : TabOk P := by
  have key : ∀ t i v, inTab P t = true → P.info? t = some i → i.zero = some v → selfB 8 v = true ∧ v.cells.size = i.size := by
    intro t i v ht hi hv
    have hmem : i ∈ P.types.toList := by
      have hlt : t < P.types.size := by simpa [inTab, Nat.blt_eq] using ht
      have hi : P.types[t]? = some i := by
        have : P.info? t = P.types[t]? := if_pos hlt
        rw [← this]; exact hi
      exact Array.mem_toList_iff.2 (Array.mem_of_getElem? hi)
    have := List.all_eq_true.1 h i hmem
    simp only [hv, Bool.and_eq_true] at this
    exact ⟨this.1, Nat.eq_of_beq_eq_true this.2⟩
  exact ⟨fun t i v ht hi hv => (key t i v ht hi hv).1, fun t i z ht hi hz => (key t i z ht hi hz).2⟩

/-- A store in which some package-level variables are known, by their cells. -/
def startAS (G : Nat) (gs : List (Nat × List Value)) : AS := { heap := gs.foldl (fun h x => h.set x.1 (some (.cells x.2 0 0 false false))) .lf, next := G }

theorem foldl_get (gs : List (Nat × List Value)) : ∀ (h : T ABlk) (id : Nat) (b : ABlk), (gs.foldl (fun h x => h.set x.1 (some (.cells x.2 0 0 false false))) h).get id = some b → h.get id = some b ∨ ∃ c, (id, c) ∈ gs ∧ b = .cells c 0 0 false false := by
  induction gs with
  | nil => intro h id b e; exact .inl e
  | cons x gs ih =>
    intro h id b e
    rw [List.foldl_cons] at e
    rcases ih _ id b e with e1 | ⟨c, hc, rfl⟩
    · rw [T.get_set] at e1
      split at e1
      · rename_i hi
        cases e1
        exact .inr ⟨x.2, by rw [hi]; simp, rfl⟩
      · exact .inl e1
    · exact .inr ⟨c, by simp [hc], rfl⟩

/-- Where a run begins, by what the variables' cells read as. -/
theorem HR.startAt {G : Nat} {w : World} {gs : List (Nat × List Value)} (hG : G ≤ w.heap.size) (hlt : ∀ x ∈ gs, x.1 < G) (hself : ∀ x ∈ gs, ∀ v ∈ x.2, selfB 8 v = true)
    (hblk : ∀ x ∈ gs, ∃ C T fz, w.heap[x.1]? = some (.cells C T fz) ∧ ∀ (j : Nat) (v : Value), x.2[j]? = some v → C[j]? = some v) : ∃ σ, HR w.heap.size w G σ (startAS G gs) w := by
  refine HR.start hG rfl (fun id b e => ?_)
  rcases foldl_get gs .lf id b e with e1 | ⟨c, hc, rfl⟩
  · simp [T.get] at e1
  · refine ⟨hlt _ hc, c, 0, 0, rfl, ?_⟩
    obtain ⟨C, T, fz, h1, h2⟩ := hblk _ hc
    exact ⟨C, T, fz, h1, fun j v hv => ⟨h2 j v hv, hself _ hc v (List.mem_of_getElem? hv)⟩⟩
end Go.Aev
