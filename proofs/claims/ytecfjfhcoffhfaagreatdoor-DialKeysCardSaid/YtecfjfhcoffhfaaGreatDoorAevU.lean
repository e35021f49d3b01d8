/-
  A REFERENCE RUN, PART U: where a run begins, out of a row's condition on package-level variables.
-/
import Derived.Test.YtecfjfhcoffhfaaGreatDoorAevQ
import GoSem.ClaimJoined
import Derived.OpenShut
import Derived.ChangeArms
import Derived.MakeChecks
import Derived.FnData
set_option linter.unusedSimpArgs false
set_option linter.unusedVariables false
namespace Go.Aev
open Go Go.RowKit

/-- The cell that a datum without references says of its type's place j. -/
def rdAt (P : Program) : Nat → TypeId → DataW Unit → Nat → Option Value
  | 0, _, _, _ => none
  | n + 1, t, d, j =>
    match P.underlying t, d with
    | some (.int _), .lit (.int k x) => match Nat.beq j 0 with
      | true => some (.int k x)
      | false => none
    | some (.struct fs), .agg ds => (fs.toList.zip ds).findSome? fun y =>
      match Nat.ble y.1.offset j, Nat.blt (j - y.1.offset) (P.cellsOf y.1.type) with
      | true, true => rdAt P n y.1.type y.2 (j - y.1.offset)
      | _, _ => none
    | some (.array m e), .agg ds =>
      match Nat.blt (j / P.cellsOf e) m, ds[j / P.cellsOf e]?, Nat.blt 0 (P.cellsOf e) with
      | true, some d, true => rdAt P n e d (j % P.cellsOf e)
      | _, _, _ => none
    | _, _ => none

theorem rdAt_ok {P : Program} {w : World} {base : Nat} {spare : Nat → Bool} {held : Bool} : ∀ (n : Nat) {t : TypeId} {d : DataW Unit} {j : Nat} {v : Value} {fuel : Nat} {cs : List Value} {ps : List MemPlace},
    DataW.trod (fun _ => ()) P w base spare held fuel t cs = some (d, ps) → rdAt P n t d j = some v → cs[j]? = some v := by
  intro n
  induction n with
  | zero => intro t d j v fuel cs ps _ e; simp [rdAt] at e
  | succ n ih =>
    intro t d j v fuel cs ps h e
    unfold rdAt at e
    split at e
    · rename_i k0 k x hu
      obtain ⟨m, rfl, hx, _⟩ := DataW.trod_int hu h
      simp only [Prod.mk.injEq, DataW.lit.injEq, Lit.int.injEq] at hx
      obtain ⟨⟨rfl, rfl⟩, _⟩ := hx
      split at e
      · rename_i hj
        have := Nat.eq_of_beq_eq_true hj
        subst this
        simpa using e
      · simp at e
    · rename_i fs ds hu
      obtain ⟨xs, m, _, hx, _, hlen, hf⟩ := DataW.trod_struct hu h
      simp only [Prod.mk.injEq, DataW.agg.injEq] at hx
      obtain ⟨rfl, _⟩ := hx
      obtain ⟨y, hy, e⟩ := List.exists_of_findSome?_eq_some e
      split at e
      · rename_i h1 h2
        have h1 := Nat.le_of_ble_eq_true h1
        have h2 : j - y.1.offset < P.cellsOf y.1.type := by simpa [Nat.blt_eq] using h2
        obtain ⟨i, hi, hy⟩ := List.getElem_of_mem hy
        have hi1 : i < fs.toList.length := by simp at hi; simp; omega
        have hi2 : i < xs.length := by simp at hi; omega
        have hy1 : fs[i]? = some y.1 := by
          rw [← hy]; simp at hi1; simp [hi1]
        have hy2 : (xs[i]).1 = y.2 := by rw [← hy]; simp
        have := hf i y.1 hy1
        rw [List.getElem?_eq_getElem hi2] at this
        have hd : xs[i] = (y.2, (xs[i]).2) := by rw [← hy2]
        rw [hd] at this
        have := ih this e
        rw [List.getElem?_take] at this
        simp only [h2, if_true, List.getElem?_drop] at this
        rwa [show y.1.offset + (j - y.1.offset) = j by omega] at this
      · simp at e
    · rename_i m0 e0 ds hu
      obtain ⟨xs, m, _, hx, _, hlen, hf⟩ := DataW.trod_array hu h
      simp only [Prod.mk.injEq, DataW.agg.injEq] at hx
      obtain ⟨rfl, _⟩ := hx
      split at e
      · rename_i d0 h1 h2 h3
        have h1 : j / P.cellsOf e0 < m0 := by simpa [Nat.blt_eq] using h1
        have h3 : 0 < P.cellsOf e0 := by simpa [Nat.blt_eq] using h3
        have := hf _ h1
        have hi2 : j / P.cellsOf e0 < xs.length := by omega
        rw [List.getElem?_eq_getElem hi2] at this
        rw [List.getElem?_map, List.getElem?_eq_getElem hi2] at h2
        simp only [Option.map_some, Option.some.injEq] at h2
        have hd : xs[j / P.cellsOf e0] = (d0, (xs[j / P.cellsOf e0]).2) := by rw [← h2]
        rw [hd] at this
        have := ih this e
        have hm := Nat.mod_lt j h3
        rw [List.getElem?_take] at this
        simp only [hm, if_true, List.getElem?_drop] at this
        have hdm : j / P.cellsOf e0 * P.cellsOf e0 + j % P.cellsOf e0 = j := by rw [Nat.mul_comm]; exact Nat.div_add_mod _ _
        rwa [hdm] at this
      · simp at e
    · simp at e

theorem laidVars_mem {P : Program} {w : World} : ∀ {laid : List (String × DataW Unit)} {ps : List MemPlace}, DataW.LaidVars P w laid ps → ∀ x ∈ laid,
    ∃ g t cs fuel p, P.globalNamed x.1 = some g ∧ (P.globals[g]?).map (·.type) = some t ∧ w.var? P x.1 = some cs ∧ DataW.trod (fun _ => ()) P w 0 (fun _ => true) false fuel t cs.toList = some (x.2, p)
  | [], _, _, x, hx => by simp at hx
  | (n, d) :: r, _, h, x, hx => by
    obtain ⟨g, t, cs, fuel, p, q, h1, h2, h3, h4, h5, _⟩ := h
    rcases List.mem_cons.1 hx with rfl | hx
    · exact ⟨g, t, cs, fuel, p, h1, h2, h3, h4⟩
    · exact laidVars_mem h5 x hx

/-- The listed variables that hold plain values alone, by their cells. -/
def knownOf (P : Program) (laid : List (String × DataW Unit)) : List (Nat × List Value) := laid.filterMap fun x =>
  match P.globalNamed x.1 with
  | some g => match (P.globals[g]?).map (·.type) with
    | some t => ((List.range (P.cellsOf t)).mapM (rdAt P 8 t x.2)).map fun l => (g, l)
    | none => none
  | none => none

theorem mapM_get {α β : Type} {f : α → Option β} : ∀ {l : List α} {r : List β}, l.mapM f = some r → ∀ (i : Nat) (y : β), r[i]? = some y → ∃ x, l[i]? = some x ∧ f x = some y
  | [], r, h, i, y, hy => by
    simp at h; subst h; simp at hy
  | a :: l, r, h, i, y, hy => by
    rw [List.mapM_cons] at h
    simp only [Option.bind_eq_bind, Option.bind_eq_some_iff, Option.pure_def, Option.some.injEq] at h
    obtain ⟨b, hb, r', hr, rfl⟩ := h
    cases i with
    | zero => simp at hy; subst hy; exact ⟨a, rfl, hb⟩
    | succ i => simpa using mapM_get hr i y (by simpa using hy)

theorem known_ok {P : Program} {w : World} {laid : List (String × DataW Unit)} (h : laidMet P laid w) {x : Nat × List Value} (hx : x ∈ knownOf P laid) :
    ∃ C T fz, w.heap[x.1]? = some (.cells C T fz) ∧ ∀ (j : Nat) (v : Value), x.2[j]? = some v → C[j]? = some v := by
  obtain ⟨ps, hl, _⟩ := h
  obtain ⟨y, hy, e⟩ := List.mem_filterMap.1 hx
  obtain ⟨g, t, cs, fuel, p, h1, h2, h3, h4⟩ := laidVars_mem hl y hy
  simp only [h1, h2] at e
  simp only [Option.map_eq_some_iff] at e
  obtain ⟨l, hl, rfl⟩ := e
  unfold World.var? at h3
  simp only [h1, Option.bind_some] at h3
  split at h3
  · rename_i C T fz hw
    simp only [Option.some.injEq] at h3
    subst h3
    refine ⟨_, T, fz, hw, fun j v hv => ?_⟩
    obtain ⟨i, hi, hr⟩ := mapM_get hl j v hv
    have : i = j := by
      rw [List.getElem?_range] at hi
      · simpa using hi.symm
      · rcases Nat.lt_or_ge j (P.cellsOf t) with h | h
        · exact h
        · rw [List.getElem?_eq_none (by simpa using h)] at hi; simp at hi
    subst this
    have := rdAt_ok 8 h4 hr
    simpa using this
  · simp at h3

/-- WHERE A RUN BEGINS, out of the condition. -/
theorem HR.ofLaid {P : Program} {w : World} {G : Nat} {laid : List (String × DataW Unit)} (h : laidMet P laid w) (hlt : ((knownOf P laid).all fun x => Nat.blt x.1 G) = true)
    (hmax : ((knownOf P laid).any fun x => Nat.beq (x.1 + 1) G) = true) (hself : ((knownOf P laid).all fun x => x.2.all (selfB 8)) = true) :
    ∃ σ, HR w.heap.size w G σ (startAS G (knownOf P laid)) w := by
  refine HR.startAt ?_ (fun x hx => ?_) (fun x hx v hv => ?_) (fun x hx => known_ok h hx)
  · obtain ⟨x, hx, e⟩ := List.any_eq_true.1 hmax
    have e := Nat.eq_of_beq_eq_true e
    obtain ⟨C, T, fz, hw, _⟩ := known_ok h hx
    obtain ⟨hi, _⟩ := Array.getElem?_eq_some_iff.1 hw
    omega
  · have := List.all_eq_true.1 hlt x hx
    simpa [Nat.blt_eq] using this
  · exact List.all_eq_true.1 (List.all_eq_true.1 hself x hx) v hv
end Go.Aev
