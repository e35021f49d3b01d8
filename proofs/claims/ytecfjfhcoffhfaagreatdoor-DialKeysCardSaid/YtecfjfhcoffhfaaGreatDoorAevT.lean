/-
  A REFERENCE RUN, PART T: arguments that are integers, or structs of integers, opened whole.
-/
import Derived.Test.YtecfjfhcoffhfaaGreatDoorAevZ
set_option linter.unusedSimpArgs false
set_option linter.unusedVariables false
namespace Go.Aev
open Go Go.RowKit Go.WideShapes Go.ChangeShapes

def kindsFs (P : Program) (g : TypeId → Option (List IntKind)) : Nat → List Field → Option (List IntKind)
  | _, [] => some []
  | off, f :: l =>
    match g f.type with
    | some ks =>
      match decide (f.offset = off ∧ ks.length = P.cellsOf f.type), kindsFs P g (off + ks.length) l with
      | true, some r => some (ks ++ r)
      | _, _ => none
    | none => none
/-- The kinds of the cells of a type that holds integers alone. -/
def kindsOf (P : Program) : Nat → TypeId → Option (List IntKind)
  | 0, _ => none
  | n + 1, t =>
    match P.underlying t with
    | some (.int k) => some [k]
    | some (.struct fs) =>
      match kindsFs P (kindsOf P n) 0 fs.toList with
      | some ks => match decide (ks.length = P.cellsOf t) with
        | true => some ks
        | false => none
      | none => none
    | _ => none

def ints (ks : List IntKind) (ns : List Int) : List Value := List.zipWith Value.int ks ns
def Fits (ks : List IntKind) (ns : List Int) : Prop := ns.length = ks.length ∧ ∀ (i : Nat) (k : IntKind) (n : Int), ks[i]? = some k → ns[i]? = some n → (Lit.int k n).wf = true

section
variable {H : Type} {enc : TypeId × Value → H} {P : Program} {w : World} {base : Nat} {spare : Nat → Bool} {held : Bool}

theorem kinds_fields {g : TypeId → Option (List IntKind)} {m : Nat} {cs : List Value} (ih : ∀ t ks cs x, g t = some ks → DataW.trod enc P w base spare held m t cs = some x → ∃ ns, Fits ks ns ∧ cs = ints ks ns) :
    ∀ (l : List Field) (off : Nat) (ks : List IntKind), kindsFs P g off l = some ks → (∀ f ∈ l, ∃ x, DataW.trod enc P w base spare held m f.type ((cs.drop f.offset).take (P.cellsOf f.type)) = some x) →
      ∃ ns, Fits ks ns ∧ (cs.drop off).take ks.length = ints ks ns
  | [], off, ks, h, _ => by
    simp only [kindsFs, Option.some.injEq] at h
    subst h
    exact ⟨[], ⟨rfl, fun i k n h => by simp at h⟩, by simp [ints]⟩
  | f :: l, off, ks, h, hx => by
    simp only [kindsFs] at h
    split at h
    · rename_i ks1 h1
      split at h
      · rename_i r hd h2
        simp only [Option.some.injEq] at h
        subst h
        obtain ⟨ho, hl⟩ := of_decide_eq_true hd
        obtain ⟨x, hx1⟩ := hx f (by simp)
        obtain ⟨ns1, ⟨f1, f2⟩, f3⟩ := ih _ _ _ _ h1 hx1
        obtain ⟨ns2, ⟨g1, g2⟩, g3⟩ := kinds_fields ih l _ _ h2 (fun f hf => hx f (by simp [hf]))
        rw [ho, ← hl] at f3
        refine ⟨ns1 ++ ns2, ⟨by simp [f1, g1], fun i k n hk hn => ?_⟩, ?_⟩
        · rw [List.getElem?_append] at hk hn
          rw [f1] at hn
          split at hk
          · rename_i hi; rw [if_pos hi] at hn; exact f2 _ _ _ hk hn
          · rename_i hi; rw [if_neg hi] at hn; exact g2 _ _ _ hk hn
        · rw [List.length_append, List.take_add, List.drop_drop, f3, g3]
          simp only [ints]
          rw [List.zipWith_append f1.symm]
      · simp at h
    · simp at h

theorem trod_kinds : ∀ (n : Nat) {t : TypeId} {ks : List IntKind} {fuel : Nat} {cs : List Value} {x : DataW H × List MemPlace}, kindsOf P n t = some ks → DataW.trod enc P w base spare held fuel t cs = some x → ∃ ns, Fits ks ns ∧ cs = ints ks ns := by
  intro n
  induction n with
  | zero => intro t ks fuel cs x h; simp [kindsOf] at h
  | succ n ih =>
    intro t ks fuel cs x h hx
    unfold kindsOf at h
    split at h
    · rename_i k hu
      simp only [Option.some.injEq] at h
      subst h
      obtain ⟨m, rfl, _, hw⟩ := DataW.trod_int hu hx
      refine ⟨[m], ⟨rfl, fun i k' n' hk hn => ?_⟩, rfl⟩
      cases i with
      | zero => simp at hk hn; subst hk; subst hn; exact hw
      | succ i => simp at hk
    · rename_i fs hu
      split at h
      · rename_i ks' hks
        split at h
        · rename_i hd
          have hd := of_decide_eq_true hd
          simp only [Option.some.injEq] at h
          subst h
          obtain ⟨xs, m, _, _, hlen, hl, hf⟩ := DataW.trod_struct hu hx
          obtain ⟨ns, h1, h2⟩ := kinds_fields (cs := cs) (m := m) (fun t ks cs x h hx => ih h hx) _ _ _ hks (fun f hf' => by
            obtain ⟨i, hi, e⟩ := List.getElem_of_mem hf'
            have hi' : i < fs.size := by simpa using hi
            have e' : fs[i]? = some f := by rw [← e]; simp [hi']
            have := hf i f e'
            rw [this]
            exact ⟨_, List.getElem?_eq_getElem (by omega)⟩)
          refine ⟨ns, h1, ?_⟩
          rw [List.drop_zero, hd, ← hlen, List.take_length] at h2
          exact h2
        · simp at h
      · simp at h
    · simp at h

/-- One argument. -/
theorem open_kinds {r : Reach} {b0 n : Nat} {t : TypeId} {ks : List IntKind} {fs : Array Field} {v : Value} {d : DataW H} {ps : List MemPlace} (hk : kindsOf P n t = some ks) (hu : P.underlying t = some (.struct fs)) (hv : Value.okWide P w r b0 t v)
    (h : DataW.Trod enc P w base spare held t v d ps) : ∃ ns, Fits ks ns ∧ v = .agg (ints ks ns).toArray := by
  obtain ⟨cs, rfl, hsz⟩ := okWide_struct hu hv
  obtain ⟨fuel, hf⟩ := h
  obtain ⟨ns, h1, h2⟩ := trod_kinds n hk hf
  refine ⟨ns, h1, ?_⟩
  have : cs.toList = ints ks ns := by simpa [Value.cells] using h2
  rw [← this]
end
end Go.Aev
