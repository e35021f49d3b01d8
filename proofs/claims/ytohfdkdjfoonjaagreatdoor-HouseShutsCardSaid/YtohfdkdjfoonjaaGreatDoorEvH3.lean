import Derived.Test.YtohfdkdjfoonjaaGreatDoorEvH2
set_option linter.unusedSimpArgs false
set_option linter.unusedVariables false
namespace Go.Proofs
namespace House
open Go Go.RowKit Go.Aev
set_option maxRecDepth 100000
theorem few20 (h:Hs):∀ (l:List Dr),(R20_0 h l=.inr ())→∀ x ∈ l,x.hours.length≤12∧x.shut.length≤12:=by
 intro l
 induction l with
 | nil=>intro _ x hx; simp at hx
 | cons y l ih =>
  intro e x hx
  unfold R20_0 at e
  split at e
  ·simp at e
  split at e
  ·simp at e
  rcases List.mem_cons.1 hx with rfl|hx
  ·omega
  ·exact ih e x hx
theorem few20b (h:Hs):∀ (l:List Dr),R20_0 h l≠.inl true:=by
 intro l
 induction l with
 | nil=>intro e; unfold R20_0 at e; cases e
 | cons y l ih =>
  intro e
  unfold R20_0 at e
  split at e
  ·cases e
  split at e
  ·cases e
  exact ih e
theorem few_of {h:Hs} (e:r20 h=true):Few h:=by
 unfold r20 at e
 split at e
 ·simp at e
 split at e
 ·simp at e
 split at e
 ·simp at e
 refine ⟨by omega,by omega,by omega,few20 h h.doors ?_⟩
 cases hq:R20_0 h h.doors with
 | inl b =>
  rw [hq] at e
  unfold onSum at e
  simp only at e
  subst e
  exact absurd hq (few20b h h.doors)
 | inr u=>rfl
end House
end Go.Proofs
