import Derived.Test.YtfjnbekocdffbaaGreatDoorAE4
set_option linter.unusedVariables false
set_option linter.unusedSimpArgs false
namespace Go.Aev
open Go
variable {P : Program} {E : Env}
structure YieldS (P : Program) (E : Env) (S0 : AS) (y : Nat) {β : Type} (args : β → Array Value) (ys : List β) (I J : Nat → (Nat → Prop) → AS → Prop) : Prop where
  low : ∀ i T S,I i T S → ∀ id,T id → id < S.next
  keep : ∀ i T S S',I i T S → S.next ≤ S'.next → (∀ id,id < S.next → (T id ∨ id < S0.next) → S'.heap.get id = S.heap.get id) → I i T S'
  step : ∀ i T S b,ys[i]? = some b → I i T S → (∃ S' T',(evL P E).round y (args b) S = some (.bool true,S')∧I (i + 1) T' S'∧Off T S S'∧Wider T S T') ∨
    ∃ S' T',(evL P E).round y (args b) S = some (.bool false,S')∧J i T' S'∧Off T S S'∧Wider T S T'
theorem round_runS {l : Nat} {bs : List Value} {t : T Value} {m : Nat} {ps : List Tmp} {A B : Code} {S : AS} (hlen : bs.length = ps.length)
    (hL : S.heap.get l = some (.loop ⟨.ready,none,t,m,ps.toArray,A,B⟩)) {Q R : AS → Prop}
    (h : ∀ z,evCode P E (evL P E) (some l) A ⟨setParams (List.zip ps bs) ⟨t,m⟩,[],S⟩ = z → ∃ f1 S1,z = some (.normal,⟨f1,[],S1⟩)∧S1.heap.get l = some (.loop ⟨.ready,none,t,m,ps.toArray,A,B⟩) ∧
      ∀ S2,S2.next = S1.next → S2.heap.get l = some (.loop ⟨.busy,none,t,m,ps.toArray,A,B⟩) → (∀ q,q ≠ l → S2.heap.get q = S1.heap.get q) → ∀ z',evCode P E (evL P E) (some l) B ⟨f1,[],S2⟩ = z' →
        ∃ x f3 d3 S3,z' = some (x,⟨f3,d3,S3⟩)∧S3.heap.get l = some (.loop ⟨.busy,none,t,m,ps.toArray,A,B⟩) ∧
          ((x = .normal∧∀ S4,S4.next = S3.next → S4.heap.get l = some (.loop ⟨.ready,none,t,m,ps.toArray,A,B⟩) → (∀ q,q ≠ l → S4.heap.get q = S3.heap.get q) → Q S4) ∨
           (x = .ret∧∀ S4,S4.next = S3.next → S4.heap.get l = some (.loop ⟨.done,some .ret,t,m,ps.toArray,A,B⟩) → (∀ q,q ≠ l → S4.heap.get q = S3.heap.get q) → R S4))) :
    (∃ S',(evL P E).round l bs.toArray S = some (.bool true,S')∧Q S') ∨ ∃ S',(evL P E).round l bs.toArray S = some (.bool false,S')∧R S' := by
  obtain ⟨f1,S1,h1,h2,h3⟩ := h _ rfl
  obtain ⟨x,f3,d3,S3,h4,h5,h6⟩ := h3 { S1 with heap := S1.heap.set l (some (.loop ⟨.busy,none,t,m,ps.toArray,A,B⟩)) } rfl (by simp [T.get_set]) (fun q hq => by simp [T.get_set,hq]) _ rfl
  have hsz : Nat.beq bs.toArray.size ps.toArray.size = true := by rw [List.size_toArray,List.size_toArray,hlen]; exact Nat.beq_refl _
  have hz : setParams (List.zip ps.toArray.toList bs.toArray.toList) ⟨t,m⟩ = setParams (List.zip ps bs) ⟨t,m⟩ := rfl
  rcases h6 with ⟨rfl,h6⟩ | ⟨rfl,h6⟩
  · refine .inl ⟨_,?_,h6 { S3 with heap := S3.heap.set l (some (.loop ⟨.ready,none,t,m,ps.toArray,A,B⟩)) } rfl (by simp [T.get_set]) (fun q hq => by simp [T.get_set,hq])⟩
    rw [L_round]
    simp only [evRound,hL,hsz,hz,h1,h2,h4,h5]
  · refine .inr ⟨_,?_,h6 { S3 with heap := S3.heap.set l (some (.loop ⟨.done,some .ret,t,m,ps.toArray,A,B⟩)) } rfl (by simp [T.get_set]) (fun q hq => by simp [T.get_set,hq])⟩
    rw [L_round]
    simp only [evRound,hL,hsz,hz,h1,h2,h4,h5]
end Go.Aev
