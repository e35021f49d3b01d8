/-
  A REFERENCE RUN, PART Z: a law's calls, out of its run.
-/
import Derived.Test.YtecfjfhcoffhfaaGreatDoorAevX
import Derived.Test.YtecfjfhcoffhfaaGreatDoorAevY
set_option linter.unusedSimpArgs false
set_option linter.unusedVariables false
namespace Go.Aev
open Go Go.RowKit Go.WideShapes Go.ChangeShapes

def isT : Option (Value × AS) → Bool
  | some (.bool true, _) => true
  | _ => false
theorem isT_spec {x : Option (Value × AS)} (h : isT x = true) : ∃ S, x = some (.bool true, S) := by
  unfold isT at h
  split at h
  · exact ⟨_, rfl⟩
  · simp at h

/-- What a seat owes once: its table, its two functions without a text, its variables, its closed check. -/
structure Seat (P : Program) (laid : List (String × DataW Unit)) (G ne mk u8 san n : Nat) : Prop where
  tab : tabB P = true
  mixed : P.follows .mixedOrders = true
  ext : ExtOk P ne mk u8
  lt : ((knownOf P laid).all fun x => Nat.blt x.1 G) = true
  max : ((knownOf P laid).any fun x => Nat.beq (x.1 + 1) G) = true
  self : ((knownOf P laid).all fun x => x.2.all (selfB 8)) = true
  enter : ∀ w, (callFunc san #[]).run P w = .ok (.enter san #[]) w
  none : orc ne mk u8 san #[] (startAS G (knownOf P laid)) = none
  runs : isT ((ev P (mkEnv G ne mk u8) n).call san #[] (startAS G (knownOf P laid))) = true

theorem enter_of {P : Program} {k : FuncId} {fn : Func} {c : Code} (hf : P.funcs[k]? = some fn) (hb : fn.body = some c) (hn : (fn.name == "runtime.NumGoroutine") = false) (args : Array Value) (w : World) : (callFunc k args).run P w = .ok (.enter k args) w := by
  have hn : ¬ fn.name = "runtime.NumGoroutine" := by simpa using hn
  simp [callFunc, Go.program, Sem.run, hf, hn, hb]

section
variable {P : Program} {laid : List (String × DataW Unit)} {G ne mk u8 san n : Nat}

theorem HR.later (hs : Seat P laid G ne mk u8 san n) {W w : World} (hL : laidMet P laid W) (hb : Below W.heap.size W w) (hw : W.heap.size ≤ w.heap.size) : ∃ σ, HR w.heap.size w G σ (startAS G (knownOf P laid)) w := by
  have kn : ∀ x ∈ knownOf P laid, ∃ C T fz, w.heap[x.1]? = some (.cells C T fz) ∧ ∀ (j : Nat) (v : Value), x.2[j]? = some v → C[j]? = some v := fun x hx => by
    obtain ⟨C, T, fz, h1, h2⟩ := known_ok hL hx
    obtain ⟨hi, _⟩ := Array.getElem?_eq_some_iff.1 h1
    exact ⟨C, T, fz, (hb.block _ hi).trans h1, h2⟩
  refine HR.startAt ?_ (fun x hx => ?_) (fun x hx v hv => ?_) kn
  · obtain ⟨x, hx, e⟩ := List.any_eq_true.1 hs.max
    have e := Nat.eq_of_beq_eq_true e
    obtain ⟨C, T, fz, hw, _⟩ := kn x hx
    obtain ⟨hi, _⟩ := Array.getElem?_eq_some_iff.1 hw
    omega
  · have := List.all_eq_true.1 hs.lt x hx
    simpa [Nat.blt_eq] using this
  · exact List.all_eq_true.1 (List.all_eq_true.1 hs.self x hx) v hv

theorem Seat.orc_ok (hs : Seat P laid G ne mk u8 san n) {W : World} (hL : laidMet P laid W) : OrcOk W.heap.size W P (symEnv G (orcTrue san (mkEnv G ne mk u8).orc)) := by
  refine orcTrue_ok (E := mkEnv G ne mk u8) (Go.Aev.orc_ok hs.ext) rfl hs.enter (fun w hb hw => ?_)
  obtain ⟨σ, h⟩ := HR.later hs hL hb hw
  obtain ⟨S, hS⟩ := isT_spec hs.runs
  exact calls_true (TabOk.of_check hs.tab) hs.mixed hs.ext h hs.none hS

/-- THE LAW's CALL, wherever its run begins. -/
theorem Seat.law (hs : Seat P laid G ne mk u8 san n) {W : World} (hL : laidMet P laid W) {σ : Sig} {S S' : AS} (h : HR W.heap.size W G σ S W) {k : FuncId} {args args' : Array Value} (ha : AR σ args args')
    (hne : orcTrue san (mkEnv G ne mk u8).orc k args S = Option.none) (hrun : (evL P (symEnv G (orcTrue san (mkEnv G ne mk u8).orc))).call k args S = some (.bool true, S')) :
    Calls P k args' W fun e w' => e = .returned (.bool true) ∧ Below W.heap.size W w' := by
  have hr := evL_ok (TabOk.of_check hs.tab) hs.mixed (hs.orc_ok hL)
  rcases hr.call k args S _ S' hrun σ W args' h ha with ⟨hn, _⟩ | ⟨_, hc⟩
  · exact absurd hne hn
  · refine (callsIn_wide.1 hc).mono ?_
    rintro e w' ⟨σ', v', _, rfl, hv, hw⟩
    cases hv
    exact ⟨rfl, hw.below⟩

/-- Its arguments hold no place in memory. -/
theorem Seat.law_plain (hs : Seat P laid G ne mk u8 san n) {W : World} (hL : laidMet P laid W) {S' : AS} {k : FuncId} {args : Array Value} (ha : ∀ v ∈ args.toList, selfB 8 v = true)
    (hne : orcTrue san (mkEnv G ne mk u8).orc k args (startAS G (knownOf P laid)) = Option.none) (hrun : (evL P (symEnv G (orcTrue san (mkEnv G ne mk u8).orc))).call k args (startAS G (knownOf P laid)) = some (.bool true, S')) :
    Calls P k args W fun e w' => e = .returned (.bool true) ∧ Below W.heap.size W w' := by
  obtain ⟨σ, h⟩ := HR.ofLaid hL hs.lt hs.max hs.self
  exact hs.law hL h (AR.of_all fun v hv => selfB_spec σ 8 v (ha v hv)) hne hrun
end
end Go.Aev
