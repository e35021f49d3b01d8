/-
  DialAngles: for all integers and every arc the law returns true; conditions: none but that the listed package-level variables hold what the program's text lays.
-/
import Derived.Test.YtecfjfhcoffhfaaDoorEvD
import Derived.Test.YtecfjfhcoffhfaaDoorAevT
import Derived.Test.YtecfjfhcoffhfaaDoorRows
import Derived.Test.YtecfjfhcoffhfaaDoorTie
import Derived.Test.YtecfjfhcoffhfaaDoorCards
import Derived.SevenTiedAt
import Derived.LaidMore
set_option linter.unusedSimpArgs false
set_option linter.unusedVariables false
namespace Go.Proofs.YtecfjfhcoffhfaaDoor
open Go Go.RowKit Go.Aev Go.Proofs Go.ChangeShapes Go.WideShapes
set_option maxRecDepth 100000
def laidD : List (String × DataW Unit) := Rows.dialAnglesRow.laid
theorem ext : ExtOk Tryd.prog 61 79 5 :=
  ExtOk.of_rows (t := 70) (ps := #[3]) Tryd.func61 (by kernel_rfl) (of_decide_eq_false (by kernel_rfl)) (by kernel_rfl) (by kernel_rfl) Tryd.func79 (by kernel_rfl) (of_decide_eq_false (by kernel_rfl)) (by kernel_rfl) (by kernel_rfl) (by kernel_rfl)
theorem sanity_runs : isT ((ev Tryd.prog (mkEnv 5 61 79 5) 2000).call 6 #[] (startAS 5 (knownOf Tryd.prog laidD))) = true := by kernel_rfl
theorem seat : Seat Tryd.prog laidD 5 61 79 5 6 2000 where
  tab := by kernel_rfl
  mixed := by kernel_rfl
  ext := ext
  lt := by kernel_rfl
  max := by kernel_rfl
  self := by kernel_rfl
  enter := enter_of Tryd.func6 rfl (by decide) #[]
  none := rfl
  runs := sanity_runs
theorem known_circle : (startAS 5 (knownOf Tryd.prog laidD)).heap.get 0 = some (.cells [.int .i64 0, .int .i64 43199] 0 0 false false) := by kernel_rfl

theorem calls (W : World) (hL : laidMet Tryd.prog laidD W) (a b x y : Int) : Calls Tryd.prog 3 #[.int .i64 a, .int .i64 b, .agg #[.int .i64 x, .int .i64 y]] W fun e w' => e = .returned (.bool true) ∧ Below W.heap.size W w' := by
  obtain ⟨S', h, _⟩ := c3 a b x y (startAS 5 (knownOf Tryd.prog laidD)) ⟨Nat.le_refl _, known_circle⟩
  exact seat.law_plain hL (fun v hv => by
    simp at hv
    rcases hv with rfl | rfl | rfl <;> rfl) rfl h

theorem own : ownKnob Tryd.prog.godebug = none := by kernel_rfl
theorem laidOut : laidOutB Tryd.prog = true := by kernel_rfl
theorem door_met (os : Os) (args : Array Value) : laidMetH Tryd.prog laidD ((World.doorLaid Tryd.prog 400 os).forCall (fun _ _ => 0) ⟨#[], args, []⟩).memory :=
  laidMetH_of_parts3 (fuel := 8) (laidMet_of_run' 8 (by kernel_rfl) (by kernel_rfl)) (by kernel_rfl) (by kernel_rfl)

theorem lifted (os : Os) (started : os.Started) (H : Type) (enc : TypeId × Value → H) :
    ReturnsInHanded {} Tryd.checked os 3 .any (fun w args => (Rows.dialAnglesSpec.pre enc Tryd.prog Tryd.f3 [] false w args ∧ laidMetH Tryd.prog laidD w) ∧ sizedMet enc Tryd.prog Tryd.f3 (OpenSpec.ofChange Rows.dialAnglesSpec) false w args)
      (Rows.dialAnglesSpec.post enc Tryd.prog Tryd.f3 false true false false) := by
  refine law_lifted (C := Tryd.checked) (laid := laidD) own started (by kernel_rfl) Tryd.func3 (by kernel_rfl) rfl laidOut (by kernel_rfl) (tb := 4) (by kernel_rfl) bool4 (fun ds hd => ?_)
    (ChangeSpec.witness_shaped (enc := enc) (C := Tryd.checked) (os := os) (X := fun w _ => laidMetH Tryd.prog laidD w) false (World.doorLaid Tryd.prog 400 os) #[.int .i64 0, .int .i64 0, .agg #[.int .i64 0, .int .i64 0]] 8 rfl (World.shaped_of_RefB (by kernel_rfl) (by kernel_rfl)) (by kernel_rfl) (by kernel_rfl) (by kernel_rfl) (door_met os _))
    (fun W base args ds p hval hA hlt hw hL => ?_)
  · rw [Tryd.params3] at hd
    match ds, hd with
    | [d1, d2, d3], _ => rfl
  · rw [Tryd.params3] at hA hval
    obtain ⟨v0, v1, v2, d0, d1, d2, p0, p1, p2, rfl, rfl, rfl, h0, h1, h2⟩ := trodAll_three hA
    obtain ⟨a, rfl, _, _, _⟩ := open_int Tryd.underlying3 (hval 0 3 v0 rfl rfl) h0
    obtain ⟨b, rfl, _, _, _⟩ := open_int Tryd.underlying3 (hval 1 3 v1 rfl rfl) h1
    obtain ⟨ns, ⟨hl, _⟩, rfl⟩ := open_kinds (n := 4) (ks := [.i64, .i64]) (by kernel_rfl) Tryd.underlying23 (hval 2 23 v2 rfl rfl) h2
    match ns, hl with
    | [x, y], _ => exact calls W hL a b x y
theorem row_holds : Rows.DialAnglesSaid :=
  OpenClaim.holds_of_wide 3 Tryd.f3 rfl rfl rfl rfl rfl rfl rfl ⟨rfl, rfl, rfl, rfl, rfl⟩ rfl rfl rfl rfl rfl (by kernel_rfl) Tryd.func3 (by kernel_rfl)
    (of_decide_eq_true (by kernel_rfl)) (by unfold Func.isWrapper; first | (rw [if_pos (by decide +kernel)]; kernel_rfl) | (rw [if_neg (by decide +kernel)]; exact ⟨rfl, rfl⟩))
    (fun os started H enc _ => lifted os started H enc)
theorem dialAngles_holds : Rows.DialAnglesCardSaid :=
  Claim7.holds_tied_plain_at .later [] [.data, .data, .data, .data] true (true, "3c0372c4bbc19b93152b7edef0114eb4726a2560bf28f7df9f801b1e7e372edd") false
    row_holds (fun _ h => by cases h) (by kernel_rfl) (fun _ h => by cases h) dialAngles_row_tie rfl ⟨rfl, rfl⟩ (by kernel_rfl) rfl
    (fun f fn hf hfn => by
      obtain rfl : f = 3 := Option.some.inj ((show Tryd.prog.funcNamed "patrol/patrollaw01.DialAngles" = some 3 by kernel_rfl).symm.trans hf) |>.symm
      obtain rfl : fn = Tryd.f3 := (Option.some.inj (Tryd.func3.symm.trans hfn)).symm
      exact ⟨by kernel_rfl, fun j t ht => by
        have hm : t ∈ Tryd.f3.params.toList := by simpa using Array.mem_of_getElem? ht
        have hall : (Tryd.f3.params.toList.all fun u => !Tryd.prog.wantsStandIn u) = true := by kernel_rfl
        exact (show Tryd.prog.wantsStandIn t = false by simpa using List.all_eq_true.1 hall t hm)⟩)
    (by kernel_rfl)
#print axioms dialAngles_holds
end Go.Proofs.YtecfjfhcoffhfaaDoor
