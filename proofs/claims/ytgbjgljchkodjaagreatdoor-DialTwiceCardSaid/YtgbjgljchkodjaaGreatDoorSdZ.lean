/-
  The great seat's own: its check runs to true, its variables hold what the text lays.
-/
import Derived.Test.YtgbjgljchkodjaaGreatDoorBZ
import Derived.Test.YtgbjgljchkodjaaGreatDoorAE4
import Derived.Test.YtgbjgljchkodjaaGreatDoorRows
import Derived.Test.YtgbjgljchkodjaaGreatDoorTie
import Derived.Test.YtgbjgljchkodjaaGreatDoorCards
import Derived.SevenTiedAt
import Derived.LaidMore
set_option linter.unusedSimpArgs false
set_option linter.unusedVariables false
namespace Go.Proofs.YtgbjgljchkodjaaGreatDoor
open Go Go.RowKit Go.Aev Go.Proofs Go.ChangeShapes Go.WideShapes
set_option maxRecDepth 100000
def laidZ : List (String × DataW Unit) := Rows.dialKnowsRow.laid
theorem ext : ExtOk Tryz.prog 102 120 5 :=
  ExtOk.of_rows (t := 109) (ps := #[3]) Tryz.func102 (by kernel_rfl) (of_decide_eq_false (by kernel_rfl)) (by kernel_rfl) (by kernel_rfl) Tryz.func120 (by kernel_rfl) (of_decide_eq_false (by kernel_rfl)) (by kernel_rfl) (by kernel_rfl) (by kernel_rfl)
theorem sanity_runs : isT ((ev Tryz.prog (mkEnv 5 102 120 5) 2000).call 11 #[] (startAS 5 (knownOf Tryz.prog laidZ))) = true := by kernel_rfl
theorem seat : Seat Tryz.prog laidZ 5 102 120 5 11 2000 where
  tab := by kernel_rfl
  mixed := by kernel_rfl
  ext := ext
  lt := by kernel_rfl
  max := by kernel_rfl
  self := by kernel_rfl
  enter := enter_of Tryz.func11 rfl (by decide) #[]
  none := rfl
  runs := sanity_runs
theorem known_circle : (startAS 5 (knownOf Tryz.prog laidZ)).heap.get 0 = some (.cells [.int .i64 0, .int .i64 43199] 0 0 false false) := by kernel_rfl

theorem own : ownKnob Tryz.prog.godebug = none := by kernel_rfl
theorem laidOut : laidOutB Tryz.prog = true := by kernel_rfl
theorem door_met (os : Os) (args : Array Value) : laidMetH Tryz.prog laidZ ((World.doorLaid Tryz.prog 400 os).forCall (fun _ _ => 0) ⟨#[], args, []⟩).memory :=
  laidMetH_of_parts3 (fuel := 8) (laidMet_of_run' 8 (by kernel_rfl) (by kernel_rfl)) (by kernel_rfl) (by kernel_rfl)

end Go.Proofs.YtgbjgljchkodjaaGreatDoor
