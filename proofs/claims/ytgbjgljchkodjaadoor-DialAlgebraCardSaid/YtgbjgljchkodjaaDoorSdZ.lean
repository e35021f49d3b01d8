/-
  The great seat's own: its check runs to true, its variables hold what the text lays.
-/
import Derived.Test.YtgbjgljchkodjaaDoorBZ
import Derived.Test.YtgbjgljchkodjaaDoorAE4
import Derived.Test.YtgbjgljchkodjaaDoorRows
import Derived.Test.YtgbjgljchkodjaaDoorTie
import Derived.Test.YtgbjgljchkodjaaDoorCards
import Derived.SevenTiedAt
import Derived.LaidMore
set_option linter.unusedSimpArgs false
set_option linter.unusedVariables false
namespace Go.Proofs.YtgbjgljchkodjaaDoor
open Go Go.RowKit Go.Aev Go.Proofs Go.ChangeShapes Go.WideShapes
set_option maxRecDepth 100000
def laidZ : List (String × DataW Unit) := Rows.dialMakersStrikeRow.laid
theorem ext : ExtOk Tryd.prog 65 83 5 :=
  ExtOk.of_rows (t := 75) (ps := #[3]) Tryd.func65 (by kernel_rfl) (of_decide_eq_false (by kernel_rfl)) (by kernel_rfl) (by kernel_rfl) Tryd.func83 (by kernel_rfl) (of_decide_eq_false (by kernel_rfl)) (by kernel_rfl) (by kernel_rfl) (by kernel_rfl)
theorem sanity_runs : isT ((ev Tryd.prog (mkEnv 5 65 83 5) 2000).call 6 #[] (startAS 5 (knownOf Tryd.prog laidZ))) = true := by kernel_rfl
theorem seat : Seat Tryd.prog laidZ 5 65 83 5 6 2000 where
  tab := by kernel_rfl
  mixed := by kernel_rfl
  ext := ext
  lt := by kernel_rfl
  max := by kernel_rfl
  self := by kernel_rfl
  enter := enter_of Tryd.func6 rfl (by decide) #[]
  none := rfl
  runs := sanity_runs
theorem known_circle : (startAS 5 (knownOf Tryd.prog laidZ)).heap.get 0 = some (.cells [.int .i64 0, .int .i64 43199] 0 0 false false) := by kernel_rfl

theorem own : ownKnob Tryd.prog.godebug = none := by kernel_rfl
theorem laidOut : laidOutB Tryd.prog = true := by kernel_rfl
theorem door_met (os : Os) (args : Array Value) : laidMetH Tryd.prog laidZ ((World.doorLaid Tryd.prog 400 os).forCall (fun _ _ => 0) ⟨#[], args, []⟩).memory :=
  laidMetH_of_parts3 (fuel := 8) (laidMet_of_run' 8 (by kernel_rfl) (by kernel_rfl)) (by kernel_rfl) (by kernel_rfl)

end Go.Proofs.YtgbjgljchkodjaaDoor
