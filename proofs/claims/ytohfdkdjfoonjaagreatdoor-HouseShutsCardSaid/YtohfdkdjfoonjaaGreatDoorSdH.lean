/-
  The house's seat: its check runs to true, its variables hold what the text lays.
-/
import Derived.Test.YtohfdkdjfoonjaaGreatDoorAE5
import Derived.Test.YtohfdkdjfoonjaaGreatDoorProg
import Derived.Test.YtohfdkdjfoonjaaGreatDoorRows
import Derived.Test.YtohfdkdjfoonjaaGreatDoorTie
import Derived.Test.YtohfdkdjfoonjaaGreatDoorCards
import Derived.SevenTiedAt
import Derived.LaidMore
set_option linter.unusedSimpArgs false
set_option linter.unusedVariables false
namespace Go.Proofs.YtohfdkdjfoonjaaGreatDoor
open Go Go.RowKit Go.Aev Go.Proofs Go.ChangeShapes Go.WideShapes
set_option maxRecDepth 100000
def laidZ : List (String × DataW Unit) := Rows.houseChecksRow.laid
theorem ext : ExtOk Tryz.prog 164 175 5 :=
  ExtOk.of_rows (t := 156) (ps := #[3]) Tryz.func164 (by kernel_rfl) (of_decide_eq_false (by kernel_rfl)) (by kernel_rfl) (by kernel_rfl) Tryz.func175 (by kernel_rfl) (of_decide_eq_false (by kernel_rfl)) (by kernel_rfl) (by kernel_rfl) (by kernel_rfl)
theorem lt : ((knownOf Tryz.prog laidZ).all fun x => Nat.blt x.1 4) = true := by kernel_rfl
theorem max : ((knownOf Tryz.prog laidZ).any fun x => Nat.beq (x.1 + 1) 4) = true := by kernel_rfl
theorem sanity_runs : isT ((ev Tryz.prog (mkEnv 4 164 175 5) 2000).call 21 #[] (startAS 4 (knownOf Tryz.prog laidZ))) = true := by kernel_rfl
theorem seat : Seat Tryz.prog laidZ 4 164 175 5 21 2000 where
  tab := by kernel_rfl
  mixed := by kernel_rfl
  ext := ext
  lt := by kernel_rfl
  max := by kernel_rfl
  self := by kernel_rfl
  enter := enter_of Tryz.func21 rfl (by decide) #[]
  none := rfl
  runs := sanity_runs
theorem own : ownKnob Tryz.prog.godebug = none := by kernel_rfl
theorem laidOut : laidOutB Tryz.prog = true := by kernel_rfl
theorem door_met (os : Os) (args : Array Value) : laidMetH Tryz.prog laidZ ((World.doorLaid Tryz.prog 400 os).forCall (fun _ _ => 0) ⟨#[], args, []⟩).memory :=
  laidMetH_of_parts3 (fuel := 8) (laidMet_of_run' 8 (by kernel_rfl) (by kernel_rfl)) (by kernel_rfl) (by kernel_rfl)
end Go.Proofs.YtohfdkdjfoonjaaGreatDoor

