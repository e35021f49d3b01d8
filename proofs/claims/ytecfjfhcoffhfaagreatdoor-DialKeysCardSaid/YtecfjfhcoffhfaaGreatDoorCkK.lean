/-
  The law of keys: its call, wherever its list lies.
-/
import Derived.Test.YtecfjfhcoffhfaaGreatDoorSdZ
import Derived.Test.YtecfjfhcoffhfaaGreatDoorEvK4
import Derived.Test.YtecfjfhcoffhfaaGreatDoorAevAr
set_option linter.unusedSimpArgs false
set_option linter.unusedVariables false
namespace Go.Proofs.YtecfjfhcoffhfaaGreatDoor
open Go Go.RowKit Go.Aev Go.Proofs Go.ChangeShapes Go.WideShapes
set_option maxRecDepth 100000
theorem callsK {H : Type} {enc : TypeId × Value → H} (W : World) (hL : laidMet Tryz.prog laidZ W) {b0 : Nat} {v0 : Value} {d : DataW H} {ps : List MemPlace} (hv : Value.okWide Tryz.prog W .any b0 43 v0) (h0 : DataW.Trod enc Tryz.prog W 0 (fun _ => true) true 43 v0 d ps) (f s l : Int) :
    Calls Tryz.prog 5 #[v0, .agg #[.int .i64 f, .int .i64 s, .int .i64 l]] W fun e w' => e = .returned (.bool true) ∧ Below W.heap.size W w' := by
  obtain ⟨σ, hr⟩ := HR.ofLaid hL seat.lt seat.max seat.self
  obtain ⟨σ', S', v', nss, _, hr', hvr, hrow, _, hfits⟩ := hr.arg (n := 4) (ks := [.i64, .i64, .i64]) (by kernel_rfl) (by kernel_rfl) (by decide) Great.und43 hv h0
  obtain ⟨ks, rfl⟩ := Great.keys_of hfits
  obtain ⟨S2, hrun, _⟩ := Great.c5 ks f s l S' v' hrow
  refine seat.law (args := #[v', .agg #[.int .i64 f, .int .i64 s, .int .i64 l]]) hL hr' ⟨rfl, fun i hi => ?_⟩ rfl hrun
  match i, hi with
  | 0, _ => exact hvr
  | 1, _ => exact selfB_spec σ' 8 _ rfl
end Go.Proofs.YtecfjfhcoffhfaaGreatDoor
