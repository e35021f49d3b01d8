/-
  The clock's seat: its check is true wherever it is called, so a law's run is its call.
-/
import Derived.Test.YtpaipdipkgnpdaaGreatBE
import Derived.Test.YtpaipdipkgnpdaaGreatBD
import Derived.Test.YtpaipdipkgnpdaaGreatAE8
import Derived.Test.YtpaipdipkgnpdaaGreatRows
import Derived.LaidMore
set_option linter.unusedSimpArgs false
set_option linter.unusedVariables false
namespace Go.Proofs.YtpaipdipkgnpdaaGreat
open Go Go.RowKit Go.Aev Go.Proofs Go.ChangeShapes Go.WideShapes
set_option maxRecDepth 100000
theorem own : ownKnob Tryz.prog.godebug = none := by kernel_rfl
theorem laidOut : laidOutB Tryz.prog = true := by kernel_rfl
theorem met (w : World) : laidMetH Tryz.prog [] w := laidMetH_nil _ _
theorem orcC {W : World} : OrcOk W.heap.size W Tryz.prog Clock.E0 :=
  orcTrue_ok (E := symEnv 0 noOrc) noOrc_ok rfl (enter_of Tryz.func20 rfl (by decide) #[]) (fun w _ _ => by
    obtain ⟨σ, h⟩ := HR.start0 (w := w)
    exact EnGood.calls 20 ClockB.eR_ok h)
theorem law {W : World} {σ : Sig} {S S' : AS} (h : HR W.heap.size W 0 σ S W) {k : FuncId} {args args' : Array Value} (ha : AR σ args args') (hne : orcTrue 20 noOrc k args S = none)
    (hrun : (evL Tryz.prog Clock.E0).call k args S = some (.bool true, S')) : Calls Tryz.prog k args' W fun e w' => e = .returned (.bool true) ∧ Below W.heap.size W w' := by
  have hr := evL_ok ClockB.tabZ ClockB.mixZ (orcC (W := W))
  rcases hr.call k args S _ S' hrun σ W args' h ha with ⟨hn, _⟩ | ⟨_, hc⟩
  · exact absurd hne hn
  · refine (callsIn_wide.1 hc).mono ?_
    rintro e w' ⟨σ', v', _, rfl, hv, hw⟩
    cases hv
    exact ⟨rfl, hw.below⟩
theorem san (S : AS) : ∃ S', (evL Tryz.prog Clock.E0).call 20 #[] S = some (.bool true, S') ∧ Agree S S' := by
  refine ⟨S, ?_, Agree.refl S⟩
  rw [L_call]
  rfl
end Go.Proofs.YtpaipdipkgnpdaaGreat
