/-
  DialKnows: for all marks and numbers the law returns true; conditions: none but that the listed package-level variables hold what the program's text lays.
-/
import Derived.Test.YtgbjgljchkodjaaGreatDoorBJ
import Derived.Test.YtgbjgljchkodjaaGreatDoorSdZ
import Derived.Test.YtgbjgljchkodjaaGreatDoorAE4
import Derived.Test.YtgbjgljchkodjaaGreatDoorRows
import Derived.Test.YtgbjgljchkodjaaGreatDoorTie
import Derived.Test.YtgbjgljchkodjaaGreatDoorCards
import Derived.SevenTiedAt
import Derived.LaidMore
set_option linter.unusedSimpArgs false
set_option linter.unusedVariables false
namespace Go.Proofs.YtgbjgljchkodjaaGreatDoor
open Go Go.RowKit Go.Aev Go.Proofs Go.ChangeShapes Go.WideShapes
set_option maxRecDepth 100000
theorem callsDialKnows (W : World) (hL : laidMet Tryz.prog laidZ W) (a b c d e aa ba ca da ea w u : Int) :
    Calls Tryz.prog 5 #[.agg #[.int .i64 a, .int .i64 b, .int .i64 c, .int .i64 d, .int .i64 e], .agg #[.int .i64 aa, .int .i64 ba, .int .i64 ca, .int .i64 da, .int .i64 ea], .int .i64 w, .int .i64 u] W fun e w' => e = .returned (.bool true) ∧ Below W.heap.size W w' := by
  obtain ⟨σ, hr⟩ := HR.ofLaid hL seat.lt seat.max seat.self
  have ht : Great.Tab (startAS 5 (knownOf Tryz.prog laidZ)) := ⟨Nat.le_refl _, known_circle⟩
  obtain ⟨S', hrun, _⟩ := (by have h := Great.c9 a b c d e aa ba ca da ea w u (startAS 5 (knownOf Tryz.prog laidZ)) ht; rw [Great.r9_true] at h; exact h)
  refine seat.law (args := #[.agg #[.int .i64 a, .int .i64 b, .int .i64 c, .int .i64 d, .int .i64 e], .agg #[.int .i64 aa, .int .i64 ba, .int .i64 ca, .int .i64 da, .int .i64 ea], .int .i64 w, .int .i64 u]) hL hr ⟨rfl, fun i hi => ?_⟩ rfl hrun
  match i, hi with
  | 0, _ => exact selfB_spec σ 8 _ rfl
  | 1, _ => exact selfB_spec σ 8 _ rfl
  | 2, _ => exact selfB_spec σ 8 _ rfl
  | 3, _ => exact selfB_spec σ 8 _ rfl
theorem liftedDialKnows (os : Os) (started : os.Started) (H : Type) (enc : TypeId × Value → H) :
    ReturnsInHanded {} Tryz.checked os 5 .any (fun w args => (Rows.dialKnowsSpec.pre enc Tryz.prog Tryz.f5 [] false w args ∧ laidMetH Tryz.prog laidZ w) ∧ sizedMet enc Tryz.prog Tryz.f5 (OpenSpec.ofChange Rows.dialKnowsSpec) false w args)
      (Rows.dialKnowsSpec.post enc Tryz.prog Tryz.f5 false true false false) := by
  refine law_lifted (C := Tryz.checked) (laid := laidZ) own started (by kernel_rfl) Tryz.func5 (by kernel_rfl) rfl laidOut (by kernel_rfl) (tb := 4) (by kernel_rfl) Tryz.underlying4 (fun ds hd => ?_)
    (ChangeSpec.witness_shaped (enc := enc) (C := Tryz.checked) (os := os) (X := fun w _ => laidMetH Tryz.prog laidZ w) false (World.doorLaid Tryz.prog 400 os) #[.agg #[.int .i64 0, .int .i64 0, .int .i64 0, .int .i64 0, .int .i64 0], .agg #[.int .i64 0, .int .i64 0, .int .i64 0, .int .i64 0, .int .i64 0], .int .i64 0, .int .i64 0] 8 rfl (World.shaped_of_RefB (by kernel_rfl) (by kernel_rfl)) (by kernel_rfl) (by kernel_rfl) (by kernel_rfl) (door_met os _))
    (fun W base args ds p hval hA hlt hw hL => ?_)
  · rw [Tryz.params5] at hd
    match ds, hd with
    | [d0, d1, d2, d3], _ => rfl
  · rw [Tryz.params5] at hA hval
    obtain ⟨args⟩ := args
    obtain ⟨v0, as0, d0, ds0, p0, q0, rfl, rfl, rfl, h0, hA⟩ := trodAll_cons hA
    obtain ⟨v1, as1, d1, ds1, p1, q1, rfl, rfl, rfl, h1, hA⟩ := trodAll_cons hA
    obtain ⟨v2, as2, d2, ds2, p2, q2, rfl, rfl, rfl, h2, hA⟩ := trodAll_cons hA
    obtain ⟨v3, as3, d3, ds3, p3, q3, rfl, rfl, rfl, h3, hA⟩ := trodAll_cons hA
    obtain ⟨rfl, rfl, rfl⟩ := trodAll_nil hA
    obtain ⟨ns0, ⟨l0, _⟩, rfl⟩ := open_kinds (n := 4) (ks := [.i64, .i64, .i64, .i64, .i64]) (by kernel_rfl) Tryz.underlying46 (hval 0 46 v0 rfl rfl) h0
    obtain ⟨ns1, ⟨l1, _⟩, rfl⟩ := open_kinds (n := 4) (ks := [.i64, .i64, .i64, .i64, .i64]) (by kernel_rfl) Tryz.underlying46 (hval 1 46 v1 rfl rfl) h1
    obtain ⟨w, rfl, _, _, _⟩ := open_int Tryz.underlying3 (hval 2 3 v2 rfl rfl) h2
    obtain ⟨u, rfl, _, _, _⟩ := open_int Tryz.underlying3 (hval 3 3 v3 rfl rfl) h3
    match ns0, l0, ns1, l1 with
    | [a, b, c, d, e], _, [aa, ba, ca, da, ea], _ => exact callsDialKnows W hL a b c d e aa ba ca da ea w u
theorem row_holdsDialKnows : Rows.DialKnowsSaid :=
  OpenClaim.holds_of_wide 5 Tryz.f5 rfl rfl rfl rfl rfl rfl rfl ⟨rfl, rfl, rfl, rfl, rfl⟩ rfl rfl rfl rfl rfl (by kernel_rfl) Tryz.func5 (by kernel_rfl)
    (of_decide_eq_true (by kernel_rfl)) (by unfold Func.isWrapper; first | (rw [if_pos (by decide +kernel)]; kernel_rfl) | (rw [if_neg (by decide +kernel)]; exact ⟨rfl, rfl⟩))
    (fun os started H enc _ => liftedDialKnows os started H enc)
theorem dialKnows_holds : Rows.DialKnowsCardSaid :=
  Claim7.holds_tied_plain_at .later [] [.data, .data, .data, .data] true (true, "610ab3fe7b872ca0185609f8321a089d5418d910d865327696d71b61fde54255") false
    row_holdsDialKnows (fun _ h => by cases h) (by kernel_rfl) (fun _ h => by cases h) dialKnows_row_tie rfl ⟨rfl, rfl⟩ (by kernel_rfl) rfl
    (fun f fn hf hfn => by
      obtain rfl : f = 5 := Option.some.inj ((show Tryz.prog.funcNamed "patrol/patrollaw01.DialKnows" = some 5 by kernel_rfl).symm.trans hf) |>.symm
      obtain rfl : fn = Tryz.f5 := (Option.some.inj (Tryz.func5.symm.trans hfn)).symm
      exact ⟨by kernel_rfl, fun j t ht => by
        have hm : t ∈ Tryz.f5.params.toList := by simpa using Array.mem_of_getElem? ht
        have hall : (Tryz.f5.params.toList.all fun u => !Tryz.prog.wantsStandIn u) = true := by kernel_rfl
        exact (show Tryz.prog.wantsStandIn t = false by simpa using List.all_eq_true.1 hall t hm)⟩)
    (by kernel_rfl)
#print axioms dialKnows_holds
end Go.Proofs.YtgbjgljchkodjaaGreatDoor
