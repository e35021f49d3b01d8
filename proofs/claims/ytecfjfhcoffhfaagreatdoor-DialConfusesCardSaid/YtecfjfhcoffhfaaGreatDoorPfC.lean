/-
  DialConfuses: for all keys and inks the law returns true; conditions: none but that the listed package-level variables hold what the program's text lays.
-/
import Derived.Test.YtecfjfhcoffhfaaGreatDoorEvZ11
import Derived.Test.YtecfjfhcoffhfaaGreatDoorSdZ
import Derived.Test.YtecfjfhcoffhfaaGreatDoorAevT
import Derived.Test.YtecfjfhcoffhfaaGreatDoorRows
import Derived.Test.YtecfjfhcoffhfaaGreatDoorTie
import Derived.Test.YtecfjfhcoffhfaaGreatDoorCards
import Derived.SevenTiedAt
import Derived.LaidMore
set_option linter.unusedSimpArgs false
set_option linter.unusedVariables false
namespace Go.Proofs.YtecfjfhcoffhfaaGreatDoor
open Go Go.RowKit Go.Aev Go.Proofs Go.ChangeShapes Go.WideShapes
set_option maxRecDepth 100000
theorem callsC (W : World) (hL : laidMet Tryz.prog laidZ W) (i1 t1 p1 i2 t2 p2 f s l : Int) : Calls Tryz.prog 6 #[.agg #[.int .i64 i1, .int .i64 t1, .int .i64 p1], .agg #[.int .i64 i2, .int .i64 t2, .int .i64 p2], .agg #[.int .i64 f, .int .i64 s, .int .i64 l]] W fun e w' => e = .returned (.bool true) ∧ Below W.heap.size W w' := by
  obtain ⟨S', h, _⟩ := Great.c6 i1 t1 p1 i2 t2 p2 f s l (startAS 9 (knownOf Tryz.prog laidZ))
  exact seat.law_plain hL (fun v hv => by
    simp at hv
    rcases hv with rfl | rfl | rfl <;> rfl) rfl h

theorem liftedC (os : Os) (started : os.Started) (H : Type) (enc : TypeId × Value → H) :
    ReturnsInHanded {} Tryz.checked os 6 .any (fun w args => (Rows.dialConfusesSpec.pre enc Tryz.prog Tryz.f6 [] false w args ∧ laidMetH Tryz.prog laidZ w) ∧ sizedMet enc Tryz.prog Tryz.f6 (OpenSpec.ofChange Rows.dialConfusesSpec) false w args)
      (Rows.dialConfusesSpec.post enc Tryz.prog Tryz.f6 false true false false) := by
  refine law_lifted (C := Tryz.checked) (laid := laidZ) own started (by kernel_rfl) Tryz.func6 (by kernel_rfl) rfl laidOut (by kernel_rfl) (tb := 4) (by kernel_rfl) Tryz.underlying4 (fun ds hd => ?_)
    (ChangeSpec.witness_shaped (enc := enc) (C := Tryz.checked) (os := os) (X := fun w _ => laidMetH Tryz.prog laidZ w) false (World.doorLaid Tryz.prog 400 os) #[.agg #[.int .i64 0, .int .i64 0, .int .i64 0], .agg #[.int .i64 0, .int .i64 0, .int .i64 0], .agg #[.int .i64 0, .int .i64 0, .int .i64 0]] 8 rfl (World.shaped_of_RefB (by kernel_rfl) (by kernel_rfl)) (by kernel_rfl) (by kernel_rfl) (by kernel_rfl) (door_met os _))
    (fun W base args ds p hval hA hlt hw hL => ?_)
  · rw [Tryz.params6] at hd
    match ds, hd with
    | [d1, d2, d3], _ => rfl
  · rw [Tryz.params6] at hA hval
    obtain ⟨v0, v1, v2, d0, d1, d2, p0, p1, p2, rfl, rfl, rfl, h0, h1, h2⟩ := trodAll_three hA
    obtain ⟨ns0, ⟨l0, _⟩, rfl⟩ := open_kinds (n := 4) (ks := [.i64, .i64, .i64]) (by kernel_rfl) Tryz.underlying52 (hval 0 52 v0 rfl rfl) h0
    obtain ⟨ns1, ⟨l1, _⟩, rfl⟩ := open_kinds (n := 4) (ks := [.i64, .i64, .i64]) (by kernel_rfl) Tryz.underlying52 (hval 1 52 v1 rfl rfl) h1
    obtain ⟨ns2, ⟨l2, _⟩, rfl⟩ := open_kinds (n := 4) (ks := [.i64, .i64, .i64]) (by kernel_rfl) Tryz.underlying45 (hval 2 45 v2 rfl rfl) h2
    match ns0, l0, ns1, l1, ns2, l2 with
    | [i1, t1, p1], _, [i2, t2, p2], _, [f, s, l], _ => exact callsC W hL i1 t1 p1 i2 t2 p2 f s l
theorem row_holdsC : Rows.DialConfusesSaid :=
  OpenClaim.holds_of_wide 6 Tryz.f6 rfl rfl rfl rfl rfl rfl rfl ⟨rfl, rfl, rfl, rfl, rfl⟩ rfl rfl rfl rfl rfl (by kernel_rfl) Tryz.func6 (by kernel_rfl)
    (of_decide_eq_true (by kernel_rfl)) (by unfold Func.isWrapper; first | (rw [if_pos (by decide +kernel)]; kernel_rfl) | (rw [if_neg (by decide +kernel)]; exact ⟨rfl, rfl⟩))
    (fun os started H enc _ => liftedC os started H enc)
theorem dialConfuses_holds : Rows.DialConfusesCardSaid :=
  Claim7.holds_tied_plain_at .later [] [.data, .data, .data, .data] true (true, "bdccf27b1b96963d32920fbf93f9686b1de2fab0e42d8ecb7723fd6931ad5a27") true
    row_holdsC (fun _ h => by cases h) (by kernel_rfl) (fun _ h => by cases h) dialConfuses_row_tie rfl ⟨rfl, rfl⟩ (by kernel_rfl) rfl
    (fun f fn hf hfn => by
      obtain rfl : f = 6 := Option.some.inj ((show Tryz.prog.funcNamed "patrol/patrollaw01.DialConfuses" = some 6 by kernel_rfl).symm.trans hf) |>.symm
      obtain rfl : fn = Tryz.f6 := (Option.some.inj (Tryz.func6.symm.trans hfn)).symm
      exact ⟨by kernel_rfl, fun j t ht => by
        have hm : t ∈ Tryz.f6.params.toList := by simpa using Array.mem_of_getElem? ht
        have hall : (Tryz.f6.params.toList.all fun u => !Tryz.prog.wantsStandIn u) = true := by kernel_rfl
        exact (show Tryz.prog.wantsStandIn t = false by simpa using List.all_eq_true.1 hall t hm)⟩)
    (by kernel_rfl)
#print axioms dialConfuses_holds
end Go.Proofs.YtecfjfhcoffhfaaGreatDoor
