/-
  HouseChecks: for all houses and names the law returns true; conditions: none but that the listed package-level variables hold what the program's text lays.
-/
import Derived.Test.YtfjnbekocdffbaaGreatDoorBM
import Derived.Test.YtfjnbekocdffbaaGreatDoorSdH
import Derived.Test.YtfjnbekocdffbaaGreatDoorBO
import Derived.Test.YtfjnbekocdffbaaGreatDoorAE4
import Derived.Test.YtfjnbekocdffbaaGreatDoorRows
import Derived.Test.YtfjnbekocdffbaaGreatDoorTie
import Derived.Test.YtfjnbekocdffbaaGreatDoorCards
import Derived.SevenTiedAt
import Derived.LaidMore
import Derived.ChangeMaps5
set_option linter.unusedSimpArgs false
set_option linter.unusedVariables false
namespace Go.Proofs.YtfjnbekocdffbaaGreatDoor
open Go Go.RowKit Go.Aev Go.Proofs Go.ChangeShapes Go.WideShapes Go.ChangeMaps
set_option maxRecDepth 100000
theorem callsHouseChecks {H : Type} {enc : TypeId × Value → H} (W : World) (hL : laidMet Tryz.prog laidZ W) {b0 : Nat} {v0 : Value} {d0 : DataW H} {p0 : List MemPlace} (hv0 : Value.okWide Tryz.prog W .any b0 26 v0) (h0 : DataW.Trod enc Tryz.prog W 0 (fun _ => true) true 26 v0 d0 p0) (s : ByteArray) :
    Calls Tryz.prog 3 #[v0, .string s] W fun e w' => e = .returned (.bool true) ∧ Below W.heap.size W w' := by
  obtain ⟨σ, hr⟩ := HR.ofLaid hL seat.lt seat.max seat.self
  obtain ⟨cs0, rfl⟩ := okWide_agg Tryz.underlying26 hv0
  obtain ⟨σ0, S0, c0, h, le0, hr0, a0, x0, r0⟩ := hr.argO House.opHs h0
  obtain ⟨w0_0, w0_1, w0_2, rfl, r0_0, r0_1, r0_2⟩ := r0
  replace x0 : VR σ0 (.agg #[w0_0, w0_1, w0_2]) (.agg cs0) := agg_vr x0
  obtain ⟨S', hrun, _⟩ := (by have h' := House.c3 h s (House.rooms_size r0_0) S0 w0_0 r0_0 w0_1 r0_1 w0_2 r0_2; rw [House.r3_true] at h'; exact h')
  refine seat.law (args := #[.agg #[w0_0, w0_1, w0_2], .string s]) hL hr0 ⟨rfl, fun i hi => ?_⟩ rfl hrun
  match i, hi with
  | 0, _ => exact x0
  | 1, _ => exact selfB_spec σ0 8 _ rfl
theorem liftedHouseChecks (os : Os) (started : os.Started) (H : Type) (enc : TypeId × Value → H) :
    ReturnsInHanded {} Tryz.checked os 3 .any (fun w args => (Rows.houseChecksSpec.pre enc Tryz.prog Tryz.f3 [] false w args ∧ laidMetH Tryz.prog laidZ w) ∧ sizedMet enc Tryz.prog Tryz.f3 (OpenSpec.ofChange Rows.houseChecksSpec) false w args)
      (Rows.houseChecksSpec.post enc Tryz.prog Tryz.f3 false true false false) := by
  refine law_lifted (C := Tryz.checked) (laid := laidZ) own started (by kernel_rfl) Tryz.func3 (by kernel_rfl) rfl laidOut (by kernel_rfl) (tb := 4) (by kernel_rfl) Tryz.underlying4 (fun ds hd => ?_)
    (ChangeSpec.witness_shaped (enc := enc) (C := Tryz.checked) (os := os) (X := fun w _ => laidMetH Tryz.prog laidZ w) false (World.doorLaid Tryz.prog 400 os) #[.agg #[.slice none 0 0, .slice none 0 0, .slice none 0 0], .string ⟨#[]⟩] 8 rfl (World.shaped_of_RefB (by kernel_rfl) (by kernel_rfl)) (by kernel_rfl) (by kernel_rfl) (by kernel_rfl) (door_met os _))
    (fun W base args ds p hval hA hlt hw hL => ?_)
  · rw [Tryz.params3] at hd
    match ds, hd with
    | [d0, d1], _ => rfl
  · rw [Tryz.params3] at hA hval
    obtain ⟨args⟩ := args
    obtain ⟨v0, as0, d0, ds0, p0, q0, rfl, rfl, rfl, h0, hA⟩ := trodAll_cons hA
    obtain ⟨v1, as1, d1, ds1, p1, q1, rfl, rfl, rfl, h1, hA⟩ := trodAll_cons hA
    obtain ⟨rfl, rfl, rfl⟩ := trodAll_nil hA
    obtain ⟨s, rfl, _⟩ := open_string Tryz.underlying9 (hval 1 9 v1 rfl rfl) h1
    exact callsHouseChecks W hL (hval 0 26 v0 rfl rfl) h0 s
theorem jHouseChecks0 : (Rows.houseChecksRow.wf (OpenSpec.ofChange Rows.houseChecksSpec)) = true := by kernel_rfl
theorem jHouseChecks1 : (laidOutB Tryz.prog) = true := sh1
theorem jHouseChecks2 : (mapsRowed Tryz.prog) = true := sh2
theorem jHouseChecks3 : (Tryz.f3.params.all (Tryz.prog.readableRec ·)) = true := by kernel_rfl
theorem jHouseChecks4 : (namedTie Tryz.prog Rows.houseChecksRow.named Rows.houseChecksSpec.vars) = true := by kernel_rfl
theorem jHouseChecks5 : ((Rows.houseChecksRow.stops == [])) = true := by kernel_rfl
theorem jHouseChecks6 : ((Tryz.prog.stops == [])) = true := sh6
theorem jHouseChecks7 : ((Rows.houseChecksRow.knobs == [])) = true := by kernel_rfl
theorem jHouseChecks8 : ((Tryz.prog.stopKnobs == [])) = true := sh8
theorem jHouseChecks9 : ((Rows.houseChecksRow.inPlace == Tryz.prog.inPlace 3)) = true := by kernel_rfl
theorem jHouseChecks10 : ((Rows.houseChecksRow.unfollowed == Tryz.prog.unfollowed 3)) = true := by kernel_rfl
theorem jHouseChecks11 : ((Rows.houseChecksRow.recurses == Tryz.prog.recurses 3)) = true := by kernel_rfl
theorem jHouseChecks12 : ((Rows.houseChecksRow.named == Tryz.prog.varsNamed 3)) = true := by kernel_rfl
theorem jHouseChecks13 : ((Rows.houseChecksRow.maps == (Tryz.f3.params.toList ++ Rows.houseChecksSpec.plain.varTypes Tryz.prog).any (Tryz.prog.mapsRec ·))) = true := by kernel_rfl
theorem jHouseChecks14 : ((Rows.houseChecksRow.ifaces == (Tryz.f3.params.toList ++ Rows.houseChecksSpec.plain.varTypes Tryz.prog).any (Tryz.prog.ifacesRec ·))) = true := by kernel_rfl
theorem jHouseChecks15 : ((Rows.houseChecksRow.mapsOut == Tryz.prog.mapsAmong Tryz.f3.resultTypes.toList)) = true := by kernel_rfl
theorem jHouseChecks16 : ((Rows.houseChecksRow.loops == (Tryz.f3.params.toList ++ Rows.houseChecksSpec.plain.varTypes Tryz.prog).any (Tryz.prog.loopsFrom ·))) = true := by kernel_rfl
theorem jHouseChecks17 : ((Rows.houseChecksRow.wideKeys == (Tryz.f3.params.toList ++ Rows.houseChecksSpec.plain.varTypes Tryz.prog ++ Tryz.f3.resultTypes.toList).any (Tryz.prog.wideKeysFrom ·))) = true := by kernel_rfl
theorem jHouseChecks18 : (Rows.houseChecksSpec.vars.all (Tryz.prog.varReadable ·)) = true := by kernel_rfl
theorem jHouseChecks19 : (Tryz.f3.resultTypes.all (fun t => Tryz.prog.readableRec t && decide (t < Tryz.prog.types.size))) = true := by kernel_rfl
theorem jHouseChecks20 : ((Rows.houseChecksRow.ifacesOut == Tryz.f3.resultTypes.toList.any (Tryz.prog.ifacesRec ·))) = true := by kernel_rfl
theorem jHouseChecks21 : ((Rows.houseChecksRow.loopsOut == Tryz.f3.resultTypes.toList.any (Tryz.prog.loopsFrom ·))) = true := by kernel_rfl
theorem jHouseChecks22 : ((Rows.houseChecksRow.plainKeys == Tryz.prog.plainKeys)) = true := sh22
theorem jHouseChecks23 : (Rows.houseChecksRow.shortTexts.isNone) = true := by kernel_rfl
theorem jHouseChecks24 : (Tryz.prog.stopsHeard) = true := sh24
theorem jHouseChecks25 : (Tryz.prog.mayEnter) = true := sh25
theorem jHouseChecks26 : ((Rows.houseChecksRow.lifted == Tryz.prog.liftsFinal)) = true := sh26
theorem jHouseChecks27 : ((Tryz.prog.make == some Rows.houseChecksRow.make)) = true := sh27
theorem jHouseChecks28 : ((Rows.houseChecksRow.kinds == (if Rows.houseChecksRow.domain.isEmpty then [] else Tryz.f3.params.toList.map fun t => match Tryz.prog.underlying t with | some (.int k) => some k | _ => none))) = true := by kernel_rfl
theorem jHouseChecks29 : ((Rows.houseChecksRow.pinned == Rows.houseChecksRow.pinnedBy)) = true := sh29
theorem jHouseChecks30 : ((Rows.houseChecksRow.veiled == (Tryz.f3.params.toList ++ Rows.houseChecksSpec.plain.varTypes Tryz.prog ++ Tryz.f3.resultTypes.toList).any (Tryz.prog.veiledRec ·))) = true := by kernel_rfl
theorem jHouseChecks31 : (Rows.houseChecksRow.veiledFits Tryz.prog Tryz.f3.params.toList (Tryz.f3.params.toList ++ Rows.houseChecksSpec.plain.varTypes Tryz.prog ++ Tryz.f3.resultTypes.toList)) = true := by kernel_rfl
theorem jfHouseChecks : joinedFacts Tryz.prog 3 Tryz.f3 Rows.houseChecksSpec Rows.houseChecksRow = true := (band (band (band (band (band (band (band (band (band (band (band (band (band (band (band (band (band (band (band (band (band (band (band (band (band (band (band (band (band (band (band jHouseChecks0 jHouseChecks1) jHouseChecks2) jHouseChecks3) jHouseChecks4) jHouseChecks5) jHouseChecks6) jHouseChecks7) jHouseChecks8) jHouseChecks9) jHouseChecks10) jHouseChecks11) jHouseChecks12) jHouseChecks13) jHouseChecks14) jHouseChecks15) jHouseChecks16) jHouseChecks17) jHouseChecks18) jHouseChecks19) jHouseChecks20) jHouseChecks21) jHouseChecks22) jHouseChecks23) jHouseChecks24) jHouseChecks25) jHouseChecks26) jHouseChecks27) jHouseChecks28) jHouseChecks29) jHouseChecks30) jHouseChecks31)
theorem row_holdsHouseChecks : Rows.HouseChecksSaid :=
  OpenClaim.holds_of_wide 3 Tryz.f3 rfl rfl rfl rfl rfl rfl rfl ⟨rfl, rfl, rfl, rfl, rfl⟩ rfl rfl rfl rfl rfl (by kernel_rfl) Tryz.func3 jfHouseChecks
    (of_decide_eq_true (by kernel_rfl)) (by unfold Func.isWrapper; first | (rw [if_pos (by decide +kernel)]; kernel_rfl) | (rw [if_neg (by decide +kernel)]; exact ⟨rfl, rfl⟩))
    (fun os started H enc _ => liftedHouseChecks os started H enc)
theorem houseChecks_holds : Rows.HouseChecksCardSaid :=
  Claim7.holds_tied_plain_at .later [] [.data, .data, .data] true (true, "4e618f33cc17afbde1f6d9a014ad85e9fad687eaa96434e3d1147b07e51ddefd") false
    row_holdsHouseChecks (fun _ h => by cases h) (by kernel_rfl) (fun _ h => by cases h) houseChecks_row_tie rfl ⟨rfl, rfl⟩ (by kernel_rfl) rfl
    (fun f fn hf hfn => by
      obtain rfl : f = 3 := Option.some.inj ((show Tryz.prog.funcNamed "patrol/patrollaw03.HouseChecks" = some 3 by kernel_rfl).symm.trans hf) |>.symm
      obtain rfl : fn = Tryz.f3 := (Option.some.inj (Tryz.func3.symm.trans hfn)).symm
      exact ⟨by kernel_rfl, fun j t ht => by
        have hm : t ∈ Tryz.f3.params.toList := by simpa using Array.mem_of_getElem? ht
        have hall : (Tryz.f3.params.toList.all fun u => !Tryz.prog.wantsStandIn u) = true := by kernel_rfl
        exact (show Tryz.prog.wantsStandIn t = false by simpa using List.all_eq_true.1 hall t hm)⟩)
    (by kernel_rfl)
#print axioms houseChecks_holds
end Go.Proofs.YtfjnbekocdffbaaGreatDoor
