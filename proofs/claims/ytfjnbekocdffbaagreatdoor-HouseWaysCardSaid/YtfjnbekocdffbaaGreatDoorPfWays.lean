/-
  HouseWays: for all houses, ways, directions and times the law returns true; conditions: none but that the listed package-level variables hold what the program's text lays.
-/
import Derived.Test.YtfjnbekocdffbaaGreatDoorEvM6
import Derived.Test.YtfjnbekocdffbaaGreatDoorSdH
import Derived.Test.YtfjnbekocdffbaaGreatDoorBO
import Derived.Test.YtfjnbekocdffbaaGreatDoorAE4
import Derived.Test.YtfjnbekocdffbaaGreatDoorRows
import Derived.Test.YtfjnbekocdffbaaGreatDoorTie
import Derived.Test.YtfjnbekocdffbaaGreatDoorCards
import Derived.SevenTiedAt
import Derived.LaidMore
import Derived.ChangeMaps5
set_option linter.unusedSimpArgs false
set_option linter.unusedVariables false
namespace Go.Proofs.YtfjnbekocdffbaaGreatDoor
open Go Go.RowKit Go.Aev Go.Proofs Go.ChangeShapes Go.WideShapes Go.ChangeMaps
set_option maxRecDepth 100000
theorem callsHouseWays {H : Type} {enc : TypeId × Value → H} (W : World) (hL : laidMet Tryz.prog laidZ W) {b0 : Nat} {v0 : Value} {d0 : DataW H} {p0 : List MemPlace} (hv0 : Value.okWide Tryz.prog W .any b0 26 v0) (h0 : DataW.Trod enc Tryz.prog W 0 (fun _ => true) true 26 v0 d0 p0) (w : Int) (b : Bool) (t : Int) :
    Calls Tryz.prog 5 #[v0, .int .i64 w, .bool b, .int .i64 t] W fun e w' => e = .returned (.bool true) ∧ Below W.heap.size W w' := by
  obtain ⟨σ, hr⟩ := HR.ofLaid hL seat.lt seat.max seat.self
  obtain ⟨cs0, rfl⟩ := okWide_agg Tryz.underlying26 hv0
  obtain ⟨σ0, S0, c0, h, le0, hr0, a0, x0, r0⟩ := hr.argO House.opHs h0
  obtain ⟨w0_0, w0_1, w0_2, rfl, r0_0, r0_1, r0_2⟩ := r0
  replace x0 : VR σ0 (.agg #[w0_0, w0_1, w0_2]) (.agg cs0) := agg_vr x0
  obtain ⟨S', hrun, _⟩ := (by have h' := House.c5 h w b t (House.rooms_size r0_0) S0 w0_0 r0_0 w0_1 r0_1 w0_2 r0_2; rw [House.r5_true] at h'; exact h')
  refine seat.law (args := #[.agg #[w0_0, w0_1, w0_2], .int .i64 w, .bool b, .int .i64 t]) hL hr0 ⟨rfl, fun i hi => ?_⟩ rfl hrun
  match i, hi with
  | 0, _ => exact x0
  | 1, _ => exact selfB_spec σ0 8 _ rfl
  | 2, _ => exact selfB_spec σ0 8 _ rfl
  | 3, _ => exact selfB_spec σ0 8 _ rfl
theorem liftedHouseWays (os : Os) (started : os.Started) (H : Type) (enc : TypeId × Value → H) :
    ReturnsInHanded {} Tryz.checked os 5 .any (fun w args => (Rows.houseWaysSpec.pre enc Tryz.prog Tryz.f5 [] false w args ∧ laidMetH Tryz.prog laidZ w) ∧ sizedMet enc Tryz.prog Tryz.f5 (OpenSpec.ofChange Rows.houseWaysSpec) false w args)
      (Rows.houseWaysSpec.post enc Tryz.prog Tryz.f5 false true false false) := by
  refine law_lifted (C := Tryz.checked) (laid := laidZ) own started (by kernel_rfl) Tryz.func5 (by kernel_rfl) rfl laidOut (by kernel_rfl) (tb := 4) (by kernel_rfl) Tryz.underlying4 (fun ds hd => ?_)
    (ChangeSpec.witness_shaped (enc := enc) (C := Tryz.checked) (os := os) (X := fun w _ => laidMetH Tryz.prog laidZ w) false (World.doorLaid Tryz.prog 400 os) #[.agg #[.slice none 0 0, .slice none 0 0, .slice none 0 0], .int .i64 0, .bool false, .int .i64 0] 8 rfl (World.shaped_of_RefB (by kernel_rfl) (by kernel_rfl)) (by kernel_rfl) (by kernel_rfl) (by kernel_rfl) (door_met os _))
    (fun W base args ds p hval hA hlt hw hL => ?_)
  · rw [Tryz.params5] at hd
    match ds, hd with
    | [d0, d1, d2, d3], _ => rfl
  · rw [Tryz.params5] at hA hval
    obtain ⟨args⟩ := args
    obtain ⟨v0, as0, d0, ds0, p0, q0, rfl, rfl, rfl, h0, hA⟩ := trodAll_cons hA
    obtain ⟨v1, as1, d1, ds1, p1, q1, rfl, rfl, rfl, h1, hA⟩ := trodAll_cons hA
    obtain ⟨v2, as2, d2, ds2, p2, q2, rfl, rfl, rfl, h2, hA⟩ := trodAll_cons hA
    obtain ⟨v3, as3, d3, ds3, p3, q3, rfl, rfl, rfl, h3, hA⟩ := trodAll_cons hA
    obtain ⟨rfl, rfl, rfl⟩ := trodAll_nil hA
    obtain ⟨w, rfl, _, _, _⟩ := open_int Tryz.underlying3 (hval 1 3 v1 rfl rfl) h1
    obtain ⟨b, rfl, _⟩ := open_bool Tryz.underlying4 (hval 2 4 v2 rfl rfl) h2
    obtain ⟨t, rfl, _, _, _⟩ := open_int Tryz.underlying3 (hval 3 3 v3 rfl rfl) h3
    exact callsHouseWays W hL (hval 0 26 v0 rfl rfl) h0 w b t
theorem jHouseWays0 : (Rows.houseWaysRow.wf (OpenSpec.ofChange Rows.houseWaysSpec)) = true := by kernel_rfl
theorem jHouseWays1 : (laidOutB Tryz.prog) = true := sh1
theorem jHouseWays2 : (mapsRowed Tryz.prog) = true := sh2
theorem jHouseWays3 : (Tryz.f5.params.all (Tryz.prog.readableRec ·)) = true := by kernel_rfl
theorem jHouseWays4 : (namedTie Tryz.prog Rows.houseWaysRow.named Rows.houseWaysSpec.vars) = true := by kernel_rfl
theorem jHouseWays5 : ((Rows.houseWaysRow.stops == [])) = true := by kernel_rfl
theorem jHouseWays6 : ((Tryz.prog.stops == [])) = true := sh6
theorem jHouseWays7 : ((Rows.houseWaysRow.knobs == [])) = true := by kernel_rfl
theorem jHouseWays8 : ((Tryz.prog.stopKnobs == [])) = true := sh8
theorem jHouseWays9 : ((Rows.houseWaysRow.inPlace == Tryz.prog.inPlace 5)) = true := by kernel_rfl
theorem jHouseWays10 : ((Rows.houseWaysRow.unfollowed == Tryz.prog.unfollowed 5)) = true := by kernel_rfl
theorem jHouseWays11 : ((Rows.houseWaysRow.recurses == Tryz.prog.recurses 5)) = true := by kernel_rfl
theorem jHouseWays12 : ((Rows.houseWaysRow.named == Tryz.prog.varsNamed 5)) = true := by kernel_rfl
theorem jHouseWays13 : ((Rows.houseWaysRow.maps == (Tryz.f5.params.toList ++ Rows.houseWaysSpec.plain.varTypes Tryz.prog).any (Tryz.prog.mapsRec ·))) = true := by kernel_rfl
theorem jHouseWays14 : ((Rows.houseWaysRow.ifaces == (Tryz.f5.params.toList ++ Rows.houseWaysSpec.plain.varTypes Tryz.prog).any (Tryz.prog.ifacesRec ·))) = true := by kernel_rfl
theorem jHouseWays15 : ((Rows.houseWaysRow.mapsOut == Tryz.prog.mapsAmong Tryz.f5.resultTypes.toList)) = true := by kernel_rfl
theorem jHouseWays16 : ((Rows.houseWaysRow.loops == (Tryz.f5.params.toList ++ Rows.houseWaysSpec.plain.varTypes Tryz.prog).any (Tryz.prog.loopsFrom ·))) = true := by kernel_rfl
theorem jHouseWays17 : ((Rows.houseWaysRow.wideKeys == (Tryz.f5.params.toList ++ Rows.houseWaysSpec.plain.varTypes Tryz.prog ++ Tryz.f5.resultTypes.toList).any (Tryz.prog.wideKeysFrom ·))) = true := by kernel_rfl
theorem jHouseWays18 : (Rows.houseWaysSpec.vars.all (Tryz.prog.varReadable ·)) = true := by kernel_rfl
theorem jHouseWays19 : (Tryz.f5.resultTypes.all (fun t => Tryz.prog.readableRec t && decide (t < Tryz.prog.types.size))) = true := by kernel_rfl
theorem jHouseWays20 : ((Rows.houseWaysRow.ifacesOut == Tryz.f5.resultTypes.toList.any (Tryz.prog.ifacesRec ·))) = true := by kernel_rfl
theorem jHouseWays21 : ((Rows.houseWaysRow.loopsOut == Tryz.f5.resultTypes.toList.any (Tryz.prog.loopsFrom ·))) = true := by kernel_rfl
theorem jHouseWays22 : ((Rows.houseWaysRow.plainKeys == Tryz.prog.plainKeys)) = true := sh22
theorem jHouseWays23 : (Rows.houseWaysRow.shortTexts.isNone) = true := by kernel_rfl
theorem jHouseWays24 : (Tryz.prog.stopsHeard) = true := sh24
theorem jHouseWays25 : (Tryz.prog.mayEnter) = true := sh25
theorem jHouseWays26 : ((Rows.houseWaysRow.lifted == Tryz.prog.liftsFinal)) = true := sh26
theorem jHouseWays27 : ((Tryz.prog.make == some Rows.houseWaysRow.make)) = true := sh27
theorem jHouseWays28 : ((Rows.houseWaysRow.kinds == (if Rows.houseWaysRow.domain.isEmpty then [] else Tryz.f5.params.toList.map fun t => match Tryz.prog.underlying t with | some (.int k) => some k | _ => none))) = true := by kernel_rfl
theorem jHouseWays29 : ((Rows.houseWaysRow.pinned == Rows.houseWaysRow.pinnedBy)) = true := sh29
theorem jHouseWays30 : ((Rows.houseWaysRow.veiled == (Tryz.f5.params.toList ++ Rows.houseWaysSpec.plain.varTypes Tryz.prog ++ Tryz.f5.resultTypes.toList).any (Tryz.prog.veiledRec ·))) = true := by kernel_rfl
theorem jHouseWays31 : (Rows.houseWaysRow.veiledFits Tryz.prog Tryz.f5.params.toList (Tryz.f5.params.toList ++ Rows.houseWaysSpec.plain.varTypes Tryz.prog ++ Tryz.f5.resultTypes.toList)) = true := by kernel_rfl
theorem jfHouseWays : joinedFacts Tryz.prog 5 Tryz.f5 Rows.houseWaysSpec Rows.houseWaysRow = true := (band (band (band (band (band (band (band (band (band (band (band (band (band (band (band (band (band (band (band (band (band (band (band (band (band (band (band (band (band (band (band jHouseWays0 jHouseWays1) jHouseWays2) jHouseWays3) jHouseWays4) jHouseWays5) jHouseWays6) jHouseWays7) jHouseWays8) jHouseWays9) jHouseWays10) jHouseWays11) jHouseWays12) jHouseWays13) jHouseWays14) jHouseWays15) jHouseWays16) jHouseWays17) jHouseWays18) jHouseWays19) jHouseWays20) jHouseWays21) jHouseWays22) jHouseWays23) jHouseWays24) jHouseWays25) jHouseWays26) jHouseWays27) jHouseWays28) jHouseWays29) jHouseWays30) jHouseWays31)
theorem row_holdsHouseWays : Rows.HouseWaysSaid :=
  OpenClaim.holds_of_wide 5 Tryz.f5 rfl rfl rfl rfl rfl rfl rfl ⟨rfl, rfl, rfl, rfl, rfl⟩ rfl rfl rfl rfl rfl (by kernel_rfl) Tryz.func5 jfHouseWays
    (of_decide_eq_true (by kernel_rfl)) (by unfold Func.isWrapper; first | (rw [if_pos (by decide +kernel)]; kernel_rfl) | (rw [if_neg (by decide +kernel)]; exact ⟨rfl, rfl⟩))
    (fun os started H enc _ => liftedHouseWays os started H enc)
theorem houseWays_holds : Rows.HouseWaysCardSaid :=
  Claim7.holds_tied_plain_at .later [] [.data, .data, .data] true (true, "4e618f33cc17afbde1f6d9a014ad85e9fad687eaa96434e3d1147b07e51ddefd") false
    row_holdsHouseWays (fun _ h => by cases h) (by kernel_rfl) (fun _ h => by cases h) houseWays_row_tie rfl ⟨rfl, rfl⟩ (by kernel_rfl) rfl
    (fun f fn hf hfn => by
      obtain rfl : f = 5 := Option.some.inj ((show Tryz.prog.funcNamed "patrol/patrollaw03.HouseWays" = some 5 by kernel_rfl).symm.trans hf) |>.symm
      obtain rfl : fn = Tryz.f5 := (Option.some.inj (Tryz.func5.symm.trans hfn)).symm
      exact ⟨by kernel_rfl, fun j t ht => by
        have hm : t ∈ Tryz.f5.params.toList := by simpa using Array.mem_of_getElem? ht
        have hall : (Tryz.f5.params.toList.all fun u => !Tryz.prog.wantsStandIn u) = true := by kernel_rfl
        exact (show Tryz.prog.wantsStandIn t = false by simpa using List.all_eq_true.1 hall t hm)⟩)
    (by kernel_rfl)
#print axioms houseWays_holds
end Go.Proofs.YtfjnbekocdffbaaGreatDoor
