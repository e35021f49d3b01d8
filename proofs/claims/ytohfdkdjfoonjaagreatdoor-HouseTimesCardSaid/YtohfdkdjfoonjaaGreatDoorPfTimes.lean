/-
  HouseTimes: for all houses, rooms and times the law returns true; conditions: none but that the listed package-level variables hold what the program's text lays.
-/
import Derived.Test.YtohfdkdjfoonjaaGreatDoorBV
import Derived.Test.YtohfdkdjfoonjaaGreatDoorSdH
import Derived.Test.YtohfdkdjfoonjaaGreatDoorBO
import Derived.Test.YtohfdkdjfoonjaaGreatDoorAE4
import Derived.Test.YtohfdkdjfoonjaaGreatDoorRows
import Derived.Test.YtohfdkdjfoonjaaGreatDoorTie
import Derived.Test.YtohfdkdjfoonjaaGreatDoorCards
import Derived.SevenTiedAt
import Derived.LaidMore
import Derived.ChangeMaps5
set_option linter.unusedSimpArgs false
set_option linter.unusedVariables false
namespace Go.Proofs.YtohfdkdjfoonjaaGreatDoor
open Go Go.RowKit Go.Aev Go.Proofs Go.ChangeShapes Go.WideShapes Go.ChangeMaps
set_option maxRecDepth 100000
theorem callsHouseTimes {H : Type} {enc : TypeId × Value → H} (W : World) (hL : laidMet Tryz.prog laidZ W) {b0 : Nat} {v0 : Value} {d0 : DataW H} {p0 : List MemPlace} (hv0 : Value.okWide Tryz.prog W .any b0 26 v0) (h0 : DataW.Trod enc Tryz.prog W 0 (fun _ => true) true 26 v0 d0 p0) (a : Int) (ta : Int) (b : Int) (tb : Int) :
    Calls Tryz.prog 7 #[v0, .int .i64 a, .int .i64 ta, .int .i64 b, .int .i64 tb] W fun e w' => e = .returned (.bool true) ∧ Below W.heap.size W w' := by
  obtain ⟨σ, hr⟩ := HR.ofLaid hL seat.lt seat.max seat.self
  obtain ⟨cs0, rfl⟩ := okWide_agg Tryz.underlying26 hv0
  obtain ⟨σ0, S0, cw0, h, le0, hr0, a0, x0, r0⟩ := hr.argO House.opHs h0
  obtain ⟨w0_0, w0_1, w0_2, rfl, r0_0, r0_1, r0_2⟩ := r0
  replace x0 : VR σ0 (.agg #[w0_0, w0_1, w0_2]) (.agg cs0) := agg_vr x0
  obtain ⟨S', hrun, _⟩ := (by have h' := House.c7 h a ta b tb (House.rooms_size r0_0) S0 w0_0 r0_0 w0_1 r0_1 w0_2 r0_2; rw [House.r7_true] at h'; exact h')
  refine seat.law (args := #[.agg #[w0_0, w0_1, w0_2], .int .i64 a, .int .i64 ta, .int .i64 b, .int .i64 tb]) hL hr0 ⟨rfl, fun i hi => ?_⟩ rfl hrun
  match i, hi with
  | 0, _ => exact x0
  | 1, _ => exact selfB_spec σ0 8 _ rfl
  | 2, _ => exact selfB_spec σ0 8 _ rfl
  | 3, _ => exact selfB_spec σ0 8 _ rfl
  | 4, _ => exact selfB_spec σ0 8 _ rfl
theorem liftedHouseTimes (os : Os) (started : os.Started) (H : Type) (enc : TypeId × Value → H) :
    ReturnsInHanded {} Tryz.checked os 7 .any (fun w args => (Rows.houseTimesSpec.pre enc Tryz.prog Tryz.f7 [] false w args ∧ laidMetH Tryz.prog laidZ w) ∧ sizedMet enc Tryz.prog Tryz.f7 (OpenSpec.ofChange Rows.houseTimesSpec) false w args)
      (Rows.houseTimesSpec.post enc Tryz.prog Tryz.f7 false true false false) := by
  refine law_lifted (C := Tryz.checked) (laid := laidZ) own started (by kernel_rfl) Tryz.func7 (by kernel_rfl) rfl laidOut (by kernel_rfl) (tb := 4) (by kernel_rfl) Tryz.underlying4 (fun ds hd => ?_)
    (ChangeSpec.witness_shaped (enc := enc) (C := Tryz.checked) (os := os) (X := fun w _ => laidMetH Tryz.prog laidZ w) false (World.doorLaid Tryz.prog 400 os) #[.agg #[.slice none 0 0, .slice none 0 0, .slice none 0 0], .int .i64 0, .int .i64 0, .int .i64 0, .int .i64 0] 8 rfl (World.shaped_of_RefB (by kernel_rfl) (by kernel_rfl)) (by kernel_rfl) (by kernel_rfl) (by kernel_rfl) (door_met os _))
    (fun W base args ds p hval hA hlt hw hL => ?_)
  · rw [Tryz.params7] at hd
    match ds, hd with
    | [d0, d1, d2, d3, d4], _ => rfl
  · rw [Tryz.params7] at hA hval
    obtain ⟨args⟩ := args
    obtain ⟨v0, as0, d0, ds0, p0, q0, rfl, rfl, rfl, h0, hA⟩ := trodAll_cons hA
    obtain ⟨v1, as1, d1, ds1, p1, q1, rfl, rfl, rfl, h1, hA⟩ := trodAll_cons hA
    obtain ⟨v2, as2, d2, ds2, p2, q2, rfl, rfl, rfl, h2, hA⟩ := trodAll_cons hA
    obtain ⟨v3, as3, d3, ds3, p3, q3, rfl, rfl, rfl, h3, hA⟩ := trodAll_cons hA
    obtain ⟨v4, as4, d4, ds4, p4, q4, rfl, rfl, rfl, h4, hA⟩ := trodAll_cons hA
    obtain ⟨rfl, rfl, rfl⟩ := trodAll_nil hA
    obtain ⟨a, rfl, _, _, _⟩ := open_int Tryz.underlying3 (hval 1 3 v1 rfl rfl) h1
    obtain ⟨ta, rfl, _, _, _⟩ := open_int Tryz.underlying3 (hval 2 3 v2 rfl rfl) h2
    obtain ⟨b, rfl, _, _, _⟩ := open_int Tryz.underlying3 (hval 3 3 v3 rfl rfl) h3
    obtain ⟨tb, rfl, _, _, _⟩ := open_int Tryz.underlying3 (hval 4 3 v4 rfl rfl) h4
    exact callsHouseTimes W hL (hval 0 26 v0 rfl rfl) h0 a ta b tb
theorem jHouseTimes0 : (Rows.houseTimesRow.wf (OpenSpec.ofChange Rows.houseTimesSpec)) = true := by kernel_rfl
theorem jHouseTimes1 : (laidOutB Tryz.prog) = true := sh1
theorem jHouseTimes2 : (mapsRowed Tryz.prog) = true := sh2
theorem jHouseTimes3 : (Tryz.f7.params.all (Tryz.prog.readableRec ·)) = true := by kernel_rfl
theorem jHouseTimes4 : (namedTie Tryz.prog Rows.houseTimesRow.named Rows.houseTimesSpec.vars) = true := by kernel_rfl
theorem jHouseTimes5 : ((Rows.houseTimesRow.stops == [])) = true := by kernel_rfl
theorem jHouseTimes6 : ((Tryz.prog.stops == [])) = true := sh6
theorem jHouseTimes7 : ((Rows.houseTimesRow.knobs == [])) = true := by kernel_rfl
theorem jHouseTimes8 : ((Tryz.prog.stopKnobs == [])) = true := sh8
theorem jHouseTimes9 : ((Rows.houseTimesRow.inPlace == Tryz.prog.inPlace 7)) = true := by kernel_rfl
theorem jHouseTimes10 : ((Rows.houseTimesRow.unfollowed == Tryz.prog.unfollowed 7)) = true := by kernel_rfl
theorem jHouseTimes11 : ((Rows.houseTimesRow.recurses == Tryz.prog.recurses 7)) = true := by kernel_rfl
theorem jHouseTimes12 : ((Rows.houseTimesRow.named == Tryz.prog.varsNamed 7)) = true := by kernel_rfl
theorem jHouseTimes13 : ((Rows.houseTimesRow.maps == (Tryz.f7.params.toList ++ Rows.houseTimesSpec.plain.varTypes Tryz.prog).any (Tryz.prog.mapsRec ·))) = true := by kernel_rfl
theorem jHouseTimes14 : ((Rows.houseTimesRow.ifaces == (Tryz.f7.params.toList ++ Rows.houseTimesSpec.plain.varTypes Tryz.prog).any (Tryz.prog.ifacesRec ·))) = true := by kernel_rfl
theorem jHouseTimes15 : ((Rows.houseTimesRow.mapsOut == Tryz.prog.mapsAmong Tryz.f7.resultTypes.toList)) = true := by kernel_rfl
theorem jHouseTimes16 : ((Rows.houseTimesRow.loops == (Tryz.f7.params.toList ++ Rows.houseTimesSpec.plain.varTypes Tryz.prog).any (Tryz.prog.loopsFrom ·))) = true := by kernel_rfl
theorem jHouseTimes17 : ((Rows.houseTimesRow.wideKeys == (Tryz.f7.params.toList ++ Rows.houseTimesSpec.plain.varTypes Tryz.prog ++ Tryz.f7.resultTypes.toList).any (Tryz.prog.wideKeysFrom ·))) = true := by kernel_rfl
theorem jHouseTimes18 : (Rows.houseTimesSpec.vars.all (Tryz.prog.varReadable ·)) = true := by kernel_rfl
theorem jHouseTimes19 : (Tryz.f7.resultTypes.all (fun t => Tryz.prog.readableRec t && decide (t < Tryz.prog.types.size))) = true := by kernel_rfl
theorem jHouseTimes20 : ((Rows.houseTimesRow.ifacesOut == Tryz.f7.resultTypes.toList.any (Tryz.prog.ifacesRec ·))) = true := by kernel_rfl
theorem jHouseTimes21 : ((Rows.houseTimesRow.loopsOut == Tryz.f7.resultTypes.toList.any (Tryz.prog.loopsFrom ·))) = true := by kernel_rfl
theorem jHouseTimes22 : ((Rows.houseTimesRow.plainKeys == Tryz.prog.plainKeys)) = true := sh22
theorem jHouseTimes23 : (Rows.houseTimesRow.shortTexts.isNone) = true := by kernel_rfl
theorem jHouseTimes24 : (Tryz.prog.stopsHeard) = true := sh24
theorem jHouseTimes25 : (Tryz.prog.mayEnter) = true := sh25
theorem jHouseTimes26 : ((Rows.houseTimesRow.lifted == Tryz.prog.liftsFinal)) = true := sh26
theorem jHouseTimes27 : ((Tryz.prog.make == some Rows.houseTimesRow.make)) = true := sh27
theorem jHouseTimes28 : ((Rows.houseTimesRow.kinds == (if Rows.houseTimesRow.domain.isEmpty then [] else Tryz.f7.params.toList.map fun t => match Tryz.prog.underlying t with | some (.int k) => some k | _ => none))) = true := by kernel_rfl
theorem jHouseTimes29 : ((Rows.houseTimesRow.pinned == Rows.houseTimesRow.pinnedBy)) = true := sh29
theorem jHouseTimes30 : ((Rows.houseTimesRow.veiled == (Tryz.f7.params.toList ++ Rows.houseTimesSpec.plain.varTypes Tryz.prog ++ Tryz.f7.resultTypes.toList).any (Tryz.prog.veiledRec ·))) = true := by kernel_rfl
theorem jHouseTimes31 : (Rows.houseTimesRow.veiledFits Tryz.prog Tryz.f7.params.toList (Tryz.f7.params.toList ++ Rows.houseTimesSpec.plain.varTypes Tryz.prog ++ Tryz.f7.resultTypes.toList)) = true := by kernel_rfl
theorem jfHouseTimes : joinedFacts Tryz.prog 7 Tryz.f7 Rows.houseTimesSpec Rows.houseTimesRow = true := (band (band (band (band (band (band (band (band (band (band (band (band (band (band (band (band (band (band (band (band (band (band (band (band (band (band (band (band (band (band (band jHouseTimes0 jHouseTimes1) jHouseTimes2) jHouseTimes3) jHouseTimes4) jHouseTimes5) jHouseTimes6) jHouseTimes7) jHouseTimes8) jHouseTimes9) jHouseTimes10) jHouseTimes11) jHouseTimes12) jHouseTimes13) jHouseTimes14) jHouseTimes15) jHouseTimes16) jHouseTimes17) jHouseTimes18) jHouseTimes19) jHouseTimes20) jHouseTimes21) jHouseTimes22) jHouseTimes23) jHouseTimes24) jHouseTimes25) jHouseTimes26) jHouseTimes27) jHouseTimes28) jHouseTimes29) jHouseTimes30) jHouseTimes31)
theorem row_holdsHouseTimes : Rows.HouseTimesSaid :=
  OpenClaim.holds_of_wide 7 Tryz.f7 rfl rfl rfl rfl rfl rfl rfl ⟨rfl, rfl, rfl, rfl, rfl⟩ rfl rfl rfl rfl rfl (by kernel_rfl) Tryz.func7 jfHouseTimes
    (of_decide_eq_true (by kernel_rfl)) (by unfold Func.isWrapper; first | (rw [if_pos (by decide +kernel)]; kernel_rfl) | (rw [if_neg (by decide +kernel)]; exact ⟨rfl, rfl⟩))
    (fun os started H enc _ => liftedHouseTimes os started H enc)
theorem houseTimes_holds : Rows.HouseTimesCardSaid :=
  Claim7.holds_tied_plain_at .later [] [.data, .data, .data] true (true, "4e618f33cc17afbde1f6d9a014ad85e9fad687eaa96434e3d1147b07e51ddefd") false
    row_holdsHouseTimes (fun _ h => by cases h) (by kernel_rfl) (fun _ h => by cases h) houseTimes_row_tie rfl ⟨rfl, rfl⟩ (by kernel_rfl) rfl
    (fun f fn hf hfn => by
      obtain rfl : f = 7 := Option.some.inj ((show Tryz.prog.funcNamed "patrol/patrollaw03.HouseTimes" = some 7 by kernel_rfl).symm.trans hf) |>.symm
      obtain rfl : fn = Tryz.f7 := (Option.some.inj (Tryz.func7.symm.trans hfn)).symm
      exact ⟨by kernel_rfl, fun j t ht => by
        have hm : t ∈ Tryz.f7.params.toList := by simpa using Array.mem_of_getElem? ht
        have hall : (Tryz.f7.params.toList.all fun u => !Tryz.prog.wantsStandIn u) = true := by kernel_rfl
        exact (show Tryz.prog.wantsStandIn t = false by simpa using List.all_eq_true.1 hall t hm)⟩)
    (by kernel_rfl)
#print axioms houseTimes_holds
end Go.Proofs.YtohfdkdjfoonjaaGreatDoor
