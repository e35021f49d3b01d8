/-
  HouseClosing: for all houses, doors, spans, rooms, times and walls the law returns true; conditions: none but that the listed package-level variables hold what the program's text lays.
-/
import Derived.Test.YtohfdkdjfoonjaaGreatDoorBAG
import Derived.Test.YtohfdkdjfoonjaaGreatDoorOpI
import Derived.Test.YtohfdkdjfoonjaaGreatDoorSdH
import Derived.Test.YtohfdkdjfoonjaaGreatDoorBO
import Derived.Test.YtohfdkdjfoonjaaGreatDoorAE4
import Derived.Test.YtohfdkdjfoonjaaGreatDoorRows
import Derived.Test.YtohfdkdjfoonjaaGreatDoorTie
import Derived.Test.YtohfdkdjfoonjaaGreatDoorCards
import Derived.SevenTiedAt
import Derived.LaidMore
import Derived.ChangeMaps5
set_option linter.unusedSimpArgs false
set_option linter.unusedVariables false
namespace Go.Proofs.YtohfdkdjfoonjaaGreatDoor
open Go Go.RowKit Go.Aev Go.Proofs Go.ChangeShapes Go.WideShapes Go.ChangeMaps
set_option maxRecDepth 100000
theorem callsHouseClosing {H : Type} {enc : TypeId × Value → H} (W : World) (hL : laidMet Tryz.prog laidZ W) {b0 : Nat} {v0 : Value} {d0 : DataW H} {p0 : List MemPlace} (hv0 : Value.okWide Tryz.prog W .any b0 26 v0) (h0 : DataW.Trod enc Tryz.prog W 0 (fun _ => true) true 26 v0 d0 p0) {b8 : Nat} {v8 : Value} {d8 : DataW H} {p8 : List MemPlace} (hv8 : Value.okWide Tryz.prog W .any b8 54 v8) (h8 : DataW.Trod enc Tryz.prog W 0 (fun _ => true) true 54 v8 d8 p8) (door : Int) (slo shi : Int) (a : Int) (ta : Int) (b : Int) (tb : Int) (tc : Int) :
    Calls Tryz.prog 18 #[v0, .int .i64 door, .agg #[.int .i64 slo, .int .i64 shi], .int .i64 a, .int .i64 ta, .int .i64 b, .int .i64 tb, .int .i64 tc, v8] W fun e w' => e = .returned (.bool true) ∧ Below W.heap.size W w' := by
  obtain ⟨σ, hr⟩ := HR.ofLaid hL seat.lt seat.max seat.self
  obtain ⟨cs0, rfl⟩ := okWide_agg Tryz.underlying26 hv0
  obtain ⟨σ0, S0, cw0, h, le0, hr0, a0, x0, r0⟩ := hr.argO House.opHs h0
  obtain ⟨w0_0, w0_1, w0_2, rfl, r0_0, r0_1, r0_2⟩ := r0
  replace x0 : VR σ0 (.agg #[w0_0, w0_1, w0_2]) (.agg cs0) := agg_vr x0
  obtain ⟨σ8, S8, cw8, l, le8, hr8, a8, x8, r8⟩ := hr0.argO House.opInts h8
  obtain ⟨w8, rfl, r8⟩ := r8
  replace x8 : VR σ8 w8 v8 := slice_vr Tryz.underlying54 hv8 x8
  replace r0_0 := r0_0.agree a8
  replace r0_1 := r0_1.agree a8
  replace r0_2 := r0_2.agree a8
  replace x0 := x0.mono le8
  obtain ⟨S', hrun, _⟩ := (by have h' := House.c18 h door slo shi a ta b tb tc l (House.rooms_size r0_0) S8 w0_0 r0_0 w0_1 r0_1 w0_2 r0_2 w8 r8.flat; rw [House.r18_true] at h'; exact h')
  refine seat.law (args := #[.agg #[w0_0, w0_1, w0_2], .int .i64 door, .agg #[.int .i64 slo, .int .i64 shi], .int .i64 a, .int .i64 ta, .int .i64 b, .int .i64 tb, .int .i64 tc, w8]) hL hr8 ⟨rfl, fun i hi => ?_⟩ rfl hrun
  match i, hi with
  | 0, _ => exact x0
  | 1, _ => exact selfB_spec σ8 8 _ rfl
  | 2, _ => exact selfB_spec σ8 8 _ rfl
  | 3, _ => exact selfB_spec σ8 8 _ rfl
  | 4, _ => exact selfB_spec σ8 8 _ rfl
  | 5, _ => exact selfB_spec σ8 8 _ rfl
  | 6, _ => exact selfB_spec σ8 8 _ rfl
  | 7, _ => exact selfB_spec σ8 8 _ rfl
  | 8, _ => exact x8
theorem liftedHouseClosing (os : Os) (started : os.Started) (H : Type) (enc : TypeId × Value → H) :
    ReturnsInHanded {} Tryz.checked os 18 .any (fun w args => (Rows.houseClosingSpec.pre enc Tryz.prog Tryz.f18 [] false w args ∧ laidMetH Tryz.prog laidZ w) ∧ sizedMet enc Tryz.prog Tryz.f18 (OpenSpec.ofChange Rows.houseClosingSpec) false w args)
      (Rows.houseClosingSpec.post enc Tryz.prog Tryz.f18 false true false false) := by
  refine law_lifted (C := Tryz.checked) (laid := laidZ) own started (by kernel_rfl) Tryz.func18 (by kernel_rfl) rfl laidOut (by kernel_rfl) (tb := 4) (by kernel_rfl) Tryz.underlying4 (fun ds hd => ?_)
    (ChangeSpec.witness_shaped (enc := enc) (C := Tryz.checked) (os := os) (X := fun w _ => laidMetH Tryz.prog laidZ w) false (World.doorLaid Tryz.prog 400 os) #[.agg #[.slice none 0 0, .slice none 0 0, .slice none 0 0], .int .i64 0, .agg #[.int .i64 0, .int .i64 0], .int .i64 0, .int .i64 0, .int .i64 0, .int .i64 0, .int .i64 0, .slice none 0 0] 8 rfl (World.shaped_of_RefB (by kernel_rfl) (by kernel_rfl)) (by kernel_rfl) (by kernel_rfl) (by kernel_rfl) (door_met os _))
    (fun W base args ds p hval hA hlt hw hL => ?_)
  · rw [Tryz.params18] at hd
    match ds, hd with
    | [d0, d1, d2, d3, d4, d5, d6, d7, d8], _ => rfl
  · rw [Tryz.params18] at hA hval
    obtain ⟨args⟩ := args
    obtain ⟨v0, as0, d0, ds0, p0, q0, rfl, rfl, rfl, h0, hA⟩ := trodAll_cons hA
    obtain ⟨v1, as1, d1, ds1, p1, q1, rfl, rfl, rfl, h1, hA⟩ := trodAll_cons hA
    obtain ⟨v2, as2, d2, ds2, p2, q2, rfl, rfl, rfl, h2, hA⟩ := trodAll_cons hA
    obtain ⟨v3, as3, d3, ds3, p3, q3, rfl, rfl, rfl, h3, hA⟩ := trodAll_cons hA
    obtain ⟨v4, as4, d4, ds4, p4, q4, rfl, rfl, rfl, h4, hA⟩ := trodAll_cons hA
    obtain ⟨v5, as5, d5, ds5, p5, q5, rfl, rfl, rfl, h5, hA⟩ := trodAll_cons hA
    obtain ⟨v6, as6, d6, ds6, p6, q6, rfl, rfl, rfl, h6, hA⟩ := trodAll_cons hA
    obtain ⟨v7, as7, d7, ds7, p7, q7, rfl, rfl, rfl, h7, hA⟩ := trodAll_cons hA
    obtain ⟨v8, as8, d8, ds8, p8, q8, rfl, rfl, rfl, h8, hA⟩ := trodAll_cons hA
    obtain ⟨rfl, rfl, rfl⟩ := trodAll_nil hA
    obtain ⟨door, rfl, _, _, _⟩ := open_int Tryz.underlying3 (hval 1 3 v1 rfl rfl) h1
    obtain ⟨ns2, ⟨l2, _⟩, rfl⟩ := open_kinds (n := 4) (ks := [.i64, .i64]) (by kernel_rfl) Tryz.underlying36 (hval 2 36 v2 rfl rfl) h2
    obtain ⟨a, rfl, _, _, _⟩ := open_int Tryz.underlying3 (hval 3 3 v3 rfl rfl) h3
    obtain ⟨ta, rfl, _, _, _⟩ := open_int Tryz.underlying3 (hval 4 3 v4 rfl rfl) h4
    obtain ⟨b, rfl, _, _, _⟩ := open_int Tryz.underlying3 (hval 5 3 v5 rfl rfl) h5
    obtain ⟨tb, rfl, _, _, _⟩ := open_int Tryz.underlying3 (hval 6 3 v6 rfl rfl) h6
    obtain ⟨tc, rfl, _, _, _⟩ := open_int Tryz.underlying3 (hval 7 3 v7 rfl rfl) h7
    match ns2, l2 with
    | [slo, shi], _ => exact callsHouseClosing W hL (hval 0 26 v0 rfl rfl) h0 (hval 8 54 v8 rfl rfl) h8 door slo shi a ta b tb tc
theorem jHouseClosing0 : (Rows.houseClosingRow.wf (OpenSpec.ofChange Rows.houseClosingSpec)) = true := by kernel_rfl
theorem jHouseClosing1 : (laidOutB Tryz.prog) = true := sh1
theorem jHouseClosing2 : (mapsRowed Tryz.prog) = true := sh2
theorem jHouseClosing3 : (Tryz.f18.params.all (Tryz.prog.readableRec ·)) = true := by kernel_rfl
theorem jHouseClosing4 : (namedTie Tryz.prog Rows.houseClosingRow.named Rows.houseClosingSpec.vars) = true := by kernel_rfl
theorem jHouseClosing5 : ((Rows.houseClosingRow.stops == [])) = true := by kernel_rfl
theorem jHouseClosing6 : ((Tryz.prog.stops == [])) = true := sh6
theorem jHouseClosing7 : ((Rows.houseClosingRow.knobs == [])) = true := by kernel_rfl
theorem jHouseClosing8 : ((Tryz.prog.stopKnobs == [])) = true := sh8
theorem jHouseClosing9 : ((Rows.houseClosingRow.inPlace == Tryz.prog.inPlace 18)) = true := by kernel_rfl
theorem jHouseClosing10 : ((Rows.houseClosingRow.unfollowed == Tryz.prog.unfollowed 18)) = true := by kernel_rfl
theorem jHouseClosing11 : ((Rows.houseClosingRow.recurses == Tryz.prog.recurses 18)) = true := by kernel_rfl
theorem jHouseClosing12 : ((Rows.houseClosingRow.named == Tryz.prog.varsNamed 18)) = true := by kernel_rfl
theorem jHouseClosing13 : ((Rows.houseClosingRow.maps == (Tryz.f18.params.toList ++ Rows.houseClosingSpec.plain.varTypes Tryz.prog).any (Tryz.prog.mapsRec ·))) = true := by kernel_rfl
theorem jHouseClosing14 : ((Rows.houseClosingRow.ifaces == (Tryz.f18.params.toList ++ Rows.houseClosingSpec.plain.varTypes Tryz.prog).any (Tryz.prog.ifacesRec ·))) = true := by kernel_rfl
theorem jHouseClosing15 : ((Rows.houseClosingRow.mapsOut == Tryz.prog.mapsAmong Tryz.f18.resultTypes.toList)) = true := by kernel_rfl
theorem jHouseClosing16 : ((Rows.houseClosingRow.loops == (Tryz.f18.params.toList ++ Rows.houseClosingSpec.plain.varTypes Tryz.prog).any (Tryz.prog.loopsFrom ·))) = true := by kernel_rfl
theorem jHouseClosing17 : ((Rows.houseClosingRow.wideKeys == (Tryz.f18.params.toList ++ Rows.houseClosingSpec.plain.varTypes Tryz.prog ++ Tryz.f18.resultTypes.toList).any (Tryz.prog.wideKeysFrom ·))) = true := by kernel_rfl
theorem jHouseClosing18 : (Rows.houseClosingSpec.vars.all (Tryz.prog.varReadable ·)) = true := by kernel_rfl
theorem jHouseClosing19 : (Tryz.f18.resultTypes.all (fun t => Tryz.prog.readableRec t && decide (t < Tryz.prog.types.size))) = true := by kernel_rfl
theorem jHouseClosing20 : ((Rows.houseClosingRow.ifacesOut == Tryz.f18.resultTypes.toList.any (Tryz.prog.ifacesRec ·))) = true := by kernel_rfl
theorem jHouseClosing21 : ((Rows.houseClosingRow.loopsOut == Tryz.f18.resultTypes.toList.any (Tryz.prog.loopsFrom ·))) = true := by kernel_rfl
theorem jHouseClosing22 : ((Rows.houseClosingRow.plainKeys == Tryz.prog.plainKeys)) = true := sh22
theorem jHouseClosing23 : (Rows.houseClosingRow.shortTexts.isNone) = true := by kernel_rfl
theorem jHouseClosing24 : (Tryz.prog.stopsHeard) = true := sh24
theorem jHouseClosing25 : (Tryz.prog.mayEnter) = true := sh25
theorem jHouseClosing26 : ((Rows.houseClosingRow.lifted == Tryz.prog.liftsFinal)) = true := sh26
theorem jHouseClosing27 : ((Tryz.prog.make == some Rows.houseClosingRow.make)) = true := sh27
theorem jHouseClosing28 : ((Rows.houseClosingRow.kinds == (if Rows.houseClosingRow.domain.isEmpty then [] else Tryz.f18.params.toList.map fun t => match Tryz.prog.underlying t with | some (.int k) => some k | _ => none))) = true := by kernel_rfl
theorem jHouseClosing29 : ((Rows.houseClosingRow.pinned == Rows.houseClosingRow.pinnedBy)) = true := sh29
theorem jHouseClosing30 : ((Rows.houseClosingRow.veiled == (Tryz.f18.params.toList ++ Rows.houseClosingSpec.plain.varTypes Tryz.prog ++ Tryz.f18.resultTypes.toList).any (Tryz.prog.veiledRec ·))) = true := by kernel_rfl
theorem jHouseClosing31 : (Rows.houseClosingRow.veiledFits Tryz.prog Tryz.f18.params.toList (Tryz.f18.params.toList ++ Rows.houseClosingSpec.plain.varTypes Tryz.prog ++ Tryz.f18.resultTypes.toList)) = true := by kernel_rfl
theorem jfHouseClosing : joinedFacts Tryz.prog 18 Tryz.f18 Rows.houseClosingSpec Rows.houseClosingRow = true := (band (band (band (band (band (band (band (band (band (band (band (band (band (band (band (band (band (band (band (band (band (band (band (band (band (band (band (band (band (band (band jHouseClosing0 jHouseClosing1) jHouseClosing2) jHouseClosing3) jHouseClosing4) jHouseClosing5) jHouseClosing6) jHouseClosing7) jHouseClosing8) jHouseClosing9) jHouseClosing10) jHouseClosing11) jHouseClosing12) jHouseClosing13) jHouseClosing14) jHouseClosing15) jHouseClosing16) jHouseClosing17) jHouseClosing18) jHouseClosing19) jHouseClosing20) jHouseClosing21) jHouseClosing22) jHouseClosing23) jHouseClosing24) jHouseClosing25) jHouseClosing26) jHouseClosing27) jHouseClosing28) jHouseClosing29) jHouseClosing30) jHouseClosing31)
theorem row_holdsHouseClosing : Rows.HouseClosingSaid :=
  OpenClaim.holds_of_wide 18 Tryz.f18 rfl rfl rfl rfl rfl rfl rfl ⟨rfl, rfl, rfl, rfl, rfl⟩ rfl rfl rfl rfl rfl (by kernel_rfl) Tryz.func18 jfHouseClosing
    (of_decide_eq_true (by kernel_rfl)) (by unfold Func.isWrapper; first | (rw [if_pos (by decide +kernel)]; kernel_rfl) | (rw [if_neg (by decide +kernel)]; exact ⟨rfl, rfl⟩))
    (fun os started H enc _ => liftedHouseClosing os started H enc)
theorem houseClosing_holds : Rows.HouseClosingCardSaid :=
  Claim7.holds_tied_plain_at .later [] [.data, .data, .data] true (true, "4e618f33cc17afbde1f6d9a014ad85e9fad687eaa96434e3d1147b07e51ddefd") false
    row_holdsHouseClosing (fun _ h => by cases h) (by kernel_rfl) (fun _ h => by cases h) houseClosing_row_tie rfl ⟨rfl, rfl⟩ (by kernel_rfl) rfl
    (fun f fn hf hfn => by
      obtain rfl : f = 18 := Option.some.inj ((show Tryz.prog.funcNamed "patrol/patrollaw03.HouseClosing" = some 18 by kernel_rfl).symm.trans hf) |>.symm
      obtain rfl : fn = Tryz.f18 := (Option.some.inj (Tryz.func18.symm.trans hfn)).symm
      exact ⟨by kernel_rfl, fun j t ht => by
        have hm : t ∈ Tryz.f18.params.toList := by simpa using Array.mem_of_getElem? ht
        have hall : (Tryz.f18.params.toList.all fun u => !Tryz.prog.wantsStandIn u) = true := by kernel_rfl
        exact (show Tryz.prog.wantsStandIn t = false by simpa using List.all_eq_true.1 hall t hm)⟩)
    (by kernel_rfl)
#print axioms houseClosing_holds
end Go.Proofs.YtohfdkdjfoonjaaGreatDoor
