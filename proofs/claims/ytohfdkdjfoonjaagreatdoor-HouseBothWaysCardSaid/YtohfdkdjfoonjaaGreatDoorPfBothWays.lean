/-
  HouseBothWays: for all houses, rooms, times and lists the law returns true; conditions: none but that the listed package-level variables hold what the program's text lays.
-/
import Derived.Test.YtohfdkdjfoonjaaGreatDoorEvM15
import Derived.Test.YtohfdkdjfoonjaaGreatDoorOpI
import Derived.Test.YtohfdkdjfoonjaaGreatDoorSdH
import Derived.Test.YtohfdkdjfoonjaaGreatDoorBO
import Derived.Test.YtohfdkdjfoonjaaGreatDoorAE4
import Derived.Test.YtohfdkdjfoonjaaGreatDoorRows
import Derived.Test.YtohfdkdjfoonjaaGreatDoorTie
import Derived.Test.YtohfdkdjfoonjaaGreatDoorCards
import Derived.SevenTiedAt
import Derived.LaidMore
import Derived.ChangeMaps5
set_option linter.unusedSimpArgs false
set_option linter.unusedVariables false
namespace Go.Proofs.YtohfdkdjfoonjaaGreatDoor
open Go Go.RowKit Go.Aev Go.Proofs Go.ChangeShapes Go.WideShapes Go.ChangeMaps
set_option maxRecDepth 100000
theorem callsHouseBothWays {H : Type} {enc : TypeId × Value → H} (W : World) (hL : laidMet Tryz.prog laidZ W) {b0 : Nat} {v0 : Value} {d0 : DataW H} {p0 : List MemPlace} (hv0 : Value.okWide Tryz.prog W .any b0 26 v0) (h0 : DataW.Trod enc Tryz.prog W 0 (fun _ => true) true 26 v0 d0 p0) {b5 : Nat} {v5 : Value} {d5 : DataW H} {p5 : List MemPlace} (hv5 : Value.okWide Tryz.prog W .any b5 54 v5) (h5 : DataW.Trod enc Tryz.prog W 0 (fun _ => true) true 54 v5 d5 p5) (a : Int) (ta : Int) (b : Int) (tb : Int) :
    Calls Tryz.prog 17 #[v0, .int .i64 a, .int .i64 ta, .int .i64 b, .int .i64 tb, v5] W fun e w' => e = .returned (.bool true) ∧ Below W.heap.size W w' := by
  obtain ⟨σ, hr⟩ := HR.ofLaid hL seat.lt seat.max seat.self
  obtain ⟨cs0, rfl⟩ := okWide_agg Tryz.underlying26 hv0
  obtain ⟨σ0, S0, cw0, h, le0, hr0, a0, x0, r0⟩ := hr.argO House.opHs h0
  obtain ⟨w0_0, w0_1, w0_2, rfl, r0_0, r0_1, r0_2⟩ := r0
  replace x0 : VR σ0 (.agg #[w0_0, w0_1, w0_2]) (.agg cs0) := agg_vr x0
  obtain ⟨σ5, S5, cw5, l, le5, hr5, a5, x5, r5⟩ := hr0.argO House.opInts h5
  obtain ⟨w5, rfl, r5⟩ := r5
  replace x5 : VR σ5 w5 v5 := slice_vr Tryz.underlying54 hv5 x5
  replace r0_0 := r0_0.agree a5
  replace r0_1 := r0_1.agree a5
  replace r0_2 := r0_2.agree a5
  replace x0 := x0.mono le5
  obtain ⟨S', hrun, _⟩ := (by have h' := House.c17 h a ta b tb l (House.rooms_size r0_0) S5 w0_0 r0_0 w0_1 r0_1 w0_2 r0_2 w5 r5.flat; rw [House.r17_true] at h'; exact h')
  refine seat.law (args := #[.agg #[w0_0, w0_1, w0_2], .int .i64 a, .int .i64 ta, .int .i64 b, .int .i64 tb, w5]) hL hr5 ⟨rfl, fun i hi => ?_⟩ rfl hrun
  match i, hi with
  | 0, _ => exact x0
  | 1, _ => exact selfB_spec σ5 8 _ rfl
  | 2, _ => exact selfB_spec σ5 8 _ rfl
  | 3, _ => exact selfB_spec σ5 8 _ rfl
  | 4, _ => exact selfB_spec σ5 8 _ rfl
  | 5, _ => exact x5
theorem liftedHouseBothWays (os : Os) (started : os.Started) (H : Type) (enc : TypeId × Value → H) :
    ReturnsInHanded {} Tryz.checked os 17 .any (fun w args => (Rows.houseBothWaysSpec.pre enc Tryz.prog Tryz.f17 [] false w args ∧ laidMetH Tryz.prog laidZ w) ∧ sizedMet enc Tryz.prog Tryz.f17 (OpenSpec.ofChange Rows.houseBothWaysSpec) false w args)
      (Rows.houseBothWaysSpec.post enc Tryz.prog Tryz.f17 false true false false) := by
  refine law_lifted (C := Tryz.checked) (laid := laidZ) own started (by kernel_rfl) Tryz.func17 (by kernel_rfl) rfl laidOut (by kernel_rfl) (tb := 4) (by kernel_rfl) Tryz.underlying4 (fun ds hd => ?_)
    (ChangeSpec.witness_shaped (enc := enc) (C := Tryz.checked) (os := os) (X := fun w _ => laidMetH Tryz.prog laidZ w) false (World.doorLaid Tryz.prog 400 os) #[.agg #[.slice none 0 0, .slice none 0 0, .slice none 0 0], .int .i64 0, .int .i64 0, .int .i64 0, .int .i64 0, .slice none 0 0] 8 rfl (World.shaped_of_RefB (by kernel_rfl) (by kernel_rfl)) (by kernel_rfl) (by kernel_rfl) (by kernel_rfl) (door_met os _))
    (fun W base args ds p hval hA hlt hw hL => ?_)
  · rw [Tryz.params17] at hd
    match ds, hd with
    | [d0, d1, d2, d3, d4, d5], _ => rfl
  · rw [Tryz.params17] at hA hval
    obtain ⟨args⟩ := args
    obtain ⟨v0, as0, d0, ds0, p0, q0, rfl, rfl, rfl, h0, hA⟩ := trodAll_cons hA
    obtain ⟨v1, as1, d1, ds1, p1, q1, rfl, rfl, rfl, h1, hA⟩ := trodAll_cons hA
    obtain ⟨v2, as2, d2, ds2, p2, q2, rfl, rfl, rfl, h2, hA⟩ := trodAll_cons hA
    obtain ⟨v3, as3, d3, ds3, p3, q3, rfl, rfl, rfl, h3, hA⟩ := trodAll_cons hA
    obtain ⟨v4, as4, d4, ds4, p4, q4, rfl, rfl, rfl, h4, hA⟩ := trodAll_cons hA
    obtain ⟨v5, as5, d5, ds5, p5, q5, rfl, rfl, rfl, h5, hA⟩ := trodAll_cons hA
    obtain ⟨rfl, rfl, rfl⟩ := trodAll_nil hA
    obtain ⟨a, rfl, _, _, _⟩ := open_int Tryz.underlying3 (hval 1 3 v1 rfl rfl) h1
    obtain ⟨ta, rfl, _, _, _⟩ := open_int Tryz.underlying3 (hval 2 3 v2 rfl rfl) h2
    obtain ⟨b, rfl, _, _, _⟩ := open_int Tryz.underlying3 (hval 3 3 v3 rfl rfl) h3
    obtain ⟨tb, rfl, _, _, _⟩ := open_int Tryz.underlying3 (hval 4 3 v4 rfl rfl) h4
    exact callsHouseBothWays W hL (hval 0 26 v0 rfl rfl) h0 (hval 5 54 v5 rfl rfl) h5 a ta b tb
theorem jHouseBothWays0 : (Rows.houseBothWaysRow.wf (OpenSpec.ofChange Rows.houseBothWaysSpec)) = true := by kernel_rfl
theorem jHouseBothWays1 : (laidOutB Tryz.prog) = true := sh1
theorem jHouseBothWays2 : (mapsRowed Tryz.prog) = true := sh2
theorem jHouseBothWays3 : (Tryz.f17.params.all (Tryz.prog.readableRec ·)) = true := by kernel_rfl
theorem jHouseBothWays4 : (namedTie Tryz.prog Rows.houseBothWaysRow.named Rows.houseBothWaysSpec.vars) = true := by kernel_rfl
theorem jHouseBothWays5 : ((Rows.houseBothWaysRow.stops == [])) = true := by kernel_rfl
theorem jHouseBothWays6 : ((Tryz.prog.stops == [])) = true := sh6
theorem jHouseBothWays7 : ((Rows.houseBothWaysRow.knobs == [])) = true := by kernel_rfl
theorem jHouseBothWays8 : ((Tryz.prog.stopKnobs == [])) = true := sh8
theorem jHouseBothWays9 : ((Rows.houseBothWaysRow.inPlace == Tryz.prog.inPlace 17)) = true := by kernel_rfl
theorem jHouseBothWays10 : ((Rows.houseBothWaysRow.unfollowed == Tryz.prog.unfollowed 17)) = true := by kernel_rfl
theorem jHouseBothWays11 : ((Rows.houseBothWaysRow.recurses == Tryz.prog.recurses 17)) = true := by kernel_rfl
theorem jHouseBothWays12 : ((Rows.houseBothWaysRow.named == Tryz.prog.varsNamed 17)) = true := by kernel_rfl
theorem jHouseBothWays13 : ((Rows.houseBothWaysRow.maps == (Tryz.f17.params.toList ++ Rows.houseBothWaysSpec.plain.varTypes Tryz.prog).any (Tryz.prog.mapsRec ·))) = true := by kernel_rfl
theorem jHouseBothWays14 : ((Rows.houseBothWaysRow.ifaces == (Tryz.f17.params.toList ++ Rows.houseBothWaysSpec.plain.varTypes Tryz.prog).any (Tryz.prog.ifacesRec ·))) = true := by kernel_rfl
theorem jHouseBothWays15 : ((Rows.houseBothWaysRow.mapsOut == Tryz.prog.mapsAmong Tryz.f17.resultTypes.toList)) = true := by kernel_rfl
theorem jHouseBothWays16 : ((Rows.houseBothWaysRow.loops == (Tryz.f17.params.toList ++ Rows.houseBothWaysSpec.plain.varTypes Tryz.prog).any (Tryz.prog.loopsFrom ·))) = true := by kernel_rfl
theorem jHouseBothWays17 : ((Rows.houseBothWaysRow.wideKeys == (Tryz.f17.params.toList ++ Rows.houseBothWaysSpec.plain.varTypes Tryz.prog ++ Tryz.f17.resultTypes.toList).any (Tryz.prog.wideKeysFrom ·))) = true := by kernel_rfl
theorem jHouseBothWays18 : (Rows.houseBothWaysSpec.vars.all (Tryz.prog.varReadable ·)) = true := by kernel_rfl
theorem jHouseBothWays19 : (Tryz.f17.resultTypes.all (fun t => Tryz.prog.readableRec t && decide (t < Tryz.prog.types.size))) = true := by kernel_rfl
theorem jHouseBothWays20 : ((Rows.houseBothWaysRow.ifacesOut == Tryz.f17.resultTypes.toList.any (Tryz.prog.ifacesRec ·))) = true := by kernel_rfl
theorem jHouseBothWays21 : ((Rows.houseBothWaysRow.loopsOut == Tryz.f17.resultTypes.toList.any (Tryz.prog.loopsFrom ·))) = true := by kernel_rfl
theorem jHouseBothWays22 : ((Rows.houseBothWaysRow.plainKeys == Tryz.prog.plainKeys)) = true := sh22
theorem jHouseBothWays23 : (Rows.houseBothWaysRow.shortTexts.isNone) = true := by kernel_rfl
theorem jHouseBothWays24 : (Tryz.prog.stopsHeard) = true := sh24
theorem jHouseBothWays25 : (Tryz.prog.mayEnter) = true := sh25
theorem jHouseBothWays26 : ((Rows.houseBothWaysRow.lifted == Tryz.prog.liftsFinal)) = true := sh26
theorem jHouseBothWays27 : ((Tryz.prog.make == some Rows.houseBothWaysRow.make)) = true := sh27
theorem jHouseBothWays28 : ((Rows.houseBothWaysRow.kinds == (if Rows.houseBothWaysRow.domain.isEmpty then [] else Tryz.f17.params.toList.map fun t => match Tryz.prog.underlying t with | some (.int k) => some k | _ => none))) = true := by kernel_rfl
theorem jHouseBothWays29 : ((Rows.houseBothWaysRow.pinned == Rows.houseBothWaysRow.pinnedBy)) = true := sh29
theorem jHouseBothWays30 : ((Rows.houseBothWaysRow.veiled == (Tryz.f17.params.toList ++ Rows.houseBothWaysSpec.plain.varTypes Tryz.prog ++ Tryz.f17.resultTypes.toList).any (Tryz.prog.veiledRec ·))) = true := by kernel_rfl
theorem jHouseBothWays31 : (Rows.houseBothWaysRow.veiledFits Tryz.prog Tryz.f17.params.toList (Tryz.f17.params.toList ++ Rows.houseBothWaysSpec.plain.varTypes Tryz.prog ++ Tryz.f17.resultTypes.toList)) = true := by kernel_rfl
theorem jfHouseBothWays : joinedFacts Tryz.prog 17 Tryz.f17 Rows.houseBothWaysSpec Rows.houseBothWaysRow = true := (band (band (band (band (band (band (band (band (band (band (band (band (band (band (band (band (band (band (band (band (band (band (band (band (band (band (band (band (band (band (band jHouseBothWays0 jHouseBothWays1) jHouseBothWays2) jHouseBothWays3) jHouseBothWays4) jHouseBothWays5) jHouseBothWays6) jHouseBothWays7) jHouseBothWays8) jHouseBothWays9) jHouseBothWays10) jHouseBothWays11) jHouseBothWays12) jHouseBothWays13) jHouseBothWays14) jHouseBothWays15) jHouseBothWays16) jHouseBothWays17) jHouseBothWays18) jHouseBothWays19) jHouseBothWays20) jHouseBothWays21) jHouseBothWays22) jHouseBothWays23) jHouseBothWays24) jHouseBothWays25) jHouseBothWays26) jHouseBothWays27) jHouseBothWays28) jHouseBothWays29) jHouseBothWays30) jHouseBothWays31)
theorem row_holdsHouseBothWays : Rows.HouseBothWaysSaid :=
  OpenClaim.holds_of_wide 17 Tryz.f17 rfl rfl rfl rfl rfl rfl rfl ⟨rfl, rfl, rfl, rfl, rfl⟩ rfl rfl rfl rfl rfl (by kernel_rfl) Tryz.func17 jfHouseBothWays
    (of_decide_eq_true (by kernel_rfl)) (by unfold Func.isWrapper; first | (rw [if_pos (by decide +kernel)]; kernel_rfl) | (rw [if_neg (by decide +kernel)]; exact ⟨rfl, rfl⟩))
    (fun os started H enc _ => liftedHouseBothWays os started H enc)
theorem houseBothWays_holds : Rows.HouseBothWaysCardSaid :=
  Claim7.holds_tied_plain_at .later [] [.data, .data, .data] true (true, "4e618f33cc17afbde1f6d9a014ad85e9fad687eaa96434e3d1147b07e51ddefd") false
    row_holdsHouseBothWays (fun _ h => by cases h) (by kernel_rfl) (fun _ h => by cases h) houseBothWays_row_tie rfl ⟨rfl, rfl⟩ (by kernel_rfl) rfl
    (fun f fn hf hfn => by
      obtain rfl : f = 17 := Option.some.inj ((show Tryz.prog.funcNamed "patrol/patrollaw03.HouseBothWays" = some 17 by kernel_rfl).symm.trans hf) |>.symm
      obtain rfl : fn = Tryz.f17 := (Option.some.inj (Tryz.func17.symm.trans hfn)).symm
      exact ⟨by kernel_rfl, fun j t ht => by
        have hm : t ∈ Tryz.f17.params.toList := by simpa using Array.mem_of_getElem? ht
        have hall : (Tryz.f17.params.toList.all fun u => !Tryz.prog.wantsStandIn u) = true := by kernel_rfl
        exact (show Tryz.prog.wantsStandIn t = false by simpa using List.all_eq_true.1 hall t hm)⟩)
    (by kernel_rfl)
#print axioms houseBothWays_holds
end Go.Proofs.YtohfdkdjfoonjaaGreatDoor
