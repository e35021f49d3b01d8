/-
  HouseTours: for all houses, rooms, times and lists of rooms the law returns true; conditions: none but that the listed package-level variables hold what the program's text lays.
-/
import Derived.Test.YtohfdkdjfoonjaaGreatDoorEvM13
import Derived.Test.YtohfdkdjfoonjaaGreatDoorOpI
import Derived.Test.YtohfdkdjfoonjaaGreatDoorSdH
import Derived.Test.YtohfdkdjfoonjaaGreatDoorBO
import Derived.Test.YtohfdkdjfoonjaaGreatDoorAE4
import Derived.Test.YtohfdkdjfoonjaaGreatDoorRows
import Derived.Test.YtohfdkdjfoonjaaGreatDoorTie
import Derived.Test.YtohfdkdjfoonjaaGreatDoorCards
import Derived.SevenTiedAt
import Derived.LaidMore
import Derived.ChangeMaps5
set_option linter.unusedSimpArgs false
set_option linter.unusedVariables false
namespace Go.Proofs.YtohfdkdjfoonjaaGreatDoor
open Go Go.RowKit Go.Aev Go.Proofs Go.ChangeShapes Go.WideShapes Go.ChangeMaps
set_option maxRecDepth 100000
theorem callsHouseTours {H : Type} {enc : TypeId × Value → H} (W : World) (hL : laidMet Tryz.prog laidZ W) {b0 : Nat} {v0 : Value} {d0 : DataW H} {p0 : List MemPlace} (hv0 : Value.okWide Tryz.prog W .any b0 26 v0) (h0 : DataW.Trod enc Tryz.prog W 0 (fun _ => true) true 26 v0 d0 p0) {b3 : Nat} {v3 : Value} {d3 : DataW H} {p3 : List MemPlace} (hv3 : Value.okWide Tryz.prog W .any b3 54 v3) (h3 : DataW.Trod enc Tryz.prog W 0 (fun _ => true) true 54 v3 d3 p3) (fr : Int) (ti : Int) :
    Calls Tryz.prog 12 #[v0, .int .i64 fr, .int .i64 ti, v3] W fun e w' => e = .returned (.bool true) ∧ Below W.heap.size W w' := by
  obtain ⟨σ, hr⟩ := HR.ofLaid hL seat.lt seat.max seat.self
  obtain ⟨cs0, rfl⟩ := okWide_agg Tryz.underlying26 hv0
  obtain ⟨σ0, S0, cw0, h, le0, hr0, a0, x0, r0⟩ := hr.argO House.opHs h0
  obtain ⟨w0_0, w0_1, w0_2, rfl, r0_0, r0_1, r0_2⟩ := r0
  replace x0 : VR σ0 (.agg #[w0_0, w0_1, w0_2]) (.agg cs0) := agg_vr x0
  obtain ⟨σ3, S3, cw3, l, le3, hr3, a3, x3, r3⟩ := hr0.argO House.opInts h3
  obtain ⟨w3, rfl, r3⟩ := r3
  replace x3 : VR σ3 w3 v3 := slice_vr Tryz.underlying54 hv3 x3
  replace r0_0 := r0_0.agree a3
  replace r0_1 := r0_1.agree a3
  replace r0_2 := r0_2.agree a3
  replace x0 := x0.mono le3
  obtain ⟨S', hrun, _⟩ := (by have h' := House.c12 h fr ti l (House.rooms_size r0_0) S3 w0_0 r0_0 w0_1 r0_1 w0_2 r0_2 w3 r3.flat; rw [House.r12_true] at h'; exact h')
  refine seat.law (args := #[.agg #[w0_0, w0_1, w0_2], .int .i64 fr, .int .i64 ti, w3]) hL hr3 ⟨rfl, fun i hi => ?_⟩ rfl hrun
  match i, hi with
  | 0, _ => exact x0
  | 1, _ => exact selfB_spec σ3 8 _ rfl
  | 2, _ => exact selfB_spec σ3 8 _ rfl
  | 3, _ => exact x3
theorem liftedHouseTours (os : Os) (started : os.Started) (H : Type) (enc : TypeId × Value → H) :
    ReturnsInHanded {} Tryz.checked os 12 .any (fun w args => (Rows.houseToursSpec.pre enc Tryz.prog Tryz.f12 [] false w args ∧ laidMetH Tryz.prog laidZ w) ∧ sizedMet enc Tryz.prog Tryz.f12 (OpenSpec.ofChange Rows.houseToursSpec) false w args)
      (Rows.houseToursSpec.post enc Tryz.prog Tryz.f12 false true false false) := by
  refine law_lifted (C := Tryz.checked) (laid := laidZ) own started (by kernel_rfl) Tryz.func12 (by kernel_rfl) rfl laidOut (by kernel_rfl) (tb := 4) (by kernel_rfl) Tryz.underlying4 (fun ds hd => ?_)
    (ChangeSpec.witness_shaped (enc := enc) (C := Tryz.checked) (os := os) (X := fun w _ => laidMetH Tryz.prog laidZ w) false (World.doorLaid Tryz.prog 400 os) #[.agg #[.slice none 0 0, .slice none 0 0, .slice none 0 0], .int .i64 0, .int .i64 0, .slice none 0 0] 8 rfl (World.shaped_of_RefB (by kernel_rfl) (by kernel_rfl)) (by kernel_rfl) (by kernel_rfl) (by kernel_rfl) (door_met os _))
    (fun W base args ds p hval hA hlt hw hL => ?_)
  · rw [Tryz.params12] at hd
    match ds, hd with
    | [d0, d1, d2, d3], _ => rfl
  · rw [Tryz.params12] at hA hval
    obtain ⟨args⟩ := args
    obtain ⟨v0, as0, d0, ds0, p0, q0, rfl, rfl, rfl, h0, hA⟩ := trodAll_cons hA
    obtain ⟨v1, as1, d1, ds1, p1, q1, rfl, rfl, rfl, h1, hA⟩ := trodAll_cons hA
    obtain ⟨v2, as2, d2, ds2, p2, q2, rfl, rfl, rfl, h2, hA⟩ := trodAll_cons hA
    obtain ⟨v3, as3, d3, ds3, p3, q3, rfl, rfl, rfl, h3, hA⟩ := trodAll_cons hA
    obtain ⟨rfl, rfl, rfl⟩ := trodAll_nil hA
    obtain ⟨fr, rfl, _, _, _⟩ := open_int Tryz.underlying3 (hval 1 3 v1 rfl rfl) h1
    obtain ⟨ti, rfl, _, _, _⟩ := open_int Tryz.underlying3 (hval 2 3 v2 rfl rfl) h2
    exact callsHouseTours W hL (hval 0 26 v0 rfl rfl) h0 (hval 3 54 v3 rfl rfl) h3 fr ti
theorem jHouseTours0 : (Rows.houseToursRow.wf (OpenSpec.ofChange Rows.houseToursSpec)) = true := by kernel_rfl
theorem jHouseTours1 : (laidOutB Tryz.prog) = true := sh1
theorem jHouseTours2 : (mapsRowed Tryz.prog) = true := sh2
theorem jHouseTours3 : (Tryz.f12.params.all (Tryz.prog.readableRec ·)) = true := by kernel_rfl
theorem jHouseTours4 : (namedTie Tryz.prog Rows.houseToursRow.named Rows.houseToursSpec.vars) = true := by kernel_rfl
theorem jHouseTours5 : ((Rows.houseToursRow.stops == [])) = true := by kernel_rfl
theorem jHouseTours6 : ((Tryz.prog.stops == [])) = true := sh6
theorem jHouseTours7 : ((Rows.houseToursRow.knobs == [])) = true := by kernel_rfl
theorem jHouseTours8 : ((Tryz.prog.stopKnobs == [])) = true := sh8
theorem jHouseTours9 : ((Rows.houseToursRow.inPlace == Tryz.prog.inPlace 12)) = true := by kernel_rfl
theorem jHouseTours10 : ((Rows.houseToursRow.unfollowed == Tryz.prog.unfollowed 12)) = true := by kernel_rfl
theorem jHouseTours11 : ((Rows.houseToursRow.recurses == Tryz.prog.recurses 12)) = true := by kernel_rfl
theorem jHouseTours12 : ((Rows.houseToursRow.named == Tryz.prog.varsNamed 12)) = true := by kernel_rfl
theorem jHouseTours13 : ((Rows.houseToursRow.maps == (Tryz.f12.params.toList ++ Rows.houseToursSpec.plain.varTypes Tryz.prog).any (Tryz.prog.mapsRec ·))) = true := by kernel_rfl
theorem jHouseTours14 : ((Rows.houseToursRow.ifaces == (Tryz.f12.params.toList ++ Rows.houseToursSpec.plain.varTypes Tryz.prog).any (Tryz.prog.ifacesRec ·))) = true := by kernel_rfl
theorem jHouseTours15 : ((Rows.houseToursRow.mapsOut == Tryz.prog.mapsAmong Tryz.f12.resultTypes.toList)) = true := by kernel_rfl
theorem jHouseTours16 : ((Rows.houseToursRow.loops == (Tryz.f12.params.toList ++ Rows.houseToursSpec.plain.varTypes Tryz.prog).any (Tryz.prog.loopsFrom ·))) = true := by kernel_rfl
theorem jHouseTours17 : ((Rows.houseToursRow.wideKeys == (Tryz.f12.params.toList ++ Rows.houseToursSpec.plain.varTypes Tryz.prog ++ Tryz.f12.resultTypes.toList).any (Tryz.prog.wideKeysFrom ·))) = true := by kernel_rfl
theorem jHouseTours18 : (Rows.houseToursSpec.vars.all (Tryz.prog.varReadable ·)) = true := by kernel_rfl
theorem jHouseTours19 : (Tryz.f12.resultTypes.all (fun t => Tryz.prog.readableRec t && decide (t < Tryz.prog.types.size))) = true := by kernel_rfl
theorem jHouseTours20 : ((Rows.houseToursRow.ifacesOut == Tryz.f12.resultTypes.toList.any (Tryz.prog.ifacesRec ·))) = true := by kernel_rfl
theorem jHouseTours21 : ((Rows.houseToursRow.loopsOut == Tryz.f12.resultTypes.toList.any (Tryz.prog.loopsFrom ·))) = true := by kernel_rfl
theorem jHouseTours22 : ((Rows.houseToursRow.plainKeys == Tryz.prog.plainKeys)) = true := sh22
theorem jHouseTours23 : (Rows.houseToursRow.shortTexts.isNone) = true := by kernel_rfl
theorem jHouseTours24 : (Tryz.prog.stopsHeard) = true := sh24
theorem jHouseTours25 : (Tryz.prog.mayEnter) = true := sh25
theorem jHouseTours26 : ((Rows.houseToursRow.lifted == Tryz.prog.liftsFinal)) = true := sh26
theorem jHouseTours27 : ((Tryz.prog.make == some Rows.houseToursRow.make)) = true := sh27
theorem jHouseTours28 : ((Rows.houseToursRow.kinds == (if Rows.houseToursRow.domain.isEmpty then [] else Tryz.f12.params.toList.map fun t => match Tryz.prog.underlying t with | some (.int k) => some k | _ => none))) = true := by kernel_rfl
theorem jHouseTours29 : ((Rows.houseToursRow.pinned == Rows.houseToursRow.pinnedBy)) = true := sh29
theorem jHouseTours30 : ((Rows.houseToursRow.veiled == (Tryz.f12.params.toList ++ Rows.houseToursSpec.plain.varTypes Tryz.prog ++ Tryz.f12.resultTypes.toList).any (Tryz.prog.veiledRec ·))) = true := by kernel_rfl
theorem jHouseTours31 : (Rows.houseToursRow.veiledFits Tryz.prog Tryz.f12.params.toList (Tryz.f12.params.toList ++ Rows.houseToursSpec.plain.varTypes Tryz.prog ++ Tryz.f12.resultTypes.toList)) = true := by kernel_rfl
theorem jfHouseTours : joinedFacts Tryz.prog 12 Tryz.f12 Rows.houseToursSpec Rows.houseToursRow = true := (band (band (band (band (band (band (band (band (band (band (band (band (band (band (band (band (band (band (band (band (band (band (band (band (band (band (band (band (band (band (band jHouseTours0 jHouseTours1) jHouseTours2) jHouseTours3) jHouseTours4) jHouseTours5) jHouseTours6) jHouseTours7) jHouseTours8) jHouseTours9) jHouseTours10) jHouseTours11) jHouseTours12) jHouseTours13) jHouseTours14) jHouseTours15) jHouseTours16) jHouseTours17) jHouseTours18) jHouseTours19) jHouseTours20) jHouseTours21) jHouseTours22) jHouseTours23) jHouseTours24) jHouseTours25) jHouseTours26) jHouseTours27) jHouseTours28) jHouseTours29) jHouseTours30) jHouseTours31)
theorem row_holdsHouseTours : Rows.HouseToursSaid :=
  OpenClaim.holds_of_wide 12 Tryz.f12 rfl rfl rfl rfl rfl rfl rfl ⟨rfl, rfl, rfl, rfl, rfl⟩ rfl rfl rfl rfl rfl (by kernel_rfl) Tryz.func12 jfHouseTours
    (of_decide_eq_true (by kernel_rfl)) (by unfold Func.isWrapper; first | (rw [if_pos (by decide +kernel)]; kernel_rfl) | (rw [if_neg (by decide +kernel)]; exact ⟨rfl, rfl⟩))
    (fun os started H enc _ => liftedHouseTours os started H enc)
theorem houseTours_holds : Rows.HouseToursCardSaid :=
  Claim7.holds_tied_plain_at .later [] [.data, .data, .data] true (true, "4e618f33cc17afbde1f6d9a014ad85e9fad687eaa96434e3d1147b07e51ddefd") false
    row_holdsHouseTours (fun _ h => by cases h) (by kernel_rfl) (fun _ h => by cases h) houseTours_row_tie rfl ⟨rfl, rfl⟩ (by kernel_rfl) rfl
    (fun f fn hf hfn => by
      obtain rfl : f = 12 := Option.some.inj ((show Tryz.prog.funcNamed "patrol/patrollaw03.HouseTours" = some 12 by kernel_rfl).symm.trans hf) |>.symm
      obtain rfl : fn = Tryz.f12 := (Option.some.inj (Tryz.func12.symm.trans hfn)).symm
      exact ⟨by kernel_rfl, fun j t ht => by
        have hm : t ∈ Tryz.f12.params.toList := by simpa using Array.mem_of_getElem? ht
        have hall : (Tryz.f12.params.toList.all fun u => !Tryz.prog.wantsStandIn u) = true := by kernel_rfl
        exact (show Tryz.prog.wantsStandIn t = false by simpa using List.all_eq_true.1 hall t hm)⟩)
    (by kernel_rfl)
#print axioms houseTours_holds
end Go.Proofs.YtohfdkdjfoonjaaGreatDoor
