/-
  HouseDistances: for all houses and rooms the law returns true; conditions: none but that the listed package-level variables hold what the program's text lays.
-/
import Derived.Test.YtohfdkdjfoonjaaGreatDoorBAD
import Derived.Test.YtohfdkdjfoonjaaGreatDoorSdH
import Derived.Test.YtohfdkdjfoonjaaGreatDoorBO
import Derived.Test.YtohfdkdjfoonjaaGreatDoorAE4
import Derived.Test.YtohfdkdjfoonjaaGreatDoorRows
import Derived.Test.YtohfdkdjfoonjaaGreatDoorTie
import Derived.Test.YtohfdkdjfoonjaaGreatDoorCards
import Derived.SevenTiedAt
import Derived.LaidMore
import Derived.ChangeMaps5
set_option linter.unusedSimpArgs false
set_option linter.unusedVariables false
namespace Go.Proofs.YtohfdkdjfoonjaaGreatDoor
open Go Go.RowKit Go.Aev Go.Proofs Go.ChangeShapes Go.WideShapes Go.ChangeMaps
set_option maxRecDepth 100000
theorem callsHouseDistances {H : Type} {enc : TypeId × Value → H} (W : World) (hL : laidMet Tryz.prog laidZ W) {b0 : Nat} {v0 : Value} {d0 : DataW H} {p0 : List MemPlace} (hv0 : Value.okWide Tryz.prog W .any b0 26 v0) (h0 : DataW.Trod enc Tryz.prog W 0 (fun _ => true) true 26 v0 d0 p0) (a : Int) (b : Int) :
    Calls Tryz.prog 11 #[v0, .int .i64 a, .int .i64 b] W fun e w' => e = .returned (.bool true) ∧ Below W.heap.size W w' := by
  obtain ⟨σ, hr⟩ := HR.ofLaid hL seat.lt seat.max seat.self
  obtain ⟨cs0, rfl⟩ := okWide_agg Tryz.underlying26 hv0
  obtain ⟨σ0, S0, cw0, h, le0, hr0, a0, x0, r0⟩ := hr.argO House.opHs h0
  obtain ⟨w0_0, w0_1, w0_2, rfl, r0_0, r0_1, r0_2⟩ := r0
  replace x0 : VR σ0 (.agg #[w0_0, w0_1, w0_2]) (.agg cs0) := agg_vr x0
  obtain ⟨S', hrun, _⟩ := (by have h' := House.c11 h a b (House.rooms_size r0_0) S0 w0_0 r0_0 w0_1 r0_1 w0_2 r0_2; rw [House.r11_true] at h'; exact h')
  refine seat.law (args := #[.agg #[w0_0, w0_1, w0_2], .int .i64 a, .int .i64 b]) hL hr0 ⟨rfl, fun i hi => ?_⟩ rfl hrun
  match i, hi with
  | 0, _ => exact x0
  | 1, _ => exact selfB_spec σ0 8 _ rfl
  | 2, _ => exact selfB_spec σ0 8 _ rfl
theorem liftedHouseDistances (os : Os) (started : os.Started) (H : Type) (enc : TypeId × Value → H) :
    ReturnsInHanded {} Tryz.checked os 11 .any (fun w args => (Rows.houseDistancesSpec.pre enc Tryz.prog Tryz.f11 [] false w args ∧ laidMetH Tryz.prog laidZ w) ∧ sizedMet enc Tryz.prog Tryz.f11 (OpenSpec.ofChange Rows.houseDistancesSpec) false w args)
      (Rows.houseDistancesSpec.post enc Tryz.prog Tryz.f11 false true false false) := by
  refine law_lifted (C := Tryz.checked) (laid := laidZ) own started (by kernel_rfl) Tryz.func11 (by kernel_rfl) rfl laidOut (by kernel_rfl) (tb := 4) (by kernel_rfl) Tryz.underlying4 (fun ds hd => ?_)
    (ChangeSpec.witness_shaped (enc := enc) (C := Tryz.checked) (os := os) (X := fun w _ => laidMetH Tryz.prog laidZ w) false (World.doorLaid Tryz.prog 400 os) #[.agg #[.slice none 0 0, .slice none 0 0, .slice none 0 0], .int .i64 0, .int .i64 0] 8 rfl (World.shaped_of_RefB (by kernel_rfl) (by kernel_rfl)) (by kernel_rfl) (by kernel_rfl) (by kernel_rfl) (door_met os _))
    (fun W base args ds p hval hA hlt hw hL => ?_)
  · rw [Tryz.params11] at hd
    match ds, hd with
    | [d0, d1, d2], _ => rfl
  · rw [Tryz.params11] at hA hval
    obtain ⟨args⟩ := args
    obtain ⟨v0, as0, d0, ds0, p0, q0, rfl, rfl, rfl, h0, hA⟩ := trodAll_cons hA
    obtain ⟨v1, as1, d1, ds1, p1, q1, rfl, rfl, rfl, h1, hA⟩ := trodAll_cons hA
    obtain ⟨v2, as2, d2, ds2, p2, q2, rfl, rfl, rfl, h2, hA⟩ := trodAll_cons hA
    obtain ⟨rfl, rfl, rfl⟩ := trodAll_nil hA
    obtain ⟨a, rfl, _, _, _⟩ := open_int Tryz.underlying3 (hval 1 3 v1 rfl rfl) h1
    obtain ⟨b, rfl, _, _, _⟩ := open_int Tryz.underlying3 (hval 2 3 v2 rfl rfl) h2
    exact callsHouseDistances W hL (hval 0 26 v0 rfl rfl) h0 a b
theorem jHouseDistances0 : (Rows.houseDistancesRow.wf (OpenSpec.ofChange Rows.houseDistancesSpec)) = true := by kernel_rfl
theorem jHouseDistances1 : (laidOutB Tryz.prog) = true := sh1
theorem jHouseDistances2 : (mapsRowed Tryz.prog) = true := sh2
theorem jHouseDistances3 : (Tryz.f11.params.all (Tryz.prog.readableRec ·)) = true := by kernel_rfl
theorem jHouseDistances4 : (namedTie Tryz.prog Rows.houseDistancesRow.named Rows.houseDistancesSpec.vars) = true := by kernel_rfl
theorem jHouseDistances5 : ((Rows.houseDistancesRow.stops == [])) = true := by kernel_rfl
theorem jHouseDistances6 : ((Tryz.prog.stops == [])) = true := sh6
theorem jHouseDistances7 : ((Rows.houseDistancesRow.knobs == [])) = true := by kernel_rfl
theorem jHouseDistances8 : ((Tryz.prog.stopKnobs == [])) = true := sh8
theorem jHouseDistances9 : ((Rows.houseDistancesRow.inPlace == Tryz.prog.inPlace 11)) = true := by kernel_rfl
theorem jHouseDistances10 : ((Rows.houseDistancesRow.unfollowed == Tryz.prog.unfollowed 11)) = true := by kernel_rfl
theorem jHouseDistances11 : ((Rows.houseDistancesRow.recurses == Tryz.prog.recurses 11)) = true := by kernel_rfl
theorem jHouseDistances12 : ((Rows.houseDistancesRow.named == Tryz.prog.varsNamed 11)) = true := by kernel_rfl
theorem jHouseDistances13 : ((Rows.houseDistancesRow.maps == (Tryz.f11.params.toList ++ Rows.houseDistancesSpec.plain.varTypes Tryz.prog).any (Tryz.prog.mapsRec ·))) = true := by kernel_rfl
theorem jHouseDistances14 : ((Rows.houseDistancesRow.ifaces == (Tryz.f11.params.toList ++ Rows.houseDistancesSpec.plain.varTypes Tryz.prog).any (Tryz.prog.ifacesRec ·))) = true := by kernel_rfl
theorem jHouseDistances15 : ((Rows.houseDistancesRow.mapsOut == Tryz.prog.mapsAmong Tryz.f11.resultTypes.toList)) = true := by kernel_rfl
theorem jHouseDistances16 : ((Rows.houseDistancesRow.loops == (Tryz.f11.params.toList ++ Rows.houseDistancesSpec.plain.varTypes Tryz.prog).any (Tryz.prog.loopsFrom ·))) = true := by kernel_rfl
theorem jHouseDistances17 : ((Rows.houseDistancesRow.wideKeys == (Tryz.f11.params.toList ++ Rows.houseDistancesSpec.plain.varTypes Tryz.prog ++ Tryz.f11.resultTypes.toList).any (Tryz.prog.wideKeysFrom ·))) = true := by kernel_rfl
theorem jHouseDistances18 : (Rows.houseDistancesSpec.vars.all (Tryz.prog.varReadable ·)) = true := by kernel_rfl
theorem jHouseDistances19 : (Tryz.f11.resultTypes.all (fun t => Tryz.prog.readableRec t && decide (t < Tryz.prog.types.size))) = true := by kernel_rfl
theorem jHouseDistances20 : ((Rows.houseDistancesRow.ifacesOut == Tryz.f11.resultTypes.toList.any (Tryz.prog.ifacesRec ·))) = true := by kernel_rfl
theorem jHouseDistances21 : ((Rows.houseDistancesRow.loopsOut == Tryz.f11.resultTypes.toList.any (Tryz.prog.loopsFrom ·))) = true := by kernel_rfl
theorem jHouseDistances22 : ((Rows.houseDistancesRow.plainKeys == Tryz.prog.plainKeys)) = true := sh22
theorem jHouseDistances23 : (Rows.houseDistancesRow.shortTexts.isNone) = true := by kernel_rfl
theorem jHouseDistances24 : (Tryz.prog.stopsHeard) = true := sh24
theorem jHouseDistances25 : (Tryz.prog.mayEnter) = true := sh25
theorem jHouseDistances26 : ((Rows.houseDistancesRow.lifted == Tryz.prog.liftsFinal)) = true := sh26
theorem jHouseDistances27 : ((Tryz.prog.make == some Rows.houseDistancesRow.make)) = true := sh27
theorem jHouseDistances28 : ((Rows.houseDistancesRow.kinds == (if Rows.houseDistancesRow.domain.isEmpty then [] else Tryz.f11.params.toList.map fun t => match Tryz.prog.underlying t with | some (.int k) => some k | _ => none))) = true := by kernel_rfl
theorem jHouseDistances29 : ((Rows.houseDistancesRow.pinned == Rows.houseDistancesRow.pinnedBy)) = true := sh29
theorem jHouseDistances30 : ((Rows.houseDistancesRow.veiled == (Tryz.f11.params.toList ++ Rows.houseDistancesSpec.plain.varTypes Tryz.prog ++ Tryz.f11.resultTypes.toList).any (Tryz.prog.veiledRec ·))) = true := by kernel_rfl
theorem jHouseDistances31 : (Rows.houseDistancesRow.veiledFits Tryz.prog Tryz.f11.params.toList (Tryz.f11.params.toList ++ Rows.houseDistancesSpec.plain.varTypes Tryz.prog ++ Tryz.f11.resultTypes.toList)) = true := by kernel_rfl
theorem jfHouseDistances : joinedFacts Tryz.prog 11 Tryz.f11 Rows.houseDistancesSpec Rows.houseDistancesRow = true := (band (band (band (band (band (band (band (band (band (band (band (band (band (band (band (band (band (band (band (band (band (band (band (band (band (band (band (band (band (band (band jHouseDistances0 jHouseDistances1) jHouseDistances2) jHouseDistances3) jHouseDistances4) jHouseDistances5) jHouseDistances6) jHouseDistances7) jHouseDistances8) jHouseDistances9) jHouseDistances10) jHouseDistances11) jHouseDistances12) jHouseDistances13) jHouseDistances14) jHouseDistances15) jHouseDistances16) jHouseDistances17) jHouseDistances18) jHouseDistances19) jHouseDistances20) jHouseDistances21) jHouseDistances22) jHouseDistances23) jHouseDistances24) jHouseDistances25) jHouseDistances26) jHouseDistances27) jHouseDistances28) jHouseDistances29) jHouseDistances30) jHouseDistances31)
theorem row_holdsHouseDistances : Rows.HouseDistancesSaid :=
  OpenClaim.holds_of_wide 11 Tryz.f11 rfl rfl rfl rfl rfl rfl rfl ⟨rfl, rfl, rfl, rfl, rfl⟩ rfl rfl rfl rfl rfl (by kernel_rfl) Tryz.func11 jfHouseDistances
    (of_decide_eq_true (by kernel_rfl)) (by unfold Func.isWrapper; first | (rw [if_pos (by decide +kernel)]; kernel_rfl) | (rw [if_neg (by decide +kernel)]; exact ⟨rfl, rfl⟩))
    (fun os started H enc _ => liftedHouseDistances os started H enc)
theorem houseDistances_holds : Rows.HouseDistancesCardSaid :=
  Claim7.holds_tied_plain_at .later [] [.data, .data, .data] true (true, "4e618f33cc17afbde1f6d9a014ad85e9fad687eaa96434e3d1147b07e51ddefd") false
    row_holdsHouseDistances (fun _ h => by cases h) (by kernel_rfl) (fun _ h => by cases h) houseDistances_row_tie rfl ⟨rfl, rfl⟩ (by kernel_rfl) rfl
    (fun f fn hf hfn => by
      obtain rfl : f = 11 := Option.some.inj ((show Tryz.prog.funcNamed "patrol/patrollaw03.HouseDistances" = some 11 by kernel_rfl).symm.trans hf) |>.symm
      obtain rfl : fn = Tryz.f11 := (Option.some.inj (Tryz.func11.symm.trans hfn)).symm
      exact ⟨by kernel_rfl, fun j t ht => by
        have hm : t ∈ Tryz.f11.params.toList := by simpa using Array.mem_of_getElem? ht
        have hall : (Tryz.f11.params.toList.all fun u => !Tryz.prog.wantsStandIn u) = true := by kernel_rfl
        exact (show Tryz.prog.wantsStandIn t = false by simpa using List.all_eq_true.1 hall t hm)⟩)
    (by kernel_rfl)
#print axioms houseDistances_holds
end Go.Proofs.YtohfdkdjfoonjaaGreatDoor
