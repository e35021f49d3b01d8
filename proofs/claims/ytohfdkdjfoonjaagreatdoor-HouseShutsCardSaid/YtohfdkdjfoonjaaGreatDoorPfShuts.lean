/-
  HouseShuts: for all houses, doors and spans the law returns true; conditions: none but that the listed package-level variables hold what the program's text lays.
-/
import Derived.Test.YtohfdkdjfoonjaaGreatDoorBAL
import Derived.Test.YtohfdkdjfoonjaaGreatDoorSdH
import Derived.Test.YtohfdkdjfoonjaaGreatDoorBO
import Derived.Test.YtohfdkdjfoonjaaGreatDoorAE4
import Derived.Test.YtohfdkdjfoonjaaGreatDoorRows
import Derived.Test.YtohfdkdjfoonjaaGreatDoorTie
import Derived.Test.YtohfdkdjfoonjaaGreatDoorCards
import Derived.SevenTiedAt
import Derived.LaidMore
import Derived.ChangeMaps5
set_option linter.unusedSimpArgs false
set_option linter.unusedVariables false
namespace Go.Proofs.YtohfdkdjfoonjaaGreatDoor
open Go Go.RowKit Go.Aev Go.Proofs Go.ChangeShapes Go.WideShapes Go.ChangeMaps
set_option maxRecDepth 100000
theorem callsHouseShuts {H : Type} {enc : TypeId × Value → H} (W : World) (hL : laidMet Tryz.prog laidZ W) {b0 : Nat} {v0 : Value} {d0 : DataW H} {p0 : List MemPlace} (hv0 : Value.okWide Tryz.prog W .any b0 26 v0) (h0 : DataW.Trod enc Tryz.prog W 0 (fun _ => true) true 26 v0 d0 p0) (door : Int) (slo shi : Int) :
    Calls Tryz.prog 13 #[v0, .int .i64 door, .agg #[.int .i64 slo, .int .i64 shi]] W fun e w' => e = .returned (.bool true) ∧ Below W.heap.size W w' := by
  obtain ⟨σ, hr⟩ := HR.ofLaid hL seat.lt seat.max seat.self
  obtain ⟨cs0, rfl⟩ := okWide_agg Tryz.underlying26 hv0
  obtain ⟨σ0, S0, cw0, h, le0, hr0, a0, x0, r0⟩ := hr.argO House.opHs h0
  obtain ⟨w0_0, w0_1, w0_2, rfl, r0_0, r0_1, r0_2⟩ := r0
  replace x0 : VR σ0 (.agg #[w0_0, w0_1, w0_2]) (.agg cs0) := agg_vr x0
  obtain ⟨S', hrun, _⟩ := (by have h' := House.c13 h door slo shi (House.rooms_size r0_0) S0 w0_0 r0_0 w0_1 r0_1 w0_2 r0_2; rw [House.r13_true] at h'; exact h')
  refine seat.law (args := #[.agg #[w0_0, w0_1, w0_2], .int .i64 door, .agg #[.int .i64 slo, .int .i64 shi]]) hL hr0 ⟨rfl, fun i hi => ?_⟩ rfl hrun
  match i, hi with
  | 0, _ => exact x0
  | 1, _ => exact selfB_spec σ0 8 _ rfl
  | 2, _ => exact selfB_spec σ0 8 _ rfl
theorem liftedHouseShuts (os : Os) (started : os.Started) (H : Type) (enc : TypeId × Value → H) :
    ReturnsInHanded {} Tryz.checked os 13 .any (fun w args => (Rows.houseShutsSpec.pre enc Tryz.prog Tryz.f13 [] false w args ∧ laidMetH Tryz.prog laidZ w) ∧ sizedMet enc Tryz.prog Tryz.f13 (OpenSpec.ofChange Rows.houseShutsSpec) false w args)
      (Rows.houseShutsSpec.post enc Tryz.prog Tryz.f13 false true false false) := by
  refine law_lifted (C := Tryz.checked) (laid := laidZ) own started (by kernel_rfl) Tryz.func13 (by kernel_rfl) rfl laidOut (by kernel_rfl) (tb := 4) (by kernel_rfl) Tryz.underlying4 (fun ds hd => ?_)
    (ChangeSpec.witness_shaped (enc := enc) (C := Tryz.checked) (os := os) (X := fun w _ => laidMetH Tryz.prog laidZ w) false (World.doorLaid Tryz.prog 400 os) #[.agg #[.slice none 0 0, .slice none 0 0, .slice none 0 0], .int .i64 0, .agg #[.int .i64 0, .int .i64 0]] 8 rfl (World.shaped_of_RefB (by kernel_rfl) (by kernel_rfl)) (by kernel_rfl) (by kernel_rfl) (by kernel_rfl) (door_met os _))
    (fun W base args ds p hval hA hlt hw hL => ?_)
  · rw [Tryz.params13] at hd
    match ds, hd with
    | [d0, d1, d2], _ => rfl
  · rw [Tryz.params13] at hA hval
    obtain ⟨args⟩ := args
    obtain ⟨v0, as0, d0, ds0, p0, q0, rfl, rfl, rfl, h0, hA⟩ := trodAll_cons hA
    obtain ⟨v1, as1, d1, ds1, p1, q1, rfl, rfl, rfl, h1, hA⟩ := trodAll_cons hA
    obtain ⟨v2, as2, d2, ds2, p2, q2, rfl, rfl, rfl, h2, hA⟩ := trodAll_cons hA
    obtain ⟨rfl, rfl, rfl⟩ := trodAll_nil hA
    obtain ⟨door, rfl, _, _, _⟩ := open_int Tryz.underlying3 (hval 1 3 v1 rfl rfl) h1
    obtain ⟨ns2, ⟨l2, _⟩, rfl⟩ := open_kinds (n := 4) (ks := [.i64, .i64]) (by kernel_rfl) Tryz.underlying36 (hval 2 36 v2 rfl rfl) h2
    match ns2, l2 with
    | [slo, shi], _ => exact callsHouseShuts W hL (hval 0 26 v0 rfl rfl) h0 door slo shi
theorem jHouseShuts0 : (Rows.houseShutsRow.wf (OpenSpec.ofChange Rows.houseShutsSpec)) = true := by kernel_rfl
theorem jHouseShuts1 : (laidOutB Tryz.prog) = true := sh1
theorem jHouseShuts2 : (mapsRowed Tryz.prog) = true := sh2
theorem jHouseShuts3 : (Tryz.f13.params.all (Tryz.prog.readableRec ·)) = true := by kernel_rfl
theorem jHouseShuts4 : (namedTie Tryz.prog Rows.houseShutsRow.named Rows.houseShutsSpec.vars) = true := by kernel_rfl
theorem jHouseShuts5 : ((Rows.houseShutsRow.stops == [])) = true := by kernel_rfl
theorem jHouseShuts6 : ((Tryz.prog.stops == [])) = true := sh6
theorem jHouseShuts7 : ((Rows.houseShutsRow.knobs == [])) = true := by kernel_rfl
theorem jHouseShuts8 : ((Tryz.prog.stopKnobs == [])) = true := sh8
theorem jHouseShuts9 : ((Rows.houseShutsRow.inPlace == Tryz.prog.inPlace 13)) = true := by kernel_rfl
theorem jHouseShuts10 : ((Rows.houseShutsRow.unfollowed == Tryz.prog.unfollowed 13)) = true := by kernel_rfl
theorem jHouseShuts11 : ((Rows.houseShutsRow.recurses == Tryz.prog.recurses 13)) = true := by kernel_rfl
theorem jHouseShuts12 : ((Rows.houseShutsRow.named == Tryz.prog.varsNamed 13)) = true := by kernel_rfl
theorem jHouseShuts13 : ((Rows.houseShutsRow.maps == (Tryz.f13.params.toList ++ Rows.houseShutsSpec.plain.varTypes Tryz.prog).any (Tryz.prog.mapsRec ·))) = true := by kernel_rfl
theorem jHouseShuts14 : ((Rows.houseShutsRow.ifaces == (Tryz.f13.params.toList ++ Rows.houseShutsSpec.plain.varTypes Tryz.prog).any (Tryz.prog.ifacesRec ·))) = true := by kernel_rfl
theorem jHouseShuts15 : ((Rows.houseShutsRow.mapsOut == Tryz.prog.mapsAmong Tryz.f13.resultTypes.toList)) = true := by kernel_rfl
theorem jHouseShuts16 : ((Rows.houseShutsRow.loops == (Tryz.f13.params.toList ++ Rows.houseShutsSpec.plain.varTypes Tryz.prog).any (Tryz.prog.loopsFrom ·))) = true := by kernel_rfl
theorem jHouseShuts17 : ((Rows.houseShutsRow.wideKeys == (Tryz.f13.params.toList ++ Rows.houseShutsSpec.plain.varTypes Tryz.prog ++ Tryz.f13.resultTypes.toList).any (Tryz.prog.wideKeysFrom ·))) = true := by kernel_rfl
theorem jHouseShuts18 : (Rows.houseShutsSpec.vars.all (Tryz.prog.varReadable ·)) = true := by kernel_rfl
theorem jHouseShuts19 : (Tryz.f13.resultTypes.all (fun t => Tryz.prog.readableRec t && decide (t < Tryz.prog.types.size))) = true := by kernel_rfl
theorem jHouseShuts20 : ((Rows.houseShutsRow.ifacesOut == Tryz.f13.resultTypes.toList.any (Tryz.prog.ifacesRec ·))) = true := by kernel_rfl
theorem jHouseShuts21 : ((Rows.houseShutsRow.loopsOut == Tryz.f13.resultTypes.toList.any (Tryz.prog.loopsFrom ·))) = true := by kernel_rfl
theorem jHouseShuts22 : ((Rows.houseShutsRow.plainKeys == Tryz.prog.plainKeys)) = true := sh22
theorem jHouseShuts23 : (Rows.houseShutsRow.shortTexts.isNone) = true := by kernel_rfl
theorem jHouseShuts24 : (Tryz.prog.stopsHeard) = true := sh24
theorem jHouseShuts25 : (Tryz.prog.mayEnter) = true := sh25
theorem jHouseShuts26 : ((Rows.houseShutsRow.lifted == Tryz.prog.liftsFinal)) = true := sh26
theorem jHouseShuts27 : ((Tryz.prog.make == some Rows.houseShutsRow.make)) = true := sh27
theorem jHouseShuts28 : ((Rows.houseShutsRow.kinds == (if Rows.houseShutsRow.domain.isEmpty then [] else Tryz.f13.params.toList.map fun t => match Tryz.prog.underlying t with | some (.int k) => some k | _ => none))) = true := by kernel_rfl
theorem jHouseShuts29 : ((Rows.houseShutsRow.pinned == Rows.houseShutsRow.pinnedBy)) = true := sh29
theorem jHouseShuts30 : ((Rows.houseShutsRow.veiled == (Tryz.f13.params.toList ++ Rows.houseShutsSpec.plain.varTypes Tryz.prog ++ Tryz.f13.resultTypes.toList).any (Tryz.prog.veiledRec ·))) = true := by kernel_rfl
theorem jHouseShuts31 : (Rows.houseShutsRow.veiledFits Tryz.prog Tryz.f13.params.toList (Tryz.f13.params.toList ++ Rows.houseShutsSpec.plain.varTypes Tryz.prog ++ Tryz.f13.resultTypes.toList)) = true := by kernel_rfl
theorem jfHouseShuts : joinedFacts Tryz.prog 13 Tryz.f13 Rows.houseShutsSpec Rows.houseShutsRow = true := (band (band (band (band (band (band (band (band (band (band (band (band (band (band (band (band (band (band (band (band (band (band (band (band (band (band (band (band (band (band (band jHouseShuts0 jHouseShuts1) jHouseShuts2) jHouseShuts3) jHouseShuts4) jHouseShuts5) jHouseShuts6) jHouseShuts7) jHouseShuts8) jHouseShuts9) jHouseShuts10) jHouseShuts11) jHouseShuts12) jHouseShuts13) jHouseShuts14) jHouseShuts15) jHouseShuts16) jHouseShuts17) jHouseShuts18) jHouseShuts19) jHouseShuts20) jHouseShuts21) jHouseShuts22) jHouseShuts23) jHouseShuts24) jHouseShuts25) jHouseShuts26) jHouseShuts27) jHouseShuts28) jHouseShuts29) jHouseShuts30) jHouseShuts31)
theorem row_holdsHouseShuts : Rows.HouseShutsSaid :=
  OpenClaim.holds_of_wide 13 Tryz.f13 rfl rfl rfl rfl rfl rfl rfl ⟨rfl, rfl, rfl, rfl, rfl⟩ rfl rfl rfl rfl rfl (by kernel_rfl) Tryz.func13 jfHouseShuts
    (of_decide_eq_true (by kernel_rfl)) (by unfold Func.isWrapper; first | (rw [if_pos (by decide +kernel)]; kernel_rfl) | (rw [if_neg (by decide +kernel)]; exact ⟨rfl, rfl⟩))
    (fun os started H enc _ => liftedHouseShuts os started H enc)
theorem houseShuts_holds : Rows.HouseShutsCardSaid :=
  Claim7.holds_tied_plain_at .later [] [.data, .data, .data] true (true, "4e618f33cc17afbde1f6d9a014ad85e9fad687eaa96434e3d1147b07e51ddefd") false
    row_holdsHouseShuts (fun _ h => by cases h) (by kernel_rfl) (fun _ h => by cases h) houseShuts_row_tie rfl ⟨rfl, rfl⟩ (by kernel_rfl) rfl
    (fun f fn hf hfn => by
      obtain rfl : f = 13 := Option.some.inj ((show Tryz.prog.funcNamed "patrol/patrollaw03.HouseShuts" = some 13 by kernel_rfl).symm.trans hf) |>.symm
      obtain rfl : fn = Tryz.f13 := (Option.some.inj (Tryz.func13.symm.trans hfn)).symm
      exact ⟨by kernel_rfl, fun j t ht => by
        have hm : t ∈ Tryz.f13.params.toList := by simpa using Array.mem_of_getElem? ht
        have hall : (Tryz.f13.params.toList.all fun u => !Tryz.prog.wantsStandIn u) = true := by kernel_rfl
        exact (show Tryz.prog.wantsStandIn t = false by simpa using List.all_eq_true.1 hall t hm)⟩)
    (by kernel_rfl)
#print axioms houseShuts_holds
end Go.Proofs.YtohfdkdjfoonjaaGreatDoor
