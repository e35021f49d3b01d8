/-
  HouseWalks: for all houses, rooms, times and walks the law returns true; conditions: none but that the listed package-level variables hold what the program's text lays.
-/
import Derived.Test.YtfjnbekocdffbaaGreatDoorEvM3
import Derived.Test.YtfjnbekocdffbaaGreatDoorSdH
import Derived.Test.YtfjnbekocdffbaaGreatDoorBO
import Derived.Test.YtfjnbekocdffbaaGreatDoorAE4
import Derived.Test.YtfjnbekocdffbaaGreatDoorRows
import Derived.Test.YtfjnbekocdffbaaGreatDoorTie
import Derived.Test.YtfjnbekocdffbaaGreatDoorCards
import Derived.SevenTiedAt
import Derived.LaidMore
import Derived.ChangeMaps5
set_option linter.unusedSimpArgs false
set_option linter.unusedVariables false
namespace Go.Proofs.YtfjnbekocdffbaaGreatDoor
open Go Go.RowKit Go.Aev Go.Proofs Go.ChangeShapes Go.WideShapes Go.ChangeMaps
set_option maxRecDepth 100000
theorem callsHouseWalks {H : Type} {enc : TypeId × Value → H} (W : World) (hL : laidMet Tryz.prog laidZ W) {b0 : Nat} {v0 : Value} {d0 : DataW H} {p0 : List MemPlace} (hv0 : Value.okWide Tryz.prog W .any b0 26 v0) (h0 : DataW.Trod enc Tryz.prog W 0 (fun _ => true) true 26 v0 d0 p0) {b3 : Nat} {v3 : Value} {d3 : DataW H} {p3 : List MemPlace} (hv3 : Value.okWide Tryz.prog W .any b3 47 v3) (h3 : DataW.Trod enc Tryz.prog W 0 (fun _ => true) true 47 v3 d3 p3) (f : Int) (t : Int) :
    Calls Tryz.prog 6 #[v0, .int .i64 f, .int .i64 t, v3] W fun e w' => e = .returned (.bool true) ∧ Below W.heap.size W w' := by
  obtain ⟨σ, hr⟩ := HR.ofLaid hL seat.lt seat.max seat.self
  obtain ⟨cs0, rfl⟩ := okWide_agg Tryz.underlying26 hv0
  obtain ⟨σ0, S0, c0, h, le0, hr0, a0, x0, r0⟩ := hr.argO House.opHs h0
  obtain ⟨w0_0, w0_1, w0_2, rfl, r0_0, r0_1, r0_2⟩ := r0
  replace x0 : VR σ0 (.agg #[w0_0, w0_1, w0_2]) (.agg cs0) := agg_vr x0
  obtain ⟨σ3, S3, c3, l, le3, hr3, a3, x3, r3⟩ := hr0.argO House.opStps h3
  obtain ⟨w3, rfl, r3⟩ := r3
  replace x3 : VR σ3 w3 v3 := slice_vr Tryz.underlying47 hv3 x3
  replace r0_0 := r0_0.agree a3
  replace r0_1 := r0_1.agree a3
  replace r0_2 := r0_2.agree a3
  replace x0 := x0.mono le3
  obtain ⟨S', hrun, _⟩ := (by have h' := House.c6 h f t l (House.rooms_size r0_0) S3 w0_0 r0_0 w0_1 r0_1 w0_2 r0_2 w3 r3; rw [House.r6_true] at h'; exact h')
  refine seat.law (args := #[.agg #[w0_0, w0_1, w0_2], .int .i64 f, .int .i64 t, w3]) hL hr3 ⟨rfl, fun i hi => ?_⟩ rfl hrun
  match i, hi with
  | 0, _ => exact x0
  | 1, _ => exact selfB_spec σ3 8 _ rfl
  | 2, _ => exact selfB_spec σ3 8 _ rfl
  | 3, _ => exact x3
theorem liftedHouseWalks (os : Os) (started : os.Started) (H : Type) (enc : TypeId × Value → H) :
    ReturnsInHanded {} Tryz.checked os 6 .any (fun w args => (Rows.houseWalksSpec.pre enc Tryz.prog Tryz.f6 [] false w args ∧ laidMetH Tryz.prog laidZ w) ∧ sizedMet enc Tryz.prog Tryz.f6 (OpenSpec.ofChange Rows.houseWalksSpec) false w args)
      (Rows.houseWalksSpec.post enc Tryz.prog Tryz.f6 false true false false) := by
  refine law_lifted (C := Tryz.checked) (laid := laidZ) own started (by kernel_rfl) Tryz.func6 (by kernel_rfl) rfl laidOut (by kernel_rfl) (tb := 4) (by kernel_rfl) Tryz.underlying4 (fun ds hd => ?_)
    (ChangeSpec.witness_shaped (enc := enc) (C := Tryz.checked) (os := os) (X := fun w _ => laidMetH Tryz.prog laidZ w) false (World.doorLaid Tryz.prog 400 os) #[.agg #[.slice none 0 0, .slice none 0 0, .slice none 0 0], .int .i64 0, .int .i64 0, .slice none 0 0] 8 rfl (World.shaped_of_RefB (by kernel_rfl) (by kernel_rfl)) (by kernel_rfl) (by kernel_rfl) (by kernel_rfl) (door_met os _))
    (fun W base args ds p hval hA hlt hw hL => ?_)
  · rw [Tryz.params6] at hd
    match ds, hd with
    | [d0, d1, d2, d3], _ => rfl
  · rw [Tryz.params6] at hA hval
    obtain ⟨args⟩ := args
    obtain ⟨v0, as0, d0, ds0, p0, q0, rfl, rfl, rfl, h0, hA⟩ := trodAll_cons hA
    obtain ⟨v1, as1, d1, ds1, p1, q1, rfl, rfl, rfl, h1, hA⟩ := trodAll_cons hA
    obtain ⟨v2, as2, d2, ds2, p2, q2, rfl, rfl, rfl, h2, hA⟩ := trodAll_cons hA
    obtain ⟨v3, as3, d3, ds3, p3, q3, rfl, rfl, rfl, h3, hA⟩ := trodAll_cons hA
    obtain ⟨rfl, rfl, rfl⟩ := trodAll_nil hA
    obtain ⟨f, rfl, _, _, _⟩ := open_int Tryz.underlying3 (hval 1 3 v1 rfl rfl) h1
    obtain ⟨t, rfl, _, _, _⟩ := open_int Tryz.underlying3 (hval 2 3 v2 rfl rfl) h2
    exact callsHouseWalks W hL (hval 0 26 v0 rfl rfl) h0 (hval 3 47 v3 rfl rfl) h3 f t
theorem jHouseWalks0 : (Rows.houseWalksRow.wf (OpenSpec.ofChange Rows.houseWalksSpec)) = true := by kernel_rfl
theorem jHouseWalks1 : (laidOutB Tryz.prog) = true := sh1
theorem jHouseWalks2 : (mapsRowed Tryz.prog) = true := sh2
theorem jHouseWalks3 : (Tryz.f6.params.all (Tryz.prog.readableRec ·)) = true := by kernel_rfl
theorem jHouseWalks4 : (namedTie Tryz.prog Rows.houseWalksRow.named Rows.houseWalksSpec.vars) = true := by kernel_rfl
theorem jHouseWalks5 : ((Rows.houseWalksRow.stops == [])) = true := by kernel_rfl
theorem jHouseWalks6 : ((Tryz.prog.stops == [])) = true := sh6
theorem jHouseWalks7 : ((Rows.houseWalksRow.knobs == [])) = true := by kernel_rfl
theorem jHouseWalks8 : ((Tryz.prog.stopKnobs == [])) = true := sh8
theorem jHouseWalks9 : ((Rows.houseWalksRow.inPlace == Tryz.prog.inPlace 6)) = true := by kernel_rfl
theorem jHouseWalks10 : ((Rows.houseWalksRow.unfollowed == Tryz.prog.unfollowed 6)) = true := by kernel_rfl
theorem jHouseWalks11 : ((Rows.houseWalksRow.recurses == Tryz.prog.recurses 6)) = true := by kernel_rfl
theorem jHouseWalks12 : ((Rows.houseWalksRow.named == Tryz.prog.varsNamed 6)) = true := by kernel_rfl
theorem jHouseWalks13 : ((Rows.houseWalksRow.maps == (Tryz.f6.params.toList ++ Rows.houseWalksSpec.plain.varTypes Tryz.prog).any (Tryz.prog.mapsRec ·))) = true := by kernel_rfl
theorem jHouseWalks14 : ((Rows.houseWalksRow.ifaces == (Tryz.f6.params.toList ++ Rows.houseWalksSpec.plain.varTypes Tryz.prog).any (Tryz.prog.ifacesRec ·))) = true := by kernel_rfl
theorem jHouseWalks15 : ((Rows.houseWalksRow.mapsOut == Tryz.prog.mapsAmong Tryz.f6.resultTypes.toList)) = true := by kernel_rfl
theorem jHouseWalks16 : ((Rows.houseWalksRow.loops == (Tryz.f6.params.toList ++ Rows.houseWalksSpec.plain.varTypes Tryz.prog).any (Tryz.prog.loopsFrom ·))) = true := by kernel_rfl
theorem jHouseWalks17 : ((Rows.houseWalksRow.wideKeys == (Tryz.f6.params.toList ++ Rows.houseWalksSpec.plain.varTypes Tryz.prog ++ Tryz.f6.resultTypes.toList).any (Tryz.prog.wideKeysFrom ·))) = true := by kernel_rfl
theorem jHouseWalks18 : (Rows.houseWalksSpec.vars.all (Tryz.prog.varReadable ·)) = true := by kernel_rfl
theorem jHouseWalks19 : (Tryz.f6.resultTypes.all (fun t => Tryz.prog.readableRec t && decide (t < Tryz.prog.types.size))) = true := by kernel_rfl
theorem jHouseWalks20 : ((Rows.houseWalksRow.ifacesOut == Tryz.f6.resultTypes.toList.any (Tryz.prog.ifacesRec ·))) = true := by kernel_rfl
theorem jHouseWalks21 : ((Rows.houseWalksRow.loopsOut == Tryz.f6.resultTypes.toList.any (Tryz.prog.loopsFrom ·))) = true := by kernel_rfl
theorem jHouseWalks22 : ((Rows.houseWalksRow.plainKeys == Tryz.prog.plainKeys)) = true := sh22
theorem jHouseWalks23 : (Rows.houseWalksRow.shortTexts.isNone) = true := by kernel_rfl
theorem jHouseWalks24 : (Tryz.prog.stopsHeard) = true := sh24
theorem jHouseWalks25 : (Tryz.prog.mayEnter) = true := sh25
theorem jHouseWalks26 : ((Rows.houseWalksRow.lifted == Tryz.prog.liftsFinal)) = true := sh26
theorem jHouseWalks27 : ((Tryz.prog.make == some Rows.houseWalksRow.make)) = true := sh27
theorem jHouseWalks28 : ((Rows.houseWalksRow.kinds == (if Rows.houseWalksRow.domain.isEmpty then [] else Tryz.f6.params.toList.map fun t => match Tryz.prog.underlying t with | some (.int k) => some k | _ => none))) = true := by kernel_rfl
theorem jHouseWalks29 : ((Rows.houseWalksRow.pinned == Rows.houseWalksRow.pinnedBy)) = true := sh29
theorem jHouseWalks30 : ((Rows.houseWalksRow.veiled == (Tryz.f6.params.toList ++ Rows.houseWalksSpec.plain.varTypes Tryz.prog ++ Tryz.f6.resultTypes.toList).any (Tryz.prog.veiledRec ·))) = true := by kernel_rfl
theorem jHouseWalks31 : (Rows.houseWalksRow.veiledFits Tryz.prog Tryz.f6.params.toList (Tryz.f6.params.toList ++ Rows.houseWalksSpec.plain.varTypes Tryz.prog ++ Tryz.f6.resultTypes.toList)) = true := by kernel_rfl
theorem jfHouseWalks : joinedFacts Tryz.prog 6 Tryz.f6 Rows.houseWalksSpec Rows.houseWalksRow = true := (band (band (band (band (band (band (band (band (band (band (band (band (band (band (band (band (band (band (band (band (band (band (band (band (band (band (band (band (band (band (band jHouseWalks0 jHouseWalks1) jHouseWalks2) jHouseWalks3) jHouseWalks4) jHouseWalks5) jHouseWalks6) jHouseWalks7) jHouseWalks8) jHouseWalks9) jHouseWalks10) jHouseWalks11) jHouseWalks12) jHouseWalks13) jHouseWalks14) jHouseWalks15) jHouseWalks16) jHouseWalks17) jHouseWalks18) jHouseWalks19) jHouseWalks20) jHouseWalks21) jHouseWalks22) jHouseWalks23) jHouseWalks24) jHouseWalks25) jHouseWalks26) jHouseWalks27) jHouseWalks28) jHouseWalks29) jHouseWalks30) jHouseWalks31)
theorem row_holdsHouseWalks : Rows.HouseWalksSaid :=
  OpenClaim.holds_of_wide 6 Tryz.f6 rfl rfl rfl rfl rfl rfl rfl ⟨rfl, rfl, rfl, rfl, rfl⟩ rfl rfl rfl rfl rfl (by kernel_rfl) Tryz.func6 jfHouseWalks
    (of_decide_eq_true (by kernel_rfl)) (by unfold Func.isWrapper; first | (rw [if_pos (by decide +kernel)]; kernel_rfl) | (rw [if_neg (by decide +kernel)]; exact ⟨rfl, rfl⟩))
    (fun os started H enc _ => liftedHouseWalks os started H enc)
theorem houseWalks_holds : Rows.HouseWalksCardSaid :=
  Claim7.holds_tied_plain_at .later [] [.data, .data, .data] true (true, "4e618f33cc17afbde1f6d9a014ad85e9fad687eaa96434e3d1147b07e51ddefd") false
    row_holdsHouseWalks (fun _ h => by cases h) (by kernel_rfl) (fun _ h => by cases h) houseWalks_row_tie rfl ⟨rfl, rfl⟩ (by kernel_rfl) rfl
    (fun f fn hf hfn => by
      obtain rfl : f = 6 := Option.some.inj ((show Tryz.prog.funcNamed "patrol/patrollaw03.HouseWalks" = some 6 by kernel_rfl).symm.trans hf) |>.symm
      obtain rfl : fn = Tryz.f6 := (Option.some.inj (Tryz.func6.symm.trans hfn)).symm
      exact ⟨by kernel_rfl, fun j t ht => by
        have hm : t ∈ Tryz.f6.params.toList := by simpa using Array.mem_of_getElem? ht
        have hall : (Tryz.f6.params.toList.all fun u => !Tryz.prog.wantsStandIn u) = true := by kernel_rfl
        exact (show Tryz.prog.wantsStandIn t = false by simpa using List.all_eq_true.1 hall t hm)⟩)
    (by kernel_rfl)
#print axioms houseWalks_holds
end Go.Proofs.YtfjnbekocdffbaaGreatDoor
