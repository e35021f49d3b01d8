/-
  HouseWalked: for all houses, rooms, times, and walks made of raw numbers the law returns true; conditions: none but that the listed package-level variables hold what the program's text lays.
-/
import Derived.Test.YtohfdkdjfoonjaaGreatDoorBAA
import Derived.Test.YtohfdkdjfoonjaaGreatDoorOpI
import Derived.Test.YtohfdkdjfoonjaaGreatDoorSdH
import Derived.Test.YtohfdkdjfoonjaaGreatDoorBO
import Derived.Test.YtohfdkdjfoonjaaGreatDoorAE4
import Derived.Test.YtohfdkdjfoonjaaGreatDoorRows
import Derived.Test.YtohfdkdjfoonjaaGreatDoorTie
import Derived.Test.YtohfdkdjfoonjaaGreatDoorCards
import Derived.SevenTiedAt
import Derived.LaidMore
import Derived.ChangeMaps5
set_option linter.unusedSimpArgs false
set_option linter.unusedVariables false
namespace Go.Proofs.YtohfdkdjfoonjaaGreatDoor
open Go Go.RowKit Go.Aev Go.Proofs Go.ChangeShapes Go.WideShapes Go.ChangeMaps
set_option maxRecDepth 100000
theorem callsHouseWalked {H : Type} {enc : TypeId × Value → H} (W : World) (hL : laidMet Tryz.prog laidZ W) {b0 : Nat} {v0 : Value} {d0 : DataW H} {p0 : List MemPlace} (hv0 : Value.okWide Tryz.prog W .any b0 26 v0) (h0 : DataW.Trod enc Tryz.prog W 0 (fun _ => true) true 26 v0 d0 p0) {b3 : Nat} {v3 : Value} {d3 : DataW H} {p3 : List MemPlace} (hv3 : Value.okWide Tryz.prog W .any b3 54 v3) (h3 : DataW.Trod enc Tryz.prog W 0 (fun _ => true) true 54 v3 d3 p3) {b4 : Nat} {v4 : Value} {d4 : DataW H} {p4 : List MemPlace} (hv4 : Value.okWide Tryz.prog W .any b4 54 v4) (h4 : DataW.Trod enc Tryz.prog W 0 (fun _ => true) true 54 v4 d4 p4) (a : Int) (t0 : Int) :
    Calls Tryz.prog 16 #[v0, .int .i64 a, .int .i64 t0, v3, v4] W fun e w' => e = .returned (.bool true) ∧ Below W.heap.size W w' := by
  obtain ⟨σ, hr⟩ := HR.ofLaid hL seat.lt seat.max seat.self
  obtain ⟨cs0, rfl⟩ := okWide_agg Tryz.underlying26 hv0
  obtain ⟨σ0, S0, cw0, h, le0, hr0, a0, x0, r0⟩ := hr.argO House.opHs h0
  obtain ⟨w0_0, w0_1, w0_2, rfl, r0_0, r0_1, r0_2⟩ := r0
  replace x0 : VR σ0 (.agg #[w0_0, w0_1, w0_2]) (.agg cs0) := agg_vr x0
  obtain ⟨σ3, S3, cw3, l, le3, hr3, a3, x3, r3⟩ := hr0.argO House.opInts h3
  obtain ⟨w3, rfl, r3⟩ := r3
  replace x3 : VR σ3 w3 v3 := slice_vr Tryz.underlying54 hv3 x3
  replace r0_0 := r0_0.agree a3
  replace r0_1 := r0_1.agree a3
  replace r0_2 := r0_2.agree a3
  replace x0 := x0.mono le3
  obtain ⟨σ4, S4, cw4, q, le4, hr4, a4, x4, r4⟩ := hr3.argO House.opInts h4
  obtain ⟨w4, rfl, r4⟩ := r4
  replace x4 : VR σ4 w4 v4 := slice_vr Tryz.underlying54 hv4 x4
  replace r0_0 := r0_0.agree a4
  replace r0_1 := r0_1.agree a4
  replace r0_2 := r0_2.agree a4
  replace x0 := x0.mono le4
  replace r3 := r3.agree a4
  replace x3 := x3.mono le4
  obtain ⟨S', hrun, _⟩ := (by have h' := House.c16 h a t0 l q (House.rooms_size r0_0) S4 w0_0 r0_0 w0_1 r0_1 w0_2 r0_2 w3 r3.flat w4 r4.flat; rw [House.r16_true] at h'; exact h')
  refine seat.law (args := #[.agg #[w0_0, w0_1, w0_2], .int .i64 a, .int .i64 t0, w3, w4]) hL hr4 ⟨rfl, fun i hi => ?_⟩ rfl hrun
  match i, hi with
  | 0, _ => exact x0
  | 1, _ => exact selfB_spec σ4 8 _ rfl
  | 2, _ => exact selfB_spec σ4 8 _ rfl
  | 3, _ => exact x3
  | 4, _ => exact x4
theorem liftedHouseWalked (os : Os) (started : os.Started) (H : Type) (enc : TypeId × Value → H) :
    ReturnsInHanded {} Tryz.checked os 16 .any (fun w args => (Rows.houseWalkedSpec.pre enc Tryz.prog Tryz.f16 [] false w args ∧ laidMetH Tryz.prog laidZ w) ∧ sizedMet enc Tryz.prog Tryz.f16 (OpenSpec.ofChange Rows.houseWalkedSpec) false w args)
      (Rows.houseWalkedSpec.post enc Tryz.prog Tryz.f16 false true false false) := by
  refine law_lifted (C := Tryz.checked) (laid := laidZ) own started (by kernel_rfl) Tryz.func16 (by kernel_rfl) rfl laidOut (by kernel_rfl) (tb := 4) (by kernel_rfl) Tryz.underlying4 (fun ds hd => ?_)
    (ChangeSpec.witness_shaped (enc := enc) (C := Tryz.checked) (os := os) (X := fun w _ => laidMetH Tryz.prog laidZ w) false (World.doorLaid Tryz.prog 400 os) #[.agg #[.slice none 0 0, .slice none 0 0, .slice none 0 0], .int .i64 0, .int .i64 0, .slice none 0 0, .slice none 0 0] 8 rfl (World.shaped_of_RefB (by kernel_rfl) (by kernel_rfl)) (by kernel_rfl) (by kernel_rfl) (by kernel_rfl) (door_met os _))
    (fun W base args ds p hval hA hlt hw hL => ?_)
  · rw [Tryz.params16] at hd
    match ds, hd with
    | [d0, d1, d2, d3, d4], _ => rfl
  · rw [Tryz.params16] at hA hval
    obtain ⟨args⟩ := args
    obtain ⟨v0, as0, d0, ds0, p0, q0, rfl, rfl, rfl, h0, hA⟩ := trodAll_cons hA
    obtain ⟨v1, as1, d1, ds1, p1, q1, rfl, rfl, rfl, h1, hA⟩ := trodAll_cons hA
    obtain ⟨v2, as2, d2, ds2, p2, q2, rfl, rfl, rfl, h2, hA⟩ := trodAll_cons hA
    obtain ⟨v3, as3, d3, ds3, p3, q3, rfl, rfl, rfl, h3, hA⟩ := trodAll_cons hA
    obtain ⟨v4, as4, d4, ds4, p4, q4, rfl, rfl, rfl, h4, hA⟩ := trodAll_cons hA
    obtain ⟨rfl, rfl, rfl⟩ := trodAll_nil hA
    obtain ⟨a, rfl, _, _, _⟩ := open_int Tryz.underlying3 (hval 1 3 v1 rfl rfl) h1
    obtain ⟨t0, rfl, _, _, _⟩ := open_int Tryz.underlying3 (hval 2 3 v2 rfl rfl) h2
    exact callsHouseWalked W hL (hval 0 26 v0 rfl rfl) h0 (hval 3 54 v3 rfl rfl) h3 (hval 4 54 v4 rfl rfl) h4 a t0
theorem jHouseWalked0 : (Rows.houseWalkedRow.wf (OpenSpec.ofChange Rows.houseWalkedSpec)) = true := by kernel_rfl
theorem jHouseWalked1 : (laidOutB Tryz.prog) = true := sh1
theorem jHouseWalked2 : (mapsRowed Tryz.prog) = true := sh2
theorem jHouseWalked3 : (Tryz.f16.params.all (Tryz.prog.readableRec ·)) = true := by kernel_rfl
theorem jHouseWalked4 : (namedTie Tryz.prog Rows.houseWalkedRow.named Rows.houseWalkedSpec.vars) = true := by kernel_rfl
theorem jHouseWalked5 : ((Rows.houseWalkedRow.stops == [])) = true := by kernel_rfl
theorem jHouseWalked6 : ((Tryz.prog.stops == [])) = true := sh6
theorem jHouseWalked7 : ((Rows.houseWalkedRow.knobs == [])) = true := by kernel_rfl
theorem jHouseWalked8 : ((Tryz.prog.stopKnobs == [])) = true := sh8
theorem jHouseWalked9 : ((Rows.houseWalkedRow.inPlace == Tryz.prog.inPlace 16)) = true := by kernel_rfl
theorem jHouseWalked10 : ((Rows.houseWalkedRow.unfollowed == Tryz.prog.unfollowed 16)) = true := by kernel_rfl
theorem jHouseWalked11 : ((Rows.houseWalkedRow.recurses == Tryz.prog.recurses 16)) = true := by kernel_rfl
theorem jHouseWalked12 : ((Rows.houseWalkedRow.named == Tryz.prog.varsNamed 16)) = true := by kernel_rfl
theorem jHouseWalked13 : ((Rows.houseWalkedRow.maps == (Tryz.f16.params.toList ++ Rows.houseWalkedSpec.plain.varTypes Tryz.prog).any (Tryz.prog.mapsRec ·))) = true := by kernel_rfl
theorem jHouseWalked14 : ((Rows.houseWalkedRow.ifaces == (Tryz.f16.params.toList ++ Rows.houseWalkedSpec.plain.varTypes Tryz.prog).any (Tryz.prog.ifacesRec ·))) = true := by kernel_rfl
theorem jHouseWalked15 : ((Rows.houseWalkedRow.mapsOut == Tryz.prog.mapsAmong Tryz.f16.resultTypes.toList)) = true := by kernel_rfl
theorem jHouseWalked16 : ((Rows.houseWalkedRow.loops == (Tryz.f16.params.toList ++ Rows.houseWalkedSpec.plain.varTypes Tryz.prog).any (Tryz.prog.loopsFrom ·))) = true := by kernel_rfl
theorem jHouseWalked17 : ((Rows.houseWalkedRow.wideKeys == (Tryz.f16.params.toList ++ Rows.houseWalkedSpec.plain.varTypes Tryz.prog ++ Tryz.f16.resultTypes.toList).any (Tryz.prog.wideKeysFrom ·))) = true := by kernel_rfl
theorem jHouseWalked18 : (Rows.houseWalkedSpec.vars.all (Tryz.prog.varReadable ·)) = true := by kernel_rfl
theorem jHouseWalked19 : (Tryz.f16.resultTypes.all (fun t => Tryz.prog.readableRec t && decide (t < Tryz.prog.types.size))) = true := by kernel_rfl
theorem jHouseWalked20 : ((Rows.houseWalkedRow.ifacesOut == Tryz.f16.resultTypes.toList.any (Tryz.prog.ifacesRec ·))) = true := by kernel_rfl
theorem jHouseWalked21 : ((Rows.houseWalkedRow.loopsOut == Tryz.f16.resultTypes.toList.any (Tryz.prog.loopsFrom ·))) = true := by kernel_rfl
theorem jHouseWalked22 : ((Rows.houseWalkedRow.plainKeys == Tryz.prog.plainKeys)) = true := sh22
theorem jHouseWalked23 : (Rows.houseWalkedRow.shortTexts.isNone) = true := by kernel_rfl
theorem jHouseWalked24 : (Tryz.prog.stopsHeard) = true := sh24
theorem jHouseWalked25 : (Tryz.prog.mayEnter) = true := sh25
theorem jHouseWalked26 : ((Rows.houseWalkedRow.lifted == Tryz.prog.liftsFinal)) = true := sh26
theorem jHouseWalked27 : ((Tryz.prog.make == some Rows.houseWalkedRow.make)) = true := sh27
theorem jHouseWalked28 : ((Rows.houseWalkedRow.kinds == (if Rows.houseWalkedRow.domain.isEmpty then [] else Tryz.f16.params.toList.map fun t => match Tryz.prog.underlying t with | some (.int k) => some k | _ => none))) = true := by kernel_rfl
theorem jHouseWalked29 : ((Rows.houseWalkedRow.pinned == Rows.houseWalkedRow.pinnedBy)) = true := sh29
theorem jHouseWalked30 : ((Rows.houseWalkedRow.veiled == (Tryz.f16.params.toList ++ Rows.houseWalkedSpec.plain.varTypes Tryz.prog ++ Tryz.f16.resultTypes.toList).any (Tryz.prog.veiledRec ·))) = true := by kernel_rfl
theorem jHouseWalked31 : (Rows.houseWalkedRow.veiledFits Tryz.prog Tryz.f16.params.toList (Tryz.f16.params.toList ++ Rows.houseWalkedSpec.plain.varTypes Tryz.prog ++ Tryz.f16.resultTypes.toList)) = true := by kernel_rfl
theorem jfHouseWalked : joinedFacts Tryz.prog 16 Tryz.f16 Rows.houseWalkedSpec Rows.houseWalkedRow = true := (band (band (band (band (band (band (band (band (band (band (band (band (band (band (band (band (band (band (band (band (band (band (band (band (band (band (band (band (band (band (band jHouseWalked0 jHouseWalked1) jHouseWalked2) jHouseWalked3) jHouseWalked4) jHouseWalked5) jHouseWalked6) jHouseWalked7) jHouseWalked8) jHouseWalked9) jHouseWalked10) jHouseWalked11) jHouseWalked12) jHouseWalked13) jHouseWalked14) jHouseWalked15) jHouseWalked16) jHouseWalked17) jHouseWalked18) jHouseWalked19) jHouseWalked20) jHouseWalked21) jHouseWalked22) jHouseWalked23) jHouseWalked24) jHouseWalked25) jHouseWalked26) jHouseWalked27) jHouseWalked28) jHouseWalked29) jHouseWalked30) jHouseWalked31)
theorem row_holdsHouseWalked : Rows.HouseWalkedSaid :=
  OpenClaim.holds_of_wide 16 Tryz.f16 rfl rfl rfl rfl rfl rfl rfl ⟨rfl, rfl, rfl, rfl, rfl⟩ rfl rfl rfl rfl rfl (by kernel_rfl) Tryz.func16 jfHouseWalked
    (of_decide_eq_true (by kernel_rfl)) (by unfold Func.isWrapper; first | (rw [if_pos (by decide +kernel)]; kernel_rfl) | (rw [if_neg (by decide +kernel)]; exact ⟨rfl, rfl⟩))
    (fun os started H enc _ => liftedHouseWalked os started H enc)
theorem houseWalked_holds : Rows.HouseWalkedCardSaid :=
  Claim7.holds_tied_plain_at .later [] [.data, .data, .data] true (true, "4e618f33cc17afbde1f6d9a014ad85e9fad687eaa96434e3d1147b07e51ddefd") false
    row_holdsHouseWalked (fun _ h => by cases h) (by kernel_rfl) (fun _ h => by cases h) houseWalked_row_tie rfl ⟨rfl, rfl⟩ (by kernel_rfl) rfl
    (fun f fn hf hfn => by
      obtain rfl : f = 16 := Option.some.inj ((show Tryz.prog.funcNamed "patrol/patrollaw03.HouseWalked" = some 16 by kernel_rfl).symm.trans hf) |>.symm
      obtain rfl : fn = Tryz.f16 := (Option.some.inj (Tryz.func16.symm.trans hfn)).symm
      exact ⟨by kernel_rfl, fun j t ht => by
        have hm : t ∈ Tryz.f16.params.toList := by simpa using Array.mem_of_getElem? ht
        have hall : (Tryz.f16.params.toList.all fun u => !Tryz.prog.wantsStandIn u) = true := by kernel_rfl
        exact (show Tryz.prog.wantsStandIn t = false by simpa using List.all_eq_true.1 hall t hm)⟩)
    (by kernel_rfl)
#print axioms houseWalked_holds
end Go.Proofs.YtohfdkdjfoonjaaGreatDoor
