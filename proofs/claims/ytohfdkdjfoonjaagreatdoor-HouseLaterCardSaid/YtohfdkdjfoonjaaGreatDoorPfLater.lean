/-
  HouseLater: for all houses, rooms, times and lists the law returns true; conditions: none but that the listed package-level variables hold what the program's text lays.
-/
import Derived.Test.YtohfdkdjfoonjaaGreatDoorEvM15
import Derived.Test.YtohfdkdjfoonjaaGreatDoorOpI
import Derived.Test.YtohfdkdjfoonjaaGreatDoorSdH
import Derived.Test.YtohfdkdjfoonjaaGreatDoorBO
import Derived.Test.YtohfdkdjfoonjaaGreatDoorAE4
import Derived.Test.YtohfdkdjfoonjaaGreatDoorRows
import Derived.Test.YtohfdkdjfoonjaaGreatDoorTie
import Derived.Test.YtohfdkdjfoonjaaGreatDoorCards
import Derived.SevenTiedAt
import Derived.LaidMore
import Derived.ChangeMaps5
set_option linter.unusedSimpArgs false
set_option linter.unusedVariables false
namespace Go.Proofs.YtohfdkdjfoonjaaGreatDoor
open Go Go.RowKit Go.Aev Go.Proofs Go.ChangeShapes Go.WideShapes Go.ChangeMaps
set_option maxRecDepth 100000
theorem callsHouseLater {H : Type} {enc : TypeId × Value → H} (W : World) (hL : laidMet Tryz.prog laidZ W) {b0 : Nat} {v0 : Value} {d0 : DataW H} {p0 : List MemPlace} (hv0 : Value.okWide Tryz.prog W .any b0 26 v0) (h0 : DataW.Trod enc Tryz.prog W 0 (fun _ => true) true 26 v0 d0 p0) {b7 : Nat} {v7 : Value} {d7 : DataW H} {p7 : List MemPlace} (hv7 : Value.okWide Tryz.prog W .any b7 54 v7) (h7 : DataW.Trod enc Tryz.prog W 0 (fun _ => true) true 54 v7 d7 p7) (a : Int) (b : Int) (way : Int) (back : Bool) (t0 : Int) (u0 : Int) :
    Calls Tryz.prog 15 #[v0, .int .i64 a, .int .i64 b, .int .i64 way, .bool back, .int .i64 t0, .int .i64 u0, v7] W fun e w' => e = .returned (.bool true) ∧ Below W.heap.size W w' := by
  obtain ⟨σ, hr⟩ := HR.ofLaid hL seat.lt seat.max seat.self
  obtain ⟨cs0, rfl⟩ := okWide_agg Tryz.underlying26 hv0
  obtain ⟨σ0, S0, cw0, h, le0, hr0, a0, x0, r0⟩ := hr.argO House.opHs h0
  obtain ⟨w0_0, w0_1, w0_2, rfl, r0_0, r0_1, r0_2⟩ := r0
  replace x0 : VR σ0 (.agg #[w0_0, w0_1, w0_2]) (.agg cs0) := agg_vr x0
  obtain ⟨σ7, S7, cw7, l, le7, hr7, a7, x7, r7⟩ := hr0.argO House.opInts h7
  obtain ⟨w7, rfl, r7⟩ := r7
  replace x7 : VR σ7 w7 v7 := slice_vr Tryz.underlying54 hv7 x7
  replace r0_0 := r0_0.agree a7
  replace r0_1 := r0_1.agree a7
  replace r0_2 := r0_2.agree a7
  replace x0 := x0.mono le7
  obtain ⟨S', hrun, _⟩ := (by have h' := House.c15 h a b way back t0 u0 l (House.rooms_size r0_0) S7 w0_0 r0_0 w0_1 r0_1 w0_2 r0_2 w7 r7.flat; rw [House.r15_true] at h'; exact h')
  refine seat.law (args := #[.agg #[w0_0, w0_1, w0_2], .int .i64 a, .int .i64 b, .int .i64 way, .bool back, .int .i64 t0, .int .i64 u0, w7]) hL hr7 ⟨rfl, fun i hi => ?_⟩ rfl hrun
  match i, hi with
  | 0, _ => exact x0
  | 1, _ => exact selfB_spec σ7 8 _ rfl
  | 2, _ => exact selfB_spec σ7 8 _ rfl
  | 3, _ => exact selfB_spec σ7 8 _ rfl
  | 4, _ => exact selfB_spec σ7 8 _ rfl
  | 5, _ => exact selfB_spec σ7 8 _ rfl
  | 6, _ => exact selfB_spec σ7 8 _ rfl
  | 7, _ => exact x7
theorem liftedHouseLater (os : Os) (started : os.Started) (H : Type) (enc : TypeId × Value → H) :
    ReturnsInHanded {} Tryz.checked os 15 .any (fun w args => (Rows.houseLaterSpec.pre enc Tryz.prog Tryz.f15 [] false w args ∧ laidMetH Tryz.prog laidZ w) ∧ sizedMet enc Tryz.prog Tryz.f15 (OpenSpec.ofChange Rows.houseLaterSpec) false w args)
      (Rows.houseLaterSpec.post enc Tryz.prog Tryz.f15 false true false false) := by
  refine law_lifted (C := Tryz.checked) (laid := laidZ) own started (by kernel_rfl) Tryz.func15 (by kernel_rfl) rfl laidOut (by kernel_rfl) (tb := 4) (by kernel_rfl) Tryz.underlying4 (fun ds hd => ?_)
    (ChangeSpec.witness_shaped (enc := enc) (C := Tryz.checked) (os := os) (X := fun w _ => laidMetH Tryz.prog laidZ w) false (World.doorLaid Tryz.prog 400 os) #[.agg #[.slice none 0 0, .slice none 0 0, .slice none 0 0], .int .i64 0, .int .i64 0, .int .i64 0, .bool false, .int .i64 0, .int .i64 0, .slice none 0 0] 8 rfl (World.shaped_of_RefB (by kernel_rfl) (by kernel_rfl)) (by kernel_rfl) (by kernel_rfl) (by kernel_rfl) (door_met os _))
    (fun W base args ds p hval hA hlt hw hL => ?_)
  · rw [Tryz.params15] at hd
    match ds, hd with
    | [d0, d1, d2, d3, d4, d5, d6, d7], _ => rfl
  · rw [Tryz.params15] at hA hval
    obtain ⟨args⟩ := args
    obtain ⟨v0, as0, d0, ds0, p0, q0, rfl, rfl, rfl, h0, hA⟩ := trodAll_cons hA
    obtain ⟨v1, as1, d1, ds1, p1, q1, rfl, rfl, rfl, h1, hA⟩ := trodAll_cons hA
    obtain ⟨v2, as2, d2, ds2, p2, q2, rfl, rfl, rfl, h2, hA⟩ := trodAll_cons hA
    obtain ⟨v3, as3, d3, ds3, p3, q3, rfl, rfl, rfl, h3, hA⟩ := trodAll_cons hA
    obtain ⟨v4, as4, d4, ds4, p4, q4, rfl, rfl, rfl, h4, hA⟩ := trodAll_cons hA
    obtain ⟨v5, as5, d5, ds5, p5, q5, rfl, rfl, rfl, h5, hA⟩ := trodAll_cons hA
    obtain ⟨v6, as6, d6, ds6, p6, q6, rfl, rfl, rfl, h6, hA⟩ := trodAll_cons hA
    obtain ⟨v7, as7, d7, ds7, p7, q7, rfl, rfl, rfl, h7, hA⟩ := trodAll_cons hA
    obtain ⟨rfl, rfl, rfl⟩ := trodAll_nil hA
    obtain ⟨a, rfl, _, _, _⟩ := open_int Tryz.underlying3 (hval 1 3 v1 rfl rfl) h1
    obtain ⟨b, rfl, _, _, _⟩ := open_int Tryz.underlying3 (hval 2 3 v2 rfl rfl) h2
    obtain ⟨way, rfl, _, _, _⟩ := open_int Tryz.underlying3 (hval 3 3 v3 rfl rfl) h3
    obtain ⟨back, rfl, _⟩ := open_bool Tryz.underlying4 (hval 4 4 v4 rfl rfl) h4
    obtain ⟨t0, rfl, _, _, _⟩ := open_int Tryz.underlying3 (hval 5 3 v5 rfl rfl) h5
    obtain ⟨u0, rfl, _, _, _⟩ := open_int Tryz.underlying3 (hval 6 3 v6 rfl rfl) h6
    exact callsHouseLater W hL (hval 0 26 v0 rfl rfl) h0 (hval 7 54 v7 rfl rfl) h7 a b way back t0 u0
theorem jHouseLater0 : (Rows.houseLaterRow.wf (OpenSpec.ofChange Rows.houseLaterSpec)) = true := by kernel_rfl
theorem jHouseLater1 : (laidOutB Tryz.prog) = true := sh1
theorem jHouseLater2 : (mapsRowed Tryz.prog) = true := sh2
theorem jHouseLater3 : (Tryz.f15.params.all (Tryz.prog.readableRec ·)) = true := by kernel_rfl
theorem jHouseLater4 : (namedTie Tryz.prog Rows.houseLaterRow.named Rows.houseLaterSpec.vars) = true := by kernel_rfl
theorem jHouseLater5 : ((Rows.houseLaterRow.stops == [])) = true := by kernel_rfl
theorem jHouseLater6 : ((Tryz.prog.stops == [])) = true := sh6
theorem jHouseLater7 : ((Rows.houseLaterRow.knobs == [])) = true := by kernel_rfl
theorem jHouseLater8 : ((Tryz.prog.stopKnobs == [])) = true := sh8
theorem jHouseLater9 : ((Rows.houseLaterRow.inPlace == Tryz.prog.inPlace 15)) = true := by kernel_rfl
theorem jHouseLater10 : ((Rows.houseLaterRow.unfollowed == Tryz.prog.unfollowed 15)) = true := by kernel_rfl
theorem jHouseLater11 : ((Rows.houseLaterRow.recurses == Tryz.prog.recurses 15)) = true := by kernel_rfl
theorem jHouseLater12 : ((Rows.houseLaterRow.named == Tryz.prog.varsNamed 15)) = true := by kernel_rfl
theorem jHouseLater13 : ((Rows.houseLaterRow.maps == (Tryz.f15.params.toList ++ Rows.houseLaterSpec.plain.varTypes Tryz.prog).any (Tryz.prog.mapsRec ·))) = true := by kernel_rfl
theorem jHouseLater14 : ((Rows.houseLaterRow.ifaces == (Tryz.f15.params.toList ++ Rows.houseLaterSpec.plain.varTypes Tryz.prog).any (Tryz.prog.ifacesRec ·))) = true := by kernel_rfl
theorem jHouseLater15 : ((Rows.houseLaterRow.mapsOut == Tryz.prog.mapsAmong Tryz.f15.resultTypes.toList)) = true := by kernel_rfl
theorem jHouseLater16 : ((Rows.houseLaterRow.loops == (Tryz.f15.params.toList ++ Rows.houseLaterSpec.plain.varTypes Tryz.prog).any (Tryz.prog.loopsFrom ·))) = true := by kernel_rfl
theorem jHouseLater17 : ((Rows.houseLaterRow.wideKeys == (Tryz.f15.params.toList ++ Rows.houseLaterSpec.plain.varTypes Tryz.prog ++ Tryz.f15.resultTypes.toList).any (Tryz.prog.wideKeysFrom ·))) = true := by kernel_rfl
theorem jHouseLater18 : (Rows.houseLaterSpec.vars.all (Tryz.prog.varReadable ·)) = true := by kernel_rfl
theorem jHouseLater19 : (Tryz.f15.resultTypes.all (fun t => Tryz.prog.readableRec t && decide (t < Tryz.prog.types.size))) = true := by kernel_rfl
theorem jHouseLater20 : ((Rows.houseLaterRow.ifacesOut == Tryz.f15.resultTypes.toList.any (Tryz.prog.ifacesRec ·))) = true := by kernel_rfl
theorem jHouseLater21 : ((Rows.houseLaterRow.loopsOut == Tryz.f15.resultTypes.toList.any (Tryz.prog.loopsFrom ·))) = true := by kernel_rfl
theorem jHouseLater22 : ((Rows.houseLaterRow.plainKeys == Tryz.prog.plainKeys)) = true := sh22
theorem jHouseLater23 : (Rows.houseLaterRow.shortTexts.isNone) = true := by kernel_rfl
theorem jHouseLater24 : (Tryz.prog.stopsHeard) = true := sh24
theorem jHouseLater25 : (Tryz.prog.mayEnter) = true := sh25
theorem jHouseLater26 : ((Rows.houseLaterRow.lifted == Tryz.prog.liftsFinal)) = true := sh26
theorem jHouseLater27 : ((Tryz.prog.make == some Rows.houseLaterRow.make)) = true := sh27
theorem jHouseLater28 : ((Rows.houseLaterRow.kinds == (if Rows.houseLaterRow.domain.isEmpty then [] else Tryz.f15.params.toList.map fun t => match Tryz.prog.underlying t with | some (.int k) => some k | _ => none))) = true := by kernel_rfl
theorem jHouseLater29 : ((Rows.houseLaterRow.pinned == Rows.houseLaterRow.pinnedBy)) = true := sh29
theorem jHouseLater30 : ((Rows.houseLaterRow.veiled == (Tryz.f15.params.toList ++ Rows.houseLaterSpec.plain.varTypes Tryz.prog ++ Tryz.f15.resultTypes.toList).any (Tryz.prog.veiledRec ·))) = true := by kernel_rfl
theorem jHouseLater31 : (Rows.houseLaterRow.veiledFits Tryz.prog Tryz.f15.params.toList (Tryz.f15.params.toList ++ Rows.houseLaterSpec.plain.varTypes Tryz.prog ++ Tryz.f15.resultTypes.toList)) = true := by kernel_rfl
theorem jfHouseLater : joinedFacts Tryz.prog 15 Tryz.f15 Rows.houseLaterSpec Rows.houseLaterRow = true := (band (band (band (band (band (band (band (band (band (band (band (band (band (band (band (band (band (band (band (band (band (band (band (band (band (band (band (band (band (band (band jHouseLater0 jHouseLater1) jHouseLater2) jHouseLater3) jHouseLater4) jHouseLater5) jHouseLater6) jHouseLater7) jHouseLater8) jHouseLater9) jHouseLater10) jHouseLater11) jHouseLater12) jHouseLater13) jHouseLater14) jHouseLater15) jHouseLater16) jHouseLater17) jHouseLater18) jHouseLater19) jHouseLater20) jHouseLater21) jHouseLater22) jHouseLater23) jHouseLater24) jHouseLater25) jHouseLater26) jHouseLater27) jHouseLater28) jHouseLater29) jHouseLater30) jHouseLater31)
theorem row_holdsHouseLater : Rows.HouseLaterSaid :=
  OpenClaim.holds_of_wide 15 Tryz.f15 rfl rfl rfl rfl rfl rfl rfl ⟨rfl, rfl, rfl, rfl, rfl⟩ rfl rfl rfl rfl rfl (by kernel_rfl) Tryz.func15 jfHouseLater
    (of_decide_eq_true (by kernel_rfl)) (by unfold Func.isWrapper; first | (rw [if_pos (by decide +kernel)]; kernel_rfl) | (rw [if_neg (by decide +kernel)]; exact ⟨rfl, rfl⟩))
    (fun os started H enc _ => liftedHouseLater os started H enc)
theorem houseLater_holds : Rows.HouseLaterCardSaid :=
  Claim7.holds_tied_plain_at .later [] [.data, .data, .data] true (true, "4e618f33cc17afbde1f6d9a014ad85e9fad687eaa96434e3d1147b07e51ddefd") false
    row_holdsHouseLater (fun _ h => by cases h) (by kernel_rfl) (fun _ h => by cases h) houseLater_row_tie rfl ⟨rfl, rfl⟩ (by kernel_rfl) rfl
    (fun f fn hf hfn => by
      obtain rfl : f = 15 := Option.some.inj ((show Tryz.prog.funcNamed "patrol/patrollaw03.HouseLater" = some 15 by kernel_rfl).symm.trans hf) |>.symm
      obtain rfl : fn = Tryz.f15 := (Option.some.inj (Tryz.func15.symm.trans hfn)).symm
      exact ⟨by kernel_rfl, fun j t ht => by
        have hm : t ∈ Tryz.f15.params.toList := by simpa using Array.mem_of_getElem? ht
        have hall : (Tryz.f15.params.toList.all fun u => !Tryz.prog.wantsStandIn u) = true := by kernel_rfl
        exact (show Tryz.prog.wantsStandIn t = false by simpa using List.all_eq_true.1 hall t hm)⟩)
    (by kernel_rfl)
#print axioms houseLater_holds
end Go.Proofs.YtohfdkdjfoonjaaGreatDoor
