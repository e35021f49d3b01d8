/-
  HouseDoors: for all houses, doors, times and spans the law returns true; conditions: none but that the listed package-level variables hold what the program's text lays.
-/
import Derived.Test.YtfjnbekocdffbaaGreatDoorEvM8
import Derived.Test.YtfjnbekocdffbaaGreatDoorSdH
import Derived.Test.YtfjnbekocdffbaaGreatDoorBO
import Derived.Test.YtfjnbekocdffbaaGreatDoorAE4
import Derived.Test.YtfjnbekocdffbaaGreatDoorRows
import Derived.Test.YtfjnbekocdffbaaGreatDoorTie
import Derived.Test.YtfjnbekocdffbaaGreatDoorCards
import Derived.SevenTiedAt
import Derived.LaidMore
import Derived.ChangeMaps5
set_option linter.unusedSimpArgs false
set_option linter.unusedVariables false
namespace Go.Proofs.YtfjnbekocdffbaaGreatDoor
open Go Go.RowKit Go.Aev Go.Proofs Go.ChangeShapes Go.WideShapes Go.ChangeMaps
set_option maxRecDepth 100000
theorem callsHouseDoors {H : Type} {enc : TypeId × Value → H} (W : World) (hL : laidMet Tryz.prog laidZ W) {b0 : Nat} {v0 : Value} {d0 : DataW H} {p0 : List MemPlace} (hv0 : Value.okWide Tryz.prog W .any b0 26 v0) (h0 : DataW.Trod enc Tryz.prog W 0 (fun _ => true) true 26 v0 d0 p0) (n : Int) (t : Int) (lo hi : Int) :
    Calls Tryz.prog 4 #[v0, .int .i64 n, .int .i64 t, .agg #[.int .i64 lo, .int .i64 hi]] W fun e w' => e = .returned (.bool true) ∧ Below W.heap.size W w' := by
  obtain ⟨σ, hr⟩ := HR.ofLaid hL seat.lt seat.max seat.self
  obtain ⟨cs0, rfl⟩ := okWide_agg Tryz.underlying26 hv0
  obtain ⟨σ0, S0, c0, h, le0, hr0, a0, x0, r0⟩ := hr.argO House.opHs h0
  obtain ⟨w0_0, w0_1, w0_2, rfl, r0_0, r0_1, r0_2⟩ := r0
  replace x0 : VR σ0 (.agg #[w0_0, w0_1, w0_2]) (.agg cs0) := agg_vr x0
  obtain ⟨S', hrun, _⟩ := (by have h' := House.c4 h n t lo hi (House.rooms_size r0_0) S0 w0_0 r0_0 w0_1 r0_1 w0_2 r0_2; rw [House.r4_true] at h'; exact h')
  refine seat.law (args := #[.agg #[w0_0, w0_1, w0_2], .int .i64 n, .int .i64 t, .agg #[.int .i64 lo, .int .i64 hi]]) hL hr0 ⟨rfl, fun i hi => ?_⟩ rfl hrun
  match i, hi with
  | 0, _ => exact x0
  | 1, _ => exact selfB_spec σ0 8 _ rfl
  | 2, _ => exact selfB_spec σ0 8 _ rfl
  | 3, _ => exact selfB_spec σ0 8 _ rfl
theorem liftedHouseDoors (os : Os) (started : os.Started) (H : Type) (enc : TypeId × Value → H) :
    ReturnsInHanded {} Tryz.checked os 4 .any (fun w args => (Rows.houseDoorsSpec.pre enc Tryz.prog Tryz.f4 [] false w args ∧ laidMetH Tryz.prog laidZ w) ∧ sizedMet enc Tryz.prog Tryz.f4 (OpenSpec.ofChange Rows.houseDoorsSpec) false w args)
      (Rows.houseDoorsSpec.post enc Tryz.prog Tryz.f4 false true false false) := by
  refine law_lifted (C := Tryz.checked) (laid := laidZ) own started (by kernel_rfl) Tryz.func4 (by kernel_rfl) rfl laidOut (by kernel_rfl) (tb := 4) (by kernel_rfl) Tryz.underlying4 (fun ds hd => ?_)
    (ChangeSpec.witness_shaped (enc := enc) (C := Tryz.checked) (os := os) (X := fun w _ => laidMetH Tryz.prog laidZ w) false (World.doorLaid Tryz.prog 400 os) #[.agg #[.slice none 0 0, .slice none 0 0, .slice none 0 0], .int .i64 0, .int .i64 0, .agg #[.int .i64 0, .int .i64 0]] 8 rfl (World.shaped_of_RefB (by kernel_rfl) (by kernel_rfl)) (by kernel_rfl) (by kernel_rfl) (by kernel_rfl) (door_met os _))
    (fun W base args ds p hval hA hlt hw hL => ?_)
  · rw [Tryz.params4] at hd
    match ds, hd with
    | [d0, d1, d2, d3], _ => rfl
  · rw [Tryz.params4] at hA hval
    obtain ⟨args⟩ := args
    obtain ⟨v0, as0, d0, ds0, p0, q0, rfl, rfl, rfl, h0, hA⟩ := trodAll_cons hA
    obtain ⟨v1, as1, d1, ds1, p1, q1, rfl, rfl, rfl, h1, hA⟩ := trodAll_cons hA
    obtain ⟨v2, as2, d2, ds2, p2, q2, rfl, rfl, rfl, h2, hA⟩ := trodAll_cons hA
    obtain ⟨v3, as3, d3, ds3, p3, q3, rfl, rfl, rfl, h3, hA⟩ := trodAll_cons hA
    obtain ⟨rfl, rfl, rfl⟩ := trodAll_nil hA
    obtain ⟨n, rfl, _, _, _⟩ := open_int Tryz.underlying3 (hval 1 3 v1 rfl rfl) h1
    obtain ⟨t, rfl, _, _, _⟩ := open_int Tryz.underlying3 (hval 2 3 v2 rfl rfl) h2
    obtain ⟨ns3, ⟨l3, _⟩, rfl⟩ := open_kinds (n := 4) (ks := [.i64, .i64]) (by kernel_rfl) Tryz.underlying36 (hval 3 36 v3 rfl rfl) h3
    match ns3, l3 with
    | [lo, hi], _ => exact callsHouseDoors W hL (hval 0 26 v0 rfl rfl) h0 n t lo hi
theorem jHouseDoors0 : (Rows.houseDoorsRow.wf (OpenSpec.ofChange Rows.houseDoorsSpec)) = true := by kernel_rfl
theorem jHouseDoors1 : (laidOutB Tryz.prog) = true := sh1
theorem jHouseDoors2 : (mapsRowed Tryz.prog) = true := sh2
theorem jHouseDoors3 : (Tryz.f4.params.all (Tryz.prog.readableRec ·)) = true := by kernel_rfl
theorem jHouseDoors4 : (namedTie Tryz.prog Rows.houseDoorsRow.named Rows.houseDoorsSpec.vars) = true := by kernel_rfl
theorem jHouseDoors5 : ((Rows.houseDoorsRow.stops == [])) = true := by kernel_rfl
theorem jHouseDoors6 : ((Tryz.prog.stops == [])) = true := sh6
theorem jHouseDoors7 : ((Rows.houseDoorsRow.knobs == [])) = true := by kernel_rfl
theorem jHouseDoors8 : ((Tryz.prog.stopKnobs == [])) = true := sh8
theorem jHouseDoors9 : ((Rows.houseDoorsRow.inPlace == Tryz.prog.inPlace 4)) = true := by kernel_rfl
theorem jHouseDoors10 : ((Rows.houseDoorsRow.unfollowed == Tryz.prog.unfollowed 4)) = true := by kernel_rfl
theorem jHouseDoors11 : ((Rows.houseDoorsRow.recurses == Tryz.prog.recurses 4)) = true := by kernel_rfl
theorem jHouseDoors12 : ((Rows.houseDoorsRow.named == Tryz.prog.varsNamed 4)) = true := by kernel_rfl
theorem jHouseDoors13 : ((Rows.houseDoorsRow.maps == (Tryz.f4.params.toList ++ Rows.houseDoorsSpec.plain.varTypes Tryz.prog).any (Tryz.prog.mapsRec ·))) = true := by kernel_rfl
theorem jHouseDoors14 : ((Rows.houseDoorsRow.ifaces == (Tryz.f4.params.toList ++ Rows.houseDoorsSpec.plain.varTypes Tryz.prog).any (Tryz.prog.ifacesRec ·))) = true := by kernel_rfl
theorem jHouseDoors15 : ((Rows.houseDoorsRow.mapsOut == Tryz.prog.mapsAmong Tryz.f4.resultTypes.toList)) = true := by kernel_rfl
theorem jHouseDoors16 : ((Rows.houseDoorsRow.loops == (Tryz.f4.params.toList ++ Rows.houseDoorsSpec.plain.varTypes Tryz.prog).any (Tryz.prog.loopsFrom ·))) = true := by kernel_rfl
theorem jHouseDoors17 : ((Rows.houseDoorsRow.wideKeys == (Tryz.f4.params.toList ++ Rows.houseDoorsSpec.plain.varTypes Tryz.prog ++ Tryz.f4.resultTypes.toList).any (Tryz.prog.wideKeysFrom ·))) = true := by kernel_rfl
theorem jHouseDoors18 : (Rows.houseDoorsSpec.vars.all (Tryz.prog.varReadable ·)) = true := by kernel_rfl
theorem jHouseDoors19 : (Tryz.f4.resultTypes.all (fun t => Tryz.prog.readableRec t && decide (t < Tryz.prog.types.size))) = true := by kernel_rfl
theorem jHouseDoors20 : ((Rows.houseDoorsRow.ifacesOut == Tryz.f4.resultTypes.toList.any (Tryz.prog.ifacesRec ·))) = true := by kernel_rfl
theorem jHouseDoors21 : ((Rows.houseDoorsRow.loopsOut == Tryz.f4.resultTypes.toList.any (Tryz.prog.loopsFrom ·))) = true := by kernel_rfl
theorem jHouseDoors22 : ((Rows.houseDoorsRow.plainKeys == Tryz.prog.plainKeys)) = true := sh22
theorem jHouseDoors23 : (Rows.houseDoorsRow.shortTexts.isNone) = true := by kernel_rfl
theorem jHouseDoors24 : (Tryz.prog.stopsHeard) = true := sh24
theorem jHouseDoors25 : (Tryz.prog.mayEnter) = true := sh25
theorem jHouseDoors26 : ((Rows.houseDoorsRow.lifted == Tryz.prog.liftsFinal)) = true := sh26
theorem jHouseDoors27 : ((Tryz.prog.make == some Rows.houseDoorsRow.make)) = true := sh27
theorem jHouseDoors28 : ((Rows.houseDoorsRow.kinds == (if Rows.houseDoorsRow.domain.isEmpty then [] else Tryz.f4.params.toList.map fun t => match Tryz.prog.underlying t with | some (.int k) => some k | _ => none))) = true := by kernel_rfl
theorem jHouseDoors29 : ((Rows.houseDoorsRow.pinned == Rows.houseDoorsRow.pinnedBy)) = true := sh29
theorem jHouseDoors30 : ((Rows.houseDoorsRow.veiled == (Tryz.f4.params.toList ++ Rows.houseDoorsSpec.plain.varTypes Tryz.prog ++ Tryz.f4.resultTypes.toList).any (Tryz.prog.veiledRec ·))) = true := by kernel_rfl
theorem jHouseDoors31 : (Rows.houseDoorsRow.veiledFits Tryz.prog Tryz.f4.params.toList (Tryz.f4.params.toList ++ Rows.houseDoorsSpec.plain.varTypes Tryz.prog ++ Tryz.f4.resultTypes.toList)) = true := by kernel_rfl
theorem jfHouseDoors : joinedFacts Tryz.prog 4 Tryz.f4 Rows.houseDoorsSpec Rows.houseDoorsRow = true := (band (band (band (band (band (band (band (band (band (band (band (band (band (band (band (band (band (band (band (band (band (band (band (band (band (band (band (band (band (band (band jHouseDoors0 jHouseDoors1) jHouseDoors2) jHouseDoors3) jHouseDoors4) jHouseDoors5) jHouseDoors6) jHouseDoors7) jHouseDoors8) jHouseDoors9) jHouseDoors10) jHouseDoors11) jHouseDoors12) jHouseDoors13) jHouseDoors14) jHouseDoors15) jHouseDoors16) jHouseDoors17) jHouseDoors18) jHouseDoors19) jHouseDoors20) jHouseDoors21) jHouseDoors22) jHouseDoors23) jHouseDoors24) jHouseDoors25) jHouseDoors26) jHouseDoors27) jHouseDoors28) jHouseDoors29) jHouseDoors30) jHouseDoors31)
theorem row_holdsHouseDoors : Rows.HouseDoorsSaid :=
  OpenClaim.holds_of_wide 4 Tryz.f4 rfl rfl rfl rfl rfl rfl rfl ⟨rfl, rfl, rfl, rfl, rfl⟩ rfl rfl rfl rfl rfl (by kernel_rfl) Tryz.func4 jfHouseDoors
    (of_decide_eq_true (by kernel_rfl)) (by unfold Func.isWrapper; first | (rw [if_pos (by decide +kernel)]; kernel_rfl) | (rw [if_neg (by decide +kernel)]; exact ⟨rfl, rfl⟩))
    (fun os started H enc _ => liftedHouseDoors os started H enc)
theorem houseDoors_holds : Rows.HouseDoorsCardSaid :=
  Claim7.holds_tied_plain_at .later [] [.data, .data, .data] true (true, "4e618f33cc17afbde1f6d9a014ad85e9fad687eaa96434e3d1147b07e51ddefd") false
    row_holdsHouseDoors (fun _ h => by cases h) (by kernel_rfl) (fun _ h => by cases h) houseDoors_row_tie rfl ⟨rfl, rfl⟩ (by kernel_rfl) rfl
    (fun f fn hf hfn => by
      obtain rfl : f = 4 := Option.some.inj ((show Tryz.prog.funcNamed "patrol/patrollaw03.HouseDoors" = some 4 by kernel_rfl).symm.trans hf) |>.symm
      obtain rfl : fn = Tryz.f4 := (Option.some.inj (Tryz.func4.symm.trans hfn)).symm
      exact ⟨by kernel_rfl, fun j t ht => by
        have hm : t ∈ Tryz.f4.params.toList := by simpa using Array.mem_of_getElem? ht
        have hall : (Tryz.f4.params.toList.all fun u => !Tryz.prog.wantsStandIn u) = true := by kernel_rfl
        exact (show Tryz.prog.wantsStandIn t = false by simpa using List.all_eq_true.1 hall t hm)⟩)
    (by kernel_rfl)
#print axioms houseDoors_holds
end Go.Proofs.YtfjnbekocdffbaaGreatDoor
