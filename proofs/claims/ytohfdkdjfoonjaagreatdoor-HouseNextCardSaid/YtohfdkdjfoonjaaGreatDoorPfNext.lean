/-
  HouseNext: for all houses, doors, times and spans the law returns true; conditions: none but that the listed package-level variables hold what the program's text lays.
-/
import Derived.Test.YtohfdkdjfoonjaaGreatDoorBAB
import Derived.Test.YtohfdkdjfoonjaaGreatDoorSdH
import Derived.Test.YtohfdkdjfoonjaaGreatDoorBO
import Derived.Test.YtohfdkdjfoonjaaGreatDoorAE4
import Derived.Test.YtohfdkdjfoonjaaGreatDoorRows
import Derived.Test.YtohfdkdjfoonjaaGreatDoorTie
import Derived.Test.YtohfdkdjfoonjaaGreatDoorCards
import Derived.SevenTiedAt
import Derived.LaidMore
import Derived.ChangeMaps5
set_option linter.unusedSimpArgs false
set_option linter.unusedVariables false
namespace Go.Proofs.YtohfdkdjfoonjaaGreatDoor
open Go Go.RowKit Go.Aev Go.Proofs Go.ChangeShapes Go.WideShapes Go.ChangeMaps
set_option maxRecDepth 100000
theorem callsHouseNext {H : Type} {enc : TypeId × Value → H} (W : World) (hL : laidMet Tryz.prog laidZ W) {b0 : Nat} {v0 : Value} {d0 : DataW H} {p0 : List MemPlace} (hv0 : Value.okWide Tryz.prog W .any b0 26 v0) (h0 : DataW.Trod enc Tryz.prog W 0 (fun _ => true) true 26 v0 d0 p0) (door : Int) (ti : Int) (u : Int) (slo shi : Int) :
    Calls Tryz.prog 14 #[v0, .int .i64 door, .int .i64 ti, .int .i64 u, .agg #[.int .i64 slo, .int .i64 shi]] W fun e w' => e = .returned (.bool true) ∧ Below W.heap.size W w' := by
  obtain ⟨σ, hr⟩ := HR.ofLaid hL seat.lt seat.max seat.self
  obtain ⟨cs0, rfl⟩ := okWide_agg Tryz.underlying26 hv0
  obtain ⟨σ0, S0, cw0, h, le0, hr0, a0, x0, r0⟩ := hr.argO House.opHs h0
  obtain ⟨w0_0, w0_1, w0_2, rfl, r0_0, r0_1, r0_2⟩ := r0
  replace x0 : VR σ0 (.agg #[w0_0, w0_1, w0_2]) (.agg cs0) := agg_vr x0
  obtain ⟨S', hrun, _⟩ := (by have h' := House.c14 h door ti u slo shi (House.rooms_size r0_0) S0 w0_0 r0_0 w0_1 r0_1 w0_2 r0_2; rw [House.r14_true] at h'; exact h')
  refine seat.law (args := #[.agg #[w0_0, w0_1, w0_2], .int .i64 door, .int .i64 ti, .int .i64 u, .agg #[.int .i64 slo, .int .i64 shi]]) hL hr0 ⟨rfl, fun i hi => ?_⟩ rfl hrun
  match i, hi with
  | 0, _ => exact x0
  | 1, _ => exact selfB_spec σ0 8 _ rfl
  | 2, _ => exact selfB_spec σ0 8 _ rfl
  | 3, _ => exact selfB_spec σ0 8 _ rfl
  | 4, _ => exact selfB_spec σ0 8 _ rfl
theorem liftedHouseNext (os : Os) (started : os.Started) (H : Type) (enc : TypeId × Value → H) :
    ReturnsInHanded {} Tryz.checked os 14 .any (fun w args => (Rows.houseNextSpec.pre enc Tryz.prog Tryz.f14 [] false w args ∧ laidMetH Tryz.prog laidZ w) ∧ sizedMet enc Tryz.prog Tryz.f14 (OpenSpec.ofChange Rows.houseNextSpec) false w args)
      (Rows.houseNextSpec.post enc Tryz.prog Tryz.f14 false true false false) := by
  refine law_lifted (C := Tryz.checked) (laid := laidZ) own started (by kernel_rfl) Tryz.func14 (by kernel_rfl) rfl laidOut (by kernel_rfl) (tb := 4) (by kernel_rfl) Tryz.underlying4 (fun ds hd => ?_)
    (ChangeSpec.witness_shaped (enc := enc) (C := Tryz.checked) (os := os) (X := fun w _ => laidMetH Tryz.prog laidZ w) false (World.doorLaid Tryz.prog 400 os) #[.agg #[.slice none 0 0, .slice none 0 0, .slice none 0 0], .int .i64 0, .int .i64 0, .int .i64 0, .agg #[.int .i64 0, .int .i64 0]] 8 rfl (World.shaped_of_RefB (by kernel_rfl) (by kernel_rfl)) (by kernel_rfl) (by kernel_rfl) (by kernel_rfl) (door_met os _))
    (fun W base args ds p hval hA hlt hw hL => ?_)
  · rw [Tryz.params14] at hd
    match ds, hd with
    | [d0, d1, d2, d3, d4], _ => rfl
  · rw [Tryz.params14] at hA hval
    obtain ⟨args⟩ := args
    obtain ⟨v0, as0, d0, ds0, p0, q0, rfl, rfl, rfl, h0, hA⟩ := trodAll_cons hA
    obtain ⟨v1, as1, d1, ds1, p1, q1, rfl, rfl, rfl, h1, hA⟩ := trodAll_cons hA
    obtain ⟨v2, as2, d2, ds2, p2, q2, rfl, rfl, rfl, h2, hA⟩ := trodAll_cons hA
    obtain ⟨v3, as3, d3, ds3, p3, q3, rfl, rfl, rfl, h3, hA⟩ := trodAll_cons hA
    obtain ⟨v4, as4, d4, ds4, p4, q4, rfl, rfl, rfl, h4, hA⟩ := trodAll_cons hA
    obtain ⟨rfl, rfl, rfl⟩ := trodAll_nil hA
    obtain ⟨door, rfl, _, _, _⟩ := open_int Tryz.underlying3 (hval 1 3 v1 rfl rfl) h1
    obtain ⟨ti, rfl, _, _, _⟩ := open_int Tryz.underlying3 (hval 2 3 v2 rfl rfl) h2
    obtain ⟨u, rfl, _, _, _⟩ := open_int Tryz.underlying3 (hval 3 3 v3 rfl rfl) h3
    obtain ⟨ns4, ⟨l4, _⟩, rfl⟩ := open_kinds (n := 4) (ks := [.i64, .i64]) (by kernel_rfl) Tryz.underlying36 (hval 4 36 v4 rfl rfl) h4
    match ns4, l4 with
    | [slo, shi], _ => exact callsHouseNext W hL (hval 0 26 v0 rfl rfl) h0 door ti u slo shi
theorem jHouseNext0 : (Rows.houseNextRow.wf (OpenSpec.ofChange Rows.houseNextSpec)) = true := by kernel_rfl
theorem jHouseNext1 : (laidOutB Tryz.prog) = true := sh1
theorem jHouseNext2 : (mapsRowed Tryz.prog) = true := sh2
theorem jHouseNext3 : (Tryz.f14.params.all (Tryz.prog.readableRec ·)) = true := by kernel_rfl
theorem jHouseNext4 : (namedTie Tryz.prog Rows.houseNextRow.named Rows.houseNextSpec.vars) = true := by kernel_rfl
theorem jHouseNext5 : ((Rows.houseNextRow.stops == [])) = true := by kernel_rfl
theorem jHouseNext6 : ((Tryz.prog.stops == [])) = true := sh6
theorem jHouseNext7 : ((Rows.houseNextRow.knobs == [])) = true := by kernel_rfl
theorem jHouseNext8 : ((Tryz.prog.stopKnobs == [])) = true := sh8
theorem jHouseNext9 : ((Rows.houseNextRow.inPlace == Tryz.prog.inPlace 14)) = true := by kernel_rfl
theorem jHouseNext10 : ((Rows.houseNextRow.unfollowed == Tryz.prog.unfollowed 14)) = true := by kernel_rfl
theorem jHouseNext11 : ((Rows.houseNextRow.recurses == Tryz.prog.recurses 14)) = true := by kernel_rfl
theorem jHouseNext12 : ((Rows.houseNextRow.named == Tryz.prog.varsNamed 14)) = true := by kernel_rfl
theorem jHouseNext13 : ((Rows.houseNextRow.maps == (Tryz.f14.params.toList ++ Rows.houseNextSpec.plain.varTypes Tryz.prog).any (Tryz.prog.mapsRec ·))) = true := by kernel_rfl
theorem jHouseNext14 : ((Rows.houseNextRow.ifaces == (Tryz.f14.params.toList ++ Rows.houseNextSpec.plain.varTypes Tryz.prog).any (Tryz.prog.ifacesRec ·))) = true := by kernel_rfl
theorem jHouseNext15 : ((Rows.houseNextRow.mapsOut == Tryz.prog.mapsAmong Tryz.f14.resultTypes.toList)) = true := by kernel_rfl
theorem jHouseNext16 : ((Rows.houseNextRow.loops == (Tryz.f14.params.toList ++ Rows.houseNextSpec.plain.varTypes Tryz.prog).any (Tryz.prog.loopsFrom ·))) = true := by kernel_rfl
theorem jHouseNext17 : ((Rows.houseNextRow.wideKeys == (Tryz.f14.params.toList ++ Rows.houseNextSpec.plain.varTypes Tryz.prog ++ Tryz.f14.resultTypes.toList).any (Tryz.prog.wideKeysFrom ·))) = true := by kernel_rfl
theorem jHouseNext18 : (Rows.houseNextSpec.vars.all (Tryz.prog.varReadable ·)) = true := by kernel_rfl
theorem jHouseNext19 : (Tryz.f14.resultTypes.all (fun t => Tryz.prog.readableRec t && decide (t < Tryz.prog.types.size))) = true := by kernel_rfl
theorem jHouseNext20 : ((Rows.houseNextRow.ifacesOut == Tryz.f14.resultTypes.toList.any (Tryz.prog.ifacesRec ·))) = true := by kernel_rfl
theorem jHouseNext21 : ((Rows.houseNextRow.loopsOut == Tryz.f14.resultTypes.toList.any (Tryz.prog.loopsFrom ·))) = true := by kernel_rfl
theorem jHouseNext22 : ((Rows.houseNextRow.plainKeys == Tryz.prog.plainKeys)) = true := sh22
theorem jHouseNext23 : (Rows.houseNextRow.shortTexts.isNone) = true := by kernel_rfl
theorem jHouseNext24 : (Tryz.prog.stopsHeard) = true := sh24
theorem jHouseNext25 : (Tryz.prog.mayEnter) = true := sh25
theorem jHouseNext26 : ((Rows.houseNextRow.lifted == Tryz.prog.liftsFinal)) = true := sh26
theorem jHouseNext27 : ((Tryz.prog.make == some Rows.houseNextRow.make)) = true := sh27
theorem jHouseNext28 : ((Rows.houseNextRow.kinds == (if Rows.houseNextRow.domain.isEmpty then [] else Tryz.f14.params.toList.map fun t => match Tryz.prog.underlying t with | some (.int k) => some k | _ => none))) = true := by kernel_rfl
theorem jHouseNext29 : ((Rows.houseNextRow.pinned == Rows.houseNextRow.pinnedBy)) = true := sh29
theorem jHouseNext30 : ((Rows.houseNextRow.veiled == (Tryz.f14.params.toList ++ Rows.houseNextSpec.plain.varTypes Tryz.prog ++ Tryz.f14.resultTypes.toList).any (Tryz.prog.veiledRec ·))) = true := by kernel_rfl
theorem jHouseNext31 : (Rows.houseNextRow.veiledFits Tryz.prog Tryz.f14.params.toList (Tryz.f14.params.toList ++ Rows.houseNextSpec.plain.varTypes Tryz.prog ++ Tryz.f14.resultTypes.toList)) = true := by kernel_rfl
theorem jfHouseNext : joinedFacts Tryz.prog 14 Tryz.f14 Rows.houseNextSpec Rows.houseNextRow = true := (band (band (band (band (band (band (band (band (band (band (band (band (band (band (band (band (band (band (band (band (band (band (band (band (band (band (band (band (band (band (band jHouseNext0 jHouseNext1) jHouseNext2) jHouseNext3) jHouseNext4) jHouseNext5) jHouseNext6) jHouseNext7) jHouseNext8) jHouseNext9) jHouseNext10) jHouseNext11) jHouseNext12) jHouseNext13) jHouseNext14) jHouseNext15) jHouseNext16) jHouseNext17) jHouseNext18) jHouseNext19) jHouseNext20) jHouseNext21) jHouseNext22) jHouseNext23) jHouseNext24) jHouseNext25) jHouseNext26) jHouseNext27) jHouseNext28) jHouseNext29) jHouseNext30) jHouseNext31)
theorem row_holdsHouseNext : Rows.HouseNextSaid :=
  OpenClaim.holds_of_wide 14 Tryz.f14 rfl rfl rfl rfl rfl rfl rfl ⟨rfl, rfl, rfl, rfl, rfl⟩ rfl rfl rfl rfl rfl (by kernel_rfl) Tryz.func14 jfHouseNext
    (of_decide_eq_true (by kernel_rfl)) (by unfold Func.isWrapper; first | (rw [if_pos (by decide +kernel)]; kernel_rfl) | (rw [if_neg (by decide +kernel)]; exact ⟨rfl, rfl⟩))
    (fun os started H enc _ => liftedHouseNext os started H enc)
theorem houseNext_holds : Rows.HouseNextCardSaid :=
  Claim7.holds_tied_plain_at .later [] [.data, .data, .data] true (true, "4e618f33cc17afbde1f6d9a014ad85e9fad687eaa96434e3d1147b07e51ddefd") false
    row_holdsHouseNext (fun _ h => by cases h) (by kernel_rfl) (fun _ h => by cases h) houseNext_row_tie rfl ⟨rfl, rfl⟩ (by kernel_rfl) rfl
    (fun f fn hf hfn => by
      obtain rfl : f = 14 := Option.some.inj ((show Tryz.prog.funcNamed "patrol/patrollaw03.HouseNext" = some 14 by kernel_rfl).symm.trans hf) |>.symm
      obtain rfl : fn = Tryz.f14 := (Option.some.inj (Tryz.func14.symm.trans hfn)).symm
      exact ⟨by kernel_rfl, fun j t ht => by
        have hm : t ∈ Tryz.f14.params.toList := by simpa using Array.mem_of_getElem? ht
        have hall : (Tryz.f14.params.toList.all fun u => !Tryz.prog.wantsStandIn u) = true := by kernel_rfl
        exact (show Tryz.prog.wantsStandIn t = false by simpa using List.all_eq_true.1 hall t hm)⟩)
    (by kernel_rfl)
#print axioms houseNext_holds
end Go.Proofs.YtohfdkdjfoonjaaGreatDoor
