/-
  HouseRoutes: for all houses, rooms and times the law returns true; conditions: none but that the listed package-level variables hold what the program's text lays.
-/
import Derived.Test.YtohfdkdjfoonjaaGreatDoorEvM17
import Derived.Test.YtohfdkdjfoonjaaGreatDoorSdH
import Derived.Test.YtohfdkdjfoonjaaGreatDoorBO
import Derived.Test.YtohfdkdjfoonjaaGreatDoorAE4
import Derived.Test.YtohfdkdjfoonjaaGreatDoorRows
import Derived.Test.YtohfdkdjfoonjaaGreatDoorTie
import Derived.Test.YtohfdkdjfoonjaaGreatDoorCards
import Derived.SevenTiedAt
import Derived.LaidMore
import Derived.ChangeMaps5
set_option linter.unusedSimpArgs false
set_option linter.unusedVariables false
namespace Go.Proofs.YtohfdkdjfoonjaaGreatDoor
open Go Go.RowKit Go.Aev Go.Proofs Go.ChangeShapes Go.WideShapes Go.ChangeMaps
set_option maxRecDepth 100000
theorem callsHouseRoutes {H : Type} {enc : TypeId × Value → H} (W : World) (hL : laidMet Tryz.prog laidZ W) {b0 : Nat} {v0 : Value} {d0 : DataW H} {p0 : List MemPlace} (hv0 : Value.okWide Tryz.prog W .any b0 26 v0) (h0 : DataW.Trod enc Tryz.prog W 0 (fun _ => true) true 26 v0 d0 p0) (fr : Int) (ti : Int) (tr : Int) :
    Calls Tryz.prog 8 #[v0, .int .i64 fr, .int .i64 ti, .int .i64 tr] W fun e w' => e = .returned (.bool true) ∧ Below W.heap.size W w' := by
  obtain ⟨σ, hr⟩ := HR.ofLaid hL seat.lt seat.max seat.self
  obtain ⟨cs0, rfl⟩ := okWide_agg Tryz.underlying26 hv0
  obtain ⟨σ0, S0, cw0, h, le0, hr0, a0, x0, r0⟩ := hr.argO House.opHs h0
  obtain ⟨w0_0, w0_1, w0_2, rfl, r0_0, r0_1, r0_2⟩ := r0
  replace x0 : VR σ0 (.agg #[w0_0, w0_1, w0_2]) (.agg cs0) := agg_vr x0
  obtain ⟨S', hrun, _⟩ := (by have h' := House.c8 h fr ti tr (House.rooms_size r0_0) S0 w0_0 r0_0 w0_1 r0_1 w0_2 r0_2; rw [House.r8_true] at h'; exact h')
  refine seat.law (args := #[.agg #[w0_0, w0_1, w0_2], .int .i64 fr, .int .i64 ti, .int .i64 tr]) hL hr0 ⟨rfl, fun i hi => ?_⟩ rfl hrun
  match i, hi with
  | 0, _ => exact x0
  | 1, _ => exact selfB_spec σ0 8 _ rfl
  | 2, _ => exact selfB_spec σ0 8 _ rfl
  | 3, _ => exact selfB_spec σ0 8 _ rfl
theorem liftedHouseRoutes (os : Os) (started : os.Started) (H : Type) (enc : TypeId × Value → H) :
    ReturnsInHanded {} Tryz.checked os 8 .any (fun w args => (Rows.houseRoutesSpec.pre enc Tryz.prog Tryz.f8 [] false w args ∧ laidMetH Tryz.prog laidZ w) ∧ sizedMet enc Tryz.prog Tryz.f8 (OpenSpec.ofChange Rows.houseRoutesSpec) false w args)
      (Rows.houseRoutesSpec.post enc Tryz.prog Tryz.f8 false true false false) := by
  refine law_lifted (C := Tryz.checked) (laid := laidZ) own started (by kernel_rfl) Tryz.func8 (by kernel_rfl) rfl laidOut (by kernel_rfl) (tb := 4) (by kernel_rfl) Tryz.underlying4 (fun ds hd => ?_)
    (ChangeSpec.witness_shaped (enc := enc) (C := Tryz.checked) (os := os) (X := fun w _ => laidMetH Tryz.prog laidZ w) false (World.doorLaid Tryz.prog 400 os) #[.agg #[.slice none 0 0, .slice none 0 0, .slice none 0 0], .int .i64 0, .int .i64 0, .int .i64 0] 8 rfl (World.shaped_of_RefB (by kernel_rfl) (by kernel_rfl)) (by kernel_rfl) (by kernel_rfl) (by kernel_rfl) (door_met os _))
    (fun W base args ds p hval hA hlt hw hL => ?_)
  · rw [Tryz.params8] at hd
    match ds, hd with
    | [d0, d1, d2, d3], _ => rfl
  · rw [Tryz.params8] at hA hval
    obtain ⟨args⟩ := args
    obtain ⟨v0, as0, d0, ds0, p0, q0, rfl, rfl, rfl, h0, hA⟩ := trodAll_cons hA
    obtain ⟨v1, as1, d1, ds1, p1, q1, rfl, rfl, rfl, h1, hA⟩ := trodAll_cons hA
    obtain ⟨v2, as2, d2, ds2, p2, q2, rfl, rfl, rfl, h2, hA⟩ := trodAll_cons hA
    obtain ⟨v3, as3, d3, ds3, p3, q3, rfl, rfl, rfl, h3, hA⟩ := trodAll_cons hA
    obtain ⟨rfl, rfl, rfl⟩ := trodAll_nil hA
    obtain ⟨fr, rfl, _, _, _⟩ := open_int Tryz.underlying3 (hval 1 3 v1 rfl rfl) h1
    obtain ⟨ti, rfl, _, _, _⟩ := open_int Tryz.underlying3 (hval 2 3 v2 rfl rfl) h2
    obtain ⟨tr, rfl, _, _, _⟩ := open_int Tryz.underlying3 (hval 3 3 v3 rfl rfl) h3
    exact callsHouseRoutes W hL (hval 0 26 v0 rfl rfl) h0 fr ti tr
theorem jHouseRoutes0 : (Rows.houseRoutesRow.wf (OpenSpec.ofChange Rows.houseRoutesSpec)) = true := by kernel_rfl
theorem jHouseRoutes1 : (laidOutB Tryz.prog) = true := sh1
theorem jHouseRoutes2 : (mapsRowed Tryz.prog) = true := sh2
theorem jHouseRoutes3 : (Tryz.f8.params.all (Tryz.prog.readableRec ·)) = true := by kernel_rfl
theorem jHouseRoutes4 : (namedTie Tryz.prog Rows.houseRoutesRow.named Rows.houseRoutesSpec.vars) = true := by kernel_rfl
theorem jHouseRoutes5 : ((Rows.houseRoutesRow.stops == [])) = true := by kernel_rfl
theorem jHouseRoutes6 : ((Tryz.prog.stops == [])) = true := sh6
theorem jHouseRoutes7 : ((Rows.houseRoutesRow.knobs == [])) = true := by kernel_rfl
theorem jHouseRoutes8 : ((Tryz.prog.stopKnobs == [])) = true := sh8
theorem jHouseRoutes9 : ((Rows.houseRoutesRow.inPlace == Tryz.prog.inPlace 8)) = true := by kernel_rfl
theorem jHouseRoutes10 : ((Rows.houseRoutesRow.unfollowed == Tryz.prog.unfollowed 8)) = true := by kernel_rfl
theorem jHouseRoutes11 : ((Rows.houseRoutesRow.recurses == Tryz.prog.recurses 8)) = true := by kernel_rfl
theorem jHouseRoutes12 : ((Rows.houseRoutesRow.named == Tryz.prog.varsNamed 8)) = true := by kernel_rfl
theorem jHouseRoutes13 : ((Rows.houseRoutesRow.maps == (Tryz.f8.params.toList ++ Rows.houseRoutesSpec.plain.varTypes Tryz.prog).any (Tryz.prog.mapsRec ·))) = true := by kernel_rfl
theorem jHouseRoutes14 : ((Rows.houseRoutesRow.ifaces == (Tryz.f8.params.toList ++ Rows.houseRoutesSpec.plain.varTypes Tryz.prog).any (Tryz.prog.ifacesRec ·))) = true := by kernel_rfl
theorem jHouseRoutes15 : ((Rows.houseRoutesRow.mapsOut == Tryz.prog.mapsAmong Tryz.f8.resultTypes.toList)) = true := by kernel_rfl
theorem jHouseRoutes16 : ((Rows.houseRoutesRow.loops == (Tryz.f8.params.toList ++ Rows.houseRoutesSpec.plain.varTypes Tryz.prog).any (Tryz.prog.loopsFrom ·))) = true := by kernel_rfl
theorem jHouseRoutes17 : ((Rows.houseRoutesRow.wideKeys == (Tryz.f8.params.toList ++ Rows.houseRoutesSpec.plain.varTypes Tryz.prog ++ Tryz.f8.resultTypes.toList).any (Tryz.prog.wideKeysFrom ·))) = true := by kernel_rfl
theorem jHouseRoutes18 : (Rows.houseRoutesSpec.vars.all (Tryz.prog.varReadable ·)) = true := by kernel_rfl
theorem jHouseRoutes19 : (Tryz.f8.resultTypes.all (fun t => Tryz.prog.readableRec t && decide (t < Tryz.prog.types.size))) = true := by kernel_rfl
theorem jHouseRoutes20 : ((Rows.houseRoutesRow.ifacesOut == Tryz.f8.resultTypes.toList.any (Tryz.prog.ifacesRec ·))) = true := by kernel_rfl
theorem jHouseRoutes21 : ((Rows.houseRoutesRow.loopsOut == Tryz.f8.resultTypes.toList.any (Tryz.prog.loopsFrom ·))) = true := by kernel_rfl
theorem jHouseRoutes22 : ((Rows.houseRoutesRow.plainKeys == Tryz.prog.plainKeys)) = true := sh22
theorem jHouseRoutes23 : (Rows.houseRoutesRow.shortTexts.isNone) = true := by kernel_rfl
theorem jHouseRoutes24 : (Tryz.prog.stopsHeard) = true := sh24
theorem jHouseRoutes25 : (Tryz.prog.mayEnter) = true := sh25
theorem jHouseRoutes26 : ((Rows.houseRoutesRow.lifted == Tryz.prog.liftsFinal)) = true := sh26
theorem jHouseRoutes27 : ((Tryz.prog.make == some Rows.houseRoutesRow.make)) = true := sh27
theorem jHouseRoutes28 : ((Rows.houseRoutesRow.kinds == (if Rows.houseRoutesRow.domain.isEmpty then [] else Tryz.f8.params.toList.map fun t => match Tryz.prog.underlying t with | some (.int k) => some k | _ => none))) = true := by kernel_rfl
theorem jHouseRoutes29 : ((Rows.houseRoutesRow.pinned == Rows.houseRoutesRow.pinnedBy)) = true := sh29
theorem jHouseRoutes30 : ((Rows.houseRoutesRow.veiled == (Tryz.f8.params.toList ++ Rows.houseRoutesSpec.plain.varTypes Tryz.prog ++ Tryz.f8.resultTypes.toList).any (Tryz.prog.veiledRec ·))) = true := by kernel_rfl
theorem jHouseRoutes31 : (Rows.houseRoutesRow.veiledFits Tryz.prog Tryz.f8.params.toList (Tryz.f8.params.toList ++ Rows.houseRoutesSpec.plain.varTypes Tryz.prog ++ Tryz.f8.resultTypes.toList)) = true := by kernel_rfl
theorem jfHouseRoutes : joinedFacts Tryz.prog 8 Tryz.f8 Rows.houseRoutesSpec Rows.houseRoutesRow = true := (band (band (band (band (band (band (band (band (band (band (band (band (band (band (band (band (band (band (band (band (band (band (band (band (band (band (band (band (band (band (band jHouseRoutes0 jHouseRoutes1) jHouseRoutes2) jHouseRoutes3) jHouseRoutes4) jHouseRoutes5) jHouseRoutes6) jHouseRoutes7) jHouseRoutes8) jHouseRoutes9) jHouseRoutes10) jHouseRoutes11) jHouseRoutes12) jHouseRoutes13) jHouseRoutes14) jHouseRoutes15) jHouseRoutes16) jHouseRoutes17) jHouseRoutes18) jHouseRoutes19) jHouseRoutes20) jHouseRoutes21) jHouseRoutes22) jHouseRoutes23) jHouseRoutes24) jHouseRoutes25) jHouseRoutes26) jHouseRoutes27) jHouseRoutes28) jHouseRoutes29) jHouseRoutes30) jHouseRoutes31)
theorem row_holdsHouseRoutes : Rows.HouseRoutesSaid :=
  OpenClaim.holds_of_wide 8 Tryz.f8 rfl rfl rfl rfl rfl rfl rfl ⟨rfl, rfl, rfl, rfl, rfl⟩ rfl rfl rfl rfl rfl (by kernel_rfl) Tryz.func8 jfHouseRoutes
    (of_decide_eq_true (by kernel_rfl)) (by unfold Func.isWrapper; first | (rw [if_pos (by decide +kernel)]; kernel_rfl) | (rw [if_neg (by decide +kernel)]; exact ⟨rfl, rfl⟩))
    (fun os started H enc _ => liftedHouseRoutes os started H enc)
theorem houseRoutes_holds : Rows.HouseRoutesCardSaid :=
  Claim7.holds_tied_plain_at .later [] [.data, .data, .data] true (true, "4e618f33cc17afbde1f6d9a014ad85e9fad687eaa96434e3d1147b07e51ddefd") false
    row_holdsHouseRoutes (fun _ h => by cases h) (by kernel_rfl) (fun _ h => by cases h) houseRoutes_row_tie rfl ⟨rfl, rfl⟩ (by kernel_rfl) rfl
    (fun f fn hf hfn => by
      obtain rfl : f = 8 := Option.some.inj ((show Tryz.prog.funcNamed "patrol/patrollaw03.HouseRoutes" = some 8 by kernel_rfl).symm.trans hf) |>.symm
      obtain rfl : fn = Tryz.f8 := (Option.some.inj (Tryz.func8.symm.trans hfn)).symm
      exact ⟨by kernel_rfl, fun j t ht => by
        have hm : t ∈ Tryz.f8.params.toList := by simpa using Array.mem_of_getElem? ht
        have hall : (Tryz.f8.params.toList.all fun u => !Tryz.prog.wantsStandIn u) = true := by kernel_rfl
        exact (show Tryz.prog.wantsStandIn t = false by simpa using List.all_eq_true.1 hall t hm)⟩)
    (by kernel_rfl)
#print axioms houseRoutes_holds
end Go.Proofs.YtohfdkdjfoonjaaGreatDoor
