/-
  HouseTriangle: for all houses, rooms and times the law returns true; conditions: none but that the listed package-level variables hold what the program's text lays.
-/
import Derived.Test.YtohfdkdjfoonjaaGreatDoorEvM26
import Derived.Test.YtohfdkdjfoonjaaGreatDoorSdH
import Derived.Test.YtohfdkdjfoonjaaGreatDoorBO
import Derived.Test.YtohfdkdjfoonjaaGreatDoorAE4
import Derived.Test.YtohfdkdjfoonjaaGreatDoorRows
import Derived.Test.YtohfdkdjfoonjaaGreatDoorTie
import Derived.Test.YtohfdkdjfoonjaaGreatDoorCards
import Derived.SevenTiedAt
import Derived.LaidMore
import Derived.ChangeMaps5
set_option linter.unusedSimpArgs false
set_option linter.unusedVariables false
namespace Go.Proofs.YtohfdkdjfoonjaaGreatDoor
open Go Go.RowKit Go.Aev Go.Proofs Go.ChangeShapes Go.WideShapes Go.ChangeMaps
set_option maxRecDepth 100000
theorem callsHouseTriangle {H : Type} {enc : TypeId × Value → H} (W : World) (hL : laidMet Tryz.prog laidZ W) {b0 : Nat} {v0 : Value} {d0 : DataW H} {p0 : List MemPlace} (hv0 : Value.okWide Tryz.prog W .any b0 26 v0) (h0 : DataW.Trod enc Tryz.prog W 0 (fun _ => true) true 26 v0 d0 p0) (a : Int) (b : Int) (cc : Int) (ti : Int) :
    Calls Tryz.prog 19 #[v0, .int .i64 a, .int .i64 b, .int .i64 cc, .int .i64 ti] W fun e w' => e = .returned (.bool true) ∧ Below W.heap.size W w' := by
  obtain ⟨σ, hr⟩ := HR.ofLaid hL seat.lt seat.max seat.self
  obtain ⟨cs0, rfl⟩ := okWide_agg Tryz.underlying26 hv0
  obtain ⟨σ0, S0, cw0, h, le0, hr0, a0, x0, r0⟩ := hr.argO House.opHs h0
  obtain ⟨w0_0, w0_1, w0_2, rfl, r0_0, r0_1, r0_2⟩ := r0
  replace x0 : VR σ0 (.agg #[w0_0, w0_1, w0_2]) (.agg cs0) := agg_vr x0
  obtain ⟨S', hrun, _⟩ := (by have h' := House.c19 h a b cc ti (House.rooms_size r0_0) S0 w0_0 r0_0 w0_1 r0_1 w0_2 r0_2; rw [House.r19_true] at h'; exact h')
  refine seat.law (args := #[.agg #[w0_0, w0_1, w0_2], .int .i64 a, .int .i64 b, .int .i64 cc, .int .i64 ti]) hL hr0 ⟨rfl, fun i hi => ?_⟩ rfl hrun
  match i, hi with
  | 0, _ => exact x0
  | 1, _ => exact selfB_spec σ0 8 _ rfl
  | 2, _ => exact selfB_spec σ0 8 _ rfl
  | 3, _ => exact selfB_spec σ0 8 _ rfl
  | 4, _ => exact selfB_spec σ0 8 _ rfl
theorem liftedHouseTriangle (os : Os) (started : os.Started) (H : Type) (enc : TypeId × Value → H) :
    ReturnsInHanded {} Tryz.checked os 19 .any (fun w args => (Rows.houseTriangleSpec.pre enc Tryz.prog Tryz.f19 [] false w args ∧ laidMetH Tryz.prog laidZ w) ∧ sizedMet enc Tryz.prog Tryz.f19 (OpenSpec.ofChange Rows.houseTriangleSpec) false w args)
      (Rows.houseTriangleSpec.post enc Tryz.prog Tryz.f19 false true false false) := by
  refine law_lifted (C := Tryz.checked) (laid := laidZ) own started (by kernel_rfl) Tryz.func19 (by kernel_rfl) rfl laidOut (by kernel_rfl) (tb := 4) (by kernel_rfl) Tryz.underlying4 (fun ds hd => ?_)
    (ChangeSpec.witness_shaped (enc := enc) (C := Tryz.checked) (os := os) (X := fun w _ => laidMetH Tryz.prog laidZ w) false (World.doorLaid Tryz.prog 400 os) #[.agg #[.slice none 0 0, .slice none 0 0, .slice none 0 0], .int .i64 0, .int .i64 0, .int .i64 0, .int .i64 0] 8 rfl (World.shaped_of_RefB (by kernel_rfl) (by kernel_rfl)) (by kernel_rfl) (by kernel_rfl) (by kernel_rfl) (door_met os _))
    (fun W base args ds p hval hA hlt hw hL => ?_)
  · rw [Tryz.params19] at hd
    match ds, hd with
    | [d0, d1, d2, d3, d4], _ => rfl
  · rw [Tryz.params19] at hA hval
    obtain ⟨args⟩ := args
    obtain ⟨v0, as0, d0, ds0, p0, q0, rfl, rfl, rfl, h0, hA⟩ := trodAll_cons hA
    obtain ⟨v1, as1, d1, ds1, p1, q1, rfl, rfl, rfl, h1, hA⟩ := trodAll_cons hA
    obtain ⟨v2, as2, d2, ds2, p2, q2, rfl, rfl, rfl, h2, hA⟩ := trodAll_cons hA
    obtain ⟨v3, as3, d3, ds3, p3, q3, rfl, rfl, rfl, h3, hA⟩ := trodAll_cons hA
    obtain ⟨v4, as4, d4, ds4, p4, q4, rfl, rfl, rfl, h4, hA⟩ := trodAll_cons hA
    obtain ⟨rfl, rfl, rfl⟩ := trodAll_nil hA
    obtain ⟨a, rfl, _, _, _⟩ := open_int Tryz.underlying3 (hval 1 3 v1 rfl rfl) h1
    obtain ⟨b, rfl, _, _, _⟩ := open_int Tryz.underlying3 (hval 2 3 v2 rfl rfl) h2
    obtain ⟨cc, rfl, _, _, _⟩ := open_int Tryz.underlying3 (hval 3 3 v3 rfl rfl) h3
    obtain ⟨ti, rfl, _, _, _⟩ := open_int Tryz.underlying3 (hval 4 3 v4 rfl rfl) h4
    exact callsHouseTriangle W hL (hval 0 26 v0 rfl rfl) h0 a b cc ti
theorem jHouseTriangle0 : (Rows.houseTriangleRow.wf (OpenSpec.ofChange Rows.houseTriangleSpec)) = true := by kernel_rfl
theorem jHouseTriangle1 : (laidOutB Tryz.prog) = true := sh1
theorem jHouseTriangle2 : (mapsRowed Tryz.prog) = true := sh2
theorem jHouseTriangle3 : (Tryz.f19.params.all (Tryz.prog.readableRec ·)) = true := by kernel_rfl
theorem jHouseTriangle4 : (namedTie Tryz.prog Rows.houseTriangleRow.named Rows.houseTriangleSpec.vars) = true := by kernel_rfl
theorem jHouseTriangle5 : ((Rows.houseTriangleRow.stops == [])) = true := by kernel_rfl
theorem jHouseTriangle6 : ((Tryz.prog.stops == [])) = true := sh6
theorem jHouseTriangle7 : ((Rows.houseTriangleRow.knobs == [])) = true := by kernel_rfl
theorem jHouseTriangle8 : ((Tryz.prog.stopKnobs == [])) = true := sh8
theorem jHouseTriangle9 : ((Rows.houseTriangleRow.inPlace == Tryz.prog.inPlace 19)) = true := by kernel_rfl
theorem jHouseTriangle10 : ((Rows.houseTriangleRow.unfollowed == Tryz.prog.unfollowed 19)) = true := by kernel_rfl
theorem jHouseTriangle11 : ((Rows.houseTriangleRow.recurses == Tryz.prog.recurses 19)) = true := by kernel_rfl
theorem jHouseTriangle12 : ((Rows.houseTriangleRow.named == Tryz.prog.varsNamed 19)) = true := by kernel_rfl
theorem jHouseTriangle13 : ((Rows.houseTriangleRow.maps == (Tryz.f19.params.toList ++ Rows.houseTriangleSpec.plain.varTypes Tryz.prog).any (Tryz.prog.mapsRec ·))) = true := by kernel_rfl
theorem jHouseTriangle14 : ((Rows.houseTriangleRow.ifaces == (Tryz.f19.params.toList ++ Rows.houseTriangleSpec.plain.varTypes Tryz.prog).any (Tryz.prog.ifacesRec ·))) = true := by kernel_rfl
theorem jHouseTriangle15 : ((Rows.houseTriangleRow.mapsOut == Tryz.prog.mapsAmong Tryz.f19.resultTypes.toList)) = true := by kernel_rfl
theorem jHouseTriangle16 : ((Rows.houseTriangleRow.loops == (Tryz.f19.params.toList ++ Rows.houseTriangleSpec.plain.varTypes Tryz.prog).any (Tryz.prog.loopsFrom ·))) = true := by kernel_rfl
theorem jHouseTriangle17 : ((Rows.houseTriangleRow.wideKeys == (Tryz.f19.params.toList ++ Rows.houseTriangleSpec.plain.varTypes Tryz.prog ++ Tryz.f19.resultTypes.toList).any (Tryz.prog.wideKeysFrom ·))) = true := by kernel_rfl
theorem jHouseTriangle18 : (Rows.houseTriangleSpec.vars.all (Tryz.prog.varReadable ·)) = true := by kernel_rfl
theorem jHouseTriangle19 : (Tryz.f19.resultTypes.all (fun t => Tryz.prog.readableRec t && decide (t < Tryz.prog.types.size))) = true := by kernel_rfl
theorem jHouseTriangle20 : ((Rows.houseTriangleRow.ifacesOut == Tryz.f19.resultTypes.toList.any (Tryz.prog.ifacesRec ·))) = true := by kernel_rfl
theorem jHouseTriangle21 : ((Rows.houseTriangleRow.loopsOut == Tryz.f19.resultTypes.toList.any (Tryz.prog.loopsFrom ·))) = true := by kernel_rfl
theorem jHouseTriangle22 : ((Rows.houseTriangleRow.plainKeys == Tryz.prog.plainKeys)) = true := sh22
theorem jHouseTriangle23 : (Rows.houseTriangleRow.shortTexts.isNone) = true := by kernel_rfl
theorem jHouseTriangle24 : (Tryz.prog.stopsHeard) = true := sh24
theorem jHouseTriangle25 : (Tryz.prog.mayEnter) = true := sh25
theorem jHouseTriangle26 : ((Rows.houseTriangleRow.lifted == Tryz.prog.liftsFinal)) = true := sh26
theorem jHouseTriangle27 : ((Tryz.prog.make == some Rows.houseTriangleRow.make)) = true := sh27
theorem jHouseTriangle28 : ((Rows.houseTriangleRow.kinds == (if Rows.houseTriangleRow.domain.isEmpty then [] else Tryz.f19.params.toList.map fun t => match Tryz.prog.underlying t with | some (.int k) => some k | _ => none))) = true := by kernel_rfl
theorem jHouseTriangle29 : ((Rows.houseTriangleRow.pinned == Rows.houseTriangleRow.pinnedBy)) = true := sh29
theorem jHouseTriangle30 : ((Rows.houseTriangleRow.veiled == (Tryz.f19.params.toList ++ Rows.houseTriangleSpec.plain.varTypes Tryz.prog ++ Tryz.f19.resultTypes.toList).any (Tryz.prog.veiledRec ·))) = true := by kernel_rfl
theorem jHouseTriangle31 : (Rows.houseTriangleRow.veiledFits Tryz.prog Tryz.f19.params.toList (Tryz.f19.params.toList ++ Rows.houseTriangleSpec.plain.varTypes Tryz.prog ++ Tryz.f19.resultTypes.toList)) = true := by kernel_rfl
theorem jfHouseTriangle : joinedFacts Tryz.prog 19 Tryz.f19 Rows.houseTriangleSpec Rows.houseTriangleRow = true := (band (band (band (band (band (band (band (band (band (band (band (band (band (band (band (band (band (band (band (band (band (band (band (band (band (band (band (band (band (band (band jHouseTriangle0 jHouseTriangle1) jHouseTriangle2) jHouseTriangle3) jHouseTriangle4) jHouseTriangle5) jHouseTriangle6) jHouseTriangle7) jHouseTriangle8) jHouseTriangle9) jHouseTriangle10) jHouseTriangle11) jHouseTriangle12) jHouseTriangle13) jHouseTriangle14) jHouseTriangle15) jHouseTriangle16) jHouseTriangle17) jHouseTriangle18) jHouseTriangle19) jHouseTriangle20) jHouseTriangle21) jHouseTriangle22) jHouseTriangle23) jHouseTriangle24) jHouseTriangle25) jHouseTriangle26) jHouseTriangle27) jHouseTriangle28) jHouseTriangle29) jHouseTriangle30) jHouseTriangle31)
theorem row_holdsHouseTriangle : Rows.HouseTriangleSaid :=
  OpenClaim.holds_of_wide 19 Tryz.f19 rfl rfl rfl rfl rfl rfl rfl ⟨rfl, rfl, rfl, rfl, rfl⟩ rfl rfl rfl rfl rfl (by kernel_rfl) Tryz.func19 jfHouseTriangle
    (of_decide_eq_true (by kernel_rfl)) (by unfold Func.isWrapper; first | (rw [if_pos (by decide +kernel)]; kernel_rfl) | (rw [if_neg (by decide +kernel)]; exact ⟨rfl, rfl⟩))
    (fun os started H enc _ => liftedHouseTriangle os started H enc)
theorem houseTriangle_holds : Rows.HouseTriangleCardSaid :=
  Claim7.holds_tied_plain_at .later [] [.data, .data, .data] true (true, "4e618f33cc17afbde1f6d9a014ad85e9fad687eaa96434e3d1147b07e51ddefd") false
    row_holdsHouseTriangle (fun _ h => by cases h) (by kernel_rfl) (fun _ h => by cases h) houseTriangle_row_tie rfl ⟨rfl, rfl⟩ (by kernel_rfl) rfl
    (fun f fn hf hfn => by
      obtain rfl : f = 19 := Option.some.inj ((show Tryz.prog.funcNamed "patrol/patrollaw03.HouseTriangle" = some 19 by kernel_rfl).symm.trans hf) |>.symm
      obtain rfl : fn = Tryz.f19 := (Option.some.inj (Tryz.func19.symm.trans hfn)).symm
      exact ⟨by kernel_rfl, fun j t ht => by
        have hm : t ∈ Tryz.f19.params.toList := by simpa using Array.mem_of_getElem? ht
        have hall : (Tryz.f19.params.toList.all fun u => !Tryz.prog.wantsStandIn u) = true := by kernel_rfl
        exact (show Tryz.prog.wantsStandIn t = false by simpa using List.all_eq_true.1 hall t hm)⟩)
    (by kernel_rfl)
#print axioms houseTriangle_holds
end Go.Proofs.YtohfdkdjfoonjaaGreatDoor
