/-
  ClockRefuses: for all records and lists of times the law returns true; conditions: none.
-/
import Derived.Test.YtpaipdipkgnpdaaGreatBAB
import Derived.Test.YtpaipdipkgnpdaaGreatSdC
import Derived.Test.YtpaipdipkgnpdaaGreatBO
import Derived.Test.YtpaipdipkgnpdaaGreatAE4
import Derived.Test.YtpaipdipkgnpdaaGreatAE3
import Derived.Test.YtpaipdipkgnpdaaGreatRows
import Derived.LaidMore
import Derived.ChangeMaps5
set_option linter.unusedSimpArgs false
set_option linter.unusedVariables false
namespace Go.Proofs.YtpaipdipkgnpdaaGreat
open Go Go.RowKit Go.Aev Go.Proofs Go.ChangeShapes Go.WideShapes Go.ChangeMaps
set_option maxRecDepth 100000
theorem callsClockRefuses {H : Type} {enc : TypeId × Value → H} (W : World) {b0 : Nat} {v0 : Value} {d0 : DataW H} {p0 : List MemPlace} (hv0 : Value.okWide Tryz.prog W .any b0 30 v0) (h0 : DataW.Trod enc Tryz.prog W 0 (fun _ => true) true 30 v0 d0 p0) {b1 : Nat} {v1 : Value} {d1 : DataW H} {p1 : List MemPlace} (hv1 : Value.okWide Tryz.prog W .any b1 31 v1) (h1 : DataW.Trod enc Tryz.prog W 0 (fun _ => true) true 31 v1 d1 p1) :
    Calls Tryz.prog 7 #[v0, v1] W fun e w' => e = .returned (.bool true) ∧ Below W.heap.size W w' := by
  obtain ⟨σ, hr⟩ := HR.start0 (w := W)
  obtain ⟨cs0, rfl⟩ := okWide_agg Tryz.underlying30 hv0
  obtain ⟨σ0, S0, cw0, r, le0, hr0, a0, x0, r0⟩ := hr.argO Clock.opRc h0
  obtain ⟨w0_11, w0_12, w0_13, rfl, r0_11, r0_12, r0_13⟩ := r0
  replace x0 : VR σ0 (.agg #[.int .i64 r.ses.id, .int .i64 r.ses.inLo, .int .i64 r.ses.inHi, .int .i64 r.ses.outLo, .int .i64 r.ses.outHi, .int .i64 r.ses.zLo, .int .i64 r.ses.zHi, .int .i64 r.ses.eLo, .int .i64 r.ses.eHi, .int .i64 r.ses.rLo, .int .i64 r.ses.rHi, w0_11, w0_12, w0_13]) (.agg cs0) := agg_vr x0
  obtain ⟨σ1, S1, cw1, times, le1, hr1, a1, x1, r1⟩ := hr0.argO Clock.opInts h1
  obtain ⟨w1, rfl, r1⟩ := r1
  replace x1 : VR σ1 w1 v1 := slice_vr Tryz.underlying31 hv1 x1
  replace r0_11 := r0_11.agree a1
  replace r0_12 := r0_12.agree a1
  replace r0_13 := r0_13.agree a1
  replace x0 := x0.mono le1
  obtain ⟨S', hrun, _⟩ := (by have h' := Clock.c7 r times san S1 _ r0_11 _ r0_12 _ r0_13 _ r1.flat; rw [Clock.r7_true] at h'; exact h')
  refine law (args := #[.agg #[.int .i64 r.ses.id, .int .i64 r.ses.inLo, .int .i64 r.ses.inHi, .int .i64 r.ses.outLo, .int .i64 r.ses.outHi, .int .i64 r.ses.zLo, .int .i64 r.ses.zHi, .int .i64 r.ses.eLo, .int .i64 r.ses.eHi, .int .i64 r.ses.rLo, .int .i64 r.ses.rHi, w0_11, w0_12, w0_13], w1]) hr1 ⟨rfl, fun i hi => ?_⟩ rfl hrun
  match i, hi with
  | 0, _ => exact x0
  | 1, _ => exact x1
theorem liftedClockRefuses (os : Os) (started : os.Started) (H : Type) (enc : TypeId × Value → H) :
    ReturnsInHanded {} Tryz.checked os 7 .any (fun w args => (Rows.clockRefusesSpec.pre enc Tryz.prog Tryz.f7 [] false w args ∧ laidMetH Tryz.prog [] w) ∧ sizedMet enc Tryz.prog Tryz.f7 (OpenSpec.ofChange Rows.clockRefusesSpec) false w args)
      (Rows.clockRefusesSpec.post enc Tryz.prog Tryz.f7 false true false false) := by
  refine law_lifted (C := Tryz.checked) (laid := []) own started (by kernel_rfl) Tryz.func7 (by kernel_rfl) rfl laidOut (by kernel_rfl) (tb := 4) (by kernel_rfl) Tryz.underlying4 (fun ds hd => ?_)
    (ChangeSpec.witness_shaped (enc := enc) (C := Tryz.checked) (os := os) (X := fun w _ => laidMetH Tryz.prog [] w) false (World.doorLaid Tryz.prog 400 os) #[.agg #[.int .i64 0, .int .i64 0, .int .i64 0, .int .i64 0, .int .i64 0, .int .i64 0, .int .i64 0, .int .i64 0, .int .i64 0, .int .i64 0, .int .i64 0, .slice none 0 0, .slice none 0 0, .slice none 0 0], .slice none 0 0] 8 rfl (World.shaped_of_RefB (by kernel_rfl) (by kernel_rfl)) (by kernel_rfl) (by kernel_rfl) (by kernel_rfl) (met _))
    (fun W base args ds p hval hA hlt hw hL => ?_)
  · rw [Tryz.params7] at hd
    match ds, hd with
    | [d0, d1], _ => rfl
  · rw [Tryz.params7] at hA hval
    obtain ⟨args⟩ := args
    obtain ⟨v0, as0, d0, ds0, p0, q0, rfl, rfl, rfl, h0, hA⟩ := trodAll_cons hA
    obtain ⟨v1, as1, d1, ds1, p1, q1, rfl, rfl, rfl, h1, hA⟩ := trodAll_cons hA
    obtain ⟨rfl, rfl, rfl⟩ := trodAll_nil hA
    exact callsClockRefuses W (hval 0 30 v0 rfl rfl) h0 (hval 1 31 v1 rfl rfl) h1
theorem jClockRefuses0 : (Rows.clockRefusesRow.wf (OpenSpec.ofChange Rows.clockRefusesSpec)) = true := by kernel_rfl
theorem jClockRefuses1 : (laidOutB Tryz.prog) = true := sh1
theorem jClockRefuses2 : (mapsRowed Tryz.prog) = true := sh2
theorem jClockRefuses3 : (Tryz.f7.params.all (Tryz.prog.readableRec ·)) = true := by kernel_rfl
theorem jClockRefuses4 : (namedTie Tryz.prog Rows.clockRefusesRow.named Rows.clockRefusesSpec.vars) = true := by kernel_rfl
theorem jClockRefuses5 : ((Rows.clockRefusesRow.stops == [])) = true := by kernel_rfl
theorem jClockRefuses6 : ((Tryz.prog.stops == [])) = true := sh6
theorem jClockRefuses7 : ((Rows.clockRefusesRow.knobs == [])) = true := by kernel_rfl
theorem jClockRefuses8 : ((Tryz.prog.stopKnobs == [])) = true := sh8
theorem jClockRefuses9 : ((Rows.clockRefusesRow.inPlace == Tryz.prog.inPlace 7)) = true := by kernel_rfl
theorem jClockRefuses10 : ((Rows.clockRefusesRow.unfollowed == Tryz.prog.unfollowed 7)) = true := by kernel_rfl
theorem jClockRefuses11 : ((Rows.clockRefusesRow.recurses == Tryz.prog.recurses 7)) = true := by kernel_rfl
theorem jClockRefuses12 : ((Rows.clockRefusesRow.named == Tryz.prog.varsNamed 7)) = true := by kernel_rfl
theorem jClockRefuses13 : ((Rows.clockRefusesRow.maps == (Tryz.f7.params.toList ++ Rows.clockRefusesSpec.plain.varTypes Tryz.prog).any (Tryz.prog.mapsRec ·))) = true := by kernel_rfl
theorem jClockRefuses14 : ((Rows.clockRefusesRow.ifaces == (Tryz.f7.params.toList ++ Rows.clockRefusesSpec.plain.varTypes Tryz.prog).any (Tryz.prog.ifacesRec ·))) = true := by kernel_rfl
theorem jClockRefuses15 : ((Rows.clockRefusesRow.mapsOut == Tryz.prog.mapsAmong Tryz.f7.resultTypes.toList)) = true := by kernel_rfl
theorem jClockRefuses16 : ((Rows.clockRefusesRow.loops == (Tryz.f7.params.toList ++ Rows.clockRefusesSpec.plain.varTypes Tryz.prog).any (Tryz.prog.loopsFrom ·))) = true := by kernel_rfl
theorem jClockRefuses17 : ((Rows.clockRefusesRow.wideKeys == (Tryz.f7.params.toList ++ Rows.clockRefusesSpec.plain.varTypes Tryz.prog ++ Tryz.f7.resultTypes.toList).any (Tryz.prog.wideKeysFrom ·))) = true := by kernel_rfl
theorem jClockRefuses18 : (Rows.clockRefusesSpec.vars.all (Tryz.prog.varReadable ·)) = true := by kernel_rfl
theorem jClockRefuses19 : (Tryz.f7.resultTypes.all (fun t => Tryz.prog.readableRec t && decide (t < Tryz.prog.types.size))) = true := by kernel_rfl
theorem jClockRefuses20 : ((Rows.clockRefusesRow.ifacesOut == Tryz.f7.resultTypes.toList.any (Tryz.prog.ifacesRec ·))) = true := by kernel_rfl
theorem jClockRefuses21 : ((Rows.clockRefusesRow.loopsOut == Tryz.f7.resultTypes.toList.any (Tryz.prog.loopsFrom ·))) = true := by kernel_rfl
theorem jClockRefuses22 : ((Rows.clockRefusesRow.plainKeys == Tryz.prog.plainKeys)) = true := sh22
theorem jClockRefuses23 : (Rows.clockRefusesRow.shortTexts.isNone) = true := by kernel_rfl
theorem jClockRefuses24 : (Tryz.prog.stopsHeard) = true := sh24
theorem jClockRefuses25 : (Tryz.prog.mayEnter) = true := sh25
theorem jClockRefuses26 : ((Rows.clockRefusesRow.lifted == Tryz.prog.liftsFinal)) = true := sh26
theorem jClockRefuses27 : ((Tryz.prog.make == some Rows.clockRefusesRow.make)) = true := sh27
theorem jClockRefuses28 : ((Rows.clockRefusesRow.kinds == (if Rows.clockRefusesRow.domain.isEmpty then [] else Tryz.f7.params.toList.map fun t => match Tryz.prog.underlying t with | some (.int k) => some k | _ => none))) = true := by kernel_rfl
theorem jClockRefuses29 : ((Rows.clockRefusesRow.pinned == Rows.clockRefusesRow.pinnedBy)) = true := sh29
theorem jClockRefuses30 : ((Rows.clockRefusesRow.veiled == (Tryz.f7.params.toList ++ Rows.clockRefusesSpec.plain.varTypes Tryz.prog ++ Tryz.f7.resultTypes.toList).any (Tryz.prog.veiledRec ·))) = true := by kernel_rfl
theorem jClockRefuses31 : (Rows.clockRefusesRow.veiledFits Tryz.prog Tryz.f7.params.toList (Tryz.f7.params.toList ++ Rows.clockRefusesSpec.plain.varTypes Tryz.prog ++ Tryz.f7.resultTypes.toList)) = true := by kernel_rfl
theorem jfClockRefuses : joinedFacts Tryz.prog 7 Tryz.f7 Rows.clockRefusesSpec Rows.clockRefusesRow = true := (band (band (band (band (band (band (band (band (band (band (band (band (band (band (band (band (band (band (band (band (band (band (band (band (band (band (band (band (band (band (band jClockRefuses0 jClockRefuses1) jClockRefuses2) jClockRefuses3) jClockRefuses4) jClockRefuses5) jClockRefuses6) jClockRefuses7) jClockRefuses8) jClockRefuses9) jClockRefuses10) jClockRefuses11) jClockRefuses12) jClockRefuses13) jClockRefuses14) jClockRefuses15) jClockRefuses16) jClockRefuses17) jClockRefuses18) jClockRefuses19) jClockRefuses20) jClockRefuses21) jClockRefuses22) jClockRefuses23) jClockRefuses24) jClockRefuses25) jClockRefuses26) jClockRefuses27) jClockRefuses28) jClockRefuses29) jClockRefuses30) jClockRefuses31)
theorem row_holdsClockRefuses : Rows.ClockRefusesSaid :=
  OpenClaim.holds_of_wide 7 Tryz.f7 rfl rfl rfl rfl rfl rfl rfl ⟨rfl, rfl, rfl, rfl, rfl⟩ rfl rfl rfl rfl rfl (by kernel_rfl) Tryz.func7 jfClockRefuses
    (of_decide_eq_true (by kernel_rfl)) (by unfold Func.isWrapper; first | (rw [if_pos (by decide +kernel)]; kernel_rfl) | (rw [if_neg (by decide +kernel)]; exact ⟨rfl, rfl⟩))
    (fun os started H enc _ => by have h := liftedClockRefuses os started H enc; simp only [laidMetH_nil, and_true] at h; exact h)
#print axioms row_holdsClockRefuses
end Go.Proofs.YtpaipdipkgnpdaaGreat
