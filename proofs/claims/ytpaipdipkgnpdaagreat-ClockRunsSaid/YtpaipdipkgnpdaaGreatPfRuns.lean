/-
  ClockRuns: for all sessions, runs and seconds the law returns true; conditions: none.
-/
import Derived.Test.YtpaipdipkgnpdaaGreatEvW17
import Derived.Test.YtpaipdipkgnpdaaGreatBN
import Derived.Test.YtpaipdipkgnpdaaGreatSdC
import Derived.Test.YtpaipdipkgnpdaaGreatBO
import Derived.Test.YtpaipdipkgnpdaaGreatAE4
import Derived.Test.YtpaipdipkgnpdaaGreatAE3
import Derived.Test.YtpaipdipkgnpdaaGreatRows
import Derived.LaidMore
import Derived.ChangeMaps5
set_option linter.unusedSimpArgs false
set_option linter.unusedVariables false
namespace Go.Proofs.YtpaipdipkgnpdaaGreat
open Go Go.RowKit Go.Aev Go.Proofs Go.ChangeShapes Go.WideShapes Go.ChangeMaps
set_option maxRecDepth 100000
theorem callsClockRuns {H : Type} {enc : TypeId × Value → H} (W : World) {b0 : Nat} {v0 : Value} {d0 : DataW H} {p0 : List MemPlace} (hv0 : Value.okWide Tryz.prog W .any b0 26 v0) (h0 : DataW.Trod enc Tryz.prog W 0 (fun _ => true) true 26 v0 d0 p0) {b1 : Nat} {v1 : Value} {d1 : DataW H} {p1 : List MemPlace} (hv1 : Value.okWide Tryz.prog W .any b1 94 v1) (h1 : DataW.Trod enc Tryz.prog W 0 (fun _ => true) true 94 v1 d1 p1) (a : Int) :
    Calls Tryz.prog 11 #[v0, v1, .int .i64 a] W fun e w' => e = .returned (.bool true) ∧ Below W.heap.size W w' := by
  obtain ⟨σ, hr⟩ := HR.start0 (w := W)
  obtain ⟨cs0, rfl⟩ := okWide_agg Tryz.underlying26 hv0
  obtain ⟨σ0, S0, cw0, s, le0, hr0, a0, x0, r0⟩ := hr.argO Clock.opSe h0
  obtain ⟨w0_11, rfl, r0_11⟩ := r0
  replace x0 : VR σ0 (.agg #[.int .i64 s.id, .int .i64 s.inLo, .int .i64 s.inHi, .int .i64 s.outLo, .int .i64 s.outHi, .int .i64 s.zLo, .int .i64 s.zHi, .int .i64 s.eLo, .int .i64 s.eHi, .int .i64 s.rLo, .int .i64 s.rHi, w0_11]) (.agg cs0) := agg_vr x0
  obtain ⟨cs1, rfl⟩ := okWide_agg Tryz.underlying94 hv1
  obtain ⟨σ1, S1, cw1, rn, le1, hr1, a1, x1, r1⟩ := hr0.argO Clock.opRn h1
  obtain ⟨w1_2, rfl, r1_2⟩ := r1
  replace x1 : VR σ1 (.agg #[.int .i64 rn.start, .int .i64 rn.micro, w1_2]) (.agg cs1) := agg_vr x1
  replace r0_11 := r0_11.agree a1
  replace x0 := x0.mono le1
  obtain ⟨S', hrun, _⟩ := (by have h' := Clock.c11 s rn a san S1 _ r0_11 _ r1_2; rw [Clock.r11_true] at h'; exact h')
  refine law (args := #[.agg #[.int .i64 s.id, .int .i64 s.inLo, .int .i64 s.inHi, .int .i64 s.outLo, .int .i64 s.outHi, .int .i64 s.zLo, .int .i64 s.zHi, .int .i64 s.eLo, .int .i64 s.eHi, .int .i64 s.rLo, .int .i64 s.rHi, w0_11], .agg #[.int .i64 rn.start, .int .i64 rn.micro, w1_2], .int .i64 a]) hr1 ⟨rfl, fun i hi => ?_⟩ rfl hrun
  match i, hi with
  | 0, _ => exact x0
  | 1, _ => exact x1
  | 2, _ => exact selfB_spec σ1 8 _ rfl
theorem liftedClockRuns (os : Os) (started : os.Started) (H : Type) (enc : TypeId × Value → H) :
    ReturnsInHanded {} Tryz.checked os 11 .any (fun w args => (Rows.clockRunsSpec.pre enc Tryz.prog Tryz.f11 [] false w args ∧ laidMetH Tryz.prog [] w) ∧ sizedMet enc Tryz.prog Tryz.f11 (OpenSpec.ofChange Rows.clockRunsSpec) false w args)
      (Rows.clockRunsSpec.post enc Tryz.prog Tryz.f11 false true false false) := by
  refine law_lifted (C := Tryz.checked) (laid := []) own started (by kernel_rfl) Tryz.func11 (by kernel_rfl) rfl laidOut (by kernel_rfl) (tb := 4) (by kernel_rfl) Tryz.underlying4 (fun ds hd => ?_)
    (ChangeSpec.witness_shaped (enc := enc) (C := Tryz.checked) (os := os) (X := fun w _ => laidMetH Tryz.prog [] w) false (World.doorLaid Tryz.prog 400 os) #[.agg #[.int .i64 0, .int .i64 0, .int .i64 0, .int .i64 0, .int .i64 0, .int .i64 0, .int .i64 0, .int .i64 0, .int .i64 0, .int .i64 0, .int .i64 0, .slice none 0 0], .agg #[.int .i64 0, .int .i64 0, .slice none 0 0], .int .i64 0] 8 rfl (World.shaped_of_RefB (by kernel_rfl) (by kernel_rfl)) (by kernel_rfl) (by kernel_rfl) (by kernel_rfl) (met _))
    (fun W base args ds p hval hA hlt hw hL => ?_)
  · rw [Tryz.params11] at hd
    match ds, hd with
    | [d0, d1, d2], _ => rfl
  · rw [Tryz.params11] at hA hval
    obtain ⟨args⟩ := args
    obtain ⟨v0, as0, d0, ds0, p0, q0, rfl, rfl, rfl, h0, hA⟩ := trodAll_cons hA
    obtain ⟨v1, as1, d1, ds1, p1, q1, rfl, rfl, rfl, h1, hA⟩ := trodAll_cons hA
    obtain ⟨v2, as2, d2, ds2, p2, q2, rfl, rfl, rfl, h2, hA⟩ := trodAll_cons hA
    obtain ⟨rfl, rfl, rfl⟩ := trodAll_nil hA
    obtain ⟨a, rfl, _, _, _⟩ := open_int Tryz.underlying3 (hval 2 3 v2 rfl rfl) h2
    exact callsClockRuns W (hval 0 26 v0 rfl rfl) h0 (hval 1 94 v1 rfl rfl) h1 a
theorem jClockRuns0 : (Rows.clockRunsRow.wf (OpenSpec.ofChange Rows.clockRunsSpec)) = true := by kernel_rfl
theorem jClockRuns1 : (laidOutB Tryz.prog) = true := sh1
theorem jClockRuns2 : (mapsRowed Tryz.prog) = true := sh2
theorem jClockRuns3 : (Tryz.f11.params.all (Tryz.prog.readableRec ·)) = true := by kernel_rfl
theorem jClockRuns4 : (namedTie Tryz.prog Rows.clockRunsRow.named Rows.clockRunsSpec.vars) = true := by kernel_rfl
theorem jClockRuns5 : ((Rows.clockRunsRow.stops == [])) = true := by kernel_rfl
theorem jClockRuns6 : ((Tryz.prog.stops == [])) = true := sh6
theorem jClockRuns7 : ((Rows.clockRunsRow.knobs == [])) = true := by kernel_rfl
theorem jClockRuns8 : ((Tryz.prog.stopKnobs == [])) = true := sh8
theorem jClockRuns9 : ((Rows.clockRunsRow.inPlace == Tryz.prog.inPlace 11)) = true := by kernel_rfl
theorem jClockRuns10 : ((Rows.clockRunsRow.unfollowed == Tryz.prog.unfollowed 11)) = true := by kernel_rfl
theorem jClockRuns11 : ((Rows.clockRunsRow.recurses == Tryz.prog.recurses 11)) = true := by kernel_rfl
theorem jClockRuns12 : ((Rows.clockRunsRow.named == Tryz.prog.varsNamed 11)) = true := by kernel_rfl
theorem jClockRuns13 : ((Rows.clockRunsRow.maps == (Tryz.f11.params.toList ++ Rows.clockRunsSpec.plain.varTypes Tryz.prog).any (Tryz.prog.mapsRec ·))) = true := by kernel_rfl
theorem jClockRuns14 : ((Rows.clockRunsRow.ifaces == (Tryz.f11.params.toList ++ Rows.clockRunsSpec.plain.varTypes Tryz.prog).any (Tryz.prog.ifacesRec ·))) = true := by kernel_rfl
theorem jClockRuns15 : ((Rows.clockRunsRow.mapsOut == Tryz.prog.mapsAmong Tryz.f11.resultTypes.toList)) = true := by kernel_rfl
theorem jClockRuns16 : ((Rows.clockRunsRow.loops == (Tryz.f11.params.toList ++ Rows.clockRunsSpec.plain.varTypes Tryz.prog).any (Tryz.prog.loopsFrom ·))) = true := by kernel_rfl
theorem jClockRuns17 : ((Rows.clockRunsRow.wideKeys == (Tryz.f11.params.toList ++ Rows.clockRunsSpec.plain.varTypes Tryz.prog ++ Tryz.f11.resultTypes.toList).any (Tryz.prog.wideKeysFrom ·))) = true := by kernel_rfl
theorem jClockRuns18 : (Rows.clockRunsSpec.vars.all (Tryz.prog.varReadable ·)) = true := by kernel_rfl
theorem jClockRuns19 : (Tryz.f11.resultTypes.all (fun t => Tryz.prog.readableRec t && decide (t < Tryz.prog.types.size))) = true := by kernel_rfl
theorem jClockRuns20 : ((Rows.clockRunsRow.ifacesOut == Tryz.f11.resultTypes.toList.any (Tryz.prog.ifacesRec ·))) = true := by kernel_rfl
theorem jClockRuns21 : ((Rows.clockRunsRow.loopsOut == Tryz.f11.resultTypes.toList.any (Tryz.prog.loopsFrom ·))) = true := by kernel_rfl
theorem jClockRuns22 : ((Rows.clockRunsRow.plainKeys == Tryz.prog.plainKeys)) = true := sh22
theorem jClockRuns23 : (Rows.clockRunsRow.shortTexts.isNone) = true := by kernel_rfl
theorem jClockRuns24 : (Tryz.prog.stopsHeard) = true := sh24
theorem jClockRuns25 : (Tryz.prog.mayEnter) = true := sh25
theorem jClockRuns26 : ((Rows.clockRunsRow.lifted == Tryz.prog.liftsFinal)) = true := sh26
theorem jClockRuns27 : ((Tryz.prog.make == some Rows.clockRunsRow.make)) = true := sh27
theorem jClockRuns28 : ((Rows.clockRunsRow.kinds == (if Rows.clockRunsRow.domain.isEmpty then [] else Tryz.f11.params.toList.map fun t => match Tryz.prog.underlying t with | some (.int k) => some k | _ => none))) = true := by kernel_rfl
theorem jClockRuns29 : ((Rows.clockRunsRow.pinned == Rows.clockRunsRow.pinnedBy)) = true := sh29
theorem jClockRuns30 : ((Rows.clockRunsRow.veiled == (Tryz.f11.params.toList ++ Rows.clockRunsSpec.plain.varTypes Tryz.prog ++ Tryz.f11.resultTypes.toList).any (Tryz.prog.veiledRec ·))) = true := by kernel_rfl
theorem jClockRuns31 : (Rows.clockRunsRow.veiledFits Tryz.prog Tryz.f11.params.toList (Tryz.f11.params.toList ++ Rows.clockRunsSpec.plain.varTypes Tryz.prog ++ Tryz.f11.resultTypes.toList)) = true := by kernel_rfl
theorem jfClockRuns : joinedFacts Tryz.prog 11 Tryz.f11 Rows.clockRunsSpec Rows.clockRunsRow = true := (band (band (band (band (band (band (band (band (band (band (band (band (band (band (band (band (band (band (band (band (band (band (band (band (band (band (band (band (band (band (band jClockRuns0 jClockRuns1) jClockRuns2) jClockRuns3) jClockRuns4) jClockRuns5) jClockRuns6) jClockRuns7) jClockRuns8) jClockRuns9) jClockRuns10) jClockRuns11) jClockRuns12) jClockRuns13) jClockRuns14) jClockRuns15) jClockRuns16) jClockRuns17) jClockRuns18) jClockRuns19) jClockRuns20) jClockRuns21) jClockRuns22) jClockRuns23) jClockRuns24) jClockRuns25) jClockRuns26) jClockRuns27) jClockRuns28) jClockRuns29) jClockRuns30) jClockRuns31)
theorem row_holdsClockRuns : Rows.ClockRunsSaid :=
  OpenClaim.holds_of_wide 11 Tryz.f11 rfl rfl rfl rfl rfl rfl rfl ⟨rfl, rfl, rfl, rfl, rfl⟩ rfl rfl rfl rfl rfl (by kernel_rfl) Tryz.func11 jfClockRuns
    (of_decide_eq_true (by kernel_rfl)) (by unfold Func.isWrapper; first | (rw [if_pos (by decide +kernel)]; kernel_rfl) | (rw [if_neg (by decide +kernel)]; exact ⟨rfl, rfl⟩))
    (fun os started H enc _ => by have h := liftedClockRuns os started H enc; simp only [laidMetH_nil, and_true] at h; exact h)
#print axioms row_holdsClockRuns
end Go.Proofs.YtpaipdipkgnpdaaGreat
