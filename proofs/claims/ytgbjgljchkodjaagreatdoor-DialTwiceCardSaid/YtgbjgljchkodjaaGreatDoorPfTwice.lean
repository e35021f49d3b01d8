/-
  DialTwice: for all lists of keys, double strikes, inks and marks that agree the law returns true; conditions: none but that the listed package-level variables hold what the program's text lays.
-/
import Derived.Test.YtgbjgljchkodjaaGreatDoorEvM18
import Derived.Test.YtgbjgljchkodjaaGreatDoorSdZ
import Derived.Test.YtgbjgljchkodjaaGreatDoorAE4
import Derived.Test.YtgbjgljchkodjaaGreatDoorRows
import Derived.Test.YtgbjgljchkodjaaGreatDoorTie
import Derived.Test.YtgbjgljchkodjaaGreatDoorCards
import Derived.SevenTiedAt
import Derived.LaidMore
set_option linter.unusedSimpArgs false
set_option linter.unusedVariables false
namespace Go.Proofs.YtgbjgljchkodjaaGreatDoor
open Go Go.RowKit Go.Aev Go.Proofs Go.ChangeShapes Go.WideShapes
set_option maxRecDepth 100000
theorem callsDialTwice {H : Type} {enc : TypeId × Value → H} (W : World) (hL : laidMet Tryz.prog laidZ W) {b0 : Nat} {v0 : Value} {d0 : DataW H} {p0 : List MemPlace} (hv0 : Value.okWide Tryz.prog W .any b0 56 v0) (h0 : DataW.Trod enc Tryz.prog W 0 (fun _ => true) true 56 v0 d0 p0) (wi wo at_ ap mi di sh f s l bf af un : Int) :
    Calls Tryz.prog 8 #[v0, .int .i64 wi, .int .i64 wo, .int .i64 at_, .int .i64 ap, .agg #[.int .i64 mi, .int .i64 di, .int .i64 sh], .agg #[.int .i64 f, .int .i64 s, .int .i64 l], .int .i64 bf, .int .i64 af, .int .i64 un] W fun e w' => e = .returned (.bool true) ∧ Below W.heap.size W w' := by
  obtain ⟨σ, hr⟩ := HR.ofLaid hL seat.lt seat.max seat.self
  have ht : Great.Tab (startAS 5 (knownOf Tryz.prog laidZ)) := ⟨Nat.le_refl _, known_circle⟩
  obtain ⟨σ0, S0, w0, n0, le0, hr0, x0, r0, a0, f0⟩ := hr.arg (n := 4) (ks := [.i64, .i64, .i64]) (by kernel_rfl) (by kernel_rfl) (by decide) Tryz.underlying56 hv0 h0
  obtain ⟨ks, rfl⟩ := lst_of (α := Great.K) Great.sur_K f0
  replace r0 : Lst S0 w0 ks := r0
  replace ht := ht.agree a0
  obtain ⟨S', hrun, _⟩ := (by have h := Great.c1008 ks wi wo at_ ap mi di sh f s l bf af un S0 w0 r0 ht; rw [Great.r1008_true] at h; exact h)
  refine seat.law (args := #[w0, .int .i64 wi, .int .i64 wo, .int .i64 at_, .int .i64 ap, .agg #[.int .i64 mi, .int .i64 di, .int .i64 sh], .agg #[.int .i64 f, .int .i64 s, .int .i64 l], .int .i64 bf, .int .i64 af, .int .i64 un]) hL hr0 ⟨rfl, fun i hi => ?_⟩ rfl hrun
  match i, hi with
  | 0, _ => exact x0
  | 1, _ => exact selfB_spec σ0 8 _ rfl
  | 2, _ => exact selfB_spec σ0 8 _ rfl
  | 3, _ => exact selfB_spec σ0 8 _ rfl
  | 4, _ => exact selfB_spec σ0 8 _ rfl
  | 5, _ => exact selfB_spec σ0 8 _ rfl
  | 6, _ => exact selfB_spec σ0 8 _ rfl
  | 7, _ => exact selfB_spec σ0 8 _ rfl
  | 8, _ => exact selfB_spec σ0 8 _ rfl
  | 9, _ => exact selfB_spec σ0 8 _ rfl
theorem liftedDialTwice (os : Os) (started : os.Started) (H : Type) (enc : TypeId × Value → H) :
    ReturnsInHanded {} Tryz.checked os 8 .any (fun w args => (Rows.dialTwiceSpec.pre enc Tryz.prog Tryz.f8 [] false w args ∧ laidMetH Tryz.prog laidZ w) ∧ sizedMet enc Tryz.prog Tryz.f8 (OpenSpec.ofChange Rows.dialTwiceSpec) false w args)
      (Rows.dialTwiceSpec.post enc Tryz.prog Tryz.f8 false true false false) := by
  refine law_lifted (C := Tryz.checked) (laid := laidZ) own started (by kernel_rfl) Tryz.func8 (by kernel_rfl) rfl laidOut (by kernel_rfl) (tb := 4) (by kernel_rfl) Tryz.underlying4 (fun ds hd => ?_)
    (ChangeSpec.witness_shaped (enc := enc) (C := Tryz.checked) (os := os) (X := fun w _ => laidMetH Tryz.prog laidZ w) false (World.doorLaid Tryz.prog 400 os) #[.slice none 0 0, .int .i64 0, .int .i64 0, .int .i64 0, .int .i64 0, .agg #[.int .i64 0, .int .i64 0, .int .i64 0], .agg #[.int .i64 0, .int .i64 0, .int .i64 0], .int .i64 0, .int .i64 0, .int .i64 0] 8 rfl (World.shaped_of_RefB (by kernel_rfl) (by kernel_rfl)) (by kernel_rfl) (by kernel_rfl) (by kernel_rfl) (door_met os _))
    (fun W base args ds p hval hA hlt hw hL => ?_)
  · rw [Tryz.params8] at hd
    match ds, hd with
    | [d0, d1, d2, d3, d4, d5, d6, d7, d8, d9], _ => rfl
  · rw [Tryz.params8] at hA hval
    obtain ⟨args⟩ := args
    obtain ⟨v0, as0, d0, ds0, p0, q0, rfl, rfl, rfl, h0, hA⟩ := trodAll_cons hA
    obtain ⟨v1, as1, d1, ds1, p1, q1, rfl, rfl, rfl, h1, hA⟩ := trodAll_cons hA
    obtain ⟨v2, as2, d2, ds2, p2, q2, rfl, rfl, rfl, h2, hA⟩ := trodAll_cons hA
    obtain ⟨v3, as3, d3, ds3, p3, q3, rfl, rfl, rfl, h3, hA⟩ := trodAll_cons hA
    obtain ⟨v4, as4, d4, ds4, p4, q4, rfl, rfl, rfl, h4, hA⟩ := trodAll_cons hA
    obtain ⟨v5, as5, d5, ds5, p5, q5, rfl, rfl, rfl, h5, hA⟩ := trodAll_cons hA
    obtain ⟨v6, as6, d6, ds6, p6, q6, rfl, rfl, rfl, h6, hA⟩ := trodAll_cons hA
    obtain ⟨v7, as7, d7, ds7, p7, q7, rfl, rfl, rfl, h7, hA⟩ := trodAll_cons hA
    obtain ⟨v8, as8, d8, ds8, p8, q8, rfl, rfl, rfl, h8, hA⟩ := trodAll_cons hA
    obtain ⟨v9, as9, d9, ds9, p9, q9, rfl, rfl, rfl, h9, hA⟩ := trodAll_cons hA
    obtain ⟨rfl, rfl, rfl⟩ := trodAll_nil hA
    obtain ⟨wi, rfl, _, _, _⟩ := open_int Tryz.underlying3 (hval 1 3 v1 rfl rfl) h1
    obtain ⟨wo, rfl, _, _, _⟩ := open_int Tryz.underlying3 (hval 2 3 v2 rfl rfl) h2
    obtain ⟨at_, rfl, _, _, _⟩ := open_int Tryz.underlying3 (hval 3 3 v3 rfl rfl) h3
    obtain ⟨ap, rfl, _, _, _⟩ := open_int Tryz.underlying3 (hval 4 3 v4 rfl rfl) h4
    obtain ⟨ns5, ⟨l5, _⟩, rfl⟩ := open_kinds (n := 4) (ks := [.i64, .i64, .i64]) (by kernel_rfl) Tryz.underlying58 (hval 5 58 v5 rfl rfl) h5
    obtain ⟨ns6, ⟨l6, _⟩, rfl⟩ := open_kinds (n := 4) (ks := [.i64, .i64, .i64]) (by kernel_rfl) Tryz.underlying60 (hval 6 60 v6 rfl rfl) h6
    obtain ⟨bf, rfl, _, _, _⟩ := open_int Tryz.underlying3 (hval 7 3 v7 rfl rfl) h7
    obtain ⟨af, rfl, _, _, _⟩ := open_int Tryz.underlying3 (hval 8 3 v8 rfl rfl) h8
    obtain ⟨un, rfl, _, _, _⟩ := open_int Tryz.underlying3 (hval 9 3 v9 rfl rfl) h9
    match ns5, l5, ns6, l6 with
    | [mi, di, sh], _, [f, s, l], _ => exact callsDialTwice W hL (hval 0 56 v0 rfl rfl) h0 wi wo at_ ap mi di sh f s l bf af un
theorem row_holdsDialTwice : Rows.DialTwiceSaid :=
  OpenClaim.holds_of_wide 8 Tryz.f8 rfl rfl rfl rfl rfl rfl rfl ⟨rfl, rfl, rfl, rfl, rfl⟩ rfl rfl rfl rfl rfl (by kernel_rfl) Tryz.func8 (by kernel_rfl)
    (of_decide_eq_true (by kernel_rfl)) (by unfold Func.isWrapper; first | (rw [if_pos (by decide +kernel)]; kernel_rfl) | (rw [if_neg (by decide +kernel)]; exact ⟨rfl, rfl⟩))
    (fun os started H enc _ => liftedDialTwice os started H enc)
theorem dialTwice_holds : Rows.DialTwiceCardSaid :=
  Claim7.holds_tied_plain_at .later [] [.data, .data, .data, .data] true (true, "610ab3fe7b872ca0185609f8321a089d5418d910d865327696d71b61fde54255") false
    row_holdsDialTwice (fun _ h => by cases h) (by kernel_rfl) (fun _ h => by cases h) dialTwice_row_tie rfl ⟨rfl, rfl⟩ (by kernel_rfl) rfl
    (fun f fn hf hfn => by
      obtain rfl : f = 8 := Option.some.inj ((show Tryz.prog.funcNamed "patrol/patrollaw01.DialTwice" = some 8 by kernel_rfl).symm.trans hf) |>.symm
      obtain rfl : fn = Tryz.f8 := (Option.some.inj (Tryz.func8.symm.trans hfn)).symm
      exact ⟨by kernel_rfl, fun j t ht => by
        have hm : t ∈ Tryz.f8.params.toList := by simpa using Array.mem_of_getElem? ht
        have hall : (Tryz.f8.params.toList.all fun u => !Tryz.prog.wantsStandIn u) = true := by kernel_rfl
        exact (show Tryz.prog.wantsStandIn t = false by simpa using List.all_eq_true.1 hall t hm)⟩)
    (by kernel_rfl)
#print axioms dialTwice_holds
end Go.Proofs.YtgbjgljchkodjaaGreatDoor
