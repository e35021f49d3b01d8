/-
  DialSharper: for all lists of keys, marks, inks and numbers the law returns true; conditions: none but that the listed package-level variables hold what the program's text lays.
-/
import Derived.Test.YtgbjgljchkodjaaGreatDoorBO
import Derived.Test.YtgbjgljchkodjaaGreatDoorSdZ
import Derived.Test.YtgbjgljchkodjaaGreatDoorAE4
import Derived.Test.YtgbjgljchkodjaaGreatDoorRows
import Derived.Test.YtgbjgljchkodjaaGreatDoorTie
import Derived.Test.YtgbjgljchkodjaaGreatDoorCards
import Derived.SevenTiedAt
import Derived.LaidMore
set_option linter.unusedSimpArgs false
set_option linter.unusedVariables false
namespace Go.Proofs.YtgbjgljchkodjaaGreatDoor
open Go Go.RowKit Go.Aev Go.Proofs Go.ChangeShapes Go.WideShapes
set_option maxRecDepth 100000
theorem callsDialSharper {H : Type} {enc : TypeId × Value → H} (W : World) (hL : laidMet Tryz.prog laidZ W) {b0 : Nat} {v0 : Value} {d0 : DataW H} {p0 : List MemPlace} (hv0 : Value.okWide Tryz.prog W .any b0 56 v0) (h0 : DataW.Trod enc Tryz.prog W 0 (fun _ => true) true 56 v0 d0 p0) (a b c d e aa ba ca da ea f s l w u : Int) :
    Calls Tryz.prog 9 #[v0, .agg #[.int .i64 a, .int .i64 b, .int .i64 c, .int .i64 d, .int .i64 e], .agg #[.int .i64 aa, .int .i64 ba, .int .i64 ca, .int .i64 da, .int .i64 ea], .agg #[.int .i64 f, .int .i64 s, .int .i64 l], .int .i64 w, .int .i64 u] W fun e w' => e = .returned (.bool true) ∧ Below W.heap.size W w' := by
  obtain ⟨σ, hr⟩ := HR.ofLaid hL seat.lt seat.max seat.self
  have ht : Great.Tab (startAS 5 (knownOf Tryz.prog laidZ)) := ⟨Nat.le_refl _, known_circle⟩
  obtain ⟨σ0, S0, w0, n0, le0, hr0, x0, r0, a0, f0⟩ := hr.arg (n := 4) (ks := [.i64, .i64, .i64]) (by kernel_rfl) (by kernel_rfl) (by decide) Tryz.underlying56 hv0 h0
  obtain ⟨ks, rfl⟩ := lst_of (α := Great.K) Great.sur_K f0
  replace r0 : Lst S0 w0 ks := r0
  replace ht := ht.agree a0
  obtain ⟨S', hrun, _⟩ := (by have h := Great.c1009 ks a b c d e aa ba ca da ea f s l w u S0 w0 r0 ht; rw [Great.r1009_true] at h; exact h)
  refine seat.law (args := #[w0, .agg #[.int .i64 a, .int .i64 b, .int .i64 c, .int .i64 d, .int .i64 e], .agg #[.int .i64 aa, .int .i64 ba, .int .i64 ca, .int .i64 da, .int .i64 ea], .agg #[.int .i64 f, .int .i64 s, .int .i64 l], .int .i64 w, .int .i64 u]) hL hr0 ⟨rfl, fun i hi => ?_⟩ rfl hrun
  match i, hi with
  | 0, _ => exact x0
  | 1, _ => exact selfB_spec σ0 8 _ rfl
  | 2, _ => exact selfB_spec σ0 8 _ rfl
  | 3, _ => exact selfB_spec σ0 8 _ rfl
  | 4, _ => exact selfB_spec σ0 8 _ rfl
  | 5, _ => exact selfB_spec σ0 8 _ rfl
theorem liftedDialSharper (os : Os) (started : os.Started) (H : Type) (enc : TypeId × Value → H) :
    ReturnsInHanded {} Tryz.checked os 9 .any (fun w args => (Rows.dialSharperSpec.pre enc Tryz.prog Tryz.f9 [] false w args ∧ laidMetH Tryz.prog laidZ w) ∧ sizedMet enc Tryz.prog Tryz.f9 (OpenSpec.ofChange Rows.dialSharperSpec) false w args)
      (Rows.dialSharperSpec.post enc Tryz.prog Tryz.f9 false true false false) := by
  refine law_lifted (C := Tryz.checked) (laid := laidZ) own started (by kernel_rfl) Tryz.func9 (by kernel_rfl) rfl laidOut (by kernel_rfl) (tb := 4) (by kernel_rfl) Tryz.underlying4 (fun ds hd => ?_)
    (ChangeSpec.witness_shaped (enc := enc) (C := Tryz.checked) (os := os) (X := fun w _ => laidMetH Tryz.prog laidZ w) false (World.doorLaid Tryz.prog 400 os) #[.slice none 0 0, .agg #[.int .i64 0, .int .i64 0, .int .i64 0, .int .i64 0, .int .i64 0], .agg #[.int .i64 0, .int .i64 0, .int .i64 0, .int .i64 0, .int .i64 0], .agg #[.int .i64 0, .int .i64 0, .int .i64 0], .int .i64 0, .int .i64 0] 8 rfl (World.shaped_of_RefB (by kernel_rfl) (by kernel_rfl)) (by kernel_rfl) (by kernel_rfl) (by kernel_rfl) (door_met os _))
    (fun W base args ds p hval hA hlt hw hL => ?_)
  · rw [Tryz.params9] at hd
    match ds, hd with
    | [d0, d1, d2, d3, d4, d5], _ => rfl
  · rw [Tryz.params9] at hA hval
    obtain ⟨args⟩ := args
    obtain ⟨v0, as0, d0, ds0, p0, q0, rfl, rfl, rfl, h0, hA⟩ := trodAll_cons hA
    obtain ⟨v1, as1, d1, ds1, p1, q1, rfl, rfl, rfl, h1, hA⟩ := trodAll_cons hA
    obtain ⟨v2, as2, d2, ds2, p2, q2, rfl, rfl, rfl, h2, hA⟩ := trodAll_cons hA
    obtain ⟨v3, as3, d3, ds3, p3, q3, rfl, rfl, rfl, h3, hA⟩ := trodAll_cons hA
    obtain ⟨v4, as4, d4, ds4, p4, q4, rfl, rfl, rfl, h4, hA⟩ := trodAll_cons hA
    obtain ⟨v5, as5, d5, ds5, p5, q5, rfl, rfl, rfl, h5, hA⟩ := trodAll_cons hA
    obtain ⟨rfl, rfl, rfl⟩ := trodAll_nil hA
    obtain ⟨ns1, ⟨l1, _⟩, rfl⟩ := open_kinds (n := 4) (ks := [.i64, .i64, .i64, .i64, .i64]) (by kernel_rfl) Tryz.underlying46 (hval 1 46 v1 rfl rfl) h1
    obtain ⟨ns2, ⟨l2, _⟩, rfl⟩ := open_kinds (n := 4) (ks := [.i64, .i64, .i64, .i64, .i64]) (by kernel_rfl) Tryz.underlying46 (hval 2 46 v2 rfl rfl) h2
    obtain ⟨ns3, ⟨l3, _⟩, rfl⟩ := open_kinds (n := 4) (ks := [.i64, .i64, .i64]) (by kernel_rfl) Tryz.underlying60 (hval 3 60 v3 rfl rfl) h3
    obtain ⟨w, rfl, _, _, _⟩ := open_int Tryz.underlying3 (hval 4 3 v4 rfl rfl) h4
    obtain ⟨u, rfl, _, _, _⟩ := open_int Tryz.underlying3 (hval 5 3 v5 rfl rfl) h5
    match ns1, l1, ns2, l2, ns3, l3 with
    | [a, b, c, d, e], _, [aa, ba, ca, da, ea], _, [f, s, l], _ => exact callsDialSharper W hL (hval 0 56 v0 rfl rfl) h0 a b c d e aa ba ca da ea f s l w u
theorem row_holdsDialSharper : Rows.DialSharperSaid :=
  OpenClaim.holds_of_wide 9 Tryz.f9 rfl rfl rfl rfl rfl rfl rfl ⟨rfl, rfl, rfl, rfl, rfl⟩ rfl rfl rfl rfl rfl (by kernel_rfl) Tryz.func9 (by kernel_rfl)
    (of_decide_eq_true (by kernel_rfl)) (by unfold Func.isWrapper; first | (rw [if_pos (by decide +kernel)]; kernel_rfl) | (rw [if_neg (by decide +kernel)]; exact ⟨rfl, rfl⟩))
    (fun os started H enc _ => liftedDialSharper os started H enc)
theorem dialSharper_holds : Rows.DialSharperCardSaid :=
  Claim7.holds_tied_plain_at .later [] [.data, .data, .data, .data] true (true, "610ab3fe7b872ca0185609f8321a089d5418d910d865327696d71b61fde54255") false
    row_holdsDialSharper (fun _ h => by cases h) (by kernel_rfl) (fun _ h => by cases h) dialSharper_row_tie rfl ⟨rfl, rfl⟩ (by kernel_rfl) rfl
    (fun f fn hf hfn => by
      obtain rfl : f = 9 := Option.some.inj ((show Tryz.prog.funcNamed "patrol/patrollaw01.DialSharper" = some 9 by kernel_rfl).symm.trans hf) |>.symm
      obtain rfl : fn = Tryz.f9 := (Option.some.inj (Tryz.func9.symm.trans hfn)).symm
      exact ⟨by kernel_rfl, fun j t ht => by
        have hm : t ∈ Tryz.f9.params.toList := by simpa using Array.mem_of_getElem? ht
        have hall : (Tryz.f9.params.toList.all fun u => !Tryz.prog.wantsStandIn u) = true := by kernel_rfl
        exact (show Tryz.prog.wantsStandIn t = false by simpa using List.all_eq_true.1 hall t hm)⟩)
    (by kernel_rfl)
#print axioms dialSharper_holds
end Go.Proofs.YtgbjgljchkodjaaGreatDoor
