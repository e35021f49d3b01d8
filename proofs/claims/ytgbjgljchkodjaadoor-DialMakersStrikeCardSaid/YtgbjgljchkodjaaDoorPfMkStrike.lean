/-
  DialMakersStrike: for all lists of keys, marks, inks and numbers the law returns true; conditions: none but that the listed package-level variables hold what the program's text lays.
-/
import Derived.Test.YtgbjgljchkodjaaDoorBO
import Derived.Test.YtgbjgljchkodjaaDoorSdZ
import Derived.Test.YtgbjgljchkodjaaDoorAE4
import Derived.Test.YtgbjgljchkodjaaDoorRows
import Derived.Test.YtgbjgljchkodjaaDoorTie
import Derived.Test.YtgbjgljchkodjaaDoorCards
import Derived.SevenTiedAt
import Derived.LaidMore
set_option linter.unusedSimpArgs false
set_option linter.unusedVariables false
namespace Go.Proofs.YtgbjgljchkodjaaDoor
open Go Go.RowKit Go.Aev Go.Proofs Go.ChangeShapes Go.WideShapes
set_option maxRecDepth 100000
theorem callsDialMakersStrike {H : Type} {enc : TypeId × Value → H} (W : World) (hL : laidMet Tryd.prog laidZ W) {b0 : Nat} {v0 : Value} {d0 : DataW H} {p0 : List MemPlace} (hv0 : Value.okWide Tryd.prog W .any b0 37 v0) (h0 : DataW.Trod enc Tryd.prog W 0 (fun _ => true) true 37 v0 d0 p0) (a b c d e f s l wi tu : Int) :
    Calls Tryd.prog 4 #[v0, .agg #[.int .i64 a, .int .i64 b, .int .i64 c, .int .i64 d, .int .i64 e], .agg #[.int .i64 f, .int .i64 s, .int .i64 l], .int .i64 wi, .int .i64 tu] W fun e w' => e = .returned (.bool true) ∧ Below W.heap.size W w' := by
  obtain ⟨σ, hr⟩ := HR.ofLaid hL seat.lt seat.max seat.self
  have ht : Great.Tab (startAS 5 (knownOf Tryd.prog laidZ)) := ⟨Nat.le_refl _, known_circle⟩
  obtain ⟨σ0, S0, w0, n0, le0, hr0, x0, r0, a0, f0⟩ := hr.arg (n := 4) (ks := [.i64, .i64, .i64]) (by kernel_rfl) (by kernel_rfl) (by decide) Tryd.underlying37 hv0 h0
  obtain ⟨ks, rfl⟩ := lst_of (α := Great.K) Great.sur_K f0
  replace r0 : Lst S0 w0 ks := r0
  replace ht := ht.agree a0
  obtain ⟨S', hrun, _⟩ := (by have h := Great.c1004 ks a b c d e f s l wi tu S0 w0 r0 ht; rw [Great.r1004_true] at h; exact h)
  refine seat.law (args := #[w0, .agg #[.int .i64 a, .int .i64 b, .int .i64 c, .int .i64 d, .int .i64 e], .agg #[.int .i64 f, .int .i64 s, .int .i64 l], .int .i64 wi, .int .i64 tu]) hL hr0 ⟨rfl, fun i hi => ?_⟩ rfl hrun
  match i, hi with
  | 0, _ => exact x0
  | 1, _ => exact selfB_spec σ0 8 _ rfl
  | 2, _ => exact selfB_spec σ0 8 _ rfl
  | 3, _ => exact selfB_spec σ0 8 _ rfl
  | 4, _ => exact selfB_spec σ0 8 _ rfl
theorem liftedDialMakersStrike (os : Os) (started : os.Started) (H : Type) (enc : TypeId × Value → H) :
    ReturnsInHanded {} Tryd.checked os 4 .any (fun w args => (Rows.dialMakersStrikeSpec.pre enc Tryd.prog Tryd.f4 [] false w args ∧ laidMetH Tryd.prog laidZ w) ∧ sizedMet enc Tryd.prog Tryd.f4 (OpenSpec.ofChange Rows.dialMakersStrikeSpec) false w args)
      (Rows.dialMakersStrikeSpec.post enc Tryd.prog Tryd.f4 false true false false) := by
  refine law_lifted (C := Tryd.checked) (laid := laidZ) own started (by kernel_rfl) Tryd.func4 (by kernel_rfl) rfl laidOut (by kernel_rfl) (tb := 4) (by kernel_rfl) Tryd.underlying4 (fun ds hd => ?_)
    (ChangeSpec.witness_shaped (enc := enc) (C := Tryd.checked) (os := os) (X := fun w _ => laidMetH Tryd.prog laidZ w) false (World.doorLaid Tryd.prog 400 os) #[.slice none 0 0, .agg #[.int .i64 0, .int .i64 0, .int .i64 0, .int .i64 0, .int .i64 0], .agg #[.int .i64 0, .int .i64 0, .int .i64 0], .int .i64 0, .int .i64 0] 8 rfl (World.shaped_of_RefB (by kernel_rfl) (by kernel_rfl)) (by kernel_rfl) (by kernel_rfl) (by kernel_rfl) (door_met os _))
    (fun W base args ds p hval hA hlt hw hL => ?_)
  · rw [Tryd.params4] at hd
    match ds, hd with
    | [d0, d1, d2, d3, d4], _ => rfl
  · rw [Tryd.params4] at hA hval
    obtain ⟨args⟩ := args
    obtain ⟨v0, as0, d0, ds0, p0, q0, rfl, rfl, rfl, h0, hA⟩ := trodAll_cons hA
    obtain ⟨v1, as1, d1, ds1, p1, q1, rfl, rfl, rfl, h1, hA⟩ := trodAll_cons hA
    obtain ⟨v2, as2, d2, ds2, p2, q2, rfl, rfl, rfl, h2, hA⟩ := trodAll_cons hA
    obtain ⟨v3, as3, d3, ds3, p3, q3, rfl, rfl, rfl, h3, hA⟩ := trodAll_cons hA
    obtain ⟨v4, as4, d4, ds4, p4, q4, rfl, rfl, rfl, h4, hA⟩ := trodAll_cons hA
    obtain ⟨rfl, rfl, rfl⟩ := trodAll_nil hA
    obtain ⟨ns1, ⟨l1, _⟩, rfl⟩ := open_kinds (n := 4) (ks := [.i64, .i64, .i64, .i64, .i64]) (by kernel_rfl) Tryd.underlying39 (hval 1 39 v1 rfl rfl) h1
    obtain ⟨ns2, ⟨l2, _⟩, rfl⟩ := open_kinds (n := 4) (ks := [.i64, .i64, .i64]) (by kernel_rfl) Tryd.underlying41 (hval 2 41 v2 rfl rfl) h2
    obtain ⟨wi, rfl, _, _, _⟩ := open_int Tryd.underlying3 (hval 3 3 v3 rfl rfl) h3
    obtain ⟨tu, rfl, _, _, _⟩ := open_int Tryd.underlying3 (hval 4 3 v4 rfl rfl) h4
    match ns1, l1, ns2, l2 with
    | [a, b, c, d, e], _, [f, s, l], _ => exact callsDialMakersStrike W hL (hval 0 37 v0 rfl rfl) h0 a b c d e f s l wi tu
theorem row_holdsDialMakersStrike : Rows.DialMakersStrikeSaid :=
  OpenClaim.holds_of_wide 4 Tryd.f4 rfl rfl rfl rfl rfl rfl rfl ⟨rfl, rfl, rfl, rfl, rfl⟩ rfl rfl rfl rfl rfl (by kernel_rfl) Tryd.func4 (by kernel_rfl)
    (of_decide_eq_true (by kernel_rfl)) (by unfold Func.isWrapper; first | (rw [if_pos (by decide +kernel)]; kernel_rfl) | (rw [if_neg (by decide +kernel)]; exact ⟨rfl, rfl⟩))
    (fun os started H enc _ => liftedDialMakersStrike os started H enc)
theorem dialMakersStrike_holds : Rows.DialMakersStrikeCardSaid :=
  Claim7.holds_tied_plain_at .later [] [.data, .data, .data, .data] true (true, "eaeb35a5368bb89eb5c5d907f3489c36d9bfc29e1f74c4550ad77797c6fa4891") false
    row_holdsDialMakersStrike (fun _ h => by cases h) (by kernel_rfl) (fun _ h => by cases h) dialMakersStrike_row_tie rfl ⟨rfl, rfl⟩ (by kernel_rfl) rfl
    (fun f fn hf hfn => by
      obtain rfl : f = 4 := Option.some.inj ((show Tryd.prog.funcNamed "patrol/patrollaw01.DialMakersStrike" = some 4 by kernel_rfl).symm.trans hf) |>.symm
      obtain rfl : fn = Tryd.f4 := (Option.some.inj (Tryd.func4.symm.trans hfn)).symm
      exact ⟨by kernel_rfl, fun j t ht => by
        have hm : t ∈ Tryd.f4.params.toList := by simpa using Array.mem_of_getElem? ht
        have hall : (Tryd.f4.params.toList.all fun u => !Tryd.prog.wantsStandIn u) = true := by kernel_rfl
        exact (show Tryd.prog.wantsStandIn t = false by simpa using List.all_eq_true.1 hall t hm)⟩)
    (by kernel_rfl)
#print axioms dialMakersStrike_holds
end Go.Proofs.YtgbjgljchkodjaaDoor
