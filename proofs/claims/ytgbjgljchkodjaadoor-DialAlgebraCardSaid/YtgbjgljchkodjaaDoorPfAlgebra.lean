/-
  DialAlgebra: for all lists of arcs and all numbers the law returns true; conditions: none but that the listed package-level variables hold what the program's text lays.
-/
import Derived.Test.YtgbjgljchkodjaaDoorEvM17
import Derived.Test.YtgbjgljchkodjaaDoorSdZ
import Derived.Test.YtgbjgljchkodjaaDoorAE4
import Derived.Test.YtgbjgljchkodjaaDoorRows
import Derived.Test.YtgbjgljchkodjaaDoorTie
import Derived.Test.YtgbjgljchkodjaaDoorCards
import Derived.SevenTiedAt
import Derived.LaidMore
set_option linter.unusedSimpArgs false
set_option linter.unusedVariables false
namespace Go.Proofs.YtgbjgljchkodjaaDoor
open Go Go.RowKit Go.Aev Go.Proofs Go.ChangeShapes Go.WideShapes
set_option maxRecDepth 100000
theorem callsDialAlgebra {H : Type} {enc : TypeId × Value → H} (W : World) (hL : laidMet Tryd.prog laidZ W) {b0 : Nat} {v0 : Value} {d0 : DataW H} {p0 : List MemPlace} (hv0 : Value.okWide Tryd.prog W .any b0 22 v0) (h0 : DataW.Trod enc Tryd.prog W 0 (fun _ => true) true 22 v0 d0 p0) {b1 : Nat} {v1 : Value} {d1 : DataW H} {p1 : List MemPlace} (hv1 : Value.okWide Tryd.prog W .any b1 22 v1) (h1 : DataW.Trod enc Tryd.prog W 0 (fun _ => true) true 22 v1 d1 p1) {b2 : Nat} {v2 : Value} {d2 : DataW H} {p2 : List MemPlace} (hv2 : Value.okWide Tryd.prog W .any b2 22 v2) (h2 : DataW.Trod enc Tryd.prog W 0 (fun _ => true) true 22 v2 d2 p2) (w u : Int) :
    Calls Tryd.prog 3 #[v0, v1, v2, .int .i64 w, .int .i64 u] W fun e w' => e = .returned (.bool true) ∧ Below W.heap.size W w' := by
  obtain ⟨σ, hr⟩ := HR.ofLaid hL seat.lt seat.max seat.self
  have ht : Great.Tab (startAS 5 (knownOf Tryd.prog laidZ)) := ⟨Nat.le_refl _, known_circle⟩
  obtain ⟨σ0, S0, w0, n0, le0, hr0, x0, r0, a0, f0⟩ := hr.arg (n := 4) (ks := [.i64, .i64]) (by kernel_rfl) (by kernel_rfl) (by decide) Tryd.underlying22 hv0 h0
  obtain ⟨a, rfl⟩ := lst_of (α := Great.Ar) Great.sur_Ar f0
  replace r0 : Lst S0 w0 a := r0
  replace ht := ht.agree a0
  obtain ⟨σ1, S1, w1, n1, le1, hr1, x1, r1, a1, f1⟩ := hr0.arg (n := 4) (ks := [.i64, .i64]) (by kernel_rfl) (by kernel_rfl) (by decide) Tryd.underlying22 hv1 h1
  obtain ⟨b, rfl⟩ := lst_of (α := Great.Ar) Great.sur_Ar f1
  replace r1 : Lst S1 w1 b := r1
  replace r0 := r0.agree a1
  replace x0 := x0.mono le1
  replace ht := ht.agree a1
  obtain ⟨σ2, S2, w2, n2, le2, hr2, x2, r2, a2, f2⟩ := hr1.arg (n := 4) (ks := [.i64, .i64]) (by kernel_rfl) (by kernel_rfl) (by decide) Tryd.underlying22 hv2 h2
  obtain ⟨c, rfl⟩ := lst_of (α := Great.Ar) Great.sur_Ar f2
  replace r2 : Lst S2 w2 c := r2
  replace r0 := r0.agree a2
  replace x0 := x0.mono le2
  replace r1 := r1.agree a2
  replace x1 := x1.mono le2
  replace ht := ht.agree a2
  obtain ⟨S', hrun, _⟩ := (by have h := Great.c1003 a b c w u S2 w0 r0 w1 r1 w2 r2 ht; rw [Great.r1003_true] at h; exact h)
  refine seat.law (args := #[w0, w1, w2, .int .i64 w, .int .i64 u]) hL hr2 ⟨rfl, fun i hi => ?_⟩ rfl hrun
  match i, hi with
  | 0, _ => exact x0
  | 1, _ => exact x1
  | 2, _ => exact x2
  | 3, _ => exact selfB_spec σ2 8 _ rfl
  | 4, _ => exact selfB_spec σ2 8 _ rfl
theorem liftedDialAlgebra (os : Os) (started : os.Started) (H : Type) (enc : TypeId × Value → H) :
    ReturnsInHanded {} Tryd.checked os 3 .any (fun w args => (Rows.dialAlgebraSpec.pre enc Tryd.prog Tryd.f3 [] false w args ∧ laidMetH Tryd.prog laidZ w) ∧ sizedMet enc Tryd.prog Tryd.f3 (OpenSpec.ofChange Rows.dialAlgebraSpec) false w args)
      (Rows.dialAlgebraSpec.post enc Tryd.prog Tryd.f3 false true false false) := by
  refine law_lifted (C := Tryd.checked) (laid := laidZ) own started (by kernel_rfl) Tryd.func3 (by kernel_rfl) rfl laidOut (by kernel_rfl) (tb := 4) (by kernel_rfl) Tryd.underlying4 (fun ds hd => ?_)
    (ChangeSpec.witness_shaped (enc := enc) (C := Tryd.checked) (os := os) (X := fun w _ => laidMetH Tryd.prog laidZ w) false (World.doorLaid Tryd.prog 400 os) #[.slice none 0 0, .slice none 0 0, .slice none 0 0, .int .i64 0, .int .i64 0] 8 rfl (World.shaped_of_RefB (by kernel_rfl) (by kernel_rfl)) (by kernel_rfl) (by kernel_rfl) (by kernel_rfl) (door_met os _))
    (fun W base args ds p hval hA hlt hw hL => ?_)
  · rw [Tryd.params3] at hd
    match ds, hd with
    | [d0, d1, d2, d3, d4], _ => rfl
  · rw [Tryd.params3] at hA hval
    obtain ⟨args⟩ := args
    obtain ⟨v0, as0, d0, ds0, p0, q0, rfl, rfl, rfl, h0, hA⟩ := trodAll_cons hA
    obtain ⟨v1, as1, d1, ds1, p1, q1, rfl, rfl, rfl, h1, hA⟩ := trodAll_cons hA
    obtain ⟨v2, as2, d2, ds2, p2, q2, rfl, rfl, rfl, h2, hA⟩ := trodAll_cons hA
    obtain ⟨v3, as3, d3, ds3, p3, q3, rfl, rfl, rfl, h3, hA⟩ := trodAll_cons hA
    obtain ⟨v4, as4, d4, ds4, p4, q4, rfl, rfl, rfl, h4, hA⟩ := trodAll_cons hA
    obtain ⟨rfl, rfl, rfl⟩ := trodAll_nil hA
    obtain ⟨w, rfl, _, _, _⟩ := open_int Tryd.underlying3 (hval 3 3 v3 rfl rfl) h3
    obtain ⟨u, rfl, _, _, _⟩ := open_int Tryd.underlying3 (hval 4 3 v4 rfl rfl) h4
    exact callsDialAlgebra W hL (hval 0 22 v0 rfl rfl) h0 (hval 1 22 v1 rfl rfl) h1 (hval 2 22 v2 rfl rfl) h2 w u
theorem row_holdsDialAlgebra : Rows.DialAlgebraSaid :=
  OpenClaim.holds_of_wide 3 Tryd.f3 rfl rfl rfl rfl rfl rfl rfl ⟨rfl, rfl, rfl, rfl, rfl⟩ rfl rfl rfl rfl rfl (by kernel_rfl) Tryd.func3 (by kernel_rfl)
    (of_decide_eq_true (by kernel_rfl)) (by unfold Func.isWrapper; first | (rw [if_pos (by decide +kernel)]; kernel_rfl) | (rw [if_neg (by decide +kernel)]; exact ⟨rfl, rfl⟩))
    (fun os started H enc _ => liftedDialAlgebra os started H enc)
theorem dialAlgebra_holds : Rows.DialAlgebraCardSaid :=
  Claim7.holds_tied_plain_at .later [] [.data, .data, .data, .data] true (true, "eaeb35a5368bb89eb5c5d907f3489c36d9bfc29e1f74c4550ad77797c6fa4891") false
    row_holdsDialAlgebra (fun _ h => by cases h) (by kernel_rfl) (fun _ h => by cases h) dialAlgebra_row_tie rfl ⟨rfl, rfl⟩ (by kernel_rfl) rfl
    (fun f fn hf hfn => by
      obtain rfl : f = 3 := Option.some.inj ((show Tryd.prog.funcNamed "patrol/patrollaw01.DialAlgebra" = some 3 by kernel_rfl).symm.trans hf) |>.symm
      obtain rfl : fn = Tryd.f3 := (Option.some.inj (Tryd.func3.symm.trans hfn)).symm
      exact ⟨by kernel_rfl, fun j t ht => by
        have hm : t ∈ Tryd.f3.params.toList := by simpa using Array.mem_of_getElem? ht
        have hall : (Tryd.f3.params.toList.all fun u => !Tryd.prog.wantsStandIn u) = true := by kernel_rfl
        exact (show Tryd.prog.wantsStandIn t = false by simpa using List.all_eq_true.1 hall t hm)⟩)
    (by kernel_rfl)
#print axioms dialAlgebra_holds
end Go.Proofs.YtgbjgljchkodjaaDoor
