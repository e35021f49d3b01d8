/-
  DialMembers: for all lists of arcs and all numbers the law returns true; conditions: none but that the listed package-level variables hold what the program's text lays.
-/
import Derived.Test.YtgbjgljchkodjaaGreatDoorEvM15
import Derived.Test.YtgbjgljchkodjaaGreatDoorSdZ
import Derived.Test.YtgbjgljchkodjaaGreatDoorAE4
import Derived.Test.YtgbjgljchkodjaaGreatDoorRows
import Derived.Test.YtgbjgljchkodjaaGreatDoorTie
import Derived.Test.YtgbjgljchkodjaaGreatDoorCards
import Derived.SevenTiedAt
import Derived.LaidMore
set_option linter.unusedSimpArgs false
set_option linter.unusedVariables false
namespace Go.Proofs.YtgbjgljchkodjaaGreatDoor
open Go Go.RowKit Go.Aev Go.Proofs Go.ChangeShapes Go.WideShapes
set_option maxRecDepth 100000
theorem callsDialMembers {H : Type} {enc : TypeId × Value → H} (W : World) (hL : laidMet Tryz.prog laidZ W) {b0 : Nat} {v0 : Value} {d0 : DataW H} {p0 : List MemPlace} (hv0 : Value.okWide Tryz.prog W .any b0 22 v0) (h0 : DataW.Trod enc Tryz.prog W 0 (fun _ => true) true 22 v0 d0 p0) {b1 : Nat} {v1 : Value} {d1 : DataW H} {p1 : List MemPlace} (hv1 : Value.okWide Tryz.prog W .any b1 22 v1) (h1 : DataW.Trod enc Tryz.prog W 0 (fun _ => true) true 22 v1 d1 p1) (w u : Int) :
    Calls Tryz.prog 6 #[v0, v1, .int .i64 w, .int .i64 u] W fun e w' => e = .returned (.bool true) ∧ Below W.heap.size W w' := by
  obtain ⟨σ, hr⟩ := HR.ofLaid hL seat.lt seat.max seat.self
  have ht : Great.Tab (startAS 5 (knownOf Tryz.prog laidZ)) := ⟨Nat.le_refl _, known_circle⟩
  obtain ⟨σ0, S0, w0, n0, le0, hr0, x0, r0, a0, f0⟩ := hr.arg (n := 4) (ks := [.i64, .i64]) (by kernel_rfl) (by kernel_rfl) (by decide) Tryz.underlying22 hv0 h0
  obtain ⟨a, rfl⟩ := lst_of (α := Great.Ar) Great.sur_Ar f0
  replace r0 : Lst S0 w0 a := r0
  replace ht := ht.agree a0
  obtain ⟨σ1, S1, w1, n1, le1, hr1, x1, r1, a1, f1⟩ := hr0.arg (n := 4) (ks := [.i64, .i64]) (by kernel_rfl) (by kernel_rfl) (by decide) Tryz.underlying22 hv1 h1
  obtain ⟨b, rfl⟩ := lst_of (α := Great.Ar) Great.sur_Ar f1
  replace r1 : Lst S1 w1 b := r1
  replace r0 := r0.agree a1
  replace x0 := x0.mono le1
  replace ht := ht.agree a1
  obtain ⟨S', hrun, _⟩ := (by have h := Great.c13 a b w u Great.sortAll S1 w0 r0 w1 r1 ht; rw [Great.r13_true] at h; exact h)
  refine seat.law (args := #[w0, w1, .int .i64 w, .int .i64 u]) hL hr1 ⟨rfl, fun i hi => ?_⟩ rfl hrun
  match i, hi with
  | 0, _ => exact x0
  | 1, _ => exact x1
  | 2, _ => exact selfB_spec σ1 8 _ rfl
  | 3, _ => exact selfB_spec σ1 8 _ rfl
theorem liftedDialMembers (os : Os) (started : os.Started) (H : Type) (enc : TypeId × Value → H) :
    ReturnsInHanded {} Tryz.checked os 6 .any (fun w args => (Rows.dialMembersSpec.pre enc Tryz.prog Tryz.f6 [] false w args ∧ laidMetH Tryz.prog laidZ w) ∧ sizedMet enc Tryz.prog Tryz.f6 (OpenSpec.ofChange Rows.dialMembersSpec) false w args)
      (Rows.dialMembersSpec.post enc Tryz.prog Tryz.f6 false true false false) := by
  refine law_lifted (C := Tryz.checked) (laid := laidZ) own started (by kernel_rfl) Tryz.func6 (by kernel_rfl) rfl laidOut (by kernel_rfl) (tb := 4) (by kernel_rfl) Tryz.underlying4 (fun ds hd => ?_)
    (ChangeSpec.witness_shaped (enc := enc) (C := Tryz.checked) (os := os) (X := fun w _ => laidMetH Tryz.prog laidZ w) false (World.doorLaid Tryz.prog 400 os) #[.slice none 0 0, .slice none 0 0, .int .i64 0, .int .i64 0] 8 rfl (World.shaped_of_RefB (by kernel_rfl) (by kernel_rfl)) (by kernel_rfl) (by kernel_rfl) (by kernel_rfl) (door_met os _))
    (fun W base args ds p hval hA hlt hw hL => ?_)
  · rw [Tryz.params6] at hd
    match ds, hd with
    | [d0, d1, d2, d3], _ => rfl
  · rw [Tryz.params6] at hA hval
    obtain ⟨args⟩ := args
    obtain ⟨v0, as0, d0, ds0, p0, q0, rfl, rfl, rfl, h0, hA⟩ := trodAll_cons hA
    obtain ⟨v1, as1, d1, ds1, p1, q1, rfl, rfl, rfl, h1, hA⟩ := trodAll_cons hA
    obtain ⟨v2, as2, d2, ds2, p2, q2, rfl, rfl, rfl, h2, hA⟩ := trodAll_cons hA
    obtain ⟨v3, as3, d3, ds3, p3, q3, rfl, rfl, rfl, h3, hA⟩ := trodAll_cons hA
    obtain ⟨rfl, rfl, rfl⟩ := trodAll_nil hA
    obtain ⟨w, rfl, _, _, _⟩ := open_int Tryz.underlying3 (hval 2 3 v2 rfl rfl) h2
    obtain ⟨u, rfl, _, _, _⟩ := open_int Tryz.underlying3 (hval 3 3 v3 rfl rfl) h3
    exact callsDialMembers W hL (hval 0 22 v0 rfl rfl) h0 (hval 1 22 v1 rfl rfl) h1 w u
theorem row_holdsDialMembers : Rows.DialMembersSaid :=
  OpenClaim.holds_of_wide 6 Tryz.f6 rfl rfl rfl rfl rfl rfl rfl ⟨rfl, rfl, rfl, rfl, rfl⟩ rfl rfl rfl rfl rfl (by kernel_rfl) Tryz.func6 (by kernel_rfl)
    (of_decide_eq_true (by kernel_rfl)) (by unfold Func.isWrapper; first | (rw [if_pos (by decide +kernel)]; kernel_rfl) | (rw [if_neg (by decide +kernel)]; exact ⟨rfl, rfl⟩))
    (fun os started H enc _ => liftedDialMembers os started H enc)
theorem dialMembers_holds : Rows.DialMembersCardSaid :=
  Claim7.holds_tied_plain_at .later [] [.data, .data, .data, .data] true (true, "610ab3fe7b872ca0185609f8321a089d5418d910d865327696d71b61fde54255") false
    row_holdsDialMembers (fun _ h => by cases h) (by kernel_rfl) (fun _ h => by cases h) dialMembers_row_tie rfl ⟨rfl, rfl⟩ (by kernel_rfl) rfl
    (fun f fn hf hfn => by
      obtain rfl : f = 6 := Option.some.inj ((show Tryz.prog.funcNamed "patrol/patrollaw01.DialMembers" = some 6 by kernel_rfl).symm.trans hf) |>.symm
      obtain rfl : fn = Tryz.f6 := (Option.some.inj (Tryz.func6.symm.trans hfn)).symm
      exact ⟨by kernel_rfl, fun j t ht => by
        have hm : t ∈ Tryz.f6.params.toList := by simpa using Array.mem_of_getElem? ht
        have hall : (Tryz.f6.params.toList.all fun u => !Tryz.prog.wantsStandIn u) = true := by kernel_rfl
        exact (show Tryz.prog.wantsStandIn t = false by simpa using List.all_eq_true.1 hall t hm)⟩)
    (by kernel_rfl)
#print axioms dialMembers_holds
end Go.Proofs.YtgbjgljchkodjaaGreatDoor
