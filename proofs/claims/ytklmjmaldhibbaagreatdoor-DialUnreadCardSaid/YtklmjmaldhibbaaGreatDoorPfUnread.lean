/-
  DialUnread: for all lists of keys and of marks and all inks the law returns true; conditions: none but that the listed package-level variables hold what the program's text lays.
-/
import Derived.Test.YtklmjmaldhibbaaGreatDoorBD
import Derived.Test.YtklmjmaldhibbaaGreatDoorSdZ
import Derived.Test.YtklmjmaldhibbaaGreatDoorAE4
import Derived.Test.YtklmjmaldhibbaaGreatDoorRows
import Derived.Test.YtklmjmaldhibbaaGreatDoorTie
import Derived.Test.YtklmjmaldhibbaaGreatDoorCards
import Derived.SevenTiedAt
import Derived.LaidMore
set_option linter.unusedSimpArgs false
set_option linter.unusedVariables false
namespace Go.Proofs.YtklmjmaldhibbaaGreatDoor
open Go Go.RowKit Go.Aev Go.Proofs Go.ChangeShapes Go.WideShapes
set_option maxRecDepth 100000
theorem callsDialUnread {H : Type} {enc : TypeId × Value → H} (W : World) (hL : laidMet Tryz.prog laidZ W) {b0 : Nat} {v0 : Value} {d0 : DataW H} {p0 : List MemPlace} (hv0 : Value.okWide Tryz.prog W .any b0 43 v0) (h0 : DataW.Trod enc Tryz.prog W 0 (fun _ => true) true 43 v0 d0 p0) {b1 : Nat} {v1 : Value} {d1 : DataW H} {p1 : List MemPlace} (hv1 : Value.okWide Tryz.prog W .any b1 90 v1) (h1 : DataW.Trod enc Tryz.prog W 0 (fun _ => true) true 90 v1 d1 p1) (f s l : Int) :
    Calls Tryz.prog 11 #[v0, v1, .agg #[.int .i64 f, .int .i64 s, .int .i64 l]] W fun e w' => e = .returned (.bool true) ∧ Below W.heap.size W w' := by
  obtain ⟨σ, hr⟩ := HR.ofLaid hL seat.lt seat.max seat.self
  have ht : Great.Tab (startAS 9 (knownOf Tryz.prog laidZ)) := ⟨Nat.le_refl _, known_circle⟩
  obtain ⟨σ0, S0, w0, n0, le0, hr0, x0, r0, a0, f0⟩ := hr.arg (n := 4) (ks := [.i64, .i64, .i64]) (by kernel_rfl) (by kernel_rfl) (by decide) Tryz.underlying43 hv0 h0
  obtain ⟨ks, rfl⟩ := lst_of (α := Great.K) Great.sur_K f0
  replace r0 : Lst S0 w0 ks := r0
  replace ht := ht.agree a0
  obtain ⟨σ1, S1, w1, n1, le1, hr1, x1, r1, a1, f1⟩ := hr0.arg (n := 4) (ks := [.i64, .i64, .i64, .i64, .i64]) (by kernel_rfl) (by kernel_rfl) (by decide) Tryz.underlying90 hv1 h1
  obtain ⟨ms, rfl⟩ := lst_of (α := Great.Mk) Great.sur_Mk f1
  replace r1 : Lst S1 w1 ms := r1
  replace r0 := r0.agree a1
  replace x0 := x0.mono le1
  replace ht := ht.agree a1
  obtain ⟨S', hrun, _⟩ := (by have h := Great.c11 ks ms f s l S1 w0 r0 w1 r1 ht; rw [Great.r11_true] at h; exact h)
  refine seat.law (args := #[w0, w1, .agg #[.int .i64 f, .int .i64 s, .int .i64 l]]) hL hr1 ⟨rfl, fun i hi => ?_⟩ rfl hrun
  match i, hi with
  | 0, _ => exact x0
  | 1, _ => exact x1
  | 2, _ => exact selfB_spec σ1 8 _ rfl
theorem liftedDialUnread (os : Os) (started : os.Started) (H : Type) (enc : TypeId × Value → H) :
    ReturnsInHanded {} Tryz.checked os 11 .any (fun w args => (Rows.dialUnreadSpec.pre enc Tryz.prog Tryz.f11 [] false w args ∧ laidMetH Tryz.prog laidZ w) ∧ sizedMet enc Tryz.prog Tryz.f11 (OpenSpec.ofChange Rows.dialUnreadSpec) false w args)
      (Rows.dialUnreadSpec.post enc Tryz.prog Tryz.f11 false true false false) := by
  refine law_lifted (C := Tryz.checked) (laid := laidZ) own started (by kernel_rfl) Tryz.func11 (by kernel_rfl) rfl laidOut (by kernel_rfl) (tb := 4) (by kernel_rfl) Tryz.underlying4 (fun ds hd => ?_)
    (ChangeSpec.witness_shaped (enc := enc) (C := Tryz.checked) (os := os) (X := fun w _ => laidMetH Tryz.prog laidZ w) false (World.doorLaid Tryz.prog 400 os) #[.slice none 0 0, .slice none 0 0, .agg #[.int .i64 0, .int .i64 0, .int .i64 0]] 8 rfl (World.shaped_of_RefB (by kernel_rfl) (by kernel_rfl)) (by kernel_rfl) (by kernel_rfl) (by kernel_rfl) (door_met os _))
    (fun W base args ds p hval hA hlt hw hL => ?_)
  · rw [Tryz.params11] at hd
    match ds, hd with
    | [d0, d1, d2], _ => rfl
  · rw [Tryz.params11] at hA hval
    obtain ⟨args⟩ := args
    obtain ⟨v0, as0, d0, ds0, p0, q0, rfl, rfl, rfl, h0, hA⟩ := trodAll_cons hA
    obtain ⟨v1, as1, d1, ds1, p1, q1, rfl, rfl, rfl, h1, hA⟩ := trodAll_cons hA
    obtain ⟨v2, as2, d2, ds2, p2, q2, rfl, rfl, rfl, h2, hA⟩ := trodAll_cons hA
    obtain ⟨rfl, rfl, rfl⟩ := trodAll_nil hA
    obtain ⟨ns2, ⟨l2, _⟩, rfl⟩ := open_kinds (n := 4) (ks := [.i64, .i64, .i64]) (by kernel_rfl) Tryz.underlying45 (hval 2 45 v2 rfl rfl) h2
    match ns2, l2 with
    | [f, s, l], _ => exact callsDialUnread W hL (hval 0 43 v0 rfl rfl) h0 (hval 1 90 v1 rfl rfl) h1 f s l
theorem row_holdsDialUnread : Rows.DialUnreadSaid :=
  OpenClaim.holds_of_wide 11 Tryz.f11 rfl rfl rfl rfl rfl rfl rfl ⟨rfl, rfl, rfl, rfl, rfl⟩ rfl rfl rfl rfl rfl (by kernel_rfl) Tryz.func11 (by kernel_rfl)
    (of_decide_eq_true (by kernel_rfl)) (by unfold Func.isWrapper; first | (rw [if_pos (by decide +kernel)]; kernel_rfl) | (rw [if_neg (by decide +kernel)]; exact ⟨rfl, rfl⟩))
    (fun os started H enc _ => liftedDialUnread os started H enc)
theorem dialUnread_holds : Rows.DialUnreadCardSaid :=
  Claim7.holds_tied_plain_at .later [] [.data, .data, .data, .data] true (true, "bdccf27b1b96963d32920fbf93f9686b1de2fab0e42d8ecb7723fd6931ad5a27") true
    row_holdsDialUnread (fun _ h => by cases h) (by kernel_rfl) (fun _ h => by cases h) dialUnread_row_tie rfl ⟨rfl, rfl⟩ (by kernel_rfl) rfl
    (fun f fn hf hfn => by
      obtain rfl : f = 11 := Option.some.inj ((show Tryz.prog.funcNamed "patrol/patrollaw01.DialUnread" = some 11 by kernel_rfl).symm.trans hf) |>.symm
      obtain rfl : fn = Tryz.f11 := (Option.some.inj (Tryz.func11.symm.trans hfn)).symm
      exact ⟨by kernel_rfl, fun j t ht => by
        have hm : t ∈ Tryz.f11.params.toList := by simpa using Array.mem_of_getElem? ht
        have hall : (Tryz.f11.params.toList.all fun u => !Tryz.prog.wantsStandIn u) = true := by kernel_rfl
        exact (show Tryz.prog.wantsStandIn t = false by simpa using List.all_eq_true.1 hall t hm)⟩)
    (by kernel_rfl)
#print axioms dialUnread_holds
end Go.Proofs.YtklmjmaldhibbaaGreatDoor
