/-
  DialMarks: for all marks, keys, blows, inks and integers the law returns true; conditions: none but that the listed package-level variables hold what the program's text lays.
-/
import Derived.Test.YtecfjfhcoffhfaaGreatDoorEvZ7
import Derived.Test.YtecfjfhcoffhfaaGreatDoorSdZ
import Derived.Test.YtecfjfhcoffhfaaGreatDoorAevT
import Derived.Test.YtecfjfhcoffhfaaGreatDoorRows
import Derived.Test.YtecfjfhcoffhfaaGreatDoorTie
import Derived.Test.YtecfjfhcoffhfaaGreatDoorCards
import Derived.SevenTiedAt
import Derived.LaidMore
set_option linter.unusedSimpArgs false
set_option linter.unusedVariables false
namespace Go.Proofs.YtecfjfhcoffhfaaGreatDoor
open Go Go.RowKit Go.Aev Go.Proofs Go.ChangeShapes Go.WideShapes
set_option maxRecDepth 100000
theorem calls (W : World) (hL : laidMet Tryz.prog laidZ W) (a b c d e i1 t1 p1 i2 t2 p2 x y mi di sh f s l : Int) : Calls Tryz.prog 8 #[.agg #[.int .i64 a, .int .i64 b, .int .i64 c, .int .i64 d, .int .i64 e], .agg #[.int .i64 i1, .int .i64 t1, .int .i64 p1], .agg #[.int .i64 i2, .int .i64 t2, .int .i64 p2], .int .i64 x, .int .i64 y, .agg #[.int .i64 mi, .int .i64 di, .int .i64 sh], .agg #[.int .i64 f, .int .i64 s, .int .i64 l]] W fun e w' => e = .returned (.bool true) ∧ Below W.heap.size W w' := by
  obtain ⟨S', h, _⟩ := Great.c8 a b c d e i1 t1 p1 i2 t2 p2 x y mi di sh f s l (startAS 9 (knownOf Tryz.prog laidZ)) ⟨Nat.le_refl _, known_circle⟩
  exact seat.law_plain hL (fun v hv => by
    simp at hv
    rcases hv with rfl | rfl | rfl | rfl | rfl | rfl | rfl <;> rfl) rfl h

theorem lifted (os : Os) (started : os.Started) (H : Type) (enc : TypeId × Value → H) :
    ReturnsInHanded {} Tryz.checked os 8 .any (fun w args => (Rows.dialMarksSpec.pre enc Tryz.prog Tryz.f8 [] false w args ∧ laidMetH Tryz.prog laidZ w) ∧ sizedMet enc Tryz.prog Tryz.f8 (OpenSpec.ofChange Rows.dialMarksSpec) false w args)
      (Rows.dialMarksSpec.post enc Tryz.prog Tryz.f8 false true false false) := by
  refine law_lifted (C := Tryz.checked) (laid := laidZ) own started (by kernel_rfl) Tryz.func8 (by kernel_rfl) rfl laidOut (by kernel_rfl) (tb := 4) (by kernel_rfl) Tryz.underlying4 (fun ds hd => ?_)
    (ChangeSpec.witness_shaped (enc := enc) (C := Tryz.checked) (os := os) (X := fun w _ => laidMetH Tryz.prog laidZ w) false (World.doorLaid Tryz.prog 400 os) #[.agg #[.int .i64 0, .int .i64 0, .int .i64 0, .int .i64 0, .int .i64 0], .agg #[.int .i64 0, .int .i64 0, .int .i64 0], .agg #[.int .i64 0, .int .i64 0, .int .i64 0], .int .i64 0, .int .i64 0, .agg #[.int .i64 0, .int .i64 0, .int .i64 0], .agg #[.int .i64 0, .int .i64 0, .int .i64 0]] 8 rfl (World.shaped_of_RefB (by kernel_rfl) (by kernel_rfl)) (by kernel_rfl) (by kernel_rfl) (by kernel_rfl) (door_met os _))
    (fun W base args ds p hval hA hlt hw hL => ?_)
  · rw [Tryz.params8] at hd
    match ds, hd with
    | [d1, d2, d3, d4, d5, d6, d7], _ => rfl
  · rw [Tryz.params8] at hA hval
    obtain ⟨args⟩ := args
    obtain ⟨v0, as0, d0, ds0, p0, q0, rfl, rfl, rfl, h0, hA⟩ := trodAll_cons hA
    obtain ⟨v1, as1, d1, ds1, p1, q1, rfl, rfl, rfl, h1, hA⟩ := trodAll_cons hA
    obtain ⟨v2, as2, d2, ds2, p2, q2, rfl, rfl, rfl, h2, hA⟩ := trodAll_cons hA
    obtain ⟨v3, as3, d3, ds3, p3, q3, rfl, rfl, rfl, h3, hA⟩ := trodAll_cons hA
    obtain ⟨v4, as4, d4, ds4, p4, q4, rfl, rfl, rfl, h4, hA⟩ := trodAll_cons hA
    obtain ⟨v5, as5, d5, ds5, p5, q5, rfl, rfl, rfl, h5, hA⟩ := trodAll_cons hA
    obtain ⟨v6, as6, d6, ds6, p6, q6, rfl, rfl, rfl, h6, hA⟩ := trodAll_cons hA
    obtain ⟨rfl, rfl, rfl⟩ := trodAll_nil hA
    obtain ⟨ns0, ⟨l0, _⟩, rfl⟩ := open_kinds (n := 4) (ks := [.i64, .i64, .i64, .i64, .i64]) (by kernel_rfl) Tryz.underlying58 (hval 0 58 v0 rfl rfl) h0
    obtain ⟨ns1, ⟨l1, _⟩, rfl⟩ := open_kinds (n := 4) (ks := [.i64, .i64, .i64]) (by kernel_rfl) Tryz.underlying52 (hval 1 52 v1 rfl rfl) h1
    obtain ⟨ns2, ⟨l2, _⟩, rfl⟩ := open_kinds (n := 4) (ks := [.i64, .i64, .i64]) (by kernel_rfl) Tryz.underlying52 (hval 2 52 v2 rfl rfl) h2
    obtain ⟨x, rfl, _, _, _⟩ := open_int Tryz.underlying3 (hval 3 3 v3 rfl rfl) h3
    obtain ⟨y, rfl, _, _, _⟩ := open_int Tryz.underlying3 (hval 4 3 v4 rfl rfl) h4
    obtain ⟨ns5, ⟨l5, _⟩, rfl⟩ := open_kinds (n := 4) (ks := [.i64, .i64, .i64]) (by kernel_rfl) Tryz.underlying68 (hval 5 68 v5 rfl rfl) h5
    obtain ⟨ns6, ⟨l6, _⟩, rfl⟩ := open_kinds (n := 4) (ks := [.i64, .i64, .i64]) (by kernel_rfl) Tryz.underlying45 (hval 6 45 v6 rfl rfl) h6
    match ns0, l0, ns1, l1, ns2, l2, ns5, l5, ns6, l6 with
    | [a, b, c, d, e], _, [i1, t1, p1], _, [i2, t2, p2], _, [mi, di, sh], _, [f, s, l], _ => exact calls W hL a b c d e i1 t1 p1 i2 t2 p2 x y mi di sh f s l
theorem row_holds : Rows.DialMarksSaid :=
  OpenClaim.holds_of_wide 8 Tryz.f8 rfl rfl rfl rfl rfl rfl rfl ⟨rfl, rfl, rfl, rfl, rfl⟩ rfl rfl rfl rfl rfl (by kernel_rfl) Tryz.func8 (by kernel_rfl)
    (of_decide_eq_true (by kernel_rfl)) (by unfold Func.isWrapper; first | (rw [if_pos (by decide +kernel)]; kernel_rfl) | (rw [if_neg (by decide +kernel)]; exact ⟨rfl, rfl⟩))
    (fun os started H enc _ => lifted os started H enc)
theorem dialMarks_holds : Rows.DialMarksCardSaid :=
  Claim7.holds_tied_plain_at .later [] [.data, .data, .data, .data] true (true, "bdccf27b1b96963d32920fbf93f9686b1de2fab0e42d8ecb7723fd6931ad5a27") true
    row_holds (fun _ h => by cases h) (by kernel_rfl) (fun _ h => by cases h) dialMarks_row_tie rfl ⟨rfl, rfl⟩ (by kernel_rfl) rfl
    (fun f fn hf hfn => by
      obtain rfl : f = 8 := Option.some.inj ((show Tryz.prog.funcNamed "patrol/patrollaw01.DialMarks" = some 8 by kernel_rfl).symm.trans hf) |>.symm
      obtain rfl : fn = Tryz.f8 := (Option.some.inj (Tryz.func8.symm.trans hfn)).symm
      exact ⟨by kernel_rfl, fun j t ht => by
        have hm : t ∈ Tryz.f8.params.toList := by simpa using Array.mem_of_getElem? ht
        have hall : (Tryz.f8.params.toList.all fun u => !Tryz.prog.wantsStandIn u) = true := by kernel_rfl
        exact (show Tryz.prog.wantsStandIn t = false by simpa using List.all_eq_true.1 hall t hm)⟩)
    (by kernel_rfl)
#print axioms dialMarks_holds
end Go.Proofs.YtecfjfhcoffhfaaGreatDoor
