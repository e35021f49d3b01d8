/-
  The great seat of stage 1: usual and apart, by the generator.
-/
import Derived.Test.YtgbjgljchkodjaaDoorEvC11
import Derived.Test.YtgbjgljchkodjaaDoorBT
set_option linter.unusedSimpArgs false
set_option linter.unusedVariables false
namespace Go.Proofs
namespace Great
open Go Go.RowKit Go.Aev
set_option maxRecDepth 100000
def r75 (l : List Ar) : Bool := (if (l.length : Int) ≤ 40 then decide ((r20 (l : List Ar)) = 0) else false)
set_option maxHeartbeats 2000000 in
theorem c75 (l : List Ar)  (S : AS) (v_l : Value) (hv_l : Lst S v_l l) :
    ∃ S', (evL Tryd.prog E0).call 5 #[v_l] S = some (.bool (r75 l), S') ∧ Agree S S' := by
  generalize hz : (evL Tryd.prog E0).call 5 _ _ = z
  rw [L_call, evCall_said rfl Tryd.func5 rfl (by decide) Tryd.ntmps5 Tryd.results5] at hz
  have w1 := (hv_l).len (P := Tryd.prog) (t := 22) Tryd.underlying22
  try simp (disch := first | omega | assumption) only [E0_G, SY, setArgs, off, agreeKind, Nat.reduceAdd, Nat.reduceSub, Nat.reduceLT, Nat.reduceBEq, w1] at hz
  rcases dP ((l.length : Int) ≤ 40) with ⟨h2a, h2⟩ | ⟨h2a, h2⟩
  · skip
    obtain ⟨S3, k3, a3⟩ := c20 (l : List Ar) (by omega) S (v_l) (hv_l) 
    have l3 := a3.1
    have s3 : E0.same S S3 = true := symEnv_same a3
    have g3 : Agree S S3 := a3
    try simp (disch := first | omega | assumption) only [E0_G, SY, off, agreeKind, vals, Nat.reduceAdd, Nat.reduceLT, Nat.reduceBEq, h2a, k3] at hz
    have hr : r75 l = decide ((r20 (l : List Ar)) = 0) := (if_pos h2).trans (rfl)
    exact fin hz (by rw [hr]) g3
  · skip
    try simp (disch := first | omega | assumption) only [E0_G, SY, off, agreeKind, Nat.reduceAdd, Nat.reduceLT, Nat.reduceBEq, h2a] at hz
    have hr : r75 l = false := (if_neg h2).trans (rfl)
    exact fin hz (by rw [hr]) (Agree.refl S)

end Great
end Go.Proofs
