/-
  BC: EvA5, EvA6, EvA7.
-/
import Derived.Test.YtgbjgljchkodjaaGreatDoorEvA4
section
/-
  The great seat of stage 1: Grow and Angles, by the generator.
-/
set_option linter.unusedSimpArgs false
set_option linter.unusedVariables false
namespace Go.Proofs
namespace Great
open Go Go.RowKit Go.Aev
set_option maxRecDepth 100000
theorem R88_0_len (l : List Ar) : ∀ (m : List Ar) (o : List Sp), (R88_0 l m o).length ≤ 2 * m.length + o.length := by
  intro m
  induction m with
  | nil => intro o; simp [R88_0]
  | cons x m ih =>
    intro o
    unfold R88_0
    split
    · refine Nat.le_trans (ih _) ?_
      have := r131_len o x.f (IntKind.i64.wrap (x.f + x.l))
      simp; omega
    · refine Nat.le_trans (ih _) ?_
      have h1 := r131_len o x.f 43199
      have h2 := r131_len (r131 o x.f 43199) 0 (IntKind.i64.wrap ((IntKind.i64.wrap (x.f + x.l)) - 43200))
      simp; omega
theorem r88_len (l : List Ar) : (r88 l).length ≤ 2 * l.length := by simpa [r88] using R88_0_len l l []

def R31_0 (l : List Ar) (w : Int)  : List Ar → List Ar → (List Ar)
  | [], o => o
  | x1 :: l', o => R31_0 l w l' (o ++ ([(⟨((r94 x1.f x1.l w)).1, ((r94 x1.f x1.l w)).2⟩ : Ar)]))
def r31 (l : List Ar) (w : Int) : List Ar := (r87 ((r88 (R31_0 l w l ([]) : List Ar)) : List Sp))
end Great
end Go.Proofs
end
section
/-
  The great seat of stage 1: DialMakers, by the generator.
-/
set_option linter.unusedSimpArgs false
set_option linter.unusedVariables false
namespace Go.Proofs
namespace Great
open Go Go.RowKit Go.Aev
set_option maxRecDepth 100000
theorem c15s (S : AS) : (evL Tryz.prog E0).call 11 #[] S = some (.bool true, S) := by rw [L_call]; rfl


end Great
end Go.Proofs
end
section
/-
  The great seat of stage 1: Propose, by the generator.
-/
set_option linter.unusedSimpArgs false
set_option linter.unusedVariables false
namespace Go.Proofs
namespace Great
open Go Go.RowKit Go.Aev
set_option maxRecDepth 100000
def R48_0 (ks : List K) (tr : Int) (fr : Int) (f s l : Int)  : Nat → Int → Sum (Int × Int) (Unit)
  | 0, p => .inr ()
  | m' + 1, p => (if p ≤ 4095 then (if ks.any (confK (⟨1, tr, p⟩ : K) f s) = true then R48_0 ks tr fr f s l m' (p + 1) else .inl (p, 0)) else .inr ())
def r48 (ks : List K) (tr : Int) (fr : Int) (f s l : Int) : Int × Int := (if bunch ks = true then (if 0 ≤ tr ∧ tr < 4 then (if 0 ≤ fr ∧ fr ≤ 4095 then (if fr = 0 then (0, 1) else (if (errV (InkOk f s l)) = 0 then (onSum (R48_0 ks tr fr f s l ((4097 - fr).toNat) fr) (fun (r8, r9) => (r8, r9)) (fun _ => (0, 5))) else (0, 1))) else (0, 1)) else (0, 1)) else (0, 1))
def R49_0 (ks : List K) (tr : Int) (fr : Int) (f s l : Int)  : Nat → Int → Sum (Int × Int) (Unit)
  | 0, p => .inr ()
  | m' + 1, p => (if p ≤ 4095 then (if (rivalId (confK (⟨1, tr, p⟩ : K) f s) ks) = 0 then .inl (p, 0) else R49_0 ks tr fr f s l m' (p + 1)) else .inr ())
def r49 (ks : List K) (tr : Int) (fr : Int) (f s l : Int) : Int × Int := (if bunch ks = true then (if 0 ≤ tr ∧ tr ≤ 3 then (if 1 ≤ fr ∧ fr ≤ 4095 then (if InkOk f s l then (onSum (R49_0 ks tr fr f s l ((4097 - fr).toNat) fr) (fun (r8, r9) => (r8, r9)) (fun _ => (0, 5))) else (0, 1)) else (0, 1)) else (0, 1)) else (0, 1))
end Great
end Go.Proofs
end
