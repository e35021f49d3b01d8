import Derived.Test.YtohfdkdjfoonjaaGreatDoorEvH8
set_option linter.unusedSimpArgs false
set_option linter.unusedVariables false
namespace Go.Proofs
namespace House
open Go Go.RowKit Go.Aev
set_option maxRecDepth 100000
def r138 (l:List Sp) (ti:Int):Int :=
 if (l.length:Int)=0 then -1 else
 match hit (r160 ti).1 (r160 ti).2 (r167 l) with
 | some r=>r
 | none=>(r160 ti).1 - 86400+(lget l (l.length - 1)).hi
theorem r167_mem (l:List Sp):∀ (m:Nat) (iv:Int),iv<l.length→∀ b ∈ R167_0 l m iv,b.2 ∈ l:=by
 intro m
 induction m with
 | zero=>intro iv _ b hb; simp [R167_0] at hb
 | succ m ih =>
  intro iv hi b hb
  unfold R167_0 at hb
  split at hb
  ·rcases List.mem_cons.1 hb with rfl|hb
   ·exact List.mem_of_getElem? (lget_some (by omega))
   ·exact ih _ (by omega) b hb
  ·simp at hb
end House
end Go.Proofs
