import Derived.Test.YtohfdkdjfoonjaaGreatDoorBW
section
set_option linter.unusedSimpArgs false
set_option linter.unusedVariables false
namespace Go.Proofs
namespace House
open Go Go.RowKit Go.Aev
set_option maxRecDepth 100000
end House
end Go.Proofs
end
section
set_option linter.unusedSimpArgs false
set_option linter.unusedVariables false
namespace Go.Proofs
namespace House
open Go Go.RowKit Go.Aev
set_option maxRecDepth 100000
end House
end Go.Proofs
end
section
set_option linter.unusedSimpArgs false
set_option linter.unusedVariables false
namespace Go.Proofs
namespace House
open Go Go.RowKit Go.Aev
set_option maxRecDepth 100000
theorem r70_ok {n k:Int} (hk:1≤k∧k≤1000):0≤r70 n k∧r70 n k<k:=by
 have e:r70 n k=IntKind.i64.wrap (Int.tmod (n % (2 ^ 64:Int)) k):=by
  unfold r70
  rw [show max k 1=k by omega,u64w (x:=k) (by omega)]
  rw [show IntKind.u64.wrap n=n % (2 ^ 64:Int) by simp [IntKind.wrap,IntKind.signed,IntKind.bits]]
 have h1:0≤n % (2 ^ 64:Int):=Int.emod_nonneg _ (by decide)
 have h2:Int.tmod (n % (2 ^ 64:Int)) k=(n % (2 ^ 64:Int)) % k:=Int.tmod_eq_emod_of_nonneg h1
 have h3:=Int.emod_nonneg (n % (2 ^ 64:Int)) (show k≠0 by omega)
 have h4:=Int.emod_lt_of_pos (n % (2 ^ 64:Int)) (show 0<k by omega)
 rw [e,h2,wr64 (by omega)]
 exact ⟨h3,h4⟩
end House
end Go.Proofs
end
