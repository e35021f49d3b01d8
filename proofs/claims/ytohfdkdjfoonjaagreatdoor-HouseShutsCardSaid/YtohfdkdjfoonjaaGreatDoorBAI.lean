import Derived.Test.YtohfdkdjfoonjaaGreatDoorEvH10
section
set_option linter.unusedSimpArgs false
set_option linter.unusedVariables false
namespace Go.Proofs
namespace House
open Go Go.RowKit Go.Aev
set_option maxRecDepth 100000
def Op (d:Dr) (n:Int):Prop:=r86 d n=true
structure OkO (d:Dr):Prop where
 o:OkD d
 h:Ord d.hours
 s:Ord d.shut
theorem oko {h:Hs} (e:r59 h=0) {d:Dr} (hd:d ∈ h.doors):OkO d:=⟨okd e hd,(okd_ord e hd).1,(okd_ord e hd).2⟩
end House
end Go.Proofs
end
section
set_option linter.unusedSimpArgs false
set_option linter.unusedVariables false
namespace Go.Proofs
namespace House
open Go Go.RowKit Go.Aev
set_option maxRecDepth 100000
end House
end Go.Proofs
end
