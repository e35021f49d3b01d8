import Derived.Test.YtohfdkdjfoonjaaGreatDoorEvM11
import Derived.Test.YtohfdkdjfoonjaaGreatDoorEvH30
set_option linter.unusedSimpArgs false
set_option linter.unusedVariables false
namespace Go.Proofs
namespace House
open Go Go.RowKit Go.Aev
set_option maxRecDepth 100000
theorem crs {h:Hs} (hV:r59 h=0):Crs h.rooms.length (psg h) (fun p t=>r145 p t h):=⟨psg_hg hV,fun p hp t ht=>(r145_ge (psg_ok hV hp).ok ht).1,psg_hp hV⟩
end House
end Go.Proofs
