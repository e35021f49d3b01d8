import Derived.Test.YtohfdkdjfoonjaaGreatDoorBU
set_option linter.unusedSimpArgs false
set_option linter.unusedVariables false
namespace Go.Proofs
namespace House
open Go Go.RowKit Go.Aev
set_option maxRecDepth 100000
theorem r106_len {h:Hs} (hV:r59 h=0) {fr ti:Int} (ht:0≤ti∧ti≤1073741823):(r106 h fr ti).length=h.rooms.length:=(r109_tm (rooms:=h.rooms.length) (fr:=fr) ht (psg_hg hV)).1.len
theorem rooms_len {h:Hs} (hV:r59 h=0):h.rooms.length≤24:=(valid_parts hV).2.2.1
end House
end Go.Proofs
