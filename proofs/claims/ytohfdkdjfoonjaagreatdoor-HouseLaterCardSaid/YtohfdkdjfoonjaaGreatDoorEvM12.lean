import Derived.Test.YtohfdkdjfoonjaaGreatDoorEvM11
import Derived.Test.YtohfdkdjfoonjaaGreatDoorEvH30
set_option linter.unusedSimpArgs false
set_option linter.unusedVariables false
namespace Go.Proofs
namespace House
open Go Go.RowKit Go.Aev
set_option maxRecDepth 100000
theorem crs {h:Hs} (hV:r59 h=0):Crs h.rooms.length (psg h) (fun p t=>r145 p t h):=⟨psg_hg hV,fun p hp t ht=>(r145_ge (psg_ok hV hp).ok ht).1,psg_hp hV⟩
theorem r106_tm {h:Hs} (hV:r59 h=0) {fr ti:Int} (ht:0≤ti∧ti≤1073741823):Tm h.rooms.length (r106 h fr ti):=(r109_tm (rooms:=h.rooms.length) (fr:=fr) ht (psg_hg hV)).1
theorem r106_closed {h:Hs} (hV:r59 h=0) {fr ti:Int} (ht:0≤ti∧ti≤1073741823):∀ p ∈ psg h,lget (r106 h fr ti) p.fr.toNat≤1073741823→lget (r106 h fr ti) p.to.toNat≤r145 p (lget (r106 h fr ti) p.fr.toNat) h :=
 closed (fr:=fr) (crs hV) ht
theorem r106_start {h:Hs} (hV:r59 h=0) {fr ti:Int} (hf:0≤fr∧fr<(h.rooms.length:Int)) (ht:0≤ti∧ti≤1073741823):lget (r106 h fr ti) fr.toNat≤ti:=start_le (crs hV) hf ht
end House
end Go.Proofs
