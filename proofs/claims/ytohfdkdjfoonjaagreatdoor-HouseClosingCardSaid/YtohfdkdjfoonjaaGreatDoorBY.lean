import Derived.Test.YtohfdkdjfoonjaaGreatDoorBW
import Derived.Test.YtohfdkdjfoonjaaGreatDoorBX
section
set_option linter.unusedSimpArgs false
set_option linter.unusedVariables false
namespace Go.Proofs
namespace House
open Go Go.RowKit Go.Aev
set_option maxRecDepth 100000
end House
end Go.Proofs
end
section
set_option linter.unusedSimpArgs false
set_option linter.unusedVariables false
namespace Go.Proofs
namespace House
open Go Go.RowKit Go.Aev
set_option maxRecDepth 100000
instance:Cel Stp:=⟨3,fun x=>[.int .i64 x.way,.bool x.back,.int .i64 x.at_],fun _=>rfl,fun _=>rfl⟩
end House
end Go.Proofs
end
section
set_option linter.unusedSimpArgs false
set_option linter.unusedVariables false
namespace Go.Proofs
namespace House
open Go Go.RowKit Go.Aev
set_option maxRecDepth 100000
def R48_0 (h:Hs) (fr:Int) (ti:Int) (to_:Int)  : Nat→List Stp→Int→(List Stp)
 | 0,steps,now=>steps
 | m'+1,steps,now=>(if now=fr then steps else R48_0 h fr ti to_ m' (steps++([(⟨(lget ((r114 h fr ti).2) (Int.toNat (lget ((r114 h fr ti).1.2) (Int.toNat now)))).way,(lget ((r114 h fr ti).2) (Int.toNat (lget ((r114 h fr ti).1.2) (Int.toNat now)))).back,(lget ((r114 h fr ti).1.1) (Int.toNat now)) - ((lget ((r114 h fr ti).2) (Int.toNat (lget ((r114 h fr ti).1.2) (Int.toNat now)))).secs)⟩:Stp)])) ((lget ((r114 h fr ti).2) (Int.toNat (lget ((r114 h fr ti).1.2) (Int.toNat now)))).fr))
def r48 (h:Hs) (fr:Int) (ti:Int) (to_:Int):List Stp × Int:=(if (r102 h fr)=true then (if (r88 ti)=true then (if (r84 h (r102 h to_))=0 then (if (lget ((r114 h fr ti).1.1) (Int.toNat to_))=1073741824 then ([],5) else ((R48_0 h fr ti to_ (h.rooms.length+1) ([]) to_).reverse,0)) else ([],(r84 h (r102 h to_)))) else ([],(r84 h false))) else ([],(r84 h false)))
end House
end Go.Proofs
end
section
set_option linter.unusedSimpArgs false
set_option linter.unusedVariables false
namespace Go.Proofs
namespace House
open Go Go.RowKit Go.Aev
set_option maxRecDepth 100000
def r8 (h:Hs) (fr:Int) (ti:Int) (to_:Int):Bool:=(if (r20 h)=true then (if (r49 h fr ti to_ 0)=0 then (if (lget (r50 h fr ti) (Int.toNat to_))=1073741824 then (if ((r48 h fr ti to_).2)=5 then decide ((((r48 h fr ti to_).1).length:Int)=0) else false) else (if ((r48 h fr ti to_).2)=0 then (if (((r40 h fr ti ((r48 h fr ti to_).1:List Stp))).2.2)=0 then (if (((r40 h fr ti ((r48 h fr ti to_).1:List Stp))).1)=to_ then decide ((((r40 h fr ti ((r48 h fr ti to_).1:List Stp))).2.1)=(lget (r50 h fr ti) (Int.toNat to_))) else false) else false) else false)) else (if ((r48 h fr ti to_).2)=(r49 h fr ti to_ 0) then decide ((((r48 h fr ti to_).1).length:Int)=0) else false)) else true)
end House
end Go.Proofs
end
section
set_option linter.unusedSimpArgs false
set_option linter.unusedVariables false
namespace Go.Proofs
namespace House
open Go Go.RowKit Go.Aev
set_option maxRecDepth 100000
end House
end Go.Proofs
end
