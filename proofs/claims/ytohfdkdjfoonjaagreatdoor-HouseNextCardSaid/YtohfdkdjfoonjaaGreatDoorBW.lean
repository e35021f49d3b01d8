import Derived.Test.YtohfdkdjfoonjaaGreatDoorBV
section
set_option linter.unusedSimpArgs false
set_option linter.unusedVariables false
namespace Go.Proofs
namespace House
open Go Go.RowKit Go.Aev
set_option maxRecDepth 100000
end House
end Go.Proofs
end
section
set_option linter.unusedSimpArgs false
set_option linter.unusedVariables false
namespace Go.Proofs
namespace House
open Go Go.RowKit Go.Aev
set_option maxRecDepth 100000
def bad (h:Hs) (l:List Int) (x:Pg):Bool:=r88 (lget l x.fr.toNat) && decide (r145 x (lget l x.fr.toNat) h<lget l x.to.toNat)
def r118 (h:Hs) (l:List Int):Bool:=!(psg h).any (bad h l)
end House
end Go.Proofs
end
section
set_option linter.unusedSimpArgs false
set_option linter.unusedVariables false
namespace Go.Proofs
namespace House
open Go Go.RowKit Go.Aev
set_option maxRecDepth 100000
def R52_0 (h:Hs) (a:Int) (ta:Int) (b:Int) (tb:Int) (l:List Int)  : List Int→Sum (Int) (Unit)
 | []=>.inr ()
 | x9 :: l'=>(if x9<0 then .inl 8 else (if 1073741824<x9 then .inl 8 else R52_0 h a ta b tb l l'))
def r52 (h:Hs) (a:Int) (ta:Int) (b:Int) (tb:Int) (l:List Int):Int:=(if (r113 h a ta b tb)=0 then (if (l.length:Int)=(h.rooms.length:Int) then (onSum (R52_0 h a ta b tb l l) (fun (r12:Int)=>r12) (fun (_:Unit)=>(if ta<(lget l (Int.toNat a)) then 8 else (if (lget l (Int.toNat b))≤tb then 8 else (if r118 h l=true then 0 else 8))))) else 8) else (r113 h a ta b tb))
def R55_0 (h:Hs) (a:Int) (ta:Int) (b:Int) (tb:Int) (l:List Int)  : List Int→Sum (Bool) (Unit)
 | []=>.inr ()
 | x5 :: l'=>(if (r71 x5 0 1073741824)=true then R55_0 h a ta b tb l l' else .inl false)
def R55_1 (h:Hs) (a:Int) (ta:Int) (b:Int) (tb:Int) (l:List Int)  : List Gt→Sum (Bool) (Unit)
 | []=>.inr ()
 | x21 :: l'=>(if (lget l (Int.toNat x21.fr))<1073741824 then (if (r99 h x21 (lget l (Int.toNat x21.fr)))<(lget l (Int.toNat x21.to)) then .inl false else R55_1 h a ta b tb l l') else R55_1 h a ta b tb l l')
def r55 (h:Hs) (a:Int) (ta:Int) (b:Int) (tb:Int) (l:List Int):Bool:=(if (l.length:Int)=(h.rooms.length:Int) then (onSum (R55_0 h a ta b tb l l) (fun (r12:Bool)=>r12) (fun (_:Unit)=>(if ta<(lget l (Int.toNat a)) then false else (if (lget l (Int.toNat b))≤tb then false else (onSum (R55_1 h a ta b tb l (r116 h)) (fun (r12:Bool)=>r12) (fun (_:Unit)=>true)))))) else false)
def r54 (h:Hs) (a:Int) (ta:Int) (b:Int) (tb:Int):List Int × Int:=(if (r113 h a ta b tb)=0 then (if (lget (r106 h a ta) (Int.toNat b))≤tb then ([],5) else ((r106 h a ta),0)) else ([],(r113 h a ta b tb)))
def r10 (h:Hs) (a:Int) (ta:Int) (b:Int) (tb:Int):Bool:=(if (r20 h)=true then (if ((r46 h a ta b tb).2)=0 then (if (r46 h a ta b tb).1=true then (if ((r54 h a ta b tb).2)=5 then decide ((((r54 h a ta b tb).1).length:Int)=0) else false) else (if ((r54 h a ta b tb).2)=0 then (if (r55 h a ta b tb ((r54 h a ta b tb).1:List Int))=true then decide ((r52 h a ta b tb ((r54 h a ta b tb).1:List Int))=0) else false) else false)) else (if ((r54 h a ta b tb).2)=((r46 h a ta b tb).2) then decide ((((r54 h a ta b tb).1).length:Int)=0) else false)) else true)
end House
end Go.Proofs
end
section
set_option linter.unusedSimpArgs false
set_option linter.unusedVariables false
namespace Go.Proofs
namespace House
open Go Go.RowKit Go.Aev
set_option maxRecDepth 100000
end House
end Go.Proofs
end
