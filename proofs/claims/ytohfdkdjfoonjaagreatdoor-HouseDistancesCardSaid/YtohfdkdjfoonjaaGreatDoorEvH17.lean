import Derived.Test.YtohfdkdjfoonjaaGreatDoorEvH16
set_option linter.unusedSimpArgs false
set_option linter.unusedVariables false
namespace Go.Proofs
namespace House
open Go Go.RowKit Go.Aev
set_option maxRecDepth 100000
theorem TY_EvH17:type_of% TY_EvH16:=TY_EvH16
def r28 (h:Hs) (door:Int) (ti:Int):Int × Int:=(if (r87 h door)=true then (if (r84 h (r88 ti))=0 then ((r89 (lget h.doors (Int.toNat door)) ti),0) else (0,(r84 h (r88 ti)))) else (0,(r84 h false)))
def r30 (h:Hs) (door:Int) (ti:Int):Int × Int:=(if (r87 h door)=true then (if (r84 h (r88 ti))=0 then ((r91 (lget h.doors (Int.toNat door)) ti),0) else (0,(r84 h (r88 ti)))) else (0,(r84 h false)))
def r26 (h:Hs) (door:Int) (ti:Int):Bool × Int:=(if ((r28 h door ti).2)=0 then (decide (((r28 h door ti).1)=ti),(r28 h door ti).2) else (false,(r28 h door ti).2))
def r29 (h:Hs) (door:Int) (ti:Int):Int × Int:=(if (r85 h door ti)=0 then ((r90 (lget h.doors (Int.toNat door)) ti),0) else (0,(r85 h door ti)))
def r31 (h:Hs) (door:Int) (ti:Int):Int × Int:=(if (r85 h door ti)=0 then ((r92 (lget h.doors (Int.toNat door)) ti),0) else (0,(r85 h door ti)))
def r27 (h:Hs) (door:Int) (ti:Int):Bool × Int:=(if (r85 h door ti)=0 then ((r86 (lget h.doors (Int.toNat door)) ti),0) else (false,(r85 h door ti)))
def R34_0 (l:List Sp) (q:List Sp)  : List Sp→Nat→Sum (Bool) (Unit)
 | [],k=>.inr ()
 | x4 :: l',k=>(if x4.lo=(lget q k).lo∧x4.hi=(lget q k).hi then R34_0 l q l' (k+1) else .inl false)
def r34 (l:List Sp) (q:List Sp):Bool:=(if (l.length:Int)=(q.length:Int) then (onSum (R34_0 l q l 0) (fun (r4:Bool)=>r4) (fun (_:Unit)=>true)) else false)
def r4 (h:Hs) (door:Int) (ti:Int) (slo shi:Int):Bool:=(if (r20 h)=true then (if ((r26 h door ti).1)=((r27 h door ti).1) then (if ((r26 h door ti).2)=((r27 h door ti).2) then (if ((r28 h door ti).1)=((r29 h door ti).1) then (if ((r28 h door ti).2)=((r29 h door ti).2) then (if ((r30 h door ti).1)=((r31 h door ti).1) then (if ((r30 h door ti).2)=((r31 h door ti).2) then (if ((r32 h door slo shi).2)=((r33 h door slo shi).2) then (r34 ((r32 h door slo shi).1:List Sp) ((r33 h door slo shi).1:List Sp)) else false) else false) else false) else false) else false) else false) else false) else true)
end House
end Go.Proofs
