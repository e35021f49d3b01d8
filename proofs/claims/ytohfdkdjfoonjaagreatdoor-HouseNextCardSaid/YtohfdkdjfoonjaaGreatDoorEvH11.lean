import Derived.Test.YtohfdkdjfoonjaaGreatDoorEvM5
set_option linter.unusedSimpArgs false
set_option linter.unusedVariables false
namespace Go.Proofs
namespace House
open Go Go.RowKit Go.Aev
set_option maxRecDepth 100000
theorem TY_EvH11:type_of% TY_EvH10:=TY_EvH10
structure Pg where
 way:Int
 back:Bool
 fr:Int
 to:Int
 secs:Int
 door:Int
structure Gt where
 way:Int
 fr:Int
 to:Int
 secs:Int
 door:Int
theorem r89_ge {d:Dr} (hO:OkO d) {t:Int} (ht:0≤t∧t≤1073741823):t≤r89 d t∧r89 d t≤1073741824:=by
 rcases r89_nx hO ht.1 with ⟨h1,_⟩|⟨h1,h2,_⟩<;>omega
def r145 (x:Pg) (ti:Int) (h:Hs):Int:=(if 0≤x.door then min ((r89 (lget h.doors (Int.toNat x.door)) ti)+x.secs) 1073741824 else min (ti+x.secs) 1073741824)
def r146 (x:Pg) (ti:Int) (h:Hs):Int:=(if 0≤x.door then max (r91 (lget h.doors (Int.toNat x.door)) (ti - x.secs)) (-1) else max (ti - x.secs) (-1))
def r96e (h:Hs) (way:Int) (back:Bool) (ti:Int) (g:Hs):Int × Int:=(if (r143 h way)=true then (if (r84 h (r88 ti))=0 then (if (r144 h way back).2=true then ((r145 (⟨((r144 h way back).1).1,((r144 h way back).1).2.1,((r144 h way back).1).2.2.1,((r144 h way back).1).2.2.2.1,((r144 h way back).1).2.2.2.2.1,((r144 h way back).1).2.2.2.2.2⟩:Pg) ti g),0) else (0,5)) else (0,(r84 h (r88 ti)))) else (0,(r84 h false)))
def r96d (h:Hs) (way:Int) (back:Bool) (ti:Int) (g:Hs):Int × Int:=(if (r143 h way)=true then (if (r84 h (r88 ti))=0 then (if (r144 h way back).2=true then ((r146 (⟨((r144 h way back).1).1,((r144 h way back).1).2.1,((r144 h way back).1).2.2.1,((r144 h way back).1).2.2.2.1,((r144 h way back).1).2.2.2.2.1,((r144 h way back).1).2.2.2.2.2⟩:Pg) ti g),0) else (0,5)) else (0,(r84 h (r88 ti)))) else (0,(r84 h false)))
def r35 (h:Hs) (way:Int) (back:Bool) (ti:Int):Int × Int:=((r96e h way back ti h).1,(r96e h way back ti h).2)
def r37 (h:Hs) (way:Int) (back:Bool) (ti:Int):Int × Int:=((r96d h way back ti h).1,(r96d h way back ti h).2)
def r99 (h:Hs) (g:Gt) (ti:Int):Int:=(if 0≤g.door then min ((r90 (lget h.doors (Int.toNat g.door)) ti)+g.secs) 1073741824 else min (ti+g.secs) 1073741824)
def r101 (h:Hs) (g:Gt) (ti:Int):Int:=(if (ti - g.secs)<0 then -1 else (if g.door<0 then ti - g.secs else (r92 (lget h.doors (Int.toNat g.door)) (ti - g.secs))))
def r36 (h:Hs) (n:Int) (back:Bool) (ti:Int):Int × Int:=(if ((r98 h n back ti).2)=0 then ((r99 h (⟨((r98 h n back ti).1).1,((r98 h n back ti).1).2.1,((r98 h n back ti).1).2.2.1,((r98 h n back ti).1).2.2.2.1,((r98 h n back ti).1).2.2.2.2⟩:Gt) ti),0) else (0,(r98 h n back ti).2))
def r38 (h:Hs) (n:Int) (back:Bool) (ti:Int):Int × Int:=(if ((r98 h n back ti).2)=0 then ((r101 h (⟨((r98 h n back ti).1).1,((r98 h n back ti).1).2.1,((r98 h n back ti).1).2.2.1,((r98 h n back ti).1).2.2.2.1,((r98 h n back ti).1).2.2.2.2⟩:Gt) ti),0) else (0,(r98 h n back ti).2))
def r5 (h:Hs) (way:Int) (back:Bool) (ti:Int):Bool:=(if (r20 h)=true then (if ((r35 h way back ti).1)=((r36 h way back ti).1) then (if ((r35 h way back ti).2)=((r36 h way back ti).2) then (if ((r37 h way back ti).1)=((r38 h way back ti).1) then decide (((r37 h way back ti).2)=((r38 h way back ti).2)) else false) else false) else false) else true)
end House
end Go.Proofs
