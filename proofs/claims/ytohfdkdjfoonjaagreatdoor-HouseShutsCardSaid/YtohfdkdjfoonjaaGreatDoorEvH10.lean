import Derived.Test.YtohfdkdjfoonjaaGreatDoorBAH
import Derived.Test.YtohfdkdjfoonjaaGreatDoorEvM3
set_option linter.unusedSimpArgs false
set_option linter.unusedVariables false
namespace Go.Proofs
namespace House
open Go Go.RowKit Go.Aev
set_option maxRecDepth 100000
theorem TY_EvH10:type_of% TY_EvH7:=TY_EvH7
def R91_0 (d:Dr) (ti:Int)  : Nat→Int→Sum (Int) (Unit)
 | 0,tv=>.inr ()
 | m'+1,tv=>(if 0≤tv then (if (r137 (d.shut:List Sp) (r138 d.hours tv)).2=true then (if ((((r137 (d.shut:List Sp) (r138 d.hours tv)).1).1) - 1)=tv then .inl tv else R91_0 d ti m' ((((r137 (d.shut:List Sp) (r138 d.hours tv)).1).1) - 1)) else (if (r138 d.hours tv)=tv then .inl tv else R91_0 d ti m' (r138 d.hours tv))) else .inr ())
def r91 (d:Dr) (ti:Int):Int:=(onSum (R91_0 d ti ((ti+1).toNat+1) ti) (fun (r4:Int)=>r4) (fun (_:Unit) => -1))
def R90_1 (d:Dr) (ti:Int) (kv:Nat) (b0:Int):List Sp→Int→Int
 | [],b1=>b1
 | x8 :: l',b1=>(if ti<((((Int.tdiv ti 86400) * 86400)+((kv:Int) * 86400))+x8.lo) then (if ((((Int.tdiv ti 86400) * 86400)+((kv:Int) * 86400))+x8.lo)<b1 then (if (r86 d ((((Int.tdiv ti 86400) * 86400)+((kv:Int) * 86400))+x8.lo))=true then R90_1 d ti kv b0 l' ((((Int.tdiv ti 86400) * 86400)+((kv:Int) * 86400))+x8.lo) else R90_1 d ti kv b0 l' b1) else R90_1 d ti kv b0 l' b1) else R90_1 d ti kv b0 l' b1)
def R90_0 (d:Dr) (ti:Int)  : Nat→Nat→Int→Int
 | 0,kv,b0=>b0
 | m'+1,kv,b0=>(if (kv:Int)<2 then R90_0 d ti m' (kv+1) (R90_1 d ti kv b0 d.hours b0) else b0)
def R90_4 (d:Dr) (ti:Int) (jv:Nat) (b2:Int) (x27:Sp) (k3:Nat) (b3:Int):Nat→Nat→Int→Int
 | 0,j4,b4=>b4
 | m'+1,j4,b4=>(if (j4:Int)<2 then (if ti<(((((Int.tdiv (x27.hi+1) 86400) * 86400)+86400) - ((j4:Int) * 86400))+((lget d.hours k3).lo)) then (if (((((Int.tdiv (x27.hi+1) 86400) * 86400)+86400) - ((j4:Int) * 86400))+((lget d.hours k3).lo))<b4 then (if (r86 d (((((Int.tdiv (x27.hi+1) 86400) * 86400)+86400) - ((j4:Int) * 86400))+((lget d.hours k3).lo)))=true then R90_4 d ti jv b2 x27 k3 b3 m' (j4+1) (((((Int.tdiv (x27.hi+1) 86400) * 86400)+86400) - ((j4:Int) * 86400))+((lget d.hours k3).lo)) else R90_4 d ti jv b2 x27 k3 b3 m' (j4+1) b4) else R90_4 d ti jv b2 x27 k3 b3 m' (j4+1) b4) else R90_4 d ti jv b2 x27 k3 b3 m' (j4+1) b4) else b4)
def R90_3 (d:Dr) (ti:Int) (jv:Nat) (b2:Int) (x27:Sp):List Sp→Nat→Int→Int
 | [],k3,b3=>b3
 | _x :: l',k3,b3=>R90_3 d ti jv b2 x27 l' (k3+1) (R90_4 d ti jv b2 x27 k3 b3 3 0 b3)
def R90_2 (d:Dr) (ti:Int)  : List Sp→Nat→Int→Int
 | [],jv,b2=>b2
 | x27 :: l',jv,b2=>(if ti<(x27.hi+1) then (if (x27.hi+1)<b2 then (if (r86 d (x27.hi+1))=true then R90_2 d ti l' (jv+1) (R90_3 d ti jv b2 x27 d.hours 0 (x27.hi+1)) else R90_2 d ti l' (jv+1) (R90_3 d ti jv b2 x27 d.hours 0 b2)) else R90_2 d ti l' (jv+1) (R90_3 d ti jv b2 x27 d.hours 0 b2)) else R90_2 d ti l' (jv+1) (R90_3 d ti jv b2 x27 d.hours 0 b2))
def r90 (d:Dr) (ti:Int):Int:=(if (r86 d ti)=true then ti else R90_2 d ti d.shut 0 (R90_0 d ti 3 0 1073741824))
def R92_1 (d:Dr) (ti:Int) (kv:Nat) (b0:Int):List Sp→Int→Int
 | [],b1=>b1
 | x8 :: l',b1=>(if 0≤((((Int.tdiv ti 86400) * 86400) - ((kv:Int) * 86400))+x8.hi) then (if ((((Int.tdiv ti 86400) * 86400) - ((kv:Int) * 86400))+x8.hi)<ti then (if b1<((((Int.tdiv ti 86400) * 86400) - ((kv:Int) * 86400))+x8.hi) then (if (r86 d ((((Int.tdiv ti 86400) * 86400) - ((kv:Int) * 86400))+x8.hi))=true then R92_1 d ti kv b0 l' ((((Int.tdiv ti 86400) * 86400) - ((kv:Int) * 86400))+x8.hi) else R92_1 d ti kv b0 l' b1) else R92_1 d ti kv b0 l' b1) else R92_1 d ti kv b0 l' b1) else R92_1 d ti kv b0 l' b1)
def R92_0 (d:Dr) (ti:Int)  : Nat→Nat→Int→Int
 | 0,kv,b0=>b0
 | m'+1,kv,b0=>(if (kv:Int)<2 then R92_0 d ti m' (kv+1) (R92_1 d ti kv b0 d.hours b0) else b0)
def R92_4 (d:Dr) (ti:Int) (jv:Nat) (b2:Int) (x29:Sp) (k3:Nat) (b3:Int):Nat→Nat→Int→Int
 | 0,j4,b4=>b4
 | m'+1,j4,b4=>(if (j4:Int)<2 then (if 0≤(((((Int.tdiv (x29.lo - 1) 86400) * 86400) - 86400)+((j4:Int) * 86400))+((lget d.hours k3).hi)) then (if (((((Int.tdiv (x29.lo - 1) 86400) * 86400) - 86400)+((j4:Int) * 86400))+((lget d.hours k3).hi))<ti then (if b4<(((((Int.tdiv (x29.lo - 1) 86400) * 86400) - 86400)+((j4:Int) * 86400))+((lget d.hours k3).hi)) then (if (r86 d (((((Int.tdiv (x29.lo - 1) 86400) * 86400) - 86400)+((j4:Int) * 86400))+((lget d.hours k3).hi)))=true then R92_4 d ti jv b2 x29 k3 b3 m' (j4+1) (((((Int.tdiv (x29.lo - 1) 86400) * 86400) - 86400)+((j4:Int) * 86400))+((lget d.hours k3).hi)) else R92_4 d ti jv b2 x29 k3 b3 m' (j4+1) b4) else R92_4 d ti jv b2 x29 k3 b3 m' (j4+1) b4) else R92_4 d ti jv b2 x29 k3 b3 m' (j4+1) b4) else R92_4 d ti jv b2 x29 k3 b3 m' (j4+1) b4) else b4)
def R92_3 (d:Dr) (ti:Int) (jv:Nat) (b2:Int) (x29:Sp):List Sp→Nat→Int→Int
 | [],k3,b3=>b3
 | _x :: l',k3,b3=>R92_3 d ti jv b2 x29 l' (k3+1) (R92_4 d ti jv b2 x29 k3 b3 3 0 b3)
def R92_2 (d:Dr) (ti:Int)  : List Sp→Nat→Int→Int
 | [],jv,b2=>b2
 | x29 :: l',jv,b2=>(if 0≤(x29.lo - 1) then (if (x29.lo - 1)<ti then (if b2<(x29.lo - 1) then (if (r86 d (x29.lo - 1))=true then R92_2 d ti l' (jv+1) (R92_3 d ti jv b2 x29 d.hours 0 (x29.lo - 1)) else R92_2 d ti l' (jv+1) (R92_3 d ti jv b2 x29 d.hours 0 b2)) else R92_2 d ti l' (jv+1) (R92_3 d ti jv b2 x29 d.hours 0 b2)) else R92_2 d ti l' (jv+1) (R92_3 d ti jv b2 x29 d.hours 0 b2)) else R92_2 d ti l' (jv+1) b2)
def r92 (d:Dr) (ti:Int):Int:=(if (r86 d ti)=true then ti else R92_2 d ti d.shut 0 (R92_0 d ti 3 0 (-1)))
end House
end Go.Proofs
