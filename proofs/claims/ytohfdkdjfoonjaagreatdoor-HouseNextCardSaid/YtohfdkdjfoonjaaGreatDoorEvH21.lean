import Derived.Test.YtohfdkdjfoonjaaGreatDoorBS
set_option linter.unusedSimpArgs false
set_option linter.unusedVariables false
namespace Go.Proofs
namespace House
open Go Go.RowKit Go.Aev
set_option maxRecDepth 100000
theorem tz134:szOf Tryz.prog 134=some 1:=by kernel_rfl
theorem tt134:inTab Tryz.prog 134=true:=by kernel_rfl
theorem t0_134:zeroOf Tryz.prog 134=some (.slice none 0 0):=by kernel_rfl
theorem tz141:szOf Tryz.prog 141=some 2:=by kernel_rfl
theorem tt141:inTab Tryz.prog 141=true:=by kernel_rfl
theorem t0_141:zeroOf Tryz.prog 141=some (.agg #[.slice none 0 0,.slice none 0 0]):=by kernel_rfl
theorem tz142:szOf Tryz.prog 142=some 2:=by kernel_rfl
theorem tt142:inTab Tryz.prog 142=true:=by kernel_rfl
theorem t0_142:zeroOf Tryz.prog 142=some (.agg #[.slice none 0 0,.slice none 0 0]):=by kernel_rfl
theorem tz148:szOf Tryz.prog 148=some 1:=by kernel_rfl
theorem tt148:inTab Tryz.prog 148=true:=by kernel_rfl
theorem t0_148:zeroOf Tryz.prog 148=some (.slice none 0 0):=by kernel_rfl
def R109_1 (rooms:Nat) (fr:Int) (ti:Int) (l:List Pg) (g:Pg→Int→Int) (times:List Int) (by_:List Int) (left:List Bool):List Int→Nat→Int→Int
 | [],kv,here=>here
 | x56 :: l',kv,here=>(if (lget left kv)=true then R109_1 rooms fr ti l g times by_ left l' (kv+1) here else (if x56≤1073741823 then (if here<0 then R109_1 rooms fr ti l g times by_ left l' (kv+1) (kv:Int) else (if x56<(lget times (Int.toNat here)) then R109_1 rooms fr ti l g times by_ left l' (kv+1) (kv:Int) else R109_1 rooms fr ti l g times by_ left l' (kv+1) here)) else R109_1 rooms fr ti l g times by_ left l' (kv+1) here))
def R109_2 (rooms:Nat) (fr:Int) (ti:Int) (l:List Pg) (g:Pg→Int→Int) (times:List Int) (by_:List Int) (left:List Bool):List Pg→List Int→List Int→Nat→(List Int) × (List Int)
 | [],times2,by2,jv=>(times2,by2)
 | x81 :: l',times2,by2,jv=>(if x81.fr=(R109_1 rooms fr ti l g times by_ left times 0 (-1)) then (if (g x81 (lget times2 (Int.toNat (R109_1 rooms fr ti l g times by_ left times 0 (-1)))))<(lget times2 (Int.toNat x81.to)) then R109_2 rooms fr ti l g times by_ left l' (times2.set (Int.toNat x81.to) (g x81 (lget times2 (Int.toNat (R109_1 rooms fr ti l g times by_ left times 0 (-1)))))) (by2.set (Int.toNat x81.to) (jv:Int)) (jv+1) else R109_2 rooms fr ti l g times by_ left l' times2 by2 (jv+1)) else R109_2 rooms fr ti l g times by_ left l' times2 by2 (jv+1))
def R109_0 (rooms:Nat) (fr:Int) (ti:Int) (l:List Pg) (g:Pg→Int→Int)  : Nat→List Int→List Int→List Bool→(List Int) × (List Int)
 | 0,times,by_,left=>(times,by_)
 | m'+1,times,by_,left=>(if (R109_1 rooms fr ti l g times by_ left times 0 (-1))<0 then (times,by_) else R109_0 rooms fr ti l g m' ((R109_2 rooms fr ti l g times by_ left l times by_ 0).1) ((R109_2 rooms fr ti l g times by_ left l times by_ 0).2) (left.set (Int.toNat (R109_1 rooms fr ti l g times by_ left times 0 (-1))) true))
def r109 (rooms:Nat) (fr:Int) (ti:Int) (l:List Pg) (g:Pg→Int→Int):(List Int × List Int):=((R109_0 rooms fr ti l g (rooms+1) ((List.replicate rooms (1073741824:Int)).set (Int.toNat fr) ti) (List.replicate rooms (-1:Int)) (List.replicate rooms false)).1,(R109_0 rooms fr ti l g (rooms+1) ((List.replicate rooms (1073741824:Int)).set (Int.toNat fr) ti) (List.replicate rooms (-1:Int)) (List.replicate rooms false)).2)
end House
end Go.Proofs
