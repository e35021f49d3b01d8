import Derived.Test.YtohfdkdjfoonjaaGreatDoorEvH5
set_option linter.unusedSimpArgs false
set_option linter.unusedVariables false
namespace Go.Proofs
namespace House
open Go Go.RowKit Go.Aev
set_option maxRecDepth 100000
theorem tz29:szOf Tryz.prog 29=some 1:=by kernel_rfl
theorem tt29:inTab Tryz.prog 29=true:=by kernel_rfl
theorem t0_29:zeroOf Tryz.prog 29=some (.int .i64 0):=by kernel_rfl
theorem tz50:szOf Tryz.prog 50=some 3:=by kernel_rfl
theorem tt50:inTab Tryz.prog 50=true:=by kernel_rfl
theorem t0_50:zeroOf Tryz.prog 50=some (.agg #[.int .i64 0,.int .i64 0,.int .i64 0]):=by kernel_rfl
theorem tz51:szOf Tryz.prog 51=some 3:=by kernel_rfl
theorem tt51:inTab Tryz.prog 51=true:=by kernel_rfl
theorem t0_51:zeroOf Tryz.prog 51=some (.agg #[.int .i64 0,.int .i64 0,.int .i64 0]):=by kernel_rfl
theorem TY_EvH6:type_of% (And.intro TY_EvH5 (And.intro (And.intro (And.intro Tryz.underlying29 (And.intro tz29 tt29)) (And.intro t0_29 (And.intro Tryz.underlying50 tz50))) (And.intro (And.intro tt50 (And.intro t0_50 Tryz.underlying51)) (And.intro tz51 (And.intro tt51 t0_51))))):=(And.intro TY_EvH5 (And.intro (And.intro (And.intro Tryz.underlying29 (And.intro tz29 tt29)) (And.intro t0_29 (And.intro Tryz.underlying50 tz50))) (And.intro (And.intro tt50 (And.intro t0_50 Tryz.underlying51)) (And.intro tz51 (And.intro tt51 t0_51)))))
def r105 (h:Hs) (room:Int) (ti:Int) (s:Stp):(Int × Int × Int):=(if ((r98 h s.way s.back s.at_).2)=0 then (if (((r98 h s.way s.back s.at_).1).2.1)=room then (if s.at_<ti then (0,0,3) else (if 0≤(((r98 h s.way s.back s.at_).1).2.2.2.2) then (if (r86 (lget h.doors (Int.toNat (((r98 h s.way s.back s.at_).1).2.2.2.2))) s.at_)=true then (if 1073741824≤(s.at_+(((r98 h s.way s.back s.at_).1).2.2.2.1)) then (0,0,3) else (((r98 h s.way s.back s.at_).1).2.2.1,s.at_+(((r98 h s.way s.back s.at_).1).2.2.2.1),0)) else (0,0,9)) else (if 1073741824≤(s.at_+(((r98 h s.way s.back s.at_).1).2.2.2.1)) then (0,0,3) else (((r98 h s.way s.back s.at_).1).2.2.1,s.at_+(((r98 h s.way s.back s.at_).1).2.2.2.1),0)))) else (0,0,4)) else (0,0,1))
def R40_0 (h:Hs) (from_:Int) (ti:Int) (l:List Stp)  : List Stp→Int→Int→Int→Sum (Int × Int × Int) (Int × Int × Int)
 | [],rm,tv,er=>.inr (rm,tv,er)
 | x12 :: l',rm,tv,er=>(if (((r105 h rm tv x12)).2.2)=0 then R40_0 h from_ ti l l' (((r105 h rm tv x12)).1) (((r105 h rm tv x12)).2.1) (((r105 h rm tv x12)).2.2) else .inl (0,0,((r105 h rm tv x12)).2.2))
def r40 (h:Hs) (from_:Int) (ti:Int) (l:List Stp):(Int × Int × Int):=(if (r104 h from_ ti)=0 then (if 60<(l.length:Int) then (0,0,2) else (onSum (R40_0 h from_ ti l l from_ ti 0) (fun (r8_0,r8_1,r8_2)=>(r8_0,r8_1,r8_2)) (fun (rm,tv,er)=>(rm,tv,er)))) else (0,0,(r104 h from_ ti)))
def r6 (h:Hs) (from_:Int) (ti:Int) (l:List Stp):Bool:=(if (r20 h)=true then (if 80<(l.length:Int) then true else (if ((r39 h from_ ti (l:List Stp)).1)=(((r40 h from_ ti (l:List Stp))).1) then (if ((r39 h from_ ti (l:List Stp)).2.1)=(((r40 h from_ ti (l:List Stp))).2.1) then decide (((r39 h from_ ti (l:List Stp)).2.2)=(((r40 h from_ ti (l:List Stp))).2.2)) else false) else false)) else true)
end House
end Go.Proofs
