import Derived.Test.YtohfdkdjfoonjaaGreatDoorBM
set_option linter.unusedSimpArgs false
set_option linter.unusedVariables false
namespace Go.Proofs
namespace House
open Go Go.RowKit Go.Aev
set_option maxRecDepth 100000
theorem tz136:szOf Tryz.prog 136=some 6:=by kernel_rfl
theorem tt136:inTab Tryz.prog 136=true:=by kernel_rfl
theorem t0_136:zeroOf Tryz.prog 136=some (.agg #[.int .i64 0,.bool false,.int .i64 0,.int .i64 0,.int .i64 0,.int .i64 0]):=by kernel_rfl
theorem tz137:szOf Tryz.prog 137=some 6:=by kernel_rfl
theorem tt137:inTab Tryz.prog 137=true:=by kernel_rfl
theorem t0_137:zeroOf Tryz.prog 137=some (.agg #[.int .i64 0,.bool false,.int .i64 0,.int .i64 0,.int .i64 0,.int .i64 0]):=by kernel_rfl
theorem TY_EvH4:type_of% (And.intro TY_EvH2 (And.intro (And.intro (And.intro Tryz.underlying136 tz136) (And.intro tt136 t0_136)) (And.intro (And.intro Tryz.underlying137 tz137) (And.intro tt137 t0_137)))):=(And.intro TY_EvH2 (And.intro (And.intro (And.intro Tryz.underlying136 tz136) (And.intro tt136 t0_136)) (And.intro (And.intro Tryz.underlying137 tz137) (And.intro tt137 t0_137))))
theorem r87_iff {h:Hs} {k:Int}:r87 h k=true↔0≤k∧k<h.doors.length:=r135_iff
theorem r69_iff {t:Int}:r69 t=true↔0≤t∧t≤1073741823:=r71_iff
def r160 (ti:Int):Int × Int:=(ti - (Int.tmod ti 86400),Int.tmod ti 86400)
def R136_0 (l:List Sp) (ti:Int)  : List Sp→Sum (Int) (Unit)
 | []=>.inr ()
 | x5 :: l'=>(if ((r160 ti).2)≤x5.hi then .inl (((r160 ti).1)+(max ((r160 ti).2) x5.lo)) else R136_0 l ti l')
def r136 (l:List Sp) (ti:Int):Int:=(if (l.length:Int)=0 then 1073741824 else (onSum (R136_0 l ti l) (fun (r4:Int)=>r4) (fun (_:Unit)=>(((r160 ti).1)+86400)+((lget l 0).lo))))
def R137_0 (l:List Sp) (ti:Int)  : List Sp→Sum (Int × Int × Bool) (Unit)
 | []=>.inr ()
 | x3 :: l'=>(if (r133 x3.lo x3.hi ti)=true then .inl (x3.lo,x3.hi,true) else R137_0 l ti l')
def r137 (l:List Sp) (ti:Int):(Int × Int) × Bool:=(onSum (R137_0 l ti l) (fun (r4_0,r4_1,r5)=>((r4_0,r4_1),r5)) (fun _=>((0,0),false)))
end House
end Go.Proofs
