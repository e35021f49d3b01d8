import Derived.Test.YtohfdkdjfoonjaaGreatDoorEvH4
set_option linter.unusedSimpArgs false
set_option linter.unusedVariables false
namespace Go.Proofs
namespace House
open Go Go.RowKit Go.Aev
set_option maxRecDepth 100000
theorem tz47:szOf Tryz.prog 47=some 1:=by kernel_rfl
theorem tt47:inTab Tryz.prog 47=true:=by kernel_rfl
theorem t0_47:zeroOf Tryz.prog 47=some (.slice none 0 0):=by kernel_rfl
theorem tz93:szOf Tryz.prog 93=some 3:=by kernel_rfl
theorem tt93:inTab Tryz.prog 93=true:=by kernel_rfl
theorem t0_93:zeroOf Tryz.prog 93=some (.agg #[.int .i64 0,.bool false,.int .i64 0]):=by kernel_rfl
theorem tz94:szOf Tryz.prog 94=some 3:=by kernel_rfl
theorem tt94:inTab Tryz.prog 94=true:=by kernel_rfl
theorem t0_94:zeroOf Tryz.prog 94=some (.agg #[.int .i64 0,.bool false,.int .i64 0]):=by kernel_rfl
theorem tz127:szOf Tryz.prog 127=some 5:=by kernel_rfl
theorem tt127:inTab Tryz.prog 127=true:=by kernel_rfl
theorem t0_127:zeroOf Tryz.prog 127=some (.agg #[.int .i64 0,.int .i64 0,.int .i64 0,.int .i64 0,.int .i64 0]):=by kernel_rfl
theorem tz128:szOf Tryz.prog 128=some 5:=by kernel_rfl
theorem tt128:inTab Tryz.prog 128=true:=by kernel_rfl
theorem t0_128:zeroOf Tryz.prog 128=some (.agg #[.int .i64 0,.int .i64 0,.int .i64 0,.int .i64 0,.int .i64 0]):=by kernel_rfl
theorem TY_EvH5:type_of% (And.intro TY_EvH4 (And.intro (And.intro (And.intro (And.intro Tryz.underlying47 tz47) (And.intro tt47 (And.intro t0_47 Tryz.underlying93))) (And.intro (And.intro tz93 tt93) (And.intro t0_93 (And.intro Tryz.underlying94 tz94)))) (And.intro (And.intro (And.intro tt94 t0_94) (And.intro Tryz.underlying127 (And.intro tz127 tt127))) (And.intro (And.intro t0_127 Tryz.underlying128) (And.intro tz128 (And.intro tt128 t0_128)))))):=(And.intro TY_EvH4 (And.intro (And.intro (And.intro (And.intro Tryz.underlying47 tz47) (And.intro tt47 (And.intro t0_47 Tryz.underlying93))) (And.intro (And.intro tz93 tt93) (And.intro t0_93 (And.intro Tryz.underlying94 tz94)))) (And.intro (And.intro (And.intro tt94 t0_94) (And.intro Tryz.underlying127 (And.intro tz127 tt127))) (And.intro (And.intro t0_127 Tryz.underlying128) (And.intro tz128 (And.intro tt128 t0_128))))))
instance:Inhabited Stp:=⟨⟨0,false,0⟩⟩
def R89_0 (d:Dr) (ti:Int)  : Nat→Int→Sum (Int) (Unit)
 | 0,tv=>.inr ()
 | m'+1,tv=>(if tv≤1073741823 then (if (r137 (d.shut:List Sp) (r136 (d.hours:List Sp) tv)).2=true then (if ((((r137 (d.shut:List Sp) (r136 (d.hours:List Sp) tv)).1).2)+1)=tv then .inl tv else R89_0 d ti m' ((((r137 (d.shut:List Sp) (r136 (d.hours:List Sp) tv)).1).2)+1)) else (if (r136 (d.hours:List Sp) tv)=tv then .inl tv else R89_0 d ti m' (r136 (d.hours:List Sp) tv))) else .inr ())
def r89 (d:Dr) (ti:Int):Int:=(onSum (R89_0 d ti ((1073741824 - ti).toNat+1) ti) (fun (r4:Int)=>r4) (fun (_:Unit)=>1073741824))
def R134_0 (l:List Sp) (n:Int)  : List Sp→Nat→Sum (Bool) (Unit)
 | [],k=>.inr ()
 | x1 :: l',k=>(if (r71 n x1.lo x1.hi)=true then .inl true else R134_0 l n l' (k+1))
def r134 (l:List Sp) (n:Int):Bool:=(onSum (R134_0 l n l 0) (fun (r4:Bool)=>r4) (fun (_:Unit)=>false))
def r86 (d:Dr) (ti:Int):Bool:=(if (r134 (d.hours:List Sp) (Int.tmod ti 86400))=true then !(r134 (d.shut:List Sp) ti) else false)
theorem r84_false {h:Hs}:¬ r84 h false=0:=by
 intro e
 unfold r84 at e
 split at e
 ·simp at e
 ·exact absurd e (by assumption)
theorem r84_ok {h:Hs} {b:Bool} (e:r84 h b=0):r59 h=0∧b=true:=by
 unfold r84 at e
 rw [check_eq] at e
 unfold r59
 split at e
 ·split at e
  ·exact ⟨by assumption,by assumption⟩
  ·simp at e
 ·exact absurd e (by assumption)
def r98 (h:Hs) (n:Int) (back:Bool) (ti:Int):(Int × Int × Int × Int × Int) × Int:=(if (r59 h)=0 then (if (r71 n 0 ((h.ways.length:Int) - 1))=true then (if (r69 ti)=true then (if back=true then (if ((lget h.ways (Int.toNat n)).back)=0 then ((0,0,0,0,0),5) else ((n,(lget h.ways (Int.toNat n)).b,(lget h.ways (Int.toNat n)).a,(lget h.ways (Int.toNat n)).back,(lget h.ways (Int.toNat n)).door),0)) else ((n,(lget h.ways (Int.toNat n)).a,(lget h.ways (Int.toNat n)).b,(lget h.ways (Int.toNat n)).secs,(lget h.ways (Int.toNat n)).door),0)) else ((0,0,0,0,0),1)) else ((0,0,0,0,0),1)) else ((0,0,0,0,0),(r59 h)))
end House
end Go.Proofs
