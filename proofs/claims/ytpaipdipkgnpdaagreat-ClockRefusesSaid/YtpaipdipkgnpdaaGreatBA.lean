import Derived.Test.YtpaipdipkgnpdaaGreatAE8
import Derived.Test.YtpaipdipkgnpdaaGreatProg
section
namespace Go.Proofs
namespace ClockB
open Go Go.RowKit Go.Aev
set_option maxRecDepth 100000
abbrev J (n:Int):Value:=.int .i64 n
abbrev Q (i o:Nat):Value:=.pointer (some ⟨i,o,none⟩)
abbrev L (i o l c:Nat):Value:=.slice (some ⟨i,o,none⟩) l c
abbrev Z:Value:=.slice none 0 0
abbrev U:Value:=.chan (some 0)
abbrev A (l:List Value):Value:=.agg ⟨l⟩
def zE:Env:={ G:=0,orc:=noOrc }
theorem orcZ:∀ B w0,OrcOk B w0 Tryz.prog zE:=fun B w0=>⟨fun k args S v S' e=>by simp [zE,noOrc] at e,fun n b k args S v S' h e=>by simp [zE,noOrc] at e,fun k args S S2 e=>rfl,fun n b hb S S2 h h2 e=>agreeB_lc hb h h2 e⟩
def stopF (k:FuncId):Bool:=match k with
 | 23=>true
 | 34=>true
 | 44=>true
 | 36=>true
 | 45=>true
 | 48=>true
 | 58=>true
 | 59=>true
 | 62=>true
 | 67=>true
 | 33=>true
 | 80=>true
 | 89=>true
 | 109=>true
 | 81=>true
 | 111=>true
 | 127=>true
 | 149=>true
 | _=>false
theorem tabZ:TabOk Tryz.prog:=TabOk.of_check (by kernel_rfl)
theorem mixZ:Tryz.prog.follows .mixedOrders=true:=by kernel_rfl
theorem gNil:∀ en ∈ ([]:List En),EnGood Tryz.prog zE en:=fun en h=>by cases h
theorem gCons {en:En} {l:List En} (h:EnGood Tryz.prog zE en) (k:∀ en ∈ l,EnGood Tryz.prog zE en):∀ e ∈ en :: l,EnGood Tryz.prog zE e:=fun e he=>by
 rcases List.mem_cons.1 he with rfl|he
 ·exact h
 ·exact k e he
theorem gRun {en:En} {l:List En} {n:Nat} (k:∀ en ∈ l,EnGood Tryz.prog zE en) (h:enB (evR Tryz.prog zE stopF l n) en=true) (hn:∀ args S,zE.orc en.k args S=none:=by exact fun _ _=>rfl):EnGood Tryz.prog zE en:=EnGood.of_run tabZ mixZ orcZ k hn h
end ClockB
end Go.Proofs
end
section
set_option linter.unusedVariables false
namespace Go.Proofs
namespace ClockB
open Go Go.RowKit Go.Aev
set_option maxRecDepth 100000
def e0:En:=⟨127,[(A [(J 1),(J 1000),(J 1010),(J 5000),(J 6000),(J 0),(J 9),(J 4000),(J 4020),(J 1000000),(J 1000000),Z,(L 0 0 2 2),Z]),Z],[([(J 1),(J 1000),(J 1000),(J 2),(J 2000),(J 2005)],112,3,true)],(L 21 0 8 8),[(21,.cells [(J 0),(J 10),(J 1000),(J 1001),(J 2000),(J 2006),(J 4000),(J 4021)] 3 1 true false)]⟩
theorem e0_ok:EnGood Tryz.prog zE e0:=gRun (l:=[]) (n:=3000) (gNil) (by kernel_rfl)
end ClockB
end Go.Proofs
end
section
set_option linter.unusedVariables false
namespace Go.Proofs
namespace ClockB
open Go Go.RowKit Go.Aev
set_option maxRecDepth 100000
def e1:En:=⟨80,[(A [(J 1),(J 1000),(J 1010),(J 5000),(J 6000),(J 0),(J 9),(J 4000),(J 4020),(J 1000000),(J 1000000),Z,(L 0 0 2 2),Z]),Z],[([(J 1),(J 1000),(J 1000),(J 2),(J 2000),(J 2005)],112,3,true)],(A [(L 36 0 13 13),(.map (some 4)),(L 555 0 71 71)]),[(36,.cells [(J 0),(J 0),(J 1),(J 0),(J 2),(J 0),(J 3),(J 0),(J 3),(J 1),(J 4),(J 0),(J 4),(J 10),(J 4),(J 1000),(J 4),(J 1001),(J 4),(J 2000),(J 4),(J 2006),(J 4),(J 4000),(J 4),(J 4021)] 131 2 true false),(4,.mapb [((A [(J 0),(J 0)]),(J 0)),((A [(J 1),(J 0)]),(J 1)),((A [(J 2),(J 0)]),(J 2)),((A [(J 3),(J 0)]),(J 3)),((A [(J 3),(J 1)]),(J 4)),((A [(J 4),(J 0)]),(J 5)),((A [(J 4),(J 10)]),(J 6)),((A [(J 4),(J 1000)]),(J 7)),((A [(J 4),(J 1001)]),(J 8)),((A [(J 4),(J 2000)]),(J 9)),((A [(J 4),(J 2006)]),(J 10)),((A [(J 4),(J 4000)]),(J 11)),((A [(J 4),(J 4021)]),(J 12))] 13),(555,.cells [(J 0),(J 1),(J 1010),(J 1),(J 0),(J (-1000)),(J 0),(J 2),(J 6000),(J 2),(J 0),(J (-5000)),(J 3),(J 1),(J 0),(J 4),(J 3),(J 0),(J 2),(J 4),(J 0),(J 1),(J 5),(J 0),(J 6),(J 1),(J 0),(J 3),(J 7),(J 0),(J 8),(J 3),(J 0),(J 4),(J 9),(J 0),(J 10),(J 4),(J 0),(J 2),(J 11),(J 0),(J 12),(J 2),(J 0),(J 5),(J 6),(J 10),(J 6),(J 5),(J (-10)),(J 5),(J 7),(J 1000),(J 7),(J 5),(J (-1000)),(J 5),(J 8),(J 1001),(J 8),(J 5),(J (-1001)),(J 5),(J 9),(J 2000),(J 9),(J 5),(J (-2000)),(J 5),(J 10),(J 2006),(J 10),(J 5),(J (-2006)),(J 5),(J 11),(J 4000),(J 11),(J 5),(J (-4000)),(J 5),(J 12),(J 4021),(J 12),(J 5),(J (-4021)),(J 6),(J 7),(J 990),(J 7),(J 6),(J (-990)),(J 6),(J 8),(J 991),(J 8),(J 6),(J (-991)),(J 6),(J 9),(J 1990),(J 9),(J 6),(J (-1990)),(J 6),(J 10),(J 1996),(J 10),(J 6),(J (-1996)),(J 6),(J 11),(J 3990),(J 11),(J 6),(J (-3990)),(J 6),(J 12),(J 4011),(J 12),(J 6),(J (-4011)),(J 7),(J 8),(J 1),(J 8),(J 7),(J (-1)),(J 7),(J 9),(J 1000),(J 9),(J 7),(J (-1000)),(J 7),(J 10),(J 1006),(J 10),(J 7),(J (-1006)),(J 7),(J 11),(J 3000),(J 11),(J 7),(J (-3000)),(J 7),(J 12),(J 3021),(J 12),(J 7),(J (-3021)),(J 8),(J 9),(J 999),(J 9),(J 8),(J (-999)),(J 8),(J 10),(J 1005),(J 10),(J 8),(J (-1005)),(J 8),(J 11),(J 2999),(J 11),(J 8),(J (-2999)),(J 8),(J 12),(J 3020),(J 12),(J 8),(J (-3020)),(J 9),(J 10),(J 6),(J 10),(J 9),(J (-6)),(J 9),(J 11),(J 2000),(J 11),(J 9),(J (-2000)),(J 9),(J 12),(J 2021),(J 12),(J 9),(J (-2021)),(J 10),(J 11),(J 1994),(J 11),(J 10),(J (-1994)),(J 10),(J 12),(J 2015),(J 12),(J 10),(J (-2015)),(J 11),(J 12),(J 21),(J 12),(J 11),(J (-21))] 107 3 true false)]⟩
theorem e1_ok:EnGood Tryz.prog zE e1:=gRun (l:=[e0]) (n:=3000) (gCons e0_ok (gNil)) (by kernel_rfl)
end ClockB
end Go.Proofs
end
section
set_option linter.unusedVariables false
namespace Go.Proofs
namespace ClockB
open Go Go.RowKit Go.Aev
set_option maxRecDepth 100000
def e2:En:=⟨23,[(A [(J 1),(J 1000),(J 1010),(J 5000),(J 6000),(J 0),(J 9),(J 4000),(J 4020),(J 1000000),(J 1000000),Z,(L 0 0 2 2),Z])],[([(J 1),(J 1000),(J 1000),(J 2),(J 2000),(J 2005)],112,3,true)],(.tuple #[(L 24 0 71 71),(J 0)]),[(24,.cells [(J 0),(J 1),(J 1010),(J 1),(J 0),(J (-1000)),(J 0),(J 2),(J 6000),(J 2),(J 0),(J (-5000)),(J 3),(J 1),(J 0),(J 4),(J 3),(J 0),(J 2),(J 4),(J 0),(J 1),(J 5),(J 0),(J 6),(J 1),(J 0),(J 3),(J 7),(J 0),(J 8),(J 3),(J 0),(J 4),(J 9),(J 0),(J 10),(J 4),(J 0),(J 2),(J 11),(J 0),(J 12),(J 2),(J 0),(J 5),(J 6),(J 10),(J 6),(J 5),(J (-10)),(J 5),(J 7),(J 1000),(J 7),(J 5),(J (-1000)),(J 5),(J 8),(J 1001),(J 8),(J 5),(J (-1001)),(J 5),(J 9),(J 2000),(J 9),(J 5),(J (-2000)),(J 5),(J 10),(J 2006),(J 10),(J 5),(J (-2006)),(J 5),(J 11),(J 4000),(J 11),(J 5),(J (-4000)),(J 5),(J 12),(J 4021),(J 12),(J 5),(J (-4021)),(J 6),(J 7),(J 990),(J 7),(J 6),(J (-990)),(J 6),(J 8),(J 991),(J 8),(J 6),(J (-991)),(J 6),(J 9),(J 1990),(J 9),(J 6),(J (-1990)),(J 6),(J 10),(J 1996),(J 10),(J 6),(J (-1996)),(J 6),(J 11),(J 3990),(J 11),(J 6),(J (-3990)),(J 6),(J 12),(J 4011),(J 12),(J 6),(J (-4011)),(J 7),(J 8),(J 1),(J 8),(J 7),(J (-1)),(J 7),(J 9),(J 1000),(J 9),(J 7),(J (-1000)),(J 7),(J 10),(J 1006),(J 10),(J 7),(J (-1006)),(J 7),(J 11),(J 3000),(J 11),(J 7),(J (-3000)),(J 7),(J 12),(J 3021),(J 12),(J 7),(J (-3021)),(J 8),(J 9),(J 999),(J 9),(J 8),(J (-999)),(J 8),(J 10),(J 1005),(J 10),(J 8),(J (-1005)),(J 8),(J 11),(J 2999),(J 11),(J 8),(J (-2999)),(J 8),(J 12),(J 3020),(J 12),(J 8),(J (-3020)),(J 9),(J 10),(J 6),(J 10),(J 9),(J (-6)),(J 9),(J 11),(J 2000),(J 11),(J 9),(J (-2000)),(J 9),(J 12),(J 2021),(J 12),(J 9),(J (-2021)),(J 10),(J 11),(J 1994),(J 11),(J 10),(J (-1994)),(J 10),(J 12),(J 2015),(J 12),(J 10),(J (-2015)),(J 11),(J 12),(J 21),(J 12),(J 11),(J (-21))] 107 3 true false)]⟩
theorem e2_ok:EnGood Tryz.prog zE e2:=gRun (l:=[e1]) (n:=3000) (gCons e1_ok (gNil)) (by kernel_rfl)
end ClockB
end Go.Proofs
end
section
set_option linter.unusedVariables false
namespace Go.Proofs
namespace ClockB
open Go Go.RowKit Go.Aev
set_option maxRecDepth 100000
def e3:En:=⟨149,[(L 0 0 1 1),(J 13)],[([(J 1099511627776)],3,1,true)],(L 1 0 13 13),[(1,.cells [(J 1099511627776),(J 1099511627776),(J 1099511627776),(J 1099511627776),(J 1099511627776),(J 1099511627776),(J 1099511627776),(J 1099511627776),(J 1099511627776),(J 1099511627776),(J 1099511627776),(J 1099511627776),(J 1099511627776)] 3 1 true true)]⟩
theorem e3_ok:EnGood Tryz.prog zE e3:=gRun (l:=[]) (n:=3000) (gNil) (by kernel_rfl)
end ClockB
end Go.Proofs
end
section
set_option linter.unusedVariables false
namespace Go.Proofs
namespace ClockB
open Go Go.RowKit Go.Aev
set_option maxRecDepth 100000
def e4:En:=⟨149,[(L 0 0 1 1),(J 13)],[([(J (-1))],3,1,true)],(L 1 0 13 13),[(1,.cells [(J (-1)),(J (-1)),(J (-1)),(J (-1)),(J (-1)),(J (-1)),(J (-1)),(J (-1)),(J (-1)),(J (-1)),(J (-1)),(J (-1)),(J (-1))] 3 1 true true)]⟩
theorem e4_ok:EnGood Tryz.prog zE e4:=gRun (l:=[]) (n:=3000) (gNil) (by kernel_rfl)
end ClockB
end Go.Proofs
end
section
set_option linter.unusedVariables false
namespace Go.Proofs
namespace ClockB
open Go Go.RowKit Go.Aev
set_option maxRecDepth 100000
def e5:En:=⟨109,[(A [(L 0 0 13 13),U,(L 1 0 71 71)])],[([(J 0),(J 0),(J 1),(J 0),(J 2),(J 0),(J 3),(J 0),(J 3),(J 1),(J 4),(J 0),(J 4),(J 10),(J 4),(J 1000),(J 4),(J 1001),(J 4),(J 2000),(J 4),(J 2006),(J 4),(J 4000),(J 4),(J 4021)],131,2,false),([(J 0),(J 1),(J 1010),(J 1),(J 0),(J (-1000)),(J 0),(J 2),(J 6000),(J 2),(J 0),(J (-5000)),(J 3),(J 1),(J 0),(J 4),(J 3),(J 0),(J 2),(J 4),(J 0),(J 1),(J 5),(J 0),(J 6),(J 1),(J 0),(J 3),(J 7),(J 0),(J 8),(J 3),(J 0),(J 4),(J 9),(J 0),(J 10),(J 4),(J 0),(J 2),(J 11),(J 0),(J 12),(J 2),(J 0),(J 5),(J 6),(J 10),(J 6),(J 5),(J (-10)),(J 5),(J 7),(J 1000),(J 7),(J 5),(J (-1000)),(J 5),(J 8),(J 1001),(J 8),(J 5),(J (-1001)),(J 5),(J 9),(J 2000),(J 9),(J 5),(J (-2000)),(J 5),(J 10),(J 2006),(J 10),(J 5),(J (-2006)),(J 5),(J 11),(J 4000),(J 11),(J 5),(J (-4000)),(J 5),(J 12),(J 4021),(J 12),(J 5),(J (-4021)),(J 6),(J 7),(J 990),(J 7),(J 6),(J (-990)),(J 6),(J 8),(J 991),(J 8),(J 6),(J (-991)),(J 6),(J 9),(J 1990),(J 9),(J 6),(J (-1990)),(J 6),(J 10),(J 1996),(J 10),(J 6),(J (-1996)),(J 6),(J 11),(J 3990),(J 11),(J 6),(J (-3990)),(J 6),(J 12),(J 4011),(J 12),(J 6),(J (-4011)),(J 7),(J 8),(J 1),(J 8),(J 7),(J (-1)),(J 7),(J 9),(J 1000),(J 9),(J 7),(J (-1000)),(J 7),(J 10),(J 1006),(J 10),(J 7),(J (-1006)),(J 7),(J 11),(J 3000),(J 11),(J 7),(J (-3000)),(J 7),(J 12),(J 3021),(J 12),(J 7),(J (-3021)),(J 8),(J 9),(J 999),(J 9),(J 8),(J (-999)),(J 8),(J 10),(J 1005),(J 10),(J 8),(J (-1005)),(J 8),(J 11),(J 2999),(J 11),(J 8),(J (-2999)),(J 8),(J 12),(J 3020),(J 12),(J 8),(J (-3020)),(J 9),(J 10),(J 6),(J 10),(J 9),(J (-6)),(J 9),(J 11),(J 2000),(J 11),(J 9),(J (-2000)),(J 9),(J 12),(J 2021),(J 12),(J 9),(J (-2021)),(J 10),(J 11),(J 1994),(J 11),(J 10),(J (-1994)),(J 10),(J 12),(J 2015),(J 12),(J 10),(J (-2015)),(J 11),(J 12),(J 21),(J 12),(J 11),(J (-21))],107,3,false)],Z,[]⟩
theorem e5_ok:EnGood Tryz.prog zE e5:=gRun (l:=[e3,e4]) (n:=3000) (gCons e3_ok (gCons e4_ok (gNil))) (by kernel_rfl)
end ClockB
end Go.Proofs
end
