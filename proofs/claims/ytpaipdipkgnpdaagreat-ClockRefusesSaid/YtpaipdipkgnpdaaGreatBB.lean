import Derived.Test.YtpaipdipkgnpdaaGreatBA
import Derived.Test.YtpaipdipkgnpdaaGreatEvB7
section
set_option linter.unusedVariables false
namespace Go.Proofs
namespace ClockB
open Go Go.RowKit Go.Aev
set_option maxRecDepth 100000
def e7:En:=⟨33,[(A [(J 1),(J 1000),(J 1010),(J 5000),(J 6000),(J 0),(J 9),(J 4000),(J 4020),(J 1000000),(J 1000000),Z,(L 0 0 2 2),Z])],[([(J 1),(J 1000),(J 1000),(J 2),(J 2000),(J 2005)],112,3,true)],(.tuple #[(L 25 0 13 13),(J 0)]),[(25,.cells [(L 26 0 13 13),(L 27 0 13 13),(L 28 0 13 13),(L 29 0 13 13),(L 30 0 13 13),(L 31 0 13 13),(L 32 0 13 13),(L 33 0 13 13),(L 34 0 13 13),(L 35 0 13 13),(L 36 0 13 13),(L 37 0 13 13),(L 38 0 13 13)] 31 1 true true),(26,.cells [(J 0),(J 1010),(J 5031),(J 2011),(J 3016),(J 1010),(J 1020),(J 2010),(J 2011),(J 3010),(J 3016),(J 5010),(J 5031)] 3 1 true true),(27,.cells [(J (-1000)),(J 0),(J 4021),(J 1001),(J 2006),(J 0),(J 10),(J 1000),(J 1001),(J 2000),(J 2006),(J 4000),(J 4021)] 3 1 true true),(28,.cells [(J (-5000)),(J (-3990)),(J 0),(J (-2999)),(J (-1994)),(J (-4000)),(J (-3990)),(J (-3000)),(J (-2999)),(J (-2000)),(J (-1994)),(J 0),(J 21)] 3 1 true true),(29,.cells [(J (-1990)),(J (-990)),(J 3021),(J 0),(J 1006),(J (-1000)),(J (-990)),(J 0),(J 1),(J 1000),(J 1006),(J 3000),(J 3021)] 3 1 true true),(30,.cells [(J (-2990)),(J (-1990)),(J 2021),(J (-999)),(J 0),(J (-2000)),(J (-1990)),(J (-1000)),(J (-999)),(J 0),(J 6),(J 2000),(J 2021)] 3 1 true true),(31,.cells [(J (-990)),(J 10),(J 4021),(J 1001),(J 2006),(J 0),(J 10),(J 1000),(J 1001),(J 2000),(J 2006),(J 4000),(J 4021)] 3 1 true true),(32,.cells [(J (-1000)),(J 0),(J 4011),(J 991),(J 1996),(J (-10)),(J 0),(J 990),(J 991),(J 1990),(J 1996),(J 3990),(J 4011)] 3 1 true true),(33,.cells [(J (-1990)),(J (-990)),(J 3021),(J 1),(J 1006),(J (-1000)),(J (-990)),(J 0),(J 1),(J 1000),(J 1006),(J 3000),(J 3021)] 3 1 true true),(34,.cells [(J (-1991)),(J (-991)),(J 3020),(J 0),(J 1005),(J (-1001)),(J (-991)),(J (-1)),(J 0),(J 999),(J 1005),(J 2999),(J 3020)] 3 1 true true),(35,.cells [(J (-2990)),(J (-1990)),(J 2021),(J (-999)),(J 6),(J (-2000)),(J (-1990)),(J (-1000)),(J (-999)),(J 0),(J 6),(J 2000),(J 2021)] 3 1 true true),(36,.cells [(J (-2996)),(J (-1996)),(J 2015),(J (-1005)),(J 0),(J (-2006)),(J (-1996)),(J (-1006)),(J (-1005)),(J (-6)),(J 0),(J 1994),(J 2015)] 3 1 true true),(37,.cells [(J (-4990)),(J (-3990)),(J 21),(J (-2999)),(J (-1994)),(J (-4000)),(J (-3990)),(J (-3000)),(J (-2999)),(J (-2000)),(J (-1994)),(J 0),(J 21)] 3 1 true true),(38,.cells [(J (-5011)),(J (-4011)),(J 0),(J (-3020)),(J (-2015)),(J (-4021)),(J (-4011)),(J (-3021)),(J (-3020)),(J (-2021)),(J (-2015)),(J (-21)),(J 0)] 3 1 true true)]⟩
theorem e7_ok:EnGood Tryz.prog zE e7:=gRun (l:=[e1,e6]) (n:=3000) (gCons e1_ok (gCons e6_ok (gNil))) (by kernel_rfl)
end ClockB
end Go.Proofs
end
section
set_option linter.unusedVariables false
namespace Go.Proofs
namespace ClockB
open Go Go.RowKit Go.Aev
set_option maxRecDepth 100000
def e8:En:=⟨34,[(A [(J 1),(J 1000),(J 1010),(J 5000),(J 6000),(J 0),(J 9),(J 4000),(J 4020),(J 1000000),(J 1000000),Z,(L 0 0 2 2),Z])],[([(J 1),(J 1000),(J 1000),(J 2),(J 2000),(J 2005)],112,3,true)],(.tuple #[(L 23 0 2 2),(J 0)]),[(23,.cells [(J 1990),(J 2011),(J 2990),(J 3016)] 23 2 true false)]⟩
theorem e8_ok:EnGood Tryz.prog zE e8:=gRun (l:=[e7]) (n:=3000) (gCons e7_ok (gNil)) (by kernel_rfl)
end ClockB
end Go.Proofs
end
section
set_option linter.unusedVariables false
namespace Go.Proofs
namespace ClockB
open Go Go.RowKit Go.Aev
set_option maxRecDepth 100000
def e9:En:=⟨44,[(A [(J 1),(J 1000),(J 1010),(J 5000),(J 6000),(J 0),(J 9),(J 4000),(J 4020),(J 1000000),(J 1000000),Z,(L 0 0 2 2),Z]),(J 0),(J 1)],[([(J 1),(J 1000),(J 1000),(J 2),(J 2000),(J 2005)],112,3,true)],(.tuple #[(A [(J 999),(J 1006)]),(J 0)]),[]⟩
theorem e9_ok:EnGood Tryz.prog zE e9:=gRun (l:=[e1,e6]) (n:=3000) (gCons e1_ok (gCons e6_ok (gNil))) (by kernel_rfl)
end ClockB
end Go.Proofs
end
section
set_option linter.unusedVariables false
namespace Go.Proofs
namespace ClockB
open Go Go.RowKit Go.Aev
set_option maxRecDepth 100000
def e10:En:=⟨36,[(A [(J 1),(J 1000),(J 1010),(J 5000),(J 6000),(J 0),(J 9),(J 4000),(J 4020),(J 1000000),(J 1000000),Z,(L 0 0 2 2),Z])],[([(J 1),(J 1000),(J 1000),(J 2),(J 2000),(J 2005)],112,3,true)],(.tuple #[(A [(J 5000),(J 5031)]),(J 0)]),[]⟩
theorem e10_ok:EnGood Tryz.prog zE e10:=gRun (l:=[e1,e6]) (n:=3000) (gCons e1_ok (gCons e6_ok (gNil))) (by kernel_rfl)
end ClockB
end Go.Proofs
end
section
set_option linter.unusedVariables false
namespace Go.Proofs
namespace ClockB
open Go Go.RowKit Go.Aev
set_option maxRecDepth 100000
def e11:En:=⟨127,[(A [(J 1),(J 1000),(J 1010),(J 5000),(J 6000),(J 0),(J 9),(J 4000),(J 4020),(J 1000000),(J 1000000),Z,(L 0 0 2 2),Z]),(L 1 0 1 1)],[([(J 1),(J 1000),(J 1000),(J 2),(J 2000),(J 2005)],112,3,true),([(J 500)],3,1,true)],(L 24 0 9 9),[(24,.cells [(J 0),(J 10),(J 500),(J 1000),(J 1001),(J 2000),(J 2006),(J 4000),(J 4021)] 3 1 true false)]⟩
theorem e11_ok:EnGood Tryz.prog zE e11:=gRun (l:=[]) (n:=3000) (gNil) (by kernel_rfl)
end ClockB
end Go.Proofs
end
section
set_option linter.unusedVariables false
namespace Go.Proofs
namespace ClockB
open Go Go.RowKit Go.Aev
set_option maxRecDepth 100000
def e12:En:=⟨80,[(A [(J 1),(J 1000),(J 1010),(J 5000),(J 6000),(J 0),(J 9),(J 4000),(J 4020),(J 1000000),(J 1000000),Z,(L 0 0 2 2),Z]),(L 1 0 1 1)],[([(J 1),(J 1000),(J 1000),(J 2),(J 2000),(J 2005)],112,3,true),([(J 500)],3,1,true)],(A [(L 40 0 14 14),(.map (some 5)),(L 672 0 87 87)]),[(40,.cells [(J 0),(J 0),(J 1),(J 0),(J 2),(J 0),(J 3),(J 0),(J 3),(J 1),(J 4),(J 0),(J 4),(J 10),(J 4),(J 500),(J 4),(J 1000),(J 4),(J 1001),(J 4),(J 2000),(J 4),(J 2006),(J 4),(J 4000),(J 4),(J 4021)] 131 2 true false),(5,.mapb [((A [(J 0),(J 0)]),(J 0)),((A [(J 1),(J 0)]),(J 1)),((A [(J 2),(J 0)]),(J 2)),((A [(J 3),(J 0)]),(J 3)),((A [(J 3),(J 1)]),(J 4)),((A [(J 4),(J 0)]),(J 5)),((A [(J 4),(J 10)]),(J 6)),((A [(J 4),(J 500)]),(J 7)),((A [(J 4),(J 1000)]),(J 8)),((A [(J 4),(J 1001)]),(J 9)),((A [(J 4),(J 2000)]),(J 10)),((A [(J 4),(J 2006)]),(J 11)),((A [(J 4),(J 4000)]),(J 12)),((A [(J 4),(J 4021)]),(J 13))] 14),(672,.cells [(J 0),(J 1),(J 1010),(J 1),(J 0),(J (-1000)),(J 0),(J 2),(J 6000),(J 2),(J 0),(J (-5000)),(J 3),(J 1),(J 0),(J 4),(J 3),(J 0),(J 2),(J 4),(J 0),(J 1),(J 5),(J 0),(J 6),(J 1),(J 0),(J 3),(J 8),(J 0),(J 9),(J 3),(J 0),(J 4),(J 10),(J 0),(J 11),(J 4),(J 0),(J 2),(J 12),(J 0),(J 13),(J 2),(J 0),(J 5),(J 6),(J 10),(J 6),(J 5),(J (-10)),(J 5),(J 7),(J 500),(J 7),(J 5),(J (-500)),(J 5),(J 8),(J 1000),(J 8),(J 5),(J (-1000)),(J 5),(J 9),(J 1001),(J 9),(J 5),(J (-1001)),(J 5),(J 10),(J 2000),(J 10),(J 5),(J (-2000)),(J 5),(J 11),(J 2006),(J 11),(J 5),(J (-2006)),(J 5),(J 12),(J 4000),(J 12),(J 5),(J (-4000)),(J 5),(J 13),(J 4021),(J 13),(J 5),(J (-4021)),(J 6),(J 7),(J 490),(J 7),(J 6),(J (-490)),(J 6),(J 8),(J 990),(J 8),(J 6),(J (-990)),(J 6),(J 9),(J 991),(J 9),(J 6),(J (-991)),(J 6),(J 10),(J 1990),(J 10),(J 6),(J (-1990)),(J 6),(J 11),(J 1996),(J 11),(J 6),(J (-1996)),(J 6),(J 12),(J 3990),(J 12),(J 6),(J (-3990)),(J 6),(J 13),(J 4011),(J 13),(J 6),(J (-4011)),(J 7),(J 8),(J 500),(J 8),(J 7),(J (-500)),(J 7),(J 9),(J 501),(J 9),(J 7),(J (-501)),(J 7),(J 10),(J 1500),(J 10),(J 7),(J (-1500)),(J 7),(J 11),(J 1506),(J 11),(J 7),(J (-1506)),(J 7),(J 12),(J 3500),(J 12),(J 7),(J (-3500)),(J 7),(J 13),(J 3521),(J 13),(J 7),(J (-3521)),(J 8),(J 9),(J 1),(J 9),(J 8),(J (-1)),(J 8),(J 10),(J 1000),(J 10),(J 8),(J (-1000)),(J 8),(J 11),(J 1006),(J 11),(J 8),(J (-1006)),(J 8),(J 12),(J 3000),(J 12),(J 8),(J (-3000)),(J 8),(J 13),(J 3021),(J 13),(J 8),(J (-3021)),(J 9),(J 10),(J 999),(J 10),(J 9),(J (-999)),(J 9),(J 11),(J 1005),(J 11),(J 9),(J (-1005)),(J 9),(J 12),(J 2999),(J 12),(J 9),(J (-2999)),(J 9),(J 13),(J 3020),(J 13),(J 9),(J (-3020)),(J 10),(J 11),(J 6),(J 11),(J 10),(J (-6)),(J 10),(J 12),(J 2000),(J 12),(J 10),(J (-2000)),(J 10),(J 13),(J 2021),(J 13),(J 10),(J (-2021)),(J 11),(J 12),(J 1994),(J 12),(J 11),(J (-1994)),(J 11),(J 13),(J 2015),(J 13),(J 11),(J (-2015)),(J 12),(J 13),(J 21),(J 13),(J 12),(J (-21))] 107 3 true false)]⟩
theorem e12_ok:EnGood Tryz.prog zE e12:=gRun (l:=[e11]) (n:=3000) (gCons e11_ok (gNil)) (by kernel_rfl)
end ClockB
end Go.Proofs
end
section
set_option linter.unusedVariables false
namespace Go.Proofs
namespace ClockB
open Go Go.RowKit Go.Aev
set_option maxRecDepth 100000
def e13:En:=⟨149,[(L 0 0 1 1),(J 14)],[([(J 1099511627776)],3,1,true)],(L 1 0 14 14),[(1,.cells [(J 1099511627776),(J 1099511627776),(J 1099511627776),(J 1099511627776),(J 1099511627776),(J 1099511627776),(J 1099511627776),(J 1099511627776),(J 1099511627776),(J 1099511627776),(J 1099511627776),(J 1099511627776),(J 1099511627776),(J 1099511627776)] 3 1 true true)]⟩
theorem e13_ok:EnGood Tryz.prog zE e13:=gRun (l:=[]) (n:=3000) (gNil) (by kernel_rfl)
end ClockB
end Go.Proofs
end
section
set_option linter.unusedVariables false
namespace Go.Proofs
namespace ClockB
open Go Go.RowKit Go.Aev
set_option maxRecDepth 100000
def e14:En:=⟨149,[(L 0 0 1 1),(J 14)],[([(J (-1))],3,1,true)],(L 1 0 14 14),[(1,.cells [(J (-1)),(J (-1)),(J (-1)),(J (-1)),(J (-1)),(J (-1)),(J (-1)),(J (-1)),(J (-1)),(J (-1)),(J (-1)),(J (-1)),(J (-1)),(J (-1))] 3 1 true true)]⟩
theorem e14_ok:EnGood Tryz.prog zE e14:=gRun (l:=[]) (n:=3000) (gNil) (by kernel_rfl)
end ClockB
end Go.Proofs
end
section
set_option linter.unusedVariables false
namespace Go.Proofs
namespace ClockB
open Go Go.RowKit Go.Aev
set_option maxRecDepth 100000
def e15:En:=⟨109,[(A [(L 0 0 14 14),U,(L 1 0 87 87)])],[([(J 0),(J 0),(J 1),(J 0),(J 2),(J 0),(J 3),(J 0),(J 3),(J 1),(J 4),(J 0),(J 4),(J 10),(J 4),(J 500),(J 4),(J 1000),(J 4),(J 1001),(J 4),(J 2000),(J 4),(J 2006),(J 4),(J 4000),(J 4),(J 4021)],131,2,false),([(J 0),(J 1),(J 1010),(J 1),(J 0),(J (-1000)),(J 0),(J 2),(J 6000),(J 2),(J 0),(J (-5000)),(J 3),(J 1),(J 0),(J 4),(J 3),(J 0),(J 2),(J 4),(J 0),(J 1),(J 5),(J 0),(J 6),(J 1),(J 0),(J 3),(J 8),(J 0),(J 9),(J 3),(J 0),(J 4),(J 10),(J 0),(J 11),(J 4),(J 0),(J 2),(J 12),(J 0),(J 13),(J 2),(J 0),(J 5),(J 6),(J 10),(J 6),(J 5),(J (-10)),(J 5),(J 7),(J 500),(J 7),(J 5),(J (-500)),(J 5),(J 8),(J 1000),(J 8),(J 5),(J (-1000)),(J 5),(J 9),(J 1001),(J 9),(J 5),(J (-1001)),(J 5),(J 10),(J 2000),(J 10),(J 5),(J (-2000)),(J 5),(J 11),(J 2006),(J 11),(J 5),(J (-2006)),(J 5),(J 12),(J 4000),(J 12),(J 5),(J (-4000)),(J 5),(J 13),(J 4021),(J 13),(J 5),(J (-4021)),(J 6),(J 7),(J 490),(J 7),(J 6),(J (-490)),(J 6),(J 8),(J 990),(J 8),(J 6),(J (-990)),(J 6),(J 9),(J 991),(J 9),(J 6),(J (-991)),(J 6),(J 10),(J 1990),(J 10),(J 6),(J (-1990)),(J 6),(J 11),(J 1996),(J 11),(J 6),(J (-1996)),(J 6),(J 12),(J 3990),(J 12),(J 6),(J (-3990)),(J 6),(J 13),(J 4011),(J 13),(J 6),(J (-4011)),(J 7),(J 8),(J 500),(J 8),(J 7),(J (-500)),(J 7),(J 9),(J 501),(J 9),(J 7),(J (-501)),(J 7),(J 10),(J 1500),(J 10),(J 7),(J (-1500)),(J 7),(J 11),(J 1506),(J 11),(J 7),(J (-1506)),(J 7),(J 12),(J 3500),(J 12),(J 7),(J (-3500)),(J 7),(J 13),(J 3521),(J 13),(J 7),(J (-3521)),(J 8),(J 9),(J 1),(J 9),(J 8),(J (-1)),(J 8),(J 10),(J 1000),(J 10),(J 8),(J (-1000)),(J 8),(J 11),(J 1006),(J 11),(J 8),(J (-1006)),(J 8),(J 12),(J 3000),(J 12),(J 8),(J (-3000)),(J 8),(J 13),(J 3021),(J 13),(J 8),(J (-3021)),(J 9),(J 10),(J 999),(J 10),(J 9),(J (-999)),(J 9),(J 11),(J 1005),(J 11),(J 9),(J (-1005)),(J 9),(J 12),(J 2999),(J 12),(J 9),(J (-2999)),(J 9),(J 13),(J 3020),(J 13),(J 9),(J (-3020)),(J 10),(J 11),(J 6),(J 11),(J 10),(J (-6)),(J 10),(J 12),(J 2000),(J 12),(J 10),(J (-2000)),(J 10),(J 13),(J 2021),(J 13),(J 10),(J (-2021)),(J 11),(J 12),(J 1994),(J 12),(J 11),(J (-1994)),(J 11),(J 13),(J 2015),(J 13),(J 11),(J (-2015)),(J 12),(J 13),(J 21),(J 13),(J 12),(J (-21))],107,3,false)],Z,[]⟩
theorem e15_ok:EnGood Tryz.prog zE e15:=gRun (l:=[e13,e14]) (n:=3000) (gCons e13_ok (gCons e14_ok (gNil))) (by kernel_rfl)
end ClockB
end Go.Proofs
end
