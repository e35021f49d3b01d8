import Derived.Test.YtpaipdipkgnpdaaGreatBA
import Derived.Test.YtpaipdipkgnpdaaGreatBB
import Derived.Test.YtpaipdipkgnpdaaGreatEvB17
import Derived.Test.YtpaipdipkgnpdaaGreatEvB7
section
set_option linter.unusedVariables false
namespace Go.Proofs
namespace ClockB
open Go Go.RowKit Go.Aev
set_option maxRecDepth 100000
def e17:En:=⟨45,[(A [(J 1),(J 1000),(J 1010),(J 5000),(J 6000),(J 0),(J 9),(J 4000),(J 4020),(J 1000000),(J 1000000),Z,(L 0 0 2 2),Z]),(J 500)],[([(J 1),(J 1000),(J 1000),(J 2),(J 2000),(J 2005)],112,3,true)],(.tuple #[(A [(J 1490),(J 1510)]),(J 0)]),[]⟩
theorem e17_ok:EnGood Tryz.prog zE e17:=gRun (l:=[e12,e16]) (n:=3000) (gCons e12_ok (gCons e16_ok (gNil))) (by kernel_rfl)
end ClockB
end Go.Proofs
end
section
set_option linter.unusedVariables false
namespace Go.Proofs
namespace ClockB
open Go Go.RowKit Go.Aev
set_option maxRecDepth 100000
def e18:En:=⟨48,[(A [(J 1),(J 1000),(J 1010),(J 5000),(J 6000),(J 0),(J 9),(J 4000),(J 4020),(J 1000000),(J 1000000),Z,(L 0 0 2 2),Z]),(L 1 0 2 2)],[([(J 1),(J 1000),(J 1000),(J 2),(J 2000),(J 2005)],112,3,true),([(J 2000),(J 3000)],3,1,true)],(.tuple #[(.bool true),(J 0)]),[]⟩
theorem e18_ok:EnGood Tryz.prog zE e18:=gRun (l:=[e1,e6]) (n:=3000) (gCons e1_ok (gCons e6_ok (gNil))) (by kernel_rfl)
end ClockB
end Go.Proofs
end
section
set_option linter.unusedVariables false
namespace Go.Proofs
namespace ClockB
open Go Go.RowKit Go.Aev
set_option maxRecDepth 100000
def e19:En:=⟨48,[(A [(J 1),(J 1000),(J 1010),(J 5000),(J 6000),(J 0),(J 9),(J 4000),(J 4020),(J 1000000),(J 1000000),Z,(L 0 0 2 2),Z]),(L 1 0 2 2)],[([(J 1),(J 1000),(J 1000),(J 2),(J 2000),(J 2005)],112,3,true),([(J 2000),(J 3007)],3,1,true)],(.tuple #[(.bool false),(J 0)]),[]⟩
theorem e19_ok:EnGood Tryz.prog zE e19:=gRun (l:=[e1,e6]) (n:=3000) (gCons e1_ok (gCons e6_ok (gNil))) (by kernel_rfl)
end ClockB
end Go.Proofs
end
section
set_option linter.unusedVariables false
namespace Go.Proofs
namespace ClockB
open Go Go.RowKit Go.Aev
set_option maxRecDepth 100000
def e20:En:=⟨127,[(A [(J 1),(J 1000),(J 1010),(J 5000),(J 6000),(J 0),(J 9),(J 4000),(J 4020),(J 1000000),(J 1000000),Z,(L 0 0 2 2),(L 1 0 1 1)]),Z],[([(J 1),(J 1000),(J 1000),(J 2),(J 2000),(J 2005)],112,3,true),([(J 1),(J 2100),(J 2200)],115,3,true)],(L 22 0 8 8),[(22,.cells [(J 0),(J 10),(J 1000),(J 1001),(J 2000),(J 2006),(J 4000),(J 4021)] 3 1 true false)]⟩
theorem e20_ok:EnGood Tryz.prog zE e20:=gRun (l:=[]) (n:=3000) (gNil) (by kernel_rfl)
end ClockB
end Go.Proofs
end
section
set_option linter.unusedVariables false
namespace Go.Proofs
namespace ClockB
open Go Go.RowKit Go.Aev
set_option maxRecDepth 100000
def e21:En:=⟨80,[(A [(J 1),(J 1000),(J 1010),(J 5000),(J 6000),(J 0),(J 9),(J 4000),(J 4020),(J 1000000),(J 1000000),Z,(L 0 0 2 2),(L 1 0 1 1)]),Z],[([(J 1),(J 1000),(J 1000),(J 2),(J 2000),(J 2005)],112,3,true),([(J 1),(J 2100),(J 2200)],115,3,true)],(A [(L 37 0 13 13),(.map (some 5)),(L 568 0 73 73)]),[(37,.cells [(J 0),(J 0),(J 1),(J 0),(J 2),(J 0),(J 3),(J 0),(J 3),(J 1),(J 4),(J 0),(J 4),(J 10),(J 4),(J 1000),(J 4),(J 1001),(J 4),(J 2000),(J 4),(J 2006),(J 4),(J 4000),(J 4),(J 4021)] 131 2 true false),(5,.mapb [((A [(J 0),(J 0)]),(J 0)),((A [(J 1),(J 0)]),(J 1)),((A [(J 2),(J 0)]),(J 2)),((A [(J 3),(J 0)]),(J 3)),((A [(J 3),(J 1)]),(J 4)),((A [(J 4),(J 0)]),(J 5)),((A [(J 4),(J 10)]),(J 6)),((A [(J 4),(J 1000)]),(J 7)),((A [(J 4),(J 1001)]),(J 8)),((A [(J 4),(J 2000)]),(J 9)),((A [(J 4),(J 2006)]),(J 10)),((A [(J 4),(J 4000)]),(J 11)),((A [(J 4),(J 4021)]),(J 12))] 13),(568,.cells [(J 0),(J 1),(J 1010),(J 1),(J 0),(J (-1000)),(J 0),(J 2),(J 6000),(J 2),(J 0),(J (-5000)),(J 0),(J 3),(J 2200),(J 3),(J 0),(J (-2100)),(J 3),(J 1),(J 0),(J 4),(J 3),(J 0),(J 2),(J 4),(J 0),(J 1),(J 5),(J 0),(J 6),(J 1),(J 0),(J 3),(J 7),(J 0),(J 8),(J 3),(J 0),(J 4),(J 9),(J 0),(J 10),(J 4),(J 0),(J 2),(J 11),(J 0),(J 12),(J 2),(J 0),(J 5),(J 6),(J 10),(J 6),(J 5),(J (-10)),(J 5),(J 7),(J 1000),(J 7),(J 5),(J (-1000)),(J 5),(J 8),(J 1001),(J 8),(J 5),(J (-1001)),(J 5),(J 9),(J 2000),(J 9),(J 5),(J (-2000)),(J 5),(J 10),(J 2006),(J 10),(J 5),(J (-2006)),(J 5),(J 11),(J 4000),(J 11),(J 5),(J (-4000)),(J 5),(J 12),(J 4021),(J 12),(J 5),(J (-4021)),(J 6),(J 7),(J 990),(J 7),(J 6),(J (-990)),(J 6),(J 8),(J 991),(J 8),(J 6),(J (-991)),(J 6),(J 9),(J 1990),(J 9),(J 6),(J (-1990)),(J 6),(J 10),(J 1996),(J 10),(J 6),(J (-1996)),(J 6),(J 11),(J 3990),(J 11),(J 6),(J (-3990)),(J 6),(J 12),(J 4011),(J 12),(J 6),(J (-4011)),(J 7),(J 8),(J 1),(J 8),(J 7),(J (-1)),(J 7),(J 9),(J 1000),(J 9),(J 7),(J (-1000)),(J 7),(J 10),(J 1006),(J 10),(J 7),(J (-1006)),(J 7),(J 11),(J 3000),(J 11),(J 7),(J (-3000)),(J 7),(J 12),(J 3021),(J 12),(J 7),(J (-3021)),(J 8),(J 9),(J 999),(J 9),(J 8),(J (-999)),(J 8),(J 10),(J 1005),(J 10),(J 8),(J (-1005)),(J 8),(J 11),(J 2999),(J 11),(J 8),(J (-2999)),(J 8),(J 12),(J 3020),(J 12),(J 8),(J (-3020)),(J 9),(J 10),(J 6),(J 10),(J 9),(J (-6)),(J 9),(J 11),(J 2000),(J 11),(J 9),(J (-2000)),(J 9),(J 12),(J 2021),(J 12),(J 9),(J (-2021)),(J 10),(J 11),(J 1994),(J 11),(J 10),(J (-1994)),(J 10),(J 12),(J 2015),(J 12),(J 10),(J (-2015)),(J 11),(J 12),(J 21),(J 12),(J 11),(J (-21))] 107 3 true false)]⟩
theorem e21_ok:EnGood Tryz.prog zE e21:=gRun (l:=[e20]) (n:=3000) (gCons e20_ok (gNil)) (by kernel_rfl)
end ClockB
end Go.Proofs
end
section
set_option linter.unusedVariables false
namespace Go.Proofs
namespace ClockB
open Go Go.RowKit Go.Aev
set_option maxRecDepth 100000
def e22:En:=⟨109,[(A [(L 0 0 13 13),U,(L 1 0 73 73)])],[([(J 0),(J 0),(J 1),(J 0),(J 2),(J 0),(J 3),(J 0),(J 3),(J 1),(J 4),(J 0),(J 4),(J 10),(J 4),(J 1000),(J 4),(J 1001),(J 4),(J 2000),(J 4),(J 2006),(J 4),(J 4000),(J 4),(J 4021)],131,2,false),([(J 0),(J 1),(J 1010),(J 1),(J 0),(J (-1000)),(J 0),(J 2),(J 6000),(J 2),(J 0),(J (-5000)),(J 0),(J 3),(J 2200),(J 3),(J 0),(J (-2100)),(J 3),(J 1),(J 0),(J 4),(J 3),(J 0),(J 2),(J 4),(J 0),(J 1),(J 5),(J 0),(J 6),(J 1),(J 0),(J 3),(J 7),(J 0),(J 8),(J 3),(J 0),(J 4),(J 9),(J 0),(J 10),(J 4),(J 0),(J 2),(J 11),(J 0),(J 12),(J 2),(J 0),(J 5),(J 6),(J 10),(J 6),(J 5),(J (-10)),(J 5),(J 7),(J 1000),(J 7),(J 5),(J (-1000)),(J 5),(J 8),(J 1001),(J 8),(J 5),(J (-1001)),(J 5),(J 9),(J 2000),(J 9),(J 5),(J (-2000)),(J 5),(J 10),(J 2006),(J 10),(J 5),(J (-2006)),(J 5),(J 11),(J 4000),(J 11),(J 5),(J (-4000)),(J 5),(J 12),(J 4021),(J 12),(J 5),(J (-4021)),(J 6),(J 7),(J 990),(J 7),(J 6),(J (-990)),(J 6),(J 8),(J 991),(J 8),(J 6),(J (-991)),(J 6),(J 9),(J 1990),(J 9),(J 6),(J (-1990)),(J 6),(J 10),(J 1996),(J 10),(J 6),(J (-1996)),(J 6),(J 11),(J 3990),(J 11),(J 6),(J (-3990)),(J 6),(J 12),(J 4011),(J 12),(J 6),(J (-4011)),(J 7),(J 8),(J 1),(J 8),(J 7),(J (-1)),(J 7),(J 9),(J 1000),(J 9),(J 7),(J (-1000)),(J 7),(J 10),(J 1006),(J 10),(J 7),(J (-1006)),(J 7),(J 11),(J 3000),(J 11),(J 7),(J (-3000)),(J 7),(J 12),(J 3021),(J 12),(J 7),(J (-3021)),(J 8),(J 9),(J 999),(J 9),(J 8),(J (-999)),(J 8),(J 10),(J 1005),(J 10),(J 8),(J (-1005)),(J 8),(J 11),(J 2999),(J 11),(J 8),(J (-2999)),(J 8),(J 12),(J 3020),(J 12),(J 8),(J (-3020)),(J 9),(J 10),(J 6),(J 10),(J 9),(J (-6)),(J 9),(J 11),(J 2000),(J 11),(J 9),(J (-2000)),(J 9),(J 12),(J 2021),(J 12),(J 9),(J (-2021)),(J 10),(J 11),(J 1994),(J 11),(J 10),(J (-1994)),(J 10),(J 12),(J 2015),(J 12),(J 10),(J (-2015)),(J 11),(J 12),(J 21),(J 12),(J 11),(J (-21))],107,3,false)],(L 551 0 5 5),[(551,.cells [(J 0),(J 9),(J 21),(J 12),(J 5)] 3 1 true false)]⟩
theorem e22_ok:EnGood Tryz.prog zE e22:=gRun (l:=[e3,e4]) (n:=3000) (gCons e3_ok (gCons e4_ok (gNil))) (by kernel_rfl)
end ClockB
end Go.Proofs
end
section
set_option linter.unusedVariables false
namespace Go.Proofs
namespace ClockB
open Go Go.RowKit Go.Aev
set_option maxRecDepth 100000
def e23:En:=⟨58,[(A [(J 1),(J 1000),(J 1010),(J 5000),(J 6000),(J 0),(J 9),(J 4000),(J 4020),(J 1000000),(J 1000000),Z,(L 0 0 2 2),(L 1 0 1 1)])],[([(J 1),(J 1000),(J 1000),(J 2),(J 2000),(J 2005)],112,3,true),([(J 1),(J 2100),(J 2200)],115,3,true)],(.tuple #[(L 31 0 5 5),(.bool true),(J 0)]),[(31,.cells [(J 0),(J 9),(J 21),(J 12),(J 5)] 3 1 true false)]⟩
theorem e23_ok:EnGood Tryz.prog zE e23:=gRun (l:=[e21,e22]) (n:=3000) (gCons e21_ok (gCons e22_ok (gNil))) (by kernel_rfl)
end ClockB
end Go.Proofs
end
section
set_option linter.unusedVariables false
namespace Go.Proofs
namespace ClockB
open Go Go.RowKit Go.Aev
set_option maxRecDepth 100000
def e24:En:=⟨81,[(A [(J 1),(J 1000),(J 1010),(J 5000),(J 6000),(J 0),(J 9),(J 4000),(J 4020),(J 1000000),(J 1000000),Z,(L 0 0 2 2),(L 1 0 1 1)]),(L 2 0 1 1)],[([(J 1),(J 1000),(J 1000),(J 2),(J 2000),(J 2005)],112,3,true),([(J 1),(J 2100),(J 2200)],115,3,true),([(J 1)],3,1,true)],(A [(J 1),(J 1000),(J 1010),(J 5000),(J 6000),(J 0),(J 9),(J 4000),(J 4020),(J 1000000),(J 1000000),Z,(L 7 0 1 2),(L 12 0 0 1)]),[(7,.cells [(J 2),(J 2000),(J 2005),(J 0),(J 0),(J 0)] 112 3 true false),(12,.cells [(J 0),(J 0),(J 0)] 115 3 true false)]⟩
theorem e24_ok:EnGood Tryz.prog zE e24:=gRun (l:=[]) (n:=3000) (gNil) (by kernel_rfl)
end ClockB
end Go.Proofs
end
section
set_option linter.unusedVariables false
namespace Go.Proofs
namespace ClockB
open Go Go.RowKit Go.Aev
set_option maxRecDepth 100000
def e25:En:=⟨127,[(A [(J 1),(J 1000),(J 1010),(J 5000),(J 6000),(J 0),(J 9),(J 4000),(J 4020),(J 1000000),(J 1000000),Z,(L 0 0 1 2),(L 1 0 0 1)]),Z],[([(J 2),(J 2000),(J 2005),(J 0),(J 0),(J 0)],112,3,false),([(J 0),(J 0),(J 0)],115,3,false)],(L 17 0 6 6),[(17,.cells [(J 0),(J 10),(J 2000),(J 2006),(J 4000),(J 4021)] 3 1 true false)]⟩
theorem e25_ok:EnGood Tryz.prog zE e25:=gRun (l:=[]) (n:=3000) (gNil) (by kernel_rfl)
end ClockB
end Go.Proofs
end
section
set_option linter.unusedVariables false
namespace Go.Proofs
namespace ClockB
open Go Go.RowKit Go.Aev
set_option maxRecDepth 100000
def e26:En:=⟨80,[(A [(J 1),(J 1000),(J 1010),(J 5000),(J 6000),(J 0),(J 9),(J 4000),(J 4020),(J 1000000),(J 1000000),Z,(L 0 0 1 2),(L 1 0 0 1)]),Z],[([(J 2),(J 2000),(J 2005),(J 0),(J 0),(J 0)],112,3,false),([(J 0),(J 0),(J 0)],115,3,false)],(A [(L 28 0 10 10),(.map (some 5)),(L 344 0 42 42)]),[(28,.cells [(J 0),(J 0),(J 1),(J 0),(J 2),(J 0),(J 3),(J 0),(J 4),(J 0),(J 4),(J 10),(J 4),(J 2000),(J 4),(J 2006),(J 4),(J 4000),(J 4),(J 4021)] 131 2 true false),(5,.mapb [((A [(J 0),(J 0)]),(J 0)),((A [(J 1),(J 0)]),(J 1)),((A [(J 2),(J 0)]),(J 2)),((A [(J 3),(J 0)]),(J 3)),((A [(J 4),(J 0)]),(J 4)),((A [(J 4),(J 10)]),(J 5)),((A [(J 4),(J 2000)]),(J 6)),((A [(J 4),(J 2006)]),(J 7)),((A [(J 4),(J 4000)]),(J 8)),((A [(J 4),(J 4021)]),(J 9))] 10),(344,.cells [(J 0),(J 1),(J 1010),(J 1),(J 0),(J (-1000)),(J 0),(J 2),(J 6000),(J 2),(J 0),(J (-5000)),(J 3),(J 1),(J 0),(J 2),(J 3),(J 0),(J 1),(J 4),(J 0),(J 5),(J 1),(J 0),(J 3),(J 6),(J 0),(J 7),(J 3),(J 0),(J 2),(J 8),(J 0),(J 9),(J 2),(J 0),(J 4),(J 5),(J 10),(J 5),(J 4),(J (-10)),(J 4),(J 6),(J 2000),(J 6),(J 4),(J (-2000)),(J 4),(J 7),(J 2006),(J 7),(J 4),(J (-2006)),(J 4),(J 8),(J 4000),(J 8),(J 4),(J (-4000)),(J 4),(J 9),(J 4021),(J 9),(J 4),(J (-4021)),(J 5),(J 6),(J 1990),(J 6),(J 5),(J (-1990)),(J 5),(J 7),(J 1996),(J 7),(J 5),(J (-1996)),(J 5),(J 8),(J 3990),(J 8),(J 5),(J (-3990)),(J 5),(J 9),(J 4011),(J 9),(J 5),(J (-4011)),(J 6),(J 7),(J 6),(J 7),(J 6),(J (-6)),(J 6),(J 8),(J 2000),(J 8),(J 6),(J (-2000)),(J 6),(J 9),(J 2021),(J 9),(J 6),(J (-2021)),(J 7),(J 8),(J 1994),(J 8),(J 7),(J (-1994)),(J 7),(J 9),(J 2015),(J 9),(J 7),(J (-2015)),(J 8),(J 9),(J 21),(J 9),(J 8),(J (-21))] 107 3 true false)]⟩
theorem e26_ok:EnGood Tryz.prog zE e26:=gRun (l:=[e25]) (n:=3000) (gCons e25_ok (gNil)) (by kernel_rfl)
end ClockB
end Go.Proofs
end
section
set_option linter.unusedVariables false
namespace Go.Proofs
namespace ClockB
open Go Go.RowKit Go.Aev
set_option maxRecDepth 100000
def e27:En:=⟨149,[(L 0 0 1 1),(J 10)],[([(J 1099511627776)],3,1,true)],(L 1 0 10 10),[(1,.cells [(J 1099511627776),(J 1099511627776),(J 1099511627776),(J 1099511627776),(J 1099511627776),(J 1099511627776),(J 1099511627776),(J 1099511627776),(J 1099511627776),(J 1099511627776)] 3 1 true true)]⟩
theorem e27_ok:EnGood Tryz.prog zE e27:=gRun (l:=[]) (n:=3000) (gNil) (by kernel_rfl)
end ClockB
end Go.Proofs
end
section
set_option linter.unusedVariables false
namespace Go.Proofs
namespace ClockB
open Go Go.RowKit Go.Aev
set_option maxRecDepth 100000
def e28:En:=⟨149,[(L 0 0 1 1),(J 10)],[([(J (-1))],3,1,true)],(L 1 0 10 10),[(1,.cells [(J (-1)),(J (-1)),(J (-1)),(J (-1)),(J (-1)),(J (-1)),(J (-1)),(J (-1)),(J (-1)),(J (-1))] 3 1 true true)]⟩
theorem e28_ok:EnGood Tryz.prog zE e28:=gRun (l:=[]) (n:=3000) (gNil) (by kernel_rfl)
end ClockB
end Go.Proofs
end
