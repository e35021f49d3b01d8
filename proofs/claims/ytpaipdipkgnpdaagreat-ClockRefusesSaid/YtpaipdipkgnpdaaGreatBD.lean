import Derived.Test.YtpaipdipkgnpdaaGreatBA
import Derived.Test.YtpaipdipkgnpdaaGreatBC
import Derived.Test.YtpaipdipkgnpdaaGreatBB
section
set_option linter.unusedVariables false
namespace Go.Proofs
namespace ClockB
open Go Go.RowKit Go.Aev
set_option maxRecDepth 100000
def e29:En:=⟨109,[(A [(L 0 0 10 10),U,(L 1 0 42 42)])],[([(J 0),(J 0),(J 1),(J 0),(J 2),(J 0),(J 3),(J 0),(J 4),(J 0),(J 4),(J 10),(J 4),(J 2000),(J 4),(J 2006),(J 4),(J 4000),(J 4),(J 4021)],131,2,false),([(J 0),(J 1),(J 1010),(J 1),(J 0),(J (-1000)),(J 0),(J 2),(J 6000),(J 2),(J 0),(J (-5000)),(J 3),(J 1),(J 0),(J 2),(J 3),(J 0),(J 1),(J 4),(J 0),(J 5),(J 1),(J 0),(J 3),(J 6),(J 0),(J 7),(J 3),(J 0),(J 2),(J 8),(J 0),(J 9),(J 2),(J 0),(J 4),(J 5),(J 10),(J 5),(J 4),(J (-10)),(J 4),(J 6),(J 2000),(J 6),(J 4),(J (-2000)),(J 4),(J 7),(J 2006),(J 7),(J 4),(J (-2006)),(J 4),(J 8),(J 4000),(J 8),(J 4),(J (-4000)),(J 4),(J 9),(J 4021),(J 9),(J 4),(J (-4021)),(J 5),(J 6),(J 1990),(J 6),(J 5),(J (-1990)),(J 5),(J 7),(J 1996),(J 7),(J 5),(J (-1996)),(J 5),(J 8),(J 3990),(J 8),(J 5),(J (-3990)),(J 5),(J 9),(J 4011),(J 9),(J 5),(J (-4011)),(J 6),(J 7),(J 6),(J 7),(J 6),(J (-6)),(J 6),(J 8),(J 2000),(J 8),(J 6),(J (-2000)),(J 6),(J 9),(J 2021),(J 9),(J 6),(J (-2021)),(J 7),(J 8),(J 1994),(J 8),(J 7),(J (-1994)),(J 7),(J 9),(J 2015),(J 9),(J 7),(J (-2015)),(J 8),(J 9),(J 21),(J 9),(J 8),(J (-21))],107,3,false)],Z,[]⟩
theorem e29_ok:EnGood Tryz.prog zE e29:=gRun (l:=[e27,e28]) (n:=3000) (gCons e27_ok (gCons e28_ok (gNil))) (by kernel_rfl)
end ClockB
end Go.Proofs
end
section
set_option linter.unusedVariables false
namespace Go.Proofs
namespace ClockB
open Go Go.RowKit Go.Aev
set_option maxRecDepth 100000
def e30:En:=⟨81,[(A [(J 1),(J 1000),(J 1010),(J 5000),(J 6000),(J 0),(J 9),(J 4000),(J 4020),(J 1000000),(J 1000000),Z,(L 0 0 2 2),(L 1 0 1 1)]),(L 2 0 1 1)],[([(J 1),(J 1000),(J 1000),(J 2),(J 2000),(J 2005)],112,3,true),([(J 1),(J 2100),(J 2200)],115,3,true),([(J 2)],3,1,true)],(A [(J 1),(J 1000),(J 1010),(J 5000),(J 6000),(J 0),(J 9),(J 4000),(J 4020),(J 1000000),(J 1000000),Z,(L 7 0 1 2),(L 11 0 1 1)]),[(7,.cells [(J 1),(J 1000),(J 1000),(J 0),(J 0),(J 0)] 112 3 true false),(11,.cells [(J 1),(J 2100),(J 2200)] 115 3 true false)]⟩
theorem e30_ok:EnGood Tryz.prog zE e30:=gRun (l:=[]) (n:=3000) (gNil) (by kernel_rfl)
end ClockB
end Go.Proofs
end
section
set_option linter.unusedVariables false
namespace Go.Proofs
namespace ClockB
open Go Go.RowKit Go.Aev
set_option maxRecDepth 100000
def e31:En:=⟨127,[(A [(J 1),(J 1000),(J 1010),(J 5000),(J 6000),(J 0),(J 9),(J 4000),(J 4020),(J 1000000),(J 1000000),Z,(L 0 0 1 2),(L 1 0 1 1)]),Z],[([(J 1),(J 1000),(J 1000),(J 0),(J 0),(J 0)],112,3,false),([(J 1),(J 2100),(J 2200)],115,3,false)],(L 17 0 6 6),[(17,.cells [(J 0),(J 10),(J 1000),(J 1001),(J 4000),(J 4021)] 3 1 true false)]⟩
theorem e31_ok:EnGood Tryz.prog zE e31:=gRun (l:=[]) (n:=3000) (gNil) (by kernel_rfl)
end ClockB
end Go.Proofs
end
section
set_option linter.unusedVariables false
namespace Go.Proofs
namespace ClockB
open Go Go.RowKit Go.Aev
set_option maxRecDepth 100000
def e32:En:=⟨80,[(A [(J 1),(J 1000),(J 1010),(J 5000),(J 6000),(J 0),(J 9),(J 4000),(J 4020),(J 1000000),(J 1000000),Z,(L 0 0 1 2),(L 1 0 1 1)]),Z],[([(J 1),(J 1000),(J 1000),(J 0),(J 0),(J 0)],112,3,false),([(J 1),(J 2100),(J 2200)],115,3,false)],(A [(L 28 0 10 10),(.map (some 5)),(L 356 0 44 44)]),[(28,.cells [(J 0),(J 0),(J 1),(J 0),(J 2),(J 0),(J 3),(J 0),(J 4),(J 0),(J 4),(J 10),(J 4),(J 1000),(J 4),(J 1001),(J 4),(J 4000),(J 4),(J 4021)] 131 2 true false),(5,.mapb [((A [(J 0),(J 0)]),(J 0)),((A [(J 1),(J 0)]),(J 1)),((A [(J 2),(J 0)]),(J 2)),((A [(J 3),(J 0)]),(J 3)),((A [(J 4),(J 0)]),(J 4)),((A [(J 4),(J 10)]),(J 5)),((A [(J 4),(J 1000)]),(J 6)),((A [(J 4),(J 1001)]),(J 7)),((A [(J 4),(J 4000)]),(J 8)),((A [(J 4),(J 4021)]),(J 9))] 10),(356,.cells [(J 0),(J 1),(J 1010),(J 1),(J 0),(J (-1000)),(J 0),(J 2),(J 6000),(J 2),(J 0),(J (-5000)),(J 0),(J 3),(J 2200),(J 3),(J 0),(J (-2100)),(J 3),(J 1),(J 0),(J 2),(J 3),(J 0),(J 1),(J 4),(J 0),(J 5),(J 1),(J 0),(J 3),(J 6),(J 0),(J 7),(J 3),(J 0),(J 2),(J 8),(J 0),(J 9),(J 2),(J 0),(J 4),(J 5),(J 10),(J 5),(J 4),(J (-10)),(J 4),(J 6),(J 1000),(J 6),(J 4),(J (-1000)),(J 4),(J 7),(J 1001),(J 7),(J 4),(J (-1001)),(J 4),(J 8),(J 4000),(J 8),(J 4),(J (-4000)),(J 4),(J 9),(J 4021),(J 9),(J 4),(J (-4021)),(J 5),(J 6),(J 990),(J 6),(J 5),(J (-990)),(J 5),(J 7),(J 991),(J 7),(J 5),(J (-991)),(J 5),(J 8),(J 3990),(J 8),(J 5),(J (-3990)),(J 5),(J 9),(J 4011),(J 9),(J 5),(J (-4011)),(J 6),(J 7),(J 1),(J 7),(J 6),(J (-1)),(J 6),(J 8),(J 3000),(J 8),(J 6),(J (-3000)),(J 6),(J 9),(J 3021),(J 9),(J 6),(J (-3021)),(J 7),(J 8),(J 2999),(J 8),(J 7),(J (-2999)),(J 7),(J 9),(J 3020),(J 9),(J 7),(J (-3020)),(J 8),(J 9),(J 21),(J 9),(J 8),(J (-21))] 107 3 true false)]⟩
theorem e32_ok:EnGood Tryz.prog zE e32:=gRun (l:=[e31]) (n:=3000) (gCons e31_ok (gNil)) (by kernel_rfl)
end ClockB
end Go.Proofs
end
section
set_option linter.unusedVariables false
namespace Go.Proofs
namespace ClockB
open Go Go.RowKit Go.Aev
set_option maxRecDepth 100000
def e33:En:=⟨109,[(A [(L 0 0 10 10),U,(L 1 0 44 44)])],[([(J 0),(J 0),(J 1),(J 0),(J 2),(J 0),(J 3),(J 0),(J 4),(J 0),(J 4),(J 10),(J 4),(J 1000),(J 4),(J 1001),(J 4),(J 4000),(J 4),(J 4021)],131,2,false),([(J 0),(J 1),(J 1010),(J 1),(J 0),(J (-1000)),(J 0),(J 2),(J 6000),(J 2),(J 0),(J (-5000)),(J 0),(J 3),(J 2200),(J 3),(J 0),(J (-2100)),(J 3),(J 1),(J 0),(J 2),(J 3),(J 0),(J 1),(J 4),(J 0),(J 5),(J 1),(J 0),(J 3),(J 6),(J 0),(J 7),(J 3),(J 0),(J 2),(J 8),(J 0),(J 9),(J 2),(J 0),(J 4),(J 5),(J 10),(J 5),(J 4),(J (-10)),(J 4),(J 6),(J 1000),(J 6),(J 4),(J (-1000)),(J 4),(J 7),(J 1001),(J 7),(J 4),(J (-1001)),(J 4),(J 8),(J 4000),(J 8),(J 4),(J (-4000)),(J 4),(J 9),(J 4021),(J 9),(J 4),(J (-4021)),(J 5),(J 6),(J 990),(J 6),(J 5),(J (-990)),(J 5),(J 7),(J 991),(J 7),(J 5),(J (-991)),(J 5),(J 8),(J 3990),(J 8),(J 5),(J (-3990)),(J 5),(J 9),(J 4011),(J 9),(J 5),(J (-4011)),(J 6),(J 7),(J 1),(J 7),(J 6),(J (-1)),(J 6),(J 8),(J 3000),(J 8),(J 6),(J (-3000)),(J 6),(J 9),(J 3021),(J 9),(J 6),(J (-3021)),(J 7),(J 8),(J 2999),(J 8),(J 7),(J (-2999)),(J 7),(J 9),(J 3020),(J 9),(J 7),(J (-3020)),(J 8),(J 9),(J 21),(J 9),(J 8),(J (-21))],107,3,false)],(L 370 0 5 5),[(370,.cells [(J 0),(J 8),(J 18),(J 11),(J 5)] 3 1 true false)]⟩
theorem e33_ok:EnGood Tryz.prog zE e33:=gRun (l:=[e27,e28]) (n:=3000) (gCons e27_ok (gCons e28_ok (gNil))) (by kernel_rfl)
end ClockB
end Go.Proofs
end
section
set_option linter.unusedVariables false
namespace Go.Proofs
namespace ClockB
open Go Go.RowKit Go.Aev
set_option maxRecDepth 100000
def e34:En:=⟨111,[(A [(J 1),(J 1000),(J 1010),(J 5000),(J 6000),(J 0),(J 9),(J 4000),(J 4020),(J 1000000),(J 1000000),Z,(L 0 0 2 2),(L 1 0 1 1)]),(J 0)],[([(J 1),(J 1000),(J 1000),(J 2),(J 2000),(J 2005)],112,3,true),([(J 1),(J 2100),(J 2200)],115,3,true)],(A [(J 1),(J 1000),(J 1010),(J 5000),(J 6000),(J 0),(J 9),(J 4000),(J 4020),(J 1000000),(J 1000000),Z,(L 0 0 2 2),Z]),[]⟩
theorem e34_ok:EnGood Tryz.prog zE e34:=gRun (l:=[]) (n:=3000) (gNil) (by kernel_rfl)
end ClockB
end Go.Proofs
end
section
set_option linter.unusedVariables false
namespace Go.Proofs
namespace ClockB
open Go Go.RowKit Go.Aev
set_option maxRecDepth 100000
def e35:En:=⟨62,[(A [(J 1),(J 1000),(J 1010),(J 5000),(J 6000),(J 0),(J 9),(J 4000),(J 4020),(J 1000000),(J 1000000),Z,(L 0 0 2 2),(L 1 0 1 1)])],[([(J 1),(J 1000),(J 1000),(J 2),(J 2000),(J 2005)],112,3,true),([(J 1),(J 2100),(J 2200)],115,3,true)],(.tuple #[(L 42 0 1 1),(L 57 0 1 1),(J 0)]),[(42,.cells [(J 1)] 3 1 true false),(57,.cells [(J 0)] 3 1 true false)]⟩
theorem e35_ok:EnGood Tryz.prog zE e35:=gRun (l:=[e21,e22,e24,e26,e29,e30,e32,e33,e34,e1,e5]) (n:=3000) (gCons e21_ok (gCons e22_ok (gCons e24_ok (gCons e26_ok (gCons e29_ok (gCons e30_ok (gCons e32_ok (gCons e33_ok (gCons e34_ok (gCons e1_ok (gCons e5_ok (gNil)))))))))))) (by kernel_rfl)
end ClockB
end Go.Proofs
end
section
set_option linter.unusedVariables false
namespace Go.Proofs
namespace ClockB
open Go Go.RowKit Go.Aev
set_option maxRecDepth 100000
def e36:En:=⟨67,[(A [(J 1000),(J 500000),(L 0 0 1 1)]),(J 1007)],[([(J 100),(J 1000000)],104,2,true)],(.tuple #[(J 7),(J 0)]),[]⟩
theorem e36_ok:EnGood Tryz.prog zE e36:=gRun (l:=[]) (n:=3000) (gNil) (by kernel_rfl)
end ClockB
end Go.Proofs
end
section
set_option linter.unusedVariables false
namespace Go.Proofs
namespace ClockB
open Go Go.RowKit Go.Aev
set_option maxRecDepth 100000
def e37:En:=⟨59,[(A [(J 1),(J 1000),(J 1010),(J 5000),(J 6000),(J 0),(J 9),(J 4000),(J 4020),(J 1000000),(J 1000000),Z,(L 0 0 2 2),(L 1 0 1 1)]),(L 2 0 5 5)],[([(J 1),(J 1000),(J 1000),(J 2),(J 2000),(J 2005)],112,3,true),([(J 1),(J 2100),(J 2200)],115,3,true),([(J 0),(J 9),(J 21),(J 12),(J 5)],3,1,false)],(J 0),[]⟩
theorem e37_ok:EnGood Tryz.prog zE e37:=gRun (l:=[e21]) (n:=3000) (gCons e21_ok (gNil)) (by kernel_rfl)
end ClockB
end Go.Proofs
end
section
set_option linter.unusedVariables false
namespace Go.Proofs
namespace ClockB
open Go Go.RowKit Go.Aev
set_option maxRecDepth 100000
def eR:En:=⟨20,[],[],.bool true,[]⟩
theorem eR_ok:EnGood Tryz.prog zE eR:=gRun (l:=[e2,e8,e9,e10,e17,e18,e19,e23,e35,e36,e37]) (n:=3000) (gCons e2_ok (gCons e8_ok (gCons e9_ok (gCons e10_ok (gCons e17_ok (gCons e18_ok (gCons e19_ok (gCons e23_ok (gCons e35_ok (gCons e36_ok (gCons e37_ok (gNil)))))))))))) (by kernel_rfl)
end ClockB
end Go.Proofs
end
