/-
  NARROWER THAN 'FOR EVERY INPUT', by the rows' own cells (each row's printed sentence says how): HouseChecks: laid · HouseDoors: laid · HouseWays: laid · HouseWalks: laid · HouseTimes: laid · HouseRoutes: laid · HouseProofs: laid · HouseWalls: laid · HouseDistances: laid · HouseTours: laid · HouseShuts: laid · HouseNext: laid · HouseLater: laid · HouseWalked: laid · HouseBothWays: laid · HouseClosing: laid · HouseTriangle: laid.
  DERIVED. THE GIVEN ROWS OF THIS SEAT. 17 by the template 'for every input the law returns true; each argument reads behind the call as it read before'; 0 by the template 'total and deterministic' (their statements: YtohfdkdjfoonjaaGreatDoorTotals.lean).
  GIVEN WITH THE SEED: the statements are not yours to turn. If you find one false, say at which input.
  Laid BY PROGRAM, IN A SANDBOX (cutbox-rows.mjs): the forced cells as the released guide's own fill.sh prints them over the translation c2d0ebf30ae31599… (all of the seat's roots in one cut). By AI agents, Wed Nov 11 2026. No macro, syntax, notation, axiom, sorry.
-/
import Derived.Test.YtohfdkdjfoonjaaGreatDoorChecked
import GoSem.Claim
import GoSem.ClaimJoined
import GoSem.ClaimMapViews
import Derived.JoinedTies
import Derived.KernelRfl
namespace Go.Proofs.YtohfdkdjfoonjaaGreatDoor
/- THE CELL 'sum', in the pinned program and in every row, IS THE sha256 OF THE DUMP (.gsa) THAT YtohfdkdjfoonjaaGreatDoorProg.lean LOADS. Nothing in Lean hashes anything: it is a label: what it is worth is what the hold of that sum in a sandbox is worth. -/
noncomputable def Tryz.pinned : Pinned := { name := "ytohfdkdjfoonjaagreatdoor", sum := "c2d0ebf30ae31599eb4cb5de477c8e93f810cbe8bf1dbd8deafe7b5afd1175b6", checked := Tryz.checked }
namespace Rows
def none {H : Type} : Left H := { results := [], args := [] }

/- WHAT THE LISTED PACKAGE-LEVEL VARIABLES READ AS WHEN THE CALL BEGINS. Each datum BY PROGRAM (the guide's laid-datum.mjs) off the statement by which the dump's own 'gosem.cut.vars' lays the variable. In a bare row this is a premise. The card (YtohfdkdjfoonjaaGreatDoorCards.lean) ties it to the program's text. -/
def laid_math_bits_deBruijn32tab {H : Type} : DataW H := .agg [.lit (.int .u8 0), .lit (.int .u8 1), .lit (.int .u8 28), .lit (.int .u8 2), .lit (.int .u8 29), .lit (.int .u8 14), .lit (.int .u8 24), .lit (.int .u8 3), .lit (.int .u8 30), .lit (.int .u8 22), .lit (.int .u8 20), .lit (.int .u8 15), .lit (.int .u8 25), .lit (.int .u8 17), .lit (.int .u8 4), .lit (.int .u8 8), .lit (.int .u8 31), .lit (.int .u8 27), .lit (.int .u8 13), .lit (.int .u8 23), .lit (.int .u8 21), .lit (.int .u8 19), .lit (.int .u8 16), .lit (.int .u8 7), .lit (.int .u8 26), .lit (.int .u8 12), .lit (.int .u8 18), .lit (.int .u8 6), .lit (.int .u8 11), .lit (.int .u8 5), .lit (.int .u8 10), .lit (.int .u8 9)]
def laid_math_bits_deBruijn64tab {H : Type} : DataW H := .agg [.lit (.int .u8 0), .lit (.int .u8 1), .lit (.int .u8 56), .lit (.int .u8 2), .lit (.int .u8 57), .lit (.int .u8 49), .lit (.int .u8 28), .lit (.int .u8 3), .lit (.int .u8 61), .lit (.int .u8 58), .lit (.int .u8 42), .lit (.int .u8 50), .lit (.int .u8 38), .lit (.int .u8 29), .lit (.int .u8 17), .lit (.int .u8 4), .lit (.int .u8 62), .lit (.int .u8 47), .lit (.int .u8 59), .lit (.int .u8 36), .lit (.int .u8 45), .lit (.int .u8 43), .lit (.int .u8 51), .lit (.int .u8 22), .lit (.int .u8 53), .lit (.int .u8 39), .lit (.int .u8 33), .lit (.int .u8 30), .lit (.int .u8 24), .lit (.int .u8 18), .lit (.int .u8 12), .lit (.int .u8 5), .lit (.int .u8 63), .lit (.int .u8 55), .lit (.int .u8 48), .lit (.int .u8 27), .lit (.int .u8 60), .lit (.int .u8 41), .lit (.int .u8 37), .lit (.int .u8 16), .lit (.int .u8 46), .lit (.int .u8 35), .lit (.int .u8 44), .lit (.int .u8 21), .lit (.int .u8 52), .lit (.int .u8 32), .lit (.int .u8 23), .lit (.int .u8 11), .lit (.int .u8 54), .lit (.int .u8 26), .lit (.int .u8 40), .lit (.int .u8 15), .lit (.int .u8 34), .lit (.int .u8 20), .lit (.int .u8 31), .lit (.int .u8 10), .lit (.int .u8 25), .lit (.int .u8 14), .lit (.int .u8 19), .lit (.int .u8 9), .lit (.int .u8 13), .lit (.int .u8 8), .lit (.int .u8 7), .lit (.int .u8 6)]
def laid_internal_strconv_uint64pow10 {H : Type} : DataW H := .agg [.lit (.int .u64 1), .lit (.int .u64 10), .lit (.int .u64 100), .lit (.int .u64 1000), .lit (.int .u64 10000), .lit (.int .u64 100000), .lit (.int .u64 1000000), .lit (.int .u64 10000000), .lit (.int .u64 100000000), .lit (.int .u64 1000000000), .lit (.int .u64 10000000000), .lit (.int .u64 100000000000), .lit (.int .u64 1000000000000), .lit (.int .u64 10000000000000), .lit (.int .u64 100000000000000), .lit (.int .u64 1000000000000000), .lit (.int .u64 10000000000000000), .lit (.int .u64 100000000000000000), .lit (.int .u64 1000000000000000000), .lit (.int .u64 10000000000000000000)]

/-- 'patrollaw03.HouseChecks': WHATEVER THE INPUT: true; the input reads as it did. -/
def houseChecksSpec : ChangeSpec := { name := "houseChecks", fn := fun _ => fun
  | [d1, d2] => { results := [.lit (.bool true)], args := [d1, d2] }
  | _ => none }
def houseChecksRow : OpenClaim := { program := "ytohfdkdjfoonjaagreatdoor", sum := "c2d0ebf30ae31599eb4cb5de477c8e93f810cbe8bf1dbd8deafe7b5afd1175b6", func := "patrol/patrollaw03.HouseChecks", spec := "houseChecks", inPlace := ["internal/abi.NoEscape", "internal/bytealg.MakeNoZero"], unfollowed := true, recurses := true, named := ["internal/strconv.uint64pow10", "math/bits.deBruijn32tab", "math/bits.deBruijn64tab"], apart := false, laid := [("math/bits.deBruijn32tab", laid_math_bits_deBruijn32tab), ("math/bits.deBruijn64tab", laid_math_bits_deBruijn64tab), ("internal/strconv.uint64pow10", laid_internal_strconv_uint64pow10)] }
def HouseChecksSaid : Prop := houseChecksRow.holds Tryz.pinned (OpenSpec.ofChange houseChecksSpec)

/-- ITS FALSE NEIGHBOUR: 'it returns false'. Refute it at one input. -/
def houseChecksWrong : ChangeSpec := { name := "houseChecks", fn := fun _ => fun
  | [d1, d2] => { results := [.lit (.bool false)], args := [d1, d2] }
  | _ => none }
def HouseChecksWrongFalsely : Prop := houseChecksRow.holds Tryz.pinned (OpenSpec.ofChange houseChecksWrong)

/-- 'patrollaw03.HouseDoors': WHATEVER THE INPUT: true; the input reads as it did. -/
def houseDoorsSpec : ChangeSpec := { name := "houseDoors", fn := fun _ => fun
  | [d1, d2, d3, d4] => { results := [.lit (.bool true)], args := [d1, d2, d3, d4] }
  | _ => none }
def houseDoorsRow : OpenClaim := { program := "ytohfdkdjfoonjaagreatdoor", sum := "c2d0ebf30ae31599eb4cb5de477c8e93f810cbe8bf1dbd8deafe7b5afd1175b6", func := "patrol/patrollaw03.HouseDoors", spec := "houseDoors", inPlace := ["internal/abi.NoEscape", "internal/bytealg.MakeNoZero"], unfollowed := true, recurses := true, named := ["internal/strconv.uint64pow10", "math/bits.deBruijn32tab", "math/bits.deBruijn64tab"], apart := false, laid := [("math/bits.deBruijn32tab", laid_math_bits_deBruijn32tab), ("math/bits.deBruijn64tab", laid_math_bits_deBruijn64tab), ("internal/strconv.uint64pow10", laid_internal_strconv_uint64pow10)] }
def HouseDoorsSaid : Prop := houseDoorsRow.holds Tryz.pinned (OpenSpec.ofChange houseDoorsSpec)

/-- ITS FALSE NEIGHBOUR: 'it returns false'. Refute it at one input. -/
def houseDoorsWrong : ChangeSpec := { name := "houseDoors", fn := fun _ => fun
  | [d1, d2, d3, d4] => { results := [.lit (.bool false)], args := [d1, d2, d3, d4] }
  | _ => none }
def HouseDoorsWrongFalsely : Prop := houseDoorsRow.holds Tryz.pinned (OpenSpec.ofChange houseDoorsWrong)

/-- 'patrollaw03.HouseWays': WHATEVER THE INPUT: true; the input reads as it did. -/
def houseWaysSpec : ChangeSpec := { name := "houseWays", fn := fun _ => fun
  | [d1, d2, d3, d4] => { results := [.lit (.bool true)], args := [d1, d2, d3, d4] }
  | _ => none }
def houseWaysRow : OpenClaim := { program := "ytohfdkdjfoonjaagreatdoor", sum := "c2d0ebf30ae31599eb4cb5de477c8e93f810cbe8bf1dbd8deafe7b5afd1175b6", func := "patrol/patrollaw03.HouseWays", spec := "houseWays", inPlace := ["internal/abi.NoEscape", "internal/bytealg.MakeNoZero"], unfollowed := true, recurses := true, named := ["internal/strconv.uint64pow10", "math/bits.deBruijn32tab", "math/bits.deBruijn64tab"], apart := false, laid := [("math/bits.deBruijn32tab", laid_math_bits_deBruijn32tab), ("math/bits.deBruijn64tab", laid_math_bits_deBruijn64tab), ("internal/strconv.uint64pow10", laid_internal_strconv_uint64pow10)] }
def HouseWaysSaid : Prop := houseWaysRow.holds Tryz.pinned (OpenSpec.ofChange houseWaysSpec)

/-- ITS FALSE NEIGHBOUR: 'it returns false'. Refute it at one input. -/
def houseWaysWrong : ChangeSpec := { name := "houseWays", fn := fun _ => fun
  | [d1, d2, d3, d4] => { results := [.lit (.bool false)], args := [d1, d2, d3, d4] }
  | _ => none }
def HouseWaysWrongFalsely : Prop := houseWaysRow.holds Tryz.pinned (OpenSpec.ofChange houseWaysWrong)

/-- 'patrollaw03.HouseWalks': WHATEVER THE INPUT: true; the input reads as it did. -/
def houseWalksSpec : ChangeSpec := { name := "houseWalks", fn := fun _ => fun
  | [d1, d2, d3, d4] => { results := [.lit (.bool true)], args := [d1, d2, d3, d4] }
  | _ => none }
def houseWalksRow : OpenClaim := { program := "ytohfdkdjfoonjaagreatdoor", sum := "c2d0ebf30ae31599eb4cb5de477c8e93f810cbe8bf1dbd8deafe7b5afd1175b6", func := "patrol/patrollaw03.HouseWalks", spec := "houseWalks", inPlace := ["internal/abi.NoEscape", "internal/bytealg.MakeNoZero"], unfollowed := true, recurses := true, named := ["internal/strconv.uint64pow10", "math/bits.deBruijn32tab", "math/bits.deBruijn64tab"], apart := false, laid := [("math/bits.deBruijn32tab", laid_math_bits_deBruijn32tab), ("math/bits.deBruijn64tab", laid_math_bits_deBruijn64tab), ("internal/strconv.uint64pow10", laid_internal_strconv_uint64pow10)] }
def HouseWalksSaid : Prop := houseWalksRow.holds Tryz.pinned (OpenSpec.ofChange houseWalksSpec)

/-- ITS FALSE NEIGHBOUR: 'it returns false'. Refute it at one input. -/
def houseWalksWrong : ChangeSpec := { name := "houseWalks", fn := fun _ => fun
  | [d1, d2, d3, d4] => { results := [.lit (.bool false)], args := [d1, d2, d3, d4] }
  | _ => none }
def HouseWalksWrongFalsely : Prop := houseWalksRow.holds Tryz.pinned (OpenSpec.ofChange houseWalksWrong)

/-- 'patrollaw03.HouseTimes': WHATEVER THE INPUT: true; the input reads as it did. -/
def houseTimesSpec : ChangeSpec := { name := "houseTimes", fn := fun _ => fun
  | [d1, d2, d3, d4, d5] => { results := [.lit (.bool true)], args := [d1, d2, d3, d4, d5] }
  | _ => none }
def houseTimesRow : OpenClaim := { program := "ytohfdkdjfoonjaagreatdoor", sum := "c2d0ebf30ae31599eb4cb5de477c8e93f810cbe8bf1dbd8deafe7b5afd1175b6", func := "patrol/patrollaw03.HouseTimes", spec := "houseTimes", inPlace := ["internal/abi.NoEscape", "internal/bytealg.MakeNoZero"], unfollowed := true, recurses := true, named := ["internal/strconv.uint64pow10", "math/bits.deBruijn32tab", "math/bits.deBruijn64tab"], apart := false, laid := [("math/bits.deBruijn32tab", laid_math_bits_deBruijn32tab), ("math/bits.deBruijn64tab", laid_math_bits_deBruijn64tab), ("internal/strconv.uint64pow10", laid_internal_strconv_uint64pow10)] }
def HouseTimesSaid : Prop := houseTimesRow.holds Tryz.pinned (OpenSpec.ofChange houseTimesSpec)

/-- ITS FALSE NEIGHBOUR: 'it returns false'. Refute it at one input. -/
def houseTimesWrong : ChangeSpec := { name := "houseTimes", fn := fun _ => fun
  | [d1, d2, d3, d4, d5] => { results := [.lit (.bool false)], args := [d1, d2, d3, d4, d5] }
  | _ => none }
def HouseTimesWrongFalsely : Prop := houseTimesRow.holds Tryz.pinned (OpenSpec.ofChange houseTimesWrong)

/-- 'patrollaw03.HouseRoutes': WHATEVER THE INPUT: true; the input reads as it did. -/
def houseRoutesSpec : ChangeSpec := { name := "houseRoutes", fn := fun _ => fun
  | [d1, d2, d3, d4] => { results := [.lit (.bool true)], args := [d1, d2, d3, d4] }
  | _ => none }
def houseRoutesRow : OpenClaim := { program := "ytohfdkdjfoonjaagreatdoor", sum := "c2d0ebf30ae31599eb4cb5de477c8e93f810cbe8bf1dbd8deafe7b5afd1175b6", func := "patrol/patrollaw03.HouseRoutes", spec := "houseRoutes", inPlace := ["internal/abi.NoEscape", "internal/bytealg.MakeNoZero"], unfollowed := true, recurses := true, named := ["internal/strconv.uint64pow10", "math/bits.deBruijn32tab", "math/bits.deBruijn64tab"], apart := false, laid := [("math/bits.deBruijn32tab", laid_math_bits_deBruijn32tab), ("math/bits.deBruijn64tab", laid_math_bits_deBruijn64tab), ("internal/strconv.uint64pow10", laid_internal_strconv_uint64pow10)] }
def HouseRoutesSaid : Prop := houseRoutesRow.holds Tryz.pinned (OpenSpec.ofChange houseRoutesSpec)

/-- ITS FALSE NEIGHBOUR: 'it returns false'. Refute it at one input. -/
def houseRoutesWrong : ChangeSpec := { name := "houseRoutes", fn := fun _ => fun
  | [d1, d2, d3, d4] => { results := [.lit (.bool false)], args := [d1, d2, d3, d4] }
  | _ => none }
def HouseRoutesWrongFalsely : Prop := houseRoutesRow.holds Tryz.pinned (OpenSpec.ofChange houseRoutesWrong)

/-- 'patrollaw03.HouseProofs': WHATEVER THE INPUT: true; the input reads as it did. -/
def houseProofsSpec : ChangeSpec := { name := "houseProofs", fn := fun _ => fun
  | [d1, d2, d3, d4, d5, d6] => { results := [.lit (.bool true)], args := [d1, d2, d3, d4, d5, d6] }
  | _ => none }
def houseProofsRow : OpenClaim := { program := "ytohfdkdjfoonjaagreatdoor", sum := "c2d0ebf30ae31599eb4cb5de477c8e93f810cbe8bf1dbd8deafe7b5afd1175b6", func := "patrol/patrollaw03.HouseProofs", spec := "houseProofs", inPlace := ["internal/abi.NoEscape", "internal/bytealg.MakeNoZero"], unfollowed := true, recurses := true, named := ["internal/strconv.uint64pow10", "math/bits.deBruijn32tab", "math/bits.deBruijn64tab"], apart := false, laid := [("math/bits.deBruijn32tab", laid_math_bits_deBruijn32tab), ("math/bits.deBruijn64tab", laid_math_bits_deBruijn64tab), ("internal/strconv.uint64pow10", laid_internal_strconv_uint64pow10)] }
def HouseProofsSaid : Prop := houseProofsRow.holds Tryz.pinned (OpenSpec.ofChange houseProofsSpec)

/-- ITS FALSE NEIGHBOUR: 'it returns false'. Refute it at one input. -/
def houseProofsWrong : ChangeSpec := { name := "houseProofs", fn := fun _ => fun
  | [d1, d2, d3, d4, d5, d6] => { results := [.lit (.bool false)], args := [d1, d2, d3, d4, d5, d6] }
  | _ => none }
def HouseProofsWrongFalsely : Prop := houseProofsRow.holds Tryz.pinned (OpenSpec.ofChange houseProofsWrong)

/-- 'patrollaw03.HouseWalls': WHATEVER THE INPUT: true; the input reads as it did. -/
def houseWallsSpec : ChangeSpec := { name := "houseWalls", fn := fun _ => fun
  | [d1, d2, d3, d4, d5] => { results := [.lit (.bool true)], args := [d1, d2, d3, d4, d5] }
  | _ => none }
def houseWallsRow : OpenClaim := { program := "ytohfdkdjfoonjaagreatdoor", sum := "c2d0ebf30ae31599eb4cb5de477c8e93f810cbe8bf1dbd8deafe7b5afd1175b6", func := "patrol/patrollaw03.HouseWalls", spec := "houseWalls", inPlace := ["internal/abi.NoEscape", "internal/bytealg.MakeNoZero"], unfollowed := true, recurses := true, named := ["internal/strconv.uint64pow10", "math/bits.deBruijn32tab", "math/bits.deBruijn64tab"], apart := false, laid := [("math/bits.deBruijn32tab", laid_math_bits_deBruijn32tab), ("math/bits.deBruijn64tab", laid_math_bits_deBruijn64tab), ("internal/strconv.uint64pow10", laid_internal_strconv_uint64pow10)] }
def HouseWallsSaid : Prop := houseWallsRow.holds Tryz.pinned (OpenSpec.ofChange houseWallsSpec)

/-- ITS FALSE NEIGHBOUR: 'it returns false'. Refute it at one input. -/
def houseWallsWrong : ChangeSpec := { name := "houseWalls", fn := fun _ => fun
  | [d1, d2, d3, d4, d5] => { results := [.lit (.bool false)], args := [d1, d2, d3, d4, d5] }
  | _ => none }
def HouseWallsWrongFalsely : Prop := houseWallsRow.holds Tryz.pinned (OpenSpec.ofChange houseWallsWrong)

/-- 'patrollaw03.HouseDistances': WHATEVER THE INPUT: true; the input reads as it did. -/
def houseDistancesSpec : ChangeSpec := { name := "houseDistances", fn := fun _ => fun
  | [d1, d2, d3] => { results := [.lit (.bool true)], args := [d1, d2, d3] }
  | _ => none }
def houseDistancesRow : OpenClaim := { program := "ytohfdkdjfoonjaagreatdoor", sum := "c2d0ebf30ae31599eb4cb5de477c8e93f810cbe8bf1dbd8deafe7b5afd1175b6", func := "patrol/patrollaw03.HouseDistances", spec := "houseDistances", inPlace := ["internal/abi.NoEscape", "internal/bytealg.MakeNoZero"], unfollowed := true, recurses := true, named := ["internal/strconv.uint64pow10", "math/bits.deBruijn32tab", "math/bits.deBruijn64tab"], apart := false, laid := [("math/bits.deBruijn32tab", laid_math_bits_deBruijn32tab), ("math/bits.deBruijn64tab", laid_math_bits_deBruijn64tab), ("internal/strconv.uint64pow10", laid_internal_strconv_uint64pow10)] }
def HouseDistancesSaid : Prop := houseDistancesRow.holds Tryz.pinned (OpenSpec.ofChange houseDistancesSpec)

/-- ITS FALSE NEIGHBOUR: 'it returns false'. Refute it at one input. -/
def houseDistancesWrong : ChangeSpec := { name := "houseDistances", fn := fun _ => fun
  | [d1, d2, d3] => { results := [.lit (.bool false)], args := [d1, d2, d3] }
  | _ => none }
def HouseDistancesWrongFalsely : Prop := houseDistancesRow.holds Tryz.pinned (OpenSpec.ofChange houseDistancesWrong)

/-- 'patrollaw03.HouseTours': WHATEVER THE INPUT: true; the input reads as it did. -/
def houseToursSpec : ChangeSpec := { name := "houseTours", fn := fun _ => fun
  | [d1, d2, d3, d4] => { results := [.lit (.bool true)], args := [d1, d2, d3, d4] }
  | _ => none }
def houseToursRow : OpenClaim := { program := "ytohfdkdjfoonjaagreatdoor", sum := "c2d0ebf30ae31599eb4cb5de477c8e93f810cbe8bf1dbd8deafe7b5afd1175b6", func := "patrol/patrollaw03.HouseTours", spec := "houseTours", inPlace := ["internal/abi.NoEscape", "internal/bytealg.MakeNoZero"], unfollowed := true, recurses := true, named := ["internal/strconv.uint64pow10", "math/bits.deBruijn32tab", "math/bits.deBruijn64tab"], apart := false, laid := [("math/bits.deBruijn32tab", laid_math_bits_deBruijn32tab), ("math/bits.deBruijn64tab", laid_math_bits_deBruijn64tab), ("internal/strconv.uint64pow10", laid_internal_strconv_uint64pow10)] }
def HouseToursSaid : Prop := houseToursRow.holds Tryz.pinned (OpenSpec.ofChange houseToursSpec)

/-- ITS FALSE NEIGHBOUR: 'it returns false'. Refute it at one input. -/
def houseToursWrong : ChangeSpec := { name := "houseTours", fn := fun _ => fun
  | [d1, d2, d3, d4] => { results := [.lit (.bool false)], args := [d1, d2, d3, d4] }
  | _ => none }
def HouseToursWrongFalsely : Prop := houseToursRow.holds Tryz.pinned (OpenSpec.ofChange houseToursWrong)

/-- 'patrollaw03.HouseShuts': WHATEVER THE INPUT: true; the input reads as it did. -/
def houseShutsSpec : ChangeSpec := { name := "houseShuts", fn := fun _ => fun
  | [d1, d2, d3] => { results := [.lit (.bool true)], args := [d1, d2, d3] }
  | _ => none }
def houseShutsRow : OpenClaim := { program := "ytohfdkdjfoonjaagreatdoor", sum := "c2d0ebf30ae31599eb4cb5de477c8e93f810cbe8bf1dbd8deafe7b5afd1175b6", func := "patrol/patrollaw03.HouseShuts", spec := "houseShuts", inPlace := ["internal/abi.NoEscape", "internal/bytealg.MakeNoZero"], unfollowed := true, recurses := true, named := ["internal/strconv.uint64pow10", "math/bits.deBruijn32tab", "math/bits.deBruijn64tab"], apart := false, laid := [("math/bits.deBruijn32tab", laid_math_bits_deBruijn32tab), ("math/bits.deBruijn64tab", laid_math_bits_deBruijn64tab), ("internal/strconv.uint64pow10", laid_internal_strconv_uint64pow10)] }
def HouseShutsSaid : Prop := houseShutsRow.holds Tryz.pinned (OpenSpec.ofChange houseShutsSpec)

/-- ITS FALSE NEIGHBOUR: 'it returns false'. Refute it at one input. -/
def houseShutsWrong : ChangeSpec := { name := "houseShuts", fn := fun _ => fun
  | [d1, d2, d3] => { results := [.lit (.bool false)], args := [d1, d2, d3] }
  | _ => none }
def HouseShutsWrongFalsely : Prop := houseShutsRow.holds Tryz.pinned (OpenSpec.ofChange houseShutsWrong)

/-- 'patrollaw03.HouseNext': WHATEVER THE INPUT: true; the input reads as it did. -/
def houseNextSpec : ChangeSpec := { name := "houseNext", fn := fun _ => fun
  | [d1, d2, d3, d4, d5] => { results := [.lit (.bool true)], args := [d1, d2, d3, d4, d5] }
  | _ => none }
def houseNextRow : OpenClaim := { program := "ytohfdkdjfoonjaagreatdoor", sum := "c2d0ebf30ae31599eb4cb5de477c8e93f810cbe8bf1dbd8deafe7b5afd1175b6", func := "patrol/patrollaw03.HouseNext", spec := "houseNext", inPlace := ["internal/abi.NoEscape", "internal/bytealg.MakeNoZero"], unfollowed := true, recurses := true, named := ["internal/strconv.uint64pow10", "math/bits.deBruijn32tab", "math/bits.deBruijn64tab"], apart := false, laid := [("math/bits.deBruijn32tab", laid_math_bits_deBruijn32tab), ("math/bits.deBruijn64tab", laid_math_bits_deBruijn64tab), ("internal/strconv.uint64pow10", laid_internal_strconv_uint64pow10)] }
def HouseNextSaid : Prop := houseNextRow.holds Tryz.pinned (OpenSpec.ofChange houseNextSpec)

/-- ITS FALSE NEIGHBOUR: 'it returns false'. Refute it at one input. -/
def houseNextWrong : ChangeSpec := { name := "houseNext", fn := fun _ => fun
  | [d1, d2, d3, d4, d5] => { results := [.lit (.bool false)], args := [d1, d2, d3, d4, d5] }
  | _ => none }
def HouseNextWrongFalsely : Prop := houseNextRow.holds Tryz.pinned (OpenSpec.ofChange houseNextWrong)

/-- 'patrollaw03.HouseLater': WHATEVER THE INPUT: true; the input reads as it did. -/
def houseLaterSpec : ChangeSpec := { name := "houseLater", fn := fun _ => fun
  | [d1, d2, d3, d4, d5, d6, d7, d8] => { results := [.lit (.bool true)], args := [d1, d2, d3, d4, d5, d6, d7, d8] }
  | _ => none }
def houseLaterRow : OpenClaim := { program := "ytohfdkdjfoonjaagreatdoor", sum := "c2d0ebf30ae31599eb4cb5de477c8e93f810cbe8bf1dbd8deafe7b5afd1175b6", func := "patrol/patrollaw03.HouseLater", spec := "houseLater", inPlace := ["internal/abi.NoEscape", "internal/bytealg.MakeNoZero"], unfollowed := true, recurses := true, named := ["internal/strconv.uint64pow10", "math/bits.deBruijn32tab", "math/bits.deBruijn64tab"], apart := false, laid := [("math/bits.deBruijn32tab", laid_math_bits_deBruijn32tab), ("math/bits.deBruijn64tab", laid_math_bits_deBruijn64tab), ("internal/strconv.uint64pow10", laid_internal_strconv_uint64pow10)] }
def HouseLaterSaid : Prop := houseLaterRow.holds Tryz.pinned (OpenSpec.ofChange houseLaterSpec)

/-- ITS FALSE NEIGHBOUR: 'it returns false'. Refute it at one input. -/
def houseLaterWrong : ChangeSpec := { name := "houseLater", fn := fun _ => fun
  | [d1, d2, d3, d4, d5, d6, d7, d8] => { results := [.lit (.bool false)], args := [d1, d2, d3, d4, d5, d6, d7, d8] }
  | _ => none }
def HouseLaterWrongFalsely : Prop := houseLaterRow.holds Tryz.pinned (OpenSpec.ofChange houseLaterWrong)

/-- 'patrollaw03.HouseWalked': WHATEVER THE INPUT: true; the input reads as it did. -/
def houseWalkedSpec : ChangeSpec := { name := "houseWalked", fn := fun _ => fun
  | [d1, d2, d3, d4, d5] => { results := [.lit (.bool true)], args := [d1, d2, d3, d4, d5] }
  | _ => none }
def houseWalkedRow : OpenClaim := { program := "ytohfdkdjfoonjaagreatdoor", sum := "c2d0ebf30ae31599eb4cb5de477c8e93f810cbe8bf1dbd8deafe7b5afd1175b6", func := "patrol/patrollaw03.HouseWalked", spec := "houseWalked", inPlace := ["internal/abi.NoEscape", "internal/bytealg.MakeNoZero"], unfollowed := true, recurses := true, named := ["internal/strconv.uint64pow10", "math/bits.deBruijn32tab", "math/bits.deBruijn64tab"], apart := false, laid := [("math/bits.deBruijn32tab", laid_math_bits_deBruijn32tab), ("math/bits.deBruijn64tab", laid_math_bits_deBruijn64tab), ("internal/strconv.uint64pow10", laid_internal_strconv_uint64pow10)] }
def HouseWalkedSaid : Prop := houseWalkedRow.holds Tryz.pinned (OpenSpec.ofChange houseWalkedSpec)

/-- ITS FALSE NEIGHBOUR: 'it returns false'. Refute it at one input. -/
def houseWalkedWrong : ChangeSpec := { name := "houseWalked", fn := fun _ => fun
  | [d1, d2, d3, d4, d5] => { results := [.lit (.bool false)], args := [d1, d2, d3, d4, d5] }
  | _ => none }
def HouseWalkedWrongFalsely : Prop := houseWalkedRow.holds Tryz.pinned (OpenSpec.ofChange houseWalkedWrong)

/-- 'patrollaw03.HouseBothWays': WHATEVER THE INPUT: true; the input reads as it did. -/
def houseBothWaysSpec : ChangeSpec := { name := "houseBothWays", fn := fun _ => fun
  | [d1, d2, d3, d4, d5, d6] => { results := [.lit (.bool true)], args := [d1, d2, d3, d4, d5, d6] }
  | _ => none }
def houseBothWaysRow : OpenClaim := { program := "ytohfdkdjfoonjaagreatdoor", sum := "c2d0ebf30ae31599eb4cb5de477c8e93f810cbe8bf1dbd8deafe7b5afd1175b6", func := "patrol/patrollaw03.HouseBothWays", spec := "houseBothWays", inPlace := ["internal/abi.NoEscape", "internal/bytealg.MakeNoZero"], unfollowed := true, recurses := true, named := ["internal/strconv.uint64pow10", "math/bits.deBruijn32tab", "math/bits.deBruijn64tab"], apart := false, laid := [("math/bits.deBruijn32tab", laid_math_bits_deBruijn32tab), ("math/bits.deBruijn64tab", laid_math_bits_deBruijn64tab), ("internal/strconv.uint64pow10", laid_internal_strconv_uint64pow10)] }
def HouseBothWaysSaid : Prop := houseBothWaysRow.holds Tryz.pinned (OpenSpec.ofChange houseBothWaysSpec)

/-- ITS FALSE NEIGHBOUR: 'it returns false'. Refute it at one input. -/
def houseBothWaysWrong : ChangeSpec := { name := "houseBothWays", fn := fun _ => fun
  | [d1, d2, d3, d4, d5, d6] => { results := [.lit (.bool false)], args := [d1, d2, d3, d4, d5, d6] }
  | _ => none }
def HouseBothWaysWrongFalsely : Prop := houseBothWaysRow.holds Tryz.pinned (OpenSpec.ofChange houseBothWaysWrong)

/-- 'patrollaw03.HouseClosing': WHATEVER THE INPUT: true; the input reads as it did. -/
def houseClosingSpec : ChangeSpec := { name := "houseClosing", fn := fun _ => fun
  | [d1, d2, d3, d4, d5, d6, d7, d8, d9] => { results := [.lit (.bool true)], args := [d1, d2, d3, d4, d5, d6, d7, d8, d9] }
  | _ => none }
def houseClosingRow : OpenClaim := { program := "ytohfdkdjfoonjaagreatdoor", sum := "c2d0ebf30ae31599eb4cb5de477c8e93f810cbe8bf1dbd8deafe7b5afd1175b6", func := "patrol/patrollaw03.HouseClosing", spec := "houseClosing", inPlace := ["internal/abi.NoEscape", "internal/bytealg.MakeNoZero"], unfollowed := true, recurses := true, named := ["internal/strconv.uint64pow10", "math/bits.deBruijn32tab", "math/bits.deBruijn64tab"], apart := false, laid := [("math/bits.deBruijn32tab", laid_math_bits_deBruijn32tab), ("math/bits.deBruijn64tab", laid_math_bits_deBruijn64tab), ("internal/strconv.uint64pow10", laid_internal_strconv_uint64pow10)] }
def HouseClosingSaid : Prop := houseClosingRow.holds Tryz.pinned (OpenSpec.ofChange houseClosingSpec)

/-- ITS FALSE NEIGHBOUR: 'it returns false'. Refute it at one input. -/
def houseClosingWrong : ChangeSpec := { name := "houseClosing", fn := fun _ => fun
  | [d1, d2, d3, d4, d5, d6, d7, d8, d9] => { results := [.lit (.bool false)], args := [d1, d2, d3, d4, d5, d6, d7, d8, d9] }
  | _ => none }
def HouseClosingWrongFalsely : Prop := houseClosingRow.holds Tryz.pinned (OpenSpec.ofChange houseClosingWrong)

/-- 'patrollaw03.HouseTriangle': WHATEVER THE INPUT: true; the input reads as it did. -/
def houseTriangleSpec : ChangeSpec := { name := "houseTriangle", fn := fun _ => fun
  | [d1, d2, d3, d4, d5] => { results := [.lit (.bool true)], args := [d1, d2, d3, d4, d5] }
  | _ => none }
def houseTriangleRow : OpenClaim := { program := "ytohfdkdjfoonjaagreatdoor", sum := "c2d0ebf30ae31599eb4cb5de477c8e93f810cbe8bf1dbd8deafe7b5afd1175b6", func := "patrol/patrollaw03.HouseTriangle", spec := "houseTriangle", inPlace := ["internal/abi.NoEscape", "internal/bytealg.MakeNoZero"], unfollowed := true, recurses := true, named := ["internal/strconv.uint64pow10", "math/bits.deBruijn32tab", "math/bits.deBruijn64tab"], apart := false, laid := [("math/bits.deBruijn32tab", laid_math_bits_deBruijn32tab), ("math/bits.deBruijn64tab", laid_math_bits_deBruijn64tab), ("internal/strconv.uint64pow10", laid_internal_strconv_uint64pow10)] }
def HouseTriangleSaid : Prop := houseTriangleRow.holds Tryz.pinned (OpenSpec.ofChange houseTriangleSpec)

/-- ITS FALSE NEIGHBOUR: 'it returns false'. Refute it at one input. -/
def houseTriangleWrong : ChangeSpec := { name := "houseTriangle", fn := fun _ => fun
  | [d1, d2, d3, d4, d5] => { results := [.lit (.bool false)], args := [d1, d2, d3, d4, d5] }
  | _ => none }
def HouseTriangleWrongFalsely : Prop := houseTriangleRow.holds Tryz.pinned (OpenSpec.ofChange houseTriangleWrong)

/- THE SECOND FORM. 'bulk': how many values and letters a reading holds, each counted each time it is reached (what is shared counts as often as it is met; a slice's spare places count too). A statement '..UptoSaid' is the law's where the arguments, and the package variables that the reading takes, are together of bulk at most 1048576: NARROWER than '..Said'. Prove '..Said' where nothing that the law and all that it calls make is longer than what came in: it says more and counts as full. Else prove '..UptoSaid'. A law counts once. -/
mutual
def uptoBulk {H : Type} : DataW H → Nat
  | .lit (.string bytes) => bytes.length + 1
  | .lit _ => 1
  | .nil => 1
  | .ptr d => uptoBulk d + 1
  | .slice elems spare => uptoBulkAll elems + uptoBulkAll spare + 1
  | .agg parts => uptoBulkAll parts + 1
  | .iface _ d => uptoBulk d + 1
  | .map entries => uptoBulkEntries entries + 1
  | .held _ => 1
def uptoBulkAll {H : Type} : List (DataW H) → Nat
  | [] => 0
  | d :: r => uptoBulk d + uptoBulkAll r
def uptoBulkEntries {H : Type} : List (Lit × DataW H) → Nat
  | [] => 0
  | x :: r => uptoBulkEntry x + uptoBulkEntries r
def uptoBulkEntry {H : Type} : Lit × DataW H → Nat
  | (.string bytes, d) => bytes.length + uptoBulk d + 1
  | (_, d) => uptoBulk d + 1
 end
def uptoSmall : (H : Type) → List (DataW H) → Bool := fun _ ds => decide (uptoBulkAll ds ≤ 1048576)
def OpenSpec.upto (s : _root_.Go.ChangeSpec) : _root_.Go.OpenSpec := { _root_.Go.OpenSpec.ofChange s with cond := some uptoSmall }

/-- 'patrollaw03.HouseChecks', WHERE WHAT IT READS IS OF BULK AT MOST 1048576: true; the input reads as it did. -/
def houseChecksUptoRow : OpenClaim := { program := "ytohfdkdjfoonjaagreatdoor", sum := "c2d0ebf30ae31599eb4cb5de477c8e93f810cbe8bf1dbd8deafe7b5afd1175b6", func := "patrol/patrollaw03.HouseChecks", spec := "houseChecks", inPlace := ["internal/abi.NoEscape", "internal/bytealg.MakeNoZero"], unfollowed := true, recurses := true, named := ["internal/strconv.uint64pow10", "math/bits.deBruijn32tab", "math/bits.deBruijn64tab"], apart := false, laid := [("math/bits.deBruijn32tab", laid_math_bits_deBruijn32tab), ("math/bits.deBruijn64tab", laid_math_bits_deBruijn64tab), ("internal/strconv.uint64pow10", laid_internal_strconv_uint64pow10)], narrowed := true }
def HouseChecksUptoSaid : Prop := houseChecksUptoRow.holds Tryz.pinned (OpenSpec.upto houseChecksSpec)

/-- 'patrollaw03.HouseDoors', WHERE WHAT IT READS IS OF BULK AT MOST 1048576: true; the input reads as it did. -/
def houseDoorsUptoRow : OpenClaim := { program := "ytohfdkdjfoonjaagreatdoor", sum := "c2d0ebf30ae31599eb4cb5de477c8e93f810cbe8bf1dbd8deafe7b5afd1175b6", func := "patrol/patrollaw03.HouseDoors", spec := "houseDoors", inPlace := ["internal/abi.NoEscape", "internal/bytealg.MakeNoZero"], unfollowed := true, recurses := true, named := ["internal/strconv.uint64pow10", "math/bits.deBruijn32tab", "math/bits.deBruijn64tab"], apart := false, laid := [("math/bits.deBruijn32tab", laid_math_bits_deBruijn32tab), ("math/bits.deBruijn64tab", laid_math_bits_deBruijn64tab), ("internal/strconv.uint64pow10", laid_internal_strconv_uint64pow10)], narrowed := true }
def HouseDoorsUptoSaid : Prop := houseDoorsUptoRow.holds Tryz.pinned (OpenSpec.upto houseDoorsSpec)

/-- 'patrollaw03.HouseWays', WHERE WHAT IT READS IS OF BULK AT MOST 1048576: true; the input reads as it did. -/
def houseWaysUptoRow : OpenClaim := { program := "ytohfdkdjfoonjaagreatdoor", sum := "c2d0ebf30ae31599eb4cb5de477c8e93f810cbe8bf1dbd8deafe7b5afd1175b6", func := "patrol/patrollaw03.HouseWays", spec := "houseWays", inPlace := ["internal/abi.NoEscape", "internal/bytealg.MakeNoZero"], unfollowed := true, recurses := true, named := ["internal/strconv.uint64pow10", "math/bits.deBruijn32tab", "math/bits.deBruijn64tab"], apart := false, laid := [("math/bits.deBruijn32tab", laid_math_bits_deBruijn32tab), ("math/bits.deBruijn64tab", laid_math_bits_deBruijn64tab), ("internal/strconv.uint64pow10", laid_internal_strconv_uint64pow10)], narrowed := true }
def HouseWaysUptoSaid : Prop := houseWaysUptoRow.holds Tryz.pinned (OpenSpec.upto houseWaysSpec)

/-- 'patrollaw03.HouseWalks', WHERE WHAT IT READS IS OF BULK AT MOST 1048576: true; the input reads as it did. -/
def houseWalksUptoRow : OpenClaim := { program := "ytohfdkdjfoonjaagreatdoor", sum := "c2d0ebf30ae31599eb4cb5de477c8e93f810cbe8bf1dbd8deafe7b5afd1175b6", func := "patrol/patrollaw03.HouseWalks", spec := "houseWalks", inPlace := ["internal/abi.NoEscape", "internal/bytealg.MakeNoZero"], unfollowed := true, recurses := true, named := ["internal/strconv.uint64pow10", "math/bits.deBruijn32tab", "math/bits.deBruijn64tab"], apart := false, laid := [("math/bits.deBruijn32tab", laid_math_bits_deBruijn32tab), ("math/bits.deBruijn64tab", laid_math_bits_deBruijn64tab), ("internal/strconv.uint64pow10", laid_internal_strconv_uint64pow10)], narrowed := true }
def HouseWalksUptoSaid : Prop := houseWalksUptoRow.holds Tryz.pinned (OpenSpec.upto houseWalksSpec)

/-- 'patrollaw03.HouseTimes', WHERE WHAT IT READS IS OF BULK AT MOST 1048576: true; the input reads as it did. -/
def houseTimesUptoRow : OpenClaim := { program := "ytohfdkdjfoonjaagreatdoor", sum := "c2d0ebf30ae31599eb4cb5de477c8e93f810cbe8bf1dbd8deafe7b5afd1175b6", func := "patrol/patrollaw03.HouseTimes", spec := "houseTimes", inPlace := ["internal/abi.NoEscape", "internal/bytealg.MakeNoZero"], unfollowed := true, recurses := true, named := ["internal/strconv.uint64pow10", "math/bits.deBruijn32tab", "math/bits.deBruijn64tab"], apart := false, laid := [("math/bits.deBruijn32tab", laid_math_bits_deBruijn32tab), ("math/bits.deBruijn64tab", laid_math_bits_deBruijn64tab), ("internal/strconv.uint64pow10", laid_internal_strconv_uint64pow10)], narrowed := true }
def HouseTimesUptoSaid : Prop := houseTimesUptoRow.holds Tryz.pinned (OpenSpec.upto houseTimesSpec)

/-- 'patrollaw03.HouseRoutes', WHERE WHAT IT READS IS OF BULK AT MOST 1048576: true; the input reads as it did. -/
def houseRoutesUptoRow : OpenClaim := { program := "ytohfdkdjfoonjaagreatdoor", sum := "c2d0ebf30ae31599eb4cb5de477c8e93f810cbe8bf1dbd8deafe7b5afd1175b6", func := "patrol/patrollaw03.HouseRoutes", spec := "houseRoutes", inPlace := ["internal/abi.NoEscape", "internal/bytealg.MakeNoZero"], unfollowed := true, recurses := true, named := ["internal/strconv.uint64pow10", "math/bits.deBruijn32tab", "math/bits.deBruijn64tab"], apart := false, laid := [("math/bits.deBruijn32tab", laid_math_bits_deBruijn32tab), ("math/bits.deBruijn64tab", laid_math_bits_deBruijn64tab), ("internal/strconv.uint64pow10", laid_internal_strconv_uint64pow10)], narrowed := true }
def HouseRoutesUptoSaid : Prop := houseRoutesUptoRow.holds Tryz.pinned (OpenSpec.upto houseRoutesSpec)

/-- 'patrollaw03.HouseProofs', WHERE WHAT IT READS IS OF BULK AT MOST 1048576: true; the input reads as it did. -/
def houseProofsUptoRow : OpenClaim := { program := "ytohfdkdjfoonjaagreatdoor", sum := "c2d0ebf30ae31599eb4cb5de477c8e93f810cbe8bf1dbd8deafe7b5afd1175b6", func := "patrol/patrollaw03.HouseProofs", spec := "houseProofs", inPlace := ["internal/abi.NoEscape", "internal/bytealg.MakeNoZero"], unfollowed := true, recurses := true, named := ["internal/strconv.uint64pow10", "math/bits.deBruijn32tab", "math/bits.deBruijn64tab"], apart := false, laid := [("math/bits.deBruijn32tab", laid_math_bits_deBruijn32tab), ("math/bits.deBruijn64tab", laid_math_bits_deBruijn64tab), ("internal/strconv.uint64pow10", laid_internal_strconv_uint64pow10)], narrowed := true }
def HouseProofsUptoSaid : Prop := houseProofsUptoRow.holds Tryz.pinned (OpenSpec.upto houseProofsSpec)

/-- 'patrollaw03.HouseWalls', WHERE WHAT IT READS IS OF BULK AT MOST 1048576: true; the input reads as it did. -/
def houseWallsUptoRow : OpenClaim := { program := "ytohfdkdjfoonjaagreatdoor", sum := "c2d0ebf30ae31599eb4cb5de477c8e93f810cbe8bf1dbd8deafe7b5afd1175b6", func := "patrol/patrollaw03.HouseWalls", spec := "houseWalls", inPlace := ["internal/abi.NoEscape", "internal/bytealg.MakeNoZero"], unfollowed := true, recurses := true, named := ["internal/strconv.uint64pow10", "math/bits.deBruijn32tab", "math/bits.deBruijn64tab"], apart := false, laid := [("math/bits.deBruijn32tab", laid_math_bits_deBruijn32tab), ("math/bits.deBruijn64tab", laid_math_bits_deBruijn64tab), ("internal/strconv.uint64pow10", laid_internal_strconv_uint64pow10)], narrowed := true }
def HouseWallsUptoSaid : Prop := houseWallsUptoRow.holds Tryz.pinned (OpenSpec.upto houseWallsSpec)

/-- 'patrollaw03.HouseDistances', WHERE WHAT IT READS IS OF BULK AT MOST 1048576: true; the input reads as it did. -/
def houseDistancesUptoRow : OpenClaim := { program := "ytohfdkdjfoonjaagreatdoor", sum := "c2d0ebf30ae31599eb4cb5de477c8e93f810cbe8bf1dbd8deafe7b5afd1175b6", func := "patrol/patrollaw03.HouseDistances", spec := "houseDistances", inPlace := ["internal/abi.NoEscape", "internal/bytealg.MakeNoZero"], unfollowed := true, recurses := true, named := ["internal/strconv.uint64pow10", "math/bits.deBruijn32tab", "math/bits.deBruijn64tab"], apart := false, laid := [("math/bits.deBruijn32tab", laid_math_bits_deBruijn32tab), ("math/bits.deBruijn64tab", laid_math_bits_deBruijn64tab), ("internal/strconv.uint64pow10", laid_internal_strconv_uint64pow10)], narrowed := true }
def HouseDistancesUptoSaid : Prop := houseDistancesUptoRow.holds Tryz.pinned (OpenSpec.upto houseDistancesSpec)

/-- 'patrollaw03.HouseTours', WHERE WHAT IT READS IS OF BULK AT MOST 1048576: true; the input reads as it did. -/
def houseToursUptoRow : OpenClaim := { program := "ytohfdkdjfoonjaagreatdoor", sum := "c2d0ebf30ae31599eb4cb5de477c8e93f810cbe8bf1dbd8deafe7b5afd1175b6", func := "patrol/patrollaw03.HouseTours", spec := "houseTours", inPlace := ["internal/abi.NoEscape", "internal/bytealg.MakeNoZero"], unfollowed := true, recurses := true, named := ["internal/strconv.uint64pow10", "math/bits.deBruijn32tab", "math/bits.deBruijn64tab"], apart := false, laid := [("math/bits.deBruijn32tab", laid_math_bits_deBruijn32tab), ("math/bits.deBruijn64tab", laid_math_bits_deBruijn64tab), ("internal/strconv.uint64pow10", laid_internal_strconv_uint64pow10)], narrowed := true }
def HouseToursUptoSaid : Prop := houseToursUptoRow.holds Tryz.pinned (OpenSpec.upto houseToursSpec)

/-- 'patrollaw03.HouseShuts', WHERE WHAT IT READS IS OF BULK AT MOST 1048576: true; the input reads as it did. -/
def houseShutsUptoRow : OpenClaim := { program := "ytohfdkdjfoonjaagreatdoor", sum := "c2d0ebf30ae31599eb4cb5de477c8e93f810cbe8bf1dbd8deafe7b5afd1175b6", func := "patrol/patrollaw03.HouseShuts", spec := "houseShuts", inPlace := ["internal/abi.NoEscape", "internal/bytealg.MakeNoZero"], unfollowed := true, recurses := true, named := ["internal/strconv.uint64pow10", "math/bits.deBruijn32tab", "math/bits.deBruijn64tab"], apart := false, laid := [("math/bits.deBruijn32tab", laid_math_bits_deBruijn32tab), ("math/bits.deBruijn64tab", laid_math_bits_deBruijn64tab), ("internal/strconv.uint64pow10", laid_internal_strconv_uint64pow10)], narrowed := true }
def HouseShutsUptoSaid : Prop := houseShutsUptoRow.holds Tryz.pinned (OpenSpec.upto houseShutsSpec)

/-- 'patrollaw03.HouseNext', WHERE WHAT IT READS IS OF BULK AT MOST 1048576: true; the input reads as it did. -/
def houseNextUptoRow : OpenClaim := { program := "ytohfdkdjfoonjaagreatdoor", sum := "c2d0ebf30ae31599eb4cb5de477c8e93f810cbe8bf1dbd8deafe7b5afd1175b6", func := "patrol/patrollaw03.HouseNext", spec := "houseNext", inPlace := ["internal/abi.NoEscape", "internal/bytealg.MakeNoZero"], unfollowed := true, recurses := true, named := ["internal/strconv.uint64pow10", "math/bits.deBruijn32tab", "math/bits.deBruijn64tab"], apart := false, laid := [("math/bits.deBruijn32tab", laid_math_bits_deBruijn32tab), ("math/bits.deBruijn64tab", laid_math_bits_deBruijn64tab), ("internal/strconv.uint64pow10", laid_internal_strconv_uint64pow10)], narrowed := true }
def HouseNextUptoSaid : Prop := houseNextUptoRow.holds Tryz.pinned (OpenSpec.upto houseNextSpec)

/-- 'patrollaw03.HouseLater', WHERE WHAT IT READS IS OF BULK AT MOST 1048576: true; the input reads as it did. -/
def houseLaterUptoRow : OpenClaim := { program := "ytohfdkdjfoonjaagreatdoor", sum := "c2d0ebf30ae31599eb4cb5de477c8e93f810cbe8bf1dbd8deafe7b5afd1175b6", func := "patrol/patrollaw03.HouseLater", spec := "houseLater", inPlace := ["internal/abi.NoEscape", "internal/bytealg.MakeNoZero"], unfollowed := true, recurses := true, named := ["internal/strconv.uint64pow10", "math/bits.deBruijn32tab", "math/bits.deBruijn64tab"], apart := false, laid := [("math/bits.deBruijn32tab", laid_math_bits_deBruijn32tab), ("math/bits.deBruijn64tab", laid_math_bits_deBruijn64tab), ("internal/strconv.uint64pow10", laid_internal_strconv_uint64pow10)], narrowed := true }
def HouseLaterUptoSaid : Prop := houseLaterUptoRow.holds Tryz.pinned (OpenSpec.upto houseLaterSpec)

/-- 'patrollaw03.HouseWalked', WHERE WHAT IT READS IS OF BULK AT MOST 1048576: true; the input reads as it did. -/
def houseWalkedUptoRow : OpenClaim := { program := "ytohfdkdjfoonjaagreatdoor", sum := "c2d0ebf30ae31599eb4cb5de477c8e93f810cbe8bf1dbd8deafe7b5afd1175b6", func := "patrol/patrollaw03.HouseWalked", spec := "houseWalked", inPlace := ["internal/abi.NoEscape", "internal/bytealg.MakeNoZero"], unfollowed := true, recurses := true, named := ["internal/strconv.uint64pow10", "math/bits.deBruijn32tab", "math/bits.deBruijn64tab"], apart := false, laid := [("math/bits.deBruijn32tab", laid_math_bits_deBruijn32tab), ("math/bits.deBruijn64tab", laid_math_bits_deBruijn64tab), ("internal/strconv.uint64pow10", laid_internal_strconv_uint64pow10)], narrowed := true }
def HouseWalkedUptoSaid : Prop := houseWalkedUptoRow.holds Tryz.pinned (OpenSpec.upto houseWalkedSpec)

/-- 'patrollaw03.HouseBothWays', WHERE WHAT IT READS IS OF BULK AT MOST 1048576: true; the input reads as it did. -/
def houseBothWaysUptoRow : OpenClaim := { program := "ytohfdkdjfoonjaagreatdoor", sum := "c2d0ebf30ae31599eb4cb5de477c8e93f810cbe8bf1dbd8deafe7b5afd1175b6", func := "patrol/patrollaw03.HouseBothWays", spec := "houseBothWays", inPlace := ["internal/abi.NoEscape", "internal/bytealg.MakeNoZero"], unfollowed := true, recurses := true, named := ["internal/strconv.uint64pow10", "math/bits.deBruijn32tab", "math/bits.deBruijn64tab"], apart := false, laid := [("math/bits.deBruijn32tab", laid_math_bits_deBruijn32tab), ("math/bits.deBruijn64tab", laid_math_bits_deBruijn64tab), ("internal/strconv.uint64pow10", laid_internal_strconv_uint64pow10)], narrowed := true }
def HouseBothWaysUptoSaid : Prop := houseBothWaysUptoRow.holds Tryz.pinned (OpenSpec.upto houseBothWaysSpec)

/-- 'patrollaw03.HouseClosing', WHERE WHAT IT READS IS OF BULK AT MOST 1048576: true; the input reads as it did. -/
def houseClosingUptoRow : OpenClaim := { program := "ytohfdkdjfoonjaagreatdoor", sum := "c2d0ebf30ae31599eb4cb5de477c8e93f810cbe8bf1dbd8deafe7b5afd1175b6", func := "patrol/patrollaw03.HouseClosing", spec := "houseClosing", inPlace := ["internal/abi.NoEscape", "internal/bytealg.MakeNoZero"], unfollowed := true, recurses := true, named := ["internal/strconv.uint64pow10", "math/bits.deBruijn32tab", "math/bits.deBruijn64tab"], apart := false, laid := [("math/bits.deBruijn32tab", laid_math_bits_deBruijn32tab), ("math/bits.deBruijn64tab", laid_math_bits_deBruijn64tab), ("internal/strconv.uint64pow10", laid_internal_strconv_uint64pow10)], narrowed := true }
def HouseClosingUptoSaid : Prop := houseClosingUptoRow.holds Tryz.pinned (OpenSpec.upto houseClosingSpec)

/-- 'patrollaw03.HouseTriangle', WHERE WHAT IT READS IS OF BULK AT MOST 1048576: true; the input reads as it did. -/
def houseTriangleUptoRow : OpenClaim := { program := "ytohfdkdjfoonjaagreatdoor", sum := "c2d0ebf30ae31599eb4cb5de477c8e93f810cbe8bf1dbd8deafe7b5afd1175b6", func := "patrol/patrollaw03.HouseTriangle", spec := "houseTriangle", inPlace := ["internal/abi.NoEscape", "internal/bytealg.MakeNoZero"], unfollowed := true, recurses := true, named := ["internal/strconv.uint64pow10", "math/bits.deBruijn32tab", "math/bits.deBruijn64tab"], apart := false, laid := [("math/bits.deBruijn32tab", laid_math_bits_deBruijn32tab), ("math/bits.deBruijn64tab", laid_math_bits_deBruijn64tab), ("internal/strconv.uint64pow10", laid_internal_strconv_uint64pow10)], narrowed := true }
def HouseTriangleUptoSaid : Prop := houseTriangleUptoRow.holds Tryz.pinned (OpenSpec.upto houseTriangleSpec)

end Rows
end Go.Proofs.YtohfdkdjfoonjaaGreatDoor
