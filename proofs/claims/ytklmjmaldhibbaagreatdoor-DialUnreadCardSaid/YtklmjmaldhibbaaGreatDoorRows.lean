/-
  NARROWER THAN 'FOR EVERY INPUT', by the rows' own cells (each row's printed sentence says how): DialSets: laid · DialGrows: laid · DialKeys: laid · DialConfuses: laid · DialProposes: laid · DialMarks: laid · DialKnows: laid · DialMakers: laid · DialUnread: laid · DialTexts: laid · DialMembers: laid.
  DERIVED. THE GIVEN ROWS OF THIS SEAT. 11 by the template 'for every input the law returns true; each argument reads behind the call as it read before'; 0 by the template 'total and deterministic' (their statements: YtklmjmaldhibbaaGreatDoorTotals.lean).
  GIVEN WITH THE SEED: the statements are not yours to turn. If you find one false, say at which input.
  Laid BY PROGRAM, IN A SANDBOX (cutbox-rows.mjs): the forced cells as the released guide's own fill.sh prints them over the translation 6360094b7c2a0a53… (all of the seat's roots in one cut). By AI agents, Wed Nov 11 2026. No macro, syntax, notation, axiom, sorry.
-/
import Derived.Test.YtklmjmaldhibbaaGreatDoorChecked
import GoSem.PinnedTables
import GoSem.Claim
import GoSem.ClaimJoined
import GoSem.ClaimMapViews
import Derived.JoinedTies
import Derived.KernelRfl
namespace Go.Proofs.YtklmjmaldhibbaaGreatDoor
/- THE CELL 'sum', in the pinned program and in every row, IS THE sha256 OF THE DUMP (.gsa) THAT YtklmjmaldhibbaaGreatDoorProg.lean LOADS. Nothing in Lean hashes anything: it is a label: what it is worth is what the hold of that sum in a sandbox is worth. -/
noncomputable def Tryz.pinned : Pinned := { name := "ytklmjmaldhibbaagreatdoor", sum := "6360094b7c2a0a5315182f892496077f50ad2e73d0c37c392a444e7814641c58", checked := Tryz.checked }
namespace Rows
def none {H : Type} : Left H := { results := [], args := [] }

/- WHAT THE LISTED PACKAGE-LEVEL VARIABLES READ AS WHEN THE CALL BEGINS. Each datum BY PROGRAM (the guide's laid-datum.mjs) off the statement by which the dump's own 'gosem.cut.vars' lays the variable. In a bare row this is a premise. The card (YtklmjmaldhibbaaGreatDoorCards.lean) ties it to the program's text. -/
def laid_math_bits_deBruijn32tab {H : Type} : DataW H := .agg [.lit (.int .u8 0), .lit (.int .u8 1), .lit (.int .u8 28), .lit (.int .u8 2), .lit (.int .u8 29), .lit (.int .u8 14), .lit (.int .u8 24), .lit (.int .u8 3), .lit (.int .u8 30), .lit (.int .u8 22), .lit (.int .u8 20), .lit (.int .u8 15), .lit (.int .u8 25), .lit (.int .u8 17), .lit (.int .u8 4), .lit (.int .u8 8), .lit (.int .u8 31), .lit (.int .u8 27), .lit (.int .u8 13), .lit (.int .u8 23), .lit (.int .u8 21), .lit (.int .u8 19), .lit (.int .u8 16), .lit (.int .u8 7), .lit (.int .u8 26), .lit (.int .u8 12), .lit (.int .u8 18), .lit (.int .u8 6), .lit (.int .u8 11), .lit (.int .u8 5), .lit (.int .u8 10), .lit (.int .u8 9)]
def laid_math_bits_deBruijn64tab {H : Type} : DataW H := .agg [.lit (.int .u8 0), .lit (.int .u8 1), .lit (.int .u8 56), .lit (.int .u8 2), .lit (.int .u8 57), .lit (.int .u8 49), .lit (.int .u8 28), .lit (.int .u8 3), .lit (.int .u8 61), .lit (.int .u8 58), .lit (.int .u8 42), .lit (.int .u8 50), .lit (.int .u8 38), .lit (.int .u8 29), .lit (.int .u8 17), .lit (.int .u8 4), .lit (.int .u8 62), .lit (.int .u8 47), .lit (.int .u8 59), .lit (.int .u8 36), .lit (.int .u8 45), .lit (.int .u8 43), .lit (.int .u8 51), .lit (.int .u8 22), .lit (.int .u8 53), .lit (.int .u8 39), .lit (.int .u8 33), .lit (.int .u8 30), .lit (.int .u8 24), .lit (.int .u8 18), .lit (.int .u8 12), .lit (.int .u8 5), .lit (.int .u8 63), .lit (.int .u8 55), .lit (.int .u8 48), .lit (.int .u8 27), .lit (.int .u8 60), .lit (.int .u8 41), .lit (.int .u8 37), .lit (.int .u8 16), .lit (.int .u8 46), .lit (.int .u8 35), .lit (.int .u8 44), .lit (.int .u8 21), .lit (.int .u8 52), .lit (.int .u8 32), .lit (.int .u8 23), .lit (.int .u8 11), .lit (.int .u8 54), .lit (.int .u8 26), .lit (.int .u8 40), .lit (.int .u8 15), .lit (.int .u8 34), .lit (.int .u8 20), .lit (.int .u8 31), .lit (.int .u8 10), .lit (.int .u8 25), .lit (.int .u8 14), .lit (.int .u8 19), .lit (.int .u8 9), .lit (.int .u8 13), .lit (.int .u8 8), .lit (.int .u8 7), .lit (.int .u8 6)]
def laid_internal_strconv_uint64pow10 {H : Type} : DataW H := .agg [.lit (.int .u64 1), .lit (.int .u64 10), .lit (.int .u64 100), .lit (.int .u64 1000), .lit (.int .u64 10000), .lit (.int .u64 100000), .lit (.int .u64 1000000), .lit (.int .u64 10000000), .lit (.int .u64 100000000), .lit (.int .u64 1000000000), .lit (.int .u64 10000000000), .lit (.int .u64 100000000000), .lit (.int .u64 1000000000000), .lit (.int .u64 10000000000000), .lit (.int .u64 100000000000000), .lit (.int .u64 1000000000000000), .lit (.int .u64 10000000000000000), .lit (.int .u64 100000000000000000), .lit (.int .u64 1000000000000000000), .lit (.int .u64 10000000000000000000)]
def laid_patrol_dial_circle {H : Type} : DataW H := .agg [.lit (.int .i64 0), .lit (.int .i64 43199)]
def laid_unicode_utf8_acceptRanges {H : Type} : DataW H := .agg [.agg [.lit (.int .u8 128), .lit (.int .u8 191)], .agg [.lit (.int .u8 160), .lit (.int .u8 191)], .agg [.lit (.int .u8 128), .lit (.int .u8 159)], .agg [.lit (.int .u8 144), .lit (.int .u8 191)], .agg [.lit (.int .u8 128), .lit (.int .u8 143)], .agg [.lit (.int .u8 0), .lit (.int .u8 0)], .agg [.lit (.int .u8 0), .lit (.int .u8 0)], .agg [.lit (.int .u8 0), .lit (.int .u8 0)], .agg [.lit (.int .u8 0), .lit (.int .u8 0)], .agg [.lit (.int .u8 0), .lit (.int .u8 0)], .agg [.lit (.int .u8 0), .lit (.int .u8 0)], .agg [.lit (.int .u8 0), .lit (.int .u8 0)], .agg [.lit (.int .u8 0), .lit (.int .u8 0)], .agg [.lit (.int .u8 0), .lit (.int .u8 0)], .agg [.lit (.int .u8 0), .lit (.int .u8 0)], .agg [.lit (.int .u8 0), .lit (.int .u8 0)]]
def laid_strconv_ErrRange {H : Type} : DataW H := .iface "*errors.errorString" (.ptr (.agg [.lit (.string [118, 97, 108, 117, 101, 32, 111, 117, 116, 32, 111, 102, 32, 114, 97, 110, 103, 101])]))
def laid_strconv_ErrSyntax {H : Type} : DataW H := .iface "*errors.errorString" (.ptr (.agg [.lit (.string [105, 110, 118, 97, 108, 105, 100, 32, 115, 121, 110, 116, 97, 120])]))
/-- One of Go's own tables, pinned by name: the form's constant. -/
def laid_unicode_utf8_first : DataW Unit := Go.Pinned.utf8First

/-- 'patrollaw01.DialSets': WHATEVER THE INPUT: true; the input reads as it did. -/
def dialSetsSpec : ChangeSpec := { name := "dialSets", fn := fun _ => fun
  | [d1, d2] => { results := [.lit (.bool true)], args := [d1, d2] }
  | _ => none }
def dialSetsRow : OpenClaim := { program := "ytklmjmaldhibbaagreatdoor", sum := "6360094b7c2a0a5315182f892496077f50ad2e73d0c37c392a444e7814641c58", func := "patrol/patrollaw01.DialSets", spec := "dialSets", inPlace := ["internal/abi.NoEscape", "internal/bytealg.MakeNoZero"], unfollowed := true, recurses := true, named := ["patrol/dial.circle", "internal/strconv.uint64pow10", "math/bits.deBruijn32tab", "math/bits.deBruijn64tab"], apart := false, laid := [("math/bits.deBruijn32tab", laid_math_bits_deBruijn32tab), ("math/bits.deBruijn64tab", laid_math_bits_deBruijn64tab), ("internal/strconv.uint64pow10", laid_internal_strconv_uint64pow10), ("patrol/dial.circle", laid_patrol_dial_circle)] }
def DialSetsSaid : Prop := dialSetsRow.holds Tryz.pinned (OpenSpec.ofChange dialSetsSpec)

/-- ITS FALSE NEIGHBOUR: 'it returns false'. Refute it at one input. -/
def dialSetsWrong : ChangeSpec := { name := "dialSets", fn := fun _ => fun
  | [d1, d2] => { results := [.lit (.bool false)], args := [d1, d2] }
  | _ => none }
def DialSetsWrongFalsely : Prop := dialSetsRow.holds Tryz.pinned (OpenSpec.ofChange dialSetsWrong)

/-- 'patrollaw01.DialGrows': WHATEVER THE INPUT: true; the input reads as it did. -/
def dialGrowsSpec : ChangeSpec := { name := "dialGrows", fn := fun _ => fun
  | [d1, d2, d3] => { results := [.lit (.bool true)], args := [d1, d2, d3] }
  | _ => none }
def dialGrowsRow : OpenClaim := { program := "ytklmjmaldhibbaagreatdoor", sum := "6360094b7c2a0a5315182f892496077f50ad2e73d0c37c392a444e7814641c58", func := "patrol/patrollaw01.DialGrows", spec := "dialGrows", inPlace := ["internal/abi.NoEscape", "internal/bytealg.MakeNoZero"], unfollowed := true, recurses := true, named := ["patrol/dial.circle", "internal/strconv.uint64pow10", "math/bits.deBruijn32tab", "math/bits.deBruijn64tab"], apart := false, laid := [("math/bits.deBruijn32tab", laid_math_bits_deBruijn32tab), ("math/bits.deBruijn64tab", laid_math_bits_deBruijn64tab), ("internal/strconv.uint64pow10", laid_internal_strconv_uint64pow10), ("patrol/dial.circle", laid_patrol_dial_circle)] }
def DialGrowsSaid : Prop := dialGrowsRow.holds Tryz.pinned (OpenSpec.ofChange dialGrowsSpec)

/-- ITS FALSE NEIGHBOUR: 'it returns false'. Refute it at one input. -/
def dialGrowsWrong : ChangeSpec := { name := "dialGrows", fn := fun _ => fun
  | [d1, d2, d3] => { results := [.lit (.bool false)], args := [d1, d2, d3] }
  | _ => none }
def DialGrowsWrongFalsely : Prop := dialGrowsRow.holds Tryz.pinned (OpenSpec.ofChange dialGrowsWrong)

/-- 'patrollaw01.DialKeys': WHATEVER THE INPUT: true; the input reads as it did. -/
def dialKeysSpec : ChangeSpec := { name := "dialKeys", fn := fun _ => fun
  | [d1, d2] => { results := [.lit (.bool true)], args := [d1, d2] }
  | _ => none }
def dialKeysRow : OpenClaim := { program := "ytklmjmaldhibbaagreatdoor", sum := "6360094b7c2a0a5315182f892496077f50ad2e73d0c37c392a444e7814641c58", func := "patrol/patrollaw01.DialKeys", spec := "dialKeys", inPlace := ["internal/abi.NoEscape", "internal/bytealg.MakeNoZero"], unfollowed := true, recurses := true, named := ["patrol/dial.circle", "internal/strconv.uint64pow10", "math/bits.deBruijn32tab", "math/bits.deBruijn64tab"], apart := false, laid := [("math/bits.deBruijn32tab", laid_math_bits_deBruijn32tab), ("math/bits.deBruijn64tab", laid_math_bits_deBruijn64tab), ("internal/strconv.uint64pow10", laid_internal_strconv_uint64pow10), ("patrol/dial.circle", laid_patrol_dial_circle)] }
def DialKeysSaid : Prop := dialKeysRow.holds Tryz.pinned (OpenSpec.ofChange dialKeysSpec)

/-- ITS FALSE NEIGHBOUR: 'it returns false'. Refute it at one input. -/
def dialKeysWrong : ChangeSpec := { name := "dialKeys", fn := fun _ => fun
  | [d1, d2] => { results := [.lit (.bool false)], args := [d1, d2] }
  | _ => none }
def DialKeysWrongFalsely : Prop := dialKeysRow.holds Tryz.pinned (OpenSpec.ofChange dialKeysWrong)

/-- 'patrollaw01.DialConfuses': WHATEVER THE INPUT: true; the input reads as it did. -/
def dialConfusesSpec : ChangeSpec := { name := "dialConfuses", fn := fun _ => fun
  | [d1, d2, d3] => { results := [.lit (.bool true)], args := [d1, d2, d3] }
  | _ => none }
def dialConfusesRow : OpenClaim := { program := "ytklmjmaldhibbaagreatdoor", sum := "6360094b7c2a0a5315182f892496077f50ad2e73d0c37c392a444e7814641c58", func := "patrol/patrollaw01.DialConfuses", spec := "dialConfuses", inPlace := ["internal/abi.NoEscape", "internal/bytealg.MakeNoZero"], unfollowed := true, recurses := true, named := ["patrol/dial.circle", "internal/strconv.uint64pow10", "math/bits.deBruijn32tab", "math/bits.deBruijn64tab"], apart := false, laid := [("math/bits.deBruijn32tab", laid_math_bits_deBruijn32tab), ("math/bits.deBruijn64tab", laid_math_bits_deBruijn64tab), ("internal/strconv.uint64pow10", laid_internal_strconv_uint64pow10), ("patrol/dial.circle", laid_patrol_dial_circle)] }
def DialConfusesSaid : Prop := dialConfusesRow.holds Tryz.pinned (OpenSpec.ofChange dialConfusesSpec)

/-- ITS FALSE NEIGHBOUR: 'it returns false'. Refute it at one input. -/
def dialConfusesWrong : ChangeSpec := { name := "dialConfuses", fn := fun _ => fun
  | [d1, d2, d3] => { results := [.lit (.bool false)], args := [d1, d2, d3] }
  | _ => none }
def DialConfusesWrongFalsely : Prop := dialConfusesRow.holds Tryz.pinned (OpenSpec.ofChange dialConfusesWrong)

/-- 'patrollaw01.DialProposes': WHATEVER THE INPUT: true; the input reads as it did. -/
def dialProposesSpec : ChangeSpec := { name := "dialProposes", fn := fun _ => fun
  | [d1, d2, d3, d4, d5] => { results := [.lit (.bool true)], args := [d1, d2, d3, d4, d5] }
  | _ => none }
def dialProposesRow : OpenClaim := { program := "ytklmjmaldhibbaagreatdoor", sum := "6360094b7c2a0a5315182f892496077f50ad2e73d0c37c392a444e7814641c58", func := "patrol/patrollaw01.DialProposes", spec := "dialProposes", inPlace := ["internal/abi.NoEscape", "internal/bytealg.MakeNoZero"], unfollowed := true, recurses := true, named := ["patrol/dial.circle", "internal/strconv.uint64pow10", "math/bits.deBruijn32tab", "math/bits.deBruijn64tab"], apart := false, laid := [("math/bits.deBruijn32tab", laid_math_bits_deBruijn32tab), ("math/bits.deBruijn64tab", laid_math_bits_deBruijn64tab), ("internal/strconv.uint64pow10", laid_internal_strconv_uint64pow10), ("patrol/dial.circle", laid_patrol_dial_circle)] }
def DialProposesSaid : Prop := dialProposesRow.holds Tryz.pinned (OpenSpec.ofChange dialProposesSpec)

/-- ITS FALSE NEIGHBOUR: 'it returns false'. Refute it at one input. -/
def dialProposesWrong : ChangeSpec := { name := "dialProposes", fn := fun _ => fun
  | [d1, d2, d3, d4, d5] => { results := [.lit (.bool false)], args := [d1, d2, d3, d4, d5] }
  | _ => none }
def DialProposesWrongFalsely : Prop := dialProposesRow.holds Tryz.pinned (OpenSpec.ofChange dialProposesWrong)

/-- 'patrollaw01.DialMarks': WHATEVER THE INPUT: true; the input reads as it did. -/
def dialMarksSpec : ChangeSpec := { name := "dialMarks", fn := fun _ => fun
  | [d1, d2, d3, d4, d5, d6, d7] => { results := [.lit (.bool true)], args := [d1, d2, d3, d4, d5, d6, d7] }
  | _ => none }
def dialMarksRow : OpenClaim := { program := "ytklmjmaldhibbaagreatdoor", sum := "6360094b7c2a0a5315182f892496077f50ad2e73d0c37c392a444e7814641c58", func := "patrol/patrollaw01.DialMarks", spec := "dialMarks", inPlace := ["internal/abi.NoEscape", "internal/bytealg.MakeNoZero"], unfollowed := true, recurses := true, named := ["patrol/dial.circle", "internal/strconv.uint64pow10", "math/bits.deBruijn32tab", "math/bits.deBruijn64tab"], apart := false, laid := [("math/bits.deBruijn32tab", laid_math_bits_deBruijn32tab), ("math/bits.deBruijn64tab", laid_math_bits_deBruijn64tab), ("internal/strconv.uint64pow10", laid_internal_strconv_uint64pow10), ("patrol/dial.circle", laid_patrol_dial_circle)] }
def DialMarksSaid : Prop := dialMarksRow.holds Tryz.pinned (OpenSpec.ofChange dialMarksSpec)

/-- ITS FALSE NEIGHBOUR: 'it returns false'. Refute it at one input. -/
def dialMarksWrong : ChangeSpec := { name := "dialMarks", fn := fun _ => fun
  | [d1, d2, d3, d4, d5, d6, d7] => { results := [.lit (.bool false)], args := [d1, d2, d3, d4, d5, d6, d7] }
  | _ => none }
def DialMarksWrongFalsely : Prop := dialMarksRow.holds Tryz.pinned (OpenSpec.ofChange dialMarksWrong)

/-- 'patrollaw01.DialKnows': WHATEVER THE INPUT: true; the input reads as it did. -/
def dialKnowsSpec : ChangeSpec := { name := "dialKnows", fn := fun _ => fun
  | [d1, d2, d3, d4] => { results := [.lit (.bool true)], args := [d1, d2, d3, d4] }
  | _ => none }
def dialKnowsRow : OpenClaim := { program := "ytklmjmaldhibbaagreatdoor", sum := "6360094b7c2a0a5315182f892496077f50ad2e73d0c37c392a444e7814641c58", func := "patrol/patrollaw01.DialKnows", spec := "dialKnows", inPlace := ["internal/abi.NoEscape", "internal/bytealg.MakeNoZero"], unfollowed := true, recurses := true, named := ["patrol/dial.circle", "internal/strconv.uint64pow10", "math/bits.deBruijn32tab", "math/bits.deBruijn64tab"], apart := false, laid := [("math/bits.deBruijn32tab", laid_math_bits_deBruijn32tab), ("math/bits.deBruijn64tab", laid_math_bits_deBruijn64tab), ("internal/strconv.uint64pow10", laid_internal_strconv_uint64pow10), ("patrol/dial.circle", laid_patrol_dial_circle)] }
def DialKnowsSaid : Prop := dialKnowsRow.holds Tryz.pinned (OpenSpec.ofChange dialKnowsSpec)

/-- ITS FALSE NEIGHBOUR: 'it returns false'. Refute it at one input. -/
def dialKnowsWrong : ChangeSpec := { name := "dialKnows", fn := fun _ => fun
  | [d1, d2, d3, d4] => { results := [.lit (.bool false)], args := [d1, d2, d3, d4] }
  | _ => none }
def DialKnowsWrongFalsely : Prop := dialKnowsRow.holds Tryz.pinned (OpenSpec.ofChange dialKnowsWrong)

/-- 'patrollaw01.DialMakers': WHATEVER THE INPUT: true; the input reads as it did. -/
def dialMakersSpec : ChangeSpec := { name := "dialMakers", fn := fun _ => fun
  | [d1, d2, d3, d4] => { results := [.lit (.bool true)], args := [d1, d2, d3, d4] }
  | _ => none }
def dialMakersRow : OpenClaim := { program := "ytklmjmaldhibbaagreatdoor", sum := "6360094b7c2a0a5315182f892496077f50ad2e73d0c37c392a444e7814641c58", func := "patrol/patrollaw01.DialMakers", spec := "dialMakers", inPlace := ["internal/abi.NoEscape", "internal/bytealg.MakeNoZero"], unfollowed := true, recurses := true, named := ["patrol/dial.circle", "internal/strconv.uint64pow10", "math/bits.deBruijn32tab", "math/bits.deBruijn64tab"], apart := false, laid := [("math/bits.deBruijn32tab", laid_math_bits_deBruijn32tab), ("math/bits.deBruijn64tab", laid_math_bits_deBruijn64tab), ("internal/strconv.uint64pow10", laid_internal_strconv_uint64pow10), ("patrol/dial.circle", laid_patrol_dial_circle)] }
def DialMakersSaid : Prop := dialMakersRow.holds Tryz.pinned (OpenSpec.ofChange dialMakersSpec)

/-- ITS FALSE NEIGHBOUR: 'it returns false'. Refute it at one input. -/
def dialMakersWrong : ChangeSpec := { name := "dialMakers", fn := fun _ => fun
  | [d1, d2, d3, d4] => { results := [.lit (.bool false)], args := [d1, d2, d3, d4] }
  | _ => none }
def DialMakersWrongFalsely : Prop := dialMakersRow.holds Tryz.pinned (OpenSpec.ofChange dialMakersWrong)

/-- 'patrollaw01.DialUnread': WHATEVER THE INPUT: true; the input reads as it did. -/
def dialUnreadSpec : ChangeSpec := { name := "dialUnread", fn := fun _ => fun
  | [d1, d2, d3] => { results := [.lit (.bool true)], args := [d1, d2, d3] }
  | _ => none }
def dialUnreadRow : OpenClaim := { program := "ytklmjmaldhibbaagreatdoor", sum := "6360094b7c2a0a5315182f892496077f50ad2e73d0c37c392a444e7814641c58", func := "patrol/patrollaw01.DialUnread", spec := "dialUnread", inPlace := ["internal/abi.NoEscape", "internal/bytealg.MakeNoZero"], unfollowed := true, recurses := true, named := ["patrol/dial.circle", "internal/strconv.uint64pow10", "math/bits.deBruijn32tab", "math/bits.deBruijn64tab"], apart := false, laid := [("math/bits.deBruijn32tab", laid_math_bits_deBruijn32tab), ("math/bits.deBruijn64tab", laid_math_bits_deBruijn64tab), ("internal/strconv.uint64pow10", laid_internal_strconv_uint64pow10), ("patrol/dial.circle", laid_patrol_dial_circle)] }
def DialUnreadSaid : Prop := dialUnreadRow.holds Tryz.pinned (OpenSpec.ofChange dialUnreadSpec)

/-- ITS FALSE NEIGHBOUR: 'it returns false'. Refute it at one input. -/
def dialUnreadWrong : ChangeSpec := { name := "dialUnread", fn := fun _ => fun
  | [d1, d2, d3] => { results := [.lit (.bool false)], args := [d1, d2, d3] }
  | _ => none }
def DialUnreadWrongFalsely : Prop := dialUnreadRow.holds Tryz.pinned (OpenSpec.ofChange dialUnreadWrong)

/-- 'patrollaw01.DialTexts': WHATEVER THE INPUT: true; the input reads as it did. -/
def dialTextsSpec : ChangeSpec := { name := "dialTexts", fn := fun _ => fun
  | [d1, d2] => { results := [.lit (.bool true)], args := [d1, d2] }
  | _ => none }
def dialTextsRow : OpenClaim := { program := "ytklmjmaldhibbaagreatdoor", sum := "6360094b7c2a0a5315182f892496077f50ad2e73d0c37c392a444e7814641c58", func := "patrol/patrollaw01.DialTexts", spec := "dialTexts", inPlace := ["internal/abi.NoEscape", "internal/bytealg.MakeNoZero", "internal/bytealg.IndexByteString", "internal/bytealg.CountString", "internal/bytealg.IndexString"], unfollowed := true, recurses := true, named := ["patrol/dial.circle", "internal/strconv.uint64pow10", "math/bits.deBruijn32tab", "math/bits.deBruijn64tab", "unicode/utf8.first", "unicode/utf8.acceptRanges", "internal/bytealg.MaxLen", "strconv.ErrSyntax", "strconv.ErrRange"], apart := false, laid := [("math/bits.deBruijn32tab", laid_math_bits_deBruijn32tab), ("math/bits.deBruijn64tab", laid_math_bits_deBruijn64tab), ("internal/strconv.uint64pow10", laid_internal_strconv_uint64pow10), ("unicode/utf8.acceptRanges", laid_unicode_utf8_acceptRanges), ("strconv.ErrRange", laid_strconv_ErrRange), ("strconv.ErrSyntax", laid_strconv_ErrSyntax), ("patrol/dial.circle", laid_patrol_dial_circle), ("unicode/utf8.first", laid_unicode_utf8_first)] }
def DialTextsSaid : Prop := dialTextsRow.holds Tryz.pinned (OpenSpec.ofChange dialTextsSpec)

/-- ITS FALSE NEIGHBOUR: 'it returns false'. Refute it at one input. -/
def dialTextsWrong : ChangeSpec := { name := "dialTexts", fn := fun _ => fun
  | [d1, d2] => { results := [.lit (.bool false)], args := [d1, d2] }
  | _ => none }
def DialTextsWrongFalsely : Prop := dialTextsRow.holds Tryz.pinned (OpenSpec.ofChange dialTextsWrong)

/-- 'patrollaw01.DialMembers': WHATEVER THE INPUT: true; the input reads as it did. -/
def dialMembersSpec : ChangeSpec := { name := "dialMembers", fn := fun _ => fun
  | [d1, d2, d3, d4] => { results := [.lit (.bool true)], args := [d1, d2, d3, d4] }
  | _ => none }
def dialMembersRow : OpenClaim := { program := "ytklmjmaldhibbaagreatdoor", sum := "6360094b7c2a0a5315182f892496077f50ad2e73d0c37c392a444e7814641c58", func := "patrol/patrollaw01.DialMembers", spec := "dialMembers", inPlace := ["internal/abi.NoEscape", "internal/bytealg.MakeNoZero"], unfollowed := true, recurses := true, named := ["patrol/dial.circle", "internal/strconv.uint64pow10", "math/bits.deBruijn32tab", "math/bits.deBruijn64tab"], apart := false, laid := [("math/bits.deBruijn32tab", laid_math_bits_deBruijn32tab), ("math/bits.deBruijn64tab", laid_math_bits_deBruijn64tab), ("internal/strconv.uint64pow10", laid_internal_strconv_uint64pow10), ("patrol/dial.circle", laid_patrol_dial_circle)] }
def DialMembersSaid : Prop := dialMembersRow.holds Tryz.pinned (OpenSpec.ofChange dialMembersSpec)

/-- ITS FALSE NEIGHBOUR: 'it returns false'. Refute it at one input. -/
def dialMembersWrong : ChangeSpec := { name := "dialMembers", fn := fun _ => fun
  | [d1, d2, d3, d4] => { results := [.lit (.bool false)], args := [d1, d2, d3, d4] }
  | _ => none }
def DialMembersWrongFalsely : Prop := dialMembersRow.holds Tryz.pinned (OpenSpec.ofChange dialMembersWrong)

/- THE SECOND FORM. 'bulk': how many values and letters a reading holds, each counted each time it is reached (what is shared counts as often as it is met; a slice's spare places count too). A statement '..UptoSaid' is the law's where the arguments, and the package variables that the reading takes, are together of bulk at most 1048576: NARROWER than '..Said'. Prove '..Said' where nothing that the law and all that it calls make is longer than what came in: it says more and counts as full. Else prove '..UptoSaid'. A law counts once. -/
mutual
def uptoBulk {H : Type} : DataW H → Nat
  | .lit (.string bytes) => bytes.length + 1
  | .lit _ => 1
  | .nil => 1
  | .ptr d => uptoBulk d + 1
  | .slice elems spare => uptoBulkAll elems + uptoBulkAll spare + 1
  | .agg parts => uptoBulkAll parts + 1
  | .iface _ d => uptoBulk d + 1
  | .map entries => uptoBulkEntries entries + 1
  | .held _ => 1
def uptoBulkAll {H : Type} : List (DataW H) → Nat
  | [] => 0
  | d :: r => uptoBulk d + uptoBulkAll r
def uptoBulkEntries {H : Type} : List (Lit × DataW H) → Nat
  | [] => 0
  | x :: r => uptoBulkEntry x + uptoBulkEntries r
def uptoBulkEntry {H : Type} : Lit × DataW H → Nat
  | (.string bytes, d) => bytes.length + uptoBulk d + 1
  | (_, d) => uptoBulk d + 1
 end
def uptoSmall : (H : Type) → List (DataW H) → Bool := fun _ ds => decide (uptoBulkAll ds ≤ 1048576)
def OpenSpec.upto (s : _root_.Go.ChangeSpec) : _root_.Go.OpenSpec := { _root_.Go.OpenSpec.ofChange s with cond := some uptoSmall }

/-- 'patrollaw01.DialSets', WHERE WHAT IT READS IS OF BULK AT MOST 1048576: true; the input reads as it did. -/
def dialSetsUptoRow : OpenClaim := { program := "ytklmjmaldhibbaagreatdoor", sum := "6360094b7c2a0a5315182f892496077f50ad2e73d0c37c392a444e7814641c58", func := "patrol/patrollaw01.DialSets", spec := "dialSets", inPlace := ["internal/abi.NoEscape", "internal/bytealg.MakeNoZero"], unfollowed := true, recurses := true, named := ["patrol/dial.circle", "internal/strconv.uint64pow10", "math/bits.deBruijn32tab", "math/bits.deBruijn64tab"], apart := false, laid := [("math/bits.deBruijn32tab", laid_math_bits_deBruijn32tab), ("math/bits.deBruijn64tab", laid_math_bits_deBruijn64tab), ("internal/strconv.uint64pow10", laid_internal_strconv_uint64pow10), ("patrol/dial.circle", laid_patrol_dial_circle)], narrowed := true }
def DialSetsUptoSaid : Prop := dialSetsUptoRow.holds Tryz.pinned (OpenSpec.upto dialSetsSpec)

/-- 'patrollaw01.DialGrows', WHERE WHAT IT READS IS OF BULK AT MOST 1048576: true; the input reads as it did. -/
def dialGrowsUptoRow : OpenClaim := { program := "ytklmjmaldhibbaagreatdoor", sum := "6360094b7c2a0a5315182f892496077f50ad2e73d0c37c392a444e7814641c58", func := "patrol/patrollaw01.DialGrows", spec := "dialGrows", inPlace := ["internal/abi.NoEscape", "internal/bytealg.MakeNoZero"], unfollowed := true, recurses := true, named := ["patrol/dial.circle", "internal/strconv.uint64pow10", "math/bits.deBruijn32tab", "math/bits.deBruijn64tab"], apart := false, laid := [("math/bits.deBruijn32tab", laid_math_bits_deBruijn32tab), ("math/bits.deBruijn64tab", laid_math_bits_deBruijn64tab), ("internal/strconv.uint64pow10", laid_internal_strconv_uint64pow10), ("patrol/dial.circle", laid_patrol_dial_circle)], narrowed := true }
def DialGrowsUptoSaid : Prop := dialGrowsUptoRow.holds Tryz.pinned (OpenSpec.upto dialGrowsSpec)

/-- 'patrollaw01.DialKeys', WHERE WHAT IT READS IS OF BULK AT MOST 1048576: true; the input reads as it did. -/
def dialKeysUptoRow : OpenClaim := { program := "ytklmjmaldhibbaagreatdoor", sum := "6360094b7c2a0a5315182f892496077f50ad2e73d0c37c392a444e7814641c58", func := "patrol/patrollaw01.DialKeys", spec := "dialKeys", inPlace := ["internal/abi.NoEscape", "internal/bytealg.MakeNoZero"], unfollowed := true, recurses := true, named := ["patrol/dial.circle", "internal/strconv.uint64pow10", "math/bits.deBruijn32tab", "math/bits.deBruijn64tab"], apart := false, laid := [("math/bits.deBruijn32tab", laid_math_bits_deBruijn32tab), ("math/bits.deBruijn64tab", laid_math_bits_deBruijn64tab), ("internal/strconv.uint64pow10", laid_internal_strconv_uint64pow10), ("patrol/dial.circle", laid_patrol_dial_circle)], narrowed := true }
def DialKeysUptoSaid : Prop := dialKeysUptoRow.holds Tryz.pinned (OpenSpec.upto dialKeysSpec)

/-- 'patrollaw01.DialConfuses', WHERE WHAT IT READS IS OF BULK AT MOST 1048576: true; the input reads as it did. -/
def dialConfusesUptoRow : OpenClaim := { program := "ytklmjmaldhibbaagreatdoor", sum := "6360094b7c2a0a5315182f892496077f50ad2e73d0c37c392a444e7814641c58", func := "patrol/patrollaw01.DialConfuses", spec := "dialConfuses", inPlace := ["internal/abi.NoEscape", "internal/bytealg.MakeNoZero"], unfollowed := true, recurses := true, named := ["patrol/dial.circle", "internal/strconv.uint64pow10", "math/bits.deBruijn32tab", "math/bits.deBruijn64tab"], apart := false, laid := [("math/bits.deBruijn32tab", laid_math_bits_deBruijn32tab), ("math/bits.deBruijn64tab", laid_math_bits_deBruijn64tab), ("internal/strconv.uint64pow10", laid_internal_strconv_uint64pow10), ("patrol/dial.circle", laid_patrol_dial_circle)], narrowed := true }
def DialConfusesUptoSaid : Prop := dialConfusesUptoRow.holds Tryz.pinned (OpenSpec.upto dialConfusesSpec)

/-- 'patrollaw01.DialProposes', WHERE WHAT IT READS IS OF BULK AT MOST 1048576: true; the input reads as it did. -/
def dialProposesUptoRow : OpenClaim := { program := "ytklmjmaldhibbaagreatdoor", sum := "6360094b7c2a0a5315182f892496077f50ad2e73d0c37c392a444e7814641c58", func := "patrol/patrollaw01.DialProposes", spec := "dialProposes", inPlace := ["internal/abi.NoEscape", "internal/bytealg.MakeNoZero"], unfollowed := true, recurses := true, named := ["patrol/dial.circle", "internal/strconv.uint64pow10", "math/bits.deBruijn32tab", "math/bits.deBruijn64tab"], apart := false, laid := [("math/bits.deBruijn32tab", laid_math_bits_deBruijn32tab), ("math/bits.deBruijn64tab", laid_math_bits_deBruijn64tab), ("internal/strconv.uint64pow10", laid_internal_strconv_uint64pow10), ("patrol/dial.circle", laid_patrol_dial_circle)], narrowed := true }
def DialProposesUptoSaid : Prop := dialProposesUptoRow.holds Tryz.pinned (OpenSpec.upto dialProposesSpec)

/-- 'patrollaw01.DialMarks', WHERE WHAT IT READS IS OF BULK AT MOST 1048576: true; the input reads as it did. -/
def dialMarksUptoRow : OpenClaim := { program := "ytklmjmaldhibbaagreatdoor", sum := "6360094b7c2a0a5315182f892496077f50ad2e73d0c37c392a444e7814641c58", func := "patrol/patrollaw01.DialMarks", spec := "dialMarks", inPlace := ["internal/abi.NoEscape", "internal/bytealg.MakeNoZero"], unfollowed := true, recurses := true, named := ["patrol/dial.circle", "internal/strconv.uint64pow10", "math/bits.deBruijn32tab", "math/bits.deBruijn64tab"], apart := false, laid := [("math/bits.deBruijn32tab", laid_math_bits_deBruijn32tab), ("math/bits.deBruijn64tab", laid_math_bits_deBruijn64tab), ("internal/strconv.uint64pow10", laid_internal_strconv_uint64pow10), ("patrol/dial.circle", laid_patrol_dial_circle)], narrowed := true }
def DialMarksUptoSaid : Prop := dialMarksUptoRow.holds Tryz.pinned (OpenSpec.upto dialMarksSpec)

/-- 'patrollaw01.DialKnows', WHERE WHAT IT READS IS OF BULK AT MOST 1048576: true; the input reads as it did. -/
def dialKnowsUptoRow : OpenClaim := { program := "ytklmjmaldhibbaagreatdoor", sum := "6360094b7c2a0a5315182f892496077f50ad2e73d0c37c392a444e7814641c58", func := "patrol/patrollaw01.DialKnows", spec := "dialKnows", inPlace := ["internal/abi.NoEscape", "internal/bytealg.MakeNoZero"], unfollowed := true, recurses := true, named := ["patrol/dial.circle", "internal/strconv.uint64pow10", "math/bits.deBruijn32tab", "math/bits.deBruijn64tab"], apart := false, laid := [("math/bits.deBruijn32tab", laid_math_bits_deBruijn32tab), ("math/bits.deBruijn64tab", laid_math_bits_deBruijn64tab), ("internal/strconv.uint64pow10", laid_internal_strconv_uint64pow10), ("patrol/dial.circle", laid_patrol_dial_circle)], narrowed := true }
def DialKnowsUptoSaid : Prop := dialKnowsUptoRow.holds Tryz.pinned (OpenSpec.upto dialKnowsSpec)

/-- 'patrollaw01.DialMakers', WHERE WHAT IT READS IS OF BULK AT MOST 1048576: true; the input reads as it did. -/
def dialMakersUptoRow : OpenClaim := { program := "ytklmjmaldhibbaagreatdoor", sum := "6360094b7c2a0a5315182f892496077f50ad2e73d0c37c392a444e7814641c58", func := "patrol/patrollaw01.DialMakers", spec := "dialMakers", inPlace := ["internal/abi.NoEscape", "internal/bytealg.MakeNoZero"], unfollowed := true, recurses := true, named := ["patrol/dial.circle", "internal/strconv.uint64pow10", "math/bits.deBruijn32tab", "math/bits.deBruijn64tab"], apart := false, laid := [("math/bits.deBruijn32tab", laid_math_bits_deBruijn32tab), ("math/bits.deBruijn64tab", laid_math_bits_deBruijn64tab), ("internal/strconv.uint64pow10", laid_internal_strconv_uint64pow10), ("patrol/dial.circle", laid_patrol_dial_circle)], narrowed := true }
def DialMakersUptoSaid : Prop := dialMakersUptoRow.holds Tryz.pinned (OpenSpec.upto dialMakersSpec)

/-- 'patrollaw01.DialUnread', WHERE WHAT IT READS IS OF BULK AT MOST 1048576: true; the input reads as it did. -/
def dialUnreadUptoRow : OpenClaim := { program := "ytklmjmaldhibbaagreatdoor", sum := "6360094b7c2a0a5315182f892496077f50ad2e73d0c37c392a444e7814641c58", func := "patrol/patrollaw01.DialUnread", spec := "dialUnread", inPlace := ["internal/abi.NoEscape", "internal/bytealg.MakeNoZero"], unfollowed := true, recurses := true, named := ["patrol/dial.circle", "internal/strconv.uint64pow10", "math/bits.deBruijn32tab", "math/bits.deBruijn64tab"], apart := false, laid := [("math/bits.deBruijn32tab", laid_math_bits_deBruijn32tab), ("math/bits.deBruijn64tab", laid_math_bits_deBruijn64tab), ("internal/strconv.uint64pow10", laid_internal_strconv_uint64pow10), ("patrol/dial.circle", laid_patrol_dial_circle)], narrowed := true }
def DialUnreadUptoSaid : Prop := dialUnreadUptoRow.holds Tryz.pinned (OpenSpec.upto dialUnreadSpec)

/-- 'patrollaw01.DialTexts', WHERE WHAT IT READS IS OF BULK AT MOST 1048576: true; the input reads as it did. -/
def dialTextsUptoRow : OpenClaim := { program := "ytklmjmaldhibbaagreatdoor", sum := "6360094b7c2a0a5315182f892496077f50ad2e73d0c37c392a444e7814641c58", func := "patrol/patrollaw01.DialTexts", spec := "dialTexts", inPlace := ["internal/abi.NoEscape", "internal/bytealg.MakeNoZero", "internal/bytealg.IndexByteString", "internal/bytealg.CountString", "internal/bytealg.IndexString"], unfollowed := true, recurses := true, named := ["patrol/dial.circle", "internal/strconv.uint64pow10", "math/bits.deBruijn32tab", "math/bits.deBruijn64tab", "unicode/utf8.first", "unicode/utf8.acceptRanges", "internal/bytealg.MaxLen", "strconv.ErrSyntax", "strconv.ErrRange"], apart := false, laid := [("math/bits.deBruijn32tab", laid_math_bits_deBruijn32tab), ("math/bits.deBruijn64tab", laid_math_bits_deBruijn64tab), ("internal/strconv.uint64pow10", laid_internal_strconv_uint64pow10), ("unicode/utf8.acceptRanges", laid_unicode_utf8_acceptRanges), ("strconv.ErrRange", laid_strconv_ErrRange), ("strconv.ErrSyntax", laid_strconv_ErrSyntax), ("patrol/dial.circle", laid_patrol_dial_circle), ("unicode/utf8.first", laid_unicode_utf8_first)], narrowed := true }
def DialTextsUptoSaid : Prop := dialTextsUptoRow.holds Tryz.pinned (OpenSpec.upto dialTextsSpec)

/-- 'patrollaw01.DialMembers', WHERE WHAT IT READS IS OF BULK AT MOST 1048576: true; the input reads as it did. -/
def dialMembersUptoRow : OpenClaim := { program := "ytklmjmaldhibbaagreatdoor", sum := "6360094b7c2a0a5315182f892496077f50ad2e73d0c37c392a444e7814641c58", func := "patrol/patrollaw01.DialMembers", spec := "dialMembers", inPlace := ["internal/abi.NoEscape", "internal/bytealg.MakeNoZero"], unfollowed := true, recurses := true, named := ["patrol/dial.circle", "internal/strconv.uint64pow10", "math/bits.deBruijn32tab", "math/bits.deBruijn64tab"], apart := false, laid := [("math/bits.deBruijn32tab", laid_math_bits_deBruijn32tab), ("math/bits.deBruijn64tab", laid_math_bits_deBruijn64tab), ("internal/strconv.uint64pow10", laid_internal_strconv_uint64pow10), ("patrol/dial.circle", laid_patrol_dial_circle)], narrowed := true }
def DialMembersUptoSaid : Prop := dialMembersUptoRow.holds Tryz.pinned (OpenSpec.upto dialMembersSpec)

end Rows
end Go.Proofs.YtklmjmaldhibbaaGreatDoor
