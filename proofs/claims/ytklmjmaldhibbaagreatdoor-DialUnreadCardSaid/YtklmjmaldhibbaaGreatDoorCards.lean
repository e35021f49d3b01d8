/-
  DERIVED. GIVEN WITH THE SEED: THE CARDS: each row of YtklmjmaldhibbaaGreatDoorRows.lean that lists a variable, with what it lists TIED to the program's text (the seventh form; the later family's looks); each row that meets fmt, with fmt's text TOLD by the authors' own Lean function (tested against real Go, not proved from fmt's source: count such statements apart). THE CARD IS WHAT COUNTS. Prove the row's statement (the work); the ties are given (YtklmjmaldhibbaaGreatDoorTie.lean); close each card by the builder's one call (the guide's Derived/Test/ToyasCard.lean, 'card_holds'). Laid BY PROGRAM, IN A SANDBOX (cutbox-door.mjs). By AI agents, Wed Nov 11 2026. No macro, syntax, notation, axiom, sorry.
-/
import Derived.Test.YtklmjmaldhibbaaGreatDoorRows
import GoSem.ClaimSeven
namespace Go.Proofs.YtklmjmaldhibbaaGreatDoor
namespace Rows

/-- THE TIED CARD OF 'patrollaw01.DialSets'. -/
def dialSetsCard : Claim7 := { stood := { row := dialSetsRow, standIns := [], harness := (true, "bdccf27b1b96963d32920fbf93f9686b1de2fab0e42d8ecb7723fd6931ad5a27"), looks := true }, kinds := [], alts := [], laidByText := true, laidKinds := [.data, .data, .data, .data], laidTests := true, laidLooks := .later }
def DialSetsCardSaid : Prop := Claim7.holds Tryz.pinned (.plain (OpenSpec.ofChange dialSetsSpec)) dialSetsCard

/-- THE TIED CARD OF 'patrollaw01.DialGrows'. -/
def dialGrowsCard : Claim7 := { stood := { row := dialGrowsRow, standIns := [], harness := (true, "bdccf27b1b96963d32920fbf93f9686b1de2fab0e42d8ecb7723fd6931ad5a27"), looks := true }, kinds := [], alts := [], laidByText := true, laidKinds := [.data, .data, .data, .data], laidTests := true, laidLooks := .later }
def DialGrowsCardSaid : Prop := Claim7.holds Tryz.pinned (.plain (OpenSpec.ofChange dialGrowsSpec)) dialGrowsCard

/-- THE TIED CARD OF 'patrollaw01.DialKeys'. -/
def dialKeysCard : Claim7 := { stood := { row := dialKeysRow, standIns := [], harness := (true, "bdccf27b1b96963d32920fbf93f9686b1de2fab0e42d8ecb7723fd6931ad5a27"), looks := true }, kinds := [], alts := [], laidByText := true, laidKinds := [.data, .data, .data, .data], laidTests := true, laidLooks := .later }
def DialKeysCardSaid : Prop := Claim7.holds Tryz.pinned (.plain (OpenSpec.ofChange dialKeysSpec)) dialKeysCard

/-- THE TIED CARD OF 'patrollaw01.DialConfuses'. -/
def dialConfusesCard : Claim7 := { stood := { row := dialConfusesRow, standIns := [], harness := (true, "bdccf27b1b96963d32920fbf93f9686b1de2fab0e42d8ecb7723fd6931ad5a27"), looks := true }, kinds := [], alts := [], laidByText := true, laidKinds := [.data, .data, .data, .data], laidTests := true, laidLooks := .later }
def DialConfusesCardSaid : Prop := Claim7.holds Tryz.pinned (.plain (OpenSpec.ofChange dialConfusesSpec)) dialConfusesCard

/-- THE TIED CARD OF 'patrollaw01.DialProposes'. -/
def dialProposesCard : Claim7 := { stood := { row := dialProposesRow, standIns := [], harness := (true, "bdccf27b1b96963d32920fbf93f9686b1de2fab0e42d8ecb7723fd6931ad5a27"), looks := true }, kinds := [], alts := [], laidByText := true, laidKinds := [.data, .data, .data, .data], laidTests := true, laidLooks := .later }
def DialProposesCardSaid : Prop := Claim7.holds Tryz.pinned (.plain (OpenSpec.ofChange dialProposesSpec)) dialProposesCard

/-- THE TIED CARD OF 'patrollaw01.DialMarks'. -/
def dialMarksCard : Claim7 := { stood := { row := dialMarksRow, standIns := [], harness := (true, "bdccf27b1b96963d32920fbf93f9686b1de2fab0e42d8ecb7723fd6931ad5a27"), looks := true }, kinds := [], alts := [], laidByText := true, laidKinds := [.data, .data, .data, .data], laidTests := true, laidLooks := .later }
def DialMarksCardSaid : Prop := Claim7.holds Tryz.pinned (.plain (OpenSpec.ofChange dialMarksSpec)) dialMarksCard

/-- THE TIED CARD OF 'patrollaw01.DialKnows'. -/
def dialKnowsCard : Claim7 := { stood := { row := dialKnowsRow, standIns := [], harness := (true, "bdccf27b1b96963d32920fbf93f9686b1de2fab0e42d8ecb7723fd6931ad5a27"), looks := true }, kinds := [], alts := [], laidByText := true, laidKinds := [.data, .data, .data, .data], laidTests := true, laidLooks := .later }
def DialKnowsCardSaid : Prop := Claim7.holds Tryz.pinned (.plain (OpenSpec.ofChange dialKnowsSpec)) dialKnowsCard

/-- THE TIED CARD OF 'patrollaw01.DialMakers'. -/
def dialMakersCard : Claim7 := { stood := { row := dialMakersRow, standIns := [], harness := (true, "bdccf27b1b96963d32920fbf93f9686b1de2fab0e42d8ecb7723fd6931ad5a27"), looks := true }, kinds := [], alts := [], laidByText := true, laidKinds := [.data, .data, .data, .data], laidTests := true, laidLooks := .later }
def DialMakersCardSaid : Prop := Claim7.holds Tryz.pinned (.plain (OpenSpec.ofChange dialMakersSpec)) dialMakersCard

/-- THE TIED CARD OF 'patrollaw01.DialUnread'. -/
def dialUnreadCard : Claim7 := { stood := { row := dialUnreadRow, standIns := [], harness := (true, "bdccf27b1b96963d32920fbf93f9686b1de2fab0e42d8ecb7723fd6931ad5a27"), looks := true }, kinds := [], alts := [], laidByText := true, laidKinds := [.data, .data, .data, .data], laidTests := true, laidLooks := .later }
def DialUnreadCardSaid : Prop := Claim7.holds Tryz.pinned (.plain (OpenSpec.ofChange dialUnreadSpec)) dialUnreadCard

/-- THE TIED CARD OF 'patrollaw01.DialTexts'. -/
def dialTextsCard : Claim7 := { stood := { row := dialTextsRow, standIns := [], harness := (true, "bdccf27b1b96963d32920fbf93f9686b1de2fab0e42d8ecb7723fd6931ad5a27"), looks := true }, kinds := [], alts := [], laidByText := true, laidKinds := [.data, .data, .data, .data, .sentinel, .sentinel, .data, .pinned], laidTests := true, laidLooks := .later }
def DialTextsCardSaid : Prop := Claim7.holds Tryz.pinned (.plain (OpenSpec.ofChange dialTextsSpec)) dialTextsCard

/-- THE TIED CARD OF 'patrollaw01.DialMembers'. -/
def dialMembersCard : Claim7 := { stood := { row := dialMembersRow, standIns := [], harness := (true, "bdccf27b1b96963d32920fbf93f9686b1de2fab0e42d8ecb7723fd6931ad5a27"), looks := true }, kinds := [], alts := [], laidByText := true, laidKinds := [.data, .data, .data, .data], laidTests := true, laidLooks := .later }
def DialMembersCardSaid : Prop := Claim7.holds Tryz.pinned (.plain (OpenSpec.ofChange dialMembersSpec)) dialMembersCard

/-- THE SECOND FORM's CARD OF 'patrollaw01.DialSets'. -/
def dialSetsUptoCard : Claim7 := { stood := { row := dialSetsUptoRow, standIns := [], harness := (true, "bdccf27b1b96963d32920fbf93f9686b1de2fab0e42d8ecb7723fd6931ad5a27"), looks := true }, kinds := [], alts := [], laidByText := true, laidKinds := [.data, .data, .data, .data], laidTests := true, laidLooks := .later }
def DialSetsUptoCardSaid : Prop := Claim7.holds Tryz.pinned (.plain (OpenSpec.upto dialSetsSpec)) dialSetsUptoCard

/-- THE SECOND FORM's CARD OF 'patrollaw01.DialGrows'. -/
def dialGrowsUptoCard : Claim7 := { stood := { row := dialGrowsUptoRow, standIns := [], harness := (true, "bdccf27b1b96963d32920fbf93f9686b1de2fab0e42d8ecb7723fd6931ad5a27"), looks := true }, kinds := [], alts := [], laidByText := true, laidKinds := [.data, .data, .data, .data], laidTests := true, laidLooks := .later }
def DialGrowsUptoCardSaid : Prop := Claim7.holds Tryz.pinned (.plain (OpenSpec.upto dialGrowsSpec)) dialGrowsUptoCard

/-- THE SECOND FORM's CARD OF 'patrollaw01.DialKeys'. -/
def dialKeysUptoCard : Claim7 := { stood := { row := dialKeysUptoRow, standIns := [], harness := (true, "bdccf27b1b96963d32920fbf93f9686b1de2fab0e42d8ecb7723fd6931ad5a27"), looks := true }, kinds := [], alts := [], laidByText := true, laidKinds := [.data, .data, .data, .data], laidTests := true, laidLooks := .later }
def DialKeysUptoCardSaid : Prop := Claim7.holds Tryz.pinned (.plain (OpenSpec.upto dialKeysSpec)) dialKeysUptoCard

/-- THE SECOND FORM's CARD OF 'patrollaw01.DialConfuses'. -/
def dialConfusesUptoCard : Claim7 := { stood := { row := dialConfusesUptoRow, standIns := [], harness := (true, "bdccf27b1b96963d32920fbf93f9686b1de2fab0e42d8ecb7723fd6931ad5a27"), looks := true }, kinds := [], alts := [], laidByText := true, laidKinds := [.data, .data, .data, .data], laidTests := true, laidLooks := .later }
def DialConfusesUptoCardSaid : Prop := Claim7.holds Tryz.pinned (.plain (OpenSpec.upto dialConfusesSpec)) dialConfusesUptoCard

/-- THE SECOND FORM's CARD OF 'patrollaw01.DialProposes'. -/
def dialProposesUptoCard : Claim7 := { stood := { row := dialProposesUptoRow, standIns := [], harness := (true, "bdccf27b1b96963d32920fbf93f9686b1de2fab0e42d8ecb7723fd6931ad5a27"), looks := true }, kinds := [], alts := [], laidByText := true, laidKinds := [.data, .data, .data, .data], laidTests := true, laidLooks := .later }
def DialProposesUptoCardSaid : Prop := Claim7.holds Tryz.pinned (.plain (OpenSpec.upto dialProposesSpec)) dialProposesUptoCard

/-- THE SECOND FORM's CARD OF 'patrollaw01.DialMarks'. -/
def dialMarksUptoCard : Claim7 := { stood := { row := dialMarksUptoRow, standIns := [], harness := (true, "bdccf27b1b96963d32920fbf93f9686b1de2fab0e42d8ecb7723fd6931ad5a27"), looks := true }, kinds := [], alts := [], laidByText := true, laidKinds := [.data, .data, .data, .data], laidTests := true, laidLooks := .later }
def DialMarksUptoCardSaid : Prop := Claim7.holds Tryz.pinned (.plain (OpenSpec.upto dialMarksSpec)) dialMarksUptoCard

/-- THE SECOND FORM's CARD OF 'patrollaw01.DialKnows'. -/
def dialKnowsUptoCard : Claim7 := { stood := { row := dialKnowsUptoRow, standIns := [], harness := (true, "bdccf27b1b96963d32920fbf93f9686b1de2fab0e42d8ecb7723fd6931ad5a27"), looks := true }, kinds := [], alts := [], laidByText := true, laidKinds := [.data, .data, .data, .data], laidTests := true, laidLooks := .later }
def DialKnowsUptoCardSaid : Prop := Claim7.holds Tryz.pinned (.plain (OpenSpec.upto dialKnowsSpec)) dialKnowsUptoCard

/-- THE SECOND FORM's CARD OF 'patrollaw01.DialMakers'. -/
def dialMakersUptoCard : Claim7 := { stood := { row := dialMakersUptoRow, standIns := [], harness := (true, "bdccf27b1b96963d32920fbf93f9686b1de2fab0e42d8ecb7723fd6931ad5a27"), looks := true }, kinds := [], alts := [], laidByText := true, laidKinds := [.data, .data, .data, .data], laidTests := true, laidLooks := .later }
def DialMakersUptoCardSaid : Prop := Claim7.holds Tryz.pinned (.plain (OpenSpec.upto dialMakersSpec)) dialMakersUptoCard

/-- THE SECOND FORM's CARD OF 'patrollaw01.DialUnread'. -/
def dialUnreadUptoCard : Claim7 := { stood := { row := dialUnreadUptoRow, standIns := [], harness := (true, "bdccf27b1b96963d32920fbf93f9686b1de2fab0e42d8ecb7723fd6931ad5a27"), looks := true }, kinds := [], alts := [], laidByText := true, laidKinds := [.data, .data, .data, .data], laidTests := true, laidLooks := .later }
def DialUnreadUptoCardSaid : Prop := Claim7.holds Tryz.pinned (.plain (OpenSpec.upto dialUnreadSpec)) dialUnreadUptoCard

/-- THE SECOND FORM's CARD OF 'patrollaw01.DialTexts'. -/
def dialTextsUptoCard : Claim7 := { stood := { row := dialTextsUptoRow, standIns := [], harness := (true, "bdccf27b1b96963d32920fbf93f9686b1de2fab0e42d8ecb7723fd6931ad5a27"), looks := true }, kinds := [], alts := [], laidByText := true, laidKinds := [.data, .data, .data, .data, .sentinel, .sentinel, .data, .pinned], laidTests := true, laidLooks := .later }
def DialTextsUptoCardSaid : Prop := Claim7.holds Tryz.pinned (.plain (OpenSpec.upto dialTextsSpec)) dialTextsUptoCard

/-- THE SECOND FORM's CARD OF 'patrollaw01.DialMembers'. -/
def dialMembersUptoCard : Claim7 := { stood := { row := dialMembersUptoRow, standIns := [], harness := (true, "bdccf27b1b96963d32920fbf93f9686b1de2fab0e42d8ecb7723fd6931ad5a27"), looks := true }, kinds := [], alts := [], laidByText := true, laidKinds := [.data, .data, .data, .data], laidTests := true, laidLooks := .later }
def DialMembersUptoCardSaid : Prop := Claim7.holds Tryz.pinned (.plain (OpenSpec.upto dialMembersSpec)) dialMembersUptoCard
end Rows
end Go.Proofs.YtklmjmaldhibbaaGreatDoor
