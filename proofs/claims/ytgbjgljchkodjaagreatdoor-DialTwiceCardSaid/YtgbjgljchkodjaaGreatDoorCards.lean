/-
  DERIVED. GIVEN WITH THE SEED: THE CARDS: each row of YtgbjgljchkodjaaGreatDoorRows.lean that lists a variable, with what it lists TIED to the program's text (the seventh form; the later family's looks); each row that meets fmt, with fmt's text TOLD by the authors' own Lean function (tested against real Go, not proved from fmt's source: count such statements apart). THE CARD IS WHAT COUNTS. Prove the row's statement (the work); the ties are given (YtgbjgljchkodjaaGreatDoorTie.lean); close each card by the builder's one call (the guide's Derived/Test/ToyasCard.lean, 'card_holds'). Laid BY PROGRAM, IN A SANDBOX (cutbox-door.mjs). By AI agents, Wed Nov 11 2026. No macro, syntax, notation, axiom, sorry.
-/
import Derived.Test.YtgbjgljchkodjaaGreatDoorRows
import GoSem.ClaimSeven
namespace Go.Proofs.YtgbjgljchkodjaaGreatDoor
namespace Rows

/-- THE TIED CARD OF 'patrollaw01.DialSets'. -/
def dialSetsCard : Claim7 := { stood := { row := dialSetsRow, standIns := [], harness := (true, "610ab3fe7b872ca0185609f8321a089d5418d910d865327696d71b61fde54255"), looks := false }, kinds := [], alts := [], laidByText := true, laidKinds := [.data, .data, .data, .data], laidTests := true, laidLooks := .later }
def DialSetsCardSaid : Prop := Claim7.holds Tryz.pinned (.plain (OpenSpec.ofChange dialSetsSpec)) dialSetsCard

/-- THE TIED CARD OF 'patrollaw01.DialGrows'. -/
def dialGrowsCard : Claim7 := { stood := { row := dialGrowsRow, standIns := [], harness := (true, "610ab3fe7b872ca0185609f8321a089d5418d910d865327696d71b61fde54255"), looks := false }, kinds := [], alts := [], laidByText := true, laidKinds := [.data, .data, .data, .data], laidTests := true, laidLooks := .later }
def DialGrowsCardSaid : Prop := Claim7.holds Tryz.pinned (.plain (OpenSpec.ofChange dialGrowsSpec)) dialGrowsCard

/-- THE TIED CARD OF 'patrollaw01.DialKnows'. -/
def dialKnowsCard : Claim7 := { stood := { row := dialKnowsRow, standIns := [], harness := (true, "610ab3fe7b872ca0185609f8321a089d5418d910d865327696d71b61fde54255"), looks := false }, kinds := [], alts := [], laidByText := true, laidKinds := [.data, .data, .data, .data], laidTests := true, laidLooks := .later }
def DialKnowsCardSaid : Prop := Claim7.holds Tryz.pinned (.plain (OpenSpec.ofChange dialKnowsSpec)) dialKnowsCard

/-- THE TIED CARD OF 'patrollaw01.DialMembers'. -/
def dialMembersCard : Claim7 := { stood := { row := dialMembersRow, standIns := [], harness := (true, "610ab3fe7b872ca0185609f8321a089d5418d910d865327696d71b61fde54255"), looks := false }, kinds := [], alts := [], laidByText := true, laidKinds := [.data, .data, .data, .data], laidTests := true, laidLooks := .later }
def DialMembersCardSaid : Prop := Claim7.holds Tryz.pinned (.plain (OpenSpec.ofChange dialMembersSpec)) dialMembersCard

/-- THE TIED CARD OF 'patrollaw01.DialStrikesRead'. -/
def dialStrikesReadCard : Claim7 := { stood := { row := dialStrikesReadRow, standIns := [], harness := (true, "610ab3fe7b872ca0185609f8321a089d5418d910d865327696d71b61fde54255"), looks := false }, kinds := [], alts := [], laidByText := true, laidKinds := [.data, .data, .data, .data], laidTests := true, laidLooks := .later }
def DialStrikesReadCardSaid : Prop := Claim7.holds Tryz.pinned (.plain (OpenSpec.ofChange dialStrikesReadSpec)) dialStrikesReadCard

/-- THE TIED CARD OF 'patrollaw01.DialTwice'. -/
def dialTwiceCard : Claim7 := { stood := { row := dialTwiceRow, standIns := [], harness := (true, "610ab3fe7b872ca0185609f8321a089d5418d910d865327696d71b61fde54255"), looks := false }, kinds := [], alts := [], laidByText := true, laidKinds := [.data, .data, .data, .data], laidTests := true, laidLooks := .later }
def DialTwiceCardSaid : Prop := Claim7.holds Tryz.pinned (.plain (OpenSpec.ofChange dialTwiceSpec)) dialTwiceCard

/-- THE TIED CARD OF 'patrollaw01.DialSharper'. -/
def dialSharperCard : Claim7 := { stood := { row := dialSharperRow, standIns := [], harness := (true, "610ab3fe7b872ca0185609f8321a089d5418d910d865327696d71b61fde54255"), looks := false }, kinds := [], alts := [], laidByText := true, laidKinds := [.data, .data, .data, .data], laidTests := true, laidLooks := .later }
def DialSharperCardSaid : Prop := Claim7.holds Tryz.pinned (.plain (OpenSpec.ofChange dialSharperSpec)) dialSharperCard

/-- THE SECOND FORM's CARD OF 'patrollaw01.DialSets'. -/
def dialSetsUptoCard : Claim7 := { stood := { row := dialSetsUptoRow, standIns := [], harness := (true, "610ab3fe7b872ca0185609f8321a089d5418d910d865327696d71b61fde54255"), looks := false }, kinds := [], alts := [], laidByText := true, laidKinds := [.data, .data, .data, .data], laidTests := true, laidLooks := .later }
def DialSetsUptoCardSaid : Prop := Claim7.holds Tryz.pinned (.plain (OpenSpec.upto dialSetsSpec)) dialSetsUptoCard

/-- THE SECOND FORM's CARD OF 'patrollaw01.DialGrows'. -/
def dialGrowsUptoCard : Claim7 := { stood := { row := dialGrowsUptoRow, standIns := [], harness := (true, "610ab3fe7b872ca0185609f8321a089d5418d910d865327696d71b61fde54255"), looks := false }, kinds := [], alts := [], laidByText := true, laidKinds := [.data, .data, .data, .data], laidTests := true, laidLooks := .later }
def DialGrowsUptoCardSaid : Prop := Claim7.holds Tryz.pinned (.plain (OpenSpec.upto dialGrowsSpec)) dialGrowsUptoCard

/-- THE SECOND FORM's CARD OF 'patrollaw01.DialKnows'. -/
def dialKnowsUptoCard : Claim7 := { stood := { row := dialKnowsUptoRow, standIns := [], harness := (true, "610ab3fe7b872ca0185609f8321a089d5418d910d865327696d71b61fde54255"), looks := false }, kinds := [], alts := [], laidByText := true, laidKinds := [.data, .data, .data, .data], laidTests := true, laidLooks := .later }
def DialKnowsUptoCardSaid : Prop := Claim7.holds Tryz.pinned (.plain (OpenSpec.upto dialKnowsSpec)) dialKnowsUptoCard

/-- THE SECOND FORM's CARD OF 'patrollaw01.DialMembers'. -/
def dialMembersUptoCard : Claim7 := { stood := { row := dialMembersUptoRow, standIns := [], harness := (true, "610ab3fe7b872ca0185609f8321a089d5418d910d865327696d71b61fde54255"), looks := false }, kinds := [], alts := [], laidByText := true, laidKinds := [.data, .data, .data, .data], laidTests := true, laidLooks := .later }
def DialMembersUptoCardSaid : Prop := Claim7.holds Tryz.pinned (.plain (OpenSpec.upto dialMembersSpec)) dialMembersUptoCard

/-- THE SECOND FORM's CARD OF 'patrollaw01.DialStrikesRead'. -/
def dialStrikesReadUptoCard : Claim7 := { stood := { row := dialStrikesReadUptoRow, standIns := [], harness := (true, "610ab3fe7b872ca0185609f8321a089d5418d910d865327696d71b61fde54255"), looks := false }, kinds := [], alts := [], laidByText := true, laidKinds := [.data, .data, .data, .data], laidTests := true, laidLooks := .later }
def DialStrikesReadUptoCardSaid : Prop := Claim7.holds Tryz.pinned (.plain (OpenSpec.upto dialStrikesReadSpec)) dialStrikesReadUptoCard

/-- THE SECOND FORM's CARD OF 'patrollaw01.DialTwice'. -/
def dialTwiceUptoCard : Claim7 := { stood := { row := dialTwiceUptoRow, standIns := [], harness := (true, "610ab3fe7b872ca0185609f8321a089d5418d910d865327696d71b61fde54255"), looks := false }, kinds := [], alts := [], laidByText := true, laidKinds := [.data, .data, .data, .data], laidTests := true, laidLooks := .later }
def DialTwiceUptoCardSaid : Prop := Claim7.holds Tryz.pinned (.plain (OpenSpec.upto dialTwiceSpec)) dialTwiceUptoCard

/-- THE SECOND FORM's CARD OF 'patrollaw01.DialSharper'. -/
def dialSharperUptoCard : Claim7 := { stood := { row := dialSharperUptoRow, standIns := [], harness := (true, "610ab3fe7b872ca0185609f8321a089d5418d910d865327696d71b61fde54255"), looks := false }, kinds := [], alts := [], laidByText := true, laidKinds := [.data, .data, .data, .data], laidTests := true, laidLooks := .later }
def DialSharperUptoCardSaid : Prop := Claim7.holds Tryz.pinned (.plain (OpenSpec.upto dialSharperSpec)) dialSharperUptoCard
end Rows
end Go.Proofs.YtgbjgljchkodjaaGreatDoor
