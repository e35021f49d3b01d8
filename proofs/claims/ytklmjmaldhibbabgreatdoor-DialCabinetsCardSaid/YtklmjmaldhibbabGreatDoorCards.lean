/-
  DERIVED. GIVEN WITH THE SEED: THE CARDS: each row of YtklmjmaldhibbabGreatDoorRows.lean that lists a variable, with what it lists TIED to the program's text (the seventh form; the later family's looks); each row that meets fmt, with fmt's text TOLD by the authors' own Lean function (tested against real Go, not proved from fmt's source: count such statements apart). THE CARD IS WHAT COUNTS. Prove the row's statement (the work); the ties are given (YtklmjmaldhibbabGreatDoorTie.lean); close each card by the builder's one call (the guide's Derived/Test/ToyasCard.lean, 'card_holds'). Laid BY PROGRAM, IN A SANDBOX (cutbox-door.mjs). By AI agents, Wed Nov 11 2026. No macro, syntax, notation, axiom, sorry.
-/
import Derived.Test.YtklmjmaldhibbabGreatDoorRows
import GoSem.ClaimSeven
namespace Go.Proofs.YtklmjmaldhibbabGreatDoor
namespace Rows

/-- THE TIED CARD OF 'patrollaw01.DialTextsBack'. -/
def dialTextsBackCard : Claim7 := { stood := { row := dialTextsBackRow, standIns := [], harness := (true, "171b4705f91b5fbe98eee813c11253f76711de1c08441be711b7bd5d8cf3bcb7"), looks := true }, kinds := [], alts := [], laidByText := true, laidKinds := [.data, .data, .data, .data, .sentinel, .sentinel, .data, .pinned], laidTests := true, laidLooks := .later }
def DialTextsBackCardSaid : Prop := Claim7.holds Tryz.pinned (.plain (OpenSpec.ofChange dialTextsBackSpec)) dialTextsBackCard

/-- THE TIED CARD OF 'patrollaw01.DialStrikesRead'. -/
def dialStrikesReadCard : Claim7 := { stood := { row := dialStrikesReadRow, standIns := [], harness := (true, "171b4705f91b5fbe98eee813c11253f76711de1c08441be711b7bd5d8cf3bcb7"), looks := true }, kinds := [], alts := [], laidByText := true, laidKinds := [.data, .data, .data, .data], laidTests := true, laidLooks := .later }
def DialStrikesReadCardSaid : Prop := Claim7.holds Tryz.pinned (.plain (OpenSpec.ofChange dialStrikesReadSpec)) dialStrikesReadCard

/-- THE TIED CARD OF 'patrollaw01.DialTwice'. -/
def dialTwiceCard : Claim7 := { stood := { row := dialTwiceRow, standIns := [], harness := (true, "171b4705f91b5fbe98eee813c11253f76711de1c08441be711b7bd5d8cf3bcb7"), looks := true }, kinds := [], alts := [], laidByText := true, laidKinds := [.data, .data, .data, .data], laidTests := true, laidLooks := .later }
def DialTwiceCardSaid : Prop := Claim7.holds Tryz.pinned (.plain (OpenSpec.ofChange dialTwiceSpec)) dialTwiceCard

/-- THE TIED CARD OF 'patrollaw01.DialCabinets'. -/
def dialCabinetsCard : Claim7 := { stood := { row := dialCabinetsRow, standIns := [], harness := (true, "171b4705f91b5fbe98eee813c11253f76711de1c08441be711b7bd5d8cf3bcb7"), looks := true }, kinds := [], alts := [], laidByText := true, laidKinds := [.data, .data, .data, .data], laidTests := true, laidLooks := .later }
def DialCabinetsCardSaid : Prop := Claim7.holds Tryz.pinned (.plain (OpenSpec.ofChange dialCabinetsSpec)) dialCabinetsCard

/-- THE TIED CARD OF 'patrollaw01.DialSharper'. -/
def dialSharperCard : Claim7 := { stood := { row := dialSharperRow, standIns := [], harness := (true, "171b4705f91b5fbe98eee813c11253f76711de1c08441be711b7bd5d8cf3bcb7"), looks := true }, kinds := [], alts := [], laidByText := true, laidKinds := [.data, .data, .data, .data], laidTests := true, laidLooks := .later }
def DialSharperCardSaid : Prop := Claim7.holds Tryz.pinned (.plain (OpenSpec.ofChange dialSharperSpec)) dialSharperCard

/-- THE SECOND FORM's CARD OF 'patrollaw01.DialTextsBack'. -/
def dialTextsBackUptoCard : Claim7 := { stood := { row := dialTextsBackUptoRow, standIns := [], harness := (true, "171b4705f91b5fbe98eee813c11253f76711de1c08441be711b7bd5d8cf3bcb7"), looks := true }, kinds := [], alts := [], laidByText := true, laidKinds := [.data, .data, .data, .data, .sentinel, .sentinel, .data, .pinned], laidTests := true, laidLooks := .later }
def DialTextsBackUptoCardSaid : Prop := Claim7.holds Tryz.pinned (.plain (OpenSpec.upto dialTextsBackSpec)) dialTextsBackUptoCard

/-- THE SECOND FORM's CARD OF 'patrollaw01.DialStrikesRead'. -/
def dialStrikesReadUptoCard : Claim7 := { stood := { row := dialStrikesReadUptoRow, standIns := [], harness := (true, "171b4705f91b5fbe98eee813c11253f76711de1c08441be711b7bd5d8cf3bcb7"), looks := true }, kinds := [], alts := [], laidByText := true, laidKinds := [.data, .data, .data, .data], laidTests := true, laidLooks := .later }
def DialStrikesReadUptoCardSaid : Prop := Claim7.holds Tryz.pinned (.plain (OpenSpec.upto dialStrikesReadSpec)) dialStrikesReadUptoCard

/-- THE SECOND FORM's CARD OF 'patrollaw01.DialTwice'. -/
def dialTwiceUptoCard : Claim7 := { stood := { row := dialTwiceUptoRow, standIns := [], harness := (true, "171b4705f91b5fbe98eee813c11253f76711de1c08441be711b7bd5d8cf3bcb7"), looks := true }, kinds := [], alts := [], laidByText := true, laidKinds := [.data, .data, .data, .data], laidTests := true, laidLooks := .later }
def DialTwiceUptoCardSaid : Prop := Claim7.holds Tryz.pinned (.plain (OpenSpec.upto dialTwiceSpec)) dialTwiceUptoCard

/-- THE SECOND FORM's CARD OF 'patrollaw01.DialCabinets'. -/
def dialCabinetsUptoCard : Claim7 := { stood := { row := dialCabinetsUptoRow, standIns := [], harness := (true, "171b4705f91b5fbe98eee813c11253f76711de1c08441be711b7bd5d8cf3bcb7"), looks := true }, kinds := [], alts := [], laidByText := true, laidKinds := [.data, .data, .data, .data], laidTests := true, laidLooks := .later }
def DialCabinetsUptoCardSaid : Prop := Claim7.holds Tryz.pinned (.plain (OpenSpec.upto dialCabinetsSpec)) dialCabinetsUptoCard

/-- THE SECOND FORM's CARD OF 'patrollaw01.DialSharper'. -/
def dialSharperUptoCard : Claim7 := { stood := { row := dialSharperUptoRow, standIns := [], harness := (true, "171b4705f91b5fbe98eee813c11253f76711de1c08441be711b7bd5d8cf3bcb7"), looks := true }, kinds := [], alts := [], laidByText := true, laidKinds := [.data, .data, .data, .data], laidTests := true, laidLooks := .later }
def DialSharperUptoCardSaid : Prop := Claim7.holds Tryz.pinned (.plain (OpenSpec.upto dialSharperSpec)) dialSharperUptoCard
end Rows
end Go.Proofs.YtklmjmaldhibbabGreatDoor
