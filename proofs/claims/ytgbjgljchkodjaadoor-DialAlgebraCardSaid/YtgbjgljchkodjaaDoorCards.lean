/-
  DERIVED. GIVEN WITH THE SEED: THE CARDS: each row of YtgbjgljchkodjaaDoorRows.lean that lists a variable, with what it lists TIED to the program's text (the seventh form; the later family's looks); each row that meets fmt, with fmt's text TOLD by the authors' own Lean function (tested against real Go, not proved from fmt's source: count such statements apart). THE CARD IS WHAT COUNTS. Prove the row's statement (the work); the ties are given (YtgbjgljchkodjaaDoorTie.lean); close each card by the builder's one call (the guide's Derived/Test/ToyasCard.lean, 'card_holds'). Laid BY PROGRAM, IN A SANDBOX (cutbox-door.mjs). By AI agents, Wed Nov 11 2026. No macro, syntax, notation, axiom, sorry.
-/
import Derived.Test.YtgbjgljchkodjaaDoorRows
import GoSem.ClaimSeven
namespace Go.Proofs.YtgbjgljchkodjaaDoor
namespace Rows

/-- THE TIED CARD OF 'patrollaw01.DialAlgebra'. -/
def dialAlgebraCard : Claim7 := { stood := { row := dialAlgebraRow, standIns := [], harness := (true, "eaeb35a5368bb89eb5c5d907f3489c36d9bfc29e1f74c4550ad77797c6fa4891"), looks := false }, kinds := [], alts := [], laidByText := true, laidKinds := [.data, .data, .data, .data], laidTests := true, laidLooks := .later }
def DialAlgebraCardSaid : Prop := Claim7.holds Tryd.pinned (.plain (OpenSpec.ofChange dialAlgebraSpec)) dialAlgebraCard

/-- THE TIED CARD OF 'patrollaw01.DialMakersStrike'. -/
def dialMakersStrikeCard : Claim7 := { stood := { row := dialMakersStrikeRow, standIns := [], harness := (true, "eaeb35a5368bb89eb5c5d907f3489c36d9bfc29e1f74c4550ad77797c6fa4891"), looks := false }, kinds := [], alts := [], laidByText := true, laidKinds := [.data, .data, .data, .data], laidTests := true, laidLooks := .later }
def DialMakersStrikeCardSaid : Prop := Claim7.holds Tryd.pinned (.plain (OpenSpec.ofChange dialMakersStrikeSpec)) dialMakersStrikeCard

/-- THE SECOND FORM's CARD OF 'patrollaw01.DialAlgebra'. -/
def dialAlgebraUptoCard : Claim7 := { stood := { row := dialAlgebraUptoRow, standIns := [], harness := (true, "eaeb35a5368bb89eb5c5d907f3489c36d9bfc29e1f74c4550ad77797c6fa4891"), looks := false }, kinds := [], alts := [], laidByText := true, laidKinds := [.data, .data, .data, .data], laidTests := true, laidLooks := .later }
def DialAlgebraUptoCardSaid : Prop := Claim7.holds Tryd.pinned (.plain (OpenSpec.upto dialAlgebraSpec)) dialAlgebraUptoCard

/-- THE SECOND FORM's CARD OF 'patrollaw01.DialMakersStrike'. -/
def dialMakersStrikeUptoCard : Claim7 := { stood := { row := dialMakersStrikeUptoRow, standIns := [], harness := (true, "eaeb35a5368bb89eb5c5d907f3489c36d9bfc29e1f74c4550ad77797c6fa4891"), looks := false }, kinds := [], alts := [], laidByText := true, laidKinds := [.data, .data, .data, .data], laidTests := true, laidLooks := .later }
def DialMakersStrikeUptoCardSaid : Prop := Claim7.holds Tryd.pinned (.plain (OpenSpec.upto dialMakersStrikeSpec)) dialMakersStrikeUptoCard
end Rows
end Go.Proofs.YtgbjgljchkodjaaDoor
