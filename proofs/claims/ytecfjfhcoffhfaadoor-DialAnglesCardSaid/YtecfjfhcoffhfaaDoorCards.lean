/-
  DERIVED. GIVEN WITH THE SEED: THE CARDS: each row of YtecfjfhcoffhfaaDoorRows.lean that lists a variable, with what it lists TIED to the program's text (the seventh form; the later family's looks); each row that meets fmt, with fmt's text TOLD by the authors' own Lean function (tested against real Go, not proved from fmt's source: count such statements apart). THE CARD IS WHAT COUNTS. Prove the row's statement (the work); the ties are given (YtecfjfhcoffhfaaDoorTie.lean); close each card by the builder's one call (the guide's Derived/Test/ToyasCard.lean, 'card_holds'). Laid BY PROGRAM, IN A SANDBOX (cutbox-door.mjs). By AI agents, Wed Nov 11 2026. No macro, syntax, notation, axiom, sorry.
-/
import Derived.Test.YtecfjfhcoffhfaaDoorRows
import GoSem.ClaimSeven
namespace Go.Proofs.YtecfjfhcoffhfaaDoor
namespace Rows

/-- THE TIED CARD OF 'patrollaw01.DialAngles'. -/
def dialAnglesCard : Claim7 := { stood := { row := dialAnglesRow, standIns := [], harness := (true, "3c0372c4bbc19b93152b7edef0114eb4726a2560bf28f7df9f801b1e7e372edd"), looks := false }, kinds := [], alts := [], laidByText := true, laidKinds := [.data, .data, .data, .data], laidTests := true, laidLooks := .later }
def DialAnglesCardSaid : Prop := Claim7.holds Tryd.pinned (.plain (OpenSpec.ofChange dialAnglesSpec)) dialAnglesCard

/-- THE SECOND FORM's CARD OF 'patrollaw01.DialAngles'. -/
def dialAnglesUptoCard : Claim7 := { stood := { row := dialAnglesUptoRow, standIns := [], harness := (true, "3c0372c4bbc19b93152b7edef0114eb4726a2560bf28f7df9f801b1e7e372edd"), looks := false }, kinds := [], alts := [], laidByText := true, laidKinds := [.data, .data, .data, .data], laidTests := true, laidLooks := .later }
def DialAnglesUptoCardSaid : Prop := Claim7.holds Tryd.pinned (.plain (OpenSpec.upto dialAnglesSpec)) dialAnglesUptoCard
end Rows
end Go.Proofs.YtecfjfhcoffhfaaDoor
