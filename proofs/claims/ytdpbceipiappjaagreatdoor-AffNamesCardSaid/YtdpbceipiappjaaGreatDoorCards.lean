/-
  DERIVED. GIVEN WITH THE SEED: THE CARDS: each row of YtdpbceipiappjaaGreatDoorRows.lean that lists a variable, with what it lists TIED to the program's text (the seventh form; the later family's looks); each row that meets fmt, with fmt's text TOLD by the authors' own Lean function (tested against real Go, not proved from fmt's source: count such statements apart). THE CARD IS WHAT COUNTS. Prove the row's statement (the work); the ties are given (YtdpbceipiappjaaGreatDoorTie.lean); close each card by the builder's one call (the guide's Derived/Test/ToyasCard.lean, 'card_holds'). Laid BY PROGRAM, IN A SANDBOX (cutbox-door.mjs). By AI agents, Wed Nov 11 2026. No macro, syntax, notation, axiom, sorry.
-/
import Derived.Test.YtdpbceipiappjaaGreatDoorRows
import GoSem.ClaimSeven
namespace Go.Proofs.YtdpbceipiappjaaGreatDoor
namespace Rows

/-- THE TIED CARD OF 'pantographlaw8.AffNames'. -/
def affNamesCard : Claim7 := { stood := { row := affNamesRow, standIns := [], harness := (true, "915981df5ad9f4d23bd7c0bc54b802004f313c57f8f658a0e19cf9d6c1523c1f"), looks := false }, kinds := [], alts := [], laidByText := true, laidKinds := [.data, .data, .data, .data, .pinned], laidTests := true, laidLooks := .later }
def AffNamesCardSaid : Prop := Claim7.holds Tryz.pinned (.plain (OpenSpec.ofChange affNamesSpec)) affNamesCard

/-- THE SECOND FORM's CARD OF 'pantographlaw8.AffNames'. -/
def affNamesUptoCard : Claim7 := { stood := { row := affNamesUptoRow, standIns := [], harness := (true, "915981df5ad9f4d23bd7c0bc54b802004f313c57f8f658a0e19cf9d6c1523c1f"), looks := false }, kinds := [], alts := [], laidByText := true, laidKinds := [.data, .data, .data, .data, .pinned], laidTests := true, laidLooks := .later }
def AffNamesUptoCardSaid : Prop := Claim7.holds Tryz.pinned (.plain (OpenSpec.upto affNamesSpec)) affNamesUptoCard
end Rows
end Go.Proofs.YtdpbceipiappjaaGreatDoor
