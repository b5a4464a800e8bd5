/-
  DERIVED. GIVEN WITH THE SEED: THE CARDS: each row of YtcmkgoikmleanaaGreatDoorRows.lean that lists a variable, with what it lists TIED to the program's text (the seventh form; the later family's looks); each row that meets fmt, with fmt's text TOLD by the authors' own Lean function (tested against real Go, not proved from fmt's source: count such statements apart). THE CARD IS WHAT COUNTS. Prove the row's statement (the work); the ties are given (YtcmkgoikmleanaaGreatDoorTie.lean); close each card by the builder's one call (the guide's Derived/Test/ToyasCard.lean, 'card_holds'). Laid BY PROGRAM, IN A SANDBOX (cutbox-door.mjs). By AI agents, Wed Nov 11 2026. No macro, syntax, notation, axiom, sorry.
-/
import Derived.Test.YtcmkgoikmleanaaGreatDoorRows
import GoSem.ClaimSeven
namespace Go.Proofs.YtcmkgoikmleanaaGreatDoor
namespace Rows

/-- THE TIED CARD OF 'pantographlaw5.ExprBack'. -/
def exprBackCard : Claim7 := { stood := { row := exprBackRow, standIns := [], harness := (true, "f9241e39f4db667be1fd2c16ffd0402b3d6efdf7655a30c8331142bbfbdb1231"), looks := true }, kinds := [], alts := [], laidByText := true, laidKinds := [.data, .data, .data, .data, .pinned], laidTests := true, laidLooks := .later }
def ExprBackCardSaid : Prop := Claim7.holds Tryz.pinned (.plain (OpenSpec.ofChange exprBackSpec)) exprBackCard

/-- THE TIED CARD OF 'pantographlaw5.ExprBlanks'. -/
def exprBlanksCard : Claim7 := { stood := { row := exprBlanksRow, standIns := [], harness := (true, "f9241e39f4db667be1fd2c16ffd0402b3d6efdf7655a30c8331142bbfbdb1231"), looks := true }, kinds := [], alts := [], laidByText := true, laidKinds := [.data, .data, .data, .data, .pinned], laidTests := true, laidLooks := .later }
def ExprBlanksCardSaid : Prop := Claim7.holds Tryz.pinned (.plain (OpenSpec.ofChange exprBlanksSpec)) exprBlanksCard

/-- THE TIED CARD OF 'pantographlaw5.ExprCut'. -/
def exprCutCard : Claim7 := { stood := { row := exprCutRow, standIns := [], harness := (true, "f9241e39f4db667be1fd2c16ffd0402b3d6efdf7655a30c8331142bbfbdb1231"), looks := true }, kinds := [], alts := [], laidByText := true, laidKinds := [.data, .data, .data, .data, .pinned], laidTests := true, laidLooks := .later }
def ExprCutCardSaid : Prop := Claim7.holds Tryz.pinned (.plain (OpenSpec.ofChange exprCutSpec)) exprCutCard

/-- THE SECOND FORM's CARD OF 'pantographlaw5.ExprBack'. -/
def exprBackUptoCard : Claim7 := { stood := { row := exprBackUptoRow, standIns := [], harness := (true, "f9241e39f4db667be1fd2c16ffd0402b3d6efdf7655a30c8331142bbfbdb1231"), looks := true }, kinds := [], alts := [], laidByText := true, laidKinds := [.data, .data, .data, .data, .pinned], laidTests := true, laidLooks := .later }
def ExprBackUptoCardSaid : Prop := Claim7.holds Tryz.pinned (.plain (OpenSpec.upto exprBackSpec)) exprBackUptoCard

/-- THE SECOND FORM's CARD OF 'pantographlaw5.ExprBlanks'. -/
def exprBlanksUptoCard : Claim7 := { stood := { row := exprBlanksUptoRow, standIns := [], harness := (true, "f9241e39f4db667be1fd2c16ffd0402b3d6efdf7655a30c8331142bbfbdb1231"), looks := true }, kinds := [], alts := [], laidByText := true, laidKinds := [.data, .data, .data, .data, .pinned], laidTests := true, laidLooks := .later }
def ExprBlanksUptoCardSaid : Prop := Claim7.holds Tryz.pinned (.plain (OpenSpec.upto exprBlanksSpec)) exprBlanksUptoCard

/-- THE SECOND FORM's CARD OF 'pantographlaw5.ExprCut'. -/
def exprCutUptoCard : Claim7 := { stood := { row := exprCutUptoRow, standIns := [], harness := (true, "f9241e39f4db667be1fd2c16ffd0402b3d6efdf7655a30c8331142bbfbdb1231"), looks := true }, kinds := [], alts := [], laidByText := true, laidKinds := [.data, .data, .data, .data, .pinned], laidTests := true, laidLooks := .later }
def ExprCutUptoCardSaid : Prop := Claim7.holds Tryz.pinned (.plain (OpenSpec.upto exprCutSpec)) exprCutUptoCard
end Rows
end Go.Proofs.YtcmkgoikmleanaaGreatDoor
