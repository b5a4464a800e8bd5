/-
  DERIVED. GIVEN WITH THE SEED: THE CARDS: each row of YtplpkojikgeamaaGreatDoorRows.lean that lists a variable, with what it lists TIED to the program's text (the seventh form; the later family's looks); each row that meets fmt, with fmt's text TOLD by the authors' own Lean function (tested against real Go, not proved from fmt's source: count such statements apart). THE CARD IS WHAT COUNTS. Prove the row's statement (the work); the ties are given (YtplpkojikgeamaaGreatDoorTie.lean); close each card by the builder's one call (the guide's Derived/Test/ToyasCard.lean, 'card_holds'). Laid BY PROGRAM, IN A SANDBOX (cutbox-door.mjs). By AI agents, Wed Nov 11 2026. No macro, syntax, notation, axiom, sorry.
-/
import Derived.Test.YtplpkojikgeamaaGreatDoorRows
import GoSem.ClaimSeven
namespace Go.Proofs.YtplpkojikgeamaaGreatDoor
namespace Rows

/-- THE TIED CARD OF 'pantographlaw5.ExprParses'. -/
def exprParsesCard : Claim7 := { stood := { row := exprParsesRow, standIns := [], harness := (true, "12e4ba5e2d11a2d55419e3faae5eb63a27a6a4785958cdabbdf085fc8dcc0f45"), looks := true }, kinds := [], alts := [], laidByText := true, laidKinds := [.data, .data, .data, .data, .pinned], laidTests := true, laidLooks := .later }
def ExprParsesCardSaid : Prop := Claim7.holds Tryz.pinned (.plain (OpenSpec.ofChange exprParsesSpec)) exprParsesCard

/-- THE TIED CARD OF 'pantographlaw5.ExprBack'. -/
def exprBackCard : Claim7 := { stood := { row := exprBackRow, standIns := [], harness := (true, "12e4ba5e2d11a2d55419e3faae5eb63a27a6a4785958cdabbdf085fc8dcc0f45"), looks := true }, kinds := [], alts := [], laidByText := true, laidKinds := [.data, .data, .data, .data, .pinned], laidTests := true, laidLooks := .later }
def ExprBackCardSaid : Prop := Claim7.holds Tryz.pinned (.plain (OpenSpec.ofChange exprBackSpec)) exprBackCard

/-- THE TIED CARD OF 'pantographlaw5.ExprSettles'. -/
def exprSettlesCard : Claim7 := { stood := { row := exprSettlesRow, standIns := [], harness := (true, "12e4ba5e2d11a2d55419e3faae5eb63a27a6a4785958cdabbdf085fc8dcc0f45"), looks := true }, kinds := [], alts := [], laidByText := true, laidKinds := [.data, .data, .data, .data, .pinned], laidTests := true, laidLooks := .later }
def ExprSettlesCardSaid : Prop := Claim7.holds Tryz.pinned (.plain (OpenSpec.ofChange exprSettlesSpec)) exprSettlesCard

/-- THE TIED CARD OF 'pantographlaw5.ExprBlanks'. -/
def exprBlanksCard : Claim7 := { stood := { row := exprBlanksRow, standIns := [], harness := (true, "12e4ba5e2d11a2d55419e3faae5eb63a27a6a4785958cdabbdf085fc8dcc0f45"), looks := true }, kinds := [], alts := [], laidByText := true, laidKinds := [.data, .data, .data, .data, .pinned], laidTests := true, laidLooks := .later }
def ExprBlanksCardSaid : Prop := Claim7.holds Tryz.pinned (.plain (OpenSpec.ofChange exprBlanksSpec)) exprBlanksCard

/-- THE TIED CARD OF 'pantographlaw5.ExprCut'. -/
def exprCutCard : Claim7 := { stood := { row := exprCutRow, standIns := [], harness := (true, "12e4ba5e2d11a2d55419e3faae5eb63a27a6a4785958cdabbdf085fc8dcc0f45"), looks := true }, kinds := [], alts := [], laidByText := true, laidKinds := [.data, .data, .data, .data, .pinned], laidTests := true, laidLooks := .later }
def ExprCutCardSaid : Prop := Claim7.holds Tryz.pinned (.plain (OpenSpec.ofChange exprCutSpec)) exprCutCard

/-- THE SECOND FORM's CARD OF 'pantographlaw5.ExprParses'. -/
def exprParsesUptoCard : Claim7 := { stood := { row := exprParsesUptoRow, standIns := [], harness := (true, "12e4ba5e2d11a2d55419e3faae5eb63a27a6a4785958cdabbdf085fc8dcc0f45"), looks := true }, kinds := [], alts := [], laidByText := true, laidKinds := [.data, .data, .data, .data, .pinned], laidTests := true, laidLooks := .later }
def ExprParsesUptoCardSaid : Prop := Claim7.holds Tryz.pinned (.plain (OpenSpec.upto exprParsesSpec)) exprParsesUptoCard

/-- THE SECOND FORM's CARD OF 'pantographlaw5.ExprBack'. -/
def exprBackUptoCard : Claim7 := { stood := { row := exprBackUptoRow, standIns := [], harness := (true, "12e4ba5e2d11a2d55419e3faae5eb63a27a6a4785958cdabbdf085fc8dcc0f45"), looks := true }, kinds := [], alts := [], laidByText := true, laidKinds := [.data, .data, .data, .data, .pinned], laidTests := true, laidLooks := .later }
def ExprBackUptoCardSaid : Prop := Claim7.holds Tryz.pinned (.plain (OpenSpec.upto exprBackSpec)) exprBackUptoCard

/-- THE SECOND FORM's CARD OF 'pantographlaw5.ExprSettles'. -/
def exprSettlesUptoCard : Claim7 := { stood := { row := exprSettlesUptoRow, standIns := [], harness := (true, "12e4ba5e2d11a2d55419e3faae5eb63a27a6a4785958cdabbdf085fc8dcc0f45"), looks := true }, kinds := [], alts := [], laidByText := true, laidKinds := [.data, .data, .data, .data, .pinned], laidTests := true, laidLooks := .later }
def ExprSettlesUptoCardSaid : Prop := Claim7.holds Tryz.pinned (.plain (OpenSpec.upto exprSettlesSpec)) exprSettlesUptoCard

/-- THE SECOND FORM's CARD OF 'pantographlaw5.ExprBlanks'. -/
def exprBlanksUptoCard : Claim7 := { stood := { row := exprBlanksUptoRow, standIns := [], harness := (true, "12e4ba5e2d11a2d55419e3faae5eb63a27a6a4785958cdabbdf085fc8dcc0f45"), looks := true }, kinds := [], alts := [], laidByText := true, laidKinds := [.data, .data, .data, .data, .pinned], laidTests := true, laidLooks := .later }
def ExprBlanksUptoCardSaid : Prop := Claim7.holds Tryz.pinned (.plain (OpenSpec.upto exprBlanksSpec)) exprBlanksUptoCard

/-- THE SECOND FORM's CARD OF 'pantographlaw5.ExprCut'. -/
def exprCutUptoCard : Claim7 := { stood := { row := exprCutUptoRow, standIns := [], harness := (true, "12e4ba5e2d11a2d55419e3faae5eb63a27a6a4785958cdabbdf085fc8dcc0f45"), looks := true }, kinds := [], alts := [], laidByText := true, laidKinds := [.data, .data, .data, .data, .pinned], laidTests := true, laidLooks := .later }
def ExprCutUptoCardSaid : Prop := Claim7.holds Tryz.pinned (.plain (OpenSpec.upto exprCutSpec)) exprCutUptoCard
end Rows
end Go.Proofs.YtplpkojikgeamaaGreatDoor
