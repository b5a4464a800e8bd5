/-
  DERIVED. GIVEN WITH THE SEED: THE CARDS: each row of YtcmomoalohibiaaDoorRows.lean that lists a variable, with what it lists TIED to the program's text (the seventh form; the later family's looks); each row that meets fmt, with fmt's text TOLD by the authors' own Lean function (tested against real Go, not proved from fmt's source: count such statements apart). THE CARD IS WHAT COUNTS. Prove the row's statement (the work); the ties are given (YtcmomoalohibiaaDoorTie.lean); close each card by the builder's one call (the guide's Derived/Test/ToyasCard.lean, 'card_holds'). Laid BY PROGRAM, IN A SANDBOX (cutbox-door.mjs). By AI agents, Wed Nov 11 2026. No macro, syntax, notation, axiom, sorry.
-/
import Derived.Test.YtcmomoalohibiaaDoorRows
import GoSem.ClaimSeven
namespace Go.Proofs.YtcmomoalohibiaaDoor
namespace Rows

/-- THE TIED CARD OF 'pantographlaw1.NatTexts'. -/
def natTextsCard : Claim7 := { stood := { row := natTextsRow, standIns := [], harness := (true, "54e4d52e6c287331660525d979e1990ae89b9fa27bf20edbfba82f960ed83590"), looks := false }, kinds := [], alts := [], laidByText := true, laidKinds := [.data, .data, .data], laidTests := true, laidLooks := .later }
def NatTextsCardSaid : Prop := Claim7.holds Tryd.pinned (.plain (OpenSpec.ofChange natTextsSpec)) natTextsCard

/-- THE TIED CARD OF 'pantographlaw1.NatPrints'. -/
def natPrintsCard : Claim7 := { stood := { row := natPrintsRow, standIns := [], harness := (true, "54e4d52e6c287331660525d979e1990ae89b9fa27bf20edbfba82f960ed83590"), looks := false }, kinds := [], alts := [], laidByText := true, laidKinds := [.data, .data, .data], laidTests := true, laidLooks := .later }
def NatPrintsCardSaid : Prop := Claim7.holds Tryd.pinned (.plain (OpenSpec.ofChange natPrintsSpec)) natPrintsCard

/-- THE TIED CARD OF 'pantographlaw3.DecOrder'. -/
def decOrderCard : Claim7 := { stood := { row := decOrderRow, standIns := [], harness := (true, "54e4d52e6c287331660525d979e1990ae89b9fa27bf20edbfba82f960ed83590"), looks := false }, kinds := [], alts := [], laidByText := true, laidKinds := [.data, .data, .data], laidTests := true, laidLooks := .later }
def DecOrderCardSaid : Prop := Claim7.holds Tryd.pinned (.plain (OpenSpec.ofChange decOrderSpec)) decOrderCard

/-- THE SECOND FORM's CARD OF 'pantographlaw1.NatTexts'. -/
def natTextsUptoCard : Claim7 := { stood := { row := natTextsUptoRow, standIns := [], harness := (true, "54e4d52e6c287331660525d979e1990ae89b9fa27bf20edbfba82f960ed83590"), looks := false }, kinds := [], alts := [], laidByText := true, laidKinds := [.data, .data, .data], laidTests := true, laidLooks := .later }
def NatTextsUptoCardSaid : Prop := Claim7.holds Tryd.pinned (.plain (OpenSpec.upto natTextsSpec)) natTextsUptoCard

/-- THE SECOND FORM's CARD OF 'pantographlaw1.NatPrints'. -/
def natPrintsUptoCard : Claim7 := { stood := { row := natPrintsUptoRow, standIns := [], harness := (true, "54e4d52e6c287331660525d979e1990ae89b9fa27bf20edbfba82f960ed83590"), looks := false }, kinds := [], alts := [], laidByText := true, laidKinds := [.data, .data, .data], laidTests := true, laidLooks := .later }
def NatPrintsUptoCardSaid : Prop := Claim7.holds Tryd.pinned (.plain (OpenSpec.upto natPrintsSpec)) natPrintsUptoCard

/-- THE SECOND FORM's CARD OF 'pantographlaw3.DecOrder'. -/
def decOrderUptoCard : Claim7 := { stood := { row := decOrderUptoRow, standIns := [], harness := (true, "54e4d52e6c287331660525d979e1990ae89b9fa27bf20edbfba82f960ed83590"), looks := false }, kinds := [], alts := [], laidByText := true, laidKinds := [.data, .data, .data], laidTests := true, laidLooks := .later }
def DecOrderUptoCardSaid : Prop := Claim7.holds Tryd.pinned (.plain (OpenSpec.upto decOrderSpec)) decOrderUptoCard
end Rows
end Go.Proofs.YtcmomoalohibiaaDoor
