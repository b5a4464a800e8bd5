/-
  DERIVED. GIVEN WITH THE SEED: THE CARDS: each row of YtffnjdfmaebmhaaGreatDoorRows.lean that lists a variable, with what it lists TIED to the program's text (the seventh form; the later family's looks); each row that meets fmt, with fmt's text TOLD by the authors' own Lean function (tested against real Go, not proved from fmt's source: count such statements apart). THE CARD IS WHAT COUNTS. Prove the row's statement (the work); the ties are given (YtffnjdfmaebmhaaGreatDoorTie.lean); close each card by the builder's one call (the guide's Derived/Test/ToyasCard.lean, 'card_holds'). Laid BY PROGRAM, IN A SANDBOX (cutbox-door.mjs). By AI agents, Wed Nov 11 2026. No macro, syntax, notation, axiom, sorry.
-/
import Derived.Test.YtffnjdfmaebmhaaGreatDoorRows
import GoSem.ClaimSeven
namespace Go.Proofs.YtffnjdfmaebmhaaGreatDoor
namespace Rows

/-- THE TIED CARD OF 'pantographlaw8.AffSums'. -/
def affSumsCard : Claim7 := { stood := { row := affSumsRow, standIns := [], harness := (true, "7883fb8e73a914600cc894446d997b1e0c508ed34015bf2563a30ef79afea6b7"), looks := false }, kinds := [], alts := [], laidByText := true, laidKinds := [.data, .data, .data, .data, .pinned], laidTests := true, laidLooks := .later }
def AffSumsCardSaid : Prop := Claim7.holds Tryz.pinned (.plain (OpenSpec.ofChange affSumsSpec)) affSumsCard

/-- THE TIED CARD OF 'pantographlaw8.AffLaws'. -/
def affLawsCard : Claim7 := { stood := { row := affLawsRow, standIns := [], harness := (true, "7883fb8e73a914600cc894446d997b1e0c508ed34015bf2563a30ef79afea6b7"), looks := false }, kinds := [], alts := [], laidByText := true, laidKinds := [.data, .data, .data, .data, .pinned], laidTests := true, laidLooks := .later }
def AffLawsCardSaid : Prop := Claim7.holds Tryz.pinned (.plain (OpenSpec.ofChange affLawsSpec)) affLawsCard

/-- THE TIED CARD OF 'pantographlaw8.AffNames'. -/
def affNamesCard : Claim7 := { stood := { row := affNamesRow, standIns := [], harness := (true, "7883fb8e73a914600cc894446d997b1e0c508ed34015bf2563a30ef79afea6b7"), looks := false }, kinds := [], alts := [], laidByText := true, laidKinds := [.data, .data, .data, .data, .pinned], laidTests := true, laidLooks := .later }
def AffNamesCardSaid : Prop := Claim7.holds Tryz.pinned (.plain (OpenSpec.ofChange affNamesSpec)) affNamesCard

/-- THE SECOND FORM's CARD OF 'pantographlaw8.AffSums'. -/
def affSumsUptoCard : Claim7 := { stood := { row := affSumsUptoRow, standIns := [], harness := (true, "7883fb8e73a914600cc894446d997b1e0c508ed34015bf2563a30ef79afea6b7"), looks := false }, kinds := [], alts := [], laidByText := true, laidKinds := [.data, .data, .data, .data, .pinned], laidTests := true, laidLooks := .later }
def AffSumsUptoCardSaid : Prop := Claim7.holds Tryz.pinned (.plain (OpenSpec.upto affSumsSpec)) affSumsUptoCard

/-- THE SECOND FORM's CARD OF 'pantographlaw8.AffLaws'. -/
def affLawsUptoCard : Claim7 := { stood := { row := affLawsUptoRow, standIns := [], harness := (true, "7883fb8e73a914600cc894446d997b1e0c508ed34015bf2563a30ef79afea6b7"), looks := false }, kinds := [], alts := [], laidByText := true, laidKinds := [.data, .data, .data, .data, .pinned], laidTests := true, laidLooks := .later }
def AffLawsUptoCardSaid : Prop := Claim7.holds Tryz.pinned (.plain (OpenSpec.upto affLawsSpec)) affLawsUptoCard

/-- THE SECOND FORM's CARD OF 'pantographlaw8.AffNames'. -/
def affNamesUptoCard : Claim7 := { stood := { row := affNamesUptoRow, standIns := [], harness := (true, "7883fb8e73a914600cc894446d997b1e0c508ed34015bf2563a30ef79afea6b7"), looks := false }, kinds := [], alts := [], laidByText := true, laidKinds := [.data, .data, .data, .data, .pinned], laidTests := true, laidLooks := .later }
def AffNamesUptoCardSaid : Prop := Claim7.holds Tryz.pinned (.plain (OpenSpec.upto affNamesSpec)) affNamesUptoCard
end Rows
end Go.Proofs.YtffnjdfmaebmhaaGreatDoor
