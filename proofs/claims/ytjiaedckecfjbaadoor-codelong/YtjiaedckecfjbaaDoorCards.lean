/-
  DERIVED. GIVEN WITH THE SEED: THE CARDS: each row of YtjiaedckecfjbaaDoorRows.lean that lists a variable, with what it lists TIED to the program's text (the seventh form; the later family's looks); each row that meets fmt, with fmt's text TOLD by the authors' own Lean function (tested against real Go, not proved from fmt's source: count such statements apart). THE CARD IS WHAT COUNTS. Prove the row's statement (the work); the ties are given (YtjiaedckecfjbaaDoorTie.lean); close each card by the builder's one call (the guide's Derived/Test/ToyasCard.lean, 'card_holds'). Laid BY PROGRAM, IN A SANDBOX (cutbox-door.mjs). By AI agents, Wed Nov 11 2026. No macro, syntax, notation, axiom, sorry.
-/
import Derived.Test.YtjiaedckecfjbaaDoorRows
import GoSem.ClaimSeven
namespace Go.Proofs.YtjiaedckecfjbaaDoor
namespace Rows

/-- THE TIED CARD OF 'quernlaw22.CodeBack'. -/
def codeBackCard : Claim7 := { stood := { row := codeBackRow, standIns := [], harness := (true, "a3d16294de4927ee459775d34cbd9e7ff6064302ef0cf479ae02248fe98dd990"), looks := true }, kinds := [], alts := [], laidByText := true, laidKinds := [.data, .data], laidTests := true, laidLooks := .later }
def CodeBackCardSaid : Prop := Claim7.holds Tryd.pinned (.plain (OpenSpec.ofChange codeBackSpec)) codeBackCard

/-- THE TIED CARD OF 'quernlaw22.CodeOneForm'. -/
def codeOneFormCard : Claim7 := { stood := { row := codeOneFormRow, standIns := [], harness := (true, "a3d16294de4927ee459775d34cbd9e7ff6064302ef0cf479ae02248fe98dd990"), looks := true }, kinds := [], alts := [], laidByText := true, laidKinds := [.data, .data], laidTests := true, laidLooks := .later }
def CodeOneFormCardSaid : Prop := Claim7.holds Tryd.pinned (.plain (OpenSpec.ofChange codeOneFormSpec)) codeOneFormCard

/-- THE TIED CARD OF 'quernlaw22.CodeLong'. -/
def codeLongCard : Claim7 := { stood := { row := codeLongRow, standIns := [], harness := (true, "a3d16294de4927ee459775d34cbd9e7ff6064302ef0cf479ae02248fe98dd990"), looks := true }, kinds := [], alts := [], laidByText := true, laidKinds := [.data, .data], laidTests := true, laidLooks := .later }
def CodeLongCardSaid : Prop := Claim7.holds Tryd.pinned (.plain (OpenSpec.ofChange codeLongSpec)) codeLongCard

/-- THE TIED CARD OF 'quernlaw22.CodeNames'. -/
def codeNamesCard : Claim7 := { stood := { row := codeNamesRow, standIns := [], harness := (true, "a3d16294de4927ee459775d34cbd9e7ff6064302ef0cf479ae02248fe98dd990"), looks := true }, kinds := [], alts := [], laidByText := true, laidKinds := [.data, .data], laidTests := true, laidLooks := .later }
def CodeNamesCardSaid : Prop := Claim7.holds Tryd.pinned (.plain (OpenSpec.ofChange codeNamesSpec)) codeNamesCard

/-- THE TIED CARD OF 'quernlaw22.CodePlaces'. -/
def codePlacesCard : Claim7 := { stood := { row := codePlacesRow, standIns := [], harness := (true, "a3d16294de4927ee459775d34cbd9e7ff6064302ef0cf479ae02248fe98dd990"), looks := true }, kinds := [], alts := [], laidByText := true, laidKinds := [.data, .data], laidTests := true, laidLooks := .later }
def CodePlacesCardSaid : Prop := Claim7.holds Tryd.pinned (.plain (OpenSpec.ofChange codePlacesSpec)) codePlacesCard

/-- THE TIED CARD OF 'quernlaw22.CodeFlip'. -/
def codeFlipCard : Claim7 := { stood := { row := codeFlipRow, standIns := [], harness := (true, "a3d16294de4927ee459775d34cbd9e7ff6064302ef0cf479ae02248fe98dd990"), looks := true }, kinds := [], alts := [], laidByText := true, laidKinds := [.data, .data], laidTests := true, laidLooks := .later }
def CodeFlipCardSaid : Prop := Claim7.holds Tryd.pinned (.plain (OpenSpec.ofChange codeFlipSpec)) codeFlipCard

/-- THE SECOND FORM's CARD OF 'quernlaw22.CodeBack'. -/
def codeBackUptoCard : Claim7 := { stood := { row := codeBackUptoRow, standIns := [], harness := (true, "a3d16294de4927ee459775d34cbd9e7ff6064302ef0cf479ae02248fe98dd990"), looks := true }, kinds := [], alts := [], laidByText := true, laidKinds := [.data, .data], laidTests := true, laidLooks := .later }
def CodeBackUptoCardSaid : Prop := Claim7.holds Tryd.pinned (.plain (OpenSpec.upto codeBackSpec)) codeBackUptoCard

/-- THE SECOND FORM's CARD OF 'quernlaw22.CodeOneForm'. -/
def codeOneFormUptoCard : Claim7 := { stood := { row := codeOneFormUptoRow, standIns := [], harness := (true, "a3d16294de4927ee459775d34cbd9e7ff6064302ef0cf479ae02248fe98dd990"), looks := true }, kinds := [], alts := [], laidByText := true, laidKinds := [.data, .data], laidTests := true, laidLooks := .later }
def CodeOneFormUptoCardSaid : Prop := Claim7.holds Tryd.pinned (.plain (OpenSpec.upto codeOneFormSpec)) codeOneFormUptoCard

/-- THE SECOND FORM's CARD OF 'quernlaw22.CodeLong'. -/
def codeLongUptoCard : Claim7 := { stood := { row := codeLongUptoRow, standIns := [], harness := (true, "a3d16294de4927ee459775d34cbd9e7ff6064302ef0cf479ae02248fe98dd990"), looks := true }, kinds := [], alts := [], laidByText := true, laidKinds := [.data, .data], laidTests := true, laidLooks := .later }
def CodeLongUptoCardSaid : Prop := Claim7.holds Tryd.pinned (.plain (OpenSpec.upto codeLongSpec)) codeLongUptoCard

/-- THE SECOND FORM's CARD OF 'quernlaw22.CodeNames'. -/
def codeNamesUptoCard : Claim7 := { stood := { row := codeNamesUptoRow, standIns := [], harness := (true, "a3d16294de4927ee459775d34cbd9e7ff6064302ef0cf479ae02248fe98dd990"), looks := true }, kinds := [], alts := [], laidByText := true, laidKinds := [.data, .data], laidTests := true, laidLooks := .later }
def CodeNamesUptoCardSaid : Prop := Claim7.holds Tryd.pinned (.plain (OpenSpec.upto codeNamesSpec)) codeNamesUptoCard

/-- THE SECOND FORM's CARD OF 'quernlaw22.CodePlaces'. -/
def codePlacesUptoCard : Claim7 := { stood := { row := codePlacesUptoRow, standIns := [], harness := (true, "a3d16294de4927ee459775d34cbd9e7ff6064302ef0cf479ae02248fe98dd990"), looks := true }, kinds := [], alts := [], laidByText := true, laidKinds := [.data, .data], laidTests := true, laidLooks := .later }
def CodePlacesUptoCardSaid : Prop := Claim7.holds Tryd.pinned (.plain (OpenSpec.upto codePlacesSpec)) codePlacesUptoCard

/-- THE SECOND FORM's CARD OF 'quernlaw22.CodeFlip'. -/
def codeFlipUptoCard : Claim7 := { stood := { row := codeFlipUptoRow, standIns := [], harness := (true, "a3d16294de4927ee459775d34cbd9e7ff6064302ef0cf479ae02248fe98dd990"), looks := true }, kinds := [], alts := [], laidByText := true, laidKinds := [.data, .data], laidTests := true, laidLooks := .later }
def CodeFlipUptoCardSaid : Prop := Claim7.holds Tryd.pinned (.plain (OpenSpec.upto codeFlipSpec)) codeFlipUptoCard
end Rows
end Go.Proofs.YtjiaedckecfjbaaDoor
