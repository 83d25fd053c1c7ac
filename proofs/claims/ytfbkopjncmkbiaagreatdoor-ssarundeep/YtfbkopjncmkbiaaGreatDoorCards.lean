/-
  DERIVED. GIVEN WITH THE SEED: THE CARDS: each row of YtfbkopjncmkbiaaGreatDoorRows.lean that lists a variable, with what it lists TIED to the program's text (the seventh form; the later family's looks); each row that meets fmt, with fmt's text TOLD by the authors' own Lean function (tested against real Go, not proved from fmt's source: count such statements apart). THE CARD IS WHAT COUNTS. Prove the row's statement (the work); the ties are given (YtfbkopjncmkbiaaGreatDoorTie.lean); close each card by the builder's one call (the guide's Derived/Test/ToyasCard.lean, 'card_holds'). Laid BY PROGRAM, IN A SANDBOX (cutbox-door.mjs). By AI agents, Wed Nov 11 2026. No macro, syntax, notation, axiom, sorry.
-/
import Derived.Test.YtfbkopjncmkbiaaGreatDoorRows
import GoSem.ClaimSeven
namespace Go.Proofs.YtfbkopjncmkbiaaGreatDoor
namespace Rows

/-- THE TIED CARD OF 'quernlaw10.SSARunSplit'. -/
def sSARunSplitCard : Claim7 := { stood := { row := sSARunSplitRow, standIns := [], harness := (true, "79054a8b09e366eafb93b8a08263acc7f6c30d9b2b3dec19ef040cab4b89f21d"), looks := false }, kinds := [], alts := [], laidByText := true, laidKinds := [.data, .data], laidTests := true, laidLooks := .later }
def SSARunSplitCardSaid : Prop := Claim7.holds Tryz.pinned (.plain (OpenSpec.ofChange sSARunSplitSpec)) sSARunSplitCard

/-- THE TIED CARD OF 'quernlaw10.SSARunGoes'. -/
def sSARunGoesCard : Claim7 := { stood := { row := sSARunGoesRow, standIns := [], harness := (true, "79054a8b09e366eafb93b8a08263acc7f6c30d9b2b3dec19ef040cab4b89f21d"), looks := false }, kinds := [], alts := [], laidByText := true, laidKinds := [.data, .data], laidTests := true, laidLooks := .later }
def SSARunGoesCardSaid : Prop := Claim7.holds Tryz.pinned (.plain (OpenSpec.ofChange sSARunGoesSpec)) sSARunGoesCard

/-- THE TIED CARD OF 'quernlaw10.SSARunDeep'. -/
def sSARunDeepCard : Claim7 := { stood := { row := sSARunDeepRow, standIns := [], harness := (true, "79054a8b09e366eafb93b8a08263acc7f6c30d9b2b3dec19ef040cab4b89f21d"), looks := false }, kinds := [], alts := [], laidByText := true, laidKinds := [.data, .data], laidTests := true, laidLooks := .later }
def SSARunDeepCardSaid : Prop := Claim7.holds Tryz.pinned (.plain (OpenSpec.ofChange sSARunDeepSpec)) sSARunDeepCard

/-- THE TIED CARD OF 'quernlaw10.SSARunTurns'. -/
def sSARunTurnsCard : Claim7 := { stood := { row := sSARunTurnsRow, standIns := [], harness := (true, "79054a8b09e366eafb93b8a08263acc7f6c30d9b2b3dec19ef040cab4b89f21d"), looks := false }, kinds := [], alts := [], laidByText := true, laidKinds := [.data, .data], laidTests := true, laidLooks := .later }
def SSARunTurnsCardSaid : Prop := Claim7.holds Tryz.pinned (.plain (OpenSpec.ofChange sSARunTurnsSpec)) sSARunTurnsCard

/-- THE TIED CARD OF 'quernlaw10.SSARunBoth'. -/
def sSARunBothCard : Claim7 := { stood := { row := sSARunBothRow, standIns := [], harness := (true, "79054a8b09e366eafb93b8a08263acc7f6c30d9b2b3dec19ef040cab4b89f21d"), looks := false }, kinds := [], alts := [], laidByText := true, laidKinds := [.data, .data], laidTests := true, laidLooks := .later }
def SSARunBothCardSaid : Prop := Claim7.holds Tryz.pinned (.plain (OpenSpec.ofChange sSARunBothSpec)) sSARunBothCard

/-- THE TIED CARD OF 'quernlaw10.SSARunInput'. -/
def sSARunInputCard : Claim7 := { stood := { row := sSARunInputRow, standIns := [], harness := (true, "79054a8b09e366eafb93b8a08263acc7f6c30d9b2b3dec19ef040cab4b89f21d"), looks := false }, kinds := [], alts := [], laidByText := true, laidKinds := [.data, .data], laidTests := true, laidLooks := .later }
def SSARunInputCardSaid : Prop := Claim7.holds Tryz.pinned (.plain (OpenSpec.ofChange sSARunInputSpec)) sSARunInputCard

/-- THE SECOND FORM's CARD OF 'quernlaw10.SSARunSplit'. -/
def sSARunSplitUptoCard : Claim7 := { stood := { row := sSARunSplitUptoRow, standIns := [], harness := (true, "79054a8b09e366eafb93b8a08263acc7f6c30d9b2b3dec19ef040cab4b89f21d"), looks := false }, kinds := [], alts := [], laidByText := true, laidKinds := [.data, .data], laidTests := true, laidLooks := .later }
def SSARunSplitUptoCardSaid : Prop := Claim7.holds Tryz.pinned (.plain (OpenSpec.upto sSARunSplitSpec)) sSARunSplitUptoCard

/-- THE SECOND FORM's CARD OF 'quernlaw10.SSARunGoes'. -/
def sSARunGoesUptoCard : Claim7 := { stood := { row := sSARunGoesUptoRow, standIns := [], harness := (true, "79054a8b09e366eafb93b8a08263acc7f6c30d9b2b3dec19ef040cab4b89f21d"), looks := false }, kinds := [], alts := [], laidByText := true, laidKinds := [.data, .data], laidTests := true, laidLooks := .later }
def SSARunGoesUptoCardSaid : Prop := Claim7.holds Tryz.pinned (.plain (OpenSpec.upto sSARunGoesSpec)) sSARunGoesUptoCard

/-- THE SECOND FORM's CARD OF 'quernlaw10.SSARunDeep'. -/
def sSARunDeepUptoCard : Claim7 := { stood := { row := sSARunDeepUptoRow, standIns := [], harness := (true, "79054a8b09e366eafb93b8a08263acc7f6c30d9b2b3dec19ef040cab4b89f21d"), looks := false }, kinds := [], alts := [], laidByText := true, laidKinds := [.data, .data], laidTests := true, laidLooks := .later }
def SSARunDeepUptoCardSaid : Prop := Claim7.holds Tryz.pinned (.plain (OpenSpec.upto sSARunDeepSpec)) sSARunDeepUptoCard

/-- THE SECOND FORM's CARD OF 'quernlaw10.SSARunTurns'. -/
def sSARunTurnsUptoCard : Claim7 := { stood := { row := sSARunTurnsUptoRow, standIns := [], harness := (true, "79054a8b09e366eafb93b8a08263acc7f6c30d9b2b3dec19ef040cab4b89f21d"), looks := false }, kinds := [], alts := [], laidByText := true, laidKinds := [.data, .data], laidTests := true, laidLooks := .later }
def SSARunTurnsUptoCardSaid : Prop := Claim7.holds Tryz.pinned (.plain (OpenSpec.upto sSARunTurnsSpec)) sSARunTurnsUptoCard

/-- THE SECOND FORM's CARD OF 'quernlaw10.SSARunBoth'. -/
def sSARunBothUptoCard : Claim7 := { stood := { row := sSARunBothUptoRow, standIns := [], harness := (true, "79054a8b09e366eafb93b8a08263acc7f6c30d9b2b3dec19ef040cab4b89f21d"), looks := false }, kinds := [], alts := [], laidByText := true, laidKinds := [.data, .data], laidTests := true, laidLooks := .later }
def SSARunBothUptoCardSaid : Prop := Claim7.holds Tryz.pinned (.plain (OpenSpec.upto sSARunBothSpec)) sSARunBothUptoCard

/-- THE SECOND FORM's CARD OF 'quernlaw10.SSARunInput'. -/
def sSARunInputUptoCard : Claim7 := { stood := { row := sSARunInputUptoRow, standIns := [], harness := (true, "79054a8b09e366eafb93b8a08263acc7f6c30d9b2b3dec19ef040cab4b89f21d"), looks := false }, kinds := [], alts := [], laidByText := true, laidKinds := [.data, .data], laidTests := true, laidLooks := .later }
def SSARunInputUptoCardSaid : Prop := Claim7.holds Tryz.pinned (.plain (OpenSpec.upto sSARunInputSpec)) sSARunInputUptoCard
end Rows
end Go.Proofs.YtfbkopjncmkbiaaGreatDoor
