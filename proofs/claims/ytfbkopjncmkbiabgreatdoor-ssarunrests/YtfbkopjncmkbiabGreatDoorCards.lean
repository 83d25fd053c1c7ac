/-
  DERIVED. GIVEN WITH THE SEED: THE CARDS: each row of YtfbkopjncmkbiabGreatDoorRows.lean that lists a variable, with what it lists TIED to the program's text (the seventh form; the later family's looks); each row that meets fmt, with fmt's text TOLD by the authors' own Lean function (tested against real Go, not proved from fmt's source: count such statements apart). THE CARD IS WHAT COUNTS. Prove the row's statement (the work); the ties are given (YtfbkopjncmkbiabGreatDoorTie.lean); close each card by the builder's one call (the guide's Derived/Test/ToyasCard.lean, 'card_holds'). Laid BY PROGRAM, IN A SANDBOX (cutbox-door.mjs). By AI agents, Wed Nov 11 2026. No macro, syntax, notation, axiom, sorry.
-/
import Derived.Test.YtfbkopjncmkbiabGreatDoorRows
import GoSem.ClaimSeven
namespace Go.Proofs.YtfbkopjncmkbiabGreatDoor
namespace Rows

/-- THE TIED CARD OF 'quernlaw10.SSARunRests'. -/
def sSARunRestsCard : Claim7 := { stood := { row := sSARunRestsRow, standIns := [], harness := (true, "529fcdafde65d182b1fb52ee05645ae2e02dc364c7ee1c6b8e845be2d577bb52"), looks := false }, kinds := [], alts := [], laidByText := true, laidKinds := [.data, .data], laidTests := true, laidLooks := .later }
def SSARunRestsCardSaid : Prop := Claim7.holds Tryz.pinned (.plain (OpenSpec.ofChange sSARunRestsSpec)) sSARunRestsCard

/-- THE SECOND FORM's CARD OF 'quernlaw10.SSARunRests'. -/
def sSARunRestsUptoCard : Claim7 := { stood := { row := sSARunRestsUptoRow, standIns := [], harness := (true, "529fcdafde65d182b1fb52ee05645ae2e02dc364c7ee1c6b8e845be2d577bb52"), looks := false }, kinds := [], alts := [], laidByText := true, laidKinds := [.data, .data], laidTests := true, laidLooks := .later }
def SSARunRestsUptoCardSaid : Prop := Claim7.holds Tryz.pinned (.plain (OpenSpec.upto sSARunRestsSpec)) sSARunRestsUptoCard
end Rows
end Go.Proofs.YtfbkopjncmkbiabGreatDoor
