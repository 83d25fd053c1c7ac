/-
  DERIVED. GIVEN WITH THE SEED: THE CARDS: each row of YtfofmmkihhnfmaaGreatDoorRows.lean that lists a variable, with what it lists TIED to the program's text (the seventh form; the later family's looks); each row that meets fmt, with fmt's text TOLD by the authors' own Lean function (tested against real Go, not proved from fmt's source: count such statements apart). THE CARD IS WHAT COUNTS. Prove the row's statement (the work); the ties are given (YtfofmmkihhnfmaaGreatDoorTie.lean); close each card by the builder's one call (the guide's Derived/Test/ToyasCard.lean, 'card_holds'). Laid BY PROGRAM, IN A SANDBOX (cutbox-door.mjs). By AI agents, Wed Nov 11 2026. No macro, syntax, notation, axiom, sorry.
-/
import Derived.Test.YtfofmmkihhnfmaaGreatDoorRows
import GoSem.ClaimSeven
namespace Go.Proofs.YtfofmmkihhnfmaaGreatDoor
namespace Rows

/-- THE TIED CARD OF 'quernlaw21.R16Grows'. -/
def r16GrowsCard : Claim7 := { stood := { row := r16GrowsRow, standIns := [], harness := (true, "5fd6fbe01435c44fa20e73a660f1cbf6b52fe3a7f9983fa0e939e2b24be91dd3"), looks := true }, kinds := [], alts := [], laidByText := true, laidKinds := [.data, .data], laidTests := true, laidLooks := .later }
def R16GrowsCardSaid : Prop := Claim7.holds Tryz.pinned (.plain (OpenSpec.ofChange r16GrowsSpec)) r16GrowsCard

/-- THE TIED CARD OF 'quernlaw21.R16Check'. -/
def r16CheckCard : Claim7 := { stood := { row := r16CheckRow, standIns := [], harness := (true, "5fd6fbe01435c44fa20e73a660f1cbf6b52fe3a7f9983fa0e939e2b24be91dd3"), looks := true }, kinds := [], alts := [], laidByText := true, laidKinds := [.data, .data], laidTests := true, laidLooks := .later }
def R16CheckCardSaid : Prop := Claim7.holds Tryz.pinned (.plain (OpenSpec.ofChange r16CheckSpec)) r16CheckCard

/-- THE TIED CARD OF 'quernlaw21.R16Runs'. -/
def r16RunsCard : Claim7 := { stood := { row := r16RunsRow, standIns := [], harness := (true, "5fd6fbe01435c44fa20e73a660f1cbf6b52fe3a7f9983fa0e939e2b24be91dd3"), looks := true }, kinds := [], alts := [], laidByText := true, laidKinds := [.data, .data], laidTests := true, laidLooks := .later }
def R16RunsCardSaid : Prop := Claim7.holds Tryz.pinned (.plain (OpenSpec.ofChange r16RunsSpec)) r16RunsCard

/-- THE TIED CARD OF 'quernlaw21.R16All'. -/
def r16AllCard : Claim7 := { stood := { row := r16AllRow, standIns := [], harness := (true, "5fd6fbe01435c44fa20e73a660f1cbf6b52fe3a7f9983fa0e939e2b24be91dd3"), looks := true }, kinds := [], alts := [], laidByText := true, laidKinds := [.data, .data], laidTests := true, laidLooks := .later }
def R16AllCardSaid : Prop := Claim7.holds Tryz.pinned (.plain (OpenSpec.ofChange r16AllSpec)) r16AllCard

/-- THE SECOND FORM's CARD OF 'quernlaw21.R16Grows'. -/
def r16GrowsUptoCard : Claim7 := { stood := { row := r16GrowsUptoRow, standIns := [], harness := (true, "5fd6fbe01435c44fa20e73a660f1cbf6b52fe3a7f9983fa0e939e2b24be91dd3"), looks := true }, kinds := [], alts := [], laidByText := true, laidKinds := [.data, .data], laidTests := true, laidLooks := .later }
def R16GrowsUptoCardSaid : Prop := Claim7.holds Tryz.pinned (.plain (OpenSpec.upto r16GrowsSpec)) r16GrowsUptoCard

/-- THE SECOND FORM's CARD OF 'quernlaw21.R16Check'. -/
def r16CheckUptoCard : Claim7 := { stood := { row := r16CheckUptoRow, standIns := [], harness := (true, "5fd6fbe01435c44fa20e73a660f1cbf6b52fe3a7f9983fa0e939e2b24be91dd3"), looks := true }, kinds := [], alts := [], laidByText := true, laidKinds := [.data, .data], laidTests := true, laidLooks := .later }
def R16CheckUptoCardSaid : Prop := Claim7.holds Tryz.pinned (.plain (OpenSpec.upto r16CheckSpec)) r16CheckUptoCard

/-- THE SECOND FORM's CARD OF 'quernlaw21.R16Runs'. -/
def r16RunsUptoCard : Claim7 := { stood := { row := r16RunsUptoRow, standIns := [], harness := (true, "5fd6fbe01435c44fa20e73a660f1cbf6b52fe3a7f9983fa0e939e2b24be91dd3"), looks := true }, kinds := [], alts := [], laidByText := true, laidKinds := [.data, .data], laidTests := true, laidLooks := .later }
def R16RunsUptoCardSaid : Prop := Claim7.holds Tryz.pinned (.plain (OpenSpec.upto r16RunsSpec)) r16RunsUptoCard

/-- THE SECOND FORM's CARD OF 'quernlaw21.R16All'. -/
def r16AllUptoCard : Claim7 := { stood := { row := r16AllUptoRow, standIns := [], harness := (true, "5fd6fbe01435c44fa20e73a660f1cbf6b52fe3a7f9983fa0e939e2b24be91dd3"), looks := true }, kinds := [], alts := [], laidByText := true, laidKinds := [.data, .data], laidTests := true, laidLooks := .later }
def R16AllUptoCardSaid : Prop := Claim7.holds Tryz.pinned (.plain (OpenSpec.upto r16AllSpec)) r16AllUptoCard
end Rows
end Go.Proofs.YtfofmmkihhnfmaaGreatDoor
