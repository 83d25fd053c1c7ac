/-
  DERIVED. GIVEN WITH THE SEED: THE CARDS: each row of YtdbkjjelaipcfaaDoorRows.lean that lists a variable, with what it lists TIED to the program's text (the seventh form; the later family's looks); each row that meets fmt, with fmt's text TOLD by the authors' own Lean function (tested against real Go, not proved from fmt's source: count such statements apart). THE CARD IS WHAT COUNTS. Prove the row's statement (the work); the ties are given (YtdbkjjelaipcfaaDoorTie.lean); close each card by the builder's one call (the guide's Derived/Test/ToyasCard.lean, 'card_holds'). Laid BY PROGRAM, IN A SANDBOX (cutbox-door.mjs). By AI agents, Wed Nov 11 2026. No macro, syntax, notation, axiom, sorry.
-/
import Derived.Test.YtdbkjjelaipcfaaDoorRows
import GoSem.ClaimSeven
namespace Go.Proofs.YtdbkjjelaipcfaaDoor
namespace Rows

/-- THE TIED CARD OF 'quernlaw9.SSALong'. -/
def sSALongCard : Claim7 := { stood := { row := sSALongRow, standIns := [], harness := (true, "48a7825da98d98b70fcc5d3d57ff0b19348dcfcd9d5e58281d5a05ace9e8f38b"), looks := false }, kinds := [], alts := [], laidByText := true, laidKinds := [.data, .data], laidTests := true, laidLooks := .later }
def SSALongCardSaid : Prop := Claim7.holds Tryd.pinned (.plain (OpenSpec.ofChange sSALongSpec)) sSALongCard

/-- THE TIED CARD OF 'quernlaw9.SSALimits'. -/
def sSALimitsCard : Claim7 := { stood := { row := sSALimitsRow, standIns := [], harness := (true, "48a7825da98d98b70fcc5d3d57ff0b19348dcfcd9d5e58281d5a05ace9e8f38b"), looks := false }, kinds := [], alts := [], laidByText := true, laidKinds := [.data, .data], laidTests := true, laidLooks := .later }
def SSALimitsCardSaid : Prop := Claim7.holds Tryd.pinned (.plain (OpenSpec.ofChange sSALimitsSpec)) sSALimitsCard

/-- THE SECOND FORM's CARD OF 'quernlaw9.SSALong'. -/
def sSALongUptoCard : Claim7 := { stood := { row := sSALongUptoRow, standIns := [], harness := (true, "48a7825da98d98b70fcc5d3d57ff0b19348dcfcd9d5e58281d5a05ace9e8f38b"), looks := false }, kinds := [], alts := [], laidByText := true, laidKinds := [.data, .data], laidTests := true, laidLooks := .later }
def SSALongUptoCardSaid : Prop := Claim7.holds Tryd.pinned (.plain (OpenSpec.upto sSALongSpec)) sSALongUptoCard

/-- THE SECOND FORM's CARD OF 'quernlaw9.SSALimits'. -/
def sSALimitsUptoCard : Claim7 := { stood := { row := sSALimitsUptoRow, standIns := [], harness := (true, "48a7825da98d98b70fcc5d3d57ff0b19348dcfcd9d5e58281d5a05ace9e8f38b"), looks := false }, kinds := [], alts := [], laidByText := true, laidKinds := [.data, .data], laidTests := true, laidLooks := .later }
def SSALimitsUptoCardSaid : Prop := Claim7.holds Tryd.pinned (.plain (OpenSpec.upto sSALimitsSpec)) sSALimitsUptoCard
end Rows
end Go.Proofs.YtdbkjjelaipcfaaDoor
