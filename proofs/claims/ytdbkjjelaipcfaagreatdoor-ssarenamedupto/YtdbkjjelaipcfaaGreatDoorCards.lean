/-
  DERIVED. GIVEN WITH THE SEED: THE CARDS: each row of YtdbkjjelaipcfaaGreatDoorRows.lean that lists a variable, with what it lists TIED to the program's text (the seventh form; the later family's looks); each row that meets fmt, with fmt's text TOLD by the authors' own Lean function (tested against real Go, not proved from fmt's source: count such statements apart). THE CARD IS WHAT COUNTS. Prove the row's statement (the work); the ties are given (YtdbkjjelaipcfaaGreatDoorTie.lean); close each card by the builder's one call (the guide's Derived/Test/ToyasCard.lean, 'card_holds'). Laid BY PROGRAM, IN A SANDBOX (cutbox-door.mjs). By AI agents, Wed Nov 11 2026. No macro, syntax, notation, axiom, sorry.
-/
import Derived.Test.YtdbkjjelaipcfaaGreatDoorRows
import GoSem.ClaimSeven
namespace Go.Proofs.YtdbkjjelaipcfaaGreatDoor
namespace Rows

/-- THE TIED CARD OF 'quernlaw9.SSACheck'. -/
def sSACheckCard : Claim7 := { stood := { row := sSACheckRow, standIns := [], harness := (true, "778780024161f2fc1e680196f946d8aa1d92d9bd5e4a45ff9d9f94e244cea1f5"), looks := false }, kinds := [], alts := [], laidByText := true, laidKinds := [.data, .data], laidTests := true, laidLooks := .later }
def SSACheckCardSaid : Prop := Claim7.holds Tryz.pinned (.plain (OpenSpec.ofChange sSACheckSpec)) sSACheckCard

/-- THE TIED CARD OF 'quernlaw9.SSASame'. -/
def sSASameCard : Claim7 := { stood := { row := sSASameRow, standIns := [], harness := (true, "778780024161f2fc1e680196f946d8aa1d92d9bd5e4a45ff9d9f94e244cea1f5"), looks := false }, kinds := [], alts := [], laidByText := true, laidKinds := [.data, .data], laidTests := true, laidLooks := .later }
def SSASameCardSaid : Prop := Claim7.holds Tryz.pinned (.plain (OpenSpec.ofChange sSASameSpec)) sSASameCard

/-- THE TIED CARD OF 'quernlaw9.SSARenamed'. -/
def sSARenamedCard : Claim7 := { stood := { row := sSARenamedRow, standIns := [], harness := (true, "778780024161f2fc1e680196f946d8aa1d92d9bd5e4a45ff9d9f94e244cea1f5"), looks := false }, kinds := [], alts := [], laidByText := true, laidKinds := [.data, .data], laidTests := true, laidLooks := .later }
def SSARenamedCardSaid : Prop := Claim7.holds Tryz.pinned (.plain (OpenSpec.ofChange sSARenamedSpec)) sSARenamedCard

/-- THE TIED CARD OF 'quernlaw9.SSAMade'. -/
def sSAMadeCard : Claim7 := { stood := { row := sSAMadeRow, standIns := [], harness := (true, "778780024161f2fc1e680196f946d8aa1d92d9bd5e4a45ff9d9f94e244cea1f5"), looks := false }, kinds := [], alts := [], laidByText := true, laidKinds := [.data, .data], laidTests := true, laidLooks := .later }
def SSAMadeCardSaid : Prop := Claim7.holds Tryz.pinned (.plain (OpenSpec.ofChange sSAMadeSpec)) sSAMadeCard

/-- THE SECOND FORM's CARD OF 'quernlaw9.SSACheck'. -/
def sSACheckUptoCard : Claim7 := { stood := { row := sSACheckUptoRow, standIns := [], harness := (true, "778780024161f2fc1e680196f946d8aa1d92d9bd5e4a45ff9d9f94e244cea1f5"), looks := false }, kinds := [], alts := [], laidByText := true, laidKinds := [.data, .data], laidTests := true, laidLooks := .later }
def SSACheckUptoCardSaid : Prop := Claim7.holds Tryz.pinned (.plain (OpenSpec.upto sSACheckSpec)) sSACheckUptoCard

/-- THE SECOND FORM's CARD OF 'quernlaw9.SSASame'. -/
def sSASameUptoCard : Claim7 := { stood := { row := sSASameUptoRow, standIns := [], harness := (true, "778780024161f2fc1e680196f946d8aa1d92d9bd5e4a45ff9d9f94e244cea1f5"), looks := false }, kinds := [], alts := [], laidByText := true, laidKinds := [.data, .data], laidTests := true, laidLooks := .later }
def SSASameUptoCardSaid : Prop := Claim7.holds Tryz.pinned (.plain (OpenSpec.upto sSASameSpec)) sSASameUptoCard

/-- THE SECOND FORM's CARD OF 'quernlaw9.SSARenamed'. -/
def sSARenamedUptoCard : Claim7 := { stood := { row := sSARenamedUptoRow, standIns := [], harness := (true, "778780024161f2fc1e680196f946d8aa1d92d9bd5e4a45ff9d9f94e244cea1f5"), looks := false }, kinds := [], alts := [], laidByText := true, laidKinds := [.data, .data], laidTests := true, laidLooks := .later }
def SSARenamedUptoCardSaid : Prop := Claim7.holds Tryz.pinned (.plain (OpenSpec.upto sSARenamedSpec)) sSARenamedUptoCard

/-- THE SECOND FORM's CARD OF 'quernlaw9.SSAMade'. -/
def sSAMadeUptoCard : Claim7 := { stood := { row := sSAMadeUptoRow, standIns := [], harness := (true, "778780024161f2fc1e680196f946d8aa1d92d9bd5e4a45ff9d9f94e244cea1f5"), looks := false }, kinds := [], alts := [], laidByText := true, laidKinds := [.data, .data], laidTests := true, laidLooks := .later }
def SSAMadeUptoCardSaid : Prop := Claim7.holds Tryz.pinned (.plain (OpenSpec.upto sSAMadeSpec)) sSAMadeUptoCard
end Rows
end Go.Proofs.YtdbkjjelaipcfaaGreatDoor
