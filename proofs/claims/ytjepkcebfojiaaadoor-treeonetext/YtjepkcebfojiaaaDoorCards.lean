/-
  DERIVED. GIVEN WITH THE SEED: THE CARDS: each row of YtjepkcebfojiaaaDoorRows.lean that lists a variable, with what it lists TIED to the program's text (the seventh form; the later family's looks); each row that meets fmt, with fmt's text TOLD by the authors' own Lean function (tested against real Go, not proved from fmt's source: count such statements apart). THE CARD IS WHAT COUNTS. Prove the row's statement (the work); the ties are given (YtjepkcebfojiaaaDoorTie.lean); close each card by the builder's one call (the guide's Derived/Test/ToyasCard.lean, 'card_holds'). Laid BY PROGRAM, IN A SANDBOX (cutbox-door.mjs). By AI agents, Wed Nov 11 2026. No macro, syntax, notation, axiom, sorry.
-/
import Derived.Test.YtjepkcebfojiaaaDoorRows
import GoSem.ClaimSeven
namespace Go.Proofs.YtjepkcebfojiaaaDoor
namespace Rows

/-- THE TIED CARD OF 'quernlaw3.TreeOneText'. -/
def treeOneTextCard : Claim7 := { stood := { row := treeOneTextRow, standIns := [], harness := (true, "c90471d7fec461641d310315c55163c68efa753e321dc1372ec63db013d11d4c"), looks := false }, kinds := [], alts := [], laidByText := true, laidKinds := [.data, .data, .data, .data, .data, .data, .data], laidTests := true, laidLooks := .later }
def TreeOneTextCardSaid : Prop := Claim7.holds Tryd.pinned (.plain (OpenSpec.ofChange treeOneTextSpec)) treeOneTextCard

/-- THE TIED CARD OF 'quernlaw3.TreeLexes'. -/
def treeLexesCard : Claim7 := { stood := { row := treeLexesRow, standIns := [], harness := (true, "c90471d7fec461641d310315c55163c68efa753e321dc1372ec63db013d11d4c"), looks := false }, kinds := [], alts := [], laidByText := true, laidKinds := [.data, .data, .data, .data, .data, .data, .data], laidTests := true, laidLooks := .later }
def TreeLexesCardSaid : Prop := Claim7.holds Tryd.pinned (.plain (OpenSpec.ofChange treeLexesSpec)) treeLexesCard

/-- THE TIED CARD OF 'quernlaw3.TreeDeep'. -/
def treeDeepCard : Claim7 := { stood := { row := treeDeepRow, standIns := [], harness := (true, "c90471d7fec461641d310315c55163c68efa753e321dc1372ec63db013d11d4c"), looks := false }, kinds := [], alts := [], laidByText := true, laidKinds := [.data, .data, .data, .data, .data, .data, .data], laidTests := true, laidLooks := .later }
def TreeDeepCardSaid : Prop := Claim7.holds Tryd.pinned (.plain (OpenSpec.ofChange treeDeepSpec)) treeDeepCard

/-- THE SECOND FORM's CARD OF 'quernlaw3.TreeOneText'. -/
def treeOneTextUptoCard : Claim7 := { stood := { row := treeOneTextUptoRow, standIns := [], harness := (true, "c90471d7fec461641d310315c55163c68efa753e321dc1372ec63db013d11d4c"), looks := false }, kinds := [], alts := [], laidByText := true, laidKinds := [.data, .data, .data, .data, .data, .data, .data], laidTests := true, laidLooks := .later }
def TreeOneTextUptoCardSaid : Prop := Claim7.holds Tryd.pinned (.plain (OpenSpec.upto treeOneTextSpec)) treeOneTextUptoCard

/-- THE SECOND FORM's CARD OF 'quernlaw3.TreeLexes'. -/
def treeLexesUptoCard : Claim7 := { stood := { row := treeLexesUptoRow, standIns := [], harness := (true, "c90471d7fec461641d310315c55163c68efa753e321dc1372ec63db013d11d4c"), looks := false }, kinds := [], alts := [], laidByText := true, laidKinds := [.data, .data, .data, .data, .data, .data, .data], laidTests := true, laidLooks := .later }
def TreeLexesUptoCardSaid : Prop := Claim7.holds Tryd.pinned (.plain (OpenSpec.upto treeLexesSpec)) treeLexesUptoCard

/-- THE SECOND FORM's CARD OF 'quernlaw3.TreeDeep'. -/
def treeDeepUptoCard : Claim7 := { stood := { row := treeDeepUptoRow, standIns := [], harness := (true, "c90471d7fec461641d310315c55163c68efa753e321dc1372ec63db013d11d4c"), looks := false }, kinds := [], alts := [], laidByText := true, laidKinds := [.data, .data, .data, .data, .data, .data, .data], laidTests := true, laidLooks := .later }
def TreeDeepUptoCardSaid : Prop := Claim7.holds Tryd.pinned (.plain (OpenSpec.upto treeDeepSpec)) treeDeepUptoCard
end Rows
end Go.Proofs.YtjepkcebfojiaaaDoor
