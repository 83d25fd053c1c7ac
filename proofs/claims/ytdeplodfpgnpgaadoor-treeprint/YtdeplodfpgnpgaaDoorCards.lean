/-
  DERIVED. GIVEN WITH THE SEED: THE CARDS: each row of YtdeplodfpgnpgaaDoorRows.lean that lists a variable, with what it lists TIED to the program's text (the seventh form; the later family's looks); each row that meets fmt, with fmt's text TOLD by the authors' own Lean function (tested against real Go, not proved from fmt's source: count such statements apart). THE CARD IS WHAT COUNTS. Prove the row's statement (the work); the ties are given (YtdeplodfpgnpgaaDoorTie.lean); close each card by the builder's one call (the guide's Derived/Test/ToyasCard.lean, 'card_holds'). Laid BY PROGRAM, IN A SANDBOX (cutbox-door.mjs). By AI agents, Wed Nov 11 2026. No macro, syntax, notation, axiom, sorry.
-/
import Derived.Test.YtdeplodfpgnpgaaDoorRows
import GoSem.ClaimSeven
namespace Go.Proofs.YtdeplodfpgnpgaaDoor
namespace Rows

/-- THE TIED CARD OF 'quernlaw3.TreeCheck'. -/
def treeCheckCard : Claim7 := { stood := { row := treeCheckRow, standIns := [], harness := (true, "a3a9ffd4d4baedb86182350dd934d867ad42eaf3e488784bee44da32ebafa48d"), looks := false }, kinds := [], alts := [], laidByText := true, laidKinds := [.data, .data, .data, .data, .data, .data, .data], laidTests := true, laidLooks := .later }
def TreeCheckCardSaid : Prop := Claim7.holds Tryd.pinned (.plain (OpenSpec.ofChange treeCheckSpec)) treeCheckCard

/-- THE TIED CARD OF 'quernlaw3.TreePrint'. -/
def treePrintCard : Claim7 := { stood := { row := treePrintRow, standIns := [], harness := (true, "a3a9ffd4d4baedb86182350dd934d867ad42eaf3e488784bee44da32ebafa48d"), looks := false }, kinds := [], alts := [], laidByText := true, laidKinds := [.data, .data, .data, .data, .data, .data, .data], laidTests := true, laidLooks := .later }
def TreePrintCardSaid : Prop := Claim7.holds Tryd.pinned (.plain (OpenSpec.ofChange treePrintSpec)) treePrintCard

/-- THE TIED CARD OF 'quernlaw3.TreeDeep'. -/
def treeDeepCard : Claim7 := { stood := { row := treeDeepRow, standIns := [], harness := (true, "a3a9ffd4d4baedb86182350dd934d867ad42eaf3e488784bee44da32ebafa48d"), looks := false }, kinds := [], alts := [], laidByText := true, laidKinds := [.data, .data, .data, .data, .data, .data, .data], laidTests := true, laidLooks := .later }
def TreeDeepCardSaid : Prop := Claim7.holds Tryd.pinned (.plain (OpenSpec.ofChange treeDeepSpec)) treeDeepCard

/-- THE SECOND FORM's CARD OF 'quernlaw3.TreeCheck'. -/
def treeCheckUptoCard : Claim7 := { stood := { row := treeCheckUptoRow, standIns := [], harness := (true, "a3a9ffd4d4baedb86182350dd934d867ad42eaf3e488784bee44da32ebafa48d"), looks := false }, kinds := [], alts := [], laidByText := true, laidKinds := [.data, .data, .data, .data, .data, .data, .data], laidTests := true, laidLooks := .later }
def TreeCheckUptoCardSaid : Prop := Claim7.holds Tryd.pinned (.plain (OpenSpec.upto treeCheckSpec)) treeCheckUptoCard

/-- THE SECOND FORM's CARD OF 'quernlaw3.TreePrint'. -/
def treePrintUptoCard : Claim7 := { stood := { row := treePrintUptoRow, standIns := [], harness := (true, "a3a9ffd4d4baedb86182350dd934d867ad42eaf3e488784bee44da32ebafa48d"), looks := false }, kinds := [], alts := [], laidByText := true, laidKinds := [.data, .data, .data, .data, .data, .data, .data], laidTests := true, laidLooks := .later }
def TreePrintUptoCardSaid : Prop := Claim7.holds Tryd.pinned (.plain (OpenSpec.upto treePrintSpec)) treePrintUptoCard

/-- THE SECOND FORM's CARD OF 'quernlaw3.TreeDeep'. -/
def treeDeepUptoCard : Claim7 := { stood := { row := treeDeepUptoRow, standIns := [], harness := (true, "a3a9ffd4d4baedb86182350dd934d867ad42eaf3e488784bee44da32ebafa48d"), looks := false }, kinds := [], alts := [], laidByText := true, laidKinds := [.data, .data, .data, .data, .data, .data, .data], laidTests := true, laidLooks := .later }
def TreeDeepUptoCardSaid : Prop := Claim7.holds Tryd.pinned (.plain (OpenSpec.upto treeDeepSpec)) treeDeepUptoCard
end Rows
end Go.Proofs.YtdeplodfpgnpgaaDoor
