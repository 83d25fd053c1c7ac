/-
  DERIVED. GIVEN WITH THE SEED: THE CARDS: each row of YteplldbhfjfbpaaGreatDoorRows.lean that lists a variable, with what it lists TIED to the program's text (the seventh form; the later family's looks); each row that meets fmt, with fmt's text TOLD by the authors' own Lean function (tested against real Go, not proved from fmt's source: count such statements apart). THE CARD IS WHAT COUNTS. Prove the row's statement (the work); the ties are given (YteplldbhfjfbpaaGreatDoorTie.lean); close each card by the builder's one call (the guide's Derived/Test/ToyasCard.lean, 'card_holds'). Laid BY PROGRAM, IN A SANDBOX (cutbox-door.mjs). By AI agents, Wed Nov 11 2026. No macro, syntax, notation, axiom, sorry.
-/
import Derived.Test.YteplldbhfjfbpaaGreatDoorRows
import GoSem.ClaimSeven
namespace Go.Proofs.YteplldbhfjfbpaaGreatDoor
namespace Rows

/-- THE TIED CARD OF 'quernlaw21.R16Depth'. -/
def r16DepthCard : Claim7 := { stood := { row := r16DepthRow, standIns := [], harness := (true, "369cab180da08b179d7481fab8bfdd511b787793354e5e42529c8002f1156141"), looks := true }, kinds := [], alts := [], laidByText := true, laidKinds := [.data, .data], laidTests := true, laidLooks := .later }
def R16DepthCardSaid : Prop := Claim7.holds Tryz.pinned (.plain (OpenSpec.ofChange r16DepthSpec)) r16DepthCard

/-- THE TIED CARD OF 'quernlaw21.R16Words'. -/
def r16WordsCard : Claim7 := { stood := { row := r16WordsRow, standIns := [], harness := (true, "369cab180da08b179d7481fab8bfdd511b787793354e5e42529c8002f1156141"), looks := true }, kinds := [], alts := [], laidByText := true, laidKinds := [.data, .data], laidTests := true, laidLooks := .later }
def R16WordsCardSaid : Prop := Claim7.holds Tryz.pinned (.plain (OpenSpec.ofChange r16WordsSpec)) r16WordsCard

/-- THE TIED CARD OF 'quernlaw21.R16Heap'. -/
def r16HeapCard : Claim7 := { stood := { row := r16HeapRow, standIns := [], harness := (true, "369cab180da08b179d7481fab8bfdd511b787793354e5e42529c8002f1156141"), looks := true }, kinds := [], alts := [], laidByText := true, laidKinds := [.data, .data], laidTests := true, laidLooks := .later }
def R16HeapCardSaid : Prop := Claim7.holds Tryz.pinned (.plain (OpenSpec.ofChange r16HeapSpec)) r16HeapCard

/-- THE TIED CARD OF 'quernlaw21.R16Errors'. -/
def r16ErrorsCard : Claim7 := { stood := { row := r16ErrorsRow, standIns := [], harness := (true, "369cab180da08b179d7481fab8bfdd511b787793354e5e42529c8002f1156141"), looks := true }, kinds := [], alts := [], laidByText := true, laidKinds := [.data, .data], laidTests := true, laidLooks := .later }
def R16ErrorsCardSaid : Prop := Claim7.holds Tryz.pinned (.plain (OpenSpec.ofChange r16ErrorsSpec)) r16ErrorsCard

/-- THE TIED CARD OF 'quernlaw21.R16Split'. -/
def r16SplitCard : Claim7 := { stood := { row := r16SplitRow, standIns := [], harness := (true, "369cab180da08b179d7481fab8bfdd511b787793354e5e42529c8002f1156141"), looks := true }, kinds := [], alts := [], laidByText := true, laidKinds := [.data, .data], laidTests := true, laidLooks := .later }
def R16SplitCardSaid : Prop := Claim7.holds Tryz.pinned (.plain (OpenSpec.ofChange r16SplitSpec)) r16SplitCard

/-- THE TIED CARD OF 'quernlaw21.R16Rests'. -/
def r16RestsCard : Claim7 := { stood := { row := r16RestsRow, standIns := [], harness := (true, "369cab180da08b179d7481fab8bfdd511b787793354e5e42529c8002f1156141"), looks := true }, kinds := [], alts := [], laidByText := true, laidKinds := [.data, .data], laidTests := true, laidLooks := .later }
def R16RestsCardSaid : Prop := Claim7.holds Tryz.pinned (.plain (OpenSpec.ofChange r16RestsSpec)) r16RestsCard

/-- THE SECOND FORM's CARD OF 'quernlaw21.R16Depth'. -/
def r16DepthUptoCard : Claim7 := { stood := { row := r16DepthUptoRow, standIns := [], harness := (true, "369cab180da08b179d7481fab8bfdd511b787793354e5e42529c8002f1156141"), looks := true }, kinds := [], alts := [], laidByText := true, laidKinds := [.data, .data], laidTests := true, laidLooks := .later }
def R16DepthUptoCardSaid : Prop := Claim7.holds Tryz.pinned (.plain (OpenSpec.upto r16DepthSpec)) r16DepthUptoCard

/-- THE SECOND FORM's CARD OF 'quernlaw21.R16Words'. -/
def r16WordsUptoCard : Claim7 := { stood := { row := r16WordsUptoRow, standIns := [], harness := (true, "369cab180da08b179d7481fab8bfdd511b787793354e5e42529c8002f1156141"), looks := true }, kinds := [], alts := [], laidByText := true, laidKinds := [.data, .data], laidTests := true, laidLooks := .later }
def R16WordsUptoCardSaid : Prop := Claim7.holds Tryz.pinned (.plain (OpenSpec.upto r16WordsSpec)) r16WordsUptoCard

/-- THE SECOND FORM's CARD OF 'quernlaw21.R16Heap'. -/
def r16HeapUptoCard : Claim7 := { stood := { row := r16HeapUptoRow, standIns := [], harness := (true, "369cab180da08b179d7481fab8bfdd511b787793354e5e42529c8002f1156141"), looks := true }, kinds := [], alts := [], laidByText := true, laidKinds := [.data, .data], laidTests := true, laidLooks := .later }
def R16HeapUptoCardSaid : Prop := Claim7.holds Tryz.pinned (.plain (OpenSpec.upto r16HeapSpec)) r16HeapUptoCard

/-- THE SECOND FORM's CARD OF 'quernlaw21.R16Errors'. -/
def r16ErrorsUptoCard : Claim7 := { stood := { row := r16ErrorsUptoRow, standIns := [], harness := (true, "369cab180da08b179d7481fab8bfdd511b787793354e5e42529c8002f1156141"), looks := true }, kinds := [], alts := [], laidByText := true, laidKinds := [.data, .data], laidTests := true, laidLooks := .later }
def R16ErrorsUptoCardSaid : Prop := Claim7.holds Tryz.pinned (.plain (OpenSpec.upto r16ErrorsSpec)) r16ErrorsUptoCard

/-- THE SECOND FORM's CARD OF 'quernlaw21.R16Split'. -/
def r16SplitUptoCard : Claim7 := { stood := { row := r16SplitUptoRow, standIns := [], harness := (true, "369cab180da08b179d7481fab8bfdd511b787793354e5e42529c8002f1156141"), looks := true }, kinds := [], alts := [], laidByText := true, laidKinds := [.data, .data], laidTests := true, laidLooks := .later }
def R16SplitUptoCardSaid : Prop := Claim7.holds Tryz.pinned (.plain (OpenSpec.upto r16SplitSpec)) r16SplitUptoCard

/-- THE SECOND FORM's CARD OF 'quernlaw21.R16Rests'. -/
def r16RestsUptoCard : Claim7 := { stood := { row := r16RestsUptoRow, standIns := [], harness := (true, "369cab180da08b179d7481fab8bfdd511b787793354e5e42529c8002f1156141"), looks := true }, kinds := [], alts := [], laidByText := true, laidKinds := [.data, .data], laidTests := true, laidLooks := .later }
def R16RestsUptoCardSaid : Prop := Claim7.holds Tryz.pinned (.plain (OpenSpec.upto r16RestsSpec)) r16RestsUptoCard
end Rows
end Go.Proofs.YteplldbhfjfbpaaGreatDoor
