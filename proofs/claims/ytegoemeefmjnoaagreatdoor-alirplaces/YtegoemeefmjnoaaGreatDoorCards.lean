/-
  DERIVED. GIVEN WITH THE SEED: THE CARDS: each row of YtegoemeefmjnoaaGreatDoorRows.lean that lists a variable, with what it lists TIED to the program's text (the seventh form; the later family's looks); each row that meets fmt, with fmt's text TOLD by the authors' own Lean function (tested against real Go, not proved from fmt's source: count such statements apart). THE CARD IS WHAT COUNTS. Prove the row's statement (the work); the ties are given (YtegoemeefmjnoaaGreatDoorTie.lean); close each card by the builder's one call (the guide's Derived/Test/ToyasCard.lean, 'card_holds'). Laid BY PROGRAM, IN A SANDBOX (cutbox-door.mjs). By AI agents, Wed Nov 11 2026. No macro, syntax, notation, axiom, sorry.
-/
import Derived.Test.YtegoemeefmjnoaaGreatDoorRows
import GoSem.ClaimSeven
namespace Go.Proofs.YtegoemeefmjnoaaGreatDoor
namespace Rows

/-- THE TIED CARD OF 'quernlaw19.AlirDeep'. -/
def alirDeepCard : Claim7 := { stood := { row := alirDeepRow, standIns := [], harness := (true, "f52aeb31cc8468d0542e6d94e43373e9b19dccc8929646d5d1b8575e6c8d7bfd"), looks := false }, kinds := [], alts := [], laidByText := true, laidKinds := [.data, .data], laidTests := true, laidLooks := .later }
def AlirDeepCardSaid : Prop := Claim7.holds Tryz.pinned (.plain (OpenSpec.ofChange alirDeepSpec)) alirDeepCard

/-- THE TIED CARD OF 'quernlaw19.AlirPlaces'. -/
def alirPlacesCard : Claim7 := { stood := { row := alirPlacesRow, standIns := [], harness := (true, "f52aeb31cc8468d0542e6d94e43373e9b19dccc8929646d5d1b8575e6c8d7bfd"), looks := false }, kinds := [], alts := [], laidByText := true, laidKinds := [.data, .data], laidTests := true, laidLooks := .later }
def AlirPlacesCardSaid : Prop := Claim7.holds Tryz.pinned (.plain (OpenSpec.ofChange alirPlacesSpec)) alirPlacesCard

/-- THE TIED CARD OF 'quernlaw19.AlirInput'. -/
def alirInputCard : Claim7 := { stood := { row := alirInputRow, standIns := [], harness := (true, "f52aeb31cc8468d0542e6d94e43373e9b19dccc8929646d5d1b8575e6c8d7bfd"), looks := false }, kinds := [], alts := [], laidByText := true, laidKinds := [.data, .data], laidTests := true, laidLooks := .later }
def AlirInputCardSaid : Prop := Claim7.holds Tryz.pinned (.plain (OpenSpec.ofChange alirInputSpec)) alirInputCard

/-- THE TIED CARD OF 'quernlaw19.AlirRests'. -/
def alirRestsCard : Claim7 := { stood := { row := alirRestsRow, standIns := [], harness := (true, "f52aeb31cc8468d0542e6d94e43373e9b19dccc8929646d5d1b8575e6c8d7bfd"), looks := false }, kinds := [], alts := [], laidByText := true, laidKinds := [.data, .data], laidTests := true, laidLooks := .later }
def AlirRestsCardSaid : Prop := Claim7.holds Tryz.pinned (.plain (OpenSpec.ofChange alirRestsSpec)) alirRestsCard

/-- THE TIED CARD OF 'quernlaw19.AlirGrows'. -/
def alirGrowsCard : Claim7 := { stood := { row := alirGrowsRow, standIns := [], harness := (true, "f52aeb31cc8468d0542e6d94e43373e9b19dccc8929646d5d1b8575e6c8d7bfd"), looks := false }, kinds := [], alts := [], laidByText := true, laidKinds := [.data, .data], laidTests := true, laidLooks := .later }
def AlirGrowsCardSaid : Prop := Claim7.holds Tryz.pinned (.plain (OpenSpec.ofChange alirGrowsSpec)) alirGrowsCard

/-- THE SECOND FORM's CARD OF 'quernlaw19.AlirDeep'. -/
def alirDeepUptoCard : Claim7 := { stood := { row := alirDeepUptoRow, standIns := [], harness := (true, "f52aeb31cc8468d0542e6d94e43373e9b19dccc8929646d5d1b8575e6c8d7bfd"), looks := false }, kinds := [], alts := [], laidByText := true, laidKinds := [.data, .data], laidTests := true, laidLooks := .later }
def AlirDeepUptoCardSaid : Prop := Claim7.holds Tryz.pinned (.plain (OpenSpec.upto alirDeepSpec)) alirDeepUptoCard

/-- THE SECOND FORM's CARD OF 'quernlaw19.AlirPlaces'. -/
def alirPlacesUptoCard : Claim7 := { stood := { row := alirPlacesUptoRow, standIns := [], harness := (true, "f52aeb31cc8468d0542e6d94e43373e9b19dccc8929646d5d1b8575e6c8d7bfd"), looks := false }, kinds := [], alts := [], laidByText := true, laidKinds := [.data, .data], laidTests := true, laidLooks := .later }
def AlirPlacesUptoCardSaid : Prop := Claim7.holds Tryz.pinned (.plain (OpenSpec.upto alirPlacesSpec)) alirPlacesUptoCard

/-- THE SECOND FORM's CARD OF 'quernlaw19.AlirInput'. -/
def alirInputUptoCard : Claim7 := { stood := { row := alirInputUptoRow, standIns := [], harness := (true, "f52aeb31cc8468d0542e6d94e43373e9b19dccc8929646d5d1b8575e6c8d7bfd"), looks := false }, kinds := [], alts := [], laidByText := true, laidKinds := [.data, .data], laidTests := true, laidLooks := .later }
def AlirInputUptoCardSaid : Prop := Claim7.holds Tryz.pinned (.plain (OpenSpec.upto alirInputSpec)) alirInputUptoCard

/-- THE SECOND FORM's CARD OF 'quernlaw19.AlirRests'. -/
def alirRestsUptoCard : Claim7 := { stood := { row := alirRestsUptoRow, standIns := [], harness := (true, "f52aeb31cc8468d0542e6d94e43373e9b19dccc8929646d5d1b8575e6c8d7bfd"), looks := false }, kinds := [], alts := [], laidByText := true, laidKinds := [.data, .data], laidTests := true, laidLooks := .later }
def AlirRestsUptoCardSaid : Prop := Claim7.holds Tryz.pinned (.plain (OpenSpec.upto alirRestsSpec)) alirRestsUptoCard

/-- THE SECOND FORM's CARD OF 'quernlaw19.AlirGrows'. -/
def alirGrowsUptoCard : Claim7 := { stood := { row := alirGrowsUptoRow, standIns := [], harness := (true, "f52aeb31cc8468d0542e6d94e43373e9b19dccc8929646d5d1b8575e6c8d7bfd"), looks := false }, kinds := [], alts := [], laidByText := true, laidKinds := [.data, .data], laidTests := true, laidLooks := .later }
def AlirGrowsUptoCardSaid : Prop := Claim7.holds Tryz.pinned (.plain (OpenSpec.upto alirGrowsSpec)) alirGrowsUptoCard
end Rows
end Go.Proofs.YtegoemeefmjnoaaGreatDoor
