import Derived.Test.YtfofmmkihhnfmaaGreatDoorJbb
set_option linter.unusedVariables false
set_option linter.unusedSimpArgs false
namespace Go.Proofs.YtfofmmkihhnfmaaGreatDoor
open Go.ChangeShapes Go.WideShapes Go.ChangeAt Go.RowKit Go.Maps

/-- The function main of so many instructions. -/
def oneF (C : List Ri) (fr : Int) : List Rf := [⟨⟨#[109, 97, 105, 110]⟩, fr, 0, C.length, 0⟩]
end Go.Proofs.YtfofmmkihhnfmaaGreatDoor
