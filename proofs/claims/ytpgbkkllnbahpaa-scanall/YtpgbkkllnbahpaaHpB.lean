import Derived.Test.YtpgbkkllnbahpaaHpA
set_option linter.unusedVariables false
set_option maxRecDepth 10000
namespace Go.Proofs.Ytpgbkkllnbahpaa
open Go.ChangeShapes Go.WideShapes Go.ChangeAt Go.RowKit Go.Maps

/-- A word's place: in a block that is there. -/
def inB (ln : Int → Option Int) (a i : Int) : Prop := 0 ≤ i ∧ i < (ln a).getD 0
end Go.Proofs.Ytpgbkkllnbahpaa
