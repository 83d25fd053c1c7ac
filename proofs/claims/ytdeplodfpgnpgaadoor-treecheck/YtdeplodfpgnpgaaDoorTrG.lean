import Derived.Test.YtdeplodfpgnpgaaDoorTrG1
import Derived.Test.YtdeplodfpgnpgaaDoorTrG2
import Derived.Test.YtdeplodfpgnpgaaDoorTrG3
import Derived.Test.YtdeplodfpgnpgaaDoorTrG4
import Derived.Test.YtdeplodfpgnpgaaDoorTrG5
import Derived.Test.YtdeplodfpgnpgaaDoorTrG6
set_option linter.unusedVariables false
set_option linter.unusedSimpArgs false
namespace Go.Proofs.YtdeplodfpgnpgaaDoor
open Go.ChangeShapes Go.WideShapes Go.ChangeAt Go.RowKit

theorem kidsFit_any (w : World) (no : Option Addr) (nc nn : Nat) (N : List Nd) (hnn : nn = N.length) (hN : Nodes w no nc N) (n : Nd) (ka : Option Addr) (kc : Nat) (hk : Ints w ka kc n.kids) (hr : ∀ x ∈ n.kids, 0 ≤ x ∧ x < N.length) :
    Calls Tryd.prog 24 #[.slice no nn nc, nv n ka kc] w fun e w' => e = .returned (.bool (kfit N n)) ∧ Below w.heap.size w w' := by
  by_cases h1 : n.kind = 1
  · exact kidsFit_1 w no nc nn N hnn hN n ka kc hk hr h1
  by_cases h3 : n.kind = 3
  · exact kidsFit_3 w no nc nn N hnn hN n ka kc hk hr h3
  by_cases h7 : n.kind = 7
  · exact kidsFit_7 w no nc nn N hnn hN n ka kc hk hr h7
  by_cases h10 : n.kind = 10
  · exact kidsFit_10 w no nc nn N hnn hN n ka kc hk hr h10
  by_cases h11 : n.kind = 11
  · exact kidsFit_11 w no nc nn N hnn hN n ka kc hk hr h11
  by_cases h25 : n.kind = 25
  · exact kidsFit_25 w no nc nn N hnn hN n ka kc hk hr h25
  by_cases h4 : n.kind = 4
  · exact kidsFit_4 w no nc nn N hnn hN n ka kc hk hr h4
  by_cases h12 : n.kind = 12
  · exact kidsFit_12 w no nc nn N hnn hN n ka kc hk hr h12
  by_cases h5 : n.kind = 5
  · exact kidsFit_5 w no nc nn N hnn hN n ka kc hk hr h5
  by_cases h8 : n.kind = 8
  · exact kidsFit_8 w no nc nn N hnn hN n ka kc hk hr h8
  by_cases h9 : n.kind = 9
  · exact kidsFit_9 w no nc nn N hnn hN n ka kc hk hr h9
  by_cases h27 : n.kind = 27
  · exact kidsFit_27 w no nc nn N hnn hN n ka kc hk hr h27
  by_cases h28 : n.kind = 28
  · exact kidsFit_28 w no nc nn N hnn hN n ka kc hk hr h28
  by_cases h30 : n.kind = 30
  · exact kidsFit_30 w no nc nn N hnn hN n ka kc hk hr h30
  by_cases h6 : n.kind = 6
  · exact kidsFit_6 w no nc nn N hnn hN n ka kc hk hr h6
  by_cases h29 : n.kind = 29
  · exact kidsFit_29 w no nc nn N hnn hN n ka kc hk hr h29
  by_cases h31 : n.kind = 31
  · exact kidsFit_31 w no nc nn N hnn hN n ka kc hk hr h31
  exact kidsFit_else w no nc nn N hnn hN n ka kc hk hr ⟨h1, h3, h7, h10, h11, h25, h4, h12, h5, h8, h9, h27, h28, h30, h6, h29, h31⟩
end Go.Proofs.YtdeplodfpgnpgaaDoor
