import Derived.Test.YtdoiblknbpbhaaaMvU
import Derived.Test.YtdoiblknbpbhaaaMvW
import Derived.Test.YtdoiblknbpbhaaaMvZ
set_option linter.unusedVariables false
namespace Go.Proofs.Ytdoiblknbpbhaaa
open Go.ChangeShapes Go.WideShapes Go.ChangeAt Go.RowKit Go.Maps

theorem movesDo_any (w : World) {la : Option Addr} {ln lc : Nat} {l : List Mv} (hL : Mvs w la lc l) (hn : ln = l.length) (t : Lc) (hft : FitL t) :
    Calls Try.prog 4 #[.slice la ln lc, .agg #[.int .i64 t.1, .int .i64 t.2]] w fun e w' => e = .returned (.bool true) ∧ Below w.heap.size w w' :=
  movesDo_of w hL hn t hft fun w' hb => right_any w' (hL.below hb (Nat.le_refl _)) hn t
end Go.Proofs.Ytdoiblknbpbhaaa
