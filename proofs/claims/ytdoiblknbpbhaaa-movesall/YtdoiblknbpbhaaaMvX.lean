import Derived.Test.YtdoiblknbpbhaaaMvU
import Derived.Test.YtdoiblknbpbhaaaMvM
set_option linter.unusedVariables false
namespace Go.Proofs.Ytdoiblknbpbhaaa
open Go.ChangeShapes Go.WideShapes Go.ChangeAt Go.RowKit Go.Maps

theorem refOrder_any (w : World) {la : Option Addr} {ln lc : Nat} {l : List Mv} (hL : Mvs w la lc l) (hn : ln = l.length) (hsz : ln ≤ 1000000) (t : Lc) (hft : FitL t) :
    Calls Try.prog 12 #[.slice la ln lc, .agg #[.int .i64 t.1, .int .i64 t.2]] w fun e w' => ∃ v, e = .returned (.tuple #[v, .int .i64 (errP t l)]) ∧ OwnM w' w.heap.size v (ansP t l).length (ansP t l) ∧ Below w.heap.size w w' :=
  refOrder_of w hL hn hsz t hft fun w' hb => refuse_any w' (hL.below hb (Nat.le_refl _)) hn t
theorem movesOrder_any (w : World) {la : Option Addr} {ln lc : Nat} {l : List Mv} (hL : Mvs w la lc l) (hn : ln = l.length) (t : Lc) (hft : FitL t) :
    Calls Try.prog 3 #[.slice la ln lc, .agg #[.int .i64 t.1, .int .i64 t.2]] w fun e w' => e = .returned (.bool true) ∧ Below w.heap.size w w' :=
  movesOrder_of w hL hn t hft fun w' hb hs => refOrder_any w' (hL.below hb (Nat.le_refl _)) hn hs t hft
end Go.Proofs.Ytdoiblknbpbhaaa
