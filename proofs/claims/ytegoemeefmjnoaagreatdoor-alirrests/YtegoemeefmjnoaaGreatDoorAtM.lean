import Derived.Test.YtegoemeefmjnoaaGreatDoorAtL0
import Derived.Test.YtegoemeefmjnoaaGreatDoorAtL1
import Derived.Test.YtegoemeefmjnoaaGreatDoorAtL2
import Derived.Test.YtegoemeefmjnoaaGreatDoorAtL3
import Derived.Test.YtegoemeefmjnoaaGreatDoorAtL4
set_option linter.unusedVariables false
set_option linter.unusedSimpArgs false
namespace Go.Proofs.YtegoemeefmjnoaaGreatDoor
open Go.ChangeShapes Go.WideShapes Go.ChangeAt Go.RowKit Go.Maps

set_option maxRecDepth 100000 in
set_option maxHeartbeats 4000000 in
theorem alirRests_any (w : World) (hTab : Tab w) (m : Int) : Calls Tryz.prog 6 #[.int .i64 m] w fun e w' => e = .returned (.bool true) ∧ Below w.heap.size w w' := by
  cases q0 : (bits BinOp.and IntKind.i64 m 63 != 0) with
  | true =>
    have HAL : Hid _ := alive19_any w hTab
    clear hTab
    go_enter Tryz.func6, Tryz.ntmps6
    go_upto_region 2 with (go_at_call 8; refine Calls.mono HAL.out ?_; rintro e wL ⟨rfl, bL⟩)
    go_wp2_with fail
    go_ret
    exact ⟨rfl, bL⟩
  | false =>
    obtain ⟨i, hi, hx⟩ := andA_small (m / 64) 7 (by omega)
    have hx' : bits BinOp.and IntKind.i64 (m / 64) 7 = (i : Int) := hx
    have hz : (bits BinOp.and IntKind.i64 (m / 64) 7).tmod 5 = ((i : Int)).tmod 5 := by rw [hx']
    match i, hi, hz with
    | 0, _, hz => exact rests_0 w hTab m q0 hz
    | 1, _, hz => exact rests_1 w hTab m q0 hz
    | 2, _, hz => exact rests_2 w hTab m q0 hz
    | 3, _, hz => exact rests_3 w hTab m q0 hz
    | 4, _, hz => exact rests_4 w hTab m q0 hz
    | 5, _, hz => exact rests_0 w hTab m q0 hz
    | 6, _, hz => exact rests_1 w hTab m q0 hz
    | 7, _, hz => exact rests_2 w hTab m q0 hz
end Go.Proofs.YtegoemeefmjnoaaGreatDoor
