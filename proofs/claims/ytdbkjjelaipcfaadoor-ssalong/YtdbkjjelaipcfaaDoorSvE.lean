import Derived.Test.YtdbkjjelaipcfaaDoorSvD
set_option linter.unusedVariables false
set_option linter.unusedSimpArgs false
namespace Go.Proofs.YtdbkjjelaipcfaaDoor
open Go.ChangeShapes Go.WideShapes Go.ChangeAt Go.RowKit Go.Maps

theorem ssaLong_any (w : World) (hTab : Tab w) (many : Int) : Calls Tryd.prog 3 #[.int .i64 many] w fun e w' => e = .returned (.bool true) ∧ Below w.heap.size w w' := by
  by_cases h1 : 2 ≤ many
  · by_cases h2 : many ≤ 1000
    · obtain ⟨m, rfl⟩ : ∃ m : Nat, many = (m : Int) + 1 := ⟨(many - 1).toNat, by omega⟩
      exact ssaLong_mid w hTab m (by omega) (by omega)
    · have HAL : Hid _ := alive9_any w hTab
      have t1 : decide (many < 2) = false := by rw [decide_eq_false_iff_not]; omega
      have t2 : decide (1000 < many) = true := by rw [decide_eq_true_iff]; omega
      clear hTab h1 h2
      go_enter Tryd.func3, Tryd.ntmps3
      go_wp2_with (go_at_call 5; refine Calls.mono HAL.out ?_; rintro e w1 ⟨rfl, hb1⟩)
      go_ret
      exact ⟨rfl, hb1⟩
  · have HAL : Hid _ := alive9_any w hTab
    have t1 : decide (many < 2) = true := by rw [decide_eq_true_iff]; omega
    clear hTab h1
    go_enter Tryd.func3, Tryd.ntmps3
    go_wp2_with (go_at_call 5; refine Calls.mono HAL.out ?_; rintro e w1 ⟨rfl, hb1⟩)
    go_ret
    exact ⟨rfl, hb1⟩
end Go.Proofs.YtdbkjjelaipcfaaDoor
