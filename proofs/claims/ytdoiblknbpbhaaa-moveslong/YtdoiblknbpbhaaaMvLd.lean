import Derived.Test.YtdoiblknbpbhaaaMvLc
set_option linter.unusedVariables false
set_option linter.unusedSimpArgs false
namespace Go.Proofs.Ytdoiblknbpbhaaa
open Go.ChangeShapes Go.WideShapes Go.ChangeAt Go.RowKit Go.Maps

theorem movesLong_any (w : World) (many kind : Int) : Calls Try.prog 6 #[.int .i64 many, .int .i64 kind] w fun e w' => e = .returned (.bool true) ∧ Below w.heap.size w w' := by
  by_cases h1 : many < 2
  · have HAL : Hid (Calls Try.prog 8 #[] w fun e w' => e = .returned (.bool true) ∧ Below w.heap.size w w') := alive_any w
    have d1 : decide (many < 2) = true := by simpa using h1
    go_enter Try.func6, Try.ntmps6
    go_wp2_with (first
      | (go_at_call 8; refine HAL.out.mono ?_; rintro e w1 ⟨rfl, hb1⟩; have HB1 : Hid _ := hb1; clear hb1))
    go_ret
    exact ⟨rfl, HB1.out⟩
  · by_cases h2 : 1000 < many
    · have HAL : Hid (Calls Try.prog 8 #[] w fun e w' => e = .returned (.bool true) ∧ Below w.heap.size w w') := alive_any w
      have d1 : decide (many < 2) = false := by simp; omega
      have d2 : decide (1000 < many) = true := by simpa using h2
      go_enter Try.func6, Try.ntmps6
      go_wp2_with (first
        | (go_at_call 8; refine HAL.out.mono ?_; rintro e w1 ⟨rfl, hb1⟩; have HB1 : Hid _ := hb1; clear hb1))
      go_ret
      exact ⟨rfl, HB1.out⟩
    · obtain ⟨n, rfl⟩ : ∃ n : Nat, many = n := ⟨many.toNat, by omega⟩
      cases hc : (bits BinOp.and IntKind.i64 kind 2 == 2) with
      | false => exact movesLong_false w n kind (by omega) (by omega) hc
      | true => exact movesLong_true w n kind (by omega) (by omega) hc
end Go.Proofs.Ytdoiblknbpbhaaa
