import Derived.Test.YtdbkjjelaipcfaaDoorSvH
import Derived.Test.YtdbkjjelaipcfaaDoorSvJ
import Derived.Test.YtdbkjjelaipcfaaDoorSvK
import Derived.Test.YtdbkjjelaipcfaaDoorSvL
set_option linter.unusedVariables false
set_option linter.unusedSimpArgs false
namespace Go.Proofs.YtdbkjjelaipcfaaDoor
open Go.ChangeShapes Go.WideShapes Go.ChangeAt Go.RowKit Go.Maps

set_option maxRecDepth 100000 in
theorem lim_none (w : World) (hTab : Tab w) (kind many : Int) (h : (decide (kind < 0) = true) ∨ (decide (kind < 0) = false ∧ decide (3 < kind) = true) ∨ (decide (kind < 0) = false ∧ decide (3 < kind) = false ∧ decide (kind < 3) = true ∧ decide (many < 0) = true) ∨ (decide (kind < 0) = false ∧ decide (3 < kind) = false ∧ decide (kind < 3) = true ∧ decide (many < 0) = false ∧ decide (300000 < many) = true)) : Calls Tryd.prog 4 #[.int .i64 kind, .int .i64 many] w fun e w' => e = .returned (.bool true) ∧ Below w.heap.size w w' := by
  have HAL : Hid _ := alive9_any w hTab
  clear hTab
  rcases h with t1 | ⟨t1, t2⟩ | ⟨t1, t2, t3, t4⟩ | ⟨t1, t2, t3, t4, t5⟩
  all_goals
    go_enter Tryd.func4, Tryd.ntmps4
    go_wp2_with (go_at_call 5; refine Calls.mono HAL.out ?_; rintro e w1 ⟨rfl, hb1⟩)
    go_ret
    exact ⟨rfl, hb1⟩
theorem ssaLimits_any (w : World) (hTab : Tab w) (kind many : Int) : Calls Tryd.prog 4 #[.int .i64 kind, .int .i64 many] w fun e w' => e = .returned (.bool true) ∧ Below w.heap.size w w' := by
  by_cases h1 : kind < 0
  · exact lim_none w hTab kind many (.inl (by simpa using h1))
  · by_cases h2 : 3 < kind
    · exact lim_none w hTab kind many (.inr (.inl (by simp; omega)))
    · by_cases h3 : kind = 3
      · subst h3
        by_cases q1 : many < 0
        · exact lim3_neg w hTab many q1
        · by_cases q2 : 3 < many
          · exact lim3_big w hTab many q2
          · by_cases q3 : many = 0
            · subst q3; exact lim3_zero w hTab
            · exact lim3_mid w hTab many (by omega)
      · by_cases q1 : many < 0
        · exact lim_none w hTab kind many (.inr (.inr (.inl (by simp; omega))))
        · by_cases q2 : 300000 < many
          · exact lim_none w hTab kind many (.inr (.inr (.inr (by simp; omega))))
          · obtain ⟨n, rfl⟩ : ∃ n : Nat, many = n := ⟨many.toNat, by omega⟩
            have hk : kind = 0 ∨ kind = 1 ∨ kind = 2 := by omega
            rcases hk with rfl | rfl | rfl
            · exact lim0_any w hTab n (by omega)
            · exact lim1_any w hTab n (by omega)
            · exact lim2_any w hTab n (by omega)
end Go.Proofs.YtdbkjjelaipcfaaDoor
