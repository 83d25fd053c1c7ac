import Derived.Test.YteiambniddddpaaDoorLxS
set_option linter.unusedVariables false
namespace Go.Proofs.YteiambniddddpaaDoor
open Go.ChangeShapes Go.WideShapes Go.ChangeAt Go.RowKit

theorem cls_any (c : UInt8) (w : World) : Calls Tryd.prog 39 #[.int .u8 c.toNat] w fun e w' => e = .returned (.int .i64 (cl c)) ∧ w' = w := by
  have hb : c.toNat < 256 := c.toNat_lt
  obtain ⟨n, hn⟩ : ∃ n, n = c.toNat := ⟨_, rfl⟩
  obtain ⟨m, hm⟩ : ∃ m, m = cl c := ⟨_, rfl⟩
  have hc := cl_cases c
  rw [← hn, ← hm] at hc
  rw [← hn, ← hm]
  rw [← hn] at hb
  clear hn hm
  rcases hc with ⟨rfl, h1, h2⟩ | ⟨rfl, h | h | h⟩ | ⟨rfl, h⟩ | ⟨rfl, h | h | h⟩ | ⟨rfl, h⟩ | ⟨rfl, h⟩
  all_goals (try subst h)
  all_goals
    go_enter Tryd.func39, Tryd.ntmps39
    go_wp2
  all_goals (try go_ret)
  all_goals first | exact ⟨rfl, rfl⟩ | (exfalso; omega) | trace_state
end Go.Proofs.YteiambniddddpaaDoor
