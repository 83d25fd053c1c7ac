import Derived.Test.YtjepkcebfojiaaaDoorTrB
set_option linter.unusedVariables false
set_option linter.unusedSimpArgs false
namespace Go.Proofs.YtjepkcebfojiaaaDoor
open Go.ChangeShapes Go.WideShapes Go.ChangeAt Go.RowKit

def mv (m : May) : Value := .agg #[.bool m.wh, .bool m.close, .bool m.val, .bool m.name, .int .i64 m.d0, .int .i64 m.d1, .int .i64 m.t0, .int .i64 m.t1, .int .i64 m.o0, .int .i64 m.o1]

set_option maxRecDepth 10000 in
set_option maxHeartbeats 4000000 in
theorem fieldsOf_any (k : Int) (w : World) : Calls Tryd.prog 34 #[.int .i64 k] w fun e w' => e = .returned (mv (mayOf k)) ∧ Below w.heap.size w w' := by
  have hc : k = 1 ∨ k = 2 ∨ k = 4 ∨ k = 5 ∨ k = 6 ∨ k = 24 ∨ k = 25 ∨ k = 20 ∨ k = 30 ∨ k = 31 ∨ (¬ k = 1 ∧ ¬ k = 2 ∧ ¬ k = 4 ∧ ¬ k = 5 ∧ ¬ k = 6 ∧ ¬ k = 24 ∧ ¬ k = 25 ∧ ¬ k = 20 ∧ ¬ k = 30 ∧ ¬ k = 31) := by omega
  obtain ⟨b, hE⟩ : ∃ b, isEx k = b := ⟨_, rfl⟩
  rcases hc with rfl | rfl | rfl | rfl | rfl | rfl | rfl | rfl | rfl | rfl | ⟨h1, h2, h3, h4, h5, h6, h7, h8, h9, h10⟩
  case inr.inr.inr.inr.inr.inr.inr.inr.inr.inr =>
    have hM : mayOf k = ⟨false, false, false, false, 0, 0, 0, if b = true then 3 else 0, 0, 0⟩ := by
      simp only [mayOf, h1, h2, h3, h4, h5, h6, h7, h8, h9, h10, hE, or_self, if_false]
    rw [hM]
    clear hM
    cases b
    all_goals
      go_enter Tryd.func34, Tryd.ntmps34
      go_wp2_with (first | (go_at_call 41; refine (isExpr_any _ _).mono ?_; rintro e w' ⟨rfl, rfl⟩; rw [hE]))
      refine bodyPost_ret (v := mv _) (by simp [results, Tryd.results34, go_sem]; rfl) rfl ⟨rfl, ((Below.refl _ _).alloc (Nat.le_refl _) _).alloc (by simp) _⟩
  all_goals
    subst hE
    go_enter Tryd.func34, Tryd.ntmps34
    go_wp2_with (first | (go_at_call 41; refine (isExpr_any _ _).mono ?_; rintro e w' ⟨rfl, rfl⟩; first | (rw [show isEx _ = false from rfl]) | (rw [show isEx _ = true from rfl])))
    refine bodyPost_ret (v := mv (mayOf _)) (by simp [results, Tryd.results34, go_sem]; rfl) rfl ⟨rfl, ((Below.refl _ _).alloc (Nat.le_refl _) _).alloc (by simp) _⟩
end Go.Proofs.YtjepkcebfojiaaaDoor
