import Derived.Test.YtdeplodfpgnpgaaDoorLyC
set_option linter.unusedVariables false
namespace Go.Proofs.YtdeplodfpgnpgaaDoor
open Go.ChangeShapes Go.WideShapes Go.ChangeAt Go.RowKit

theorem OwnB.view {w B v n M} (h : OwnB w B v n M) : ∃ ao cap, v = .slice ao n cap ∧ (ao = none → cap = 0) ∧ Txt w ao cap M := by
  have hn := h.len
  subst hn
  rcases h.out.2 with ⟨rfl, hn⟩ | ⟨g, cap, cur, rfl, e2, e3, e4, e5, e6, e7⟩
  · have : M = [] := List.length_eq_zero_iff.1 hn
    subst this
    exact ⟨none, 0, rfl, fun _ => rfl, by simp, by omega, fun h => absurd rfl h⟩
  · refine ⟨_, cap, rfl, (fun h => by cases h), e4, e5, fun _ => ⟨g, 0, rfl, (Array.getElem?_eq_some_iff.1 e3).1, fun i hi => ?_⟩⟩
    have h1 := bvs_at M i hi
    rw [← e7, List.getElem?_take, if_pos (by omega)] at h1
    exact cell_arr e3 (by rw [Nat.zero_add, ← h1]; simp)
end Go.Proofs.YtdeplodfpgnpgaaDoor
