import Derived.Test.YtplpgeocidllfaaDmB
set_option linter.unusedVariables false
set_option linter.unusedSimpArgs false
namespace Go.Proofs.Ytplpgeocidllfaa
open Go.ChangeShapes Go.WideShapes Go.ChangeAt Go.RowKit Go.Maps

theorem goodP_no {Ls : List (List Int)} {k j : Nat} (hk : k < Ls.length) (hj : j < Ls[k].length) (h : ¬ (0 ≤ Ls[k][j] ∧ Ls[k][j] < Ls.length)) : goodP Ls = false := by
  cases e : goodP Ls with
  | false => rfl
  | true =>
    simp only [goodP, Bool.and_eq_true, List.all_eq_true, decide_eq_true_eq] at e
    exact absurd (e.2 _ (List.getElem_mem hk) _ (List.getElem_mem hj)) h
theorem goodP_all {Ls : List (List Int)} (h0 : 0 < Ls.length) (h : ∀ (k : Nat) (hk : k < Ls.length) (j : Nat) (hj : j < Ls[k].length), 0 ≤ Ls[k][j] ∧ Ls[k][j] < Ls.length) : goodP Ls = true := by
  simp only [goodP, Bool.and_eq_true, List.all_eq_true, decide_eq_true_eq]
  refine ⟨h0, fun l hl x hx => ?_⟩
  obtain ⟨k, hk, rfl⟩ := List.mem_iff_getElem.1 hl
  obtain ⟨j, hj, rfl⟩ := List.mem_iff_getElem.1 hx
  exact h k hk j hj
theorem goodP_yes {Ls : List (List Int)} (h : goodP Ls = true) {k j : Nat} (hk : k < Ls.length) (hj : j < Ls[k].length) : 0 ≤ Ls[k][j] ∧ Ls[k][j] < Ls.length := by
  simp only [goodP, Bool.and_eq_true, List.all_eq_true, decide_eq_true_eq] at h
  exact h.2 _ (List.getElem_mem hk) _ (List.getElem_mem hj)
theorem goodP_pos {Ls : List (List Int)} (h : goodP Ls = true) : 0 < Ls.length := by
  simp only [goodP, Bool.and_eq_true, decide_eq_true_eq] at h
  exact h.1
theorem goodP_nil : goodP [] = false := rfl

end Go.Proofs.Ytplpgeocidllfaa
