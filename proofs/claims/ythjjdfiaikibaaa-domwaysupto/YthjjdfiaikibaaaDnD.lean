import Derived.Test.YthjjdfiaikibaaaDnC
set_option linter.unusedVariables false
set_option linter.unusedSimpArgs false
namespace Go.Proofs.Ythjjdfiaikibaaa
open Go.ChangeShapes Go.WideShapes Go.ChangeAt Go.RowKit Go.Maps

/-- The lists that were lent, as a list of lists. -/
theorem lent_irow {w : World} {B : Nat} {a4 : Option Addr} {c4 m : Nat} {gs cs : List Nat} {Ls : List (List Int)} {r : List Value} (h : OwnV w B (.slice a4 m c4) (ltv gs cs Ls ++ r)) (hl : LT w B gs cs Ls) (hm : m = (ltv gs cs Ls ++ r).length) : IRow w a4 c4 Ls := by
  have h2 := h.out
  rw [← hm] at h2
  have hlen := ltv_len gs cs Ls
  rcases h2.2 with ⟨e, e2⟩ | ⟨g, cap, cur, e, e2, e3, e4, e5, e6, e7⟩
  · cases e
    have e0 : Ls = [] := List.eq_nil_of_length_eq_zero (by simp at hm; omega)
    subst e0
    exact ⟨by simp, by omega, fun h => absurd rfl h⟩
  · cases e
    have hle : Ls.length ≤ m := by rw [hm, List.length_append]; omega
    refine ⟨by omega, by unfold maxLen at e5; omega, fun _ => ⟨g, 0, rfl, (Array.getElem?_eq_some_iff.1 e3).1, fun i hi => ?_⟩⟩
    have hr := hl.row i hi
    have hb : Ls.getD i [] = Ls[i] := by simp [hi]
    rw [hb] at hr
    obtain ⟨g', c', e9, q1, q2, _, _⟩ := own_some hr.out (by omega)
    cases e9
    refine ⟨some ⟨gs.getD i 0, 0, none⟩, cs.getD i 0, ?_, hr.prefix rfl q2 q1⟩
    rw [Nat.zero_add, own_cell h2 i (by omega), List.getElem?_append_left (by omega)]
    simp [ltv, hi]
end Go.Proofs.Ythjjdfiaikibaaa
