import Derived.Test.YtplpgeocidllfaaDmA
set_option linter.unusedVariables false
set_option linter.unusedSimpArgs false
namespace Go.Proofs.Ytplpgeocidllfaa
open Go.ChangeShapes Go.WideShapes Go.ChangeAt Go.RowKit Go.Maps

/-- A slice of slices of numbers. -/
structure IRow (w : World) (ao : Option Addr) (cap : Nat) (Ls : List (List Int)) : Prop where
  le : Ls.length ≤ cap
  mx : cap ≤ 9223372036854775807
  out : Ls ≠ [] → ∃ b o, ao = some ⟨b, o, none⟩ ∧ b < w.heap.size ∧ ∀ i (h : i < Ls.length), ∃ a' c', w.cell? ⟨b, o + i, none⟩ = some (.slice a' Ls[i].length c') ∧ Ints w a' c' Ls[i]
theorem IRow.below {w w' ao cap L K} (h : IRow w ao cap L) (hb : Below K w w') (hK : w.heap.size ≤ K) : IRow w' ao cap L :=
  ⟨h.le, h.mx, fun hn => by
    obtain ⟨b, o, e, h1, h2⟩ := h.out hn
    refine ⟨b, o, e, by have := hb.size; omega, fun i hi => ?_⟩
    obtain ⟨a', c', h3, h4⟩ := h2 i hi
    exact ⟨a', c', by rw [hb.cell (p := ⟨b, o + i, none⟩) (by show b < K; omega)]; exact h3, h4.below hb hK⟩⟩
def goodP (Ls : List (List Int)) : Bool := decide (0 < Ls.length) && Ls.all fun l => l.all fun x => decide (0 ≤ x ∧ x < Ls.length)
/-- The cells of a list of numbers that is not empty. -/
theorem Ints.at {w ao cap L} (h : Ints w ao cap L) {j : Nat} (hj : j < L.length) : ∃ b o, ao = some ⟨b, o, none⟩ ∧ w.cell? ⟨b, o + j, none⟩ = some (.int .i64 L[j]) := by
  obtain ⟨b, o, e, hA⟩ := h.out (by intro e; rw [e] at hj; simp at hj)
  exact ⟨b, o, e, hA.cell j hj⟩
theorem IRow.at {w ao cap L} (h : IRow w ao cap L) {j : Nat} (hj : j < L.length) : ∃ b o a' c', ao = some ⟨b, o, none⟩ ∧ w.cell? ⟨b, o + j, none⟩ = some (.slice a' L[j].length c') ∧ Ints w a' c' L[j] := by
  obtain ⟨b, o, e, _, hA⟩ := h.out (by intro e; rw [e] at hj; simp at hj)
  obtain ⟨a', c', h1, h2⟩ := hA j hj
  exact ⟨b, o, a', c', e, h1, h2⟩

end Go.Proofs.Ytplpgeocidllfaa
