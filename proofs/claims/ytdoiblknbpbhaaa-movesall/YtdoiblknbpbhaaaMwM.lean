import Derived.Test.YtdoiblknbpbhaaaMwL
set_option linter.unusedVariables false
set_option linter.unusedSimpArgs false
namespace Go.Proofs.Ytdoiblknbpbhaaa
open Go.ChangeShapes Go.WideShapes Go.ChangeAt Go.RowKit Go.Maps

/-- Many lists of moves that came in. -/
theorem mms_view {H : Type} {enc : TypeId × Value → H} {W : World} {fuel : Nat} {ao : Option Addr} {len cap : Nat} {x : DataW H × List MemPlace} (h : DataW.trod enc Try.prog W 0 (fun _ => true) true fuel 45 [.slice ao len cap] = some x) :
    ∃ Ls : List (List Mv), len = Ls.length ∧ MM W ao cap Ls := by
  rcases Deep.open_slice1 Try.underlying45 (by kernel_rfl) h with ⟨h0, _⟩ | ⟨a, len', cap', m, n, V, D, Pl, e, _, hl, hm, hmm, rfl, hx⟩
  · cases h0
    exact ⟨[], rfl, ⟨by simp, by omega, fun h => absurd rfl h⟩⟩
  · simp only [List.cons.injEq, Value.slice.injEq, and_true] at e
    obtain ⟨rfl, rfl, rfl⟩ := e
    have hml : len ≤ m := by rw [hmm]; simp; exact hl
    have each : ∀ i, i < len → ∃ q : Option Addr × Nat × List Mv, W.cell? (a.add i) = some (.slice q.1 q.2.2.length q.2.1) ∧ Mvs W q.1 q.2.1 q.2.2 := by
      intro i hi
      obtain ⟨h1, h2⟩ := hx i (by omega)
      obtain ⟨b, c, T, e, h3⟩ := moves_view h2
      simp only [List.cons.injEq, and_true] at e
      exact ⟨(b, c, T), by rw [h1, e], h3⟩
    haveI : Inhabited (Option Addr × Nat × List Mv) := ⟨(none, 0, [])⟩
    obtain ⟨q, hq⟩ := Deep.choose_lt each
    refine ⟨(List.range len).map fun i => (q i).2.2, by simp, ⟨by simpa using hl, by unfold maxLen at hm; omega, fun hne => ?_⟩⟩
    have h0 : 0 < len := by
      rcases Nat.eq_zero_or_pos len with h | h
      · subst h; simp at hne
      · exact h
    obtain ⟨b, off, spot⟩ := a
    have hspot : spot = none := by simpa [Addr.add] using World.cell?_spot (hq 0 h0).1
    subst hspot
    refine ⟨b, off, rfl, by have := block_lt_of_cell (hq 0 h0).1; simpa [Addr.add] using this, fun i hi => ?_⟩
    have hi' : i < len := by simpa using hi
    have h1 := (hq i hi').1
    rw [add_none] at h1
    refine ⟨(q i).1, (q i).2.1, by rw [h1]; simp, by simpa using (hq i hi').2⟩
end Go.Proofs.Ytdoiblknbpbhaaa
