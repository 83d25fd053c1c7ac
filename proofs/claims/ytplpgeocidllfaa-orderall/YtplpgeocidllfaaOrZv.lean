import Derived.Test.YtplpgeocidllfaaOrZ
set_option linter.unusedVariables false
set_option linter.unusedSimpArgs false
namespace Go.Proofs.Ytplpgeocidllfaa
open Go.ChangeShapes Go.WideShapes Go.ChangeAt Go.RowKit Go.Maps

theorem irow_slice {H : Type} {enc : TypeId × Value → H} {W : World} {fuel : Nat} {v : Value} {x : DataW H × List MemPlace} (h : DataW.trod enc Try.prog W 0 (fun _ => true) true fuel 22 [v] = some x) : ∃ ao len cap, v = .slice ao len cap := by
  rcases Deep.open_slice1 Try.underlying22 (by kernel_rfl) h with ⟨h0, _⟩ | ⟨a, len', cap', m, n, V, D, Pl, e, _⟩
  · simp only [List.cons.injEq, and_true] at h0
    exact ⟨_, _, _, h0⟩
  · simp only [List.cons.injEq, and_true] at e
    exact ⟨_, _, _, e⟩
/-- Many lists of lists that came in. -/
theorem iii_view {H : Type} {enc : TypeId × Value → H} {W : World} {fuel : Nat} {ao : Option Addr} {len cap : Nat} {x : DataW H × List MemPlace} (h : DataW.trod enc Try.prog W 0 (fun _ => true) true fuel 37 [.slice ao len cap] = some x) (hw : ∀ n ∈ x.1.weights Try.prog 37, n ≤ reachBytes) :
    ∃ Ms : List (List (List Int)), len = Ms.length ∧ III W ao cap Ms := by
  rcases Deep.open_slice1 Try.underlying37 (by kernel_rfl) h with ⟨h0, _⟩ | ⟨a, len', cap', m, n, V, D, Pl, e, _, hl, hm, hmm, rfl, hx⟩
  · cases h0
    exact ⟨[], rfl, ⟨by simp, by omega, fun h => absurd rfl h⟩⟩
  · simp only [List.cons.injEq, Value.slice.injEq, and_true] at e
    obtain ⟨rfl, rfl, rfl⟩ := e
    have hml : len ≤ m := by rw [hmm]; simp; exact hl
    have hwr : ∀ i, i < len → ∀ k ∈ (D i).weights Try.prog 22, k ≤ reachBytes := fun i hi k hk => by
      refine hw k ?_
      simp only [DataW.weights, Try.underlying37, List.mem_cons, List.mem_append]
      refine .inr (.inl (weights_all _ _ _ (D i) ?_ k hk))
      exact List.mem_map.2 ⟨i, List.mem_range.2 hi, rfl⟩
    have each : ∀ i, i < len → ∃ q : Option Addr × Nat × List (List Int), W.cell? (a.add i) = some (.slice q.1 q.2.2.length q.2.1) ∧ IRow W q.1 q.2.1 q.2.2 ∧ RZ W q.1 q.2.2.length ∧ (∀ l ∈ q.2.2, l.length ≤ 17592186043904) ∧ q.2.2.length ≤ 17592186043904 := by
      intro i hi
      obtain ⟨h1, h2⟩ := hx i (by omega)
      obtain ⟨b, len2, c, hv⟩ := irow_slice h2
      rw [hv] at h1 h2
      obtain ⟨T2, e1, h3, h4, h5, h6⟩ := irow_view h2 (hwr i hi)
      subst e1
      exact ⟨(b, c, T2), h1, h3, h4, h5, h6⟩
    haveI : Inhabited (Option Addr × Nat × List (List Int)) := ⟨(none, 0, [])⟩
    obtain ⟨q, hq⟩ := Deep.choose_lt each
    refine ⟨(List.range len).map fun i => (q i).2.2, by simp, ⟨by simpa using hl, by unfold maxLen at hm; omega, fun hne => ?_⟩⟩
    have h0 : 0 < len := by
      rcases Nat.eq_zero_or_pos len with h | h
      · subst h; simp at hne
      · exact h
    obtain ⟨b, off, spot⟩ := a
    have hspot : spot = none := by simpa [Addr.add] using World.cell?_spot (hq 0 h0).1
    subst hspot
    refine ⟨b, off, rfl, by have := block_lt_of_cell (hq 0 h0).1; simpa [Addr.add] using this, fun i hi => ?_⟩
    have hi' : i < len := by simpa using hi
    have h1 := (hq i hi').1
    rw [add_none] at h1
    have e2 : ((List.range len).map fun i => (q i).2.2)[i]'hi = (q i).2.2 := by simp
    rw [e2]
    exact ⟨(q i).1, (q i).2.1, h1, (hq i hi').2⟩
end Go.Proofs.Ytplpgeocidllfaa
