import Derived.Test.YthjjdfiaikibaaaDnF
set_option linter.unusedVariables false
set_option linter.unusedSimpArgs false
namespace Go.Proofs.Ythjjdfiaikibaaa
open Go.ChangeShapes Go.WideShapes Go.ChangeAt Go.RowKit Go.Maps

theorem bulk_pos {H : Type} (d : DataW H) : 1 ≤ Rows.uptoBulk d := by
  cases d with
  | lit l => cases l <;> simp [Rows.uptoBulk]
  | _ => simp [Rows.uptoBulk]
theorem bulkAll_len {H : Type} : ∀ l : List (DataW H), l.length ≤ Rows.uptoBulkAll l
  | [] => by simp [Rows.uptoBulkAll]
  | d :: l => by have := bulkAll_len l; have := bulk_pos d; simp [Rows.uptoBulkAll]; omega
theorem bulkAll_sum {H : Type} : ∀ l : List (DataW H), Rows.uptoBulkAll l = (l.map Rows.uptoBulk).sum
  | [] => by simp [Rows.uptoBulkAll]
  | d :: l => by simp [Rows.uptoBulkAll, bulkAll_sum l]
/-- A slice of numbers within what came in. -/
theorem ints_view2 {H : Type} {enc : TypeId × Value → H} {W : World} {fuel : Nat} {v : Value} {x : DataW H × List MemPlace} (h : DataW.trod enc Try.prog W 0 (fun _ => true) true fuel 31 [v] = some x) :
    ∃ (ao : Option Addr) (cap : Nat) (T : List Int), v = .slice ao T.length cap ∧ Ints W ao cap T ∧ (ao = none → cap = 0) ∧ T.length + 1 ≤ Rows.uptoBulk x.1 := by
  rcases open_ints Try.underlying31 Try.underlying3 (by kernel_rfl) h with ⟨h0, _⟩ | ⟨a, len, cap, zs, e, _, h2, h3, h4, rfl, h5, h6⟩
  · simp only [List.cons.injEq, and_true] at h0
    subst h0
    exact ⟨none, 0, [], rfl, ⟨by simp, by omega, fun h => absurd rfl h⟩, fun _ => rfl, by have := bulk_pos x.1; simpa using this⟩
  · simp only [List.cons.injEq, and_true] at e
    subst e
    simp only [if_true] at h4
    have hl : (zs.take len).length = len := by simp; omega
    refine ⟨some a, cap, zs.take len, by rw [hl], ⟨by omega, by have := h3; unfold maxLen at this; omega, fun hne => ?_⟩, fun h => (by cases h), ?_⟩
    · have hl0 : 0 < len := by
        rcases Nat.eq_zero_or_pos len with h | h
        · subst h; simp at hne
        · exact h
      obtain ⟨b, off, spot⟩ := a
      have hspot : spot = none := by simpa [Addr.add] using World.cell?_spot (h5 0 (by omega))
      subst hspot
      refine ⟨b, off, rfl, by have := block_lt_of_cell (h5 0 (by omega)); simpa [Addr.add] using this, fun i hi => ?_⟩
      have hi' : i < zs.length := by rw [hl] at hi; omega
      have := h5 i hi'
      rw [add_none] at this
      rw [this]
      simp [hi']
    · have h9 := bulkAll_len (H := H) (lits .i64 (zs.take len))
      simp only [Rows.uptoBulk]
      simp [lits] at h9 ⊢
      omega
/-- A list of lists of numbers that came in. -/
theorem irow_view {H : Type} {enc : TypeId × Value → H} {W : World} {fuel : Nat} {ao : Option Addr} {len cap : Nat} {x : DataW H × List MemPlace} (h : DataW.trod enc Try.prog W 0 (fun _ => true) true fuel 22 [.slice ao len cap] = some x) :
    ∃ Ls : List (List Int), len = Ls.length ∧ IRow W ao cap Ls ∧ RZ W ao len ∧ len + (Ls.map List.length).sum ≤ Rows.uptoBulk x.1 := by
  rcases Deep.open_slice1 Try.underlying22 (by kernel_rfl) h with ⟨h0, _⟩ | ⟨a, len', cap', m, n, V, D, Pl, e, _, hl, hm, hmm, rfl, hx⟩
  · cases h0
    exact ⟨[], rfl, ⟨by simp, by omega, fun h => absurd rfl h⟩, fun b o i m c e => (by cases e), by simp⟩
  · simp only [List.cons.injEq, Value.slice.injEq, and_true] at e
    obtain ⟨rfl, rfl, rfl⟩ := e
    have hml : len ≤ m := by rw [hmm]; simp; exact hl
    have each : ∀ i, i < len → ∃ q : Option Addr × Nat × List Int, W.cell? (a.add i) = some (.slice q.1 q.2.2.length q.2.1) ∧ Ints W q.1 q.2.1 q.2.2 ∧ (q.1 = none → q.2.1 = 0) ∧ q.2.2.length + 1 ≤ Rows.uptoBulk (D i) := by
      intro i hi
      obtain ⟨h1, h2⟩ := hx i (by omega)
      obtain ⟨b, c, T, rfl', h3, h4, h5⟩ := ints_view2 h2
      exact ⟨(b, c, T), by rw [h1, rfl'], h3, h4, h5⟩
    haveI : Inhabited (Option Addr × Nat × List Int) := ⟨(none, 0, [])⟩
    obtain ⟨q, hq⟩ := Deep.choose_lt each
    refine ⟨(List.range len).map fun i => (q i).2.2, by simp, ⟨by simpa using hl, by unfold maxLen at hm; omega, fun hne => ?_⟩, fun b o i m' c' e hi hc => ?_, ?_⟩
    · have h0 : 0 < len := by
        rcases Nat.eq_zero_or_pos len with h | h
        · subst h; simp at hne
        · exact h
      obtain ⟨b, off, spot⟩ := a
      have hspot : spot = none := by simpa [Addr.add] using World.cell?_spot (hq 0 h0).1
      subst hspot
      refine ⟨b, off, rfl, by have := block_lt_of_cell (hq 0 h0).1; simpa [Addr.add] using this, fun i hi => ?_⟩
      have hi' : i < len := by simpa using hi
      have h1 := (hq i hi').1
      rw [add_none] at h1
      refine ⟨(q i).1, (q i).2.1, by rw [h1]; simp, by simpa using (hq i hi').2.1⟩
    · cases e
      have h1 := hq i hi
      rw [add_none, hc] at h1
      have h2 := Option.some.inj h1.1
      injection h2 with e1 e2 e3
      rw [e3]
      exact h1.2.2.1 e1.symm
    · simp only [Rows.uptoBulk, bulkAll_sum, List.map_map]
      have key : ∀ l : List Nat, (∀ i ∈ l, i < len) → l.length + (l.map (List.length ∘ fun i => (q i).2.2)).sum ≤ (l.map (Rows.uptoBulk ∘ D)).sum := by
        intro l
        induction l with
        | nil => intro _; simp
        | cons i l ih =>
          intro hl
          have h1 := ih fun j hj => hl j (by simp [hj])
          have h2 := (hq i (hl i (by simp))).2.2.2
          simp only [List.length_cons, List.map_cons, List.sum_cons, Function.comp] at h1 ⊢
          omega
      have := key (List.range len) fun i hi => List.mem_range.1 hi
      simp only [List.length_range] at this
      omega
end Go.Proofs.Ythjjdfiaikibaaa
