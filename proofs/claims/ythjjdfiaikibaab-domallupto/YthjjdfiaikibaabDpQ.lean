import Derived.Test.YthjjdfiaikibaabDpP
set_option linter.unusedVariables false
set_option linter.unusedSimpArgs false
namespace Go.Proofs.Ythjjdfiaikibaab
open Go.ChangeShapes Go.WideShapes Go.ChangeAt Go.RowKit Go.Maps

theorem irow_view2 {H : Type} {enc : TypeId × Value → H} {W : World} {fuel : Nat} {v : Value} {x : DataW H × List MemPlace} (h : DataW.trod enc Try.prog W 0 (fun _ => true) true fuel 26 [v] = some x) :
    ∃ (ao : Option Addr) (cap : Nat) (Ls : List (List Int)), v = .slice ao Ls.length cap ∧ IRow W ao cap Ls ∧ RZ W ao Ls.length ∧ Ls.length + (Ls.map List.length).sum ≤ Rows.uptoBulk x.1 := by
  have hs : ∃ ao len cap, v = .slice ao len cap := by
    rcases Deep.open_slice1 Try.underlying26 (by kernel_rfl) h with ⟨h0, _⟩ | ⟨a, len', cap', m, n, V, D, Pl, e, _⟩
    · simp only [List.cons.injEq, and_true] at h0
      exact ⟨_, _, _, h0⟩
    · simp only [List.cons.injEq, and_true] at e
      exact ⟨_, _, _, e⟩
  obtain ⟨ao, len, cap, rfl⟩ := hs
  obtain ⟨Ls, h1, h2, h3, h4⟩ := irow_view h
  subst h1
  exact ⟨ao, cap, Ls, rfl, h2, h3, h4⟩
theorem bulk_le {H : Type} : ∀ (l : List (DataW H)) (d : DataW H), d ∈ l → Rows.uptoBulk d ≤ Rows.uptoBulkAll l
  | [], d, h => by simp at h
  | x :: l, d, h => by
    simp only [Rows.uptoBulkAll]
    rcases List.mem_cons.1 h with rfl | h
    · omega
    · have := bulk_le l d h; omega
/-- Many lists of lists that came in. -/
theorem ii_view {H : Type} {enc : TypeId × Value → H} {W : World} {fuel : Nat} {ao : Option Addr} {len cap : Nat} {x : DataW H × List MemPlace} (h : DataW.trod enc Try.prog W 0 (fun _ => true) true fuel 22 [.slice ao len cap] = some x) (hbk : Rows.uptoBulk x.1 ≤ 1048576) :
    ∃ Ms : List (List (List Int)), len = Ms.length ∧ II W ao cap Ms ∧ ∀ M ∈ Ms, M.length + (M.map List.length).sum ≤ 1048576 := by
  rcases Deep.open_slice1 Try.underlying22 (by kernel_rfl) h with ⟨h0, _⟩ | ⟨a, len', cap', m, n, V, D, Pl, e, _, hl, hm, hmm, rfl, hx⟩
  · cases h0
    exact ⟨[], rfl, ⟨by simp, by omega, fun h => absurd rfl h⟩, fun M hM => by simp at hM⟩
  · simp only [List.cons.injEq, Value.slice.injEq, and_true] at e
    obtain ⟨rfl, rfl, rfl⟩ := e
    have hml : len ≤ m := by rw [hmm]; simp; exact hl
    have each : ∀ i, i < len → ∃ q : Option Addr × Nat × List (List Int), W.cell? (a.add i) = some (.slice q.1 q.2.2.length q.2.1) ∧ IRow W q.1 q.2.1 q.2.2 ∧ RZ W q.1 q.2.2.length ∧ q.2.2.length + (q.2.2.map List.length).sum ≤ Rows.uptoBulk (D i) := by
      intro i hi
      obtain ⟨h1, h2⟩ := hx i (by omega)
      obtain ⟨b, c, T, rfl', h3, h4, h5⟩ := irow_view2 h2
      exact ⟨(b, c, T), by rw [h1, rfl'], h3, h4, h5⟩
    haveI : Inhabited (Option Addr × Nat × List (List Int)) := ⟨(none, 0, [])⟩
    obtain ⟨q, hq⟩ := Deep.choose_lt each
    refine ⟨(List.range len).map fun i => (q i).2.2, by simp, ⟨by simpa using hl, by unfold maxLen at hm; omega, fun hne => ?_⟩, fun M hM => ?_⟩
    · have h0 : 0 < len := by
        rcases Nat.eq_zero_or_pos len with h | h
        · subst h; simp at hne
        · exact h
      obtain ⟨b, off, spot⟩ := a
      have hspot : spot = none := by simpa [Addr.add] using World.cell?_spot (hq 0 h0).1
      subst hspot
      refine ⟨b, off, rfl, by have := block_lt_of_cell (hq 0 h0).1; simpa [Addr.add] using this, fun i hi => ?_⟩
      have hi' : i < len := by simpa using hi
      have h1 := (hq i hi').1
      rw [add_none] at h1
      refine ⟨(q i).1, (q i).2.1, by rw [h1]; simp, by simpa using (hq i hi').2.1, by simpa using (hq i hi').2.2.1⟩
    · simp only [List.mem_map, List.mem_range] at hM
      obtain ⟨i, hi, rfl⟩ := hM
      have h1 := (hq i hi).2.2.2
      simp only [Rows.uptoBulk] at hbk
      have h2 := bulk_le _ (D i) (List.mem_map.2 ⟨i, List.mem_range.2 hi, rfl⟩)
      omega
set_option maxRecDepth 100000 in
set_option maxHeartbeats 4000000 in
theorem domAll_any (w : World) (ao : Option Addr) (nm cm : Nat) (Ms : List (List (List Int))) (hI : II w ao cm Ms) (hn : nm = Ms.length) (hs : ∀ M ∈ Ms, M.length + (M.map List.length).sum ≤ 1048576) :
    Calls Try.prog 3 #[.slice ao nm cm] w fun e w' => e = .returned (.bool true) ∧ Below w.heap.size w w' := by
  have HI : Hid _ := hI
  have HN : Hid _ := hn
  have HS : Hid _ := hs
  clear hI hn hs
  go_enter Try.func3, Try.ntmps3
  go_wp2_with fail
  refine (alive_any w).mono ?_
  rintro e w1 ⟨rfl, b1⟩
  have HB1 : Hid _ := b1
  obtain ⟨w2, hw2⟩ : ∃ w2, w2 = w1.alloc (.cells #[.bool false, .slice none 0 0, .slice none 0 0, .slice none 0 0, .slice none 0 0, .slice none 0 0] 30) := ⟨_, rfl⟩
  have hz1 := b1.size
  have HK2 : Hid (∃ F, KP false w2 w.heap.size w1.heap.size F 0) := ⟨_, .inl ⟨rfl, _, _, [], [], fun _ => none, ⟨by rw [hw2]; exact heap_alloc_new _ _, hz1, OwnV.nil _ _, OwnI.nil _ _, ⟨fun g x M h => (by cases h)⟩, fun g h => (by cases h)⟩, ⟨rfl, fun i hi => by simp at hi, fun x hx => by simp at hx⟩, rfl, by simp⟩⟩
  have HB2 : Hid (Below w.heap.size w w2) := by rw [hw2]; exact b1.alloc hz1 _
  have HW2 : Hid _ := hw2
  clear b1 hw2
  go_wp2_with fail
  rw [← HW2.out]
  obtain ⟨F2, HK2⟩ := HK2
  refine (all_any w w2 ao nm cm Ms rfl HB2.out HI.out HN.out HS.out HK2).mono ?_
  rintro e w3 ⟨rfl, b3⟩
  obtain ⟨w4, hw4⟩ : ∃ w4, w4 = w3.alloc (.cells #[.bool true, .slice none 0 0, .slice none 0 0, .slice none 0 0, .slice none 0 0, .slice none 0 0] 30) := ⟨_, rfl⟩
  have hz3 := b3.size
  have HK4 : Hid (∃ F, KP true w4 w.heap.size w3.heap.size F 0) := ⟨_, .inr ⟨rfl, _, _, [], [], [], ⟨by rw [hw4]; exact heap_alloc_new _ _, hz3, OwnV.nil _ _, OwnV.nil _ _, PL.nil _ _, rfl, fun i hi => by simp at hi, fun g h => (by cases h)⟩, rfl, by simp, fun l hl => by simp at hl⟩⟩
  have HB4 : Hid (Below w.heap.size w w4) := by rw [hw4]; exact b3.alloc hz3 _
  have HW4 : Hid _ := hw4
  clear b3 hw4 HK2
  go_wp2_with fail
  rw [← HW4.out]
  obtain ⟨F4, HK4⟩ := HK4
  refine (all_any w w4 ao nm cm Ms rfl HB4.out HI.out HN.out HS.out HK4).mono ?_
  rintro e w5 ⟨rfl, b5⟩
  have HB5 : Hid _ := b5
  clear b5
  go_wp2_with fail
  go_ret
  exact ⟨rfl, HB5.out⟩
end Go.Proofs.Ythjjdfiaikibaab
