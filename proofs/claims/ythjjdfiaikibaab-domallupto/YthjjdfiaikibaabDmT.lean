import Derived.Test.YthjjdfiaikibaabDmS
set_option linter.unusedVariables false
namespace Go.Proofs.Ythjjdfiaikibaab
open Go.ChangeShapes Go.WideShapes Go.ChangeAt Go.RowKit Go.Maps
theorem tree_sample : treeP [[1], [2, 3], [1], []] = [-1, 0, 1, 1] := by decide +kernel
theorem reach_sample : reachP [[1, 1], [1], [1]] = [true, true, false] := by decide +kernel
theorem over_sample : overP [-1, 0, 1, 1] 1 3 = true ∧ overP [-1, 0, 1, 1] 2 3 = false := by decide +kernel
theorem ints_exact {w : World} {g : Nat} {L : List Int} (h : w.heap[g]? = some (.cells (ivs L).toArray 3 (0, 0))) (hl : L.length ≤ 9223372036854775807) : Ints w (some ⟨g, 0, none⟩) L.length L :=
  ⟨Nat.le_refl _, hl, fun _ => ⟨g, 0, rfl, (Array.getElem?_eq_some_iff.1 h).1, fun i hi => by rw [Nat.zero_add, ← gn_at hi]; exact cell_arr h (ivs_at hi)⟩⟩
theorem bls_exact {w : World} {g : Nat} {L : List Bool} (h : w.heap[g]? = some (.cells (L.map Value.bool).toArray 4 (0, 0))) (hl : L.length ≤ 9223372036854775807) : Bls w (some ⟨g, 0, none⟩) L.length L :=
  ⟨Nat.le_refl _, hl, fun _ => ⟨g, 0, rfl, (Array.getElem?_eq_some_iff.1 h).1, fun i hi => by rw [Nat.zero_add]; exact cell_arr h (by simp [hi])⟩⟩
/-- A list of lists, each row of which is at hand. -/
theorem irow_exact {w : World} {g : Nat} {Ls : List (List Int)} {vs : List Value} (h : w.heap[g]? = some (.cells vs.toArray 27 (0, 0))) (hl : Ls.length ≤ 9223372036854775807) (hv : vs.length = Ls.length) (hr : ∀ i (hi : i < Ls.length), ∃ a c, vs[i]? = some (.slice a Ls[i].length c) ∧ Ints w a c Ls[i]) : IRow w (some ⟨g, 0, none⟩) Ls.length Ls :=
  ⟨Nat.le_refl _, hl, fun _ => ⟨g, 0, rfl, (Array.getElem?_eq_some_iff.1 h).1, fun i hi => by
    obtain ⟨a, c, h1, h2⟩ := hr i hi
    exact ⟨a, c, by rw [Nat.zero_add]; exact cell_arr h (by simpa using h1), h2⟩⟩⟩
theorem sample1 (w : World) : IRow ((((w.alloc (.cells #[.int .i64 1] 3)).alloc (.cells #[.int .i64 2, .int .i64 3] 3)).alloc (.cells #[.int .i64 1] 3)).alloc (.cells #[.slice (some ⟨w.heap.size, 0, none⟩) 1 1, .slice (some ⟨w.heap.size + 1, 0, none⟩) 2 2, .slice (some ⟨w.heap.size + 1 + 1, 0, none⟩) 1 1, .slice none 0 0] 27)) (some ⟨w.heap.size + 1 + 1 + 1, 0, none⟩) 4 [[1], [2, 3], [1], []] := by
  obtain ⟨W, hW⟩ : ∃ W, W = ((((w.alloc (.cells #[.int .i64 1] 3)).alloc (.cells #[.int .i64 2, .int .i64 3] 3)).alloc (.cells #[.int .i64 1] 3)).alloc (.cells #[.slice (some ⟨w.heap.size, 0, none⟩) 1 1, .slice (some ⟨w.heap.size + 1, 0, none⟩) 2 2, .slice (some ⟨w.heap.size + 1 + 1, 0, none⟩) 1 1, .slice none 0 0] 27)) := ⟨_, rfl⟩
  have h0 : W.heap[w.heap.size]? = some (.cells (ivs [1]).toArray 3 (0, 0)) := by
    rw [hW, heap_alloc_old _ _ (by first | (simp; done) | (simp; omega)), heap_alloc_old _ _ (by first | (simp; done) | (simp; omega)), heap_alloc_old _ _ (by simp)]; exact heap_alloc_new _ _
  have h1 : W.heap[w.heap.size + 1]? = some (.cells (ivs [2, 3]).toArray 3 (0, 0)) := by
    rw [hW, heap_alloc_old _ _ (by first | (simp; done) | (simp; omega)), heap_alloc_old _ _ (by simp)]
    simpa [ivs] using heap_alloc_new (w.alloc (.cells #[.int .i64 1] 3)) (.cells #[.int .i64 2, .int .i64 3] 3)
  have h2 : W.heap[w.heap.size + 1 + 1]? = some (.cells (ivs [1]).toArray 3 (0, 0)) := by
    rw [hW, heap_alloc_old _ _ (by simp)]
    simpa [ivs] using heap_alloc_new ((w.alloc (.cells #[.int .i64 1] 3)).alloc (.cells #[.int .i64 2, .int .i64 3] 3)) (.cells #[.int .i64 1] 3)
  have h3 : W.heap[w.heap.size + 1 + 1 + 1]? = some (.cells [.slice (some ⟨w.heap.size, 0, none⟩) 1 1, .slice (some ⟨w.heap.size + 1, 0, none⟩) 2 2, .slice (some ⟨w.heap.size + 1 + 1, 0, none⟩) 1 1, .slice none 0 0].toArray 27 (0, 0)) := by
    rw [hW]
    simpa using heap_alloc_new (((w.alloc (.cells #[.int .i64 1] 3)).alloc (.cells #[.int .i64 2, .int .i64 3] 3)).alloc (.cells #[.int .i64 1] 3)) (.cells #[.slice (some ⟨w.heap.size, 0, none⟩) 1 1, .slice (some ⟨w.heap.size + 1, 0, none⟩) 2 2, .slice (some ⟨w.heap.size + 1 + 1, 0, none⟩) 1 1, .slice none 0 0] 27)
  rw [← hW]
  refine irow_exact (Ls := [[1], [2, 3], [1], []]) h3 (by decide) rfl fun i hi => ?_
  match i, hi with
  | 0, _ => exact ⟨_, _, rfl, ints_exact h0 (by decide)⟩
  | 1, _ => exact ⟨_, _, rfl, ints_exact h1 (by decide)⟩
  | 2, _ => exact ⟨_, _, rfl, ints_exact h2 (by decide)⟩
  | 3, _ => exact ⟨none, 0, rfl, Nat.le_refl _, by decide, fun h => absurd rfl h⟩
theorem sample2 (w : World) : IRow ((((w.alloc (.cells #[.int .i64 1, .int .i64 1] 3)).alloc (.cells #[.int .i64 1] 3)).alloc (.cells #[.int .i64 1] 3)).alloc (.cells #[.slice (some ⟨w.heap.size, 0, none⟩) 2 2, .slice (some ⟨w.heap.size + 1, 0, none⟩) 1 1, .slice (some ⟨w.heap.size + 1 + 1, 0, none⟩) 1 1] 27)) (some ⟨w.heap.size + 1 + 1 + 1, 0, none⟩) 3 [[1, 1], [1], [1]] := by
  obtain ⟨W, hW⟩ : ∃ W, W = ((((w.alloc (.cells #[.int .i64 1, .int .i64 1] 3)).alloc (.cells #[.int .i64 1] 3)).alloc (.cells #[.int .i64 1] 3)).alloc (.cells #[.slice (some ⟨w.heap.size, 0, none⟩) 2 2, .slice (some ⟨w.heap.size + 1, 0, none⟩) 1 1, .slice (some ⟨w.heap.size + 1 + 1, 0, none⟩) 1 1] 27)) := ⟨_, rfl⟩
  have h0 : W.heap[w.heap.size]? = some (.cells (ivs [1, 1]).toArray 3 (0, 0)) := by
    rw [hW, heap_alloc_old _ _ (by first | (simp; done) | (simp; omega)), heap_alloc_old _ _ (by first | (simp; done) | (simp; omega)), heap_alloc_old _ _ (by simp)]; exact heap_alloc_new _ _
  have h1 : W.heap[w.heap.size + 1]? = some (.cells (ivs [1]).toArray 3 (0, 0)) := by
    rw [hW, heap_alloc_old _ _ (by first | (simp; done) | (simp; omega)), heap_alloc_old _ _ (by simp)]
    simpa [ivs] using heap_alloc_new (w.alloc (.cells #[.int .i64 1, .int .i64 1] 3)) (.cells #[.int .i64 1] 3)
  have h2 : W.heap[w.heap.size + 1 + 1]? = some (.cells (ivs [1]).toArray 3 (0, 0)) := by
    rw [hW, heap_alloc_old _ _ (by simp)]
    simpa [ivs] using heap_alloc_new ((w.alloc (.cells #[.int .i64 1, .int .i64 1] 3)).alloc (.cells #[.int .i64 1] 3)) (.cells #[.int .i64 1] 3)
  have h3 : W.heap[w.heap.size + 1 + 1 + 1]? = some (.cells [.slice (some ⟨w.heap.size, 0, none⟩) 2 2, .slice (some ⟨w.heap.size + 1, 0, none⟩) 1 1, .slice (some ⟨w.heap.size + 1 + 1, 0, none⟩) 1 1].toArray 27 (0, 0)) := by
    rw [hW]
    simpa using heap_alloc_new (((w.alloc (.cells #[.int .i64 1, .int .i64 1] 3)).alloc (.cells #[.int .i64 1] 3)).alloc (.cells #[.int .i64 1] 3)) (.cells #[.slice (some ⟨w.heap.size, 0, none⟩) 2 2, .slice (some ⟨w.heap.size + 1, 0, none⟩) 1 1, .slice (some ⟨w.heap.size + 1 + 1, 0, none⟩) 1 1] 27)
  rw [← hW]
  refine irow_exact (Ls := [[1, 1], [1], [1]]) h3 (by decide) rfl fun i hi => ?_
  match i, hi with
  | 0, _ => exact ⟨_, _, rfl, ints_exact h0 (by decide)⟩
  | 1, _ => exact ⟨_, _, rfl, ints_exact h1 (by decide)⟩
  | 2, _ => exact ⟨_, _, rfl, ints_exact h2 (by decide)⟩
theorem four_below (w : World) (a b c d : Obj) : Below w.heap.size w ((((w.alloc a).alloc b).alloc c).alloc d) := ((((Below.refl _ _).alloc (Nat.le_refl _) _).alloc (by simp) _).alloc (by simp; omega) _).alloc (by simp; omega) _
set_option maxRecDepth 100000 in
set_option maxHeartbeats 2000000 in
theorem alive_any (w : World) : Calls Try.prog 4 #[] w fun e w' => e = .returned (.bool true) ∧ Below w.heap.size w w' := by
  have HS1 := show Hid _ from sample1 w
  go_enter Try.func4, Try.ntmps4
  go_wp2_with fail
  have b1 := four_below w (.cells #[.int .i64 1] 3) (.cells #[.int .i64 2, .int .i64 3] 3) (.cells #[.int .i64 1] 3) (.cells #[.slice (some ⟨w.heap.size, 0, none⟩) 1 1, .slice (some ⟨w.heap.size + 1, 0, none⟩) 2 2, .slice (some ⟨w.heap.size + 1 + 1, 0, none⟩) 1 1, .slice none 0 0] 27)
  obtain ⟨w1, hw1⟩ : ∃ w1, w1 = ((((w.alloc (.cells #[.int .i64 1] 3)).alloc (.cells #[.int .i64 2, .int .i64 3] 3)).alloc (.cells #[.int .i64 1] 3)).alloc (.cells #[.slice (some ⟨w.heap.size, 0, none⟩) 1 1, .slice (some ⟨w.heap.size + 1, 0, none⟩) 2 2, .slice (some ⟨w.heap.size + 1 + 1, 0, none⟩) 1 1, .slice none 0 0] 27)) := ⟨_, rfl⟩
  rw [← hw1] at HS1 b1 ⊢
  refine (tree_any w1 (some ⟨w.heap.size + 1 + 1 + 1, 0, none⟩) 4 4 [[1], [2, 3], [1], []] rfl HS1.out (by omega) (by decide)).mono ?_
  rintro e w2 ⟨v, rfl, hO, hb2⟩
  rw [tree_sample] at hO
  have B2 : Below w.heap.size w w2 := b1.trans (hb2.mono b1.size)
  obtain ⟨ao, ac, ev, hI⟩ := hO.ints
  subst ev
  have HI : Hid _ := hI
  have HB2 : Hid _ := B2
  clear hO hb2 B2 hI HS1 b1 hw1
  go_wp2_with fail
  have h3 : (w2.alloc (.cells #[.int .i64 (-1), .int .i64 0, .int .i64 1, .int .i64 1] 3)).heap[w2.heap.size]? = some (.cells (ivs [-1, 0, 1, 1]).toArray 3 (0, 0)) := heap_alloc_new _ _
  have b3 : Below w2.heap.size w2 (w2.alloc (.cells #[.int .i64 (-1), .int .i64 0, .int .i64 1, .int .i64 1] 3)) := (Below.refl _ _).alloc (Nat.le_refl _) _
  refine (same_any _ ao (some ⟨w2.heap.size, 0, none⟩) ac 4 4 4 [-1, 0, 1, 1] [-1, 0, 1, 1] rfl rfl (HI.out.below b3 (Nat.le_refl _)) (ints_exact h3 (by decide))).mono ?_
  rintro e w3 ⟨rfl, hb3⟩
  have B3 : Below w2.heap.size w2 w3 := b3.trans (hb3.mono b3.size)
  have HB3 : Hid _ := B3
  clear h3 b3 hb3 B3
  rw [show (decide (([-1, 0, 1, 1] : List Int) = [-1, 0, 1, 1])) = true from rfl]
  go_wp2_with fail
  refine (over_any w3 ao 4 ac [-1, 0, 1, 1] rfl (HI.out.below HB3.out (Nat.le_refl _)) 1 3).mono ?_
  rintro e w4 ⟨rfl, rfl⟩
  rw [over_sample.1]
  go_wp2_with fail
  refine (over_any w4 ao 4 ac [-1, 0, 1, 1] rfl (HI.out.below HB3.out (Nat.le_refl _)) 2 3).mono ?_
  rintro e w5 ⟨rfl, rfl⟩
  rw [over_sample.2]
  have HS2 := show Hid _ from sample2 w5
  go_wp2_with fail
  have b6 := four_below w5 (.cells #[.int .i64 1, .int .i64 1] 3) (.cells #[.int .i64 1] 3) (.cells #[.int .i64 1] 3) (.cells #[.slice (some ⟨w5.heap.size, 0, none⟩) 2 2, .slice (some ⟨w5.heap.size + 1, 0, none⟩) 1 1, .slice (some ⟨w5.heap.size + 1 + 1, 0, none⟩) 1 1] 27)
  obtain ⟨w6, hw6⟩ : ∃ w6, w6 = ((((w5.alloc (.cells #[.int .i64 1, .int .i64 1] 3)).alloc (.cells #[.int .i64 1] 3)).alloc (.cells #[.int .i64 1] 3)).alloc (.cells #[.slice (some ⟨w5.heap.size, 0, none⟩) 2 2, .slice (some ⟨w5.heap.size + 1, 0, none⟩) 1 1, .slice (some ⟨w5.heap.size + 1 + 1, 0, none⟩) 1 1] 27)) := ⟨_, rfl⟩
  rw [← hw6] at HS2 b6 ⊢
  refine (reach_any w6 (some ⟨w5.heap.size + 1 + 1 + 1, 0, none⟩) 3 3 [[1, 1], [1], [1]] rfl HS2.out (by omega)).mono ?_
  rintro e w7 ⟨v, rfl, hO, hb7⟩
  rw [reach_sample] at hO
  obtain ⟨bo, bc, ev, hJ⟩ := hO.bls
  subst ev
  have B7 : Below w.heap.size w w7 := ((HB2.out.trans (HB3.out.mono HB2.out.size)).trans (b6.mono (by have := HB2.out.size; have := HB3.out.size; omega))).trans (hb7.mono (by have := HB2.out.size; have := HB3.out.size; have := b6.size; omega))
  have HJ : Hid _ := hJ
  have HB7 : Hid _ := B7
  clear hO hb7 B7 hJ HS2 b6 hw6
  go_wp2_with fail
  have h8 : (w7.alloc (.cells #[.bool true, .bool true, .bool false] 4)).heap[w7.heap.size]? = some (.cells (([true, true, false] : List Bool).map Value.bool).toArray 4 (0, 0)) := heap_alloc_new _ _
  have b8 : Below w7.heap.size w7 (w7.alloc (.cells #[.bool true, .bool true, .bool false] 4)) := (Below.refl _ _).alloc (Nat.le_refl _) _
  refine (alike_any _ bo (some ⟨w7.heap.size, 0, none⟩) bc 3 3 3 [true, true, false] [true, true, false] rfl rfl (HJ.out.below b8 (Nat.le_refl _)) (bls_exact h8 (by decide))).mono ?_
  rintro e w9 ⟨rfl, hb9⟩
  have B9 : Below w.heap.size w w9 := (HB7.out.trans (b8.mono HB7.out.size)).trans (hb9.mono (by have := HB7.out.size; have := b8.size; omega))
  have HB9 : Hid _ := B9
  clear h8 b8 hb9 B9
  rw [show (decide (([true, true, false] : List Bool) = [true, true, false])) = true from rfl]
  go_wp2_with fail
  go_ret
  exact ⟨rfl, HB9.out⟩
end Go.Proofs.Ythjjdfiaikibaab
