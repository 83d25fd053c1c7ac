import Derived.Test.YtplpgeocidllfaaOrG
set_option linter.unusedVariables false
set_option linter.unusedSimpArgs false
namespace Go.Proofs.Ytplpgeocidllfaa
open Go.ChangeShapes Go.WideShapes Go.ChangeAt Go.RowKit Go.Maps

theorem lin_sample : linP [[1, 2], [3], [3], []] = [0, 1, 2, 3] := by decide +kernel
theorem sample1 (w : World) : IRow ((((w.alloc (.cells #[.int .i64 1, .int .i64 2] 3)).alloc (.cells #[.int .i64 3] 3)).alloc (.cells #[.int .i64 3] 3)).alloc (.cells #[.slice (some ⟨w.heap.size, 0, none⟩) 2 2, .slice (some ⟨w.heap.size + 1, 0, none⟩) 1 1, .slice (some ⟨w.heap.size + 1 + 1, 0, none⟩) 1 1, .slice none 0 0] 27)) (some ⟨w.heap.size + 1 + 1 + 1, 0, none⟩) 4 [[1, 2], [3], [3], []] := by
  obtain ⟨W, hW⟩ : ∃ W, W = ((((w.alloc (.cells #[.int .i64 1, .int .i64 2] 3)).alloc (.cells #[.int .i64 3] 3)).alloc (.cells #[.int .i64 3] 3)).alloc (.cells #[.slice (some ⟨w.heap.size, 0, none⟩) 2 2, .slice (some ⟨w.heap.size + 1, 0, none⟩) 1 1, .slice (some ⟨w.heap.size + 1 + 1, 0, none⟩) 1 1, .slice none 0 0] 27)) := ⟨_, rfl⟩
  have h0 : W.heap[w.heap.size]? = some (.cells (ivs [1, 2]).toArray 3 (0, 0)) := by
    rw [hW, heap_alloc_old _ _ (by first | (simp; done) | (simp; omega)), heap_alloc_old _ _ (by first | (simp; done) | (simp; omega)), heap_alloc_old _ _ (by simp)]; exact heap_alloc_new _ _
  have h1 : W.heap[w.heap.size + 1]? = some (.cells (ivs [3]).toArray 3 (0, 0)) := by
    rw [hW, heap_alloc_old _ _ (by first | (simp; done) | (simp; omega)), heap_alloc_old _ _ (by simp)]
    simpa [ivs] using heap_alloc_new (w.alloc (.cells #[.int .i64 1, .int .i64 2] 3)) (.cells #[.int .i64 3] 3)
  have h2 : W.heap[w.heap.size + 1 + 1]? = some (.cells (ivs [3]).toArray 3 (0, 0)) := by
    rw [hW, heap_alloc_old _ _ (by simp)]
    simpa [ivs] using heap_alloc_new ((w.alloc (.cells #[.int .i64 1, .int .i64 2] 3)).alloc (.cells #[.int .i64 3] 3)) (.cells #[.int .i64 3] 3)
  have h3 : W.heap[w.heap.size + 1 + 1 + 1]? = some (.cells [.slice (some ⟨w.heap.size, 0, none⟩) 2 2, .slice (some ⟨w.heap.size + 1, 0, none⟩) 1 1, .slice (some ⟨w.heap.size + 1 + 1, 0, none⟩) 1 1, .slice none 0 0].toArray 27 (0, 0)) := by
    rw [hW]
    simpa using heap_alloc_new (((w.alloc (.cells #[.int .i64 1, .int .i64 2] 3)).alloc (.cells #[.int .i64 3] 3)).alloc (.cells #[.int .i64 3] 3)) (.cells #[.slice (some ⟨w.heap.size, 0, none⟩) 2 2, .slice (some ⟨w.heap.size + 1, 0, none⟩) 1 1, .slice (some ⟨w.heap.size + 1 + 1, 0, none⟩) 1 1, .slice none 0 0] 27)
  rw [← hW]
  refine irow_exact (Ls := [[1, 2], [3], [3], []]) h3 (by decide) rfl fun i hi => ?_
  match i, hi with
  | 0, _ => exact ⟨_, _, rfl, ints_exact h0 (by decide)⟩
  | 1, _ => exact ⟨_, _, rfl, ints_exact h1 (by decide)⟩
  | 2, _ => exact ⟨_, _, rfl, ints_exact h2 (by decide)⟩
  | 3, _ => exact ⟨none, 0, rfl, Nat.le_refl _, by decide, fun h => absurd rfl h⟩
theorem four_below (w : World) (a b c d : Obj) : Below w.heap.size w ((((w.alloc a).alloc b).alloc c).alloc d) := ((((Below.refl _ _).alloc (Nat.le_refl _) _).alloc (by simp) _).alloc (by simp; omega) _).alloc (by simp; omega) _
set_option maxRecDepth 100000 in
set_option maxHeartbeats 2000000 in
theorem aliveO_any (w : World) : Calls Try.prog 9 #[] w fun e w' => e = .returned (.bool true) ∧ Below w.heap.size w w' := by
  have HS1 := show Hid _ from sample1 w
  go_enter Try.func9, Try.ntmps9
  go_wp2_with fail
  have b1 := four_below w (.cells #[.int .i64 1, .int .i64 2] 3) (.cells #[.int .i64 3] 3) (.cells #[.int .i64 3] 3) (.cells #[.slice (some ⟨w.heap.size, 0, none⟩) 2 2, .slice (some ⟨w.heap.size + 1, 0, none⟩) 1 1, .slice (some ⟨w.heap.size + 1 + 1, 0, none⟩) 1 1, .slice none 0 0] 27)
  obtain ⟨w1, hw1⟩ : ∃ w1, w1 = ((((w.alloc (.cells #[.int .i64 1, .int .i64 2] 3)).alloc (.cells #[.int .i64 3] 3)).alloc (.cells #[.int .i64 3] 3)).alloc (.cells #[.slice (some ⟨w.heap.size, 0, none⟩) 2 2, .slice (some ⟨w.heap.size + 1, 0, none⟩) 1 1, .slice (some ⟨w.heap.size + 1 + 1, 0, none⟩) 1 1, .slice none 0 0] 27)) := ⟨_, rfl⟩
  rw [← hw1] at HS1 b1 ⊢
  refine (line_any w1 (some ⟨w.heap.size + 1 + 1 + 1, 0, none⟩) 4 4 [[1, 2], [3], [3], []] rfl HS1.out (by omega)).mono ?_
  rintro e w2 ⟨v, rfl, hO, hb2⟩
  rw [lin_sample] at hO
  have B2 : Below w.heap.size w w2 := b1.trans (hb2.mono b1.size)
  obtain ⟨ao, ac, ev, hI⟩ := hO.ints
  subst ev
  have HI : Hid _ := hI
  have HB2 : Hid _ := B2
  clear hO hb2 B2 hI HS1 b1 hw1
  go_wp2_with fail
  have h3 : (w2.alloc (.cells #[.int .i64 0, .int .i64 1, .int .i64 2, .int .i64 3] 3)).heap[w2.heap.size]? = some (.cells (ivs [0, 1, 2, 3]).toArray 3 (0, 0)) := heap_alloc_new _ _
  have b3 : Below w2.heap.size w2 (w2.alloc (.cells #[.int .i64 0, .int .i64 1, .int .i64 2, .int .i64 3] 3)) := (Below.refl _ _).alloc (Nat.le_refl _) _
  refine (sameO_any _ ao (some ⟨w2.heap.size, 0, none⟩) ac 4 4 4 [0, 1, 2, 3] [0, 1, 2, 3] rfl rfl (HI.out.below b3 (Nat.le_refl _)) (ints_exact h3 (by decide))).mono ?_
  rintro e w3 ⟨rfl, hb3⟩
  have B3 : Below w.heap.size w w3 := HB2.out.trans ((b3.trans (hb3.mono b3.size)).mono HB2.out.size)
  have HB3 : Hid _ := B3
  clear h3 b3 hb3 B3
  rw [show (decide (([0, 1, 2, 3] : List Int) = [0, 1, 2, 3])) = true from rfl]
  go_wp2_with fail
  go_ret
  exact ⟨rfl, HB3.out⟩
/-- All blocks and ways. -/
def bulkP (Ls : List (List Int)) : Nat := Ls.length + (Ls.map List.length).sum
theorem sum_take_le (l : List Nat) (k : Nat) : (l.take k).sum ≤ l.sum := by
  conv => rhs; rw [← List.take_append_drop k l, List.sum_append]
  omega
theorem sum_take_succ {l : List Nat} {k : Nat} (h : k < l.length) : (l.take (k + 1)).sum = (l.take k).sum + l[k] := by
  rw [← List.take_append_getElem h, List.sum_append]; simp
set_option maxRecDepth 100000 in
set_option maxHeartbeats 1000000 in
theorem heavy_any (w : World) (ao : Option Addr) (n c : Nat) (Ls : List (List Int)) (hn : n = Ls.length) (h : IRow w ao c Ls) (hl : ∀ l ∈ Ls, l.length ≤ 17592186044416) (hnn : n ≤ 17592186044416) (mo : Nat) (hmo : mo ≤ 1000000) :
    Calls Try.prog 10 #[.slice ao n c, .int .i64 (mo : Int)] w fun e w' => e = .returned (.bool (decide (mo < bulkP Ls))) ∧ w' = w := by
  obtain ⟨R, hR⟩ : ∃ R, R = decide (mo < bulkP Ls) := ⟨_, rfl⟩
  rw [← hR]
  have HR : Hid (R = decide (mo < bulkP Ls)) := hR
  have HN : Hid (n = Ls.length) := hn
  have HI : Hid (IRow w ao c Ls) := h
  have HL : Hid (∀ l ∈ Ls, l.length ≤ 17592186044416) := hl
  clear hR hn h hl
  go_enter Try.func10, Try.ntmps10
  go_wp2_with fail
  go_loopg [5, 6] n (fun q sv iv wr => ∃ k s : Nat, k ≤ n ∧ q = n - k ∧ s ≤ 35184372088832 ∧ sv = .int .i64 (s : Int) ∧ iv = .int .i64 (k : Int) ∧ wr = w ∧ Hid (s = n + ((Ls.map List.length).take k).sum))
  case atStart => exact ⟨0, n, by omega, by omega, by omega, rfl, rfl, rfl, by show _ = _; simp⟩
  case round =>
    obtain ⟨k, s, hk, rfl, hs, rfl, rfl, rfl, HS⟩ := hrel
    by_cases hlt : k < n
    · by_cases hm : s ≤ mo
      · have hkL : k < Ls.length := by have := HN.out; omega
        obtain ⟨b, o, a', c', rfl, hc, hI⟩ := HI.out.at hkL
        obtain ⟨m, hmm⟩ : ∃ m, m = Ls[k].length := ⟨_, rfl⟩
        rw [← hmm] at hc
        have hml : m ≤ 17592186044416 := by rw [hmm]; exact HL.out _ (List.getElem_mem hkL)
        have HS2 : Hid (s + m = n + ((Ls.map List.length).take (k + 1)).sum) := by
          show _ = _
          rw [sum_take_succ (by simpa using hkL), HS.out, hmm]
          simp; omega
        have q1 : decide ((k : Int) < (n : Int)) = true := by simp; omega
        have q2 : decide ((s : Int) ≤ (mo : Int)) = true := by simp; omega
        clear hI hmm
        go_wp2_with fail
        go_roundg (n - (k + 1))
        case rel => exact ⟨k + 1, s + m, by omega, rfl, by omega, by go_num, by go_num, by first | rfl | trivial, HS2.out⟩
        case measure => omega
      · have ht : R = true := by
          rw [HR.out]
          refine decide_eq_true ?_
          have := HS.out
          have := sum_take_le (Ls.map List.length) k
          have := HN.out
          unfold bulkP
          omega
        subst ht
        have q1 : decide ((k : Int) < (n : Int)) = true := by simp; omega
        have q2 : decide ((s : Int) ≤ (mo : Int)) = false := by simp; omega
        have q3 : decide ((mo : Int) < (s : Int)) = true := by simp; omega
        go_wp2_with fail
        try rw [Exit.noGoto_ret]
        go_ret
        exact ⟨by simp [Array.getD]; try omega, rfl⟩
    · have ht : R = decide (mo < s) := by
        rw [HR.out, HS.out, List.take_of_length_le (by have := HN.out; simp; omega)]
        unfold bulkP
        rw [← HN.out]
      have q1 : decide ((k : Int) < (n : Int)) = false := by simp; omega
      have HT : Hid (R = decide (mo < s)) := ht
      clear ht HR
      go_wp2_with fail
      try rw [Exit.noGoto_ret]
      go_ret
      exact ⟨by simp [Array.getD, HT.out], rfl⟩
end Go.Proofs.Ytplpgeocidllfaa
