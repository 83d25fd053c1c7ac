import Derived.Test.YtfbkopjncmkbiaaGreatDoorSrZt
set_option linter.unusedVariables false
set_option linter.unusedSimpArgs false
namespace Go.Proofs.YtfbkopjncmkbiaaGreatDoor
open Go.ChangeShapes Go.WideShapes Go.ChangeAt Go.RowKit Go.Maps

def tuX (a b m : Int) (B : Nat) : List Obj := [.cells #[.int .i64 0, .int .i64 6] 3, .cells #[.int .i64 1, .int .i64 5] 3, .cells #[.int .i64 2, .int .i64 10] 3, .cells #[.int .i64 7, .int .i64 4] 3, .cells #[.int .i64 5] 3, .cells #[.int .i64 7, .int .i64 3] 3, .cells #[.int .i64 1, .int .i64 1, .int .i64 a, .slice none 0 0, .int .i64 1, .int .i64 1, .int .i64 b, .slice none 0 0, .int .i64 1, .int .i64 1, .int .i64 0, .slice none 0 0, .int .i64 1, .int .i64 1, .int .i64 1, .slice none 0 0, .int .i64 1, .int .i64 1, .int .i64 m, .slice none 0 0, .int .i64 32, .int .i64 1, .int .i64 0, .slice (some ⟨B + 0, 0, none⟩) 2 2, .int .i64 32, .int .i64 1, .int .i64 0, .slice (some ⟨B + 1, 0, none⟩) 2 2, .int .i64 32, .int .i64 1, .int .i64 0, .slice (some ⟨B + 2, 0, none⟩) 2 2, .int .i64 15, .int .i64 2, .int .i64 0, .slice (some ⟨B + 3, 0, none⟩) 2 2, .int .i64 26, .int .i64 0, .int .i64 0, .slice (some ⟨B + 4, 0, none⟩) 1 1, .int .i64 2, .int .i64 1, .int .i64 0, .slice (some ⟨B + 5, 0, none⟩) 2 2] 45, .cells #[.int .i64 0, .int .i64 1, .int .i64 2, .int .i64 3, .int .i64 4] 3, .cells #[.int .i64 1] 3, .cells #[.int .i64 5, .int .i64 6, .int .i64 7] 3, .cells #[.int .i64 8] 3, .cells #[.int .i64 2, .int .i64 3] 3, .cells #[.int .i64 0, .int .i64 2] 3, .cells #[.int .i64 9, .int .i64 10] 3, .cells #[.int .i64 1] 3, .cells #[.int .i64 1] 3, .cells #[.int .i64 1] 3, .cells #[.slice none 0 0, .slice (some ⟨B + 7, 0, none⟩) 5 5, .int .i64 1, .int .i64 (-1), .slice (some ⟨B + 8, 0, none⟩) 1 1, .slice none 0 0, .slice (some ⟨B + 9, 0, none⟩) 3 3, .slice (some ⟨B + 10, 0, none⟩) 1 1, .int .i64 2, .int .i64 8, .slice (some ⟨B + 11, 0, none⟩) 2 2, .slice (some ⟨B + 12, 0, none⟩) 2 2, .slice none 0 0, .slice (some ⟨B + 13, 0, none⟩) 2 2, .int .i64 1, .int .i64 (-1), .slice (some ⟨B + 14, 0, none⟩) 1 1, .slice (some ⟨B + 15, 0, none⟩) 1 1, .slice none 0 0, .slice none 0 0, .int .i64 3, .int .i64 (-1), .slice none 0 0, .slice (some ⟨B + 16, 0, none⟩) 1 1] 50, .cells #[.string ⟨#[109, 97, 105, 110]⟩, .slice none 0 0, .int .i64 0, .slice (some ⟨B + 6, 0, none⟩) 11 11, .slice (some ⟨B + 17, 0, none⟩) 4 4] 53, .cells #[.string ⟨#[109, 97, 105, 110]⟩, .slice none 0 0, .int .i64 0, .slice (some ⟨B + 6, 0, none⟩) 11 11, .slice (some ⟨B + 17, 0, none⟩) 4 4] 53]
set_option maxRecDepth 100000 in
theorem tu_fus (a b m : Int) (w : World) : Fus (al w (tuX a b m w.heap.size)) (some ⟨w.heap.size + 19, 0, none⟩) 1 [(tuF a b m)] := by
  have hx : ∀ i (h : i < (tuX a b m w.heap.size).length), (al w (tuX a b m w.heap.size)).heap[w.heap.size + i]? = some (tuX a b m w.heap.size)[i] := fun i h => al_at _ w i h
  obtain ⟨B, hB⟩ : ∃ B, B = w.heap.size := ⟨_, rfl⟩
  obtain ⟨W, hW⟩ : ∃ W, W = al w (tuX a b m w.heap.size) := ⟨_, rfl⟩
  rw [← hW] at hx ⊢
  rw [← hB] at hx ⊢
  clear hW hB
  have h0 := hx 0 (by simp [tuX])
  have h1 := hx 1 (by simp [tuX])
  have h2 := hx 2 (by simp [tuX])
  have h3 := hx 3 (by simp [tuX])
  have h4 := hx 4 (by simp [tuX])
  have h5 := hx 5 (by simp [tuX])
  have h6 := hx 6 (by simp [tuX])
  have h7 := hx 7 (by simp [tuX])
  have h8 := hx 8 (by simp [tuX])
  have h9 := hx 9 (by simp [tuX])
  have h10 := hx 10 (by simp [tuX])
  have h11 := hx 11 (by simp [tuX])
  have h12 := hx 12 (by simp [tuX])
  have h13 := hx 13 (by simp [tuX])
  have h14 := hx 14 (by simp [tuX])
  have h15 := hx 15 (by simp [tuX])
  have h16 := hx 16 (by simp [tuX])
  have h17 := hx 17 (by simp [tuX])
  have h18 := hx 18 (by simp [tuX])
  have h19 := hx 19 (by simp [tuX])
  have hl : ∀ j : Nat, j < 20 → B + j < W.heap.size := fun j hj => (Array.getElem?_eq_some_iff.1 (hx j (by simpa [tuX] using hj))).1
  clear hx
  have i0 : Ints W (some ⟨B + 0, 0, none⟩) 2 [0, 6] := ints_exact (L := [0, 6]) h0 (by decide)
  have i1 : Ints W (some ⟨B + 1, 0, none⟩) 2 [1, 5] := ints_exact (L := [1, 5]) h1 (by decide)
  have i2 : Ints W (some ⟨B + 2, 0, none⟩) 2 [2, 10] := ints_exact (L := [2, 10]) h2 (by decide)
  have i3 : Ints W (some ⟨B + 3, 0, none⟩) 2 [7, 4] := ints_exact (L := [7, 4]) h3 (by decide)
  have i4 : Ints W (some ⟨B + 4, 0, none⟩) 1 [5] := ints_exact (L := [5]) h4 (by decide)
  have i5 : Ints W (some ⟨B + 5, 0, none⟩) 2 [7, 3] := ints_exact (L := [7, 3]) h5 (by decide)
  have i7 : Ints W (some ⟨B + 7, 0, none⟩) 5 [0, 1, 2, 3, 4] := ints_exact (L := [0, 1, 2, 3, 4]) h7 (by decide)
  have i8 : Ints W (some ⟨B + 8, 0, none⟩) 1 [1] := ints_exact (L := [1]) h8 (by decide)
  have i9 : Ints W (some ⟨B + 9, 0, none⟩) 3 [5, 6, 7] := ints_exact (L := [5, 6, 7]) h9 (by decide)
  have i10 : Ints W (some ⟨B + 10, 0, none⟩) 1 [8] := ints_exact (L := [8]) h10 (by decide)
  have i11 : Ints W (some ⟨B + 11, 0, none⟩) 2 [2, 3] := ints_exact (L := [2, 3]) h11 (by decide)
  have i12 : Ints W (some ⟨B + 12, 0, none⟩) 2 [0, 2] := ints_exact (L := [0, 2]) h12 (by decide)
  have i13 : Ints W (some ⟨B + 13, 0, none⟩) 2 [9, 10] := ints_exact (L := [9, 10]) h13 (by decide)
  have i14 : Ints W (some ⟨B + 14, 0, none⟩) 1 [1] := ints_exact (L := [1]) h14 (by decide)
  have i15 : Ints W (some ⟨B + 15, 0, none⟩) 1 [1] := ints_exact (L := [1]) h15 (by decide)
  have i16 : Ints W (some ⟨B + 16, 0, none⟩) 1 [1] := ints_exact (L := [1]) h16 (by decide)
  have hv0 : Vls W (some ⟨B + 6, 0, none⟩) 11 (tuF a b m).vals := by
    refine ⟨Nat.le_of_ble_eq_true (by kernel_rfl), by decide, fun _ => ⟨B + 6, 0, rfl, hl 6 (by omega), fun i hi => ?_⟩⟩
    match i, hi with
    | 0, _ => exact ⟨none, 0, cell_arr (i := 0) h6 rfl, cell_arr (i := 1) h6 rfl, cell_arr (i := 2) h6 rfl, cell_arr (i := 3) h6 rfl, (ints_none W)⟩
    | 1, _ => exact ⟨none, 0, cell_arr (i := 4) h6 rfl, cell_arr (i := 5) h6 rfl, cell_arr (i := 6) h6 rfl, cell_arr (i := 7) h6 rfl, (ints_none W)⟩
    | 2, _ => exact ⟨none, 0, cell_arr (i := 8) h6 rfl, cell_arr (i := 9) h6 rfl, cell_arr (i := 10) h6 rfl, cell_arr (i := 11) h6 rfl, (ints_none W)⟩
    | 3, _ => exact ⟨none, 0, cell_arr (i := 12) h6 rfl, cell_arr (i := 13) h6 rfl, cell_arr (i := 14) h6 rfl, cell_arr (i := 15) h6 rfl, (ints_none W)⟩
    | 4, _ => exact ⟨none, 0, cell_arr (i := 16) h6 rfl, cell_arr (i := 17) h6 rfl, cell_arr (i := 18) h6 rfl, cell_arr (i := 19) h6 rfl, (ints_none W)⟩
    | 5, _ => exact ⟨some ⟨B + 0, 0, none⟩, 2, cell_arr (i := 20) h6 rfl, cell_arr (i := 21) h6 rfl, cell_arr (i := 22) h6 rfl, cell_arr (i := 23) h6 rfl, i0⟩
    | 6, _ => exact ⟨some ⟨B + 1, 0, none⟩, 2, cell_arr (i := 24) h6 rfl, cell_arr (i := 25) h6 rfl, cell_arr (i := 26) h6 rfl, cell_arr (i := 27) h6 rfl, i1⟩
    | 7, _ => exact ⟨some ⟨B + 2, 0, none⟩, 2, cell_arr (i := 28) h6 rfl, cell_arr (i := 29) h6 rfl, cell_arr (i := 30) h6 rfl, cell_arr (i := 31) h6 rfl, i2⟩
    | 8, _ => exact ⟨some ⟨B + 3, 0, none⟩, 2, cell_arr (i := 32) h6 rfl, cell_arr (i := 33) h6 rfl, cell_arr (i := 34) h6 rfl, cell_arr (i := 35) h6 rfl, i3⟩
    | 9, _ => exact ⟨some ⟨B + 4, 0, none⟩, 1, cell_arr (i := 36) h6 rfl, cell_arr (i := 37) h6 rfl, cell_arr (i := 38) h6 rfl, cell_arr (i := 39) h6 rfl, i4⟩
    | 10, _ => exact ⟨some ⟨B + 5, 0, none⟩, 2, cell_arr (i := 40) h6 rfl, cell_arr (i := 41) h6 rfl, cell_arr (i := 42) h6 rfl, cell_arr (i := 43) h6 rfl, i5⟩
  have hk0 : Bks W (some ⟨B + 17, 0, none⟩) 4 (tuF a b m).blks := by
    refine ⟨Nat.le_of_ble_eq_true (by kernel_rfl), by decide, fun _ => ⟨B + 17, 0, rfl, hl 17 (by omega), fun i hi => ?_⟩⟩
    match i, hi with
    | 0, _ => exact ⟨none, 0, some ⟨B + 7, 0, none⟩, 5, some ⟨B + 8, 0, none⟩, 1, none, 0, cell_arr (i := 0) h17 rfl, cell_arr (i := 1) h17 rfl, cell_arr (i := 2) h17 rfl, cell_arr (i := 3) h17 rfl, cell_arr (i := 4) h17 rfl, cell_arr (i := 5) h17 rfl, (ints_none W), i7, i8, (ints_none W)⟩
    | 1, _ => exact ⟨some ⟨B + 9, 0, none⟩, 3, some ⟨B + 10, 0, none⟩, 1, some ⟨B + 11, 0, none⟩, 2, some ⟨B + 12, 0, none⟩, 2, cell_arr (i := 6) h17 rfl, cell_arr (i := 7) h17 rfl, cell_arr (i := 8) h17 rfl, cell_arr (i := 9) h17 rfl, cell_arr (i := 10) h17 rfl, cell_arr (i := 11) h17 rfl, i9, i10, i11, i12⟩
    | 2, _ => exact ⟨none, 0, some ⟨B + 13, 0, none⟩, 2, some ⟨B + 14, 0, none⟩, 1, some ⟨B + 15, 0, none⟩, 1, cell_arr (i := 12) h17 rfl, cell_arr (i := 13) h17 rfl, cell_arr (i := 14) h17 rfl, cell_arr (i := 15) h17 rfl, cell_arr (i := 16) h17 rfl, cell_arr (i := 17) h17 rfl, (ints_none W), i13, i14, i15⟩
    | 3, _ => exact ⟨none, 0, none, 0, none, 0, some ⟨B + 16, 0, none⟩, 1, cell_arr (i := 18) h17 rfl, cell_arr (i := 19) h17 rfl, cell_arr (i := 20) h17 rfl, cell_arr (i := 21) h17 rfl, cell_arr (i := 22) h17 rfl, cell_arr (i := 23) h17 rfl, (ints_none W), (ints_none W), (ints_none W), i16⟩
  refine ⟨Nat.le_of_ble_eq_true (by kernel_rfl), by decide, fun _ => ⟨B + 19, 0, rfl, hl 19 (by omega), fun i hi => ?_⟩⟩
  match i, hi with
  | 0, _ => exact ⟨none, 0, some ⟨B + 6, 0, none⟩, 11, some ⟨B + 17, 0, none⟩, 4, cell_arr (i := 0) h19 rfl, cell_arr (i := 1) h19 rfl, cell_arr (i := 2) h19 rfl, cell_arr (i := 3) h19 rfl, cell_arr (i := 4) h19 rfl, (ints_none W), hv0, hk0⟩
theorem tu_new (a b m : Int) (w : World) (hTab : Tab w) : Calls Tryz.prog 11 #[.agg #[.slice (some ⟨w.heap.size + 19, 0, none⟩) 1 1, .int .i64 0], .slice none 0 0] (al w (tuX a b m w.heap.size)) fun e w' => ∃ mb s d, s.mb = mb ∧ e = .returned (.tuple #[.pointer (some ⟨mb, 0, none⟩), .int .i64 0]) ∧ Mach [tuF a b m] s d w' (tuM 0 0 [] [] [] 0) ∧ Below w.heap.size w w' ∧ ∀ k, foot s d k → w.heap.size ≤ k := by
  have bl := al_below (tuX a b m w.heap.size) w
  refine (mNew_yes _ (hTab.below bl hTab.1) (n := 0) (FS := [tuF a b m]) rfl (tu_fus a b m w) (by show 1 ≤ 1000000; decide) (tu_few a b m) (tu_fewC a b m) (tu_few10 a b m) (tu_check a b m) (tuF a b m) rfl (ints_none _) rfl (by decide) (tuM 0 0 [] [] [] 0) (tu_begin a b m)).mono ?_
  intro e w' q
  obtain ⟨s, d, q1, q2, q3, q4, q5⟩ := q.out
  have := bl.size
  exact ⟨s.mb, s, d, rfl, q1, q2, bl.trans (q3.mono this), fun k hk => Nat.le_trans this (q5 k hk)⟩
theorem tu_run (a b : Int) (n : Nat) (hn : n ≤ 300) {s d w} (h : Mach [tuF a b (n : Int)] s d w (tuM 0 0 [] [] [] 0)) : Calls Tryz.prog 13 #[.pointer (some ⟨s.mb, 0, none⟩), .int .i64 ((10000 : Nat) : Int)] w fun e w' => ∃ ao c, e = .returned (.tuple #[.agg #[.slice ao n c, .int .i64 1, .int .i64 0, .int .i64 0, .int .i64 (12 + 8 * (n : Int)), .int .i64 0, .int .i64 1], .int .i64 0]) ∧ Evs w' ao c (evl (alt a b n)) ∧ Only (foot s d) w w' := by
  obtain ⟨N, Q, hQ0, hQN, hQ⟩ := tu_all a b n hn
  refine (mRun_any (tu_few10 a b n) h.stp (fuel := 10000) (N := 12 + 8 * n) (by omega) Q hQ0 hQ (by rw [hQN]; exact tu_over _ _ _ _ _ _) (MF := Q (12 + 8 * n)) (by rw [if_pos (by omega)]; exact hQN)).mono ?_
  rintro e w' ⟨v, d', B, rfl, _, _, hf, _, hR⟩
  rw [hQN] at hR ⊢
  have hR2 : Row w' B 55 2 v ((evl (alt a b n)).map evc) := hR
  obtain ⟨ao, c, rfl, hE⟩ := evs_of hR2
  refine ⟨ao, c, ?_, hE, hf.only⟩
  have e1 : (evl (alt a b n)).length = n := by simp [evl, alt_len]
  rw [e1]
  rfl
set_option maxRecDepth 100000 in
set_option maxHeartbeats 4000000 in
theorem turns_any (w : World) (hTab : Tab w) (a b m : Int) : Calls Tryz.prog 6 #[.int .i64 a, .int .i64 b, .int .i64 m] w fun e w' => e = .returned (.bool true) ∧ Below w.heap.size w w' := by
  have HAL : Hid _ := alive10_any w hTab
  have HT : Hid (Tab w) := hTab
  clear hTab
  by_cases hm : m < 0 ∨ 300 < m
  · by_cases h0 : m < 0
    · have q0 : decide (m < 0) = true := decide_eq_true h0
      clear hm
      go_enter Tryz.func6, Tryz.ntmps6
      go_upto_region 2 with (go_at_call 9; refine Calls.mono HAL.out ?_; rintro e wL ⟨rfl, bL⟩)
      go_wp2_with fail
      go_ret
      exact ⟨rfl, bL⟩
    · have q0 : decide (m < 0) = false := decide_eq_false h0
      have q1 : decide (300 < m) = true := decide_eq_true (by omega)
      clear hm
      go_enter Tryz.func6, Tryz.ntmps6
      go_upto_region 2 with (go_at_call 9; refine Calls.mono HAL.out ?_; rintro e wL ⟨rfl, bL⟩)
      go_wp2_with fail
      go_ret
      exact ⟨rfl, bL⟩
  obtain ⟨n, rfl⟩ : ∃ n : Nat, m = (n : Int) := ⟨m.toNat, by omega⟩
  have hn : n ≤ 300 := by omega
  clear hm
  have HNW : Hid (∀ W, Below w.heap.size w W → Calls Tryz.prog 11 #[.agg #[.slice (some ⟨W.heap.size + 19, 0, none⟩) 1 1, .int .i64 0], .slice none 0 0] (al W (tuX a b (n : Int) W.heap.size)) fun e w' => ∃ mb s d, s.mb = mb ∧ e = .returned (.tuple #[.pointer (some ⟨mb, 0, none⟩), .int .i64 0]) ∧ Mach [tuF a b (n : Int)] s d w' (tuM 0 0 [] [] [] 0) ∧ Below w.heap.size w w' ∧ ∀ k, foot s d k → w.heap.size ≤ k) := fun W hW => (tu_new a b (n : Int) W (HT.out.below hW HT.out.1)).mono fun e w' q => by
    obtain ⟨mb, s, d, q1, q2, q3, q4, q5⟩ := q
    exact ⟨mb, s, d, q1, q2, q3, hW.trans (q4.mono hW.size), fun k hk => Nat.le_trans hW.size (q5 k hk)⟩
  clear HT
  have q0 : decide ((n : Int) < 0) = false := by simp
  have q1 : decide ((300 : Int) < (n : Int)) = false := by simp; omega
  go_enter Tryz.func6, Tryz.ntmps6
  go_upto_region 2 with (go_at_call 9; refine Calls.mono HAL.out ?_; rintro e wL ⟨rfl, bL⟩)
  go_upto_region 8 with (go_at_call 11; refine (HNW.out wL bL).mono ?_; rintro e wN ⟨mb, s, d, hmb, rfl, hM, bN, hft⟩)
  have HRN : Hid (Calls Tryz.prog 13 #[.pointer (some ⟨mb, 0, none⟩), .int .i64 10000] wN fun e w' => ∃ ao c, e = .returned (.tuple #[.agg #[.slice ao n c, .int .i64 1, .int .i64 0, .int .i64 0, .int .i64 (12 + 8 * (n : Int)), .int .i64 0, .int .i64 1], .int .i64 0]) ∧ Evs w' ao c (evl (alt a b n)) ∧ Below w.heap.size w w') := (hmb ▸ tu_run a b n hn hM).mono fun e w' ⟨ao, c, q1, q2, q3⟩ => ⟨ao, c, q1, q2, bN.trans (q3.below bN.size hft)⟩
  clear HAL HNW bL bN hM hmb hft q0 q1
  go_upto_region 9 with (go_at_call 13; refine Calls.mono HRN.out ?_; rintro e wR ⟨ao, c, rfl, hE, bR⟩)
  obtain ⟨W5, hW5⟩ : ∃ W, W = wR.alloc (.cells #[.slice ao n c, .int .i64 1, .int .i64 0, .int .i64 0, .int .i64 (12 + 8 * (n : Int)), .int .i64 0, .int .i64 1] 35) := ⟨_, rfl⟩
  rw [← hW5]
  have k5 : W5.heap[wR.heap.size]? = some (.cells #[.slice ao n c, .int .i64 1, .int .i64 0, .int .i64 0, .int .i64 (12 + 8 * (n : Int)), .int .i64 0, .int .i64 1] 35 (0, 0)) := by rw [hW5]; exact heap_alloc_new _ _
  have b5 : Below wR.heap.size wR W5 := by rw [hW5]; exact below_new _ _
  have x0 : W5.cell? ⟨wR.heap.size, 0, none⟩ = some (.slice ao n c) := cell_arr k5 rfl
  have x1 : W5.cell? ⟨wR.heap.size, 1, none⟩ = some (.int .i64 1) := cell_arr k5 rfl
  have x4 : W5.cell? ⟨wR.heap.size, 4, none⟩ = some (.int .i64 (12 + 8 * (n : Int))) := cell_arr k5 rfl
  have hlt5 := (Array.getElem?_eq_some_iff.1 k5).1
  have HE : Hid (Evs W5 ao c (evl (alt a b n))) := hE.belowR b5
  have hEl : (evl (alt a b n)).length = n := by simp [evl, alt_len]
  have hcn : n ≤ c := by have := hE.le; omega
  have hcx : c ≤ 9223372036854775807 := hE.mx
  have HB5 : Hid (Below w.heap.size w W5) := bR.trans (b5.mono bR.size)
  have HX0 : Hid (W5.cell? ⟨wR.heap.size, 0, none⟩ = some (.slice ao n c)) := x0
  have q4 : ((12 + 8 * (n : Int)) != (12 + 8 * (n : Int))) = false := by simp
  have q5 : ((n : Int) != (n : Int)) = false := by simp
  clear hE bR b5 k5 hW5 HRN hEl
  go_wp2_with fail
  clear x0 x1 x4 q4 q5
  have S0 : Hid (Below W5.heap.size W5 W5) := Below.refl _ _
  go_loopg [13] n (fun q iv wq => ∃ t : Nat, t ≤ n ∧ q = n - t ∧ iv = .int .i64 (t : Int) ∧ Hid (Below W5.heap.size W5 wq))
  case atStart => exact ⟨0, by omega, by omega, rfl, S0.out⟩
  case round =>
    clear S0
    obtain ⟨t, ht, rfl, rfl, HQ⟩ := hrel
    by_cases htn : t < n
    · have y0 : wr.cell? ⟨wR.heap.size, 0, none⟩ = some (.slice ao n c) := (HQ.out.cell (p := ⟨wR.heap.size, 0, none⟩) hlt5).trans HX0.out
      obtain ⟨eb, eo, rfl, _, y1, y2⟩ := (HE.out.belowR HQ.out).at (k := t) (by simp [evl, alt_len]; exact htn)
      have e1 : (evl (alt a b n))[t]'(by simp [evl, alt_len]; exact htn) = (1, pA a b t) := by simp [evl, alt_at]
      rw [e1] at y1 y2
      simp only at y1 y2
      clear e1
      rcases Nat.mod_two_eq_zero_or_one t with h2 | h2
      · have e2 : pA a b t = a := by unfold pA; rw [if_pos h2]
        rw [e2] at y2
        have q6 : (a != a) = false := by simp
        have q8 : Int.tmod (t : Int) 2 = 0 := by rw [Int.tmod_eq_emod_of_nonneg (by omega)]; omega
        clear e2 h2
        go_wp2_with fail
        go_roundg (n - (t + 1))
        case rel => exact ⟨t + 1, by omega, rfl, by go_num, HQ.out⟩
        case measure => omega
      · have e2 : pA a b t = b := by unfold pA; rw [if_neg (by omega)]
        rw [e2] at y2
        have q6 : (b != b) = false := by simp
        have q8 : Int.tmod (t : Int) 2 = 1 := by rw [Int.tmod_eq_emod_of_nonneg (by omega)]; omega
        clear e2 h2
        go_wp2_with fail
        go_roundg (n - (t + 1))
        case rel => exact ⟨t + 1, by omega, rfl, by go_num, HQ.out⟩
        case measure => omega
    · go_wp2_with fail
      try rw [Exit.noGoto_ret]
      go_ret
      exact ⟨rfl, HB5.out.trans (HQ.out.mono HB5.out.size)⟩
end Go.Proofs.YtfbkopjncmkbiaaGreatDoor
