import Derived.Test.YtfbkopjncmkbiaaGreatDoorSrZv
set_option linter.unusedVariables false
set_option linter.unusedSimpArgs false
namespace Go.Proofs.YtfbkopjncmkbiaaGreatDoor
open Go.ChangeShapes Go.WideShapes Go.ChangeAt Go.RowKit Go.Maps

def deX (m : Int) (B : Nat) : List Obj := [.cells #[.int .i64 0] 3, .cells #[.int .i64 0, .int .i64 1] 3, .cells #[.int .i64 0, .int .i64 1] 3, .cells #[.int .i64 3] 3, .cells #[.int .i64 4, .int .i64 1] 3, .cells #[.int .i64 33, .int .i64 1, .int .i64 0, .slice none 0 0, .int .i64 1, .int .i64 1, .int .i64 1, .slice none 0 0, .int .i64 15, .int .i64 2, .int .i64 0, .slice (some ⟨B + 1, 0, none⟩) 2 2, .int .i64 3, .int .i64 1, .int .i64 0, .slice (some ⟨B + 2, 0, none⟩) 2 2, .int .i64 25, .int .i64 1, .int .i64 0, .slice (some ⟨B + 3, 0, none⟩) 1 1, .int .i64 2, .int .i64 1, .int .i64 0, .slice (some ⟨B + 4, 0, none⟩) 2 2] 45, .cells #[.int .i64 1, .int .i64 2] 3, .cells #[.int .i64 1, .int .i64 2] 3, .cells #[.int .i64 0] 3, .cells #[.int .i64 3, .int .i64 4, .int .i64 5] 3, .cells #[.int .i64 0] 3, .cells #[.slice none 0 0, .slice (some ⟨B + 6, 0, none⟩) 2 2, .int .i64 2, .int .i64 2, .slice (some ⟨B + 7, 0, none⟩) 2 2, .slice none 0 0, .slice none 0 0, .slice none 0 0, .int .i64 3, .int .i64 0, .slice none 0 0, .slice (some ⟨B + 8, 0, none⟩) 1 1, .slice none 0 0, .slice (some ⟨B + 9, 0, none⟩) 3 3, .int .i64 3, .int .i64 5, .slice none 0 0, .slice (some ⟨B + 10, 0, none⟩) 1 1] 50, .cells #[.string ⟨#[102]⟩, .slice (some ⟨B + 0, 0, none⟩) 1 1, .int .i64 1, .slice (some ⟨B + 5, 0, none⟩) 6 6, .slice (some ⟨B + 11, 0, none⟩) 3 3] 53, .cells #[.int .i64 0] 3, .cells #[.int .i64 1] 3, .cells #[.int .i64 1, .int .i64 1, .int .i64 m, .slice none 0 0, .int .i64 25, .int .i64 1, .int .i64 0, .slice (some ⟨B + 13, 0, none⟩) 1 1, .int .i64 26, .int .i64 0, .int .i64 0, .slice (some ⟨B + 14, 0, none⟩) 1 1] 45, .cells #[.int .i64 0, .int .i64 1, .int .i64 2] 3, .cells #[.slice none 0 0, .slice (some ⟨B + 16, 0, none⟩) 3 3, .int .i64 3, .int .i64 (-1), .slice none 0 0, .slice none 0 0] 50, .cells #[.string ⟨#[109, 97, 105, 110]⟩, .slice none 0 0, .int .i64 0, .slice (some ⟨B + 15, 0, none⟩) 3 3, .slice (some ⟨B + 17, 0, none⟩) 1 1] 53, .cells #[.string ⟨#[102]⟩, .slice (some ⟨B + 0, 0, none⟩) 1 1, .int .i64 1, .slice (some ⟨B + 5, 0, none⟩) 6 6, .slice (some ⟨B + 11, 0, none⟩) 3 3, .string ⟨#[109, 97, 105, 110]⟩, .slice none 0 0, .int .i64 0, .slice (some ⟨B + 15, 0, none⟩) 3 3, .slice (some ⟨B + 17, 0, none⟩) 1 1] 53]
set_option maxRecDepth 100000 in
theorem de_fus (m : Int) (w : World) : Fus (al w (deX m w.heap.size)) (some ⟨w.heap.size + 19, 0, none⟩) 2 [(deF0 m), (deF1 m)] := by
  have hx : ∀ i (h : i < (deX m w.heap.size).length), (al w (deX m w.heap.size)).heap[w.heap.size + i]? = some (deX m w.heap.size)[i] := fun i h => al_at _ w i h
  obtain ⟨B, hB⟩ : ∃ B, B = w.heap.size := ⟨_, rfl⟩
  obtain ⟨W, hW⟩ : ∃ W, W = al w (deX m w.heap.size) := ⟨_, rfl⟩
  rw [← hW] at hx ⊢
  rw [← hB] at hx ⊢
  clear hW hB
  have h0 := hx 0 (by simp [deX])
  have h1 := hx 1 (by simp [deX])
  have h2 := hx 2 (by simp [deX])
  have h3 := hx 3 (by simp [deX])
  have h4 := hx 4 (by simp [deX])
  have h5 := hx 5 (by simp [deX])
  have h6 := hx 6 (by simp [deX])
  have h7 := hx 7 (by simp [deX])
  have h8 := hx 8 (by simp [deX])
  have h9 := hx 9 (by simp [deX])
  have h10 := hx 10 (by simp [deX])
  have h11 := hx 11 (by simp [deX])
  have h12 := hx 12 (by simp [deX])
  have h13 := hx 13 (by simp [deX])
  have h14 := hx 14 (by simp [deX])
  have h15 := hx 15 (by simp [deX])
  have h16 := hx 16 (by simp [deX])
  have h17 := hx 17 (by simp [deX])
  have h18 := hx 18 (by simp [deX])
  have h19 := hx 19 (by simp [deX])
  have hl : ∀ j : Nat, j < 20 → B + j < W.heap.size := fun j hj => (Array.getElem?_eq_some_iff.1 (hx j (by simpa [deX] using hj))).1
  clear hx
  have i0 : Ints W (some ⟨B + 0, 0, none⟩) 1 [0] := ints_exact (L := [0]) h0 (by decide)
  have i1 : Ints W (some ⟨B + 1, 0, none⟩) 2 [0, 1] := ints_exact (L := [0, 1]) h1 (by decide)
  have i2 : Ints W (some ⟨B + 2, 0, none⟩) 2 [0, 1] := ints_exact (L := [0, 1]) h2 (by decide)
  have i3 : Ints W (some ⟨B + 3, 0, none⟩) 1 [3] := ints_exact (L := [3]) h3 (by decide)
  have i4 : Ints W (some ⟨B + 4, 0, none⟩) 2 [4, 1] := ints_exact (L := [4, 1]) h4 (by decide)
  have i6 : Ints W (some ⟨B + 6, 0, none⟩) 2 [1, 2] := ints_exact (L := [1, 2]) h6 (by decide)
  have i7 : Ints W (some ⟨B + 7, 0, none⟩) 2 [1, 2] := ints_exact (L := [1, 2]) h7 (by decide)
  have i8 : Ints W (some ⟨B + 8, 0, none⟩) 1 [0] := ints_exact (L := [0]) h8 (by decide)
  have i9 : Ints W (some ⟨B + 9, 0, none⟩) 3 [3, 4, 5] := ints_exact (L := [3, 4, 5]) h9 (by decide)
  have i10 : Ints W (some ⟨B + 10, 0, none⟩) 1 [0] := ints_exact (L := [0]) h10 (by decide)
  have i13 : Ints W (some ⟨B + 13, 0, none⟩) 1 [0] := ints_exact (L := [0]) h13 (by decide)
  have i14 : Ints W (some ⟨B + 14, 0, none⟩) 1 [1] := ints_exact (L := [1]) h14 (by decide)
  have i16 : Ints W (some ⟨B + 16, 0, none⟩) 3 [0, 1, 2] := ints_exact (L := [0, 1, 2]) h16 (by decide)
  have hv0 : Vls W (some ⟨B + 5, 0, none⟩) 6 (deF0 m).vals := by
    refine ⟨Nat.le_of_ble_eq_true (by kernel_rfl), by decide, fun _ => ⟨B + 5, 0, rfl, hl 5 (by omega), fun i hi => ?_⟩⟩
    match i, hi with
    | 0, _ => exact ⟨none, 0, cell_arr (i := 0) h5 rfl, cell_arr (i := 1) h5 rfl, cell_arr (i := 2) h5 rfl, cell_arr (i := 3) h5 rfl, (ints_none W)⟩
    | 1, _ => exact ⟨none, 0, cell_arr (i := 4) h5 rfl, cell_arr (i := 5) h5 rfl, cell_arr (i := 6) h5 rfl, cell_arr (i := 7) h5 rfl, (ints_none W)⟩
    | 2, _ => exact ⟨some ⟨B + 1, 0, none⟩, 2, cell_arr (i := 8) h5 rfl, cell_arr (i := 9) h5 rfl, cell_arr (i := 10) h5 rfl, cell_arr (i := 11) h5 rfl, i1⟩
    | 3, _ => exact ⟨some ⟨B + 2, 0, none⟩, 2, cell_arr (i := 12) h5 rfl, cell_arr (i := 13) h5 rfl, cell_arr (i := 14) h5 rfl, cell_arr (i := 15) h5 rfl, i2⟩
    | 4, _ => exact ⟨some ⟨B + 3, 0, none⟩, 1, cell_arr (i := 16) h5 rfl, cell_arr (i := 17) h5 rfl, cell_arr (i := 18) h5 rfl, cell_arr (i := 19) h5 rfl, i3⟩
    | 5, _ => exact ⟨some ⟨B + 4, 0, none⟩, 2, cell_arr (i := 20) h5 rfl, cell_arr (i := 21) h5 rfl, cell_arr (i := 22) h5 rfl, cell_arr (i := 23) h5 rfl, i4⟩
  have hk0 : Bks W (some ⟨B + 11, 0, none⟩) 3 (deF0 m).blks := by
    refine ⟨Nat.le_of_ble_eq_true (by kernel_rfl), by decide, fun _ => ⟨B + 11, 0, rfl, hl 11 (by omega), fun i hi => ?_⟩⟩
    match i, hi with
    | 0, _ => exact ⟨none, 0, some ⟨B + 6, 0, none⟩, 2, some ⟨B + 7, 0, none⟩, 2, none, 0, cell_arr (i := 0) h11 rfl, cell_arr (i := 1) h11 rfl, cell_arr (i := 2) h11 rfl, cell_arr (i := 3) h11 rfl, cell_arr (i := 4) h11 rfl, cell_arr (i := 5) h11 rfl, (ints_none W), i6, i7, (ints_none W)⟩
    | 1, _ => exact ⟨none, 0, none, 0, none, 0, some ⟨B + 8, 0, none⟩, 1, cell_arr (i := 6) h11 rfl, cell_arr (i := 7) h11 rfl, cell_arr (i := 8) h11 rfl, cell_arr (i := 9) h11 rfl, cell_arr (i := 10) h11 rfl, cell_arr (i := 11) h11 rfl, (ints_none W), (ints_none W), (ints_none W), i8⟩
    | 2, _ => exact ⟨none, 0, some ⟨B + 9, 0, none⟩, 3, none, 0, some ⟨B + 10, 0, none⟩, 1, cell_arr (i := 12) h11 rfl, cell_arr (i := 13) h11 rfl, cell_arr (i := 14) h11 rfl, cell_arr (i := 15) h11 rfl, cell_arr (i := 16) h11 rfl, cell_arr (i := 17) h11 rfl, (ints_none W), i9, (ints_none W), i10⟩
  have hv1 : Vls W (some ⟨B + 15, 0, none⟩) 3 (deF1 m).vals := by
    refine ⟨Nat.le_of_ble_eq_true (by kernel_rfl), by decide, fun _ => ⟨B + 15, 0, rfl, hl 15 (by omega), fun i hi => ?_⟩⟩
    match i, hi with
    | 0, _ => exact ⟨none, 0, cell_arr (i := 0) h15 rfl, cell_arr (i := 1) h15 rfl, cell_arr (i := 2) h15 rfl, cell_arr (i := 3) h15 rfl, (ints_none W)⟩
    | 1, _ => exact ⟨some ⟨B + 13, 0, none⟩, 1, cell_arr (i := 4) h15 rfl, cell_arr (i := 5) h15 rfl, cell_arr (i := 6) h15 rfl, cell_arr (i := 7) h15 rfl, i13⟩
    | 2, _ => exact ⟨some ⟨B + 14, 0, none⟩, 1, cell_arr (i := 8) h15 rfl, cell_arr (i := 9) h15 rfl, cell_arr (i := 10) h15 rfl, cell_arr (i := 11) h15 rfl, i14⟩
  have hk1 : Bks W (some ⟨B + 17, 0, none⟩) 1 (deF1 m).blks := by
    refine ⟨Nat.le_of_ble_eq_true (by kernel_rfl), by decide, fun _ => ⟨B + 17, 0, rfl, hl 17 (by omega), fun i hi => ?_⟩⟩
    match i, hi with
    | 0, _ => exact ⟨none, 0, some ⟨B + 16, 0, none⟩, 3, none, 0, none, 0, cell_arr (i := 0) h17 rfl, cell_arr (i := 1) h17 rfl, cell_arr (i := 2) h17 rfl, cell_arr (i := 3) h17 rfl, cell_arr (i := 4) h17 rfl, cell_arr (i := 5) h17 rfl, (ints_none W), i16, (ints_none W), (ints_none W)⟩
  refine ⟨Nat.le_of_ble_eq_true (by kernel_rfl), by decide, fun _ => ⟨B + 19, 0, rfl, hl 19 (by omega), fun i hi => ?_⟩⟩
  match i, hi with
  | 0, _ => exact ⟨some ⟨B + 0, 0, none⟩, 1, some ⟨B + 5, 0, none⟩, 6, some ⟨B + 11, 0, none⟩, 3, cell_arr (i := 0) h19 rfl, cell_arr (i := 1) h19 rfl, cell_arr (i := 2) h19 rfl, cell_arr (i := 3) h19 rfl, cell_arr (i := 4) h19 rfl, i0, hv0, hk0⟩
  | 1, _ => exact ⟨none, 0, some ⟨B + 15, 0, none⟩, 3, some ⟨B + 17, 0, none⟩, 1, cell_arr (i := 5) h19 rfl, cell_arr (i := 6) h19 rfl, cell_arr (i := 7) h19 rfl, cell_arr (i := 8) h19 rfl, cell_arr (i := 9) h19 rfl, (ints_none W), hv1, hk1⟩
theorem de_new (m : Int) (w : World) (hTab : Tab w) : Calls Tryz.prog 11 #[.agg #[.slice (some ⟨w.heap.size + 19, 0, none⟩) 2 2, .int .i64 1], .slice none 0 0] (al w (deX m w.heap.size)) fun e w' => ∃ mb s d, s.mb = mb ∧ e = .returned (.tuple #[.pointer (some ⟨mb, 0, none⟩), .int .i64 0]) ∧ Mach [deF0 m, deF1 m] s d w' (deM 0 [] [] 0 0 1) ∧ Below w.heap.size w w' ∧ ∀ k, foot s d k → w.heap.size ≤ k := by
  have bl := al_below (deX m w.heap.size) w
  refine (mNew_yes _ (hTab.below bl hTab.1) (n := 1) (FS := [deF0 m, deF1 m]) rfl (de_fus m w) (by show 2 ≤ 1000000; decide) (de_few m) (de_fewC m) (de_few10 m) (de_check m) (deF1 m) rfl (ints_none _) rfl (by decide) (deM 0 [] [] 0 0 1) (de_begin m)).mono ?_
  intro e w' q
  obtain ⟨s, d, q1, q2, q3, q4, q5⟩ := q.out
  have := bl.size
  exact ⟨s.mb, s, d, rfl, q1, q2, bl.trans (q3.mono this), fun k hk => Nat.le_trans this (q5 k hk)⟩
theorem de_run (n : Nat) (hn : n ≤ 20000) {s d w} (h : Mach [deF0 (n : Int), deF1 (n : Int)] s d w (deM 0 [] [] 0 0 1)) : Calls Tryz.prog 13 #[.pointer (some ⟨s.mb, 0, none⟩), .int .i64 ((200000 : Nat) : Int)] w fun e w' => ∃ ao c, e = .returned (.tuple #[.agg #[.slice ao 1 c, .int .i64 1, .int .i64 0, .int .i64 0, .int .i64 (8 + 7 * (n : Int)), .int .i64 0, .int .i64 ((n : Int) + 2)], .int .i64 0]) ∧ Evs w' ao c [(1, (n : Int))] ∧ Only (foot s d) w w' := by
  obtain ⟨Q, hQ0, hQN, hQ⟩ := de_all n hn
  refine (mRun_any (de_few10 n) h.stp (fuel := 200000) (N := 8 + 7 * n) (by omega) Q hQ0 hQ (by rw [hQN]; exact de_over _ _ _) (MF := Q (8 + 7 * n)) (by rw [if_pos (by omega)]; exact hQN)).mono ?_
  rintro e w' ⟨v, d', B, rfl, _, _, hf, _, hR⟩
  rw [hQN] at hR ⊢
  have hR2 : Row w' B 55 2 v ([((1 : Int), (n : Int))].map evc) := hR
  obtain ⟨ao, c, rfl, hE⟩ := evs_of hR2
  exact ⟨ao, c, rfl, hE, hf.only⟩
set_option maxRecDepth 100000 in
set_option maxHeartbeats 4000000 in
theorem deep_any (w : World) (hTab : Tab w) (m : Int) : Calls Tryz.prog 5 #[.int .i64 m] w fun e w' => e = .returned (.bool true) ∧ Below w.heap.size w w' := by
  have HAL : Hid _ := alive10_any w hTab
  have HT : Hid (Tab w) := hTab
  clear hTab
  by_cases hm : m < 0 ∨ 20000 < m
  · by_cases h0 : m < 0
    · have q0 : decide (m < 0) = true := decide_eq_true h0
      clear hm
      go_enter Tryz.func5, Tryz.ntmps5
      go_upto_region 2 with (go_at_call 9; refine Calls.mono HAL.out ?_; rintro e wL ⟨rfl, bL⟩)
      go_wp2_with fail
      go_ret
      exact ⟨rfl, bL⟩
    · have q0 : decide (m < 0) = false := decide_eq_false h0
      have q1 : decide (20000 < m) = true := decide_eq_true (by omega)
      clear hm
      go_enter Tryz.func5, Tryz.ntmps5
      go_upto_region 2 with (go_at_call 9; refine Calls.mono HAL.out ?_; rintro e wL ⟨rfl, bL⟩)
      go_wp2_with fail
      go_ret
      exact ⟨rfl, bL⟩
  obtain ⟨n, rfl⟩ : ∃ n : Nat, m = (n : Int) := ⟨m.toNat, by omega⟩
  have hn : n ≤ 20000 := by omega
  clear hm
  have HNW : Hid (∀ W, Below w.heap.size w W → Calls Tryz.prog 11 #[.agg #[.slice (some ⟨W.heap.size + 19, 0, none⟩) 2 2, .int .i64 1], .slice none 0 0] (al W (deX (n : Int) W.heap.size)) fun e w' => ∃ mb s d, s.mb = mb ∧ e = .returned (.tuple #[.pointer (some ⟨mb, 0, none⟩), .int .i64 0]) ∧ Mach [deF0 (n : Int), deF1 (n : Int)] s d w' (deM 0 [] [] 0 0 1) ∧ Below w.heap.size w w' ∧ ∀ k, foot s d k → w.heap.size ≤ k) := fun W hW => (de_new (n : Int) W (HT.out.below hW HT.out.1)).mono fun e w' q => by
    obtain ⟨mb, s, d, q1, q2, q3, q4, q5⟩ := q
    exact ⟨mb, s, d, q1, q2, q3, hW.trans (q4.mono hW.size), fun k hk => Nat.le_trans hW.size (q5 k hk)⟩
  clear HT
  have q0 : decide ((n : Int) < 0) = false := by simp
  have q1 : decide ((20000 : Int) < (n : Int)) = false := by simp; omega
  go_enter Tryz.func5, Tryz.ntmps5
  go_upto_region 2 with (go_at_call 9; refine Calls.mono HAL.out ?_; rintro e wL ⟨rfl, bL⟩)
  go_upto_region 9 with (go_at_call 11; refine (HNW.out wL bL).mono ?_; rintro e wN ⟨mb, s, d, hmb, rfl, hM, bN, hft⟩)
  have HRN : Hid (Calls Tryz.prog 13 #[.pointer (some ⟨mb, 0, none⟩), .int .i64 200000] wN fun e w' => ∃ ao c, e = .returned (.tuple #[.agg #[.slice ao 1 c, .int .i64 1, .int .i64 0, .int .i64 0, .int .i64 (8 + 7 * (n : Int)), .int .i64 0, .int .i64 ((n : Int) + 2)], .int .i64 0]) ∧ Evs w' ao c [(1, (n : Int))] ∧ Below w.heap.size w w') := (hmb ▸ de_run n hn hM).mono fun e w' ⟨ao, c, q1, q2, q3⟩ => ⟨ao, c, q1, q2, bN.trans (q3.below bN.size hft)⟩
  clear HAL HNW bL bN hM hmb hft q0 q1
  go_upto_region 10 with (go_at_call 13; refine Calls.mono HRN.out ?_; rintro e wR ⟨ao, c, rfl, hE, bR⟩)
  obtain ⟨W5, hW5⟩ : ∃ W, W = wR.alloc (.cells #[.slice ao 1 c, .int .i64 1, .int .i64 0, .int .i64 0, .int .i64 (8 + 7 * (n : Int)), .int .i64 0, .int .i64 ((n : Int) + 2)] 35) := ⟨_, rfl⟩
  rw [← hW5]
  have k5 : W5.heap[wR.heap.size]? = some (.cells #[.slice ao 1 c, .int .i64 1, .int .i64 0, .int .i64 0, .int .i64 (8 + 7 * (n : Int)), .int .i64 0, .int .i64 ((n : Int) + 2)] 35 (0, 0)) := by rw [hW5]; exact heap_alloc_new _ _
  have b5 : Below wR.heap.size wR W5 := by rw [hW5]; exact below_new _ _
  have x0 : W5.cell? ⟨wR.heap.size, 0, none⟩ = some (.slice ao 1 c) := cell_arr k5 rfl
  have x1 : W5.cell? ⟨wR.heap.size, 1, none⟩ = some (.int .i64 1) := cell_arr k5 rfl
  have hlt := (Array.getElem?_eq_some_iff.1 k5).1
  have HX : Hid (W5.heap[wR.heap.size]? = some (.cells #[.slice ao 1 c, .int .i64 1, .int .i64 0, .int .i64 0, .int .i64 (8 + 7 * (n : Int)), .int .i64 0, .int .i64 ((n : Int) + 2)] 35 (0, 0))) := k5
  have HSE : Hid (∀ W, W = W5.alloc (.cells #[.int .i64 1, .int .i64 (n : Int)] 55) → Calls Tryz.prog 19 #[.slice ao 1 c, .slice (some ⟨W5.heap.size, 0, none⟩) 1 1] W fun e w' => e = .returned (.bool true) ∧ Below w.heap.size w w' ∧ w'.cell? ⟨wR.heap.size, 6, none⟩ = some (.int .i64 ((n : Int) + 2)) ∧ w'.cell? ⟨wR.heap.size, 4, none⟩ = some (.int .i64 (8 + 7 * (n : Int))) ∧ wR.heap.size < w'.heap.size) := by
    rintro W rfl
    have b6 := below_new W5 (.cells #[.int .i64 1, .int .i64 (n : Int)] 55)
    have k6 := heap_alloc_new W5 (.cells #[.int .i64 1, .int .i64 (n : Int)] 55)
    have b56 := b5.trans (b6.mono b5.size)
    refine (sameE_any _ (hE.belowR b56) (bc := 1) (ba := some ⟨W5.heap.size, 0, none⟩) (evs_one k6) rfl).mono ?_
    rintro e w' ⟨rfl, b7⟩
    have s6 := b6.size
    have b67 : Below W5.heap.size W5 w' := b6.trans (b7.mono s6)
    have k7 := (b67.block _ hlt).trans HX.out
    exact ⟨rfl, (bR.trans (b56.mono bR.size)).trans (b7.mono (Nat.le_trans bR.size b56.size)), cell_arr k7 rfl, cell_arr k7 rfl, (Array.getElem?_eq_some_iff.1 k7).1⟩
  have q4 : ((8 + 7 * (n : Int)) == (8 + 7 * (n : Int))) = true := by simp
  have q5 : (((n : Int) + 2) == ((n : Int) + 2)) = true := by simp
  clear hE bR b5 k5 hW5 HRN HX
  go_wp2_with (go_at_call 19; refine (HSE.out _ rfl).mono ?_; rintro e wS ⟨rfl, bS, x6, x4, hlS⟩)
  go_ret
  exact ⟨rfl, bS⟩
end Go.Proofs.YtfbkopjncmkbiaaGreatDoor
