import Derived.Test.YtdbkjjelaipcfaaDoorSvG
set_option linter.unusedVariables false
set_option linter.unusedSimpArgs false
namespace Go.Proofs.YtdbkjjelaipcfaaDoor
open Go.ChangeShapes Go.WideShapes Go.ChangeAt Go.RowKit Go.Maps

set_option maxRecDepth 100000 in
set_option maxHeartbeats 4000000 in
theorem lim3_zero (w : World) (hTab : Tab w) : Calls Tryd.prog 4 #[.int .i64 3, .int .i64 0] w fun e w' => e = .returned (.bool true) ∧ Below w.heap.size w w' := by
  have HT : Hid (Tab w) := hTab
  have HAL : Hid _ := alive9_any w hTab
  clear hTab
  go_enter Tryd.func4, Tryd.ntmps4
  go_upto_region 5 with (go_at_call 5; refine Calls.mono HAL.out ?_; rintro e w1 ⟨rfl, hb1⟩)
  obtain ⟨B, hB⟩ : ∃ B, B = w1.heap.size := ⟨_, rfl⟩
  have hL := LM.start w1 B hB
  have HB1 : Hid (Below w.heap.size w w1) := hb1
  have HBB : Hid (w1.heap.size ≤ B) := (show w1.heap.size ≤ B from by omega)
  rw [← hB]
  obtain ⟨W0, hW0⟩ : ∃ W0, W0 = (((w1.alloc (.cells #[.slice none 0 0, .slice none 0 0, .int .i64 3, .int .i64 (-1), .slice none 0 0, .slice none 0 0] 33)).alloc (.cells #[.slice none 0 0, .slice none 0 0, .int .i64 3, .int .i64 (-1), .slice none 0 0, .slice none 0 0] 33)).alloc (.cells #[.string ⟨#[109, 97, 105, 110]⟩, .slice none 0 0, .int .i64 0, .slice none 0 0, .slice (some ⟨B, 0, none⟩) 1 1, .string ⟨#[102]⟩, .slice none 0 0, .int .i64 0, .slice none 0 0, .slice (some ⟨B + 1, 0, none⟩) 1 1] 29)).alloc (.cells #[.slice (some ⟨B + 1 + 1, 0, none⟩) 2 2, .int .i64 0] 36) := ⟨_, rfl⟩
  rw [show al w1 [.cells #[.slice none 0 0, .slice none 0 0, .int .i64 3, .int .i64 (-1), .slice none 0 0, .slice none 0 0] 33, .cells #[.slice none 0 0, .slice none 0 0, .int .i64 3, .int .i64 (-1), .slice none 0 0, .slice none 0 0] 33, .cells #[.string ⟨#[109, 97, 105, 110]⟩, .slice none 0 0, .int .i64 0, .slice none 0 0, .slice (some ⟨B, 0, none⟩) 1 1, .string ⟨#[102]⟩, .slice none 0 0, .int .i64 0, .slice none 0 0, .slice (some ⟨B + 1, 0, none⟩) 1 1] 29, .cells #[.slice (some ⟨B + 1 + 1, 0, none⟩) 2 2, .int .i64 0] 36] = W0 from hW0.symm] at hL
  rw [← hW0]
  clear hW0 hB hb1 HAL
  have HL0 : Hid _ := hL
  obtain ⟨c5, c6, c7, c8, c9, cf, d1, d3, df, e0, e1, eb⟩ := hL.cells
  clear hL
  go_upto_region 32 with fail
  have hL1 := HL0.out.result 0
  obtain ⟨W1, hW1⟩ : ∃ W1, W1 = W0.setCell ⟨B + 1 + 1, 7, none⟩ (.int .i64 0) := ⟨_, rfl⟩
  rw [← hW1] at hL1 ⊢
  have HL1 : Hid _ := hL1
  clear hW1 c5 c6 c7 c8 c9 cf d1 d3 df e0 e1 eb HL0
  obtain ⟨c5, c6, c7, c8, c9, cf, d1, d3, df, e0, e1, eb⟩ := hL1.cells
  have f8 := cf 8
  have eb2 : B + 1 + 1 < W1.heap.size := by omega
  have eb3 : B + 1 < W1.heap.size := by omega
  clear hL1
  go_upto_region 37 with fail
  clear eb2 eb3 f8 c5 c6 c7 c8 c9 cf d1 d3 df e0 e1 eb
  obtain ⟨hC, hbW⟩ := lm_call HT.out HB1.out HBB.out HL1.out (ps := []) (vs := []) (bo := []) (ints_none _) (vls_none _) (ints_none _) (by decide) (by decide) 0 (lm3_check 0)
  have HC : Hid _ := hC
  have HBW : Hid _ := hbW
  clear hC hbW
  obtain ⟨_, _, _, _, _, _, _, _, _, e0, e1, eb⟩ := HL1.out.cells
  go_wp2_with (go_at_call 6; refine Calls.mono HC.out ?_; rintro e w9 ⟨rfl, hb9⟩)
  go_ret
  exact ⟨rfl, HBW.out.trans (hb9.mono HBW.out.size)⟩
set_option maxRecDepth 100000 in
set_option maxHeartbeats 4000000 in
theorem lim3_mid (w : World) (hTab : Tab w) (many : Int) (h : 1 ≤ many ∧ many ≤ 3) : Calls Tryd.prog 4 #[.int .i64 3, .int .i64 many] w fun e w' => e = .returned (.bool true) ∧ Below w.heap.size w w' := by
  have t0 : (many == 0) = false := by simp; omega
  have t1 : (many != 0) = true := by simp; omega
  have t2 : decide (0 ≤ many) = true := by simp; omega
  have t3 : decide (many ≤ 3) = true := by simp; omega
  have HH := show Hid _ from h
  clear h
  have HT : Hid (Tab w) := hTab
  have HAL : Hid _ := alive9_any w hTab
  clear hTab
  go_enter Tryd.func4, Tryd.ntmps4
  go_upto_region 5 with (go_at_call 5; refine Calls.mono HAL.out ?_; rintro e w1 ⟨rfl, hb1⟩)
  obtain ⟨B, hB⟩ : ∃ B, B = w1.heap.size := ⟨_, rfl⟩
  have hL := LM.start w1 B hB
  have HB1 : Hid (Below w.heap.size w w1) := hb1
  have HBB : Hid (w1.heap.size ≤ B) := (show w1.heap.size ≤ B from by omega)
  rw [← hB]
  obtain ⟨W0, hW0⟩ : ∃ W0, W0 = (((w1.alloc (.cells #[.slice none 0 0, .slice none 0 0, .int .i64 3, .int .i64 (-1), .slice none 0 0, .slice none 0 0] 33)).alloc (.cells #[.slice none 0 0, .slice none 0 0, .int .i64 3, .int .i64 (-1), .slice none 0 0, .slice none 0 0] 33)).alloc (.cells #[.string ⟨#[109, 97, 105, 110]⟩, .slice none 0 0, .int .i64 0, .slice none 0 0, .slice (some ⟨B, 0, none⟩) 1 1, .string ⟨#[102]⟩, .slice none 0 0, .int .i64 0, .slice none 0 0, .slice (some ⟨B + 1, 0, none⟩) 1 1] 29)).alloc (.cells #[.slice (some ⟨B + 1 + 1, 0, none⟩) 2 2, .int .i64 0] 36) := ⟨_, rfl⟩
  rw [show al w1 [.cells #[.slice none 0 0, .slice none 0 0, .int .i64 3, .int .i64 (-1), .slice none 0 0, .slice none 0 0] 33, .cells #[.slice none 0 0, .slice none 0 0, .int .i64 3, .int .i64 (-1), .slice none 0 0, .slice none 0 0] 33, .cells #[.string ⟨#[109, 97, 105, 110]⟩, .slice none 0 0, .int .i64 0, .slice none 0 0, .slice (some ⟨B, 0, none⟩) 1 1, .string ⟨#[102]⟩, .slice none 0 0, .int .i64 0, .slice none 0 0, .slice (some ⟨B + 1, 0, none⟩) 1 1] 29, .cells #[.slice (some ⟨B + 1 + 1, 0, none⟩) 2 2, .int .i64 0] 36] = W0 from hW0.symm] at hL
  rw [← hW0]
  clear hW0 hB hb1 HAL
  have HL0 : Hid _ := hL
  obtain ⟨c5, c6, c7, c8, c9, cf, d1, d3, df, e0, e1, eb⟩ := hL.cells
  clear hL
  go_upto_region 32 with fail
  have hL1 := HL0.out.result many
  obtain ⟨W1, hW1⟩ : ∃ W1, W1 = W0.setCell ⟨B + 1 + 1, 7, none⟩ (.int .i64 many) := ⟨_, rfl⟩
  rw [← hW1] at hL1 ⊢
  have HL1 : Hid _ := hL1
  clear hW1 c5 c6 c7 c8 c9 cf d1 d3 df e0 e1 eb HL0
  obtain ⟨c5, c6, c7, c8, c9, cf, d1, d3, df, e0, e1, eb⟩ := hL1.cells
  have f8 := cf 8
  have eb2 : B + 1 + 1 < W1.heap.size := by omega
  have eb3 : B + 1 < W1.heap.size := by omega
  clear hL1
  go_upto_region 34 with fail
  obtain ⟨s0, hs0⟩ : ∃ s, s = W1.heap.size := ⟨_, rfl⟩
  have hL2 := (HL1.out.values (.slice (some ⟨s0, 0, none⟩) 1 1)).keep (below_new _ (.cells #[.int .i64 1, .int .i64 many, .int .i64 0, .slice none 0 0] 25))
  have r2 := heap_alloc_new (W1.setCell ⟨B + 1 + 1, 8, none⟩ (.slice (some ⟨s0, 0, none⟩) 1 1)) (.cells #[.int .i64 1, .int .i64 many, .int .i64 0, .slice none 0 0] 25)
  rw [set_sizeW, ← hs0] at r2
  obtain ⟨W2, hW2⟩ : ∃ W, W = (W1.setCell ⟨B + 1 + 1, 8, none⟩ (.slice (some ⟨s0, 0, none⟩) 1 1)).alloc (.cells #[.int .i64 1, .int .i64 many, .int .i64 0, .slice none 0 0] 25) := ⟨_, rfl⟩
  rw [← hW2] at hL2 r2
  rw [← hs0, ← hW2]
  have hs0B : B + 1 + 1 + 1 < s0 := by omega
  have HL2 : Hid _ := hL2
  have R2 : Hid _ := r2
  clear eb2 eb3 f8 hW2 hs0 c5 c6 c7 c8 c9 cf d1 d3 df e0 e1 eb HL1 r2
  obtain ⟨c5, c6, c7, c8, c9, cf, d1, d3, df, e0, e1, eb⟩ := hL2.cells
  have f1 := df 1
  have eb2 : B + 1 + 1 < W2.heap.size := by omega
  have eb3 : B + 1 < W2.heap.size := by omega
  clear hL2
  go_upto_region 35 with fail
  obtain ⟨s1, hs1⟩ : ∃ s, s = W2.heap.size := ⟨_, rfl⟩
  have hL3 := (HL2.out.body (.slice (some ⟨s1, 0, none⟩) 1 1)).keep (below_new _ (.cells #[.int .i64 0] 3))
  have r3 := heap_alloc_new (W2.setCell ⟨B + 1, 1, none⟩ (.slice (some ⟨s1, 0, none⟩) 1 1)) (.cells #[.int .i64 0] 3)
  have r2 := ((below_new (W2.setCell ⟨B + 1, 1, none⟩ (.slice (some ⟨s1, 0, none⟩) 1 1)) (.cells #[.int .i64 0] 3)).block s0 (by rw [set_sizeW]; exact (Array.getElem?_eq_some_iff.1 R2.out).1)).trans ((heap_set_other (by omega)).trans R2.out)
  rw [set_sizeW, ← hs1] at r3
  obtain ⟨W3, hW3⟩ : ∃ W, W = (W2.setCell ⟨B + 1, 1, none⟩ (.slice (some ⟨s1, 0, none⟩) 1 1)).alloc (.cells #[.int .i64 0] 3) := ⟨_, rfl⟩
  rw [← hW3] at hL3 r3 r2
  rw [← hs1, ← hW3]
  have hs1B : B + 1 + 1 + 1 < s1 := by omega
  have HL3 : Hid _ := hL3
  have R3 : Hid _ := r3
  have R23 : Hid _ := r2
  clear eb2 eb3 f1 hW3 hs1 c5 c6 c7 c8 c9 cf d1 d3 df e0 e1 eb HL2 r2 r3 R2
  obtain ⟨c5, c6, c7, c8, c9, cf, d1, d3, df, e0, e1, eb⟩ := hL3.cells
  have f3 := df 3
  have eb2 : B + 1 + 1 < W3.heap.size := by omega
  have eb3 : B + 1 < W3.heap.size := by omega
  clear hL3
  go_upto_region 36 with fail
  have hL4 := HL3.out.val 0
  have r3 := (heap_set_other (v := .int .i64 0) (i := 3) (show s1 ≠ B + 1 by omega)).trans R3.out
  have r2 := (heap_set_other (v := .int .i64 0) (i := 3) (show s0 ≠ B + 1 by omega)).trans R23.out
  obtain ⟨W4, hW4⟩ : ∃ W, W = W3.setCell ⟨B + 1, 3, none⟩ (.int .i64 0) := ⟨_, rfl⟩
  rw [← hW4] at hL4 r3 r2 ⊢
  have HL4 : Hid _ := hL4
  clear eb2 eb3 f3 hW4 c5 c6 c7 c8 c9 cf d1 d3 df e0 e1 eb HL3 R3 R23 hL4
  have hv : Vls W4 (some ⟨s0, 0, none⟩) 1 [⟨1, many, 0, []⟩] := by
    refine ⟨by simp, by decide, fun _ => ⟨s0, 0, rfl, (Array.getElem?_eq_some_iff.1 r2).1, fun i hi => ?_⟩⟩
    match i, hi with
    | 0, _ => exact ⟨none, 0, cell_arr (i := 0) r2 rfl, cell_arr (i := 1) r2 rfl, cell_arr (i := 2) r2 rfl, cell_arr (i := 3) r2 rfl, ints_none _⟩
    | j + 1, h => exact absurd h (by simp)
  have HV : Hid _ := hv
  have HI : Hid (Ints W4 (some ⟨s1, 0, none⟩) 1 [0]) := ints_exact (L := [0]) r3 (by decide)
  clear hv r2 r3 hs0B hs1B
  go_upto_region 37 with fail
  obtain ⟨hC, hbW⟩ := lm_call HT.out HB1.out HBB.out HL4.out (ps := []) (vs := [⟨1, many, 0, []⟩]) (bo := [0]) (ints_none _) HV.out HI.out (by decide) (by decide) 0 (by have h := HH.out; have := lm3_check many; rw [if_pos (by omega)] at this; unfold lm3 at this; rw [if_neg (by omega)] at this; exact this)
  have HC : Hid _ := hC
  have HBW : Hid _ := hbW
  clear hC hbW
  obtain ⟨_, _, _, _, _, _, _, _, _, e0, e1, eb⟩ := HL4.out.cells
  go_wp2_with (go_at_call 6; refine Calls.mono HC.out ?_; rintro e w9 ⟨rfl, hb9⟩)
  go_ret
  exact ⟨rfl, HBW.out.trans (hb9.mono HBW.out.size)⟩
set_option maxRecDepth 100000 in
set_option maxHeartbeats 4000000 in
theorem lim3_neg (w : World) (hTab : Tab w) (many : Int) (h : many < 0) : Calls Tryd.prog 4 #[.int .i64 3, .int .i64 many] w fun e w' => e = .returned (.bool true) ∧ Below w.heap.size w w' := by
  have t0 : (many == 0) = false := by simp; omega
  have t1 : (many != 0) = true := by simp; omega
  have t2 : decide (0 ≤ many) = false := by simp; omega
  have HH := show Hid _ from h
  clear h
  have HT : Hid (Tab w) := hTab
  have HAL : Hid _ := alive9_any w hTab
  clear hTab
  go_enter Tryd.func4, Tryd.ntmps4
  go_upto_region 5 with (go_at_call 5; refine Calls.mono HAL.out ?_; rintro e w1 ⟨rfl, hb1⟩)
  obtain ⟨B, hB⟩ : ∃ B, B = w1.heap.size := ⟨_, rfl⟩
  have hL := LM.start w1 B hB
  have HB1 : Hid (Below w.heap.size w w1) := hb1
  have HBB : Hid (w1.heap.size ≤ B) := (show w1.heap.size ≤ B from by omega)
  rw [← hB]
  obtain ⟨W0, hW0⟩ : ∃ W0, W0 = (((w1.alloc (.cells #[.slice none 0 0, .slice none 0 0, .int .i64 3, .int .i64 (-1), .slice none 0 0, .slice none 0 0] 33)).alloc (.cells #[.slice none 0 0, .slice none 0 0, .int .i64 3, .int .i64 (-1), .slice none 0 0, .slice none 0 0] 33)).alloc (.cells #[.string ⟨#[109, 97, 105, 110]⟩, .slice none 0 0, .int .i64 0, .slice none 0 0, .slice (some ⟨B, 0, none⟩) 1 1, .string ⟨#[102]⟩, .slice none 0 0, .int .i64 0, .slice none 0 0, .slice (some ⟨B + 1, 0, none⟩) 1 1] 29)).alloc (.cells #[.slice (some ⟨B + 1 + 1, 0, none⟩) 2 2, .int .i64 0] 36) := ⟨_, rfl⟩
  rw [show al w1 [.cells #[.slice none 0 0, .slice none 0 0, .int .i64 3, .int .i64 (-1), .slice none 0 0, .slice none 0 0] 33, .cells #[.slice none 0 0, .slice none 0 0, .int .i64 3, .int .i64 (-1), .slice none 0 0, .slice none 0 0] 33, .cells #[.string ⟨#[109, 97, 105, 110]⟩, .slice none 0 0, .int .i64 0, .slice none 0 0, .slice (some ⟨B, 0, none⟩) 1 1, .string ⟨#[102]⟩, .slice none 0 0, .int .i64 0, .slice none 0 0, .slice (some ⟨B + 1, 0, none⟩) 1 1] 29, .cells #[.slice (some ⟨B + 1 + 1, 0, none⟩) 2 2, .int .i64 0] 36] = W0 from hW0.symm] at hL
  rw [← hW0]
  clear hW0 hB hb1 HAL
  have HL0 : Hid _ := hL
  obtain ⟨c5, c6, c7, c8, c9, cf, d1, d3, df, e0, e1, eb⟩ := hL.cells
  clear hL
  go_upto_region 32 with fail
  have hL1 := HL0.out.result many
  obtain ⟨W1, hW1⟩ : ∃ W1, W1 = W0.setCell ⟨B + 1 + 1, 7, none⟩ (.int .i64 many) := ⟨_, rfl⟩
  rw [← hW1] at hL1 ⊢
  have HL1 : Hid _ := hL1
  clear hW1 c5 c6 c7 c8 c9 cf d1 d3 df e0 e1 eb HL0
  obtain ⟨c5, c6, c7, c8, c9, cf, d1, d3, df, e0, e1, eb⟩ := hL1.cells
  have f8 := cf 8
  have eb2 : B + 1 + 1 < W1.heap.size := by omega
  have eb3 : B + 1 < W1.heap.size := by omega
  clear hL1
  go_upto_region 34 with fail
  obtain ⟨s0, hs0⟩ : ∃ s, s = W1.heap.size := ⟨_, rfl⟩
  have hL2 := (HL1.out.values (.slice (some ⟨s0, 0, none⟩) 1 1)).keep (below_new _ (.cells #[.int .i64 1, .int .i64 many, .int .i64 0, .slice none 0 0] 25))
  have r2 := heap_alloc_new (W1.setCell ⟨B + 1 + 1, 8, none⟩ (.slice (some ⟨s0, 0, none⟩) 1 1)) (.cells #[.int .i64 1, .int .i64 many, .int .i64 0, .slice none 0 0] 25)
  rw [set_sizeW, ← hs0] at r2
  obtain ⟨W2, hW2⟩ : ∃ W, W = (W1.setCell ⟨B + 1 + 1, 8, none⟩ (.slice (some ⟨s0, 0, none⟩) 1 1)).alloc (.cells #[.int .i64 1, .int .i64 many, .int .i64 0, .slice none 0 0] 25) := ⟨_, rfl⟩
  rw [← hW2] at hL2 r2
  rw [← hs0, ← hW2]
  have hs0B : B + 1 + 1 + 1 < s0 := by omega
  have HL2 : Hid _ := hL2
  have R2 : Hid _ := r2
  clear eb2 eb3 f8 hW2 hs0 c5 c6 c7 c8 c9 cf d1 d3 df e0 e1 eb HL1 r2
  obtain ⟨c5, c6, c7, c8, c9, cf, d1, d3, df, e0, e1, eb⟩ := hL2.cells
  have f1 := df 1
  have eb2 : B + 1 + 1 < W2.heap.size := by omega
  have eb3 : B + 1 < W2.heap.size := by omega
  clear hL2
  go_upto_region 35 with fail
  obtain ⟨s1, hs1⟩ : ∃ s, s = W2.heap.size := ⟨_, rfl⟩
  have hL3 := (HL2.out.body (.slice (some ⟨s1, 0, none⟩) 1 1)).keep (below_new _ (.cells #[.int .i64 0] 3))
  have r3 := heap_alloc_new (W2.setCell ⟨B + 1, 1, none⟩ (.slice (some ⟨s1, 0, none⟩) 1 1)) (.cells #[.int .i64 0] 3)
  have r2 := ((below_new (W2.setCell ⟨B + 1, 1, none⟩ (.slice (some ⟨s1, 0, none⟩) 1 1)) (.cells #[.int .i64 0] 3)).block s0 (by rw [set_sizeW]; exact (Array.getElem?_eq_some_iff.1 R2.out).1)).trans ((heap_set_other (by omega)).trans R2.out)
  rw [set_sizeW, ← hs1] at r3
  obtain ⟨W3, hW3⟩ : ∃ W, W = (W2.setCell ⟨B + 1, 1, none⟩ (.slice (some ⟨s1, 0, none⟩) 1 1)).alloc (.cells #[.int .i64 0] 3) := ⟨_, rfl⟩
  rw [← hW3] at hL3 r3 r2
  rw [← hs1, ← hW3]
  have hs1B : B + 1 + 1 + 1 < s1 := by omega
  have HL3 : Hid _ := hL3
  have R3 : Hid _ := r3
  have R23 : Hid _ := r2
  clear eb2 eb3 f1 hW3 hs1 c5 c6 c7 c8 c9 cf d1 d3 df e0 e1 eb HL2 r2 r3 R2
  obtain ⟨c5, c6, c7, c8, c9, cf, d1, d3, df, e0, e1, eb⟩ := hL3.cells
  have f3 := df 3
  have eb2 : B + 1 + 1 < W3.heap.size := by omega
  have eb3 : B + 1 < W3.heap.size := by omega
  clear hL3
  go_upto_region 36 with fail
  have hL4 := HL3.out.val 0
  have r3 := (heap_set_other (v := .int .i64 0) (i := 3) (show s1 ≠ B + 1 by omega)).trans R3.out
  have r2 := (heap_set_other (v := .int .i64 0) (i := 3) (show s0 ≠ B + 1 by omega)).trans R23.out
  obtain ⟨W4, hW4⟩ : ∃ W, W = W3.setCell ⟨B + 1, 3, none⟩ (.int .i64 0) := ⟨_, rfl⟩
  rw [← hW4] at hL4 r3 r2 ⊢
  have HL4 : Hid _ := hL4
  clear eb2 eb3 f3 hW4 c5 c6 c7 c8 c9 cf d1 d3 df e0 e1 eb HL3 R3 R23 hL4
  have hv : Vls W4 (some ⟨s0, 0, none⟩) 1 [⟨1, many, 0, []⟩] := by
    refine ⟨by simp, by decide, fun _ => ⟨s0, 0, rfl, (Array.getElem?_eq_some_iff.1 r2).1, fun i hi => ?_⟩⟩
    match i, hi with
    | 0, _ => exact ⟨none, 0, cell_arr (i := 0) r2 rfl, cell_arr (i := 1) r2 rfl, cell_arr (i := 2) r2 rfl, cell_arr (i := 3) r2 rfl, ints_none _⟩
    | j + 1, h => exact absurd h (by simp)
  have HV : Hid _ := hv
  have HI : Hid (Ints W4 (some ⟨s1, 0, none⟩) 1 [0]) := ints_exact (L := [0]) r3 (by decide)
  clear hv r2 r3 hs0B hs1B
  go_upto_region 37 with fail
  obtain ⟨hC, hbW⟩ := lm_call HT.out HB1.out HBB.out HL4.out (ps := []) (vs := [⟨1, many, 0, []⟩]) (bo := [0]) (ints_none _) HV.out HI.out (by decide) (by decide) 90 (by have h := HH.out; have := lm3_check many; rw [if_neg (by omega)] at this; unfold lm3 at this; rw [if_neg (by omega)] at this; exact this)
  have HC : Hid _ := hC
  have HBW : Hid _ := hbW
  clear hC hbW
  obtain ⟨_, _, _, _, _, _, _, _, _, e0, e1, eb⟩ := HL4.out.cells
  go_wp2_with (go_at_call 6; refine Calls.mono HC.out ?_; rintro e w9 ⟨rfl, hb9⟩)
  go_ret
  exact ⟨rfl, HBW.out.trans (hb9.mono HBW.out.size)⟩
set_option maxRecDepth 100000 in
set_option maxHeartbeats 4000000 in
theorem lim3_big (w : World) (hTab : Tab w) (many : Int) (h : 3 < many) : Calls Tryd.prog 4 #[.int .i64 3, .int .i64 many] w fun e w' => e = .returned (.bool true) ∧ Below w.heap.size w w' := by
  have t0 : (many == 0) = false := by simp; omega
  have t1 : (many != 0) = true := by simp; omega
  have t2 : decide (0 ≤ many) = true := by simp; omega
  have t3 : decide (many ≤ 3) = false := by simp; omega
  have HH := show Hid _ from h
  clear h
  have HT : Hid (Tab w) := hTab
  have HAL : Hid _ := alive9_any w hTab
  clear hTab
  go_enter Tryd.func4, Tryd.ntmps4
  go_upto_region 5 with (go_at_call 5; refine Calls.mono HAL.out ?_; rintro e w1 ⟨rfl, hb1⟩)
  obtain ⟨B, hB⟩ : ∃ B, B = w1.heap.size := ⟨_, rfl⟩
  have hL := LM.start w1 B hB
  have HB1 : Hid (Below w.heap.size w w1) := hb1
  have HBB : Hid (w1.heap.size ≤ B) := (show w1.heap.size ≤ B from by omega)
  rw [← hB]
  obtain ⟨W0, hW0⟩ : ∃ W0, W0 = (((w1.alloc (.cells #[.slice none 0 0, .slice none 0 0, .int .i64 3, .int .i64 (-1), .slice none 0 0, .slice none 0 0] 33)).alloc (.cells #[.slice none 0 0, .slice none 0 0, .int .i64 3, .int .i64 (-1), .slice none 0 0, .slice none 0 0] 33)).alloc (.cells #[.string ⟨#[109, 97, 105, 110]⟩, .slice none 0 0, .int .i64 0, .slice none 0 0, .slice (some ⟨B, 0, none⟩) 1 1, .string ⟨#[102]⟩, .slice none 0 0, .int .i64 0, .slice none 0 0, .slice (some ⟨B + 1, 0, none⟩) 1 1] 29)).alloc (.cells #[.slice (some ⟨B + 1 + 1, 0, none⟩) 2 2, .int .i64 0] 36) := ⟨_, rfl⟩
  rw [show al w1 [.cells #[.slice none 0 0, .slice none 0 0, .int .i64 3, .int .i64 (-1), .slice none 0 0, .slice none 0 0] 33, .cells #[.slice none 0 0, .slice none 0 0, .int .i64 3, .int .i64 (-1), .slice none 0 0, .slice none 0 0] 33, .cells #[.string ⟨#[109, 97, 105, 110]⟩, .slice none 0 0, .int .i64 0, .slice none 0 0, .slice (some ⟨B, 0, none⟩) 1 1, .string ⟨#[102]⟩, .slice none 0 0, .int .i64 0, .slice none 0 0, .slice (some ⟨B + 1, 0, none⟩) 1 1] 29, .cells #[.slice (some ⟨B + 1 + 1, 0, none⟩) 2 2, .int .i64 0] 36] = W0 from hW0.symm] at hL
  rw [← hW0]
  clear hW0 hB hb1 HAL
  have HL0 : Hid _ := hL
  obtain ⟨c5, c6, c7, c8, c9, cf, d1, d3, df, e0, e1, eb⟩ := hL.cells
  clear hL
  go_upto_region 32 with fail
  have hL1 := HL0.out.result many
  obtain ⟨W1, hW1⟩ : ∃ W1, W1 = W0.setCell ⟨B + 1 + 1, 7, none⟩ (.int .i64 many) := ⟨_, rfl⟩
  rw [← hW1] at hL1 ⊢
  have HL1 : Hid _ := hL1
  clear hW1 c5 c6 c7 c8 c9 cf d1 d3 df e0 e1 eb HL0
  obtain ⟨c5, c6, c7, c8, c9, cf, d1, d3, df, e0, e1, eb⟩ := hL1.cells
  have f8 := cf 8
  have eb2 : B + 1 + 1 < W1.heap.size := by omega
  have eb3 : B + 1 < W1.heap.size := by omega
  clear hL1
  go_upto_region 34 with fail
  obtain ⟨s0, hs0⟩ : ∃ s, s = W1.heap.size := ⟨_, rfl⟩
  have hL2 := (HL1.out.values (.slice (some ⟨s0, 0, none⟩) 1 1)).keep (below_new _ (.cells #[.int .i64 1, .int .i64 many, .int .i64 0, .slice none 0 0] 25))
  have r2 := heap_alloc_new (W1.setCell ⟨B + 1 + 1, 8, none⟩ (.slice (some ⟨s0, 0, none⟩) 1 1)) (.cells #[.int .i64 1, .int .i64 many, .int .i64 0, .slice none 0 0] 25)
  rw [set_sizeW, ← hs0] at r2
  obtain ⟨W2, hW2⟩ : ∃ W, W = (W1.setCell ⟨B + 1 + 1, 8, none⟩ (.slice (some ⟨s0, 0, none⟩) 1 1)).alloc (.cells #[.int .i64 1, .int .i64 many, .int .i64 0, .slice none 0 0] 25) := ⟨_, rfl⟩
  rw [← hW2] at hL2 r2
  rw [← hs0, ← hW2]
  have hs0B : B + 1 + 1 + 1 < s0 := by omega
  have HL2 : Hid _ := hL2
  have R2 : Hid _ := r2
  clear eb2 eb3 f8 hW2 hs0 c5 c6 c7 c8 c9 cf d1 d3 df e0 e1 eb HL1 r2
  obtain ⟨c5, c6, c7, c8, c9, cf, d1, d3, df, e0, e1, eb⟩ := hL2.cells
  have f1 := df 1
  have eb2 : B + 1 + 1 < W2.heap.size := by omega
  have eb3 : B + 1 < W2.heap.size := by omega
  clear hL2
  go_upto_region 35 with fail
  obtain ⟨s1, hs1⟩ : ∃ s, s = W2.heap.size := ⟨_, rfl⟩
  have hL3 := (HL2.out.body (.slice (some ⟨s1, 0, none⟩) 1 1)).keep (below_new _ (.cells #[.int .i64 0] 3))
  have r3 := heap_alloc_new (W2.setCell ⟨B + 1, 1, none⟩ (.slice (some ⟨s1, 0, none⟩) 1 1)) (.cells #[.int .i64 0] 3)
  have r2 := ((below_new (W2.setCell ⟨B + 1, 1, none⟩ (.slice (some ⟨s1, 0, none⟩) 1 1)) (.cells #[.int .i64 0] 3)).block s0 (by rw [set_sizeW]; exact (Array.getElem?_eq_some_iff.1 R2.out).1)).trans ((heap_set_other (by omega)).trans R2.out)
  rw [set_sizeW, ← hs1] at r3
  obtain ⟨W3, hW3⟩ : ∃ W, W = (W2.setCell ⟨B + 1, 1, none⟩ (.slice (some ⟨s1, 0, none⟩) 1 1)).alloc (.cells #[.int .i64 0] 3) := ⟨_, rfl⟩
  rw [← hW3] at hL3 r3 r2
  rw [← hs1, ← hW3]
  have hs1B : B + 1 + 1 + 1 < s1 := by omega
  have HL3 : Hid _ := hL3
  have R3 : Hid _ := r3
  have R23 : Hid _ := r2
  clear eb2 eb3 f1 hW3 hs1 c5 c6 c7 c8 c9 cf d1 d3 df e0 e1 eb HL2 r2 r3 R2
  obtain ⟨c5, c6, c7, c8, c9, cf, d1, d3, df, e0, e1, eb⟩ := hL3.cells
  have f3 := df 3
  have eb2 : B + 1 + 1 < W3.heap.size := by omega
  have eb3 : B + 1 < W3.heap.size := by omega
  clear hL3
  go_upto_region 36 with fail
  have hL4 := HL3.out.val 0
  have r3 := (heap_set_other (v := .int .i64 0) (i := 3) (show s1 ≠ B + 1 by omega)).trans R3.out
  have r2 := (heap_set_other (v := .int .i64 0) (i := 3) (show s0 ≠ B + 1 by omega)).trans R23.out
  obtain ⟨W4, hW4⟩ : ∃ W, W = W3.setCell ⟨B + 1, 3, none⟩ (.int .i64 0) := ⟨_, rfl⟩
  rw [← hW4] at hL4 r3 r2 ⊢
  have HL4 : Hid _ := hL4
  clear eb2 eb3 f3 hW4 c5 c6 c7 c8 c9 cf d1 d3 df e0 e1 eb HL3 R3 R23 hL4
  have hv : Vls W4 (some ⟨s0, 0, none⟩) 1 [⟨1, many, 0, []⟩] := by
    refine ⟨by simp, by decide, fun _ => ⟨s0, 0, rfl, (Array.getElem?_eq_some_iff.1 r2).1, fun i hi => ?_⟩⟩
    match i, hi with
    | 0, _ => exact ⟨none, 0, cell_arr (i := 0) r2 rfl, cell_arr (i := 1) r2 rfl, cell_arr (i := 2) r2 rfl, cell_arr (i := 3) r2 rfl, ints_none _⟩
    | j + 1, h => exact absurd h (by simp)
  have HV : Hid _ := hv
  have HI : Hid (Ints W4 (some ⟨s1, 0, none⟩) 1 [0]) := ints_exact (L := [0]) r3 (by decide)
  clear hv r2 r3 hs0B hs1B
  go_upto_region 37 with fail
  obtain ⟨hC, hbW⟩ := lm_call HT.out HB1.out HBB.out HL4.out (ps := []) (vs := [⟨1, many, 0, []⟩]) (bo := [0]) (ints_none _) HV.out HI.out (by decide) (by decide) 90 (by have h := HH.out; have := lm3_check many; rw [if_neg (by omega)] at this; unfold lm3 at this; rw [if_neg (by omega)] at this; exact this)
  have HC : Hid _ := hC
  have HBW : Hid _ := hbW
  clear hC hbW
  obtain ⟨_, _, _, _, _, _, _, _, _, e0, e1, eb⟩ := HL4.out.cells
  go_wp2_with (go_at_call 6; refine Calls.mono HC.out ?_; rintro e w9 ⟨rfl, hb9⟩)
  go_ret
  exact ⟨rfl, HBW.out.trans (hb9.mono HBW.out.size)⟩
end Go.Proofs.YtdbkjjelaipcfaaDoor
