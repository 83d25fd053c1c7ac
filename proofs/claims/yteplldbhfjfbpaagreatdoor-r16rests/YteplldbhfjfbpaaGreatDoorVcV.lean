import Derived.Test.YteplldbhfjfbpaaGreatDoorVcY
set_option linter.unusedVariables false
set_option linter.unusedSimpArgs false
namespace Go.Proofs.YteplldbhfjfbpaaGreatDoor
open Go.ChangeShapes Go.WideShapes Go.ChangeAt Go.RowKit Go.Maps

theorem setRow_allocR (w : World) (Z A : Array Value) (t : TypeId) : (w.alloc (.cells Z t)).setRow w.heap.size A = w.alloc (.cells A t) := World.setRow_alloc_new w Z A t
theorem fu_one (w W : World) (hTab : Tab W) (k : Nat) (hk : k < 4) (g : Nat) (hC : StsG W (some ⟨g, 0, none⟩) 9 5 ((fuC (fuX k)).map riv)) :
    Calls Tryz.prog 13 #[.slice (some ⟨g, 0, none⟩) 9 9, .int .i64 2, .agg #[.int .i64 2, .int .i64 0], .slice none 0 0, .int .i64 1073741824] W fun e w' => ∃ eb eo c, e = .returned (.tuple #[.agg #[.slice (some ⟨eb, eo, none⟩) 1048576 c, .int .i64 (fuE k).1, .int .i64 (fuE k).2.1, .int .i64 (fuE k).2.2, .int .i64 2097156, .int .i64 0, .int .i64 1], .bool true]) ∧ (∀ W', Below w'.heap.size w' W' → eb < W'.heap.size ∧ W'.cell? ⟨eb, eo, none⟩ = some (.int .i64 1) ∧ W'.cell? ⟨eb, eo + 1, none⟩ = some (.int .i64 524288) ∧ W'.cell? ⟨eb, eo + 2097150, none⟩ = some (.int .i64 2) ∧ W'.cell? ⟨eb, eo + 2097150 + 1, none⟩ = some (.int .i64 1)) ∧ Below W.heap.size W w' := by
  obtain ⟨K, RF, hK, h1, h2, h3, h4, h5, h6, h7, h8, h9, h10, h11⟩ := fu_all k hk
  have hnum : ∀ x ∈ fuC (fuX k), Fits x.n := by
    intro x hx
    unfold fuC at hx
    simp only [List.mem_cons, List.not_mem_nil, or_false] at hx
    have hx7 : Fits (fuX k).n := by
      rcases (show k = 0 ∨ k = 1 ∨ k = 2 ∨ k = 3 by omega) with rfl | rfl | rfl | rfl <;> (unfold fuX Fits; simp)
    rcases hx with rfl | rfl | rfl | rfl | rfl | rfl | rfl | rfl | rfl
    all_goals first | exact hx7 | (unfold Fits; simp)
  have T := one_st W hTab (some ⟨g, 0, none⟩) 9 9 (fuC (fuX k)) rfl hC (by omega) hnum 2 2 0 (newErr_one (fu_form k hk) (by omega) (by omega)) RF 1073741824 K (by omega) (by omega) (Or.inr ⟨by omega, h2⟩) h1
  refine T.mono ?_
  rintro e w' ⟨ao, c, rfl, hE, hB⟩
  have g0 : RF.ev[0]'(by omega) = (1, 524288) := by
    have := List.getElem?_eq_getElem (l := RF.ev) (i := 0) (by omega)
    rw [h4] at this
    exact (Option.some.inj this).symm
  have g1 : RF.ev[1048575]'(by omega) = (2, 1) := by
    have := List.getElem?_eq_getElem (l := RF.ev) (i := 1048575) (by omega)
    rw [h5] at this
    exact (Option.some.inj this).symm
  obtain ⟨eb, eo, ea, _, _, _⟩ := hE.atR (k := 0) (by omega)
  subst ea
  refine ⟨eb, eo, c, ?_, fun W' hW => ?_, hB⟩
  · rw [h3, h6, h7, h8, h9, h10, h11]
  · have hE2 := hE.belowR hW
    obtain ⟨b1, o1, e1, l1, c1, c2⟩ := hE2.atR (k := 0) (by omega)
    obtain ⟨b2, o2, e2, l2, c3, c4⟩ := hE2.atR (k := 1048575) (by omega)
    cases e1
    cases e2
    rw [g0] at c1 c2
    rw [g1] at c3 c4
    exact ⟨l1, c1, c2, c3, c4⟩
set_option maxRecDepth 100000 in
set_option maxHeartbeats 8000000 in
theorem full_0 (w : World) (hTab : Tab w) : Calls Tryz.prog 20 #[.int .i64 0] w fun e w' => e = .returned (.bool true) ∧ Below w.heap.size w w' := by
  have HT : Hid (Tab w) := hTab
  clear hTab
  go_enter Tryz.func20, Tryz.ntmps20
  go_upto_region 2 with (refine wpList_store_row rfl 91 _ _ rfl _ #[.int .i64 27, .int .i64 0, .int .i64 0, .int .i64 0, .int .i64 0, .int .i64 35, .int .i64 4, .int .i64 0, .int .i64 0, .int .i64 6, .int .i64 38, .int .i64 4, .int .i64 0, .int .i64 0, .int .i64 0, .int .i64 36, .int .i64 4, .int .i64 0, .int .i64 0, .int .i64 0] rfl rfl 91 _ (heap_alloc_new _ _) (by kernel_rfl) rfl (by kernel_rfl) ?_; rw [setRow_allocR])
  obtain ⟨W1, hW1⟩ : ∃ W, W = w.alloc (.cells #[.int .i64 27, .int .i64 0, .int .i64 0, .int .i64 0, .int .i64 0, .int .i64 35, .int .i64 4, .int .i64 0, .int .i64 0, .int .i64 6, .int .i64 38, .int .i64 4, .int .i64 0, .int .i64 0, .int .i64 0, .int .i64 36, .int .i64 4, .int .i64 0, .int .i64 0, .int .i64 0] 91) := ⟨_, rfl⟩
  obtain ⟨p0, hp0⟩ : ∃ p, p = w.heap.size := ⟨_, rfl⟩
  have kA1 : W1.heap[p0]? = some (.cells #[.int .i64 27, .int .i64 0, .int .i64 0, .int .i64 0, .int .i64 0, .int .i64 35, .int .i64 4, .int .i64 0, .int .i64 0, .int .i64 6, .int .i64 38, .int .i64 4, .int .i64 0, .int .i64 0, .int .i64 0, .int .i64 36, .int .i64 4, .int .i64 0, .int .i64 0, .int .i64 0] 91 (0, 0)) := by rw [hW1, hp0]; exact heap_alloc_new _ _
  have b1 : Below w.heap.size w W1 := by rw [hW1]; exact below_newR w _
  rw [← hW1, ← hp0]
  have HKA : Hid _ := kA1
  have HB1 : Hid _ := b1
  have HP0 : Hid _ := hp0
  clear hW1 hp0 kA1 b1
  go_upto_region 3 with (refine wpList_store_row rfl 92 _ _ rfl _ #[.slice none 0 0, .int .i64 1, .int .i64 0, .int .i64 0, .int .i64 0, .int .i64 0, .int .i64 0, .slice none 0 0, .int .i64 2, .int .i64 6, .int .i64 5, .int .i64 0, .int .i64 0, .int .i64 0, .slice none 0 0, .int .i64 3, .int .i64 5, .int .i64 0, .int .i64 0, .int .i64 0, .int .i64 0, .slice none 0 0, .int .i64 2, .int .i64 5, .int .i64 0, .int .i64 0, .int .i64 0, .int .i64 0] rfl rfl 92 _ (heap_alloc_new _ _) (by kernel_rfl) rfl (by kernel_rfl) ?_; rw [setRow_allocR])
  obtain ⟨W2, hW2⟩ : ∃ W, W = W1.alloc (.cells #[.slice none 0 0, .int .i64 1, .int .i64 0, .int .i64 0, .int .i64 0, .int .i64 0, .int .i64 0, .slice none 0 0, .int .i64 2, .int .i64 6, .int .i64 5, .int .i64 0, .int .i64 0, .int .i64 0, .slice none 0 0, .int .i64 3, .int .i64 5, .int .i64 0, .int .i64 0, .int .i64 0, .int .i64 0, .slice none 0 0, .int .i64 2, .int .i64 5, .int .i64 0, .int .i64 0, .int .i64 0, .int .i64 0] 92) := ⟨_, rfl⟩
  obtain ⟨p1, hp1⟩ : ∃ p, p = W1.heap.size := ⟨_, rfl⟩
  have kB2 : W2.heap[p1]? = some (.cells #[.slice none 0 0, .int .i64 1, .int .i64 0, .int .i64 0, .int .i64 0, .int .i64 0, .int .i64 0, .slice none 0 0, .int .i64 2, .int .i64 6, .int .i64 5, .int .i64 0, .int .i64 0, .int .i64 0, .slice none 0 0, .int .i64 3, .int .i64 5, .int .i64 0, .int .i64 0, .int .i64 0, .int .i64 0, .slice none 0 0, .int .i64 2, .int .i64 5, .int .i64 0, .int .i64 0, .int .i64 0, .int .i64 0] 92 (0, 0)) := by rw [hW2, hp1]; exact heap_alloc_new _ _
  have b2 : Below W1.heap.size W1 W2 := by rw [hW2]; exact below_newR W1 _
  have kA2 := (b2.block _ (Array.getElem?_eq_some_iff.1 HKA.out).1).trans HKA.out
  rw [← hW2, ← hp1]
  have l0 := (Array.getElem?_eq_some_iff.1 kA2).1
  have a0 : W2.cell? ⟨p0, 0, none⟩ = some (.int .i64 27) := cell_arr kA2 rfl
  have a1 : W2.cell? ⟨p0, 1, none⟩ = some (.int .i64 0) := cell_arr kA2 rfl
  have a2 : W2.cell? ⟨p0, 2, none⟩ = some (.int .i64 0) := cell_arr kA2 rfl
  have a3 : W2.cell? ⟨p0, 3, none⟩ = some (.int .i64 0) := cell_arr kA2 rfl
  have a4 : W2.cell? ⟨p0, 4, none⟩ = some (.int .i64 0) := cell_arr kA2 rfl
  have HKA2 : Hid _ := kA2
  have HKB2 : Hid _ := kB2
  have HB2 : Hid (Below w.heap.size w W2) := HB1.out.trans (b2.mono HB1.out.size)
  clear hW2 hp1 kB2 b2 kA2 HKA HB1
  go_upto_region 4 with fail
  obtain ⟨W3, hW3⟩ : ∃ W, W = W2.alloc (.cells #[.int .i64 1, .int .i64 2, .int .i64 0, .int .i64 0, .int .i64 524288, .int .i64 1, .int .i64 3, .int .i64 0, .int .i64 0, .int .i64 1, .int .i64 1, .int .i64 4, .int .i64 0, .int .i64 0, .int .i64 5, .int .i64 37, .int .i64 2, .int .i64 0, .int .i64 0, .int .i64 0, .int .i64 38, .int .i64 3, .int .i64 0, .int .i64 0, .int .i64 0, .int .i64 4, .int .i64 2, .int .i64 2, .int .i64 3, .int .i64 0, .int .i64 23, .int .i64 2, .int .i64 0, .int .i64 0, .int .i64 3, .int .i64 27, .int .i64 0, .int .i64 0, .int .i64 0, .int .i64 0, .int .i64 27, .int .i64 0, .int .i64 0, .int .i64 0, .int .i64 0] 23) := ⟨_, rfl⟩
  obtain ⟨g, hg⟩ : ∃ g, g = W2.heap.size := ⟨_, rfl⟩
  have k3 : W3.heap[g]? = some (.cells #[.int .i64 1, .int .i64 2, .int .i64 0, .int .i64 0, .int .i64 524288, .int .i64 1, .int .i64 3, .int .i64 0, .int .i64 0, .int .i64 1, .int .i64 1, .int .i64 4, .int .i64 0, .int .i64 0, .int .i64 5, .int .i64 37, .int .i64 2, .int .i64 0, .int .i64 0, .int .i64 0, .int .i64 38, .int .i64 3, .int .i64 0, .int .i64 0, .int .i64 0, .int .i64 4, .int .i64 2, .int .i64 2, .int .i64 3, .int .i64 0, .int .i64 23, .int .i64 2, .int .i64 0, .int .i64 0, .int .i64 3, .int .i64 27, .int .i64 0, .int .i64 0, .int .i64 0, .int .i64 0, .int .i64 27, .int .i64 0, .int .i64 0, .int .i64 0, .int .i64 0] 23 (0, 0)) := by rw [hW3, hg]; exact heap_alloc_new _ _
  have b3 : Below W2.heap.size W2 W3 := by rw [hW3]; exact below_newR W2 _
  rw [← hW3, ← hg]
  have HB3 : Hid (Below w.heap.size w W3) := HB2.out.trans (b3.mono HB2.out.size)
  have HB23 : Hid _ := b3
  have HON : Hid _ := fu_one w W3 (HT.out.below HB3.out HT.out.1) 0 (by decide) g (stsG_exact (xs := (fuC (fuX 0)).map riv) k3 rfl rfl rfl (by show 9 ≤ _; omega))
  clear hW3 hg k3 b3 l0 a0 a1 a2 a3 a4
  go_wp2_with fail
  refine Calls.mono HON.out ?_
  rintro e w5 ⟨eb, eo, c, rfl, hE, b5⟩
  rw [show (fuE 0).1 = (1 : Int) from rfl, show (fuE 0).2.1 = (0 : Int) from rfl, show (fuE 0).2.2 = (0 : Int) from rfl]
  go_upto_region 5 with fail
  obtain ⟨p, hp⟩ : ∃ p, p = w5.heap.size := ⟨_, rfl⟩
  obtain ⟨w6, hw6⟩ : ∃ W, W = w5.alloc (.cells #[.slice (some ⟨eb, eo, none⟩) 1048576 c, .int .i64 1, .int .i64 0, .int .i64 0, .int .i64 2097156, .int .i64 0, .int .i64 1] 40) := ⟨_, rfl⟩
  rw [← hw6, ← hp]
  have b6 : Below w5.heap.size w5 w6 := by rw [hw6]; exact below_newR w5 _
  have k6 : w6.heap[p]? = some (.cells #[.slice (some ⟨eb, eo, none⟩) 1048576 c, .int .i64 1, .int .i64 0, .int .i64 0, .int .i64 2097156, .int .i64 0, .int .i64 1] 40 (0, 0)) := by rw [hw6, hp]; exact heap_alloc_new _ _
  have b26 : Below W2.heap.size W2 w6 := HB23.out.trans ((b5.mono HB23.out.size).trans (b6.mono (Nat.le_trans HB23.out.size b5.size)))
  have kB6 := (b26.block _ (Array.getElem?_eq_some_iff.1 HKB2.out).1).trans HKB2.out
  have HB6 : Hid (Below w.heap.size w w6) := HB2.out.trans (b26.mono HB2.out.size)
  obtain ⟨le, z0, z1, z2, z3⟩ := hE w6 b6
  have l1 := (Array.getElem?_eq_some_iff.1 kB6).1
  have l6 := (Array.getElem?_eq_some_iff.1 k6).1
  have x0 : w6.cell? ⟨p, 0, none⟩ = some (.slice (some ⟨eb, eo, none⟩) 1048576 c) := cell_arr k6 rfl
  have x1 : w6.cell? ⟨p, 1, none⟩ = some (.int .i64 1) := cell_arr k6 rfl
  have x2 : w6.cell? ⟨p, 2, none⟩ = some (.int .i64 0) := cell_arr k6 rfl
  have x3 : w6.cell? ⟨p, 3, none⟩ = some (.int .i64 0) := cell_arr k6 rfl
  have x4 : w6.cell? ⟨p, 4, none⟩ = some (.int .i64 2097156) := cell_arr k6 rfl
  have x5 : w6.cell? ⟨p, 5, none⟩ = some (.int .i64 0) := cell_arr k6 rfl
  have x6 : w6.cell? ⟨p, 6, none⟩ = some (.int .i64 1) := cell_arr k6 rfl
  have y1 : w6.cell? ⟨p1, 1, none⟩ = some (.int .i64 1) := cell_arr kB6 rfl
  have y2 : w6.cell? ⟨p1, 2, none⟩ = some (.int .i64 0) := cell_arr kB6 rfl
  have y3 : w6.cell? ⟨p1, 3, none⟩ = some (.int .i64 0) := cell_arr kB6 rfl
  clear hw6 hp b6 k6 b26 kB6 hE b5 HB3 HB23 HB2 HKA2 HKB2 HON HT
  go_upto_region 8 with fail
  go_quiet (fail)
  go_wp2_with fail
  go_ret
  exact ⟨rfl, below_drewN HB6.out _⟩
set_option maxRecDepth 100000 in
set_option maxHeartbeats 8000000 in
theorem full_1 (w : World) (hTab : Tab w) : Calls Tryz.prog 20 #[.int .i64 1] w fun e w' => e = .returned (.bool true) ∧ Below w.heap.size w w' := by
  have HT : Hid (Tab w) := hTab
  clear hTab
  go_enter Tryz.func20, Tryz.ntmps20
  go_upto_region 2 with (refine wpList_store_row rfl 91 _ _ rfl _ #[.int .i64 27, .int .i64 0, .int .i64 0, .int .i64 0, .int .i64 0, .int .i64 35, .int .i64 4, .int .i64 0, .int .i64 0, .int .i64 6, .int .i64 38, .int .i64 4, .int .i64 0, .int .i64 0, .int .i64 0, .int .i64 36, .int .i64 4, .int .i64 0, .int .i64 0, .int .i64 0] rfl rfl 91 _ (heap_alloc_new _ _) (by kernel_rfl) rfl (by kernel_rfl) ?_; rw [setRow_allocR])
  obtain ⟨W1, hW1⟩ : ∃ W, W = w.alloc (.cells #[.int .i64 27, .int .i64 0, .int .i64 0, .int .i64 0, .int .i64 0, .int .i64 35, .int .i64 4, .int .i64 0, .int .i64 0, .int .i64 6, .int .i64 38, .int .i64 4, .int .i64 0, .int .i64 0, .int .i64 0, .int .i64 36, .int .i64 4, .int .i64 0, .int .i64 0, .int .i64 0] 91) := ⟨_, rfl⟩
  obtain ⟨p0, hp0⟩ : ∃ p, p = w.heap.size := ⟨_, rfl⟩
  have kA1 : W1.heap[p0]? = some (.cells #[.int .i64 27, .int .i64 0, .int .i64 0, .int .i64 0, .int .i64 0, .int .i64 35, .int .i64 4, .int .i64 0, .int .i64 0, .int .i64 6, .int .i64 38, .int .i64 4, .int .i64 0, .int .i64 0, .int .i64 0, .int .i64 36, .int .i64 4, .int .i64 0, .int .i64 0, .int .i64 0] 91 (0, 0)) := by rw [hW1, hp0]; exact heap_alloc_new _ _
  have b1 : Below w.heap.size w W1 := by rw [hW1]; exact below_newR w _
  rw [← hW1, ← hp0]
  have HKA : Hid _ := kA1
  have HB1 : Hid _ := b1
  have HP0 : Hid _ := hp0
  clear hW1 hp0 kA1 b1
  go_upto_region 3 with (refine wpList_store_row rfl 92 _ _ rfl _ #[.slice none 0 0, .int .i64 1, .int .i64 0, .int .i64 0, .int .i64 0, .int .i64 0, .int .i64 0, .slice none 0 0, .int .i64 2, .int .i64 6, .int .i64 5, .int .i64 0, .int .i64 0, .int .i64 0, .slice none 0 0, .int .i64 3, .int .i64 5, .int .i64 0, .int .i64 0, .int .i64 0, .int .i64 0, .slice none 0 0, .int .i64 2, .int .i64 5, .int .i64 0, .int .i64 0, .int .i64 0, .int .i64 0] rfl rfl 92 _ (heap_alloc_new _ _) (by kernel_rfl) rfl (by kernel_rfl) ?_; rw [setRow_allocR])
  obtain ⟨W2, hW2⟩ : ∃ W, W = W1.alloc (.cells #[.slice none 0 0, .int .i64 1, .int .i64 0, .int .i64 0, .int .i64 0, .int .i64 0, .int .i64 0, .slice none 0 0, .int .i64 2, .int .i64 6, .int .i64 5, .int .i64 0, .int .i64 0, .int .i64 0, .slice none 0 0, .int .i64 3, .int .i64 5, .int .i64 0, .int .i64 0, .int .i64 0, .int .i64 0, .slice none 0 0, .int .i64 2, .int .i64 5, .int .i64 0, .int .i64 0, .int .i64 0, .int .i64 0] 92) := ⟨_, rfl⟩
  obtain ⟨p1, hp1⟩ : ∃ p, p = W1.heap.size := ⟨_, rfl⟩
  have kB2 : W2.heap[p1]? = some (.cells #[.slice none 0 0, .int .i64 1, .int .i64 0, .int .i64 0, .int .i64 0, .int .i64 0, .int .i64 0, .slice none 0 0, .int .i64 2, .int .i64 6, .int .i64 5, .int .i64 0, .int .i64 0, .int .i64 0, .slice none 0 0, .int .i64 3, .int .i64 5, .int .i64 0, .int .i64 0, .int .i64 0, .int .i64 0, .slice none 0 0, .int .i64 2, .int .i64 5, .int .i64 0, .int .i64 0, .int .i64 0, .int .i64 0] 92 (0, 0)) := by rw [hW2, hp1]; exact heap_alloc_new _ _
  have b2 : Below W1.heap.size W1 W2 := by rw [hW2]; exact below_newR W1 _
  have kA2 := (b2.block _ (Array.getElem?_eq_some_iff.1 HKA.out).1).trans HKA.out
  rw [← hW2, ← hp1]
  have l0 := (Array.getElem?_eq_some_iff.1 kA2).1
  have a0 : W2.cell? ⟨p0, 5, none⟩ = some (.int .i64 35) := cell_arr kA2 rfl
  have a1 : W2.cell? ⟨p0, 6, none⟩ = some (.int .i64 4) := cell_arr kA2 rfl
  have a2 : W2.cell? ⟨p0, 7, none⟩ = some (.int .i64 0) := cell_arr kA2 rfl
  have a3 : W2.cell? ⟨p0, 8, none⟩ = some (.int .i64 0) := cell_arr kA2 rfl
  have a4 : W2.cell? ⟨p0, 9, none⟩ = some (.int .i64 6) := cell_arr kA2 rfl
  have HKA2 : Hid _ := kA2
  have HKB2 : Hid _ := kB2
  have HB2 : Hid (Below w.heap.size w W2) := HB1.out.trans (b2.mono HB1.out.size)
  clear hW2 hp1 kB2 b2 kA2 HKA HB1
  go_upto_region 4 with fail
  obtain ⟨W3, hW3⟩ : ∃ W, W = W2.alloc (.cells #[.int .i64 1, .int .i64 2, .int .i64 0, .int .i64 0, .int .i64 524288, .int .i64 1, .int .i64 3, .int .i64 0, .int .i64 0, .int .i64 1, .int .i64 1, .int .i64 4, .int .i64 0, .int .i64 0, .int .i64 5, .int .i64 37, .int .i64 2, .int .i64 0, .int .i64 0, .int .i64 0, .int .i64 38, .int .i64 3, .int .i64 0, .int .i64 0, .int .i64 0, .int .i64 4, .int .i64 2, .int .i64 2, .int .i64 3, .int .i64 0, .int .i64 23, .int .i64 2, .int .i64 0, .int .i64 0, .int .i64 3, .int .i64 35, .int .i64 4, .int .i64 0, .int .i64 0, .int .i64 6, .int .i64 27, .int .i64 0, .int .i64 0, .int .i64 0, .int .i64 0] 23) := ⟨_, rfl⟩
  obtain ⟨g, hg⟩ : ∃ g, g = W2.heap.size := ⟨_, rfl⟩
  have k3 : W3.heap[g]? = some (.cells #[.int .i64 1, .int .i64 2, .int .i64 0, .int .i64 0, .int .i64 524288, .int .i64 1, .int .i64 3, .int .i64 0, .int .i64 0, .int .i64 1, .int .i64 1, .int .i64 4, .int .i64 0, .int .i64 0, .int .i64 5, .int .i64 37, .int .i64 2, .int .i64 0, .int .i64 0, .int .i64 0, .int .i64 38, .int .i64 3, .int .i64 0, .int .i64 0, .int .i64 0, .int .i64 4, .int .i64 2, .int .i64 2, .int .i64 3, .int .i64 0, .int .i64 23, .int .i64 2, .int .i64 0, .int .i64 0, .int .i64 3, .int .i64 35, .int .i64 4, .int .i64 0, .int .i64 0, .int .i64 6, .int .i64 27, .int .i64 0, .int .i64 0, .int .i64 0, .int .i64 0] 23 (0, 0)) := by rw [hW3, hg]; exact heap_alloc_new _ _
  have b3 : Below W2.heap.size W2 W3 := by rw [hW3]; exact below_newR W2 _
  rw [← hW3, ← hg]
  have HB3 : Hid (Below w.heap.size w W3) := HB2.out.trans (b3.mono HB2.out.size)
  have HB23 : Hid _ := b3
  have HON : Hid _ := fu_one w W3 (HT.out.below HB3.out HT.out.1) 1 (by decide) g (stsG_exact (xs := (fuC (fuX 1)).map riv) k3 rfl rfl rfl (by show 9 ≤ _; omega))
  clear hW3 hg k3 b3 l0 a0 a1 a2 a3 a4
  go_wp2_with fail
  refine Calls.mono HON.out ?_
  rintro e w5 ⟨eb, eo, c, rfl, hE, b5⟩
  rw [show (fuE 1).1 = (2 : Int) from rfl, show (fuE 1).2.1 = (6 : Int) from rfl, show (fuE 1).2.2 = (5 : Int) from rfl]
  go_upto_region 5 with fail
  obtain ⟨p, hp⟩ : ∃ p, p = w5.heap.size := ⟨_, rfl⟩
  obtain ⟨w6, hw6⟩ : ∃ W, W = w5.alloc (.cells #[.slice (some ⟨eb, eo, none⟩) 1048576 c, .int .i64 2, .int .i64 6, .int .i64 5, .int .i64 2097156, .int .i64 0, .int .i64 1] 40) := ⟨_, rfl⟩
  rw [← hw6, ← hp]
  have b6 : Below w5.heap.size w5 w6 := by rw [hw6]; exact below_newR w5 _
  have k6 : w6.heap[p]? = some (.cells #[.slice (some ⟨eb, eo, none⟩) 1048576 c, .int .i64 2, .int .i64 6, .int .i64 5, .int .i64 2097156, .int .i64 0, .int .i64 1] 40 (0, 0)) := by rw [hw6, hp]; exact heap_alloc_new _ _
  have b26 : Below W2.heap.size W2 w6 := HB23.out.trans ((b5.mono HB23.out.size).trans (b6.mono (Nat.le_trans HB23.out.size b5.size)))
  have kB6 := (b26.block _ (Array.getElem?_eq_some_iff.1 HKB2.out).1).trans HKB2.out
  have HB6 : Hid (Below w.heap.size w w6) := HB2.out.trans (b26.mono HB2.out.size)
  obtain ⟨le, z0, z1, z2, z3⟩ := hE w6 b6
  have l1 := (Array.getElem?_eq_some_iff.1 kB6).1
  have l6 := (Array.getElem?_eq_some_iff.1 k6).1
  have x0 : w6.cell? ⟨p, 0, none⟩ = some (.slice (some ⟨eb, eo, none⟩) 1048576 c) := cell_arr k6 rfl
  have x1 : w6.cell? ⟨p, 1, none⟩ = some (.int .i64 2) := cell_arr k6 rfl
  have x2 : w6.cell? ⟨p, 2, none⟩ = some (.int .i64 6) := cell_arr k6 rfl
  have x3 : w6.cell? ⟨p, 3, none⟩ = some (.int .i64 5) := cell_arr k6 rfl
  have x4 : w6.cell? ⟨p, 4, none⟩ = some (.int .i64 2097156) := cell_arr k6 rfl
  have x5 : w6.cell? ⟨p, 5, none⟩ = some (.int .i64 0) := cell_arr k6 rfl
  have x6 : w6.cell? ⟨p, 6, none⟩ = some (.int .i64 1) := cell_arr k6 rfl
  have y1 : w6.cell? ⟨p1, 8, none⟩ = some (.int .i64 2) := cell_arr kB6 rfl
  have y2 : w6.cell? ⟨p1, 9, none⟩ = some (.int .i64 6) := cell_arr kB6 rfl
  have y3 : w6.cell? ⟨p1, 10, none⟩ = some (.int .i64 5) := cell_arr kB6 rfl
  clear hw6 hp b6 k6 b26 kB6 hE b5 HB3 HB23 HB2 HKA2 HKB2 HON HT
  go_upto_region 8 with fail
  go_quiet (fail)
  go_wp2_with fail
  go_ret
  exact ⟨rfl, below_drewN HB6.out _⟩
set_option maxRecDepth 100000 in
set_option maxHeartbeats 8000000 in
theorem full_2 (w : World) (hTab : Tab w) : Calls Tryz.prog 20 #[.int .i64 2] w fun e w' => e = .returned (.bool true) ∧ Below w.heap.size w w' := by
  have HT : Hid (Tab w) := hTab
  clear hTab
  go_enter Tryz.func20, Tryz.ntmps20
  go_upto_region 2 with (refine wpList_store_row rfl 91 _ _ rfl _ #[.int .i64 27, .int .i64 0, .int .i64 0, .int .i64 0, .int .i64 0, .int .i64 35, .int .i64 4, .int .i64 0, .int .i64 0, .int .i64 6, .int .i64 38, .int .i64 4, .int .i64 0, .int .i64 0, .int .i64 0, .int .i64 36, .int .i64 4, .int .i64 0, .int .i64 0, .int .i64 0] rfl rfl 91 _ (heap_alloc_new _ _) (by kernel_rfl) rfl (by kernel_rfl) ?_; rw [setRow_allocR])
  obtain ⟨W1, hW1⟩ : ∃ W, W = w.alloc (.cells #[.int .i64 27, .int .i64 0, .int .i64 0, .int .i64 0, .int .i64 0, .int .i64 35, .int .i64 4, .int .i64 0, .int .i64 0, .int .i64 6, .int .i64 38, .int .i64 4, .int .i64 0, .int .i64 0, .int .i64 0, .int .i64 36, .int .i64 4, .int .i64 0, .int .i64 0, .int .i64 0] 91) := ⟨_, rfl⟩
  obtain ⟨p0, hp0⟩ : ∃ p, p = w.heap.size := ⟨_, rfl⟩
  have kA1 : W1.heap[p0]? = some (.cells #[.int .i64 27, .int .i64 0, .int .i64 0, .int .i64 0, .int .i64 0, .int .i64 35, .int .i64 4, .int .i64 0, .int .i64 0, .int .i64 6, .int .i64 38, .int .i64 4, .int .i64 0, .int .i64 0, .int .i64 0, .int .i64 36, .int .i64 4, .int .i64 0, .int .i64 0, .int .i64 0] 91 (0, 0)) := by rw [hW1, hp0]; exact heap_alloc_new _ _
  have b1 : Below w.heap.size w W1 := by rw [hW1]; exact below_newR w _
  rw [← hW1, ← hp0]
  have HKA : Hid _ := kA1
  have HB1 : Hid _ := b1
  have HP0 : Hid _ := hp0
  clear hW1 hp0 kA1 b1
  go_upto_region 3 with (refine wpList_store_row rfl 92 _ _ rfl _ #[.slice none 0 0, .int .i64 1, .int .i64 0, .int .i64 0, .int .i64 0, .int .i64 0, .int .i64 0, .slice none 0 0, .int .i64 2, .int .i64 6, .int .i64 5, .int .i64 0, .int .i64 0, .int .i64 0, .slice none 0 0, .int .i64 3, .int .i64 5, .int .i64 0, .int .i64 0, .int .i64 0, .int .i64 0, .slice none 0 0, .int .i64 2, .int .i64 5, .int .i64 0, .int .i64 0, .int .i64 0, .int .i64 0] rfl rfl 92 _ (heap_alloc_new _ _) (by kernel_rfl) rfl (by kernel_rfl) ?_; rw [setRow_allocR])
  obtain ⟨W2, hW2⟩ : ∃ W, W = W1.alloc (.cells #[.slice none 0 0, .int .i64 1, .int .i64 0, .int .i64 0, .int .i64 0, .int .i64 0, .int .i64 0, .slice none 0 0, .int .i64 2, .int .i64 6, .int .i64 5, .int .i64 0, .int .i64 0, .int .i64 0, .slice none 0 0, .int .i64 3, .int .i64 5, .int .i64 0, .int .i64 0, .int .i64 0, .int .i64 0, .slice none 0 0, .int .i64 2, .int .i64 5, .int .i64 0, .int .i64 0, .int .i64 0, .int .i64 0] 92) := ⟨_, rfl⟩
  obtain ⟨p1, hp1⟩ : ∃ p, p = W1.heap.size := ⟨_, rfl⟩
  have kB2 : W2.heap[p1]? = some (.cells #[.slice none 0 0, .int .i64 1, .int .i64 0, .int .i64 0, .int .i64 0, .int .i64 0, .int .i64 0, .slice none 0 0, .int .i64 2, .int .i64 6, .int .i64 5, .int .i64 0, .int .i64 0, .int .i64 0, .slice none 0 0, .int .i64 3, .int .i64 5, .int .i64 0, .int .i64 0, .int .i64 0, .int .i64 0, .slice none 0 0, .int .i64 2, .int .i64 5, .int .i64 0, .int .i64 0, .int .i64 0, .int .i64 0] 92 (0, 0)) := by rw [hW2, hp1]; exact heap_alloc_new _ _
  have b2 : Below W1.heap.size W1 W2 := by rw [hW2]; exact below_newR W1 _
  have kA2 := (b2.block _ (Array.getElem?_eq_some_iff.1 HKA.out).1).trans HKA.out
  rw [← hW2, ← hp1]
  have l0 := (Array.getElem?_eq_some_iff.1 kA2).1
  have a0 : W2.cell? ⟨p0, 10, none⟩ = some (.int .i64 38) := cell_arr kA2 rfl
  have a1 : W2.cell? ⟨p0, 11, none⟩ = some (.int .i64 4) := cell_arr kA2 rfl
  have a2 : W2.cell? ⟨p0, 12, none⟩ = some (.int .i64 0) := cell_arr kA2 rfl
  have a3 : W2.cell? ⟨p0, 13, none⟩ = some (.int .i64 0) := cell_arr kA2 rfl
  have a4 : W2.cell? ⟨p0, 14, none⟩ = some (.int .i64 0) := cell_arr kA2 rfl
  have HKA2 : Hid _ := kA2
  have HKB2 : Hid _ := kB2
  have HB2 : Hid (Below w.heap.size w W2) := HB1.out.trans (b2.mono HB1.out.size)
  clear hW2 hp1 kB2 b2 kA2 HKA HB1
  go_upto_region 4 with fail
  obtain ⟨W3, hW3⟩ : ∃ W, W = W2.alloc (.cells #[.int .i64 1, .int .i64 2, .int .i64 0, .int .i64 0, .int .i64 524288, .int .i64 1, .int .i64 3, .int .i64 0, .int .i64 0, .int .i64 1, .int .i64 1, .int .i64 4, .int .i64 0, .int .i64 0, .int .i64 5, .int .i64 37, .int .i64 2, .int .i64 0, .int .i64 0, .int .i64 0, .int .i64 38, .int .i64 3, .int .i64 0, .int .i64 0, .int .i64 0, .int .i64 4, .int .i64 2, .int .i64 2, .int .i64 3, .int .i64 0, .int .i64 23, .int .i64 2, .int .i64 0, .int .i64 0, .int .i64 3, .int .i64 38, .int .i64 4, .int .i64 0, .int .i64 0, .int .i64 0, .int .i64 27, .int .i64 0, .int .i64 0, .int .i64 0, .int .i64 0] 23) := ⟨_, rfl⟩
  obtain ⟨g, hg⟩ : ∃ g, g = W2.heap.size := ⟨_, rfl⟩
  have k3 : W3.heap[g]? = some (.cells #[.int .i64 1, .int .i64 2, .int .i64 0, .int .i64 0, .int .i64 524288, .int .i64 1, .int .i64 3, .int .i64 0, .int .i64 0, .int .i64 1, .int .i64 1, .int .i64 4, .int .i64 0, .int .i64 0, .int .i64 5, .int .i64 37, .int .i64 2, .int .i64 0, .int .i64 0, .int .i64 0, .int .i64 38, .int .i64 3, .int .i64 0, .int .i64 0, .int .i64 0, .int .i64 4, .int .i64 2, .int .i64 2, .int .i64 3, .int .i64 0, .int .i64 23, .int .i64 2, .int .i64 0, .int .i64 0, .int .i64 3, .int .i64 38, .int .i64 4, .int .i64 0, .int .i64 0, .int .i64 0, .int .i64 27, .int .i64 0, .int .i64 0, .int .i64 0, .int .i64 0] 23 (0, 0)) := by rw [hW3, hg]; exact heap_alloc_new _ _
  have b3 : Below W2.heap.size W2 W3 := by rw [hW3]; exact below_newR W2 _
  rw [← hW3, ← hg]
  have HB3 : Hid (Below w.heap.size w W3) := HB2.out.trans (b3.mono HB2.out.size)
  have HB23 : Hid _ := b3
  have HON : Hid _ := fu_one w W3 (HT.out.below HB3.out HT.out.1) 2 (by decide) g (stsG_exact (xs := (fuC (fuX 2)).map riv) k3 rfl rfl rfl (by show 9 ≤ _; omega))
  clear hW3 hg k3 b3 l0 a0 a1 a2 a3 a4
  go_wp2_with fail
  refine Calls.mono HON.out ?_
  rintro e w5 ⟨eb, eo, c, rfl, hE, b5⟩
  rw [show (fuE 2).1 = (3 : Int) from rfl, show (fuE 2).2.1 = (5 : Int) from rfl, show (fuE 2).2.2 = (0 : Int) from rfl]
  go_upto_region 5 with fail
  obtain ⟨p, hp⟩ : ∃ p, p = w5.heap.size := ⟨_, rfl⟩
  obtain ⟨w6, hw6⟩ : ∃ W, W = w5.alloc (.cells #[.slice (some ⟨eb, eo, none⟩) 1048576 c, .int .i64 3, .int .i64 5, .int .i64 0, .int .i64 2097156, .int .i64 0, .int .i64 1] 40) := ⟨_, rfl⟩
  rw [← hw6, ← hp]
  have b6 : Below w5.heap.size w5 w6 := by rw [hw6]; exact below_newR w5 _
  have k6 : w6.heap[p]? = some (.cells #[.slice (some ⟨eb, eo, none⟩) 1048576 c, .int .i64 3, .int .i64 5, .int .i64 0, .int .i64 2097156, .int .i64 0, .int .i64 1] 40 (0, 0)) := by rw [hw6, hp]; exact heap_alloc_new _ _
  have b26 : Below W2.heap.size W2 w6 := HB23.out.trans ((b5.mono HB23.out.size).trans (b6.mono (Nat.le_trans HB23.out.size b5.size)))
  have kB6 := (b26.block _ (Array.getElem?_eq_some_iff.1 HKB2.out).1).trans HKB2.out
  have HB6 : Hid (Below w.heap.size w w6) := HB2.out.trans (b26.mono HB2.out.size)
  obtain ⟨le, z0, z1, z2, z3⟩ := hE w6 b6
  have l1 := (Array.getElem?_eq_some_iff.1 kB6).1
  have l6 := (Array.getElem?_eq_some_iff.1 k6).1
  have x0 : w6.cell? ⟨p, 0, none⟩ = some (.slice (some ⟨eb, eo, none⟩) 1048576 c) := cell_arr k6 rfl
  have x1 : w6.cell? ⟨p, 1, none⟩ = some (.int .i64 3) := cell_arr k6 rfl
  have x2 : w6.cell? ⟨p, 2, none⟩ = some (.int .i64 5) := cell_arr k6 rfl
  have x3 : w6.cell? ⟨p, 3, none⟩ = some (.int .i64 0) := cell_arr k6 rfl
  have x4 : w6.cell? ⟨p, 4, none⟩ = some (.int .i64 2097156) := cell_arr k6 rfl
  have x5 : w6.cell? ⟨p, 5, none⟩ = some (.int .i64 0) := cell_arr k6 rfl
  have x6 : w6.cell? ⟨p, 6, none⟩ = some (.int .i64 1) := cell_arr k6 rfl
  have y1 : w6.cell? ⟨p1, 15, none⟩ = some (.int .i64 3) := cell_arr kB6 rfl
  have y2 : w6.cell? ⟨p1, 16, none⟩ = some (.int .i64 5) := cell_arr kB6 rfl
  have y3 : w6.cell? ⟨p1, 17, none⟩ = some (.int .i64 0) := cell_arr kB6 rfl
  clear hw6 hp b6 k6 b26 kB6 hE b5 HB3 HB23 HB2 HKA2 HKB2 HON HT
  go_upto_region 8 with fail
  go_quiet (fail)
  go_wp2_with fail
  go_ret
  exact ⟨rfl, below_drewN HB6.out _⟩
set_option maxRecDepth 100000 in
set_option maxHeartbeats 8000000 in
theorem full_3 (w : World) (hTab : Tab w) : Calls Tryz.prog 20 #[.int .i64 3] w fun e w' => e = .returned (.bool true) ∧ Below w.heap.size w w' := by
  have HT : Hid (Tab w) := hTab
  clear hTab
  go_enter Tryz.func20, Tryz.ntmps20
  go_upto_region 2 with (refine wpList_store_row rfl 91 _ _ rfl _ #[.int .i64 27, .int .i64 0, .int .i64 0, .int .i64 0, .int .i64 0, .int .i64 35, .int .i64 4, .int .i64 0, .int .i64 0, .int .i64 6, .int .i64 38, .int .i64 4, .int .i64 0, .int .i64 0, .int .i64 0, .int .i64 36, .int .i64 4, .int .i64 0, .int .i64 0, .int .i64 0] rfl rfl 91 _ (heap_alloc_new _ _) (by kernel_rfl) rfl (by kernel_rfl) ?_; rw [setRow_allocR])
  obtain ⟨W1, hW1⟩ : ∃ W, W = w.alloc (.cells #[.int .i64 27, .int .i64 0, .int .i64 0, .int .i64 0, .int .i64 0, .int .i64 35, .int .i64 4, .int .i64 0, .int .i64 0, .int .i64 6, .int .i64 38, .int .i64 4, .int .i64 0, .int .i64 0, .int .i64 0, .int .i64 36, .int .i64 4, .int .i64 0, .int .i64 0, .int .i64 0] 91) := ⟨_, rfl⟩
  obtain ⟨p0, hp0⟩ : ∃ p, p = w.heap.size := ⟨_, rfl⟩
  have kA1 : W1.heap[p0]? = some (.cells #[.int .i64 27, .int .i64 0, .int .i64 0, .int .i64 0, .int .i64 0, .int .i64 35, .int .i64 4, .int .i64 0, .int .i64 0, .int .i64 6, .int .i64 38, .int .i64 4, .int .i64 0, .int .i64 0, .int .i64 0, .int .i64 36, .int .i64 4, .int .i64 0, .int .i64 0, .int .i64 0] 91 (0, 0)) := by rw [hW1, hp0]; exact heap_alloc_new _ _
  have b1 : Below w.heap.size w W1 := by rw [hW1]; exact below_newR w _
  rw [← hW1, ← hp0]
  have HKA : Hid _ := kA1
  have HB1 : Hid _ := b1
  have HP0 : Hid _ := hp0
  clear hW1 hp0 kA1 b1
  go_upto_region 3 with (refine wpList_store_row rfl 92 _ _ rfl _ #[.slice none 0 0, .int .i64 1, .int .i64 0, .int .i64 0, .int .i64 0, .int .i64 0, .int .i64 0, .slice none 0 0, .int .i64 2, .int .i64 6, .int .i64 5, .int .i64 0, .int .i64 0, .int .i64 0, .slice none 0 0, .int .i64 3, .int .i64 5, .int .i64 0, .int .i64 0, .int .i64 0, .int .i64 0, .slice none 0 0, .int .i64 2, .int .i64 5, .int .i64 0, .int .i64 0, .int .i64 0, .int .i64 0] rfl rfl 92 _ (heap_alloc_new _ _) (by kernel_rfl) rfl (by kernel_rfl) ?_; rw [setRow_allocR])
  obtain ⟨W2, hW2⟩ : ∃ W, W = W1.alloc (.cells #[.slice none 0 0, .int .i64 1, .int .i64 0, .int .i64 0, .int .i64 0, .int .i64 0, .int .i64 0, .slice none 0 0, .int .i64 2, .int .i64 6, .int .i64 5, .int .i64 0, .int .i64 0, .int .i64 0, .slice none 0 0, .int .i64 3, .int .i64 5, .int .i64 0, .int .i64 0, .int .i64 0, .int .i64 0, .slice none 0 0, .int .i64 2, .int .i64 5, .int .i64 0, .int .i64 0, .int .i64 0, .int .i64 0] 92) := ⟨_, rfl⟩
  obtain ⟨p1, hp1⟩ : ∃ p, p = W1.heap.size := ⟨_, rfl⟩
  have kB2 : W2.heap[p1]? = some (.cells #[.slice none 0 0, .int .i64 1, .int .i64 0, .int .i64 0, .int .i64 0, .int .i64 0, .int .i64 0, .slice none 0 0, .int .i64 2, .int .i64 6, .int .i64 5, .int .i64 0, .int .i64 0, .int .i64 0, .slice none 0 0, .int .i64 3, .int .i64 5, .int .i64 0, .int .i64 0, .int .i64 0, .int .i64 0, .slice none 0 0, .int .i64 2, .int .i64 5, .int .i64 0, .int .i64 0, .int .i64 0, .int .i64 0] 92 (0, 0)) := by rw [hW2, hp1]; exact heap_alloc_new _ _
  have b2 : Below W1.heap.size W1 W2 := by rw [hW2]; exact below_newR W1 _
  have kA2 := (b2.block _ (Array.getElem?_eq_some_iff.1 HKA.out).1).trans HKA.out
  rw [← hW2, ← hp1]
  have l0 := (Array.getElem?_eq_some_iff.1 kA2).1
  have a0 : W2.cell? ⟨p0, 15, none⟩ = some (.int .i64 36) := cell_arr kA2 rfl
  have a1 : W2.cell? ⟨p0, 16, none⟩ = some (.int .i64 4) := cell_arr kA2 rfl
  have a2 : W2.cell? ⟨p0, 17, none⟩ = some (.int .i64 0) := cell_arr kA2 rfl
  have a3 : W2.cell? ⟨p0, 18, none⟩ = some (.int .i64 0) := cell_arr kA2 rfl
  have a4 : W2.cell? ⟨p0, 19, none⟩ = some (.int .i64 0) := cell_arr kA2 rfl
  have HKA2 : Hid _ := kA2
  have HKB2 : Hid _ := kB2
  have HB2 : Hid (Below w.heap.size w W2) := HB1.out.trans (b2.mono HB1.out.size)
  clear hW2 hp1 kB2 b2 kA2 HKA HB1
  go_upto_region 4 with fail
  obtain ⟨W3, hW3⟩ : ∃ W, W = W2.alloc (.cells #[.int .i64 1, .int .i64 2, .int .i64 0, .int .i64 0, .int .i64 524288, .int .i64 1, .int .i64 3, .int .i64 0, .int .i64 0, .int .i64 1, .int .i64 1, .int .i64 4, .int .i64 0, .int .i64 0, .int .i64 5, .int .i64 37, .int .i64 2, .int .i64 0, .int .i64 0, .int .i64 0, .int .i64 38, .int .i64 3, .int .i64 0, .int .i64 0, .int .i64 0, .int .i64 4, .int .i64 2, .int .i64 2, .int .i64 3, .int .i64 0, .int .i64 23, .int .i64 2, .int .i64 0, .int .i64 0, .int .i64 3, .int .i64 36, .int .i64 4, .int .i64 0, .int .i64 0, .int .i64 0, .int .i64 27, .int .i64 0, .int .i64 0, .int .i64 0, .int .i64 0] 23) := ⟨_, rfl⟩
  obtain ⟨g, hg⟩ : ∃ g, g = W2.heap.size := ⟨_, rfl⟩
  have k3 : W3.heap[g]? = some (.cells #[.int .i64 1, .int .i64 2, .int .i64 0, .int .i64 0, .int .i64 524288, .int .i64 1, .int .i64 3, .int .i64 0, .int .i64 0, .int .i64 1, .int .i64 1, .int .i64 4, .int .i64 0, .int .i64 0, .int .i64 5, .int .i64 37, .int .i64 2, .int .i64 0, .int .i64 0, .int .i64 0, .int .i64 38, .int .i64 3, .int .i64 0, .int .i64 0, .int .i64 0, .int .i64 4, .int .i64 2, .int .i64 2, .int .i64 3, .int .i64 0, .int .i64 23, .int .i64 2, .int .i64 0, .int .i64 0, .int .i64 3, .int .i64 36, .int .i64 4, .int .i64 0, .int .i64 0, .int .i64 0, .int .i64 27, .int .i64 0, .int .i64 0, .int .i64 0, .int .i64 0] 23 (0, 0)) := by rw [hW3, hg]; exact heap_alloc_new _ _
  have b3 : Below W2.heap.size W2 W3 := by rw [hW3]; exact below_newR W2 _
  rw [← hW3, ← hg]
  have HB3 : Hid (Below w.heap.size w W3) := HB2.out.trans (b3.mono HB2.out.size)
  have HB23 : Hid _ := b3
  have HON : Hid _ := fu_one w W3 (HT.out.below HB3.out HT.out.1) 3 (by decide) g (stsG_exact (xs := (fuC (fuX 3)).map riv) k3 rfl rfl rfl (by show 9 ≤ _; omega))
  clear hW3 hg k3 b3 l0 a0 a1 a2 a3 a4
  go_wp2_with fail
  refine Calls.mono HON.out ?_
  rintro e w5 ⟨eb, eo, c, rfl, hE, b5⟩
  rw [show (fuE 3).1 = (2 : Int) from rfl, show (fuE 3).2.1 = (5 : Int) from rfl, show (fuE 3).2.2 = (0 : Int) from rfl]
  go_upto_region 5 with fail
  obtain ⟨p, hp⟩ : ∃ p, p = w5.heap.size := ⟨_, rfl⟩
  obtain ⟨w6, hw6⟩ : ∃ W, W = w5.alloc (.cells #[.slice (some ⟨eb, eo, none⟩) 1048576 c, .int .i64 2, .int .i64 5, .int .i64 0, .int .i64 2097156, .int .i64 0, .int .i64 1] 40) := ⟨_, rfl⟩
  rw [← hw6, ← hp]
  have b6 : Below w5.heap.size w5 w6 := by rw [hw6]; exact below_newR w5 _
  have k6 : w6.heap[p]? = some (.cells #[.slice (some ⟨eb, eo, none⟩) 1048576 c, .int .i64 2, .int .i64 5, .int .i64 0, .int .i64 2097156, .int .i64 0, .int .i64 1] 40 (0, 0)) := by rw [hw6, hp]; exact heap_alloc_new _ _
  have b26 : Below W2.heap.size W2 w6 := HB23.out.trans ((b5.mono HB23.out.size).trans (b6.mono (Nat.le_trans HB23.out.size b5.size)))
  have kB6 := (b26.block _ (Array.getElem?_eq_some_iff.1 HKB2.out).1).trans HKB2.out
  have HB6 : Hid (Below w.heap.size w w6) := HB2.out.trans (b26.mono HB2.out.size)
  obtain ⟨le, z0, z1, z2, z3⟩ := hE w6 b6
  have l1 := (Array.getElem?_eq_some_iff.1 kB6).1
  have l6 := (Array.getElem?_eq_some_iff.1 k6).1
  have x0 : w6.cell? ⟨p, 0, none⟩ = some (.slice (some ⟨eb, eo, none⟩) 1048576 c) := cell_arr k6 rfl
  have x1 : w6.cell? ⟨p, 1, none⟩ = some (.int .i64 2) := cell_arr k6 rfl
  have x2 : w6.cell? ⟨p, 2, none⟩ = some (.int .i64 5) := cell_arr k6 rfl
  have x3 : w6.cell? ⟨p, 3, none⟩ = some (.int .i64 0) := cell_arr k6 rfl
  have x4 : w6.cell? ⟨p, 4, none⟩ = some (.int .i64 2097156) := cell_arr k6 rfl
  have x5 : w6.cell? ⟨p, 5, none⟩ = some (.int .i64 0) := cell_arr k6 rfl
  have x6 : w6.cell? ⟨p, 6, none⟩ = some (.int .i64 1) := cell_arr k6 rfl
  have y1 : w6.cell? ⟨p1, 22, none⟩ = some (.int .i64 2) := cell_arr kB6 rfl
  have y2 : w6.cell? ⟨p1, 23, none⟩ = some (.int .i64 5) := cell_arr kB6 rfl
  have y3 : w6.cell? ⟨p1, 24, none⟩ = some (.int .i64 0) := cell_arr kB6 rfl
  clear hw6 hp b6 k6 b26 kB6 hE b5 HB3 HB23 HB2 HKA2 HKB2 HON HT
  go_upto_region 8 with fail
  go_quiet (fail)
  go_wp2_with fail
  go_ret
  exact ⟨rfl, below_drewN HB6.out _⟩
end Go.Proofs.YteplldbhfjfbpaaGreatDoor
