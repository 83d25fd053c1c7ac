import Derived.Test.YtdbkjjelaipcfaaDoorSvC
import Derived.Deep.Cut
set_option linter.unusedVariables false
set_option linter.unusedSimpArgs false
namespace Go.Proofs.YtdbkjjelaipcfaaDoor
open Go.ChangeShapes Go.WideShapes Go.ChangeAt Go.RowKit Go.Maps

set_option maxRecDepth 100000 in
set_option maxHeartbeats 8000000 in
theorem ssaLong_mid (w : World) (hTab : Tab w) (m : Nat) (hm : 1 ≤ m) (hm2 : m ≤ 999) : Calls Tryd.prog 3 #[.int .i64 ((m : Int) + 1)] w fun e w' => e = .returned (.bool true) ∧ Below w.heap.size w w' := by
  have HT : Hid (Tab w) := hTab
  have HAL : Hid _ := alive9_any w hTab
  have t1 : decide ((m : Int) + 1 < 2) = false := by rw [decide_eq_false_iff_not]; omega
  have t2 : decide (1000 < (m : Int) + 1) = false := by rw [decide_eq_false_iff_not]; omega
  clear hTab
  go_enter Tryd.func3, Tryd.ntmps3
  go_wp2_with (go_at_call 5; refine Calls.mono HAL.out ?_; rintro e w1 ⟨rfl, hb1⟩)
  obtain ⟨B, hB⟩ : ∃ B, B = w1.heap.size := ⟨_, rfl⟩
  have HLG := show Hid _ from LG.start w1 B hB
  have HB1 : Hid (Below w.heap.size w w1) := hb1
  have HBB : Hid (B = w1.heap.size) := hB
  rw [← hB]
  obtain ⟨w2, hw2⟩ : ∃ w2, w2 = (((w1.alloc (.cells #[.int .i64 0] 3)).alloc (.cells #[.int .i64 1, .int .i64 1, .int .i64 7, .slice none 0 0, .int .i64 26, .int .i64 0, .int .i64 0, .slice (some ⟨B, 0, none⟩) 1 1] 25)).alloc (.cells #[.string ⟨#[109, 97, 105, 110]⟩, .slice none 0 0, .int .i64 0, .slice (some ⟨B + 1, 0, none⟩) 2 2, .slice none 0 0] 29)) := ⟨_, rfl⟩
  rw [← hw2] at HLG ⊢
  clear hw2 hB hb1 HAL
  go_loopw [5] (fun v wr => ∃ (k : Nat) (bv : Value) (g h : Nat → Nat), k ≤ m + 1 ∧ v = .int .i64 k ∧ Hid (LG w1 wr B k bv g h)) (fun v _ => m + 1 - (intOf v).toNat)
  case atStart => exact ⟨0, _, _, _, by omega, rfl, HLG.out⟩
  case round =>
    clear HLG
    obtain ⟨k, bv, g, h, hk, rfl, HL⟩ := hrel
    by_cases hlt : k < m + 1
    · have hL := HL.out
      obtain ⟨va, vc, ev, _, _⟩ := own_slice hL.own
      subst ev
      obtain ⟨s0, hs0⟩ : ∃ s0, s0 = wr.heap.size := ⟨_, rfl⟩
      have hfl := (Array.getElem?_eq_some_iff.1 hL.fo).1
      have f4 : wr.cell? ⟨B + 1 + 1, 4, none⟩ = some (.slice va k vc) := cell_arr (i := 4) hL.fo rfl
      have hfl2 : B + 1 + 1 < wr.heap.size := hfl
      have HS0 : Hid (s0 = wr.heap.size) := hs0
      by_cases h0 : k = 0
      · subst h0
        have b1 := ((Below.refl wr.heap.size wr).alloc (Nat.le_refl _) (.cells #[.int .i64 1] 3)).alloc (by simp) (.cells #[.slice none 0 0, .slice none 0 0, .int .i64 1, .int .i64 (-1), .slice (some ⟨s0, 0, none⟩) 1 1, Value.slice none 0 0] 33)
        obtain ⟨W0, hW0⟩ : ∃ W0, W0 = (wr.alloc (.cells #[.int .i64 1] 3)).alloc (.cells #[.slice none 0 0, .slice none 0 0, .int .i64 1, .int .i64 (-1), .slice (some ⟨s0, 0, none⟩) 1 1, Value.slice none 0 0] 33) := ⟨_, rfl⟩
        rw [← hW0] at b1
        have hL0 := hL.keep b1
        have hg0 : W0.heap[s0]? = some (.cells #[.int .i64 ((0 : Int) + 1)] 3 (0, 0)) := by
          rw [hW0, hs0, heap_alloc_old _ _ (by simp)]; exact heap_alloc_new _ _
        have hsz : B + 3 ≤ W0.heap.size := by have := b1.size; omega
        have MORE : Hid (∀ v6 w6, w6.ownsRow (B + 3) 33 6 v6 (0 + 1) (lgcs g h 0 ++ [.slice none 0 0, .slice none 0 0, .int .i64 1, .int .i64 (-1), .slice (some ⟨s0, 0, none⟩) 1 1, Value.slice none 0 0]) → GI (B + 3) W0 w6 (.slice va 0 vc) v6 → w6.cell? ⟨B + 1 + 1, 4, none⟩ = some (.slice va 0 vc) ∧ w6.frozen? ⟨B + 1 + 1, 4, none⟩ = false ∧ Hid (LG w1 (w6.setCell ⟨B + 1 + 1, 4, none⟩ v6) B (0 + 1) v6 (fun i => if i = 0 then s0 else g i) (fun i => if i = 0 then 0 else h i))) := fun v6 w6 h6 g6 => hL0.more (gn' := s0) (hn' := 0) hg0 (fun q => by omega) h6 g6
        have HOWN : Hid _ := hL0.own
        have HW0 : Hid (W0 = (wr.alloc (.cells #[.int .i64 1] 3)).alloc (.cells #[.slice none 0 0, .slice none 0 0, .int .i64 1, .int .i64 (-1), .slice (some ⟨s0, 0, none⟩) 1 1, Value.slice none 0 0] 33)) := hW0
        have hW0s : W0.heap.size = s0 + 1 + 1 := by rw [hW0, hs0]; simp
        have HWS : Hid (W0.heap.size = s0 + 1 + 1) := hW0s
        have HL0 : Hid _ := hL0
        clear hL hL0 hg0 b1 hW0 hW0s
        have hbx : W0.heap[s0 + 1]? = some (.cells #[.slice none 0 0, .slice none 0 0, .int .i64 1, .int .i64 (-1), .slice (some ⟨s0, 0, none⟩) 1 1, Value.slice none 0 0] 33 (0, 0)) := by
          rw [HW0.out, hs0]
          have := heap_alloc_new (wr.alloc (.cells #[.int .i64 1] 3)) (.cells #[.slice none 0 0, .slice none 0 0, .int .i64 1, .int .i64 (-1), .slice (some ⟨s0, 0, none⟩) 1 1, Value.slice none 0 0] 33)
          rw [hs0] at this
          simpa using this
        obtain ⟨x0, x1, x2, x3, x4, x5⟩ := bcells hbx
        have y4 : W0.cell? ⟨B + 1 + 1, 4, none⟩ = some (.slice va 0 vc) := cell_arr (i := 4) (HL0.out.fo) rfl
        have hbl : s0 + 1 < W0.heap.size := (Array.getElem?_eq_some_iff.1 hbx).1
        go_upto_region 11 with fail
        rw [← hs0]
        rw [← HW0.out]
        clear hs0 hbx f4 hfl hfl2
        go_wp2_with (at_builtin; refine wpList_append_bk (w0 := W0) rfl _ _ rfl (B + 3) (.slice va 0 vc) 0 (lgcs g h 0) [.slice none 0 0, .slice none 0 0, .int .i64 1, .int .i64 (-1), .slice (some ⟨s0, 0, none⟩) 1 1, Value.slice none 0 0] rfl HOWN.out rfl rfl (by intro u hu; simp only [List.mem_cons, List.not_mem_nil, or_false] at hu; rcases hu with rfl | rfl | rfl | rfl | rfl | rfl <;> rfl) (by omega) hsz ?_; intro v6 w6 h6 g6
                     obtain ⟨q1, q2, HNX⟩ := MORE.out v6 w6 h6 g6
                     obtain ⟨a6, c6, e6, _, _⟩ := own_slice h6
                     subst e6
                     clear h6 g6)
        go_roundw
        case rel => exact ⟨0 + 1, _, _, _, by omega, by go_num, HNX.out⟩
        case measure => first | (simp [intOf]; done) | (simp [intOf]; omega)
      · have hkz : ((k : Int) == 0) = false := by simp; omega
        have hkp : decide (0 < (k : Int)) = true := by rw [decide_eq_true_iff]; omega
        have hkn : decide (0 < k) = true := by rw [decide_eq_true_iff]; omega
        have hkl : decide ((k : Int) < (m : Int) + 1) = true := by rw [decide_eq_true_iff]; omega
        have HKZ : Hid (¬ k = 0) := h0
        have b1 := (((Below.refl wr.heap.size wr).alloc (Nat.le_refl _) (.cells #[.int .i64 ((k : Int) + 1)] 3)).alloc (by simp) (.cells #[.slice none 0 0, .slice none 0 0, .int .i64 1, .int .i64 (-1), .slice (some ⟨s0, 0, none⟩) 1 1, Value.slice (some ⟨s0 + 1 + 1, 0, none⟩) 1 1] 33)).alloc (by simp; omega) (.cells #[.int .i64 ((k : Int) - 1)] 3)
        obtain ⟨W0, hW0⟩ : ∃ W0, W0 = ((wr.alloc (.cells #[.int .i64 ((k : Int) + 1)] 3)).alloc (.cells #[.slice none 0 0, .slice none 0 0, .int .i64 1, .int .i64 (-1), .slice (some ⟨s0, 0, none⟩) 1 1, Value.slice (some ⟨s0 + 1 + 1, 0, none⟩) 1 1] 33)).alloc (.cells #[.int .i64 ((k : Int) - 1)] 3) := ⟨_, rfl⟩
        rw [← hW0] at b1
        have hL0 := hL.keep b1
        have hx := fun i h => al_at [.cells #[.int .i64 ((k : Int) + 1)] 3, .cells #[.slice none 0 0, .slice none 0 0, .int .i64 1, .int .i64 (-1), .slice (some ⟨s0, 0, none⟩) 1 1, Value.slice (some ⟨s0 + 1 + 1, 0, none⟩) 1 1] 33, .cells #[.int .i64 ((k : Int) - 1)] 3] wr i h
        have hx0 : W0.heap[s0]? = some (.cells #[.int .i64 ((k : Int) + 1)] 3 (0, 0)) := by rw [hW0, hs0]; rw [hs0] at hx; exact hx 0 (by simp)
        have hx1 : W0.heap[s0 + 1]? = some (.cells #[.slice none 0 0, .slice none 0 0, .int .i64 1, .int .i64 (-1), .slice (some ⟨s0, 0, none⟩) 1 1, Value.slice (some ⟨s0 + 1 + 1, 0, none⟩) 1 1] 33 (0, 0)) := by
          have q := hx 1 (by simp)
          rw [← hs0] at q
          rw [hW0]; exact q
        have hx2 : W0.heap[s0 + 1 + 1]? = some (.cells #[.int .i64 ((k : Int) - 1)] 3 (0, 0)) := by
          have q := hx 2 (by simp)
          rw [← hs0] at q
          rw [hW0]; exact q
        have hsz : B + 3 ≤ W0.heap.size := by have := b1.size; omega
        have eD : lgc (fun i => if i = k then s0 else g i) (fun i => if i = k then s0 + 1 + 1 else h i) k = [.slice none 0 0, .slice none 0 0, .int .i64 1, .int .i64 (-1), .slice (some ⟨s0, 0, none⟩) 1 1, Value.slice (some ⟨s0 + 1 + 1, 0, none⟩) 1 1] := by simp [lgc, h0]
        have MORE : Hid (∀ v6 w6, w6.ownsRow (B + 3) 33 6 v6 (k + 1) (lgcs g h k ++ [.slice none 0 0, .slice none 0 0, .int .i64 1, .int .i64 (-1), .slice (some ⟨s0, 0, none⟩) 1 1, Value.slice (some ⟨s0 + 1 + 1, 0, none⟩) 1 1]) → GI (B + 3) W0 w6 (.slice va k vc) v6 → w6.cell? ⟨B + 1 + 1, 4, none⟩ = some (.slice va k vc) ∧ w6.frozen? ⟨B + 1 + 1, 4, none⟩ = false ∧ Hid (LG w1 (w6.setCell ⟨B + 1 + 1, 4, none⟩ v6) B (k + 1) v6 (fun i => if i = k then s0 else g i) (fun i => if i = k then s0 + 1 + 1 else h i))) := fun v6 w6 h6 g6 => hL0.more (gn' := s0) (hn' := s0 + 1 + 1) hx0 (fun _ => hx2) (by rw [eD]; exact h6) g6
        have HOWN : Hid _ := hL0.own
        have HW0 : Hid (W0 = ((wr.alloc (.cells #[.int .i64 ((k : Int) + 1)] 3)).alloc (.cells #[.slice none 0 0, .slice none 0 0, .int .i64 1, .int .i64 (-1), .slice (some ⟨s0, 0, none⟩) 1 1, Value.slice (some ⟨s0 + 1 + 1, 0, none⟩) 1 1] 33)).alloc (.cells #[.int .i64 ((k : Int) - 1)] 3)) := hW0
        obtain ⟨x0, x1, x2, x3, x4, x5⟩ := bcells hx1
        have y4 : W0.cell? ⟨B + 1 + 1, 4, none⟩ = some (.slice va k vc) := cell_arr (i := 4) hL0.fo rfl
        have hbl : s0 + 1 < W0.heap.size := (Array.getElem?_eq_some_iff.1 hx1).1
        clear hL hL0 hx0 hx1 hx2 hx b1 hW0 eD h0
        go_upto_region 11 with fail
        rw [← hs0]
        rw [← HW0.out]
        clear hs0 f4 hfl hfl2
        go_wp2_with (at_builtin; refine wpList_append_bk (w0 := W0) rfl _ _ rfl (B + 3) (.slice va k vc) k (lgcs g h k) [.slice none 0 0, .slice none 0 0, .int .i64 1, .int .i64 (-1), .slice (some ⟨s0, 0, none⟩) 1 1, Value.slice (some ⟨s0 + 1 + 1, 0, none⟩) 1 1] rfl HOWN.out rfl rfl (by intro u hu; simp only [List.mem_cons, List.not_mem_nil, or_false] at hu; rcases hu with rfl | rfl | rfl | rfl | rfl | rfl <;> rfl) (by omega) hsz ?_; intro v6 w6 h6 g6
                     obtain ⟨q1, q2, HNX⟩ := MORE.out v6 w6 h6 g6
                     obtain ⟨a6, c6, e6, _, _⟩ := own_slice h6
                     subst e6
                     clear h6 g6)
        go_roundw
        case rel => exact ⟨k + 1, _, _, _, by omega, by go_num, HNX.out⟩
        case measure => simp [intOf]; omega
    · have hkm : k = m + 1 := by omega
      subst hkm
      have hL := HL.out
      obtain ⟨rb, cap, ev, hc1, hc2, hrb, hrl⟩ := own_some hL.own (by omega)
      subst ev
      have hS := hL.st hrb
      have HCH : Hid (∀ (a z : List Int) (R : Int) (W : World) (sf : Nat) (aa : Option Addr) (ac : Nat) (za : Option Addr) (zc : Nat), Abz a z → checkP [cnF (m + 1) a z] 0 = R → ST w1 W B rb cap m (cnC g h (m + 1) (.slice aa a.length ac) (.slice za z.length zc)) g h → W.heap[sf]? = some (.cells #[.string ⟨#[109, 97, 105, 110]⟩, .slice none 0 0, .int .i64 0, .slice (some ⟨B + 1, 0, none⟩) 2 2, .slice (some ⟨rb, 0, none⟩) (m + 1) cap] 29 (0, 0)) → Ints W aa ac a → Ints W za zc z → Calls Tryd.prog 6 #[.agg #[.slice (some ⟨sf, 0, none⟩) 1 1, .int .i64 0]] W fun e w' => e = .returned (.int .i64 R) ∧ Below W.heap.size W w') := fun a z R W sf aa ac za zc hab hR hS hsf ha hz => by
        have hbW : Below w.heap.size w W := HB1.out.trans (hS.low.mono (by have := HBB.out; have := HB1.out.size; omega))
        exact check_any W (HT.out.below hbW HT.out.1) _ 1 1 [cnF (m + 1) a z] rfl (hS.fus hm2 hc1 hc2 hsf ha hz) (by omega) (fun f hf => by simp at hf; subst hf; exact cn_few (by omega) hab) 0 R hR
      have HLW : Hid (∀ W c, ST w1 W B rb cap m c g h → Below w.heap.size w W) := fun W c S => HB1.out.trans (S.low.mono (by have := HBB.out; have := HB1.out.size; omega))
      clear HL hL
      -- the first body
      obtain ⟨s0, hs0⟩ : ∃ s0, s0 = wr.heap.size := ⟨_, rfl⟩
      have HS1 := show Hid _ from (hS.set (i := 0) (r := 1) (by omega) (by omega) (.slice (some ⟨s0, 0, none⟩) 1 1)).keep (below_new _ (.cells #[.int .i64 0] 3))
      have r0 := heap_alloc_new (wr.setCell ⟨rb, 0 * 6 + 1, none⟩ (.slice (some ⟨s0, 0, none⟩) 1 1)) (.cells #[.int .i64 0] 3)
      rw [set_size, ← hs0] at r0
      obtain ⟨f0, f1, f2, f3, f4, f5⟩ := hS.f4
      obtain ⟨k1, k2, k3⟩ := hS.rc.cell (i := 0) (r := 1) (by omega) (by omega)
      obtain ⟨W1, hW1⟩ : ∃ W1, W1 = (wr.setCell ⟨rb, 1, none⟩ (.slice (some ⟨s0, 0, none⟩) 1 1)).alloc (.cells #[.int .i64 0] 3) := ⟨_, rfl⟩
      rw [show (wr.setCell ⟨rb, 0 * 6 + 1, none⟩ (.slice (some ⟨s0, 0, none⟩) 1 1)).alloc (.cells #[.int .i64 0] 3) = W1 from hW1.symm] at HS1 r0
      have R0 : Hid _ := r0
      clear hS r0
      go_upto_region 13 with fail
      rw [← hs0, ← hW1]
      clear hs0 hW1 f0 f1 f2 f3 f4 f5 k1 k2 k3
      -- the last body
      obtain ⟨s1, hs1⟩ : ∃ s1, s1 = W1.heap.size := ⟨_, rfl⟩
      have hS := HS1.out
      have HS2 := show Hid _ from (hS.set (i := m) (r := 1) (by omega) (by omega) (.slice (some ⟨s1, 0, none⟩) 1 1)).keep (below_new _ (.cells #[.int .i64 1] 3))
      have r1 := heap_alloc_new (W1.setCell ⟨rb, m * 6 + 1, none⟩ (.slice (some ⟨s1, 0, none⟩) 1 1)) (.cells #[.int .i64 1] 3)
      have r0 := ((below_new _ (.cells #[.int .i64 1] 3)).block s0 (by rw [set_size]; exact (Array.getElem?_eq_some_iff.1 R0.out).1)).trans (hS.rc.other (m * 6 + 1) (.slice (some ⟨s1, 0, none⟩) 1 1) R0.out (by decide))
      rw [set_size, ← hs1] at r1
      obtain ⟨f0, f1, f2, f3, f4, f5⟩ := hS.f4
      obtain ⟨k1, k2, k3⟩ := hS.rc.cell (i := m) (r := 1) (by omega) (by omega)
      obtain ⟨W2, hW2⟩ : ∃ W2, W2 = (W1.setCell ⟨rb, m * 6 + 1, none⟩ (.slice (some ⟨s1, 0, none⟩) 1 1)).alloc (.cells #[.int .i64 1] 3) := ⟨_, rfl⟩
      rw [← hW2] at HS2 r1 r0
      have R1 : Hid _ := r1
      have R02 : Hid _ := r0
      clear hS r0 r1 HS1 R0
      go_upto_region 14 with fail
      rw [← hs1, ← hW2]
      clear hs1 hW2 f0 f1 f2 f3 f4 f5 k1 k2 k3
      -- its end
      have hS := HS2.out
      have hS3 := ((hS.set (i := m) (r := 2) (by omega) (by omega) (.int .i64 3)).set (i := m) (r := 3) (by omega) (by omega) (.int .i64 (-1))).set (i := m) (r := 4) (by omega) (by omega) (.slice none 0 0)
      have hS3 := hS3.congr (cnC_made hm (.slice (some ⟨s0, 0, none⟩) 1 1) (.slice (some ⟨s1, 0, none⟩) 1 1))
      have o2 := hS.set (i := m) (r := 2) (by omega) (by omega) (.int .i64 3)
      have o3 := o2.set (i := m) (r := 3) (by omega) (by omega) (.int .i64 (-1))
      have r0 := o3.rc.other (m * 6 + 4) (.slice none 0 0) (o2.rc.other (m * 6 + 3) (.int .i64 (-1)) (hS.rc.other (m * 6 + 2) (.int .i64 3) R02.out (by decide)) (by decide)) (by decide)
      have r1 := o3.rc.other (m * 6 + 4) (.slice none 0 0) (o2.rc.other (m * 6 + 3) (.int .i64 (-1)) (hS.rc.other (m * 6 + 2) (.int .i64 3) R1.out (by decide)) (by decide)) (by decide)
      obtain ⟨f0, f1, f2, f3, f4, f5⟩ := hS.f4
      obtain ⟨k1, k2, k3⟩ := hS.rc.cell (i := m) (r := 2) (by omega) (by omega)
      obtain ⟨k4, k5, _⟩ := hS.rc.cell (i := m) (r := 3) (by omega) (by omega)
      obtain ⟨k6, k7, _⟩ := hS.rc.cell (i := m) (r := 4) (by omega) (by omega)
      obtain ⟨W3, hW3⟩ : ∃ W3, W3 = ((W2.setCell ⟨rb, m * 6 + 2, none⟩ (.int .i64 3)).setCell ⟨rb, m * 6 + 3, none⟩ (.int .i64 (-1))).setCell ⟨rb, m * 6 + 4, none⟩ (.slice none 0 0) := ⟨_, rfl⟩
      rw [← hW3] at hS3 r0 r1
      have HS3 : Hid _ := hS3
      have R13 : Hid _ := r1
      have R03 : Hid _ := r0
      clear hS hS3 r0 r1 HS2 R02 R1 o2 o3
      go_upto_region 15 with fail
      rw [← hW3]
      clear hW3 f0 f1 f2 f3 f4 f5 k1 k2 k3 k4 k5 k6 k7
      -- the program
      obtain ⟨s2, hs2⟩ : ∃ s2, s2 = W3.heap.size := ⟨_, rfl⟩
      have hb4 := al_below [.cells #[.string ⟨#[109, 97, 105, 110]⟩, .slice none 0 0, .int .i64 0, .slice (some ⟨B + 1, 0, none⟩) 2 2, .slice (some ⟨rb, 0, none⟩) (m + 1) cap] 29, .cells #[.slice (some ⟨s2, 0, none⟩) 1 1, .int .i64 0] 36] W3
      have hx4 := fun i h => al_at [.cells #[.string ⟨#[109, 97, 105, 110]⟩, .slice none 0 0, .int .i64 0, .slice (some ⟨B + 1, 0, none⟩) 2 2, .slice (some ⟨rb, 0, none⟩) (m + 1) cap] 29, .cells #[.slice (some ⟨s2, 0, none⟩) 1 1, .int .i64 0] 36] W3 i h
      rw [← hs2] at hx4
      have hx40 := hx4 0 (by simp)
      have hx41 := hx4 1 (by simp)
      obtain ⟨f0, f1, f2, f3, f4, f5⟩ := HS3.out.f4
      obtain ⟨W4, hW4⟩ : ∃ W4, W4 = (W3.alloc (.cells #[.string ⟨#[109, 97, 105, 110]⟩, .slice none 0 0, .int .i64 0, .slice (some ⟨B + 1, 0, none⟩) 2 2, .slice (some ⟨rb, 0, none⟩) (m + 1) cap] 29)).alloc (.cells #[.slice (some ⟨s2, 0, none⟩) 1 1, .int .i64 0] 36) := ⟨_, rfl⟩
      rw [show al W3 [.cells #[.string ⟨#[109, 97, 105, 110]⟩, .slice none 0 0, .int .i64 0, .slice (some ⟨B + 1, 0, none⟩) 2 2, .slice (some ⟨rb, 0, none⟩) (m + 1) cap] 29, .cells #[.slice (some ⟨s2, 0, none⟩) 1 1, .int .i64 0] 36] = W4 from hW4.symm] at hb4 hx40 hx41
      have S4 := HS3.out.keep hb4
      have r04 := (hb4.block _ (Array.getElem?_eq_some_iff.1 R03.out).1).trans R03.out
      have r14 := (hb4.block _ (Array.getElem?_eq_some_iff.1 R13.out).1).trans R13.out
      have HS4 : Hid _ := S4
      have HSF4 : Hid _ := hx40
      have HSB4 : Hid _ := hx41
      have y0 := cell_arr (i := 0) hx41 rfl
      have y1 := cell_arr (i := 1) hx41 rfl
      have y2 := (Array.getElem?_eq_some_iff.1 hx41).1
      have HC1 := show Hid _ from HCH.out [0] [1] 0 W4 s2 (some ⟨s0, 0, none⟩) 1 (some ⟨s1, 0, none⟩) 1 ⟨.inl ⟨rfl, rfl⟩⟩ (by rw [cn_check (by omega) ⟨.inl ⟨rfl, rfl⟩⟩]; simp) S4 hx40 (ints_exact (L := [0]) r04 (by decide)) (ints_exact (L := [1]) r14 (by decide))
      clear hx4 hx40 hx41 hb4 S4 r04 r14 HS3 R03 R13
      go_upto_region 16 with fail
      rw [← hs2, ← hW4]
      clear hs2 hW4 f0 f1 f2 f3 f4 f5
      go_upto_region 17 with (go_at_call 6; refine Calls.mono HC1.out ?_; rintro e w5 ⟨rfl, hb5⟩)
      have HS5 := show Hid _ from HS4.out.keep hb5
      have SF5 := show Hid _ from (hb5.block _ (Array.getElem?_eq_some_iff.1 HSF4.out).1).trans HSF4.out
      have SB5 := show Hid _ from (hb5.block _ (Array.getElem?_eq_some_iff.1 HSB4.out).1).trans HSB4.out
      clear HS4 HSF4 HSB4 y0 y1 y2 HC1 hb5
      obtain ⟨s4, hs4⟩ : ∃ s, s = w5.heap.size := ⟨_, rfl⟩
      have hS := HS5.out
      have hHS6 := (hS.set (i := m) (r := 1) (by omega) (by omega) (.slice (some ⟨s4, 0, none⟩) 2 2)).keep (below_new _ (.cells #[.int .i64 0, .int .i64 1] 3))
      have hr := heap_alloc_new (w5.setCell ⟨rb, m * 6 + 1, none⟩ (.slice (some ⟨s4, 0, none⟩) 2 2)) (.cells #[.int .i64 0, .int .i64 1] 3)
      rw [set_size, ← hs4] at hr
      have hSF5 := ((below_new _ (.cells #[.int .i64 0, .int .i64 1] 3)).block _ (by rw [set_size]; exact (Array.getElem?_eq_some_iff.1 SF5.out).1)).trans (hS.rc.other (m * 6 + 1) (.slice (some ⟨s4, 0, none⟩) 2 2) SF5.out (by decide))
      have hSB5 := ((below_new _ (.cells #[.int .i64 0, .int .i64 1] 3)).block _ (by rw [set_size]; exact (Array.getElem?_eq_some_iff.1 SB5.out).1)).trans (hS.rc.other (m * 6 + 1) (.slice (some ⟨s4, 0, none⟩) 2 2) SB5.out (by decide))
      obtain ⟨f0, f1, f2, f3, f4, f5⟩ := hS.f4
      obtain ⟨k1, k2, k3⟩ := hS.rc.cell (i := m) (r := 1) (by omega) (by omega)
      obtain ⟨W6, hW6⟩ : ∃ W, W = (w5.setCell ⟨rb, m * 6 + 1, none⟩ (.slice (some ⟨s4, 0, none⟩) 2 2)).alloc (.cells #[.int .i64 0, .int .i64 1] 3) := ⟨_, rfl⟩
      rw [← hW6] at hHS6 hr hSF5 hSB5
      have HS6 : Hid _ := hHS6
      have s4R : Hid _ := hr
      have SF5n : Hid _ := hSF5
      have SB5n : Hid _ := hSB5
      clear hS hHS6 hr hSF5 hSB5 HS5 SF5 SB5
      have SF5 := SF5n
      clear SF5n
      have SB5 := SB5n
      clear SB5n
      go_upto_region 18 with fail
      rw [← hs4, ← hW6]
      clear hs4 hW6 f0 f1 f2 f3 f4 f5 k1 k2 k3
      have hS := HS6.out.congr (cnC_last _ _ _)
      have hS7 := (hS.set (i := 0) (r := 1) (by omega) (by omega) (.slice none 0 0)).congr (cnC_first hm _ _ _)
      have r4 := hS.rc.other (0 * 6 + 1) (.slice none 0 0) s4R.out (by decide)
      have hSF := hS.rc.other (0 * 6 + 1) (.slice none 0 0) SF5.out (by decide)
      have hSB := hS.rc.other (0 * 6 + 1) (.slice none 0 0) SB5.out (by decide)
      obtain ⟨f0, f1, f2, f3, f4, f5⟩ := hS.f4
      obtain ⟨k1, k2, k3⟩ := hS.rc.cell (i := 0) (r := 1) (by omega) (by omega)
      obtain ⟨W7, hW7⟩ : ∃ W, W = W6.setCell ⟨rb, 1, none⟩ (.slice none 0 0) := ⟨_, rfl⟩
      rw [show W6.setCell ⟨rb, 0 * 6 + 1, none⟩ (.slice none 0 0) = W7 from hW7.symm] at hS7 r4 hSF hSB
      have HS7 : Hid _ := hS7
      have HSF7 : Hid _ := hSF
      have HSB7 : Hid _ := hSB
      have y0 := cell_arr (i := 0) hSB rfl
      have y1 := cell_arr (i := 1) hSB rfl
      have y2 := (Array.getElem?_eq_some_iff.1 hSB).1
      have HC2 := show Hid _ from HCH.out [] [0, 1] 0 W7 s2 none 0 (some ⟨s4, 0, none⟩) 2 ⟨.inr (.inl ⟨rfl, rfl⟩)⟩ (by rw [cn_check (by omega) ⟨.inr (.inl ⟨rfl, rfl⟩)⟩]; simp) hS7 hSF (ints_none _) (ints_exact (L := [0, 1]) r4 (by decide))
      clear hS hS7 r4 hSF hSB HS6 s4R SF5 SB5
      go_upto_region 19 with fail
      rw [← hW7]
      clear hW7 f0 f1 f2 f3 f4 f5 k1 k2 k3
      go_upto_region 20 with (go_at_call 6; refine Calls.mono HC2.out ?_; rintro e w8 ⟨rfl, hb8⟩)
      have HS8 := show Hid _ from HS7.out.keep hb8
      have SF8 := show Hid _ from (hb8.block _ (Array.getElem?_eq_some_iff.1 HSF7.out).1).trans HSF7.out
      have SB8 := show Hid _ from (hb8.block _ (Array.getElem?_eq_some_iff.1 HSB7.out).1).trans HSB7.out
      clear HS7 HSF7 HSB7 y0 y1 y2 HC2 hb8
      obtain ⟨s5, hs5⟩ : ∃ s, s = w8.heap.size := ⟨_, rfl⟩
      have hS := HS8.out
      have hHS9 := (hS.set (i := m) (r := 1) (by omega) (by omega) (.slice (some ⟨s5, 0, none⟩) 2 2)).keep (below_new _ (.cells #[.int .i64 1, .int .i64 0] 3))
      have hr := heap_alloc_new (w8.setCell ⟨rb, m * 6 + 1, none⟩ (.slice (some ⟨s5, 0, none⟩) 2 2)) (.cells #[.int .i64 1, .int .i64 0] 3)
      rw [set_size, ← hs5] at hr
      have hSF8 := ((below_new _ (.cells #[.int .i64 1, .int .i64 0] 3)).block _ (by rw [set_size]; exact (Array.getElem?_eq_some_iff.1 SF8.out).1)).trans (hS.rc.other (m * 6 + 1) (.slice (some ⟨s5, 0, none⟩) 2 2) SF8.out (by decide))
      have hSB8 := ((below_new _ (.cells #[.int .i64 1, .int .i64 0] 3)).block _ (by rw [set_size]; exact (Array.getElem?_eq_some_iff.1 SB8.out).1)).trans (hS.rc.other (m * 6 + 1) (.slice (some ⟨s5, 0, none⟩) 2 2) SB8.out (by decide))
      obtain ⟨f0, f1, f2, f3, f4, f5⟩ := hS.f4
      obtain ⟨k1, k2, k3⟩ := hS.rc.cell (i := m) (r := 1) (by omega) (by omega)
      obtain ⟨W9, hW9⟩ : ∃ W, W = (w8.setCell ⟨rb, m * 6 + 1, none⟩ (.slice (some ⟨s5, 0, none⟩) 2 2)).alloc (.cells #[.int .i64 1, .int .i64 0] 3) := ⟨_, rfl⟩
      rw [← hW9] at hHS9 hr hSF8 hSB8
      have HS9 : Hid _ := hHS9
      have s5R : Hid _ := hr
      have SF8n : Hid _ := hSF8
      have SB8n : Hid _ := hSB8
      clear hS hHS9 hr hSF8 hSB8 HS8 SF8 SB8
      have SF8 := SF8n
      clear SF8n
      have SB8 := SB8n
      clear SB8n
      go_upto_region 21 with fail
      rw [← hs5, ← hW9]
      clear hs5 hW9 f0 f1 f2 f3 f4 f5 k1 k2 k3
      have hS := HS9.out.congr (cnC_last _ _ _)
      have HC3 := show Hid _ from HCH.out [] [1, 0] 96 W9 s2 none 0 (some ⟨s5, 0, none⟩) 2 ⟨.inr (.inr ⟨rfl, rfl⟩)⟩ (by rw [cn_check (by omega) ⟨.inr (.inr ⟨rfl, rfl⟩)⟩]; simp) hS SF8.out (ints_none _) (ints_exact (L := [1, 0]) s5R.out (by decide))
      have y0 := cell_arr (i := 0) SB8.out rfl
      have y1 := cell_arr (i := 1) SB8.out rfl
      have y2 := (Array.getElem?_eq_some_iff.1 SB8.out).1
      have HFIN : Hid (Below w.heap.size w W9) := HLW.out W9 _ HS9.out
      clear hS HS9 SF8 SB8 s5R
      go_wp2_with (go_at_call 6; refine Calls.mono HC3.out ?_; rintro e w10 ⟨rfl, hb10⟩)
      go_ret
      exact ⟨rfl, HFIN.out.trans (hb10.mono HFIN.out.size)⟩
end Go.Proofs.YtdbkjjelaipcfaaDoor
