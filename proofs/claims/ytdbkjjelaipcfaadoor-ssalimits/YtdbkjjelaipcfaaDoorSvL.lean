import Derived.Test.YtdbkjjelaipcfaaDoorSvI
set_option linter.unusedVariables false
set_option linter.unusedSimpArgs false
namespace Go.Proofs.YtdbkjjelaipcfaaDoor
open Go.ChangeShapes Go.WideShapes Go.ChangeAt Go.RowKit Go.Maps

theorem info_u8 : (Tryd.prog.info? 5).map (fun i => (i.zero, i.size, i.bytes)) = some (some (.int .u8 0), 1, 1) := by kernel_rfl
/-- The letters so far. -/
structure LB (W : World) (lb n k : Nat) : Prop where
  out : ∃ cur : Array Value, W.heap[lb]? = some (.cells cur 5 (0, 0)) ∧ cur.size = n ∧ ∀ i, i < k → cur[i]? = some (.int .u8 ((let5 i).toNat : Int))
theorem LB.put {W : World} {lb n k} (h : LB W lb n k) (hk : k < n) {x : Int} (hx : x = ((let5 k).toNat : Int)) : LB (W.setCell ⟨lb, k, none⟩ (.int .u8 x)) lb n (k + 1) := by
  obtain ⟨cur, h1, h2, h3⟩ := h.out
  refine ⟨cur.setIfInBounds k (.int .u8 x), heap_set_at h1, by simpa using h2, fun i hi => ?_⟩
  rw [Array.getElem?_setIfInBounds]
  by_cases e : k = i
  · subst e; rw [if_pos rfl, if_pos (by omega), hx]
  · rw [if_neg e]; exact h3 i (by omega)
theorem LB.cell {W : World} {lb n k} (h : LB W lb n k) (hk : k < n) : (∃ v, W.cell? ⟨lb, k, none⟩ = some v) ∧ W.frozen? ⟨lb, k, none⟩ = false ∧ lb < W.heap.size := by
  obtain ⟨cur, h1, h2, h3⟩ := h.out
  exact ⟨⟨cur[k]'(by omega), cell_arr h1 (by simp [show k < cur.size by omega])⟩, fz_of h1, (Array.getElem?_eq_some_iff.1 h1).1⟩
theorem LB.at {W : World} {lb n} (h : LB W lb n n) : At W lb 0 (nm2 n) := by
  obtain ⟨cur, h1, h2, h3⟩ := h.out
  refine ⟨(Array.getElem?_eq_some_iff.1 h1).1, fun i hi => ?_⟩
  have hi' : i < n := by simpa [nm2] using hi
  rw [Nat.zero_add]
  have e : (nm2 n)[i] = let5 i := by simp [nm2]
  rw [e]
  exact cell_arr h1 (h3 i hi')
set_option maxRecDepth 100000 in
set_option maxHeartbeats 8000000 in
theorem lim2_any (w : World) (hTab : Tab w) (n : Nat) (hn : n ≤ 300000) : Calls Tryd.prog 4 #[.int .i64 2, .int .i64 (n : Int)] w fun e w' => e = .returned (.bool true) ∧ Below w.heap.size w w' := by
  have g1 : decide ((n : Int) < 0) = false := by rw [decide_eq_false_iff_not]; omega
  have g2 : decide (300000 < (n : Int)) = false := by rw [decide_eq_false_iff_not]; omega
  have HHN : Hid (n ≤ 300000) := hn
  have hmk := run_make_row' (P := Tryd.prog) 41 5 (.int .u8 0) 1 Tryd.underlying41 info_u8 rfl .i64 .i64 n (by omega) (by omega)
  clear hn
  have HT : Hid (Tab w) := hTab
  have HAL : Hid _ := alive9_any w hTab
  clear hTab
  go_enter Tryd.func4, Tryd.ntmps4
  go_upto_region 5 with (go_at_call 5; refine Calls.mono HAL.out ?_; rintro e w1 ⟨rfl, hb1⟩)
  obtain ⟨B, hB⟩ : ∃ B, B = w1.heap.size := ⟨_, rfl⟩
  have hL := LM.start w1 B hB
  have HB1 : Hid (Below w.heap.size w w1) := hb1
  have HBB : Hid (w1.heap.size ≤ B) := (show w1.heap.size ≤ B from by omega)
  rw [← hB]
  obtain ⟨W0, hW0⟩ : ∃ W0, W0 = (((w1.alloc (.cells #[.slice none 0 0, .slice none 0 0, .int .i64 3, .int .i64 (-1), .slice none 0 0, .slice none 0 0] 33)).alloc (.cells #[.slice none 0 0, .slice none 0 0, .int .i64 3, .int .i64 (-1), .slice none 0 0, .slice none 0 0] 33)).alloc (.cells #[.string ⟨#[109, 97, 105, 110]⟩, .slice none 0 0, .int .i64 0, .slice none 0 0, .slice (some ⟨B, 0, none⟩) 1 1, .string ⟨#[102]⟩, .slice none 0 0, .int .i64 0, .slice none 0 0, .slice (some ⟨B + 1, 0, none⟩) 1 1] 29)).alloc (.cells #[.slice (some ⟨B + 1 + 1, 0, none⟩) 2 2, .int .i64 0] 36) := ⟨_, rfl⟩
  rw [show al w1 [.cells #[.slice none 0 0, .slice none 0 0, .int .i64 3, .int .i64 (-1), .slice none 0 0, .slice none 0 0] 33, .cells #[.slice none 0 0, .slice none 0 0, .int .i64 3, .int .i64 (-1), .slice none 0 0, .slice none 0 0] 33, .cells #[.string ⟨#[109, 97, 105, 110]⟩, .slice none 0 0, .int .i64 0, .slice none 0 0, .slice (some ⟨B, 0, none⟩) 1 1, .string ⟨#[102]⟩, .slice none 0 0, .int .i64 0, .slice none 0 0, .slice (some ⟨B + 1, 0, none⟩) 1 1] 29, .cells #[.slice (some ⟨B + 1 + 1, 0, none⟩) 2 2, .int .i64 0] 36] = W0 from hW0.symm] at hL
  rw [← hW0]
  clear hW0 hB hb1 HAL
  have HL0 : Hid _ := hL
  obtain ⟨c5, c6, c7, c8, c9, cf, d1, d3, df, e0, e1, eb⟩ := hL.cells
  clear hL
  go_upto_region 24 with fail
  obtain ⟨lb, hlb⟩ : ∃ lb, lb = W0.heap.size := ⟨_, rfl⟩
  have hL1 := HL0.out.keep (below_new _ (.cells (madeCells #[.int .u8 0] n) 5))
  have hb0 : LB (W0.alloc (.cells (madeCells #[.int .u8 0] n) 5)) lb n 0 := ⟨_, by rw [hlb]; exact heap_alloc_new _ _, size_madeCells _ _, fun i hi => by omega⟩
  obtain ⟨W1, hW1⟩ : ∃ W, W = W0.alloc (.cells (madeCells #[.int .u8 0] n) 5) := ⟨_, rfl⟩
  rw [← hW1] at hL1 hb0
  rw [← hlb, ← hW1]
  have HL1 : Hid _ := hL1
  have HLB : Hid _ := hb0
  have HLBB : Hid (B + 4 ≤ lb) := (show B + 4 ≤ lb by have := HL0.out.size; omega)
  clear hW1 hlb hL1 hb0 HL0 c5 c6 c7 c8 c9 cf d1 d3 df e0 e1 eb hmk
  go_wp2_with fail
  go_loopw [12] (fun v wr => ∃ k : Nat, k ≤ n ∧ v = .int .i64 k ∧ Hid (LM w1 wr B ⟨#[102]⟩ (.slice none 0 0) 0 (.slice none 0 0) (.slice none 0 0) (-1)) ∧ Hid (LB wr lb n k)) (fun v _ => n - (intOf v).toNat)
  case atStart => exact ⟨0, by omega, rfl, HL1.out, HLB.out⟩
  case round =>
    clear HL1 HLB
    obtain ⟨k, hk, rfl, HL, HB⟩ := hrel
    by_cases hlt : k < n
    · have t1 : decide ((k : Int) < (n : Int)) = true := by rw [decide_eq_true_iff]; omega
      have t3 : decide (k < n) = true := by rw [decide_eq_true_iff]; omega
      have hn9 : n ≤ 9223372036854775807 := by have := HHN.out; omega
      obtain ⟨⟨z, q1⟩, q2, q3⟩ := HB.out.cell hlt
      have HL2 : Hid (∀ x, LM w1 (wr.setCell ⟨lb, k, none⟩ x) B ⟨#[102]⟩ (.slice none 0 0) 0 (.slice none 0 0) (.slice none 0 0) (-1)) := fun x => HL.out.move ((Below.refl _ _).setCell (by show B + 4 ≤ lb; exact HLBB.out) _)
      have hc : k % 5 = 0 ∨ k % 5 = 1 ∨ k % 5 = 2 ∨ k % 5 = 3 ∨ k % 5 = 4 := by omega
      rcases hc with hc | hc | hc | hc | hc
      · have hm : (k : Int) % 5 = 0 := by omega
        have hm2 : (k : Int).tmod 5 = 0 := by rw [Int.tmod_eq_emod_of_nonneg (by omega)]; omega
        have HB2 : Hid (LB (wr.setCell ⟨lb, k, none⟩ (.int .u8 120)) lb n (k + 1)) := HB.out.put hlt (by simp [let5, hc])
        clear hc
        go_wp2_with fail
        go_roundw
        case rel => exact ⟨k + 1, by omega, by go_num, HL2.out _, HB2.out⟩
        case measure => simp [intOf]; omega
      · have hm : (k : Int) % 5 = 1 := by omega
        have hm2 : (k : Int).tmod 5 = 1 := by rw [Int.tmod_eq_emod_of_nonneg (by omega)]; omega
        have HB2 : Hid (LB (wr.setCell ⟨lb, k, none⟩ (.int .u8 89)) lb n (k + 1)) := HB.out.put hlt (by simp [let5, hc])
        clear hc
        go_wp2_with fail
        go_roundw
        case rel => exact ⟨k + 1, by omega, by go_num, HL2.out _, HB2.out⟩
        case measure => simp [intOf]; omega
      · have hm : (k : Int) % 5 = 2 := by omega
        have hm2 : (k : Int).tmod 5 = 2 := by rw [Int.tmod_eq_emod_of_nonneg (by omega)]; omega
        have HB2 : Hid (LB (wr.setCell ⟨lb, k, none⟩ (.int .u8 95)) lb n (k + 1)) := HB.out.put hlt (by simp [let5, hc])
        clear hc
        go_wp2_with fail
        go_roundw
        case rel => exact ⟨k + 1, by omega, by go_num, HL2.out _, HB2.out⟩
        case measure => simp [intOf]; omega
      · have hm : (k : Int) % 5 = 3 := by omega
        have hm2 : (k : Int).tmod 5 = 3 := by rw [Int.tmod_eq_emod_of_nonneg (by omega)]; omega
        have HB2 : Hid (LB (wr.setCell ⟨lb, k, none⟩ (.int .u8 122)) lb n (k + 1)) := HB.out.put hlt (by simp [let5, hc])
        clear hc
        go_wp2_with fail
        go_roundw
        case rel => exact ⟨k + 1, by omega, by go_num, HL2.out _, HB2.out⟩
        case measure => simp [intOf]; omega
      · have hm : (k : Int) % 5 = 4 := by omega
        have hm2 : (k : Int).tmod 5 = 4 := by rw [Int.tmod_eq_emod_of_nonneg (by omega)]; omega
        have HB2 : Hid (LB (wr.setCell ⟨lb, k, none⟩ (.int .u8 57)) lb n (k + 1)) := HB.out.put hlt (by simp [let5, hc])
        clear hc
        go_wp2_with fail
        go_roundw
        case rel => exact ⟨k + 1, by omega, by go_num, HL2.out _, HB2.out⟩
        case measure => simp [intOf]; omega
    · have hkn : k = n := by omega
      subst hkn
      have hat := HB.out.at
      have hcv := hat.conv k
      rw [show (nm2 k).length = k by simp [nm2]] at hcv
      obtain ⟨s, hs⟩ : ∃ s, s = bs (nm2 k) := ⟨_, rfl⟩
      rw [← hs] at hcv
      have HSS : Hid (s = bs (nm2 k)) := hs
      clear hs
      obtain ⟨c5, c6, c7, c8, c9, cf, d1, d3, df, e0, e1, eb⟩ := HL.out.cells
      have f5 := cf 5
      have eb2 : B + 1 + 1 < wr.heap.size := by omega
      have hL2 := HL.out.name s
      obtain ⟨W2, hW2⟩ : ∃ W, W = wr.setCell ⟨B + 1 + 1, 5, none⟩ (.string s) := ⟨_, rfl⟩
      have HL2 : Hid _ := hL2
      rw [← hW2] at HL2
      clear hL2 hat HB HL
      go_upto_region 29 with fail
      rw [← hW2]
      clear hW2 hcv c5 c6 c7 c8 c9 cf d1 d3 df e0 e1 eb f5 eb2
      have HCK : Hid (checkP [lmM, lmF s [] 0 [] [] (-1)] 0 = if 1 ≤ k ∧ k ≤ 64 then 0 else 90) := by rw [HSS.out]; exact lm2_check k
      have HCALL : Hid (∀ R, checkP [lmM, lmF s [] 0 [] [] (-1)] 0 = R → _) := fun R hR => lm_call HT.out HB1.out HBB.out HL2.out (ps := []) (vs := []) (bo := []) (ints_none _) (vls_none _) (ints_none _) (by decide) (by decide) R hR
      obtain ⟨_, _, _, _, _, _, _, _, _, e0, e1, eb⟩ := HL2.out.cells
      clear HL2
      have ht : (decide (1 ≤ (k : Int)) = true ∧ decide (1 ≤ k) = true ∧ decide ((k : Int) ≤ 64) = true ∧ decide (k ≤ 64) = true ∧ (1 ≤ k ∧ k ≤ 64)) ∨ (decide (1 ≤ (k : Int)) = false ∧ decide (1 ≤ k) = false ∧ ¬ (1 ≤ k ∧ k ≤ 64)) ∨ (decide (1 ≤ (k : Int)) = true ∧ decide (1 ≤ k) = true ∧ decide ((k : Int) ≤ 64) = false ∧ decide (k ≤ 64) = false ∧ ¬ (1 ≤ k ∧ k ≤ 64)) := by
        by_cases q : 1 ≤ k
        · by_cases q2 : k ≤ 64
          · left; simp; omega
          · right; right; simp; omega
        · right; left; simp; omega
      rcases ht with ⟨t1, t2, t3, t4, hg⟩ | ⟨t1, t2, hg⟩ | ⟨t1, t2, t3, t4, hg⟩
      · have hR := HCK.out
        rw [if_pos hg] at hR
        obtain ⟨hC, hbW⟩ := HCALL.out 0 hR
        have HC : Hid _ := hC
        have HBW : Hid _ := hbW
        clear hC hbW hR hg HCK HCALL
        go_wp2_with (go_at_call 6; refine Calls.mono HC.out ?_; rintro e w9 ⟨rfl, hb9⟩)
        go_ret
        exact ⟨rfl, HBW.out.trans (hb9.mono HBW.out.size)⟩
      · have hR := HCK.out
        rw [if_neg hg] at hR
        obtain ⟨hC, hbW⟩ := HCALL.out 90 hR
        have HC : Hid _ := hC
        have HBW : Hid _ := hbW
        clear hC hbW hR hg HCK HCALL
        go_wp2_with (go_at_call 6; refine Calls.mono HC.out ?_; rintro e w9 ⟨rfl, hb9⟩)
        go_ret
        exact ⟨rfl, HBW.out.trans (hb9.mono HBW.out.size)⟩
      · have hR := HCK.out
        rw [if_neg hg] at hR
        obtain ⟨hC, hbW⟩ := HCALL.out 90 hR
        have HC : Hid _ := hC
        have HBW : Hid _ := hbW
        clear hC hbW hR hg HCK HCALL
        go_wp2_with (go_at_call 6; refine Calls.mono HC.out ?_; rintro e w9 ⟨rfl, hb9⟩)
        go_ret
        exact ⟨rfl, HBW.out.trans (hb9.mono HBW.out.size)⟩
end Go.Proofs.YtdbkjjelaipcfaaDoor
