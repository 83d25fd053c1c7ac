import Derived.Test.YtdbkjjelaipcfaaDoorSvI
set_option linter.unusedVariables false
set_option linter.unusedSimpArgs false
namespace Go.Proofs.YtdbkjjelaipcfaaDoor
open Go.ChangeShapes Go.WideShapes Go.ChangeAt Go.RowKit Go.Maps

set_option maxRecDepth 100000 in
set_option maxHeartbeats 4000000 in
theorem lim1_any (w : World) (hTab : Tab w) (n : Nat) (hn : n ≤ 300000) : Calls Tryd.prog 4 #[.int .i64 1, .int .i64 (n : Int)] w fun e w' => e = .returned (.bool true) ∧ Below w.heap.size w w' := by
  have g1 : decide ((n : Int) < 0) = false := by rw [decide_eq_false_iff_not]; omega
  have g2 : decide (300000 < (n : Int)) = false := by rw [decide_eq_false_iff_not]; omega
  have HHN : Hid (n ≤ 300000) := hn
  clear hn
  have HT : Hid (Tab w) := hTab
  have HAL : Hid _ := alive9_any w hTab
  clear hTab
  go_enter Tryd.func4, Tryd.ntmps4
  go_upto_region 5 with (go_at_call 5; refine Calls.mono HAL.out ?_; rintro e w1 ⟨rfl, hb1⟩)
  obtain ⟨B, hB⟩ : ∃ B, B = w1.heap.size := ⟨_, rfl⟩
  have hL := LM.start w1 B hB
  have HB1 : Hid (Below w.heap.size w w1) := hb1
  have HBB : Hid (w1.heap.size ≤ B) := (show w1.heap.size ≤ B from by omega)
  rw [← hB]
  obtain ⟨W0, hW0⟩ : ∃ W0, W0 = (((w1.alloc (.cells #[.slice none 0 0, .slice none 0 0, .int .i64 3, .int .i64 (-1), .slice none 0 0, .slice none 0 0] 33)).alloc (.cells #[.slice none 0 0, .slice none 0 0, .int .i64 3, .int .i64 (-1), .slice none 0 0, .slice none 0 0] 33)).alloc (.cells #[.string ⟨#[109, 97, 105, 110]⟩, .slice none 0 0, .int .i64 0, .slice none 0 0, .slice (some ⟨B, 0, none⟩) 1 1, .string ⟨#[102]⟩, .slice none 0 0, .int .i64 0, .slice none 0 0, .slice (some ⟨B + 1, 0, none⟩) 1 1] 29)).alloc (.cells #[.slice (some ⟨B + 1 + 1, 0, none⟩) 2 2, .int .i64 0] 36) := ⟨_, rfl⟩
  rw [show al w1 [.cells #[.slice none 0 0, .slice none 0 0, .int .i64 3, .int .i64 (-1), .slice none 0 0, .slice none 0 0] 33, .cells #[.slice none 0 0, .slice none 0 0, .int .i64 3, .int .i64 (-1), .slice none 0 0, .slice none 0 0] 33, .cells #[.string ⟨#[109, 97, 105, 110]⟩, .slice none 0 0, .int .i64 0, .slice none 0 0, .slice (some ⟨B, 0, none⟩) 1 1, .string ⟨#[102]⟩, .slice none 0 0, .int .i64 0, .slice none 0 0, .slice (some ⟨B + 1, 0, none⟩) 1 1] 29, .cells #[.slice (some ⟨B + 1 + 1, 0, none⟩) 2 2, .int .i64 0] 36] = W0 from hW0.symm] at hL
  rw [← hW0]
  clear hW0 hB hb1 HAL
  have HL0 : Hid _ := hL
  obtain ⟨c5, c6, c7, c8, c9, cf, d1, d3, df, e0, e1, eb⟩ := hL.cells
  clear hL
  obtain ⟨N, hN⟩ : ∃ N, N = min n 1000 := ⟨_, rfl⟩
  have HNN : Hid (N = min n 1000) := hN
  have hN2 : N ≤ 1000 := by omega
  clear hN
  go_upto_region 16 with fail
  go_wp2_with fail
  clear c5 c6 c7 c8 c9 cf d1 d3 df e0 e1 eb
  go_loopw [10] (fun v wr => ∃ (k : Nat) (pv vv : Value), k ≤ N ∧ v = .int .i64 k ∧ Hid (LM w1 wr B ⟨#[102]⟩ pv 0 vv (.slice none 0 0) (-1)) ∧ Hid (LV wr B k k vv pv vc1)) (fun v _ => N - (intOf v).toNat)
  case atStart => exact ⟨0, _, _, by omega, rfl, HL0.out, LV.start _ _ _⟩
  case round =>
    clear HL0
    obtain ⟨k, pv, vv, hk, rfl, HL, HV⟩ := hrel
    by_cases hlt : k < N
    · have t1 : decide ((k : Int) < (n : Int)) = true := by rw [decide_eq_true_iff]; have := HNN.out; omega
      have t2 : decide ((k : Int) < 1000) = true := by rw [decide_eq_true_iff]; omega
      have t3 : decide (k < n) = true := by rw [decide_eq_true_iff]; have := HNN.out; omega
      have t4 : decide (k < 1000) = true := by rw [decide_eq_true_iff]; omega
      obtain ⟨c5, c6, c7, c8, c9, cf, d1, d3, df, e0, e1, eb⟩ := HL.out.cells
      obtain ⟨va, vc, ev, _, _⟩ := own_slice HV.out.ov
      obtain ⟨ia, ic, ei, _, _⟩ := own_slice HV.out.oi.out
      subst ev
      subst ei
      have hsz := HL.out.size
      have f8 := cf 8
      have f6 := cf 6
      have HOV : Hid _ := HV.out.ov
      have hmod : (k : Int).tmod 3 = (k : Int) % 3 := by rw [Int.tmod_eq_emod_of_nonneg (by omega)]
      go_upto_region 20 with (at_builtin; refine wpList_append_vl (w0 := wr) rfl _ _ rfl (B + 4) (.slice va k vc) k (vcs vc1 k) (vc1 k) rfl HOV.out rfl rfl (fun u hu => vc_one hu) (by omega) hsz ?_; intro v6 w6 h6 g6
                              have L6 := HL.out.move g6.bel
                              have V6 := HV.out.vl h6 g6
                              obtain ⟨_, _, _, x8, _, xf, _⟩ := L6.cells
                              have xf8 := xf 8
                              have HL6 := show Hid _ from L6.values v6
                              have HV6 := show Hid _ from V6.set ⟨B + 1 + 1, 8, none⟩ (by show B + 1 + 1 < B + 4; omega) v6
                              have hsz6 := L6.size
                              obtain ⟨a6, q6, e6, _, _⟩ := own_slice h6
                              subst e6
                              clear h6 g6 L6 V6 xf)
      obtain ⟨W1, hW1⟩ : ∃ W, W = w6.setCell ⟨B + 1 + 1, 8, none⟩ (.slice a6 (k + 1) q6) := ⟨_, rfl⟩
      rw [← hW1] at HL6 HV6 ⊢
      clear hW1 x8 xf8 c5 c6 c7 c8 c9 cf d1 d3 df e0 e1 eb f8 f6 HOV HL HV hsz hsz6
      obtain ⟨c5, c6, c7, c8, c9, cf, d1, d3, df, e0, e1, eb⟩ := HL6.out.cells
      have hsz := HL6.out.size
      have f6 := cf 6
      have HOI : Hid _ := HV6.out.oi
      go_wp2_with (at_builtin; refine wpList_append_intG (w0 := W1) rfl _ _ rfl (B + 4) (.slice ia k ic) k (rng k) (k : Int) rfl HOI.out rfl (by omega) hsz ?_; intro v7 w7 h7 g7
                   have L7 := HL6.out.move g7.bel
                   have V7 := HV6.out.int h7 g7
                   obtain ⟨_, x6, _, _, _, xf, _⟩ := L7.cells
                   have xf6 := xf 6
                   have HL7 := show Hid _ from L7.params v7
                   have HV7 := show Hid _ from V7.set ⟨B + 1 + 1, 6, none⟩ (by show B + 1 + 1 < B + 4; omega) v7
                   obtain ⟨a7, q7, e7, _, _⟩ := own_slice h7.out
                   subst e7
                   clear h7 g7 L7 V7 xf)
      go_roundw
      case rel => exact ⟨k + 1, _, _, by omega, by go_num, HL7.out, HV7.out⟩
      case measure => simp [intOf]; omega
    · have hkn : k = N := by omega
      subst hkn
      have hv := HV.out.vls (fun _ => rfl) (by omega) (fun i => ⟨33, 1 + (i : Int) % 3, (i : Int), []⟩) (fun i => ⟨rfl, rfl⟩)
      obtain ⟨va, vc, ev, hV⟩ := hv
      obtain ⟨ia, ic, ei, hI⟩ := HV.out.oi.ints
      have ei2 : pv = .slice ia (rng k).length ic := by rw [ei, rng_len]
      subst ev
      subst ei2
      have HCK : Hid (checkP [lmM, lmF ⟨#[102]⟩ (rng k) 0 ((List.range k).map fun i : Nat => ⟨33, 1 + (i : Int) % 3, (i : Int), []⟩) [] (-1)] 0 = if k ≤ 8 then 0 else 90) := lm1_check k
      have HCALL : Hid (∀ R, checkP [lmM, lmF ⟨#[102]⟩ (rng k) 0 ((List.range k).map fun i : Nat => ⟨33, 1 + (i : Int) % 3, (i : Int), []⟩) [] (-1)] 0 = R → _) := fun R hR => lm_call HT.out HB1.out HBB.out HL.out (ps := rng k) (vs := (List.range k).map fun i : Nat => ⟨33, 1 + (i : Int) % 3, (i : Int), []⟩) (bo := []) hI hV (ints_none _) (by rw [rng_len]; omega) (by decide) R hR
      obtain ⟨_, _, _, _, _, _, _, _, _, e0, e1, eb⟩ := HL.out.cells
      clear HL HV hV hI ei
      have ht : (decide ((k : Int) < (n : Int)) = false ∧ decide (k < n) = false) ∨ (decide ((k : Int) < (n : Int)) = true ∧ decide (k < n) = true ∧ decide ((k : Int) < 1000) = false ∧ decide (k < 1000) = false) := by
        have := HNN.out
        by_cases q : n ≤ 1000
        · left; simp; omega
        · right; simp; omega
      rcases ht with ⟨t1, t3⟩ | ⟨t1, t3, t2, t4⟩
      all_goals
        by_cases hg : n ≤ 8
        · have hR := HCK.out
          rw [if_pos (by have := HNN.out; omega)] at hR
          obtain ⟨hC, hbW⟩ := HCALL.out 0 hR
          have HC : Hid _ := hC
          have HBW : Hid _ := hbW
          have t5 : decide ((n : Int) ≤ 8) = true := by rw [decide_eq_true_iff]; omega
          have t6 : decide (n ≤ 8) = true := by rw [decide_eq_true_iff]; omega
          clear hC hbW hR hg HCK HCALL
          go_wp2_with (go_at_call 6; refine Calls.mono HC.out ?_; rintro e w9 ⟨rfl, hb9⟩)
          go_ret
          exact ⟨rfl, HBW.out.trans (hb9.mono HBW.out.size)⟩
        · have hR := HCK.out
          rw [if_neg (by have := HNN.out; omega)] at hR
          obtain ⟨hC, hbW⟩ := HCALL.out 90 hR
          have HC : Hid _ := hC
          have HBW : Hid _ := hbW
          have t5 : decide ((n : Int) ≤ 8) = false := by rw [decide_eq_false_iff_not]; omega
          have t6 : decide (n ≤ 8) = false := by rw [decide_eq_false_iff_not]; omega
          clear hC hbW hR hg HCK HCALL
          go_wp2_with (go_at_call 6; refine Calls.mono HC.out ?_; rintro e w9 ⟨rfl, hb9⟩)
          go_ret
          exact ⟨rfl, HBW.out.trans (hb9.mono HBW.out.size)⟩
end Go.Proofs.YtdbkjjelaipcfaaDoor
