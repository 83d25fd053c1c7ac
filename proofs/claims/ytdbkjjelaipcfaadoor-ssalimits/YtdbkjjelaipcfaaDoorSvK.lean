import Derived.Test.YtdbkjjelaipcfaaDoorSvI
set_option linter.unusedVariables false
set_option linter.unusedSimpArgs false
namespace Go.Proofs.YtdbkjjelaipcfaaDoor
open Go.ChangeShapes Go.WideShapes Go.ChangeAt Go.RowKit Go.Maps

set_option maxRecDepth 100000 in
set_option maxHeartbeats 8000000 in
theorem lim0_any (w : World) (hTab : Tab w) (n : Nat) (hn : n ≤ 300000) : Calls Tryd.prog 4 #[.int .i64 0, .int .i64 (n : Int)] w fun e w' => e = .returned (.bool true) ∧ Below w.heap.size w w' := by
  have g1 : decide ((n : Int) < 0) = false := by rw [decide_eq_false_iff_not]; omega
  have g2 : decide (300000 < (n : Int)) = false := by rw [decide_eq_false_iff_not]; omega
  have HHN : Hid (n ≤ 300000) := hn
  clear hn
  have HT : Hid (Tab w) := hTab
  have HAL : Hid _ := alive9_any w hTab
  clear hTab
  go_enter Tryd.func4, Tryd.ntmps4
  go_upto_region 5 with (go_at_call 5; refine Calls.mono HAL.out ?_; rintro e w1 ⟨rfl, hb1⟩)
  obtain ⟨B, hB⟩ : ∃ B, B = w1.heap.size := ⟨_, rfl⟩
  have hL := LM.start w1 B hB
  have HB1 : Hid (Below w.heap.size w w1) := hb1
  have HBB : Hid (w1.heap.size ≤ B) := (show w1.heap.size ≤ B from by omega)
  rw [← hB]
  obtain ⟨W0, hW0⟩ : ∃ W0, W0 = (((w1.alloc (.cells #[.slice none 0 0, .slice none 0 0, .int .i64 3, .int .i64 (-1), .slice none 0 0, .slice none 0 0] 33)).alloc (.cells #[.slice none 0 0, .slice none 0 0, .int .i64 3, .int .i64 (-1), .slice none 0 0, .slice none 0 0] 33)).alloc (.cells #[.string ⟨#[109, 97, 105, 110]⟩, .slice none 0 0, .int .i64 0, .slice none 0 0, .slice (some ⟨B, 0, none⟩) 1 1, .string ⟨#[102]⟩, .slice none 0 0, .int .i64 0, .slice none 0 0, .slice (some ⟨B + 1, 0, none⟩) 1 1] 29)).alloc (.cells #[.slice (some ⟨B + 1 + 1, 0, none⟩) 2 2, .int .i64 0] 36) := ⟨_, rfl⟩
  rw [show al w1 [.cells #[.slice none 0 0, .slice none 0 0, .int .i64 3, .int .i64 (-1), .slice none 0 0, .slice none 0 0] 33, .cells #[.slice none 0 0, .slice none 0 0, .int .i64 3, .int .i64 (-1), .slice none 0 0, .slice none 0 0] 33, .cells #[.string ⟨#[109, 97, 105, 110]⟩, .slice none 0 0, .int .i64 0, .slice none 0 0, .slice (some ⟨B, 0, none⟩) 1 1, .string ⟨#[102]⟩, .slice none 0 0, .int .i64 0, .slice none 0 0, .slice (some ⟨B + 1, 0, none⟩) 1 1] 29, .cells #[.slice (some ⟨B + 1 + 1, 0, none⟩) 2 2, .int .i64 0] 36] = W0 from hW0.symm] at hL
  rw [← hW0]
  clear hW0 hB hb1 HAL
  have HL0 : Hid _ := hL
  obtain ⟨c5, c6, c7, c8, c9, cf, d1, d3, df, e0, e1, eb⟩ := hL.cells
  clear hL
  go_upto_region 9 with fail
  go_wp2_with fail
  clear c5 c6 c7 c8 c9 cf d1 d3 df e0 e1 eb
  go_loopw [9] (fun v wr => ∃ (k : Nat) (bo vv : Value), k ≤ n ∧ v = .int .i64 k ∧ Hid (LM w1 wr B ⟨#[102]⟩ (.slice none 0 0) 0 vv bo (-1)) ∧ Hid (LV wr B k k vv bo vc0)) (fun v _ => n - (intOf v).toNat)
  case atStart => exact ⟨0, _, _, by omega, rfl, HL0.out, LV.start _ _ _⟩
  case round =>
    clear HL0
    obtain ⟨k, bo, vv, hk, rfl, HL, HV⟩ := hrel
    by_cases hlt : k < n
    · have t1 : decide ((k : Int) < (n : Int)) = true := by rw [decide_eq_true_iff]; omega
      have hk3 : k ≤ 300000 := by have := HHN.out; omega
      obtain ⟨c5, c6, c7, c8, c9, cf, d1, d3, df, e0, e1, eb⟩ := HL.out.cells
      obtain ⟨va, vc, ev, _, _⟩ := own_slice HV.out.ov
      obtain ⟨ia, ic, ei, _, _⟩ := own_slice HV.out.oi.out
      subst ev
      subst ei
      have hsz := HL.out.size
      have f8 := cf 8
      have HOV : Hid _ := HV.out.ov
      go_upto_region 13 with (at_builtin; refine wpList_append_vl (w0 := wr) rfl _ _ rfl (B + 4) (.slice va k vc) k (vcs vc0 k) (vc0 k) rfl HOV.out rfl rfl (fun u hu => vc_one hu) (by omega) hsz ?_; intro v6 w6 h6 g6
                              have L6 := HL.out.move g6.bel
                              have V6 := HV.out.vl h6 g6
                              obtain ⟨_, _, _, x8, _, xf, _⟩ := L6.cells
                              have xf8 := xf 8
                              have HL6 := show Hid _ from L6.values v6
                              have HV6 := show Hid _ from V6.set ⟨B + 1 + 1, 8, none⟩ (by show B + 1 + 1 < B + 4; omega) v6
                              obtain ⟨a6, q6, e6, _, _⟩ := own_slice h6
                              subst e6
                              clear h6 g6 L6 V6 xf)
      obtain ⟨W1, hW1⟩ : ∃ W, W = w6.setCell ⟨B + 1 + 1, 8, none⟩ (.slice a6 (k + 1) q6) := ⟨_, rfl⟩
      rw [← hW1] at HL6 HV6 ⊢
      clear hW1 x8 xf8 c5 c6 c7 c8 c9 cf d1 d3 df e0 e1 eb f8 HOV HL HV hsz
      obtain ⟨c5, c6, c7, c8, c9, cf, d1, d3, df, e0, e1, eb⟩ := HL6.out.cells
      have hsz := HL6.out.size
      have hb1 : Below W1.heap.size W1 (W1.drew.alloc (.cells #[.int .i64 (k : Int)] 3)) := ((Below.refl _ _).drew).alloc (by simp) _
      have HOI1 : Hid (OwnI (W1.drew.alloc (.cells #[.int .i64 (k : Int)] 3)) (B + 4) (.slice ia k ic) k (rng k)) := HV6.out.oi.keep hb1
      have PUT : Hid (∀ v7 w7, OwnI w7 (B + 4) v7 (k + 1) (rng k ++ [(k : Int)]) → GI (B + 4) (W1.drew.alloc (.cells #[.int .i64 (k : Int)] 3)) w7 (.slice ia k ic) v7 → w7.cell? ⟨B + 1, 1, none⟩ = some (.slice ia k ic) ∧ w7.frozen? ⟨B + 1, 1, none⟩ = false ∧ w7.cell? ⟨B + 1 + 1, 9, none⟩ = some (.slice (some ⟨B + 1, 0, none⟩) 1 1) ∧ Hid (LM w1 (w7.setCell ⟨B + 1, 1, none⟩ v7) B ⟨#[102]⟩ (.slice none 0 0) 0 (.slice a6 (k + 1) q6) v7 (-1)) ∧ Hid (LV (w7.setCell ⟨B + 1, 1, none⟩ v7) B (k + 1) (k + 1) (.slice a6 (k + 1) q6) v7 vc0)) := by
        intro v7 w7 h7 g7
        have L7 := (HL6.out.keep hb1).move g7.bel
        have V7 := (HV6.out.keep hb1).int h7 g7
        obtain ⟨_, _, _, _, x9, _, x1, _, xd, _⟩ := L7.cells
        exact ⟨x1, xd 1, x9, L7.body v7, V7.set ⟨B + 1, 1, none⟩ (by show B + 1 < B + 4; omega) v7⟩
      have S0 : (fun w' : World => w'.cell? ⟨B + 1 + 1, 9, none⟩ = some (.slice (some ⟨B + 1, 0, none⟩) 1 1) ∧ w'.cell? ⟨B + 1, 1, none⟩ = some (.slice ia k ic)) W1.drew := ⟨cellD c9, cellD d1⟩
      have S1 : (fun w' : World => w'.cell? ⟨B + 1 + 1, 9, none⟩ = some (.slice (some ⟨B + 1, 0, none⟩) 1 1) ∧ w'.cell? ⟨B + 1, 1, none⟩ = some (.slice ia k ic)) (W1.drew.alloc (.cells #[.int .i64 (k : Int)] 3)) := ⟨cellA (cellD c9), cellA (cellD d1)⟩
      clear HL6 HV6 hb1 c5 c6 c7 c8 cf d3 df e0 e1 c9 d1
      refine led_start (S := fun w' : World => w'.cell? ⟨B + 1 + 1, 9, none⟩ = some (.slice (some ⟨B + 1, 0, none⟩) 1 1) ∧ w'.cell? ⟨B + 1, 1, none⟩ = some (.slice ia k ic)) (z := 16) (by kernel_rfl) ?_
      refine led_take (i := 0) (v := ?v0) rfl (by kernel_rfl) (by kernel_rfl) (by kernel_rfl) (by kernel_rfl) (fun _ _ _ h => h) (.inl ⟨by rfl, ?hy0⟩) S0 ?rest0
      case hy0 =>
        rintro w' ⟨h1, h2⟩
        go_simp
        all_goals with_reducible rfl
      try simp only [Act.put, List.setIfInBounds_toArray, List.set_cons_zero, List.set_cons_succ]
      refine led_take (i := 1) (v := ?v1) rfl (by kernel_rfl) (by kernel_rfl) (by kernel_rfl) (by kernel_rfl) (fun _ _ _ h => h) (.inl ⟨by rfl, ?hy1⟩) S0 ?rest1
      case hy1 =>
        rintro w' ⟨h1, h2⟩
        go_simp
        all_goals with_reducible rfl
      try simp only [Act.put, List.setIfInBounds_toArray, List.set_cons_zero, List.set_cons_succ]
      refine led_take (i := 2) (v := ?v2) rfl (by kernel_rfl) (by kernel_rfl) (by kernel_rfl) (by kernel_rfl) (fun _ _ _ h => h) (.inl ⟨by rfl, ?hy2⟩) S0 ?rest2
      case hy2 =>
        rintro w' ⟨h1, h2⟩
        go_simp
        all_goals with_reducible rfl
      try simp only [Act.put, List.setIfInBounds_toArray, List.set_cons_zero, List.set_cons_succ]
      refine led_take (i := 3) (v := ?v3) rfl (by kernel_rfl) (by kernel_rfl) (by kernel_rfl) (by kernel_rfl) (fun _ _ _ h => h) (.inl ⟨by rfl, ?hy3⟩) S0 ?rest3
      case hy3 =>
        rintro w' ⟨h1, h2⟩
        go_simp
        all_goals with_reducible rfl
      try simp only [Act.put, List.setIfInBounds_toArray, List.set_cons_zero, List.set_cons_succ]
      refine led_take (i := 4) (v := ?v4) rfl (by kernel_rfl) (by kernel_rfl) (by kernel_rfl) (by kernel_rfl) (fun _ _ _ h => h) (.inl ⟨by rfl, ?hy4⟩) S0 ?rest4
      case hy4 =>
        rintro w' ⟨h1, h2⟩
        go_simp
        all_goals with_reducible rfl
      try simp only [Act.put, List.setIfInBounds_toArray, List.set_cons_zero, List.set_cons_succ]
      refine led_take (i := 5) (v := ?v5) rfl (by kernel_rfl) (by kernel_rfl) (by kernel_rfl) (by kernel_rfl) (fun _ _ _ h => h) (.inl ⟨by rfl, ?hy5⟩) S0 ?rest5
      case hy5 =>
        rintro w' ⟨h1, h2⟩
        go_simp
        all_goals with_reducible rfl
      try simp only [Act.put, List.setIfInBounds_toArray, List.set_cons_zero, List.set_cons_succ]
      refine led_take (i := 6) (v := ?v6) rfl (by kernel_rfl) (by kernel_rfl) (by kernel_rfl) (by kernel_rfl) (fun _ _ _ h => h) (.inl ⟨by rfl, ?hy6⟩) S0 ?rest6
      case hy6 =>
        rintro w' ⟨h1, h2⟩
        go_simp
        all_goals with_reducible rfl
      try simp only [Act.put, List.setIfInBounds_toArray, List.set_cons_zero, List.set_cons_succ]
      refine led_take (i := 7) (v := ?v7) rfl (by kernel_rfl) (by kernel_rfl) (by kernel_rfl) (by kernel_rfl) (fun _ _ _ h => h) (.inl ⟨by rfl, ?hy7⟩) S0 ?rest7
      case hy7 =>
        rintro w' ⟨h1, h2⟩
        go_simp
        all_goals with_reducible rfl
      try simp only [Act.put, List.setIfInBounds_toArray, List.set_cons_zero, List.set_cons_succ]
      refine led_take (i := 8) (v := ?v8) rfl (by kernel_rfl) (by kernel_rfl) (by kernel_rfl) (by kernel_rfl) (fun _ _ _ h => h) (.inl ⟨by rfl, ?hy8⟩) S0 ?rest8
      case hy8 =>
        rintro w' ⟨h1, h2⟩
        go_simp
        all_goals with_reducible rfl
      try simp only [Act.put, List.setIfInBounds_toArray, List.set_cons_zero, List.set_cons_succ]
      refine led_take (i := 9) (v := ?v9) rfl (by kernel_rfl) (by kernel_rfl) (by kernel_rfl) (by kernel_rfl) (fun _ _ _ h => h) (.inl ⟨by rfl, ?hy9⟩) S0 ?rest9
      case hy9 =>
        rintro w' ⟨h1, h2⟩
        go_simp
        all_goals with_reducible rfl
      try simp only [Act.put, List.setIfInBounds_toArray, List.set_cons_zero, List.set_cons_succ]
      refine led_take (i := 10) (v := ?v10) rfl (by kernel_rfl) (by kernel_rfl) (by kernel_rfl) (by kernel_rfl) (fun _ _ _ h => h) (.inl ⟨by rfl, ?hy10⟩) S0 ?rest10
      case hy10 =>
        rintro w' ⟨h1, h2⟩
        go_simp
        all_goals with_reducible rfl
      try simp only [Act.put, List.setIfInBounds_toArray, List.set_cons_zero, List.set_cons_succ]
      refine led_take (i := 11) (v := ?v11) rfl (by kernel_rfl) (by kernel_rfl) (by kernel_rfl) (by kernel_rfl) (fun _ _ _ h => h) (.inl ⟨by rfl, ?hy11⟩) S0 ?rest11
      case hy11 =>
        rintro w' ⟨h1, h2⟩
        go_simp
        all_goals with_reducible rfl
      try simp only [Act.put, List.setIfInBounds_toArray, List.set_cons_zero, List.set_cons_succ]
      refine led_one (i := 12) rfl (by kernel_rfl) ?_
      intro K12 hK12
      rw [if_pos (by rfl)]
      go_simp
      refine hK12 _ _ (fun _ => S1) ?_
      clear hK12
      try simp only [Act.put, List.setIfInBounds_toArray, List.set_cons_zero, List.set_cons_succ]
      refine led_one (i := 13) rfl (by kernel_rfl) ?_
      intro K13 hK13
      refine step_append_intG rfl _ _ rfl (B + 4) (.slice ia k ic) k (rng k) (k : Int) (by simp [Act.eval]) HOI1.out W1.heap.size (by simp [Act.eval]) (by simp) (by omega) (by simp; omega) ?_
      intro v7 w7 h7 g7
      obtain ⟨q7, p7, b7, HL7, HV7⟩ := PUT.out v7 w7 h7 g7
      have S7 := show (fun w' : World => w'.cell? ⟨B + 1 + 1, 9, none⟩ = some (.slice (some ⟨B + 1, 0, none⟩) 1 1) ∧ w'.cell? ⟨B + 1, 1, none⟩ = some (.slice ia k ic)) w7 from ⟨b7, q7⟩
      refine hK13 _ _ (fun _ => S7) ?_
      clear hK13
      obtain ⟨a7, c7', e7, _, _⟩ := own_slice h7.out
      subst e7
      try simp only [Act.put, List.setIfInBounds_toArray, List.set_cons_zero, List.set_cons_succ]
      refine led_one (i := 14) rfl (by kernel_rfl) ?_
      intro K14 hK14
      rw [if_pos (by rfl)]
      go_simp
      refine hK14 _ _ (fun _ => S7) ?_
      clear hK14
      try simp only [Act.put, List.setIfInBounds_toArray, List.set_cons_zero, List.set_cons_succ]
      refine led_one (i := 15) rfl (by kernel_rfl) ?_
      intro K15 hK15
      rw [if_pos (by rfl)]
      go_simp
      refine hK15 _ _ (fun _ => S7) ?_
      clear hK15
      try simp only [Act.put, List.setIfInBounds_toArray, List.set_cons_zero, List.set_cons_succ]
      refine led_one (i := 16) rfl (by kernel_rfl) ?_
      intro K16 hK16
      rw [if_pos (by rfl)]
      go_simp
      refine hK16 _ _ (fun h => absurd rfl h) ?_
      clear hK16 S0 S1 S7 q7 p7 b7 h7 g7 PUT
      refine led_done (by kernel_rfl) ?_
      go_wp2_with fail
      go_roundw
      case rel => exact ⟨k + 1, _, _, by omega, by go_num, HL7.out, HV7.out⟩
      case measure => simp [intOf]; omega
    · have hkn : k = n := by omega
      subst hkn
      have t1 : decide ((k : Int) < (k : Int)) = false := by simp
      have hv := HV.out.vls (fun _ => rfl) (by have := HHN.out; omega) (fun i => ⟨1, 1, (i : Int), []⟩) (fun i => ⟨rfl, rfl⟩)
      obtain ⟨va, vc, ev, hV⟩ := hv
      obtain ⟨ia, ic, ei, hI⟩ := HV.out.oi.ints
      have ei2 : bo = .slice ia (rng k).length ic := by rw [ei, rng_len]
      subst ev
      subst ei2
      have HCK : Hid (checkP [lmM, lmF ⟨#[102]⟩ [] 0 ((List.range k).map fun i : Nat => ⟨1, 1, (i : Int), []⟩) (rng k) (-1)] 0 = if k ≤ 262143 then 0 else 90) := lm0_check k
      have HCALL : Hid (∀ R, checkP [lmM, lmF ⟨#[102]⟩ [] 0 ((List.range k).map fun i : Nat => ⟨1, 1, (i : Int), []⟩) (rng k) (-1)] 0 = R → _) := fun R hR => lm_call HT.out HB1.out HBB.out HL.out (ps := []) (vs := (List.range k).map fun i : Nat => ⟨1, 1, (i : Int), []⟩) (bo := rng k) (ints_none _) hV hI (by decide) (by rw [rng_len]; have := HHN.out; omega) R hR
      obtain ⟨_, _, _, _, _, _, _, _, _, e0, e1, eb⟩ := HL.out.cells
      clear HL HV hV hI ei
      by_cases hg : k ≤ 262143
      · have hR := HCK.out
        rw [if_pos hg] at hR
        obtain ⟨hC, hbW⟩ := HCALL.out 0 hR
        have HC : Hid _ := hC
        have HBW : Hid _ := hbW
        have t2 : decide ((k : Int) ≤ 262143) = true := by rw [decide_eq_true_iff]; omega
        clear hC hbW hR hg HCK HCALL
        go_wp2_with (go_at_call 6; refine Calls.mono HC.out ?_; rintro e w9 ⟨rfl, hb9⟩)
        go_ret
        exact ⟨rfl, HBW.out.trans (hb9.mono HBW.out.size)⟩
      · have hR := HCK.out
        rw [if_neg hg] at hR
        obtain ⟨hC, hbW⟩ := HCALL.out 90 hR
        have HC : Hid _ := hC
        have HBW : Hid _ := hbW
        have t2 : decide ((k : Int) ≤ 262143) = false := by rw [decide_eq_false_iff_not]; omega
        clear hC hbW hR hg HCK HCALL
        go_wp2_with (go_at_call 6; refine Calls.mono HC.out ?_; rintro e w9 ⟨rfl, hb9⟩)
        go_ret
        exact ⟨rfl, HBW.out.trans (hb9.mono HBW.out.size)⟩
end Go.Proofs.YtdbkjjelaipcfaaDoor
