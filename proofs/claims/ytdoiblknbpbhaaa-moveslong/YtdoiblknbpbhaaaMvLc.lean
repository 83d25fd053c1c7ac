import Derived.Test.YtdoiblknbpbhaaaMvLb
set_option linter.unusedVariables false
set_option linter.unusedSimpArgs false
namespace Go.Proofs.Ytdoiblknbpbhaaa
open Go.ChangeShapes Go.WideShapes Go.ChangeAt Go.RowKit Go.Maps

set_option maxRecDepth 100000 in
set_option maxHeartbeats 16000000 in
theorem movesLong_false (w : World) (n : Nat) (kind : Int) (h2 : 2 ≤ n) (h1000 : n ≤ 1000) (hc : (bits BinOp.and IntKind.i64 kind 2 == 2) = false) : Calls Try.prog 6 #[.int .i64 n, .int .i64 kind] w fun e w' => e = .returned (.bool true) ∧ Below w.heap.size w w' := by
  have HAL : Hid (Calls Try.prog 8 #[] w fun e w' => e = .returned (.bool true) ∧ Below w.heap.size w w') := alive_any w
  have d1 : decide ((n : Int) < 2) = false := by simp; omega
  have d2 : decide ((1000 : Int) < (n : Int)) = false := by simp; omega
  have hc2 : ¬ bits BinOp.and IntKind.i64 kind 2 = 2 := by simpa using hc
  obtain ⟨r, hr⟩ : ∃ r, (bits BinOp.and IntKind.i64 kind 1 == 1) = r := ⟨_, rfl⟩
  go_enter Try.func6, Try.ntmps6
  go_wp2_with (first
    | (go_at_call 8; refine HAL.out.mono ?_; rintro e w1 ⟨rfl, hb1⟩; have HB1 : Hid _ := hb1; clear hb1))
  go_loopw [6, 7] (fun lv v wr => ∃ k : Nat, k ≤ n ∧ v = .int .i64 k ∧ Hid (OwnM wr w.heap.size lv k (lng n r false k) ∧ Below w.heap.size w wr)) (fun _ v _ => n - (intOf v).toNat)
  case atStart => exact ⟨0, by omega, rfl, OwnM.nil _ _, HB1.out⟩
  case round =>
    obtain ⟨k, hk, rfl, HI⟩ := hrel
    obtain ⟨oa, oc, rfl, _, _⟩ := own_slice HI.out.1.out
    by_cases hlt : k < n
    · have HBW : Hid (Below w.heap.size w wr) := HI.out.2
      cases r
      · have HO : Hid (OwnM wr w.heap.size (.slice oa k oc) k (lng n false false k)) := HI.out.1
        have HEQ : Hid (lnk n false false k = ((1, (k : Int)), (1, (k : Int) + 1))) := by
          show lnk _ _ _ _ = _
          simp only [lnk, kx, nx]
          simp
          try (repeat (first | constructor | (split) | omega))
        go_wp2_with (first
          | (go_at_call 17; refine (reg_any _ _).mono ?_; rintro e w1 ⟨rfl, hb1⟩
             replace HBW : Hid (Below w.heap.size w w1) := HBW.out.trans (hb1.mono HBW.out.size)
             replace HO : Hid (OwnM w1 w.heap.size (.slice oa k oc) k (lng n false false k)) := HO.out.keep hb1
             clear hb1)
          | (at_builtin; refine wpList_append_mv rfl _ _ rfl w.heap.size (.slice oa k oc) k (lng n false false k) _ _ _ _ rfl HO.out (by refine ⟨⟨?_, ?_⟩, ⟨?_, ?_⟩⟩ <;> simp only [Fits] <;> omega) rfl (by omega) HBW.out.size ?_; intro v2 w2 h2 g2
             have HO2 : Hid _ := h2
             have HG2 : Hid _ := g2
             clear h2 g2))
        go_roundw
        case rel => exact ⟨k + 1, by omega, by go_num, by rw [lng_succ, HEQ.out]; exact HO2, HBW.out.trans HG2.out.bel⟩
        case measure => simp [intOf]; omega
      · have HO : Hid (OwnM wr w.heap.size (.slice oa k oc) k (lng n true false k)) := HI.out.1
        have HEQ : Hid (lnk n true false k = ((1, (n : Int) - 1 - (k : Int)), (1, (n : Int) - 1 - (k : Int) + 1))) := by
          show lnk _ _ _ _ = _
          simp only [lnk, kx, nx]
          simp
          try (repeat (first | constructor | (split) | omega))
        go_wp2_with (first
          | (go_at_call 17; refine (reg_any _ _).mono ?_; rintro e w1 ⟨rfl, hb1⟩
             replace HBW : Hid (Below w.heap.size w w1) := HBW.out.trans (hb1.mono HBW.out.size)
             replace HO : Hid (OwnM w1 w.heap.size (.slice oa k oc) k (lng n true false k)) := HO.out.keep hb1
             clear hb1)
          | (at_builtin; refine wpList_append_mv rfl _ _ rfl w.heap.size (.slice oa k oc) k (lng n true false k) _ _ _ _ rfl HO.out (by refine ⟨⟨?_, ?_⟩, ⟨?_, ?_⟩⟩ <;> simp only [Fits] <;> omega) rfl (by omega) HBW.out.size ?_; intro v2 w2 h2 g2
             have HO2 : Hid _ := h2
             have HG2 : Hid _ := g2
             clear h2 g2))
        go_roundw
        case rel => exact ⟨k + 1, by omega, by go_num, by rw [lng_succ, HEQ.out]; exact HO2, HBW.out.trans HG2.out.bel⟩
        case measure => simp [intOf]; omega
    · obtain rfl : k = n := by omega
      obtain ⟨A, hA⟩ : ∃ A, ord tL (lng k r false k) = A := ⟨_, rfl⟩
      have HDM : Hid (∀ m ∈ A, Dom k m.1 ∧ Dom k m.2) := by rw [← hA]; exact lng_dom r false
      have HDO : Hid (∀ y, y < k → ex (fun p => (ix k p : Int)) A (1, (y : Int)) = (nx k false y : Int)) := fun y hy => by
        have h1 := (ord_does (lng_gd k r false) (fun p => (ix k p : Int))).1 _ (lng_has (r := r) (c := false) hy)
        rw [hA] at h1
        simp only at h1
        rw [h1]
        have : ((1, (nx k false y : Int)) : Lc) ≠ tL := by simp [tL]
        simp [ix, this]
      have HLA : Hid (A.length = k) := by rw [← hA]; exact long_chain h2 r
      have HOR : Hid (Calls Try.prog 10 #[.slice oa k oc, .agg #[.int .i64 2, .int .i64 3]] wr fun e w' => ∃ va vc, e = .returned (.tuple #[.slice va (k) vc, .int .i64 0]) ∧ Hid (OwnM w' wr.heap.size (.slice va (k) vc) (k) A) ∧ Hid (Below wr.heap.size wr w')) := by
        have h := order_any wr HI.out.1.mvsS (lng_len k r false k).symm (by omega) tL ⟨by simp [Fits, tL], by simp [Fits, tL]⟩
        rw [(lng_err k r false).1, (lng_err k r false).2, hA, HLA.out] at h
        refine h.mono ?_
        rintro e w' ⟨v, rfl, h1, h2⟩
        obtain ⟨va, vc, rfl, _, _⟩ := own_slice h1.out
        exact ⟨va, vc, rfl, h1, h2⟩
      have HBW : Hid (Below w.heap.size w wr) := HI.out.2
      have hml := run_make_row' (P := Try.prog) 42 3 (.int .i64 0) 8 Try.underlying42 info3i rfl .i64 .i64 (k + 2) (by omega) (by omega)
      simp only [Int.natCast_add, Int.cast_ofNat_Int] at hml
      clear hA HI hr
      go_wp2_with (first | (go_at_call 10; refine HOR.out.mono ?_; rintro e w2 ⟨va, vc, rfl, HA2, HB2⟩))
      obtain ⟨cb, hcb⟩ : ∃ s, s = w2.heap.size := ⟨_, rfl⟩
      obtain ⟨W3, hW3⟩ : ∃ W, W = w2.alloc (.cells (madeCells #[.int .i64 0] (k + 2)) 3) := ⟨_, rfl⟩
      have HVB : Hid (∀ g, (Value.slice va (k) vc).ownBlock = some g → g ≠ cb) := fun g hg e => by have := (own_block HA2.out.out hg).2; omega
      have HCB : Hid (w.heap.size ≤ cb) := by have := HBW.out.size; have := HB2.out.size; show _ ≤ _; omega
      have HI0 : Hid (IRf W3 cb (k + 2) (fun j => if j < 0 then (j : Int) else 0) ∧ (∃ B2 : Nat, OwnM W3 B2 (.slice va (k) vc) (k) A) ∧ Below w.heap.size w W3) := by
        rw [hW3, hcb]
        exact ⟨(IRf.made w2 (k + 2)).same fun j hj => by simp, ⟨_, HA2.out.keep (below_new _ _)⟩, (HBW.out.trans (HB2.out.mono HBW.out.size)).trans ((below_new _ _).mono (by have := HBW.out.size; have := HB2.out.size; omega))⟩
      rw [← hW3, ← hcb]
      clear hW3 hcb hml HOR HA2 HB2 HBW
      go_loopw [14] (fun v wr' => ∃ i : Nat, i ≤ k + 2 ∧ v = .int .i64 i ∧ Hid (IRf wr' cb (k + 2) (fun j => if j < i then (j : Int) else 0) ∧ (∃ B2 : Nat, OwnM wr' B2 (.slice va (k) vc) (k) A) ∧ Below w.heap.size w wr')) (fun v _ => k + 2 - (intOf v).toNat)
      case atStart => exact ⟨0, by omega, rfl, HI0⟩
      case round =>
        clear HI0
        obtain ⟨i, hi, rfl, HI⟩ := hrel
        by_cases hik : i < k + 2
        · obtain ⟨q0, z0⟩ := HI.out.1.cell hik
          have hiz : (i : Int) < (k : Int) + 2 := by omega
          go_wp2_with fail
          go_roundw
          case rel =>
            obtain ⟨B2, ho⟩ := HI.out.2.1
            refine ⟨i + 1, by omega, by go_num, (HI.out.1.set hik (i : Int)).same fun j hj => ?_, ⟨B2, ho.move fun g hg => heap_set_other (HVB.out g hg)⟩, HI.out.2.2.setCell HCB.out _⟩
            by_cases e : j = i
            · subst e; simp
            · rw [if_neg e]
              by_cases e2 : j < i
              · rw [if_pos e2, if_pos (by omega)]
              · rw [if_neg e2, if_neg (by omega)]
          case measure => simp [intOf]; omega
        · have hi2 : i = k + 2 := by omega
          have hiz : ¬ ((i : Int) < (k : Int) + 2) := by omega
          have HI0 : Hid (IRf wr cb (k + 2) (fun j => ex (fun p => (ix k p : Int)) (A.take 0) (pl k j)) ∧ (∃ B2 : Nat, OwnM wr B2 (.slice va (k) vc) (k) A) ∧ Below w.heap.size w wr) := ⟨HI.out.1.same fun j hj => by rw [if_pos (by omega)]; show _ = ((ix k (pl k j) : Nat) : Int); rw [ix_pl hj], HI.out.2.1, HI.out.2.2⟩
          clear HI hi2
          go_wp2_with fail
          clear hi hik hiz
          go_loopw [15] (fun v wr => ∃ x : Nat, x ≤ k ∧ v = .int .i64 x ∧ Hid (IRf wr cb (k + 2) (fun j => ex (fun p => (ix k p : Int)) (A.take x) (pl k j)) ∧ (∃ B2 : Nat, OwnM wr B2 (.slice va (k) vc) (k) A) ∧ Below w.heap.size w wr)) (fun v _ => k - (intOf v).toNat)
          case atStart => exact ⟨0, by omega, rfl, HI0⟩
          case round =>
            clear HI0
            obtain ⟨x, hx, rfl, HI⟩ := hrel
            by_cases hxl : x < k
            · have hxf : x < A.length := by have := HLA.out; omega
              obtain ⟨B2, ho⟩ := HI.out.2.1
              obtain ⟨b, o, rfl, hbl, c0, c1, c2, c3⟩ := ho.mvsS.at hxf
              obtain ⟨D1, D2⟩ := HDM.out _ (List.getElem_mem hxf)
              have HTX : Hid (∀ p, ex (fun p => (ix k p : Int)) (A.take (x + 1)) p = if p = A[x].1 then ex (fun p => (ix k p : Int)) (A.take x) A[x].2 else ex (fun p => (ix k p : Int)) (A.take x) p) := fun p => by rw [List.take_succ_eq_append_getElem hxf, ex_snoc]
              generalize A[x] = m at c0 c1 c2 c3 D1 D2 HTX
              obtain ⟨⟨m1, m2⟩, ⟨m3, m4⟩⟩ := m
              simp only at c0 c1 c2 c3 D1 D2 HTX
              have HPF : Hid (∀ w', Below wr.heap.size wr w' → Calls Try.prog 18 #[.agg #[.int .i64 m3, .int .i64 m4], .int .i64 k] w' fun e w'' => e = .returned (.int .i64 (ix k (m3, m4) : Int)) ∧ Below wr.heap.size wr w'') := fun w' hb => by
                refine (placeD_any w' k h1000 D2).mono ?_
                rintro e w'' ⟨rfl, h2⟩
                exact ⟨rfl, hb.trans (h2.mono hb.size)⟩
              have HPTT : Hid (∀ w', Below wr.heap.size wr w' → Calls Try.prog 18 #[.agg #[.int .i64 m1, .int .i64 m2], .int .i64 k] w' fun e w'' => e = .returned (.int .i64 (ix k (m1, m2) : Int)) ∧ Below wr.heap.size wr w'') := fun w' hb => by
                refine (placeD_any w' k h1000 D1).mono ?_
                rintro e w'' ⟨rfl, h2⟩
                exact ⟨rfl, hb.trans (h2.mono hb.size)⟩
              have HS : Hid (∀ w', Below wr.heap.size wr w' → (fun w' : World => w'.cell? ⟨b, o + x * 4, none⟩ = some (.int .i64 m1) ∧ w'.cell? ⟨b, o + x * 4 + 1, none⟩ = some (.int .i64 m2) ∧ w'.cell? ⟨b, o + x * 4 + 2, none⟩ = some (.int .i64 m3) ∧ w'.cell? ⟨b, o + x * 4 + 3, none⟩ = some (.int .i64 m4)) w') := fun w' hb => ⟨(hb.cell (p := ⟨b, o + x * 4, none⟩) hbl).trans c0, (hb.cell (p := ⟨b, o + x * 4 + 1, none⟩) hbl).trans c1, (hb.cell (p := ⟨b, o + x * 4 + 2, none⟩) hbl).trans c2, (hb.cell (p := ⟨b, o + x * 4 + 3, none⟩) hbl).trans c3⟩
              have S0 : (fun w' : World => w'.cell? ⟨b, o + x * 4, none⟩ = some (.int .i64 m1) ∧ w'.cell? ⟨b, o + x * 4 + 1, none⟩ = some (.int .i64 m2) ∧ w'.cell? ⟨b, o + x * 4 + 2, none⟩ = some (.int .i64 m3) ∧ w'.cell? ⟨b, o + x * 4 + 3, none⟩ = some (.int .i64 m4)) wr.drew := HS.out _ (Below.refl _ _).drew
              have HD1 : Hid (Dom k (m1, m2)) := D1
              have HD2 : Hid (Dom k (m3, m4)) := D2
              clear c0 c1 c2 c3 D1 D2 ho
              go_wp2_with fail
              refine led_start (S := fun w' : World => w'.cell? ⟨b, o + x * 4, none⟩ = some (.int .i64 m1) ∧ w'.cell? ⟨b, o + x * 4 + 1, none⟩ = some (.int .i64 m2) ∧ w'.cell? ⟨b, o + x * 4 + 2, none⟩ = some (.int .i64 m3) ∧ w'.cell? ⟨b, o + x * 4 + 3, none⟩ = some (.int .i64 m4)) (z := 100) (by kernel_rfl) ?_
              show led _ _ _ _ _ 16 _ _ _
              refine led_takeF (i := 0) (v := ?v0zf) rfl (by kernel_rfl) (by kernel_rfl) (by kernel_rfl) (by kernel_rfl) (fun _ _ _ h => h) (.inl ⟨by rfl, ?hy0zf⟩) S0 ?rest0zf
              case hy0zf =>
                rintro w' ⟨h1, h2, h3, h4⟩
                go_simp
                all_goals with_reducible rfl
              try simp only [Act.put, List.setIfInBounds_toArray, List.set_cons_zero, List.set_cons_succ]
              refine led_takeF (i := 1) (v := ?v1zf) rfl (by kernel_rfl) (by kernel_rfl) (by kernel_rfl) (by kernel_rfl) (fun _ _ _ h => h) (.inl ⟨by rfl, ?hy1zf⟩) S0 ?rest1zf
              case hy1zf =>
                rintro w' ⟨h1, h2, h3, h4⟩
                go_simp
                all_goals with_reducible rfl
              try simp only [Act.put, List.setIfInBounds_toArray, List.set_cons_zero, List.set_cons_succ]
              refine led_takeF (i := 2) (v := ?v2zf) rfl (by kernel_rfl) (by kernel_rfl) (by kernel_rfl) (by kernel_rfl) (fun _ _ _ h => h) (.inl ⟨by rfl, ?hy2zf⟩) S0 ?rest2zf
              case hy2zf =>
                rintro w' ⟨h1, h2, h3, h4⟩
                go_simp
                all_goals with_reducible rfl
              try simp only [Act.put, List.setIfInBounds_toArray, List.set_cons_zero, List.set_cons_succ]
              refine led_takeF (i := 3) (v := ?v3zf) rfl (by kernel_rfl) (by kernel_rfl) (by kernel_rfl) (by kernel_rfl) (fun _ _ _ h => h) (.inl ⟨by rfl, ?hy3zf⟩) S0 ?rest3zf
              case hy3zf =>
                rintro w' ⟨h1, h2, h3, h4⟩
                go_simp
                all_goals with_reducible rfl
              try simp only [Act.put, List.setIfInBounds_toArray, List.set_cons_zero, List.set_cons_succ]
              refine led_takeF (i := 4) (v := ?v4zf) rfl (by kernel_rfl) (by kernel_rfl) (by kernel_rfl) (by kernel_rfl) (fun _ _ _ h => h) (.inl ⟨by rfl, ?hy4zf⟩) S0 ?rest4zf
              case hy4zf =>
                rintro w' ⟨h1, h2, h3, h4⟩
                go_simp
                all_goals with_reducible rfl
              try simp only [Act.put, List.setIfInBounds_toArray, List.set_cons_zero, List.set_cons_succ]
              refine led_takeF (i := 5) (v := ?v5zf) rfl (by kernel_rfl) (by kernel_rfl) (by kernel_rfl) (by kernel_rfl) (fun _ _ _ h => h) (.inl ⟨by rfl, ?hy5zf⟩) S0 ?rest5zf
              case hy5zf =>
                rintro w' ⟨h1, h2, h3, h4⟩
                go_simp
                all_goals with_reducible rfl
              try simp only [Act.put, List.setIfInBounds_toArray, List.set_cons_zero, List.set_cons_succ]
              refine led_takeF (i := 7) (v := ?v7zf) rfl (by kernel_rfl) (by kernel_rfl) (by kernel_rfl) (by kernel_rfl) (fun _ _ _ h => h) (.inl ⟨by rfl, ?hy7zf⟩) S0 ?rest7zf
              case hy7zf =>
                rintro w' ⟨h1, h2, h3, h4⟩
                go_simp
                all_goals with_reducible rfl
              try simp only [Act.put, List.setIfInBounds_toArray, List.set_cons_zero, List.set_cons_succ]
              refine led_takeF (i := 8) (v := ?v8zf) rfl (by kernel_rfl) (by kernel_rfl) (by kernel_rfl) (by kernel_rfl) (fun _ _ _ h => h) (.inl ⟨by rfl, ?hy8zf⟩) S0 ?rest8zf
              case hy8zf =>
                rintro w' ⟨h1, h2, h3, h4⟩
                go_simp
                all_goals with_reducible rfl
              try simp only [Act.put, List.setIfInBounds_toArray, List.set_cons_zero, List.set_cons_succ]
              refine led_takeF (i := 9) (v := ?v9zf) rfl (by kernel_rfl) (by kernel_rfl) (by kernel_rfl) (by kernel_rfl) (fun _ _ _ h => h) (.inl ⟨by rfl, ?hy9zf⟩) S0 ?rest9zf
              case hy9zf =>
                rintro w' ⟨h1, h2, h3, h4⟩
                go_simp
                all_goals with_reducible rfl
              try simp only [Act.put, List.setIfInBounds_toArray, List.set_cons_zero, List.set_cons_succ]
              refine led_takeF (i := 10) (v := ?v10zf) rfl (by kernel_rfl) (by kernel_rfl) (by kernel_rfl) (by kernel_rfl) (fun _ _ _ h => h) (.inl ⟨by rfl, ?hy10zf⟩) S0 ?rest10zf
              case hy10zf =>
                rintro w' ⟨h1, h2, h3, h4⟩
                go_simp
                all_goals with_reducible rfl
              try simp only [Act.put, List.setIfInBounds_toArray, List.set_cons_zero, List.set_cons_succ]
              refine led_takeF (i := 11) (v := ?v11zf) rfl (by kernel_rfl) (by kernel_rfl) (by kernel_rfl) (by kernel_rfl) (fun _ _ _ h => h) (.inl ⟨by rfl, ?hy11zf⟩) S0 ?rest11zf
              case hy11zf =>
                rintro w' ⟨h1, h2, h3, h4⟩
                go_simp
                all_goals with_reducible rfl
              try simp only [Act.put, List.setIfInBounds_toArray, List.set_cons_zero, List.set_cons_succ]
              refine led_takeF (i := 12) (v := ?v12zf) rfl (by kernel_rfl) (by kernel_rfl) (by kernel_rfl) (by kernel_rfl) (fun _ _ _ h => h) (.inl ⟨by rfl, ?hy12zf⟩) S0 ?rest12zf
              case hy12zf =>
                rintro w' ⟨h1, h2, h3, h4⟩
                go_simp
                all_goals with_reducible rfl
              try simp only [Act.put, List.setIfInBounds_toArray, List.set_cons_zero, List.set_cons_succ]
              refine led_one (i := 6) rfl (by kernel_rfl) ?_
              intro K1 hK1
              rw [if_pos (by rfl)]
              go_simp
              refine (HPF.out _ (Below.refl _ _).drew).mono ?_
              rintro e w5 ⟨rfl, hb5⟩
              refine hK1 _ _ (fun _ => HS.out w5 hb5) ?_
              clear hK1
              try simp only [Act.put, List.setIfInBounds_toArray, List.set_cons_zero, List.set_cons_succ]
              refine led_one (i := 13) rfl (by kernel_rfl) ?_
              intro K2 hK2
              rw [if_pos (by rfl)]
              go_simp
              refine (HPTT.out _ hb5).mono ?_
              rintro e w6 ⟨rfl, hb6⟩
              have S6 := HS.out w6 hb6
              refine hK2 _ _ (fun _ => S6) ?_
              clear hK2
              try simp only [Act.put, List.setIfInBounds_toArray, List.set_cons_zero, List.set_cons_succ]
              refine led_takeF (i := 14) (v := ?v14zf) rfl (by kernel_rfl) (by kernel_rfl) (by kernel_rfl) (by kernel_rfl) (fun _ _ _ h => h) (.inl ⟨by rfl, ?hy14zf⟩) S6 ?rest14zf
              case hy14zf =>
                rintro w' ⟨h1, h2, h3, h4⟩
                go_simp
                all_goals with_reducible rfl
              try simp only [Act.put, List.setIfInBounds_toArray, List.set_cons_zero, List.set_cons_succ]
              refine led_takeF (i := 15) (v := ?v15zf) rfl (by kernel_rfl) (by kernel_rfl) (by kernel_rfl) (by kernel_rfl) (fun _ _ _ h => h) (.inl ⟨by rfl, ?hy15zf⟩) S6 ?rest15zf
              case hy15zf =>
                rintro w' ⟨h1, h2, h3, h4⟩
                go_simp
                all_goals with_reducible rfl
              try simp only [Act.put, List.setIfInBounds_toArray, List.set_cons_zero, List.set_cons_succ]
              refine led_done (by kernel_rfl) ?_
              have HB6 : Hid (Below wr.heap.size wr w6) := hb6
              obtain ⟨q1, hq1⟩ : ∃ q, ix k (m1, m2) = q := ⟨_, rfl⟩
              obtain ⟨q2, hq2⟩ : ∃ q, ix k (m3, m4) = q := ⟨_, rfl⟩
              have hl1 : q1 < k + 2 := by rw [← hq1]; exact (pl_ix HD1.out).2
              have hl2 : q2 < k + 2 := by rw [← hq2]; exact (pl_ix HD2.out).2
              have hr6 := HI.out.1.move (HB6.out.block _ HI.out.1.lt)
              obtain ⟨y1, z1⟩ := hr6.cell hl1
              obtain ⟨y2, z2⟩ := hr6.cell hl2
              have hp1 : pl k q1 = (m1, m2) := by rw [← hq1]; exact (pl_ix HD1.out).1
              have hp2 : pl k q2 = (m3, m4) := by rw [← hq2]; exact (pl_ix HD2.out).1
              have HR6 : Hid (IRf (w6.setCell ⟨cb, q1, none⟩ (.int .i64 (ex (fun p => (ix k p : Int)) (A.take x) (pl k q2)))) cb (k + 2) (fun j => ex (fun p => (ix k p : Int)) (A.take (x + 1)) (pl k j))) := (hr6.set hl1 _).same fun j hj => by
                rw [HTX.out, hp2]
                by_cases e : j = q1
                · rw [if_pos e, e, if_pos hp1]
                · rw [if_neg e, if_neg]
                  intro e2
                  have h5 := congrArg (ix k) e2
                  rw [ix_pl hj, hq1] at h5
                  exact e h5
              rw [hq1, hq2]
              generalize ex (fun p => (ix k p : Int)) (A.take x) (pl k q2) = ev at y2 HR6
              have g1 : decide ((q1 : Int) < 0) = false := by simp
              have g2 : decide ((q2 : Int) < 0) = false := by simp
              have g3 : (q1 : Int) < (k : Int) + 2 := by omega
              have g4 : (q2 : Int) < (k : Int) + 2 := by omega
              clear hb5 hb6 S0 S6 hr6 hq1 hq2 hp1 hp2
              go_wp2_with fail
              go_roundw
              case rel =>
                obtain ⟨B2, ho⟩ := HI.out.2.1
                exact ⟨x + 1, by omega, by go_num, HR6, ⟨B2, (ho.keep HB6.out).move fun g hg => heap_set_other (HVB.out g hg)⟩, (HI.out.2.2.trans (HB6.out.mono HI.out.2.2.size)).setCell HCB.out _⟩
              case measure => simp [intOf]; omega
            · obtain rfl : k = x := by omega
              have HI0 : Hid (IRf wr cb (k + 2) (fun j => ex (fun p => (ix k p : Int)) A (pl k j)) ∧ Below w.heap.size w wr) := by
                have h := HI.out.1
                have e : A.take (k) = A := by rw [← HLA.out, List.take_length]
                rw [e] at h
                exact ⟨h, HI.out.2.2⟩
              clear HI
              go_wp2_with fail
              go_loopw [18] (fun v wr => ∃ y : Nat, y ≤ k ∧ v = .int .i64 y ∧ Hid (IRf wr cb (k + 2) (fun j => ex (fun p => (ix k p : Int)) A (pl k j)) ∧ Below w.heap.size w wr)) (fun v _ => k - (intOf v).toNat)
              case atStart => exact ⟨0, by omega, rfl, HI0⟩
              case round =>
                clear HI0
                obtain ⟨y, hy, rfl, HI⟩ := hrel
                by_cases hyk : y < k
                · obtain ⟨q0, _⟩ := HI.out.1.cell (show y < k + 2 by omega)
                  have hpy : pl k y = (1, (y : Int)) := by unfold pl; rw [if_neg (by omega)]
                  rw [hpy, HDO.out y hyk] at q0
                  have g3 : (y : Int) < (k : Int) + 2 := by omega
                  clear hpy
                  have e0 : (nx k false y : Int) = (y : Int) + 1 := by simp [nx]
                  rw [e0] at q0
                  clear e0
                  go_wp2_with fail
                  go_roundw
                  case rel => exact ⟨y + 1, by omega, by go_num, HI⟩
                  case measure => simp [intOf]; omega
                · obtain rfl : k = y := by omega
                  go_wp2_with fail
                  go_ret
                  exact ⟨rfl, HI.out.2⟩
set_option maxRecDepth 100000 in
set_option maxHeartbeats 16000000 in
theorem movesLong_true (w : World) (n : Nat) (kind : Int) (h2 : 2 ≤ n) (h1000 : n ≤ 1000) (hc : (bits BinOp.and IntKind.i64 kind 2 == 2) = true) : Calls Try.prog 6 #[.int .i64 n, .int .i64 kind] w fun e w' => e = .returned (.bool true) ∧ Below w.heap.size w w' := by
  have HAL : Hid (Calls Try.prog 8 #[] w fun e w' => e = .returned (.bool true) ∧ Below w.heap.size w w') := alive_any w
  have d1 : decide ((n : Int) < 2) = false := by simp; omega
  have d2 : decide ((1000 : Int) < (n : Int)) = false := by simp; omega
  have hc2 : bits BinOp.and IntKind.i64 kind 2 = 2 := by simpa using hc
  obtain ⟨r, hr⟩ : ∃ r, (bits BinOp.and IntKind.i64 kind 1 == 1) = r := ⟨_, rfl⟩
  go_enter Try.func6, Try.ntmps6
  go_wp2_with (first
    | (go_at_call 8; refine HAL.out.mono ?_; rintro e w1 ⟨rfl, hb1⟩; have HB1 : Hid _ := hb1; clear hb1))
  go_loopw [6, 7] (fun lv v wr => ∃ k : Nat, k ≤ n ∧ v = .int .i64 k ∧ Hid (OwnM wr w.heap.size lv k (lng n r true k) ∧ Below w.heap.size w wr)) (fun _ v _ => n - (intOf v).toNat)
  case atStart => exact ⟨0, by omega, rfl, OwnM.nil _ _, HB1.out⟩
  case round =>
    obtain ⟨k, hk, rfl, HI⟩ := hrel
    obtain ⟨oa, oc, rfl, _, _⟩ := own_slice HI.out.1.out
    by_cases hlt : k < n
    · have HBW : Hid (Below w.heap.size w wr) := HI.out.2
      cases r
      · have HO : Hid (OwnM wr w.heap.size (.slice oa k oc) k (lng n false true k)) := HI.out.1
        by_cases hkn : k + 1 = n
        · have hke : ((k : Int) + 1 == (n : Int)) = true := by simp; omega
          have hkz : (k : Int) + 1 = (n : Int) := by omega
          have HEQ : Hid (lnk n false true k = ((1, (k : Int)), (1, 0))) := by
            show lnk _ _ _ _ = _
            simp only [lnk, kx, nx]
            simp
            try (repeat (first | constructor | (split) | omega))
          go_wp2_with (first
            | (go_at_call 17; refine (reg_any _ _).mono ?_; rintro e w1 ⟨rfl, hb1⟩
               replace HBW : Hid (Below w.heap.size w w1) := HBW.out.trans (hb1.mono HBW.out.size)
               replace HO : Hid (OwnM w1 w.heap.size (.slice oa k oc) k (lng n false true k)) := HO.out.keep hb1
               clear hb1)
            | (at_builtin; refine wpList_append_mv rfl _ _ rfl w.heap.size (.slice oa k oc) k (lng n false true k) _ _ _ _ rfl HO.out (by refine ⟨⟨?_, ?_⟩, ⟨?_, ?_⟩⟩ <;> simp only [Fits] <;> omega) rfl (by omega) HBW.out.size ?_; intro v2 w2 h2 g2
               have HO2 : Hid _ := h2
               have HG2 : Hid _ := g2
               clear h2 g2))
          go_roundw
          case rel => exact ⟨k + 1, by omega, by go_num, by rw [lng_succ, HEQ.out]; exact HO2, HBW.out.trans HG2.out.bel⟩
          case measure => simp [intOf]; omega
        · have hke : ((k : Int) + 1 == (n : Int)) = false := by simp; omega
          have hkz : ¬ (k : Int) + 1 = (n : Int) := by omega
          have HEQ : Hid (lnk n false true k = ((1, (k : Int)), (1, (k : Int) + 1))) := by
            show lnk _ _ _ _ = _
            simp only [lnk, kx, nx]
            simp
            try (repeat (first | constructor | (split) | omega))
          go_wp2_with (first
            | (go_at_call 17; refine (reg_any _ _).mono ?_; rintro e w1 ⟨rfl, hb1⟩
               replace HBW : Hid (Below w.heap.size w w1) := HBW.out.trans (hb1.mono HBW.out.size)
               replace HO : Hid (OwnM w1 w.heap.size (.slice oa k oc) k (lng n false true k)) := HO.out.keep hb1
               clear hb1)
            | (at_builtin; refine wpList_append_mv rfl _ _ rfl w.heap.size (.slice oa k oc) k (lng n false true k) _ _ _ _ rfl HO.out (by refine ⟨⟨?_, ?_⟩, ⟨?_, ?_⟩⟩ <;> simp only [Fits] <;> omega) rfl (by omega) HBW.out.size ?_; intro v2 w2 h2 g2
               have HO2 : Hid _ := h2
               have HG2 : Hid _ := g2
               clear h2 g2))
          go_roundw
          case rel => exact ⟨k + 1, by omega, by go_num, by rw [lng_succ, HEQ.out]; exact HO2, HBW.out.trans HG2.out.bel⟩
          case measure => simp [intOf]; omega
      · have HO : Hid (OwnM wr w.heap.size (.slice oa k oc) k (lng n true true k)) := HI.out.1
        by_cases hkn : n - 1 - k + 1 = n
        · have hke : ((n : Int) - 1 - (k : Int) + 1 == (n : Int)) = true := by simp; omega
          have hkz : (n : Int) - 1 - (k : Int) + 1 = (n : Int) := by omega
          have HEQ : Hid (lnk n true true k = ((1, (n : Int) - 1 - (k : Int)), (1, 0))) := by
            show lnk _ _ _ _ = _
            simp only [lnk, kx, nx]
            simp
            try (repeat (first | constructor | (split) | omega))
          go_wp2_with (first
            | (go_at_call 17; refine (reg_any _ _).mono ?_; rintro e w1 ⟨rfl, hb1⟩
               replace HBW : Hid (Below w.heap.size w w1) := HBW.out.trans (hb1.mono HBW.out.size)
               replace HO : Hid (OwnM w1 w.heap.size (.slice oa k oc) k (lng n true true k)) := HO.out.keep hb1
               clear hb1)
            | (at_builtin; refine wpList_append_mv rfl _ _ rfl w.heap.size (.slice oa k oc) k (lng n true true k) _ _ _ _ rfl HO.out (by refine ⟨⟨?_, ?_⟩, ⟨?_, ?_⟩⟩ <;> simp only [Fits] <;> omega) rfl (by omega) HBW.out.size ?_; intro v2 w2 h2 g2
               have HO2 : Hid _ := h2
               have HG2 : Hid _ := g2
               clear h2 g2))
          go_roundw
          case rel => exact ⟨k + 1, by omega, by go_num, by rw [lng_succ, HEQ.out]; exact HO2, HBW.out.trans HG2.out.bel⟩
          case measure => simp [intOf]; omega
        · have hke : ((n : Int) - 1 - (k : Int) + 1 == (n : Int)) = false := by simp; omega
          have hkz : ¬ (n : Int) - 1 - (k : Int) + 1 = (n : Int) := by omega
          have HEQ : Hid (lnk n true true k = ((1, (n : Int) - 1 - (k : Int)), (1, (n : Int) - 1 - (k : Int) + 1))) := by
            show lnk _ _ _ _ = _
            simp only [lnk, kx, nx]
            simp
            try (repeat (first | constructor | (split) | omega))
          go_wp2_with (first
            | (go_at_call 17; refine (reg_any _ _).mono ?_; rintro e w1 ⟨rfl, hb1⟩
               replace HBW : Hid (Below w.heap.size w w1) := HBW.out.trans (hb1.mono HBW.out.size)
               replace HO : Hid (OwnM w1 w.heap.size (.slice oa k oc) k (lng n true true k)) := HO.out.keep hb1
               clear hb1)
            | (at_builtin; refine wpList_append_mv rfl _ _ rfl w.heap.size (.slice oa k oc) k (lng n true true k) _ _ _ _ rfl HO.out (by refine ⟨⟨?_, ?_⟩, ⟨?_, ?_⟩⟩ <;> simp only [Fits] <;> omega) rfl (by omega) HBW.out.size ?_; intro v2 w2 h2 g2
               have HO2 : Hid _ := h2
               have HG2 : Hid _ := g2
               clear h2 g2))
          go_roundw
          case rel => exact ⟨k + 1, by omega, by go_num, by rw [lng_succ, HEQ.out]; exact HO2, HBW.out.trans HG2.out.bel⟩
          case measure => simp [intOf]; omega
    · obtain rfl : k = n := by omega
      obtain ⟨A, hA⟩ : ∃ A, ord tL (lng k r true k) = A := ⟨_, rfl⟩
      have HDM : Hid (∀ m ∈ A, Dom k m.1 ∧ Dom k m.2) := by rw [← hA]; exact lng_dom r true
      have HDO : Hid (∀ y, y < k → ex (fun p => (ix k p : Int)) A (1, (y : Int)) = (nx k true y : Int)) := fun y hy => by
        have h1 := (ord_does (lng_gd k r true) (fun p => (ix k p : Int))).1 _ (lng_has (r := r) (c := true) hy)
        rw [hA] at h1
        simp only at h1
        rw [h1]
        have : ((1, (nx k true y : Int)) : Lc) ≠ tL := by simp [tL]
        simp [ix, this]
      have HLA : Hid (A.length = k + 1) := by rw [← hA]; exact long_circle h2 r
      have HOR : Hid (Calls Try.prog 10 #[.slice oa k oc, .agg #[.int .i64 2, .int .i64 3]] wr fun e w' => ∃ va vc, e = .returned (.tuple #[.slice va (k + 1) vc, .int .i64 0]) ∧ Hid (OwnM w' wr.heap.size (.slice va (k + 1) vc) (k + 1) A) ∧ Hid (Below wr.heap.size wr w')) := by
        have h := order_any wr HI.out.1.mvsS (lng_len k r true k).symm (by omega) tL ⟨by simp [Fits, tL], by simp [Fits, tL]⟩
        rw [(lng_err k r true).1, (lng_err k r true).2, hA, HLA.out] at h
        refine h.mono ?_
        rintro e w' ⟨v, rfl, h1, h2⟩
        obtain ⟨va, vc, rfl, _, _⟩ := own_slice h1.out
        exact ⟨va, vc, rfl, h1, h2⟩
      have HBW : Hid (Below w.heap.size w wr) := HI.out.2
      have hml := run_make_row' (P := Try.prog) 42 3 (.int .i64 0) 8 Try.underlying42 info3i rfl .i64 .i64 (k + 2) (by omega) (by omega)
      simp only [Int.natCast_add, Int.cast_ofNat_Int] at hml
      clear hA HI hr
      go_wp2_with (first | (go_at_call 10; refine HOR.out.mono ?_; rintro e w2 ⟨va, vc, rfl, HA2, HB2⟩))
      obtain ⟨cb, hcb⟩ : ∃ s, s = w2.heap.size := ⟨_, rfl⟩
      obtain ⟨W3, hW3⟩ : ∃ W, W = w2.alloc (.cells (madeCells #[.int .i64 0] (k + 2)) 3) := ⟨_, rfl⟩
      have HVB : Hid (∀ g, (Value.slice va (k + 1) vc).ownBlock = some g → g ≠ cb) := fun g hg e => by have := (own_block HA2.out.out hg).2; omega
      have HCB : Hid (w.heap.size ≤ cb) := by have := HBW.out.size; have := HB2.out.size; show _ ≤ _; omega
      have HI0 : Hid (IRf W3 cb (k + 2) (fun j => if j < 0 then (j : Int) else 0) ∧ (∃ B2 : Nat, OwnM W3 B2 (.slice va (k + 1) vc) (k + 1) A) ∧ Below w.heap.size w W3) := by
        rw [hW3, hcb]
        exact ⟨(IRf.made w2 (k + 2)).same fun j hj => by simp, ⟨_, HA2.out.keep (below_new _ _)⟩, (HBW.out.trans (HB2.out.mono HBW.out.size)).trans ((below_new _ _).mono (by have := HBW.out.size; have := HB2.out.size; omega))⟩
      rw [← hW3, ← hcb]
      clear hW3 hcb hml HOR HA2 HB2 HBW
      go_loopw [14] (fun v wr' => ∃ i : Nat, i ≤ k + 2 ∧ v = .int .i64 i ∧ Hid (IRf wr' cb (k + 2) (fun j => if j < i then (j : Int) else 0) ∧ (∃ B2 : Nat, OwnM wr' B2 (.slice va (k + 1) vc) (k + 1) A) ∧ Below w.heap.size w wr')) (fun v _ => k + 2 - (intOf v).toNat)
      case atStart => exact ⟨0, by omega, rfl, HI0⟩
      case round =>
        clear HI0
        obtain ⟨i, hi, rfl, HI⟩ := hrel
        by_cases hik : i < k + 2
        · obtain ⟨q0, z0⟩ := HI.out.1.cell hik
          have hiz : (i : Int) < (k : Int) + 2 := by omega
          go_wp2_with fail
          go_roundw
          case rel =>
            obtain ⟨B2, ho⟩ := HI.out.2.1
            refine ⟨i + 1, by omega, by go_num, (HI.out.1.set hik (i : Int)).same fun j hj => ?_, ⟨B2, ho.move fun g hg => heap_set_other (HVB.out g hg)⟩, HI.out.2.2.setCell HCB.out _⟩
            by_cases e : j = i
            · subst e; simp
            · rw [if_neg e]
              by_cases e2 : j < i
              · rw [if_pos e2, if_pos (by omega)]
              · rw [if_neg e2, if_neg (by omega)]
          case measure => simp [intOf]; omega
        · have hi2 : i = k + 2 := by omega
          have hiz : ¬ ((i : Int) < (k : Int) + 2) := by omega
          have HI0 : Hid (IRf wr cb (k + 2) (fun j => ex (fun p => (ix k p : Int)) (A.take 0) (pl k j)) ∧ (∃ B2 : Nat, OwnM wr B2 (.slice va (k + 1) vc) (k + 1) A) ∧ Below w.heap.size w wr) := ⟨HI.out.1.same fun j hj => by rw [if_pos (by omega)]; show _ = ((ix k (pl k j) : Nat) : Int); rw [ix_pl hj], HI.out.2.1, HI.out.2.2⟩
          clear HI hi2
          go_wp2_with fail
          clear hi hik hiz
          go_loopw [15] (fun v wr => ∃ x : Nat, x ≤ k + 1 ∧ v = .int .i64 x ∧ Hid (IRf wr cb (k + 2) (fun j => ex (fun p => (ix k p : Int)) (A.take x) (pl k j)) ∧ (∃ B2 : Nat, OwnM wr B2 (.slice va (k + 1) vc) (k + 1) A) ∧ Below w.heap.size w wr)) (fun v _ => k + 1 - (intOf v).toNat)
          case atStart => exact ⟨0, by omega, rfl, HI0⟩
          case round =>
            clear HI0
            obtain ⟨x, hx, rfl, HI⟩ := hrel
            by_cases hxl : x < k + 1
            · have hxf : x < A.length := by have := HLA.out; omega
              obtain ⟨B2, ho⟩ := HI.out.2.1
              obtain ⟨b, o, rfl, hbl, c0, c1, c2, c3⟩ := ho.mvsS.at hxf
              obtain ⟨D1, D2⟩ := HDM.out _ (List.getElem_mem hxf)
              have HTX : Hid (∀ p, ex (fun p => (ix k p : Int)) (A.take (x + 1)) p = if p = A[x].1 then ex (fun p => (ix k p : Int)) (A.take x) A[x].2 else ex (fun p => (ix k p : Int)) (A.take x) p) := fun p => by rw [List.take_succ_eq_append_getElem hxf, ex_snoc]
              generalize A[x] = m at c0 c1 c2 c3 D1 D2 HTX
              obtain ⟨⟨m1, m2⟩, ⟨m3, m4⟩⟩ := m
              simp only at c0 c1 c2 c3 D1 D2 HTX
              have HPF : Hid (∀ w', Below wr.heap.size wr w' → Calls Try.prog 18 #[.agg #[.int .i64 m3, .int .i64 m4], .int .i64 k] w' fun e w'' => e = .returned (.int .i64 (ix k (m3, m4) : Int)) ∧ Below wr.heap.size wr w'') := fun w' hb => by
                refine (placeD_any w' k h1000 D2).mono ?_
                rintro e w'' ⟨rfl, h2⟩
                exact ⟨rfl, hb.trans (h2.mono hb.size)⟩
              have HPTT : Hid (∀ w', Below wr.heap.size wr w' → Calls Try.prog 18 #[.agg #[.int .i64 m1, .int .i64 m2], .int .i64 k] w' fun e w'' => e = .returned (.int .i64 (ix k (m1, m2) : Int)) ∧ Below wr.heap.size wr w'') := fun w' hb => by
                refine (placeD_any w' k h1000 D1).mono ?_
                rintro e w'' ⟨rfl, h2⟩
                exact ⟨rfl, hb.trans (h2.mono hb.size)⟩
              have HS : Hid (∀ w', Below wr.heap.size wr w' → (fun w' : World => w'.cell? ⟨b, o + x * 4, none⟩ = some (.int .i64 m1) ∧ w'.cell? ⟨b, o + x * 4 + 1, none⟩ = some (.int .i64 m2) ∧ w'.cell? ⟨b, o + x * 4 + 2, none⟩ = some (.int .i64 m3) ∧ w'.cell? ⟨b, o + x * 4 + 3, none⟩ = some (.int .i64 m4)) w') := fun w' hb => ⟨(hb.cell (p := ⟨b, o + x * 4, none⟩) hbl).trans c0, (hb.cell (p := ⟨b, o + x * 4 + 1, none⟩) hbl).trans c1, (hb.cell (p := ⟨b, o + x * 4 + 2, none⟩) hbl).trans c2, (hb.cell (p := ⟨b, o + x * 4 + 3, none⟩) hbl).trans c3⟩
              have S0 : (fun w' : World => w'.cell? ⟨b, o + x * 4, none⟩ = some (.int .i64 m1) ∧ w'.cell? ⟨b, o + x * 4 + 1, none⟩ = some (.int .i64 m2) ∧ w'.cell? ⟨b, o + x * 4 + 2, none⟩ = some (.int .i64 m3) ∧ w'.cell? ⟨b, o + x * 4 + 3, none⟩ = some (.int .i64 m4)) wr.drew := HS.out _ (Below.refl _ _).drew
              have HD1 : Hid (Dom k (m1, m2)) := D1
              have HD2 : Hid (Dom k (m3, m4)) := D2
              clear c0 c1 c2 c3 D1 D2 ho
              go_wp2_with fail
              refine led_start (S := fun w' : World => w'.cell? ⟨b, o + x * 4, none⟩ = some (.int .i64 m1) ∧ w'.cell? ⟨b, o + x * 4 + 1, none⟩ = some (.int .i64 m2) ∧ w'.cell? ⟨b, o + x * 4 + 2, none⟩ = some (.int .i64 m3) ∧ w'.cell? ⟨b, o + x * 4 + 3, none⟩ = some (.int .i64 m4)) (z := 100) (by kernel_rfl) ?_
              show led _ _ _ _ _ 16 _ _ _
              refine led_takeF (i := 0) (v := ?v0zt) rfl (by kernel_rfl) (by kernel_rfl) (by kernel_rfl) (by kernel_rfl) (fun _ _ _ h => h) (.inl ⟨by rfl, ?hy0zt⟩) S0 ?rest0zt
              case hy0zt =>
                rintro w' ⟨h1, h2, h3, h4⟩
                go_simp
                all_goals with_reducible rfl
              try simp only [Act.put, List.setIfInBounds_toArray, List.set_cons_zero, List.set_cons_succ]
              refine led_takeF (i := 1) (v := ?v1zt) rfl (by kernel_rfl) (by kernel_rfl) (by kernel_rfl) (by kernel_rfl) (fun _ _ _ h => h) (.inl ⟨by rfl, ?hy1zt⟩) S0 ?rest1zt
              case hy1zt =>
                rintro w' ⟨h1, h2, h3, h4⟩
                go_simp
                all_goals with_reducible rfl
              try simp only [Act.put, List.setIfInBounds_toArray, List.set_cons_zero, List.set_cons_succ]
              refine led_takeF (i := 2) (v := ?v2zt) rfl (by kernel_rfl) (by kernel_rfl) (by kernel_rfl) (by kernel_rfl) (fun _ _ _ h => h) (.inl ⟨by rfl, ?hy2zt⟩) S0 ?rest2zt
              case hy2zt =>
                rintro w' ⟨h1, h2, h3, h4⟩
                go_simp
                all_goals with_reducible rfl
              try simp only [Act.put, List.setIfInBounds_toArray, List.set_cons_zero, List.set_cons_succ]
              refine led_takeF (i := 3) (v := ?v3zt) rfl (by kernel_rfl) (by kernel_rfl) (by kernel_rfl) (by kernel_rfl) (fun _ _ _ h => h) (.inl ⟨by rfl, ?hy3zt⟩) S0 ?rest3zt
              case hy3zt =>
                rintro w' ⟨h1, h2, h3, h4⟩
                go_simp
                all_goals with_reducible rfl
              try simp only [Act.put, List.setIfInBounds_toArray, List.set_cons_zero, List.set_cons_succ]
              refine led_takeF (i := 4) (v := ?v4zt) rfl (by kernel_rfl) (by kernel_rfl) (by kernel_rfl) (by kernel_rfl) (fun _ _ _ h => h) (.inl ⟨by rfl, ?hy4zt⟩) S0 ?rest4zt
              case hy4zt =>
                rintro w' ⟨h1, h2, h3, h4⟩
                go_simp
                all_goals with_reducible rfl
              try simp only [Act.put, List.setIfInBounds_toArray, List.set_cons_zero, List.set_cons_succ]
              refine led_takeF (i := 5) (v := ?v5zt) rfl (by kernel_rfl) (by kernel_rfl) (by kernel_rfl) (by kernel_rfl) (fun _ _ _ h => h) (.inl ⟨by rfl, ?hy5zt⟩) S0 ?rest5zt
              case hy5zt =>
                rintro w' ⟨h1, h2, h3, h4⟩
                go_simp
                all_goals with_reducible rfl
              try simp only [Act.put, List.setIfInBounds_toArray, List.set_cons_zero, List.set_cons_succ]
              refine led_takeF (i := 7) (v := ?v7zt) rfl (by kernel_rfl) (by kernel_rfl) (by kernel_rfl) (by kernel_rfl) (fun _ _ _ h => h) (.inl ⟨by rfl, ?hy7zt⟩) S0 ?rest7zt
              case hy7zt =>
                rintro w' ⟨h1, h2, h3, h4⟩
                go_simp
                all_goals with_reducible rfl
              try simp only [Act.put, List.setIfInBounds_toArray, List.set_cons_zero, List.set_cons_succ]
              refine led_takeF (i := 8) (v := ?v8zt) rfl (by kernel_rfl) (by kernel_rfl) (by kernel_rfl) (by kernel_rfl) (fun _ _ _ h => h) (.inl ⟨by rfl, ?hy8zt⟩) S0 ?rest8zt
              case hy8zt =>
                rintro w' ⟨h1, h2, h3, h4⟩
                go_simp
                all_goals with_reducible rfl
              try simp only [Act.put, List.setIfInBounds_toArray, List.set_cons_zero, List.set_cons_succ]
              refine led_takeF (i := 9) (v := ?v9zt) rfl (by kernel_rfl) (by kernel_rfl) (by kernel_rfl) (by kernel_rfl) (fun _ _ _ h => h) (.inl ⟨by rfl, ?hy9zt⟩) S0 ?rest9zt
              case hy9zt =>
                rintro w' ⟨h1, h2, h3, h4⟩
                go_simp
                all_goals with_reducible rfl
              try simp only [Act.put, List.setIfInBounds_toArray, List.set_cons_zero, List.set_cons_succ]
              refine led_takeF (i := 10) (v := ?v10zt) rfl (by kernel_rfl) (by kernel_rfl) (by kernel_rfl) (by kernel_rfl) (fun _ _ _ h => h) (.inl ⟨by rfl, ?hy10zt⟩) S0 ?rest10zt
              case hy10zt =>
                rintro w' ⟨h1, h2, h3, h4⟩
                go_simp
                all_goals with_reducible rfl
              try simp only [Act.put, List.setIfInBounds_toArray, List.set_cons_zero, List.set_cons_succ]
              refine led_takeF (i := 11) (v := ?v11zt) rfl (by kernel_rfl) (by kernel_rfl) (by kernel_rfl) (by kernel_rfl) (fun _ _ _ h => h) (.inl ⟨by rfl, ?hy11zt⟩) S0 ?rest11zt
              case hy11zt =>
                rintro w' ⟨h1, h2, h3, h4⟩
                go_simp
                all_goals with_reducible rfl
              try simp only [Act.put, List.setIfInBounds_toArray, List.set_cons_zero, List.set_cons_succ]
              refine led_takeF (i := 12) (v := ?v12zt) rfl (by kernel_rfl) (by kernel_rfl) (by kernel_rfl) (by kernel_rfl) (fun _ _ _ h => h) (.inl ⟨by rfl, ?hy12zt⟩) S0 ?rest12zt
              case hy12zt =>
                rintro w' ⟨h1, h2, h3, h4⟩
                go_simp
                all_goals with_reducible rfl
              try simp only [Act.put, List.setIfInBounds_toArray, List.set_cons_zero, List.set_cons_succ]
              refine led_one (i := 6) rfl (by kernel_rfl) ?_
              intro K1 hK1
              rw [if_pos (by rfl)]
              go_simp
              refine (HPF.out _ (Below.refl _ _).drew).mono ?_
              rintro e w5 ⟨rfl, hb5⟩
              refine hK1 _ _ (fun _ => HS.out w5 hb5) ?_
              clear hK1
              try simp only [Act.put, List.setIfInBounds_toArray, List.set_cons_zero, List.set_cons_succ]
              refine led_one (i := 13) rfl (by kernel_rfl) ?_
              intro K2 hK2
              rw [if_pos (by rfl)]
              go_simp
              refine (HPTT.out _ hb5).mono ?_
              rintro e w6 ⟨rfl, hb6⟩
              have S6 := HS.out w6 hb6
              refine hK2 _ _ (fun _ => S6) ?_
              clear hK2
              try simp only [Act.put, List.setIfInBounds_toArray, List.set_cons_zero, List.set_cons_succ]
              refine led_takeF (i := 14) (v := ?v14zt) rfl (by kernel_rfl) (by kernel_rfl) (by kernel_rfl) (by kernel_rfl) (fun _ _ _ h => h) (.inl ⟨by rfl, ?hy14zt⟩) S6 ?rest14zt
              case hy14zt =>
                rintro w' ⟨h1, h2, h3, h4⟩
                go_simp
                all_goals with_reducible rfl
              try simp only [Act.put, List.setIfInBounds_toArray, List.set_cons_zero, List.set_cons_succ]
              refine led_takeF (i := 15) (v := ?v15zt) rfl (by kernel_rfl) (by kernel_rfl) (by kernel_rfl) (by kernel_rfl) (fun _ _ _ h => h) (.inl ⟨by rfl, ?hy15zt⟩) S6 ?rest15zt
              case hy15zt =>
                rintro w' ⟨h1, h2, h3, h4⟩
                go_simp
                all_goals with_reducible rfl
              try simp only [Act.put, List.setIfInBounds_toArray, List.set_cons_zero, List.set_cons_succ]
              refine led_done (by kernel_rfl) ?_
              have HB6 : Hid (Below wr.heap.size wr w6) := hb6
              obtain ⟨q1, hq1⟩ : ∃ q, ix k (m1, m2) = q := ⟨_, rfl⟩
              obtain ⟨q2, hq2⟩ : ∃ q, ix k (m3, m4) = q := ⟨_, rfl⟩
              have hl1 : q1 < k + 2 := by rw [← hq1]; exact (pl_ix HD1.out).2
              have hl2 : q2 < k + 2 := by rw [← hq2]; exact (pl_ix HD2.out).2
              have hr6 := HI.out.1.move (HB6.out.block _ HI.out.1.lt)
              obtain ⟨y1, z1⟩ := hr6.cell hl1
              obtain ⟨y2, z2⟩ := hr6.cell hl2
              have hp1 : pl k q1 = (m1, m2) := by rw [← hq1]; exact (pl_ix HD1.out).1
              have hp2 : pl k q2 = (m3, m4) := by rw [← hq2]; exact (pl_ix HD2.out).1
              have HR6 : Hid (IRf (w6.setCell ⟨cb, q1, none⟩ (.int .i64 (ex (fun p => (ix k p : Int)) (A.take x) (pl k q2)))) cb (k + 2) (fun j => ex (fun p => (ix k p : Int)) (A.take (x + 1)) (pl k j))) := (hr6.set hl1 _).same fun j hj => by
                rw [HTX.out, hp2]
                by_cases e : j = q1
                · rw [if_pos e, e, if_pos hp1]
                · rw [if_neg e, if_neg]
                  intro e2
                  have h5 := congrArg (ix k) e2
                  rw [ix_pl hj, hq1] at h5
                  exact e h5
              rw [hq1, hq2]
              generalize ex (fun p => (ix k p : Int)) (A.take x) (pl k q2) = ev at y2 HR6
              have g1 : decide ((q1 : Int) < 0) = false := by simp
              have g2 : decide ((q2 : Int) < 0) = false := by simp
              have g3 : (q1 : Int) < (k : Int) + 2 := by omega
              have g4 : (q2 : Int) < (k : Int) + 2 := by omega
              clear hb5 hb6 S0 S6 hr6 hq1 hq2 hp1 hp2
              go_wp2_with fail
              go_roundw
              case rel =>
                obtain ⟨B2, ho⟩ := HI.out.2.1
                exact ⟨x + 1, by omega, by go_num, HR6, ⟨B2, (ho.keep HB6.out).move fun g hg => heap_set_other (HVB.out g hg)⟩, (HI.out.2.2.trans (HB6.out.mono HI.out.2.2.size)).setCell HCB.out _⟩
              case measure => simp [intOf]; omega
            · obtain rfl : k + 1 = x := by omega
              have HI0 : Hid (IRf wr cb (k + 2) (fun j => ex (fun p => (ix k p : Int)) A (pl k j)) ∧ Below w.heap.size w wr) := by
                have h := HI.out.1
                have e : A.take (k + 1) = A := by rw [← HLA.out, List.take_length]
                rw [e] at h
                exact ⟨h, HI.out.2.2⟩
              clear HI
              go_wp2_with fail
              go_loopw [18] (fun v wr => ∃ y : Nat, y ≤ k ∧ v = .int .i64 y ∧ Hid (IRf wr cb (k + 2) (fun j => ex (fun p => (ix k p : Int)) A (pl k j)) ∧ Below w.heap.size w wr)) (fun v _ => k - (intOf v).toNat)
              case atStart => exact ⟨0, by omega, rfl, HI0⟩
              case round =>
                clear HI0
                obtain ⟨y, hy, rfl, HI⟩ := hrel
                by_cases hyk : y < k
                · obtain ⟨q0, _⟩ := HI.out.1.cell (show y < k + 2 by omega)
                  have hpy : pl k y = (1, (y : Int)) := by unfold pl; rw [if_neg (by omega)]
                  rw [hpy, HDO.out y hyk] at q0
                  have g3 : (y : Int) < (k : Int) + 2 := by omega
                  clear hpy
                  by_cases hyn : y + 1 = k
                  · have e0 : (nx k true y : Int) = 0 := by simp [nx, hyn]
                    rw [e0] at q0
                    have hke : ((y : Int) + 1 == (k : Int)) = true := by simp; omega
                    clear e0 hyn
                    go_wp2_with fail
                    go_roundw
                    case rel => exact ⟨y + 1, by omega, by go_num, HI⟩
                    case measure => simp [intOf]; omega
                  · have e0 : (nx k true y : Int) = (y : Int) + 1 := by simp [nx, hyn]
                    rw [e0] at q0
                    have hke : ((y : Int) + 1 == (k : Int)) = false := by simp; omega
                    have hkz : ¬ (y : Int) + 1 = (k : Int) := by omega
                    clear e0 hyn
                    go_wp2_with fail
                    go_roundw
                    case rel => exact ⟨y + 1, by omega, by go_num, HI⟩
                    case measure => simp [intOf]; omega
                · obtain rfl : k = y := by omega
                  go_wp2_with fail
                  go_ret
                  exact ⟨rfl, HI.out.2⟩
end Go.Proofs.Ytdoiblknbpbhaaa
