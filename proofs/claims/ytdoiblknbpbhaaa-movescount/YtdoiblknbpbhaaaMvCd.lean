import Derived.Test.YtdoiblknbpbhaaaMvCc
import Derived.Test.YtdoiblknbpbhaaaMvU
import Derived.Test.YtdoiblknbpbhaaaMvZ
set_option linter.unusedVariables false
set_option linter.unusedSimpArgs false
namespace Go.Proofs.Ytdoiblknbpbhaaa
open Go.ChangeShapes Go.WideShapes Go.ChangeAt Go.RowKit Go.Maps

theorem placed_from {t : Lc} {l : List Mv} (h : placedP t l = true) : t ∉ l.map Prod.snd := by
  intro hm
  obtain ⟨m, hm, e⟩ := List.mem_map.1 hm
  unfold placedP at h
  simp only [Bool.and_eq_true, List.all_eq_true] at h
  have := h.2 m hm
  unfold mvOk at this
  simp [e] at this
theorem lft_takeN {l : List Mv} {n : Nat} (hn : n < l.length) : (lft (l.take (n + 1))).length = (lft (l.take n)).length + (if stays l[n] = true then 0 else 1) := by
  unfold lft
  rw [List.take_succ_eq_append_getElem hn, List.filter_append, List.length_append]
  congr 1
  by_cases h : stays l[n] = true
  · simp [h]
  · simp [h]
set_option maxRecDepth 100000 in
set_option maxHeartbeats 16000000 in
theorem movesCount_any (w : World) {la : Option Addr} {ln lc : Nat} {l : List Mv} (hL : Mvs w la lc l) (hn : ln = l.length) (t : Lc) (hft : FitL t) :
    Calls Try.prog 5 #[.slice la ln lc, .agg #[.int .i64 t.1, .int .i64 t.2]] w fun e w' => e = .returned (.bool true) ∧ Below w.heap.size w w' := by
  obtain ⟨t1, t2⟩ := t
  simp only
  have hmx : ln ≤ 9223372036854775807 := by have := hL.le; have := hL.mx; omega
  obtain ⟨wt, hwt⟩ : ∃ W, W = w.alloc (.cells #[.int .i64 t1, .int .i64 t2] 24) := ⟨_, rfl⟩
  have HB0 : Hid (Below w.heap.size w wt) := by rw [hwt]; exact below_new _ _
  have HLT : Hid (w.heap.size < wt.heap.size) := by rw [hwt]; show _ < _; simp
  have HT0 : Hid (wt.heap[w.heap.size]? = some (.cells #[.int .i64 t1, .int .i64 t2] 24 (0, 0))) := by rw [hwt]; exact heap_alloc_new _ _
  have HAL : Hid (Calls Try.prog 8 #[] wt fun e w' => e = .returned (.bool true) ∧ Hid (Below w.heap.size w w') ∧ Hid (w'.heap[w.heap.size]? = some (.cells #[.int .i64 t1, .int .i64 t2] 24 (0, 0))) ∧ w'.cell? ⟨w.heap.size, 0, none⟩ = some (.int .i64 t1) ∧ w'.cell? ⟨w.heap.size, 1, none⟩ = some (.int .i64 t2)) := by
    refine (alive_any wt).mono ?_
    rintro e w' ⟨rfl, hb⟩
    have hb2 := (hb.block _ HLT.out).trans HT0.out
    exact ⟨rfl, HB0.out.trans (hb.mono (Nat.le_of_lt HLT.out)), hb2, cell_arr hb2 rfl, cell_arr hb2 rfl⟩
  have HL : Hid (Mvs w la lc l) := hL
  have HN : Hid (ln = l.length) := hn
  have HFT : Hid (FitL (t1, t2)) := hft
  clear hL hn hft
  by_cases h60 : ln ≤ 60
  · have hd : decide ((60 : Int) < (ln : Int)) = false := by simp; omega
    obtain ⟨RT, hRT⟩ : ∃ R, (placedP (t1, t2) l && decide ((l.map Prod.fst).Nodup)) = R := ⟨_, rfl⟩
    have HRT : Hid ((placedP (t1, t2) l && decide ((l.map Prod.fst).Nodup)) = RT) := hRT
    have HRI : Hid (∀ w', Below w.heap.size w w' → Calls Try.prog 14 #[.slice la ln lc, .agg #[.int .i64 t1, .int .i64 t2]] w' fun e w'' => e = .returned (.bool RT) ∧ Below w'.heap.size w' w'') := fun w' hb => by
      rw [← hRT]
      exact right_any w' (HL.out.below hb (Nat.le_refl _)) HN.out (t1, t2)
    clear hRT
    go_enter Try.func5, Try.ntmps5
    subst hwt
    cases RT
    · go_wp2_with (first
        | (go_at_call 8; refine HAL.out.mono ?_; rintro e w1 ⟨rfl, HB1, HT1, x0, x1⟩)
        | (go_at_call 14; refine (HRI.out _ HB1.out).mono ?_; rintro e w2 ⟨rfl, hb2⟩; have HB2 : Hid _ := hb2; clear hb2))
      go_ret
      exact ⟨rfl, HB1.out.trans (HB2.out.mono HB1.out.size)⟩
    · go_wp2_with (first
        | (go_at_call 8; refine HAL.out.mono ?_; rintro e w1 ⟨rfl, HB1, HT1, x0, x1⟩)
        | (go_at_call 14; refine (HRI.out _ HB1.out).mono ?_; rintro e w2 ⟨rfl, hb2⟩; have HB2 : Hid _ := hb2; clear hb2))
      have HB3 : Hid (Below w.heap.size w w2) := HB1.out.trans (HB2.out.mono HB1.out.size)
      have HT2 : Hid (w2.heap[w.heap.size]? = some (.cells #[.int .i64 t1, .int .i64 t2] 24 (0, 0))) := (HB2.out.block _ (Array.getElem?_eq_some_iff.1 HT1.out).1).trans HT1.out
      obtain ⟨hw1, hw2, hg⟩ := err_right HRT.out
      have hpl : placedP (t1, t2) l = true := by have := HRT.out; simp only [Bool.and_eq_true] at this; exact this.1
      have HCN : Hid ((ansP (t1, t2) l).length = (lft l).length + ciN l l.length) := by
        show _ = _
        rw [hw2]
        exact count_law hg (placed_from hpl)
      have HER : Hid (errP (t1, t2) l = 0) := hw1
      clear x0 x1 hw1 hw2 hg hpl HB1 HB2 HT1 HRI HAL HB0 HT0 hd
      have HLE : Hid (Calls Try.prog 9 #[.slice la ln lc] w2.drew fun e w'' => ∃ xa xc, e = .returned (.slice xa (ln + 2) xc) ∧ Hid (OwnM w'' w2.heap.size (.slice xa (ln + 2) xc) (ln + 2) (l ++ [mk71, mk71])) ∧ ln + 2 ≤ xc ∧ xc ≤ 9223372036854775807 ∧ Hid (Below w2.heap.size w2 w'') ∧ (fun w' : World => w'.cell? ⟨w.heap.size, 0, none⟩ = some (.int .i64 t1) ∧ w'.cell? ⟨w.heap.size, 1, none⟩ = some (.int .i64 t2)) w'') := by
        refine (lent_any w2.drew ((HL.out.below HB3.out (Nat.le_refl _)).below (below_drewN0 w2 1) (Nat.le_refl _)) HN.out (by omega)).mono ?_
        rintro e w'' ⟨v, rfl, h1, h2⟩
        obtain ⟨xa, xc, rfl, h3, h4⟩ := own_slice h1.out
        have hb : Below w2.heap.size w2 w'' := (below_drewN0 w2 1).trans h2
        have ht := (hb.block _ (Array.getElem?_eq_some_iff.1 HT2.out).1).trans HT2.out
        exact ⟨xa, xc, rfl, h1, h3, h4, hb, cell_arr ht rfl, cell_arr ht rfl⟩
      have HOR : Hid (∀ w3 : World, Below w2.heap.size w2 w3 → ∀ xa xc, OwnM w3 w2.heap.size (.slice xa (ln + 2) xc) (ln + 2) (l ++ [mk71, mk71]) → Calls Try.prog 10 #[.slice xa ln xc, .agg #[.int .i64 t1, .int .i64 t2]] w3 fun e w' => ∃ va vc, e = .returned (.tuple #[.slice va (ansP (t1, t2) l).length vc, .int .i64 0]) ∧ Hid (Below w2.heap.size w2 w') ∧ (fun w' : World => w'.cell? ⟨w.heap.size, 0, none⟩ = some (.int .i64 t1) ∧ w'.cell? ⟨w.heap.size, 1, none⟩ = some (.int .i64 t2)) w') := fun w3 hb3 xa xc hX => by
        have h0 := order_any w3 (lent_mvs hX HN.out) HN.out (by omega) (t1, t2) HFT.out
        rw [HER.out] at h0
        refine h0.mono ?_
        rintro e w' ⟨v, rfl, h1, h2⟩
        obtain ⟨va, vc, rfl, _, _⟩ := own_slice h1.out
        have hb : Below w2.heap.size w2 w' := hb3.trans (h2.mono hb3.size)
        have ht := (hb.block _ (Array.getElem?_eq_some_iff.1 HT2.out).1).trans HT2.out
        exact ⟨va, vc, rfl, hb, cell_arr ht rfl, cell_arr ht rfl⟩
      have S0 : (fun w' : World => w'.cell? ⟨w.heap.size, 0, none⟩ = some (.int .i64 t1) ∧ w'.cell? ⟨w.heap.size, 1, none⟩ = some (.int .i64 t2)) w2.drew := ⟨cell_arr HT2.out rfl, cell_arr HT2.out rfl⟩
      go_region_held (fun w' : World => w'.cell? ⟨w.heap.size, 0, none⟩ = some (.int .i64 t1) ∧ w'.cell? ⟨w.heap.size, 1, none⟩ = some (.int .i64 t2)) (first | exact S0 | exact S2 | exact S1) (first
        | (go_at_call 9; refine HLE.out.mono ?_; rintro e w3 ⟨xa, xc, rfl, HX3, hxc1, hxc2, HB4, S1⟩
           have hxl : ln ≤ xc := by omega
           have hxi : (ln : Int) ≤ (xc : Int) := by omega)
        | (go_at_call 10; refine (HOR.out _ HB4.out _ _ HX3.out).mono ?_; rintro e w4 ⟨va, vc, rfl, HB5, S2⟩))
      have HB6 : Hid (Below w.heap.size w w4) := HB3.out.trans (HB5.out.mono HB3.out.size)
      have HCI : Hid (Calls Try.prog 16 #[.slice la ln lc] w4 fun e w' => e = .returned (.int .i64 (ciN l ln)) ∧ Below w4.heap.size w4 w') := lawCircles_any w4 (HL.out.below HB6.out (Nat.le_refl _)) HN.out (by omega)
      obtain ⟨an, han⟩ : ∃ n, n = (ansP (t1, t2) l).length := ⟨_, rfl⟩
      have HANL : Hid (an = (ansP (t1, t2) l).length) := han
      rw [← han]
      have hcl : ciN l ln ≤ ln := ciN_le l ln
      obtain ⟨cn, hcn⟩ : ∃ n, n = ciN l ln := ⟨_, rfl⟩
      have HCV : Hid (cn = ciN l ln) := hcn
      rw [← hcn] at HCI hcl
      clear S0 S1 S2 HOR HLE hxl hxi hxc1 hxc2 han hcn HB5 HB4 HX3
      go_wp2_with (first | (go_at_call 16; refine HCI.out.mono ?_; rintro e w5 ⟨rfl, hb5⟩; have HB7 : Hid (Below w.heap.size w w5) := HB6.out.trans (hb5.mono HB6.out.size); clear hb5))
      go_loopw [8, 9] (fun nv v wr => ∃ i c : Nat, i ≤ ln ∧ c ≤ cn + i ∧ v = .int .i64 i ∧ nv = .int .i64 c ∧ Hid (c = cn + (lft (l.take i)).length) ∧ Hid (Below w.heap.size w wr)) (fun _ v _ => ln - (intOf v).toNat)
      case atStart => exact ⟨0, cn, by omega, by omega, rfl, rfl, by show cn = cn + (lft (l.take 0)).length; simp [lft], HB7⟩
      case round =>
        obtain ⟨i, c, hi, hc, rfl, rfl, HC, HB⟩ := hrel
        by_cases hlt : i < ln
        · have hif : i < l.length := by have := HN.out; omega
          obtain ⟨bb, o, rfl, hbl, c0, c1, c2, c3⟩ := (HL.out.below HB.out (Nat.le_refl _)).at hif
          obtain ⟨m, hmi⟩ : ∃ m, l[i] = m := ⟨_, rfl⟩
          have HLI : Hid (l[i] = m) := hmi
          rw [hmi] at c0 c1 c2 c3
          clear hmi
          obtain ⟨⟨m1, m2⟩, ⟨m3, m4⟩⟩ := m
          simp only at c0 c1 c2 c3
          obtain ⟨e1, q1⟩ : ∃ e, (m3 == m1) = e := ⟨_, rfl⟩
          obtain ⟨e2, q2⟩ : ∃ e, (m4 == m2) = e := ⟨_, rfl⟩
          have HCS : Hid ((lft (l.take (i + 1))).length = (lft (l.take i)).length + (if (e1 && e2) = true then 0 else 1)) := by
            show _ = _
            rw [lft_takeN hif, HLI.out]
            have e : stays ((m1, m2), (m3, m4)) = (e1 && e2) := by
              rw [← q1, ← q2, Bool.eq_iff_iff]
              simp [stays]
            rw [e]
          cases e1
          · have nn3 := ne_of_beq_false q1
            go_wp2_with fail
            go_quiet (fail)
            go_wp2_with fail
            go_roundw
            case rel => exact ⟨i + 1, c + 1, by omega, by omega, by go_num, by first | rfl | go_num, by show c + 1 = _; rw [HCS.out, HC.out]; rfl, HB.out.trans ((below_drewN0 _ _).mono HB.out.size)⟩
            case measure => simp [intOf]; omega
          · cases e2
            · have nn4 := ne_of_beq_false q2
              go_wp2_with fail
              go_quiet (fail)
              go_wp2_with fail
              go_roundw
              case rel => exact ⟨i + 1, c + 1, by omega, by omega, by go_num, by first | rfl | go_num, by show c + 1 = _; rw [HCS.out, HC.out]; rfl, HB.out.trans ((below_drewN0 _ _).mono HB.out.size)⟩
              case measure => simp [intOf]; omega
            · go_wp2_with fail
              go_quiet (fail)
              go_wp2_with fail
              go_roundw
              case rel => exact ⟨i + 1, c, by omega, by omega, by go_num, by first | rfl | go_num, by show c = _; rw [HCS.out, HC.out]; rfl, HB.out.trans ((below_drewN0 _ _).mono HB.out.size)⟩
              case measure => simp [intOf]; omega
        · obtain rfl : i = ln := by omega
          obtain rfl : c = an := by rw [HANL.out, HCN.out, HC.out, HCV.out, HN.out, List.take_length, Nat.add_comm]
          go_wp2_with fail
          go_ret
          exact ⟨rfl, HB.out⟩
  · have hd : decide ((60 : Int) < (ln : Int)) = true := by simp; omega
    go_enter Try.func5, Try.ntmps5
    subst hwt
    go_wp2_with (first
      | (go_at_call 8; refine HAL.out.mono ?_; rintro e w1 ⟨rfl, HB1, _, _, _⟩))
    go_ret
    exact ⟨rfl, HB1.out⟩
end Go.Proofs.Ytdoiblknbpbhaaa
