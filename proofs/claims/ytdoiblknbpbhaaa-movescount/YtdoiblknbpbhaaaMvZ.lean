import Derived.Test.YtdoiblknbpbhaaaMvY
set_option linter.unusedVariables false
set_option linter.unusedSimpArgs false
namespace Go.Proofs.Ytdoiblknbpbhaaa
open Go.ChangeShapes Go.WideShapes Go.ChangeAt Go.RowKit Go.Maps

theorem cell_same {w w' : World} {g o : Nat} (h : w'.heap[g]? = w.heap[g]?) : w'.cell? ⟨g, o, none⟩ = w.cell? ⟨g, o, none⟩ := World.cell?_of_block (w := w) (a := ⟨g, o, none⟩) h
theorem err_right {t : Lc} {l : List Mv} (h : (placedP t l && decide ((l.map Prod.fst).Nodup)) = true) : errP t l = 0 ∧ ansP t l = ord t l ∧ Gd t l := by
  simp only [Bool.and_eq_true, decide_eq_true_eq] at h
  unfold errP ansP
  rw [if_pos h.1, if_pos h.2, if_pos h.1, if_pos h.2]
  exact ⟨rfl, rfl, h.2, placed_ne h.1⟩
theorem err_wrong {t : Lc} {l : List Mv} (h : (placedP t l && decide ((l.map Prod.fst).Nodup)) = false) : errP t l ≠ 0 ∧ ansP t l = [] := by
  unfold errP ansP
  by_cases h1 : placedP t l = true
  · have h2 : ¬ (l.map Prod.fst).Nodup := by simpa [h1] using h
    rw [if_pos h1, if_neg h2, if_pos h1, if_neg h2]
    exact ⟨by omega, rfl⟩
  · rw [if_neg h1, if_neg h1]
    exact ⟨by omega, rfl⟩
theorem placed_kind {t : Lc} {l : List Mv} (h : placedP t l = true) {p : Lc} (hp : p = t ∨ p ∈ l.map Prod.fst) : p.1 = 1 ∨ p.1 = 2 := by
  unfold placedP at h
  simp only [Bool.and_eq_true, List.all_eq_true] at h
  have key : ∀ q : Lc, plP q = true → q.1 = 1 ∨ q.1 = 2 := fun q hq => by
    unfold plP at hq
    simp only [Bool.and_eq_true, Bool.or_eq_true, decide_eq_true_eq] at hq
    exact hq.1
  rcases hp with rfl | hp
  · exact key _ h.1
  · obtain ⟨m, hm, rfl⟩ := List.mem_map.1 hp
    have := h.2 m hm
    unfold mvOk at this
    simp only [Bool.and_eq_true] at this
    exact key _ this.2.1
set_option maxRecDepth 100000 in
set_option maxHeartbeats 16000000 in
theorem movesDo_of (w : World) {la : Option Addr} {ln lc : Nat} {l : List Mv} (hL : Mvs w la lc l) (hn : ln = l.length) (t : Lc) (hft : FitL t)
    (hrt : ∀ w', Below w.heap.size w w' → Calls Try.prog 14 #[.slice la ln lc, .agg #[.int .i64 t.1, .int .i64 t.2]] w' fun e w'' => e = .returned (.bool (placedP t l && decide ((l.map Prod.fst).Nodup))) ∧ Below w'.heap.size w' w'') :
    Calls Try.prog 4 #[.slice la ln lc, .agg #[.int .i64 t.1, .int .i64 t.2]] w fun e w' => e = .returned (.bool true) ∧ Below w.heap.size w w' := by
  obtain ⟨t1, t2⟩ := t
  simp only at hrt ⊢
  have hmx : ln ≤ 9223372036854775807 := by have := hL.le; have := hL.mx; omega
  obtain ⟨wt, hwt⟩ : ∃ W, W = w.alloc (.cells #[.int .i64 t1, .int .i64 t2] 24) := ⟨_, rfl⟩
  have HB0 : Hid (Below w.heap.size w wt) := by rw [hwt]; exact below_new _ _
  have HLT : Hid (w.heap.size < wt.heap.size) := by rw [hwt]; show _ < _; simp
  have HT0 : Hid (wt.heap[w.heap.size]? = some (.cells #[.int .i64 t1, .int .i64 t2] 24 (0, 0))) := by rw [hwt]; exact heap_alloc_new _ _
  have HAL : Hid (Calls Try.prog 8 #[] wt fun e w' => e = .returned (.bool true) ∧ Below wt.heap.size wt w') := alive_any wt
  have HL : Hid (Mvs w la lc l) := hL
  have HN : Hid (ln = l.length) := hn
  have HFT : Hid (FitL (t1, t2)) := hft
  obtain ⟨RT, hRT⟩ : ∃ R, (placedP (t1, t2) l && decide ((l.map Prod.fst).Nodup)) = R := ⟨_, rfl⟩
  have HRT : Hid ((placedP (t1, t2) l && decide ((l.map Prod.fst).Nodup)) = RT) := hRT
  rw [hRT] at hrt
  have HRI : Hid _ := hrt
  clear hL hn hft hrt hRT
  by_cases h300 : ln ≤ 300
  · have hd : decide ((300 : Int) < (ln : Int)) = false := by simp; omega
    have HLE : Hid (∀ w', Below wt.heap.size wt w' → Calls Try.prog 9 #[.slice la ln lc] w' fun e w'' => ∃ xa xc, e = .returned (.slice xa (ln + 2) xc) ∧ OwnM w'' w'.heap.size (.slice xa (ln + 2) xc) (ln + 2) (l ++ [mk71, mk71]) ∧ ln + 2 ≤ xc ∧ xc ≤ 9223372036854775807 ∧ Below w'.heap.size w' w'') := fun w' hb => by
      refine (lent_any w' ((HL.out.below HB0.out (Nat.le_refl _)).below hb (Nat.le_refl _)) HN.out (by omega)).mono ?_
      rintro e w'' ⟨v, rfl, h1, h2⟩
      obtain ⟨xa, xc, rfl, h3, h4⟩ := own_slice h1.out
      exact ⟨xa, xc, rfl, h1, h3, h4, h2⟩
    go_enter Try.func4, Try.ntmps4
    subst hwt
    go_wp2_with (first
      | (go_at_call 8; refine HAL.out.mono ?_; rintro e w1 ⟨rfl, hb1⟩; have HB1 : Hid _ := hb1; clear hb1)
      | (go_at_call 9; refine (HLE.out _ HB1.out).mono ?_; rintro e w2 ⟨xa, xc, rfl, h2, hxc1, hxc2, hb2⟩; have HX2 : Hid _ := h2; have HB2 : Hid _ := hb2; clear h2 hb2))
    have HBW : Hid (Below w.heap.size w w2) := HB0.out.trans ((HB1.out.trans (HB2.out.mono HB1.out.size)).mono (Nat.le_of_lt HLT.out))
    have HBT : Hid (Below (w.alloc (.cells #[.int .i64 t1, .int .i64 t2] 24)).heap.size (w.alloc (.cells #[.int .i64 t1, .int .i64 t2] 24)) w2) := HB1.out.trans (HB2.out.mono HB1.out.size)
    have HT2 : Hid (w2.heap[w.heap.size]? = some (.cells #[.int .i64 t1, .int .i64 t2] 24 (0, 0))) := (HBT.out.block _ HLT.out).trans HT0.out
    have S0 : (fun w' : World => w'.cell? ⟨w.heap.size, 0, none⟩ = some (.int .i64 t1) ∧ w'.cell? ⟨w.heap.size, 1, none⟩ = some (.int .i64 t2)) w2.drew := ⟨cell_arr HT2.out rfl, cell_arr HT2.out rfl⟩
    have HOR : Hid (Calls Try.prog 10 #[.slice xa ln xc, .agg #[.int .i64 t1, .int .i64 t2]] w2.drew fun e w' => ∃ va vc, e = .returned (.tuple #[.slice va (ansP (t1, t2) l).length vc, .int .i64 (errP (t1, t2) l)]) ∧ Hid (OwnM w' w2.heap.size (.slice va (ansP (t1, t2) l).length vc) (ansP (t1, t2) l).length (ansP (t1, t2) l)) ∧ Hid (Below w2.heap.size w2 w') ∧ (fun w' : World => w'.cell? ⟨w.heap.size, 0, none⟩ = some (.int .i64 t1) ∧ w'.cell? ⟨w.heap.size, 1, none⟩ = some (.int .i64 t2)) w') := by
      refine (order_any w2.drew (lent_mvs (HX2.out.keep (below_drewN0 w2 1)) HN.out) HN.out (by omega) (t1, t2) HFT.out).mono ?_
      rintro e w' ⟨v, rfl, h1, h2⟩
      obtain ⟨va, vc, rfl, _, _⟩ := own_slice h1.out
      have hb : Below w2.heap.size w2 w' := (below_drewN0 w2 1).trans h2
      have ht := (hb.block _ (Array.getElem?_eq_some_iff.1 HT2.out).1).trans HT2.out
      exact ⟨va, vc, rfl, h1, hb, cell_arr ht rfl, cell_arr ht rfl⟩
    have hxl : ln ≤ xc := by omega
    have hxi : (ln : Int) ≤ (xc : Int) := by omega
    clear HLE HAL hd HB1 HB2
    go_region_held (fun w' : World => w'.cell? ⟨w.heap.size, 0, none⟩ = some (.int .i64 t1) ∧ w'.cell? ⟨w.heap.size, 1, none⟩ = some (.int .i64 t2)) (first | exact S0 | exact S1) (first | (go_at_call 10; refine HOR.out.mono ?_; rintro e w3 ⟨va, vc, rfl, HA3, HB3, S1⟩))
    have HB4 : Hid (Below w.heap.size w w3) := HBW.out.trans (HB3.out.mono HBW.out.size)
    have HT3 : Hid (w3.heap[w.heap.size]? = some (.cells #[.int .i64 t1, .int .i64 t2] 24 (0, 0))) := (HB3.out.block _ (Array.getElem?_eq_some_iff.1 HT2.out).1).trans HT2.out
    have HRG : Hid (Calls Try.prog 14 #[.slice la ln lc, .agg #[.int .i64 t1, .int .i64 t2]] w3 fun e w'' => e = .returned (.bool RT) ∧ Below w3.heap.size w3 w'') := HRI.out w3 HB4.out
    obtain ⟨x0, x1⟩ := S1
    clear S0 HOR HRI
    cases RT
    · obtain ⟨hw1, hw2⟩ := err_wrong HRT.out
      rw [hw2] at HA3 ⊢
      obtain ⟨E, hE⟩ : ∃ E, errP (t1, t2) l = E := ⟨_, rfl⟩
      rw [hE] at hw1 ⊢
      have hw3 : (E == 0) = false := by simpa using hw1
      have HW1 : Hid (E ≠ 0) := hw1
      simp only [List.length_nil]
      clear hE hw2
      go_wp2_with (first | (go_at_call 14; refine HRG.out.mono ?_; rintro e w4 ⟨rfl, hb4⟩; have HB5 : Hid _ := hb4; clear hb4))
      go_ret
      refine ⟨?_, HB4.out.trans (HB5.out.mono HB4.out.size)⟩
      show Ending.returned (Value.bool (E != 0)) = _
      rw [show (E != 0) = true by simpa using HW1.out]
    · obtain ⟨hw1, hw2, hg⟩ := err_right HRT.out
      have HGD : Hid (Gd (t1, t2) l) := hg
      have hpl : placedP (t1, t2) l = true := by have := HRT.out; simp only [Bool.and_eq_true] at this; exact this.1
      have HDO : Hid ((∀ m ∈ l, ex h00 (ansP (t1, t2) l) m.1 = h00 m.2) ∧ (∀ m ∈ ansP (t1, t2) l, m.1 = (t1, t2) ∨ m.1 ∈ l.map Prod.fst)) := by
        rw [hw2]
        obtain ⟨q1, _, q3, _⟩ := ord_does hg h00
        exact ⟨q1, q3⟩
      have hlen : (ansP (t1, t2) l).length ≤ 2 * l.length := by rw [hw2]; exact (ord_does hg h00).2.2.2
      have HKI : Hid (∀ m ∈ ansP (t1, t2) l, m.1.1 = 1 ∨ m.1.1 = 2) := fun m hm => placed_kind hpl (HDO.out.2 m hm)
      rw [hw1]
      obtain ⟨an, han⟩ : ∃ n, n = (ansP (t1, t2) l).length := ⟨_, rfl⟩
      rw [← han] at HA3 hlen ⊢
      have HANL : Hid (an = (ansP (t1, t2) l).length) := han
      have ha2 : an ≤ 2 * ln := by have := HN.out; omega
      have hdl : decide ((2 * (ln : Int)) < (an : Int)) = false := by simp; omega
      have hwm : IntKind.i64.wrap (2 * (ln : Int)) = 2 * (ln : Int) := by rw [IntKind.wrap_i64]; omega
      clear hw1 hw2 hg hpl han hlen
      go_wp2_with (first | (go_at_call 14; refine HRG.out.mono ?_; rintro e w4 ⟨rfl, hb4⟩; have HB5 : Hid _ := hb4; clear hb4))
      have HI0 : Hid (Below w.heap.size w w4 ∧ OwnM w4 w2.heap.size (.slice va an vc) an (ansP (t1, t2) l) ∧ w4.heap[w.heap.size]? = some (.cells #[.int .i64 t1, .int .i64 t2] 24 (0, 0))) := ⟨HB4.out.trans (HB5.out.mono HB4.out.size), HA3.out.keep HB5.out, (HB5.out.block _ (Array.getElem?_eq_some_iff.1 HT3.out).1).trans HT3.out⟩
      clear HB5 HRG HA3 HB4 HT3 HB3 HT2 HBT HX2 hdl hwm x0 x1 HB0 HT0
      go_loopw [9, 10] (fun cv v wr => ∃ i : Nat, i ≤ an ∧ v = .int .i64 i ∧ Hid (OwnC wr w.heap.size cv i (cls (ansP (t1, t2) l) i) ∧ Below w.heap.size w wr ∧ OwnM wr w2.heap.size (.slice va an vc) an (ansP (t1, t2) l) ∧ wr.heap[w.heap.size]? = some (.cells #[.int .i64 t1, .int .i64 t2] 24 (0, 0)))) (fun _ v _ => an - (intOf v).toNat)
      case atStart => exact ⟨0, by omega, rfl, OwnC.nil _ _, HI0.out.1, HI0.out.2.1, HI0.out.2.2⟩
      case round =>
        clear HI0
        obtain ⟨i, hi, rfl, HI⟩ := hrel
        obtain ⟨ca, cc, hcv, hcc1, hcc2⟩ := own_slice HI.out.1.out
        by_cases hlt : i < an
        · have hif : i < (ansP (t1, t2) l).length := by have := HANL.out; omega
          obtain ⟨b, o, rfl, hbl, c0, c1, c2, c3⟩ := HI.out.2.2.1.mvsS.at hif
          have hki := HKI.out _ (List.getElem_mem hif)
          have HCN : Hid (cls (ansP (t1, t2) l) (i + 1) = cls (ansP (t1, t2) l) i ++ [((ansP (t1, t2) l)[i].1, hld (cls (ansP (t1, t2) l) i) (ansP (t1, t2) l)[i].2)]) := by
            show _ = _
            have e1 : (ansP (t1, t2) l).getD i ((0, 0), (0, 0)) = (ansP (t1, t2) l)[i] := by simp [List.getD_eq_getElem?_getD, hif]
            rw [cls, e1, hld_cls _ (fun m hm => by rcases HKI.out m hm with h | h <;> omega) i (by omega)]
          obtain ⟨m, hmi⟩ : ∃ m, (ansP (t1, t2) l)[i] = m := ⟨_, rfl⟩
          rw [hmi] at c0 c1 c2 c3 hki HCN
          clear hmi
          obtain ⟨⟨m1, m2⟩, ⟨m3, m4⟩⟩ := m
          simp only at c0 c1 c2 c3 hki HCN
          obtain ⟨q, hq⟩ : ∃ q, hld (cls (ansP (t1, t2) l) i) (m3, m4) = q := ⟨_, rfl⟩
          rw [hq] at HCN
          have HHE : Hid (∀ w', Below wr.heap.size wr w' → Calls Try.prog 15 #[.slice ca i cc, .agg #[.int .i64 m3, .int .i64 m4]] w' fun e w'' => e = .returned (.int .i64 q) ∧ Below wr.heap.size wr w'') := fun w' hb => by
            have ho := HI.out.1
            rw [hcv] at ho
            obtain ⟨a', c', e', hCl⟩ := ho.cls
            cases e'
            refine (held_any w' (hCl.below hb (Nat.le_refl _)) (cls_len _ _).symm (m3, m4)).mono ?_
            rintro e w'' ⟨rfl, h2⟩
            exact ⟨by rw [hq], hb.trans (h2.mono hb.size)⟩
          have HCO : Hid (OwnC wr w.heap.size (.slice ca i cc) i (cls (ansP (t1, t2) l) i)) := by rw [← hcv]; exact HI.out.1
          have HS : Hid (∀ w', Below wr.heap.size wr w' → (fun w' : World => w'.cell? ⟨b, o + i * 4, none⟩ = some (.int .i64 m1) ∧ w'.cell? ⟨b, o + i * 4 + 1, none⟩ = some (.int .i64 m2) ∧ w'.cell? ⟨b, o + i * 4 + 2, none⟩ = some (.int .i64 m3) ∧ w'.cell? ⟨b, o + i * 4 + 3, none⟩ = some (.int .i64 m4)) w') := fun w' hb => ⟨(hb.cell (p := ⟨b, o + i * 4, none⟩) hbl).trans c0, (hb.cell (p := ⟨b, o + i * 4 + 1, none⟩) hbl).trans c1, (hb.cell (p := ⟨b, o + i * 4 + 2, none⟩) hbl).trans c2, (hb.cell (p := ⟨b, o + i * 4 + 3, none⟩) hbl).trans c3⟩
          have S0 : (fun w' : World => w'.cell? ⟨b, o + i * 4, none⟩ = some (.int .i64 m1) ∧ w'.cell? ⟨b, o + i * 4 + 1, none⟩ = some (.int .i64 m2) ∧ w'.cell? ⟨b, o + i * 4 + 2, none⟩ = some (.int .i64 m3) ∧ w'.cell? ⟨b, o + i * 4 + 3, none⟩ = some (.int .i64 m4)) wr.drew := HS.out _ (Below.refl _ _).drew
          have HBW3 : Hid (w.heap.size ≤ wr.heap.size) := HI.out.2.1.size
          have HMV : Hid (∀ w', Only (fun k => (Value.slice ca i cc).ownBlock = some k) wr w' → Below w.heap.size w w' ∧ OwnM w' w2.heap.size (.slice (some ⟨b, o, none⟩) an vc) an (ansP (t1, t2) l) ∧ w'.heap[w.heap.size]? = some (.cells #[.int .i64 t1, .int .i64 t2] 24 (0, 0))) := fun w' ho => by
            have hcb : ∀ k, (Value.slice ca i cc).ownBlock = some k → w.heap.size ≤ k := fun k hk => (own_block HCO.out.out hk).1
            have hct : ∀ {c : Array Value} {tt : TypeId} {f : Nat × Nat} {k : Nat}, wr.heap[k]? = some (.cells c tt f) → 39 ≠ tt → (Value.slice ca i cc).ownBlock ≠ some k := fun hk hne => own_not HCO.out.out hk hne
            refine ⟨HI.out.2.1.trans (ho.below HBW3.out hcb), HI.out.2.2.1.move fun g hg => ho.block g (own_block HI.out.2.2.1.out hg).2 (own_apart HI.out.2.2.1.out HCO.out.out (by decide) g hg), (ho.block _ (Array.getElem?_eq_some_iff.1 HI.out.2.2.2).1 (hct HI.out.2.2.2 (by decide))).trans HI.out.2.2.2⟩
          have HSO : Hid (∀ w', Only (fun k => (Value.slice ca i cc).ownBlock = some k) wr w' → (fun w' : World => w'.cell? ⟨b, o + i * 4, none⟩ = some (.int .i64 m1) ∧ w'.cell? ⟨b, o + i * 4 + 1, none⟩ = some (.int .i64 m2) ∧ w'.cell? ⟨b, o + i * 4 + 2, none⟩ = some (.int .i64 m3) ∧ w'.cell? ⟨b, o + i * 4 + 3, none⟩ = some (.int .i64 m4)) w') := fun w' ho => by
            have hbb : w'.heap[b]? = wr.heap[b]? := ho.block b hbl (fun hk => by
              obtain ⟨g, c', e, _⟩ := own_some HI.out.2.2.1.out (by omega)
              cases e
              exact own_apart HI.out.2.2.1.out HCO.out.out (by decide) b rfl hk)
            exact ⟨(cell_same hbb).trans c0, (cell_same hbb).trans c1, (cell_same hbb).trans c2, (cell_same hbb).trans c3⟩
          subst hcv
          clear hq
          have hi3 : i ≤ 600 := by omega
          clear HI
          rcases hki with rfl | rfl
          · go_wp2_with fail
            refine led_start (S := fun w' : World => w'.cell? ⟨b, o + i * 4, none⟩ = some (.int .i64 1) ∧ w'.cell? ⟨b, o + i * 4 + 1, none⟩ = some (.int .i64 m2) ∧ w'.cell? ⟨b, o + i * 4 + 2, none⟩ = some (.int .i64 m3) ∧ w'.cell? ⟨b, o + i * 4 + 3, none⟩ = some (.int .i64 m4)) (z := 100) (by kernel_rfl) ?_
            show led _ _ _ _ _ 17 _ _ _
            refine led_takeF (i := 0) (v := ?v0x) rfl (by kernel_rfl) (by kernel_rfl) (by kernel_rfl) (by kernel_rfl) (fun _ _ _ h => h) (.inl ⟨by rfl, ?hy0x⟩) S0 ?rest0x
            case hy0x =>
              rintro w' ⟨h1, h2, h3, h4⟩
              go_simp
              all_goals with_reducible rfl
            try simp only [Act.put, List.setIfInBounds_toArray, List.set_cons_zero, List.set_cons_succ]
            refine led_takeF (i := 1) (v := ?v1x) rfl (by kernel_rfl) (by kernel_rfl) (by kernel_rfl) (by kernel_rfl) (fun _ _ _ h => h) (.inl ⟨by rfl, ?hy1x⟩) S0 ?rest1x
            case hy1x =>
              rintro w' ⟨h1, h2, h3, h4⟩
              go_simp
              all_goals with_reducible rfl
            try simp only [Act.put, List.setIfInBounds_toArray, List.set_cons_zero, List.set_cons_succ]
            refine led_takeF (i := 2) (v := ?v2x) rfl (by kernel_rfl) (by kernel_rfl) (by kernel_rfl) (by kernel_rfl) (fun _ _ _ h => h) (.inl ⟨by rfl, ?hy2x⟩) S0 ?rest2x
            case hy2x =>
              rintro w' ⟨h1, h2, h3, h4⟩
              go_simp
              all_goals with_reducible rfl
            try simp only [Act.put, List.setIfInBounds_toArray, List.set_cons_zero, List.set_cons_succ]
            refine led_takeF (i := 3) (v := ?v3x) rfl (by kernel_rfl) (by kernel_rfl) (by kernel_rfl) (by kernel_rfl) (fun _ _ _ h => h) (.inl ⟨by rfl, ?hy3x⟩) S0 ?rest3x
            case hy3x =>
              rintro w' ⟨h1, h2, h3, h4⟩
              go_simp
              all_goals with_reducible rfl
            try simp only [Act.put, List.setIfInBounds_toArray, List.set_cons_zero, List.set_cons_succ]
            refine led_takeF (i := 4) (v := ?v4x) rfl (by kernel_rfl) (by kernel_rfl) (by kernel_rfl) (by kernel_rfl) (fun _ _ _ h => h) (.inl ⟨by rfl, ?hy4x⟩) S0 ?rest4x
            case hy4x =>
              rintro w' ⟨h1, h2, h3, h4⟩
              go_simp
              all_goals with_reducible rfl
            try simp only [Act.put, List.setIfInBounds_toArray, List.set_cons_zero, List.set_cons_succ]
            refine led_takeF (i := 5) (v := ?v5x) rfl (by kernel_rfl) (by kernel_rfl) (by kernel_rfl) (by kernel_rfl) (fun _ _ _ h => h) (.inl ⟨by rfl, ?hy5x⟩) S0 ?rest5x
            case hy5x =>
              rintro w' ⟨h1, h2, h3, h4⟩
              go_simp
              all_goals with_reducible rfl
            try simp only [Act.put, List.setIfInBounds_toArray, List.set_cons_zero, List.set_cons_succ]
            refine led_takeF (i := 6) (v := ?v6x) rfl (by kernel_rfl) (by kernel_rfl) (by kernel_rfl) (by kernel_rfl) (fun _ _ _ h => h) (.inl ⟨by rfl, ?hy6x⟩) S0 ?rest6x
            case hy6x =>
              rintro w' ⟨h1, h2, h3, h4⟩
              go_simp
              all_goals with_reducible rfl
            try simp only [Act.put, List.setIfInBounds_toArray, List.set_cons_zero, List.set_cons_succ]
            refine led_takeF (i := 7) (v := ?v7x) rfl (by kernel_rfl) (by kernel_rfl) (by kernel_rfl) (by kernel_rfl) (fun _ _ _ h => h) (.inl ⟨by rfl, ?hy7x⟩) S0 ?rest7x
            case hy7x =>
              rintro w' ⟨h1, h2, h3, h4⟩
              go_simp
              all_goals with_reducible rfl
            try simp only [Act.put, List.setIfInBounds_toArray, List.set_cons_zero, List.set_cons_succ]
            refine led_takeF (i := 8) (v := ?v8x) rfl (by kernel_rfl) (by kernel_rfl) (by kernel_rfl) (by kernel_rfl) (fun _ _ _ h => h) (.inl ⟨by rfl, ?hy8x⟩) S0 ?rest8x
            case hy8x =>
              rintro w' ⟨h1, h2, h3, h4⟩
              go_simp
              all_goals with_reducible rfl
            try simp only [Act.put, List.setIfInBounds_toArray, List.set_cons_zero, List.set_cons_succ]
            refine led_takeF (i := 9) (v := ?v9x) rfl (by kernel_rfl) (by kernel_rfl) (by kernel_rfl) (by kernel_rfl) (fun _ _ _ h => h) (.inl ⟨by rfl, ?hy9x⟩) S0 ?rest9x
            case hy9x =>
              rintro w' ⟨h1, h2, h3, h4⟩
              go_simp
              all_goals with_reducible rfl
            try simp only [Act.put, List.setIfInBounds_toArray, List.set_cons_zero, List.set_cons_succ]
            refine led_takeF (i := 10) (v := ?v10x) rfl (by kernel_rfl) (by kernel_rfl) (by kernel_rfl) (by kernel_rfl) (fun _ _ _ h => h) (.inl ⟨by rfl, ?hy10x⟩) S0 ?rest10x
            case hy10x =>
              rintro w' ⟨h1, h2, h3, h4⟩
              go_simp
              all_goals with_reducible rfl
            try simp only [Act.put, List.setIfInBounds_toArray, List.set_cons_zero, List.set_cons_succ]
            refine led_takeF (i := 11) (v := ?v11x) rfl (by kernel_rfl) (by kernel_rfl) (by kernel_rfl) (by kernel_rfl) (fun _ _ _ h => h) (.inl ⟨by rfl, ?hy11x⟩) S0 ?rest11x
            case hy11x =>
              rintro w' ⟨h1, h2, h3, h4⟩
              go_simp
              all_goals with_reducible rfl
            try simp only [Act.put, List.setIfInBounds_toArray, List.set_cons_zero, List.set_cons_succ]
            refine led_one (i := 12) rfl (by kernel_rfl) ?_
            intro K1 hK1
            rw [if_pos (by rfl)]
            go_simp
            refine (HHE.out _ (Below.refl _ _).drew).mono ?_
            rintro e w1 ⟨rfl, hb1⟩
            have S1 := HS.out w1 hb1
            refine hK1 _ _ (fun _ => S1) ?_
            clear hK1
            try simp only [Act.put, List.setIfInBounds_toArray, List.set_cons_zero, List.set_cons_succ]
            refine led_takeF (i := 13) (v := ?v13x) rfl (by kernel_rfl) (by kernel_rfl) (by kernel_rfl) (by kernel_rfl) (fun _ _ _ h => h) (.inl ⟨by rfl, ?hy13x⟩) S1 ?rest13x
            case hy13x =>
              rintro w' ⟨h1, h2, h3, h4⟩
              go_simp
              all_goals with_reducible rfl
            try simp only [Act.put, List.setIfInBounds_toArray, List.set_cons_zero, List.set_cons_succ]
            refine led_one (i := 14) rfl (by kernel_rfl) ?_
            intro K2 hK2
            rw [if_pos (by rfl)]
            go_simp
            have hb2 : Below wr.heap.size wr (w1.alloc (.cells #[.int .i64 1, .int .i64 m2, .int .i64 q] 39)) := hb1.alloc hb1.size _
            refine hK2 _ _ (fun _ => HS.out _ hb2) ?_
            clear hK2
            try simp only [Act.put, List.setIfInBounds_toArray, List.set_cons_zero, List.set_cons_succ]
            refine led_one (i := 15) rfl (by kernel_rfl) ?_
            intro K3 hK3
            refine step_append_cl rfl _ _ rfl w.heap.size (.slice ca i cc) i (cls (ansP (t1, t2) l) i) 1 m2 q (by simp [Act.eval]) (HCO.out.keep hb2) w1.heap.size (by simp [Act.eval]) (cell_arr (heap_alloc_new _ _) rfl) (cell_arr (heap_alloc_new _ _) rfl) (cell_arr (heap_alloc_new _ _) rfl) (by omega) (Nat.le_trans HBW3.out hb2.size) ?_
            intro v3 w3 h3 g3
            have S3 := HSO.out w3 ⟨hb2.os ▸ g3.bel.os, hb2.tape ▸ g3.bel.tape, hb2.output ▸ g3.bel.output, Nat.le_trans hb2.size g3.size, fun k hk hn => (g3.blk k (Nat.lt_of_lt_of_le hk hb2.size) hn).trans (hb2.block k hk)⟩
            have HG3 : Hid (OwnC w3 w.heap.size v3 (i + 1) (cls (ansP (t1, t2) l) (i + 1)) ∧ Only (fun k => (Value.slice ca i cc).ownBlock = some k) wr w3) := by
              refine ⟨by rw [HCN.out]; exact h3, hb2.os ▸ g3.bel.os, hb2.tape ▸ g3.bel.tape, hb2.output ▸ g3.bel.output, Nat.le_trans hb2.size g3.size, fun k hk hn => (g3.blk k (Nat.lt_of_lt_of_le hk hb2.size) hn).trans (hb2.block k hk)⟩
            refine hK3 _ _ (fun _ => S3) ?_
            clear hK3 h3 g3 hb1 hb2 S0 S1
            try simp only [Act.put, List.setIfInBounds_toArray, List.set_cons_zero, List.set_cons_succ]
            refine led_one (i := 16) rfl (by kernel_rfl) ?_
            intro K4 hK4
            rw [if_pos (by rfl)]
            go_simp
            refine hK4 _ _ (fun _ => S3) ?_
            clear hK4
            refine led_done (by kernel_rfl) ?_
            obtain ⟨p1, p2, p3⟩ := HMV.out w3 HG3.out.2
            have HNX : Hid (OwnC w3 w.heap.size v3 (i + 1) (cls (ansP (t1, t2) l) (i + 1)) ∧ Below w.heap.size w w3 ∧ OwnM w3 w2.heap.size (.slice (some ⟨b, o, none⟩) an vc) an (ansP (t1, t2) l) ∧ w3.heap[w.heap.size]? = some (.cells #[.int .i64 t1, .int .i64 t2] 24 (0, 0))) := ⟨HG3.out.1, p1, p2, p3⟩
            clear p1 p2 p3
            go_wp2_with fail
            go_roundw
            case rel => exact ⟨i + 1, by omega, by go_num, HNX⟩
            case measure => simp [intOf]; omega
          · go_wp2_with fail
            refine led_start (S := fun w' : World => w'.cell? ⟨b, o + i * 4, none⟩ = some (.int .i64 2) ∧ w'.cell? ⟨b, o + i * 4 + 1, none⟩ = some (.int .i64 m2) ∧ w'.cell? ⟨b, o + i * 4 + 2, none⟩ = some (.int .i64 m3) ∧ w'.cell? ⟨b, o + i * 4 + 3, none⟩ = some (.int .i64 m4)) (z := 100) (by kernel_rfl) ?_
            show led _ _ _ _ _ 17 _ _ _
            refine led_takeF (i := 0) (v := ?v0y) rfl (by kernel_rfl) (by kernel_rfl) (by kernel_rfl) (by kernel_rfl) (fun _ _ _ h => h) (.inl ⟨by rfl, ?hy0y⟩) S0 ?rest0y
            case hy0y =>
              rintro w' ⟨h1, h2, h3, h4⟩
              go_simp
              all_goals with_reducible rfl
            try simp only [Act.put, List.setIfInBounds_toArray, List.set_cons_zero, List.set_cons_succ]
            refine led_takeF (i := 1) (v := ?v1y) rfl (by kernel_rfl) (by kernel_rfl) (by kernel_rfl) (by kernel_rfl) (fun _ _ _ h => h) (.inl ⟨by rfl, ?hy1y⟩) S0 ?rest1y
            case hy1y =>
              rintro w' ⟨h1, h2, h3, h4⟩
              go_simp
              all_goals with_reducible rfl
            try simp only [Act.put, List.setIfInBounds_toArray, List.set_cons_zero, List.set_cons_succ]
            refine led_takeF (i := 2) (v := ?v2y) rfl (by kernel_rfl) (by kernel_rfl) (by kernel_rfl) (by kernel_rfl) (fun _ _ _ h => h) (.inl ⟨by rfl, ?hy2y⟩) S0 ?rest2y
            case hy2y =>
              rintro w' ⟨h1, h2, h3, h4⟩
              go_simp
              all_goals with_reducible rfl
            try simp only [Act.put, List.setIfInBounds_toArray, List.set_cons_zero, List.set_cons_succ]
            refine led_takeF (i := 3) (v := ?v3y) rfl (by kernel_rfl) (by kernel_rfl) (by kernel_rfl) (by kernel_rfl) (fun _ _ _ h => h) (.inl ⟨by rfl, ?hy3y⟩) S0 ?rest3y
            case hy3y =>
              rintro w' ⟨h1, h2, h3, h4⟩
              go_simp
              all_goals with_reducible rfl
            try simp only [Act.put, List.setIfInBounds_toArray, List.set_cons_zero, List.set_cons_succ]
            refine led_takeF (i := 4) (v := ?v4y) rfl (by kernel_rfl) (by kernel_rfl) (by kernel_rfl) (by kernel_rfl) (fun _ _ _ h => h) (.inl ⟨by rfl, ?hy4y⟩) S0 ?rest4y
            case hy4y =>
              rintro w' ⟨h1, h2, h3, h4⟩
              go_simp
              all_goals with_reducible rfl
            try simp only [Act.put, List.setIfInBounds_toArray, List.set_cons_zero, List.set_cons_succ]
            refine led_takeF (i := 5) (v := ?v5y) rfl (by kernel_rfl) (by kernel_rfl) (by kernel_rfl) (by kernel_rfl) (fun _ _ _ h => h) (.inl ⟨by rfl, ?hy5y⟩) S0 ?rest5y
            case hy5y =>
              rintro w' ⟨h1, h2, h3, h4⟩
              go_simp
              all_goals with_reducible rfl
            try simp only [Act.put, List.setIfInBounds_toArray, List.set_cons_zero, List.set_cons_succ]
            refine led_takeF (i := 6) (v := ?v6y) rfl (by kernel_rfl) (by kernel_rfl) (by kernel_rfl) (by kernel_rfl) (fun _ _ _ h => h) (.inl ⟨by rfl, ?hy6y⟩) S0 ?rest6y
            case hy6y =>
              rintro w' ⟨h1, h2, h3, h4⟩
              go_simp
              all_goals with_reducible rfl
            try simp only [Act.put, List.setIfInBounds_toArray, List.set_cons_zero, List.set_cons_succ]
            refine led_takeF (i := 7) (v := ?v7y) rfl (by kernel_rfl) (by kernel_rfl) (by kernel_rfl) (by kernel_rfl) (fun _ _ _ h => h) (.inl ⟨by rfl, ?hy7y⟩) S0 ?rest7y
            case hy7y =>
              rintro w' ⟨h1, h2, h3, h4⟩
              go_simp
              all_goals with_reducible rfl
            try simp only [Act.put, List.setIfInBounds_toArray, List.set_cons_zero, List.set_cons_succ]
            refine led_takeF (i := 8) (v := ?v8y) rfl (by kernel_rfl) (by kernel_rfl) (by kernel_rfl) (by kernel_rfl) (fun _ _ _ h => h) (.inl ⟨by rfl, ?hy8y⟩) S0 ?rest8y
            case hy8y =>
              rintro w' ⟨h1, h2, h3, h4⟩
              go_simp
              all_goals with_reducible rfl
            try simp only [Act.put, List.setIfInBounds_toArray, List.set_cons_zero, List.set_cons_succ]
            refine led_takeF (i := 9) (v := ?v9y) rfl (by kernel_rfl) (by kernel_rfl) (by kernel_rfl) (by kernel_rfl) (fun _ _ _ h => h) (.inl ⟨by rfl, ?hy9y⟩) S0 ?rest9y
            case hy9y =>
              rintro w' ⟨h1, h2, h3, h4⟩
              go_simp
              all_goals with_reducible rfl
            try simp only [Act.put, List.setIfInBounds_toArray, List.set_cons_zero, List.set_cons_succ]
            refine led_takeF (i := 10) (v := ?v10y) rfl (by kernel_rfl) (by kernel_rfl) (by kernel_rfl) (by kernel_rfl) (fun _ _ _ h => h) (.inl ⟨by rfl, ?hy10y⟩) S0 ?rest10y
            case hy10y =>
              rintro w' ⟨h1, h2, h3, h4⟩
              go_simp
              all_goals with_reducible rfl
            try simp only [Act.put, List.setIfInBounds_toArray, List.set_cons_zero, List.set_cons_succ]
            refine led_takeF (i := 11) (v := ?v11y) rfl (by kernel_rfl) (by kernel_rfl) (by kernel_rfl) (by kernel_rfl) (fun _ _ _ h => h) (.inl ⟨by rfl, ?hy11y⟩) S0 ?rest11y
            case hy11y =>
              rintro w' ⟨h1, h2, h3, h4⟩
              go_simp
              all_goals with_reducible rfl
            try simp only [Act.put, List.setIfInBounds_toArray, List.set_cons_zero, List.set_cons_succ]
            refine led_one (i := 12) rfl (by kernel_rfl) ?_
            intro K1 hK1
            rw [if_pos (by rfl)]
            go_simp
            refine (HHE.out _ (Below.refl _ _).drew).mono ?_
            rintro e w1 ⟨rfl, hb1⟩
            have S1 := HS.out w1 hb1
            refine hK1 _ _ (fun _ => S1) ?_
            clear hK1
            try simp only [Act.put, List.setIfInBounds_toArray, List.set_cons_zero, List.set_cons_succ]
            refine led_takeF (i := 13) (v := ?v13y) rfl (by kernel_rfl) (by kernel_rfl) (by kernel_rfl) (by kernel_rfl) (fun _ _ _ h => h) (.inl ⟨by rfl, ?hy13y⟩) S1 ?rest13y
            case hy13y =>
              rintro w' ⟨h1, h2, h3, h4⟩
              go_simp
              all_goals with_reducible rfl
            try simp only [Act.put, List.setIfInBounds_toArray, List.set_cons_zero, List.set_cons_succ]
            refine led_one (i := 14) rfl (by kernel_rfl) ?_
            intro K2 hK2
            rw [if_pos (by rfl)]
            go_simp
            have hb2 : Below wr.heap.size wr (w1.alloc (.cells #[.int .i64 2, .int .i64 m2, .int .i64 q] 39)) := hb1.alloc hb1.size _
            refine hK2 _ _ (fun _ => HS.out _ hb2) ?_
            clear hK2
            try simp only [Act.put, List.setIfInBounds_toArray, List.set_cons_zero, List.set_cons_succ]
            refine led_one (i := 15) rfl (by kernel_rfl) ?_
            intro K3 hK3
            refine step_append_cl rfl _ _ rfl w.heap.size (.slice ca i cc) i (cls (ansP (t1, t2) l) i) 2 m2 q (by simp [Act.eval]) (HCO.out.keep hb2) w1.heap.size (by simp [Act.eval]) (cell_arr (heap_alloc_new _ _) rfl) (cell_arr (heap_alloc_new _ _) rfl) (cell_arr (heap_alloc_new _ _) rfl) (by omega) (Nat.le_trans HBW3.out hb2.size) ?_
            intro v3 w3 h3 g3
            have S3 := HSO.out w3 ⟨hb2.os ▸ g3.bel.os, hb2.tape ▸ g3.bel.tape, hb2.output ▸ g3.bel.output, Nat.le_trans hb2.size g3.size, fun k hk hn => (g3.blk k (Nat.lt_of_lt_of_le hk hb2.size) hn).trans (hb2.block k hk)⟩
            have HG3 : Hid (OwnC w3 w.heap.size v3 (i + 1) (cls (ansP (t1, t2) l) (i + 1)) ∧ Only (fun k => (Value.slice ca i cc).ownBlock = some k) wr w3) := by
              refine ⟨by rw [HCN.out]; exact h3, hb2.os ▸ g3.bel.os, hb2.tape ▸ g3.bel.tape, hb2.output ▸ g3.bel.output, Nat.le_trans hb2.size g3.size, fun k hk hn => (g3.blk k (Nat.lt_of_lt_of_le hk hb2.size) hn).trans (hb2.block k hk)⟩
            refine hK3 _ _ (fun _ => S3) ?_
            clear hK3 h3 g3 hb1 hb2 S0 S1
            try simp only [Act.put, List.setIfInBounds_toArray, List.set_cons_zero, List.set_cons_succ]
            refine led_one (i := 16) rfl (by kernel_rfl) ?_
            intro K4 hK4
            rw [if_pos (by rfl)]
            go_simp
            refine hK4 _ _ (fun _ => S3) ?_
            clear hK4
            refine led_done (by kernel_rfl) ?_
            obtain ⟨p1, p2, p3⟩ := HMV.out w3 HG3.out.2
            have HNX : Hid (OwnC w3 w.heap.size v3 (i + 1) (cls (ansP (t1, t2) l) (i + 1)) ∧ Below w.heap.size w w3 ∧ OwnM w3 w2.heap.size (.slice (some ⟨b, o, none⟩) an vc) an (ansP (t1, t2) l) ∧ w3.heap[w.heap.size]? = some (.cells #[.int .i64 t1, .int .i64 t2] 24 (0, 0))) := ⟨HG3.out.1, p1, p2, p3⟩
            clear p1 p2 p3
            go_wp2_with fail
            go_roundw
            case rel => exact ⟨i + 1, by omega, by go_num, HNX⟩
            case measure => simp [intOf]; omega
        · obtain rfl : i = an := by omega
          subst hcv
          have HI0 : Hid (Below w.heap.size w wr ∧ OwnC wr w.heap.size (.slice ca i cc) i (cls (ansP (t1, t2) l) i) ∧ OwnM wr w2.heap.size (.slice va i vc) i (ansP (t1, t2) l) ∧ wr.heap[w.heap.size]? = some (.cells #[.int .i64 t1, .int .i64 t2] 24 (0, 0))) := ⟨HI.out.2.1, HI.out.1, HI.out.2.2.1, HI.out.2.2.2⟩
          have HEX : Hid (∀ p, hld (cls (ansP (t1, t2) l) i) p = ex h00 (ansP (t1, t2) l) p) := fun p => by
            have := hld_cls (ansP (t1, t2) l) (fun m hm => by rcases HKI.out m hm with h | h <;> omega) i (by have := HANL.out; omega) p
            rw [this, HANL.out, List.take_length]
          clear HI
          go_wp2_with fail
          go_loopw [11] (fun v wr => ∃ j : Nat, j ≤ ln ∧ v = .int .i64 j ∧ Hid (Below w.heap.size w wr ∧ OwnC wr w.heap.size (.slice ca i cc) i (cls (ansP (t1, t2) l) i) ∧ OwnM wr w2.heap.size (.slice va i vc) i (ansP (t1, t2) l) ∧ wr.heap[w.heap.size]? = some (.cells #[.int .i64 t1, .int .i64 t2] 24 (0, 0)))) (fun v _ => ln - (intOf v).toNat)
          case atStart => exact ⟨0, by omega, rfl, HI0⟩
          case round =>
            clear HI0
            obtain ⟨j, hj, rfl, HI⟩ := hrel
            by_cases hjl : j < ln
            · have hjf : j < l.length := by have := HN.out; omega
              obtain ⟨b, o, rfl, hbl, c0, c1, c2, c3⟩ := (HL.out.below HI.out.1 (Nat.le_refl _)).at hjf
              have hdo := HDO.out.1 _ (List.getElem_mem hjf)
              generalize l[j] = m at c0 c1 c2 c3 hdo
              obtain ⟨⟨m1, m2⟩, ⟨m3, m4⟩⟩ := m
              simp only at c0 c1 c2 c3 hdo
              obtain ⟨q, hq⟩ : ∃ q, h00 (m3, m4) = q := ⟨_, rfl⟩
              have HH1 : Hid (∀ w', Below wr.heap.size wr w' → Calls Try.prog 15 #[.slice ca i cc, .agg #[.int .i64 m1, .int .i64 m2]] w' fun e w'' => e = .returned (.int .i64 q) ∧ Below wr.heap.size wr w'') := fun w' hb => by
                obtain ⟨a', c', e', hCl⟩ := HI.out.2.1.cls
                cases e'
                refine (held_any w' (hCl.below hb (Nat.le_refl _)) (cls_len _ _).symm (m1, m2)).mono ?_
                rintro e w'' ⟨rfl, h2⟩
                exact ⟨by rw [HEX.out, hdo, hq], hb.trans (h2.mono hb.size)⟩
              have HH2 : Hid (∀ w', Below wr.heap.size wr w' → Calls Try.prog 15 #[.slice none 0 0, .agg #[.int .i64 m3, .int .i64 m4]] w' fun e w'' => e = .returned (.int .i64 q) ∧ Below wr.heap.size wr w'') := fun w' hb => by
                refine (held_any w' (Cls.nil w') rfl (m3, m4)).mono ?_
                rintro e w'' ⟨rfl, h2⟩
                refine ⟨?_, hb.trans (h2.mono hb.size)⟩
                rw [← hq]
                simp [hld, hl, h00]
              have HS : Hid (∀ w', Below wr.heap.size wr w' → (fun w' : World => w'.cell? ⟨b, o + j * 4, none⟩ = some (.int .i64 m1) ∧ w'.cell? ⟨b, o + j * 4 + 1, none⟩ = some (.int .i64 m2) ∧ w'.cell? ⟨b, o + j * 4 + 2, none⟩ = some (.int .i64 m3) ∧ w'.cell? ⟨b, o + j * 4 + 3, none⟩ = some (.int .i64 m4)) w') := fun w' hb => ⟨(hb.cell (p := ⟨b, o + j * 4, none⟩) hbl).trans c0, (hb.cell (p := ⟨b, o + j * 4 + 1, none⟩) hbl).trans c1, (hb.cell (p := ⟨b, o + j * 4 + 2, none⟩) hbl).trans c2, (hb.cell (p := ⟨b, o + j * 4 + 3, none⟩) hbl).trans c3⟩
              have S0 : (fun w' : World => w'.cell? ⟨b, o + j * 4, none⟩ = some (.int .i64 m1) ∧ w'.cell? ⟨b, o + j * 4 + 1, none⟩ = some (.int .i64 m2) ∧ w'.cell? ⟨b, o + j * 4 + 2, none⟩ = some (.int .i64 m3) ∧ w'.cell? ⟨b, o + j * 4 + 3, none⟩ = some (.int .i64 m4)) wr.drew := HS.out _ (Below.refl _ _).drew
              clear hdo hq c0 c1 c2 c3
              go_wp2_with fail
              refine led_start (S := fun w' : World => w'.cell? ⟨b, o + j * 4, none⟩ = some (.int .i64 m1) ∧ w'.cell? ⟨b, o + j * 4 + 1, none⟩ = some (.int .i64 m2) ∧ w'.cell? ⟨b, o + j * 4 + 2, none⟩ = some (.int .i64 m3) ∧ w'.cell? ⟨b, o + j * 4 + 3, none⟩ = some (.int .i64 m4)) (z := 100) (by kernel_rfl) ?_
              show led _ _ _ _ _ 14 _ _ _
              refine led_takeF (i := 0) (v := ?v0z) rfl (by kernel_rfl) (by kernel_rfl) (by kernel_rfl) (by kernel_rfl) (fun _ _ _ h => h) (.inl ⟨by rfl, ?hy0z⟩) S0 ?rest0z
              case hy0z =>
                rintro w' ⟨h1, h2, h3, h4⟩
                go_simp
                all_goals with_reducible rfl
              try simp only [Act.put, List.setIfInBounds_toArray, List.set_cons_zero, List.set_cons_succ]
              refine led_takeF (i := 1) (v := ?v1z) rfl (by kernel_rfl) (by kernel_rfl) (by kernel_rfl) (by kernel_rfl) (fun _ _ _ h => h) (.inl ⟨by rfl, ?hy1z⟩) S0 ?rest1z
              case hy1z =>
                rintro w' ⟨h1, h2, h3, h4⟩
                go_simp
                all_goals with_reducible rfl
              try simp only [Act.put, List.setIfInBounds_toArray, List.set_cons_zero, List.set_cons_succ]
              refine led_takeF (i := 2) (v := ?v2z) rfl (by kernel_rfl) (by kernel_rfl) (by kernel_rfl) (by kernel_rfl) (fun _ _ _ h => h) (.inl ⟨by rfl, ?hy2z⟩) S0 ?rest2z
              case hy2z =>
                rintro w' ⟨h1, h2, h3, h4⟩
                go_simp
                all_goals with_reducible rfl
              try simp only [Act.put, List.setIfInBounds_toArray, List.set_cons_zero, List.set_cons_succ]
              refine led_takeF (i := 3) (v := ?v3z) rfl (by kernel_rfl) (by kernel_rfl) (by kernel_rfl) (by kernel_rfl) (fun _ _ _ h => h) (.inl ⟨by rfl, ?hy3z⟩) S0 ?rest3z
              case hy3z =>
                rintro w' ⟨h1, h2, h3, h4⟩
                go_simp
                all_goals with_reducible rfl
              try simp only [Act.put, List.setIfInBounds_toArray, List.set_cons_zero, List.set_cons_succ]
              refine led_takeF (i := 4) (v := ?v4z) rfl (by kernel_rfl) (by kernel_rfl) (by kernel_rfl) (by kernel_rfl) (fun _ _ _ h => h) (.inl ⟨by rfl, ?hy4z⟩) S0 ?rest4z
              case hy4z =>
                rintro w' ⟨h1, h2, h3, h4⟩
                go_simp
                all_goals with_reducible rfl
              try simp only [Act.put, List.setIfInBounds_toArray, List.set_cons_zero, List.set_cons_succ]
              refine led_takeF (i := 5) (v := ?v5z) rfl (by kernel_rfl) (by kernel_rfl) (by kernel_rfl) (by kernel_rfl) (fun _ _ _ h => h) (.inl ⟨by rfl, ?hy5z⟩) S0 ?rest5z
              case hy5z =>
                rintro w' ⟨h1, h2, h3, h4⟩
                go_simp
                all_goals with_reducible rfl
              try simp only [Act.put, List.setIfInBounds_toArray, List.set_cons_zero, List.set_cons_succ]
              refine led_takeF (i := 7) (v := ?v7z) rfl (by kernel_rfl) (by kernel_rfl) (by kernel_rfl) (by kernel_rfl) (fun _ _ _ h => h) (.inl ⟨by rfl, ?hy7z⟩) S0 ?rest7z
              case hy7z =>
                rintro w' ⟨h1, h2, h3, h4⟩
                go_simp
                all_goals with_reducible rfl
              try simp only [Act.put, List.setIfInBounds_toArray, List.set_cons_zero, List.set_cons_succ]
              refine led_takeF (i := 8) (v := ?v8z) rfl (by kernel_rfl) (by kernel_rfl) (by kernel_rfl) (by kernel_rfl) (fun _ _ _ h => h) (.inl ⟨by rfl, ?hy8z⟩) S0 ?rest8z
              case hy8z =>
                rintro w' ⟨h1, h2, h3, h4⟩
                go_simp
                all_goals with_reducible rfl
              try simp only [Act.put, List.setIfInBounds_toArray, List.set_cons_zero, List.set_cons_succ]
              refine led_takeF (i := 9) (v := ?v9z) rfl (by kernel_rfl) (by kernel_rfl) (by kernel_rfl) (by kernel_rfl) (fun _ _ _ h => h) (.inl ⟨by rfl, ?hy9z⟩) S0 ?rest9z
              case hy9z =>
                rintro w' ⟨h1, h2, h3, h4⟩
                go_simp
                all_goals with_reducible rfl
              try simp only [Act.put, List.setIfInBounds_toArray, List.set_cons_zero, List.set_cons_succ]
              refine led_takeF (i := 10) (v := ?v10z) rfl (by kernel_rfl) (by kernel_rfl) (by kernel_rfl) (by kernel_rfl) (fun _ _ _ h => h) (.inl ⟨by rfl, ?hy10z⟩) S0 ?rest10z
              case hy10z =>
                rintro w' ⟨h1, h2, h3, h4⟩
                go_simp
                all_goals with_reducible rfl
              try simp only [Act.put, List.setIfInBounds_toArray, List.set_cons_zero, List.set_cons_succ]
              refine led_takeF (i := 11) (v := ?v11z) rfl (by kernel_rfl) (by kernel_rfl) (by kernel_rfl) (by kernel_rfl) (fun _ _ _ h => h) (.inl ⟨by rfl, ?hy11z⟩) S0 ?rest11z
              case hy11z =>
                rintro w' ⟨h1, h2, h3, h4⟩
                go_simp
                all_goals with_reducible rfl
              try simp only [Act.put, List.setIfInBounds_toArray, List.set_cons_zero, List.set_cons_succ]
              refine led_one (i := 6) rfl (by kernel_rfl) ?_
              ·
                intro K1 hK1
                rw [if_pos (by rfl)]
                go_simp
                refine (HH1.out _ (Below.refl _ _).drew).mono ?_
                rintro e w5 ⟨rfl, hb5⟩
                refine hK1 _ _ (fun _ => HS.out w5 hb5) ?_
                clear hK1
                try simp only [Act.put, List.setIfInBounds_toArray, List.set_cons_zero, List.set_cons_succ]
                refine led_one (i := 12) rfl (by kernel_rfl) ?_
                intro K2 hK2
                rw [if_pos (by rfl)]
                go_simp
                refine (HH2.out _ hb5).mono ?_
                rintro e w6 ⟨rfl, hb6⟩
                have S6 := HS.out w6 hb6
                refine hK2 _ _ (fun _ => S6) ?_
                clear hK2
                try simp only [Act.put, List.setIfInBounds_toArray, List.set_cons_zero, List.set_cons_succ]
                refine led_takeF (i := 13) (v := ?v13za) rfl (by kernel_rfl) (by kernel_rfl) (by kernel_rfl) (by kernel_rfl) (fun _ _ _ h => h) (.inl ⟨by rfl, ?hy13za⟩) S6 ?rest13za
                case hy13za =>
                  rintro w' ⟨h1, h2, h3, h4⟩
                  go_simp
                  all_goals with_reducible rfl
                try simp only [Act.put, List.setIfInBounds_toArray, List.set_cons_zero, List.set_cons_succ]
                refine led_done (by kernel_rfl) ?_
                have HB6 : Hid (Below wr.heap.size wr w6) := hb6
                clear hb5 hb6 S0 S6
                go_wp2_with fail
                go_roundw
                case rel => exact ⟨j + 1, by omega, by go_num, HI.out.1.trans (HB6.out.mono HI.out.1.size), HI.out.2.1.keep HB6.out, HI.out.2.2.1.keep HB6.out, (HB6.out.block _ (Array.getElem?_eq_some_iff.1 HI.out.2.2.2).1).trans HI.out.2.2.2⟩
                case measure => simp [intOf]; omega
            · obtain rfl : j = ln := by omega
              have HI0 : Hid (Below w.heap.size w wr ∧ OwnM wr w2.heap.size (.slice va i vc) i (ansP (t1, t2) l) ∧ wr.heap[w.heap.size]? = some (.cells #[.int .i64 t1, .int .i64 t2] 24 (0, 0))) := ⟨HI.out.1, HI.out.2.2.1, HI.out.2.2.2⟩
              clear HI
              go_wp2_with fail
              go_loopw [12] (fun v wr => ∃ x : Nat, x ≤ i ∧ v = .int .i64 x ∧ Hid (Below w.heap.size w wr ∧ OwnM wr w2.heap.size (.slice va i vc) i (ansP (t1, t2) l) ∧ wr.heap[w.heap.size]? = some (.cells #[.int .i64 t1, .int .i64 t2] 24 (0, 0)))) (fun v _ => i - (intOf v).toNat)
              case atStart => exact ⟨0, by omega, rfl, HI0⟩
              case round =>
                clear HI0
                obtain ⟨x, hx, rfl, HI⟩ := hrel
                by_cases hxi : x < i
                · have hxf : x < (ansP (t1, t2) l).length := by have := HANL.out; omega
                  obtain ⟨b, o, rfl, hbl, c0, c1, _, _⟩ := HI.out.2.1.mvsS.at hxf
                  have z0 : wr.cell? ⟨w.heap.size, 0, none⟩ = some (.int .i64 t1) := cell_arr HI.out.2.2 rfl
                  have z1 : wr.cell? ⟨w.heap.size, 1, none⟩ = some (.int .i64 t2) := cell_arr HI.out.2.2 rfl
                  obtain ⟨m, hmi⟩ : ∃ m, (ansP (t1, t2) l)[x] = m := ⟨_, rfl⟩
                  have HLX : Hid ((ansP (t1, t2) l)[x] = m) := hmi
                  rw [hmi] at c0 c1
                  clear hmi
                  obtain ⟨⟨m1, m2⟩, m34⟩ := m
                  simp only at c0 c1
                  obtain ⟨e1, q1⟩ : ∃ e, (m1 == t1) = e := ⟨_, rfl⟩
                  obtain ⟨e2, q2⟩ : ∃ e, (m2 == t2) = e := ⟨_, rfl⟩
                  have HQ : Hid ((e1 && e2) = decide (((m1, m2) : Lc) = (t1, t2))) := by
                    show _ = _
                    rw [← q1, ← q2, Bool.eq_iff_iff]; simp
                  cases e1
                  · go_wp2_with fail
                    go_quiet (fail)
                    go_wp2_with fail
                    clear c0 c1 z0 z1 q1 q2
                    go_loopw [13, 14] (fun sv v wr => ∃ k : Nat, k ≤ j ∧ v = .int .i64 k ∧ ∃ B : Bool, sv = .bool B ∧ Hid (B = true ∨ (((m1, m2) : Lc) ≠ (t1, t2) ∧ ∀ j', ∀ h : j' < l.length, j' < k → l[j'].1 ≠ (m1, m2))) ∧ Hid (Below w.heap.size w wr ∧ OwnM wr w2.heap.size (.slice (some ⟨b, o, none⟩) i vc) i (ansP (t1, t2) l) ∧ wr.heap[w.heap.size]? = some (.cells #[.int .i64 t1, .int .i64 t2] 24 (0, 0)))) (fun _ v _ => j - (intOf v).toNat)
                    case atStart => exact ⟨0, by omega, rfl, _, rfl, .inr ⟨by simpa using HQ.out, fun j' _ h => by omega⟩, HI.out.1.trans ((below_drewN0 _ _).mono HI.out.1.size), HI.out.2.1.keep (below_drewN0 _ _), HI.out.2.2⟩
                    case round =>
                      clear HI
                      obtain ⟨k, hk, rfl, B, rfl, HP, HI⟩ := hrel
                      by_cases hkl : k < j
                      · have hkf : k < l.length := by have := HN.out; omega
                        cases B
                        · obtain ⟨b2, o2, rfl, hbl2, d0, d1, _, _⟩ := (HL.out.below HI.out.1 (Nat.le_refl _)).at hkf
                          obtain ⟨b3, o3, e3, hbl3, c0, c1, _, _⟩ := HI.out.2.1.mvsS.at hxf
                          cases e3
                          rw [HLX.out] at c0 c1
                          obtain ⟨y, hy⟩ : ∃ y, l[k] = y := ⟨_, rfl⟩
                          have HLY : Hid (l[k] = y) := hy
                          rw [hy] at d0 d1
                          clear hy
                          obtain ⟨⟨n1, n2⟩, n34⟩ := y
                          simp only at c0 c1 d0 d1
                          have HPF : Hid (((m1, m2) : Lc) ≠ (t1, t2) ∧ ∀ j', ∀ h : j' < l.length, j' < k → l[j'].1 ≠ (m1, m2)) := by
                            rcases HP.out with h | h
                            · cases h
                            · exact h
                          have HNX : Hid (¬ ((n1, n2) : Lc) = (m1, m2) → ∀ j', ∀ h : j' < l.length, j' < k + 1 → l[j'].1 ≠ (m1, m2)) := fun hne j' h hj' => by
                            by_cases e : j' = k
                            · subst e; rw [HLY.out]; exact hne
                            · exact HPF.out.2 j' h (by omega)
                          obtain ⟨f1, g1⟩ : ∃ e, (n1 == m1) = e := ⟨_, rfl⟩
                          obtain ⟨f2, g2⟩ : ∃ e, (n2 == m2) = e := ⟨_, rfl⟩
                          have HG : Hid ((f1 && f2) = decide (((n1, n2) : Lc) = (m1, m2))) := by
                            show _ = _
                            rw [← g1, ← g2, Bool.eq_iff_iff]; simp
                          cases f1
                          · go_wp2_with fail
                            go_quiet (fail)
                            go_wp2_with fail
                            go_roundw
                            case rel => exact ⟨k + 1, by omega, by go_num, _, rfl, .inr ⟨HPF.out.1, HNX.out (by simpa using HG.out)⟩, HI.out.1.trans ((below_drewN0 _ _).mono HI.out.1.size), HI.out.2.1.keep (below_drewN0 _ _), HI.out.2.2⟩
                            case measure => simp [intOf]; omega
                          · cases f2
                            · go_wp2_with fail
                              go_quiet (fail)
                              go_wp2_with fail
                              go_roundw
                              case rel => exact ⟨k + 1, by omega, by go_num, _, rfl, .inr ⟨HPF.out.1, HNX.out (by simpa using HG.out)⟩, HI.out.1.trans ((below_drewN0 _ _).mono HI.out.1.size), HI.out.2.1.keep (below_drewN0 _ _), HI.out.2.2⟩
                              case measure => simp [intOf]; omega
                            · go_wp2_with fail
                              go_quiet (fail)
                              go_wp2_with fail
                              go_roundw
                              case rel => exact ⟨k + 1, by omega, by go_num, true, rfl, .inl rfl, HI.out.1.trans ((below_drewN0 _ _).mono HI.out.1.size), HI.out.2.1.keep (below_drewN0 _ _), HI.out.2.2⟩
                              case measure => simp [intOf]; omega
                        · go_wp2_with fail
                          go_quiet (fail)
                          go_wp2_with fail
                          go_roundw
                          case rel => exact ⟨k + 1, by omega, by go_num, true, rfl, .inl rfl, HI.out.1.trans ((below_drewN0 _ _).mono HI.out.1.size), HI.out.2.1.keep (below_drewN0 _ _), HI.out.2.2⟩
                          case measure => simp [intOf]; omega
                      · obtain rfl : B = true := by
                          rcases HP.out with h | ⟨h1, h2⟩
                          · exact h
                          · exfalso
                            have := HDO.out.2 _ (List.getElem_mem hxf)
                            rw [HLX.out] at this
                            rcases this with h | h
                            · exact h1 h
                            · obtain ⟨y, hy, e⟩ := List.mem_map.1 h
                              obtain ⟨q, hq, rfl⟩ := List.getElem_of_mem hy
                              exact h2 q hq (by have := HN.out; omega) e
                        go_wp2_with fail
                        go_roundw
                        case rel => exact ⟨x + 1, by omega, by go_num, HI⟩
                        case measure => simp [intOf]; omega
                  · cases e2
                    · go_wp2_with fail
                      go_quiet (fail)
                      go_wp2_with fail
                      clear c0 c1 z0 z1 q1 q2
                      go_loopw [13, 14] (fun sv v wr => ∃ k : Nat, k ≤ j ∧ v = .int .i64 k ∧ ∃ B : Bool, sv = .bool B ∧ Hid (B = true ∨ (((m1, m2) : Lc) ≠ (t1, t2) ∧ ∀ j', ∀ h : j' < l.length, j' < k → l[j'].1 ≠ (m1, m2))) ∧ Hid (Below w.heap.size w wr ∧ OwnM wr w2.heap.size (.slice (some ⟨b, o, none⟩) i vc) i (ansP (t1, t2) l) ∧ wr.heap[w.heap.size]? = some (.cells #[.int .i64 t1, .int .i64 t2] 24 (0, 0)))) (fun _ v _ => j - (intOf v).toNat)
                      case atStart => exact ⟨0, by omega, rfl, _, rfl, .inr ⟨by simpa using HQ.out, fun j' _ h => by omega⟩, HI.out.1.trans ((below_drewN0 _ _).mono HI.out.1.size), HI.out.2.1.keep (below_drewN0 _ _), HI.out.2.2⟩
                      case round =>
                        clear HI
                        obtain ⟨k, hk, rfl, B, rfl, HP, HI⟩ := hrel
                        by_cases hkl : k < j
                        · have hkf : k < l.length := by have := HN.out; omega
                          cases B
                          · obtain ⟨b2, o2, rfl, hbl2, d0, d1, _, _⟩ := (HL.out.below HI.out.1 (Nat.le_refl _)).at hkf
                            obtain ⟨b3, o3, e3, hbl3, c0, c1, _, _⟩ := HI.out.2.1.mvsS.at hxf
                            cases e3
                            rw [HLX.out] at c0 c1
                            obtain ⟨y, hy⟩ : ∃ y, l[k] = y := ⟨_, rfl⟩
                            have HLY : Hid (l[k] = y) := hy
                            rw [hy] at d0 d1
                            clear hy
                            obtain ⟨⟨n1, n2⟩, n34⟩ := y
                            simp only at c0 c1 d0 d1
                            have HPF : Hid (((m1, m2) : Lc) ≠ (t1, t2) ∧ ∀ j', ∀ h : j' < l.length, j' < k → l[j'].1 ≠ (m1, m2)) := by
                              rcases HP.out with h | h
                              · cases h
                              · exact h
                            have HNX : Hid (¬ ((n1, n2) : Lc) = (m1, m2) → ∀ j', ∀ h : j' < l.length, j' < k + 1 → l[j'].1 ≠ (m1, m2)) := fun hne j' h hj' => by
                              by_cases e : j' = k
                              · subst e; rw [HLY.out]; exact hne
                              · exact HPF.out.2 j' h (by omega)
                            obtain ⟨f1, g1⟩ : ∃ e, (n1 == m1) = e := ⟨_, rfl⟩
                            obtain ⟨f2, g2⟩ : ∃ e, (n2 == m2) = e := ⟨_, rfl⟩
                            have HG : Hid ((f1 && f2) = decide (((n1, n2) : Lc) = (m1, m2))) := by
                              show _ = _
                              rw [← g1, ← g2, Bool.eq_iff_iff]; simp
                            cases f1
                            · go_wp2_with fail
                              go_quiet (fail)
                              go_wp2_with fail
                              go_roundw
                              case rel => exact ⟨k + 1, by omega, by go_num, _, rfl, .inr ⟨HPF.out.1, HNX.out (by simpa using HG.out)⟩, HI.out.1.trans ((below_drewN0 _ _).mono HI.out.1.size), HI.out.2.1.keep (below_drewN0 _ _), HI.out.2.2⟩
                              case measure => simp [intOf]; omega
                            · cases f2
                              · go_wp2_with fail
                                go_quiet (fail)
                                go_wp2_with fail
                                go_roundw
                                case rel => exact ⟨k + 1, by omega, by go_num, _, rfl, .inr ⟨HPF.out.1, HNX.out (by simpa using HG.out)⟩, HI.out.1.trans ((below_drewN0 _ _).mono HI.out.1.size), HI.out.2.1.keep (below_drewN0 _ _), HI.out.2.2⟩
                                case measure => simp [intOf]; omega
                              · go_wp2_with fail
                                go_quiet (fail)
                                go_wp2_with fail
                                go_roundw
                                case rel => exact ⟨k + 1, by omega, by go_num, true, rfl, .inl rfl, HI.out.1.trans ((below_drewN0 _ _).mono HI.out.1.size), HI.out.2.1.keep (below_drewN0 _ _), HI.out.2.2⟩
                                case measure => simp [intOf]; omega
                          · go_wp2_with fail
                            go_quiet (fail)
                            go_wp2_with fail
                            go_roundw
                            case rel => exact ⟨k + 1, by omega, by go_num, true, rfl, .inl rfl, HI.out.1.trans ((below_drewN0 _ _).mono HI.out.1.size), HI.out.2.1.keep (below_drewN0 _ _), HI.out.2.2⟩
                            case measure => simp [intOf]; omega
                        · obtain rfl : B = true := by
                            rcases HP.out with h | ⟨h1, h2⟩
                            · exact h
                            · exfalso
                              have := HDO.out.2 _ (List.getElem_mem hxf)
                              rw [HLX.out] at this
                              rcases this with h | h
                              · exact h1 h
                              · obtain ⟨y, hy, e⟩ := List.mem_map.1 h
                                obtain ⟨q, hq, rfl⟩ := List.getElem_of_mem hy
                                exact h2 q hq (by have := HN.out; omega) e
                          go_wp2_with fail
                          go_roundw
                          case rel => exact ⟨x + 1, by omega, by go_num, HI⟩
                          case measure => simp [intOf]; omega
                    · go_wp2_with fail
                      go_quiet (fail)
                      go_wp2_with fail
                      clear c0 c1 z0 z1 q1 q2
                      go_loopw [13, 14] (fun sv v wr => ∃ k : Nat, k ≤ j ∧ v = .int .i64 k ∧ ∃ B : Bool, sv = .bool B ∧ Hid (B = true ∨ (((m1, m2) : Lc) ≠ (t1, t2) ∧ ∀ j', ∀ h : j' < l.length, j' < k → l[j'].1 ≠ (m1, m2))) ∧ Hid (Below w.heap.size w wr ∧ OwnM wr w2.heap.size (.slice (some ⟨b, o, none⟩) i vc) i (ansP (t1, t2) l) ∧ wr.heap[w.heap.size]? = some (.cells #[.int .i64 t1, .int .i64 t2] 24 (0, 0)))) (fun _ v _ => j - (intOf v).toNat)
                      case atStart => exact ⟨0, by omega, rfl, _, rfl, .inl rfl, HI.out.1.trans ((below_drewN0 _ _).mono HI.out.1.size), HI.out.2.1.keep (below_drewN0 _ _), HI.out.2.2⟩
                      case round =>
                        clear HI
                        obtain ⟨k, hk, rfl, B, rfl, HP, HI⟩ := hrel
                        by_cases hkl : k < j
                        · have hkf : k < l.length := by have := HN.out; omega
                          cases B
                          · obtain ⟨b2, o2, rfl, hbl2, d0, d1, _, _⟩ := (HL.out.below HI.out.1 (Nat.le_refl _)).at hkf
                            obtain ⟨b3, o3, e3, hbl3, c0, c1, _, _⟩ := HI.out.2.1.mvsS.at hxf
                            cases e3
                            rw [HLX.out] at c0 c1
                            obtain ⟨y, hy⟩ : ∃ y, l[k] = y := ⟨_, rfl⟩
                            have HLY : Hid (l[k] = y) := hy
                            rw [hy] at d0 d1
                            clear hy
                            obtain ⟨⟨n1, n2⟩, n34⟩ := y
                            simp only at c0 c1 d0 d1
                            have HPF : Hid (((m1, m2) : Lc) ≠ (t1, t2) ∧ ∀ j', ∀ h : j' < l.length, j' < k → l[j'].1 ≠ (m1, m2)) := by
                              rcases HP.out with h | h
                              · cases h
                              · exact h
                            have HNX : Hid (¬ ((n1, n2) : Lc) = (m1, m2) → ∀ j', ∀ h : j' < l.length, j' < k + 1 → l[j'].1 ≠ (m1, m2)) := fun hne j' h hj' => by
                              by_cases e : j' = k
                              · subst e; rw [HLY.out]; exact hne
                              · exact HPF.out.2 j' h (by omega)
                            obtain ⟨f1, g1⟩ : ∃ e, (n1 == m1) = e := ⟨_, rfl⟩
                            obtain ⟨f2, g2⟩ : ∃ e, (n2 == m2) = e := ⟨_, rfl⟩
                            have HG : Hid ((f1 && f2) = decide (((n1, n2) : Lc) = (m1, m2))) := by
                              show _ = _
                              rw [← g1, ← g2, Bool.eq_iff_iff]; simp
                            cases f1
                            · go_wp2_with fail
                              go_quiet (fail)
                              go_wp2_with fail
                              go_roundw
                              case rel => exact ⟨k + 1, by omega, by go_num, _, rfl, .inr ⟨HPF.out.1, HNX.out (by simpa using HG.out)⟩, HI.out.1.trans ((below_drewN0 _ _).mono HI.out.1.size), HI.out.2.1.keep (below_drewN0 _ _), HI.out.2.2⟩
                              case measure => simp [intOf]; omega
                            · cases f2
                              · go_wp2_with fail
                                go_quiet (fail)
                                go_wp2_with fail
                                go_roundw
                                case rel => exact ⟨k + 1, by omega, by go_num, _, rfl, .inr ⟨HPF.out.1, HNX.out (by simpa using HG.out)⟩, HI.out.1.trans ((below_drewN0 _ _).mono HI.out.1.size), HI.out.2.1.keep (below_drewN0 _ _), HI.out.2.2⟩
                                case measure => simp [intOf]; omega
                              · go_wp2_with fail
                                go_quiet (fail)
                                go_wp2_with fail
                                go_roundw
                                case rel => exact ⟨k + 1, by omega, by go_num, true, rfl, .inl rfl, HI.out.1.trans ((below_drewN0 _ _).mono HI.out.1.size), HI.out.2.1.keep (below_drewN0 _ _), HI.out.2.2⟩
                                case measure => simp [intOf]; omega
                          · go_wp2_with fail
                            go_quiet (fail)
                            go_wp2_with fail
                            go_roundw
                            case rel => exact ⟨k + 1, by omega, by go_num, true, rfl, .inl rfl, HI.out.1.trans ((below_drewN0 _ _).mono HI.out.1.size), HI.out.2.1.keep (below_drewN0 _ _), HI.out.2.2⟩
                            case measure => simp [intOf]; omega
                        · obtain rfl : B = true := by
                            rcases HP.out with h | ⟨h1, h2⟩
                            · exact h
                            · exfalso
                              have := HDO.out.2 _ (List.getElem_mem hxf)
                              rw [HLX.out] at this
                              rcases this with h | h
                              · exact h1 h
                              · obtain ⟨y, hy, e⟩ := List.mem_map.1 h
                                obtain ⟨q, hq, rfl⟩ := List.getElem_of_mem hy
                                exact h2 q hq (by have := HN.out; omega) e
                          go_wp2_with fail
                          go_roundw
                          case rel => exact ⟨x + 1, by omega, by go_num, HI⟩
                          case measure => simp [intOf]; omega
                · obtain rfl : x = i := by omega
                  go_wp2_with fail
                  go_ret
                  exact ⟨rfl, HI.out.1⟩
  · have hd : decide ((300 : Int) < (ln : Int)) = true := by simp; omega
    go_enter Try.func4, Try.ntmps4
    subst hwt
    go_wp2_with (first
      | (go_at_call 8; refine HAL.out.mono ?_; rintro e w1 ⟨rfl, hb1⟩; have HB1 : Hid _ := hb1; clear hb1))
    go_ret
    exact ⟨rfl, HB0.out.trans (HB1.out.mono (Nat.le_of_lt HLT.out))⟩
end Go.Proofs.Ytdoiblknbpbhaaa
