import Derived.Test.YtdoiblknbpbhaaaMvN
set_option linter.unusedVariables false
set_option linter.unusedSimpArgs false
namespace Go.Proofs.Ytdoiblknbpbhaaa
open Go.ChangeShapes Go.WideShapes Go.ChangeAt Go.RowKit Go.Maps

theorem OwnM.gi {B B' w0 w' v v' u m L} (h : OwnM w0 B' u m L) (g : GI B w0 w' v v') (hne : ∀ b, u.ownBlock = some b → v.ownBlock ≠ some b) : OwnM w' B' u m L :=
  ⟨h.len, h.fit, own_move h.out fun b hb => g.blk b (own_block h.out hb).2 (hne b hb)⟩
theorem fz_own {w : World} {B g c n : Nat} {e : TypeId} {z : Nat} {M : List Value} (h : w.ownsRow B e z (.slice (some ⟨g, 0, none⟩) n c) n M) (i : Nat) : w.frozen? ⟨g, i, none⟩ = false := by
  rcases h.2 with ⟨e, _⟩ | ⟨g', cap, cur, e, e2, e3, _⟩
  · cases e
  · cases e
    exact fz_of e3
/-- The document's Order on its way. -/
structure DO (t : Lc) (w wr : World) (lv ov : Value) (l left out : List Mv) : Prop where
  lf : OwnM wr w.heap.size lv left.length left
  ou : OwnM wr w.heap.size ov out.length out
  ne : ∀ g, lv.ownBlock = some g → ov.ownBlock ≠ some g
  d : ∃ n, dn t n (lft l, []) = (left, out)
  gd : Gd t left
  tb : wr.heap[w.heap.size]? = some (.cells #[.int .i64 t.1, .int .i64 t.2] 24 (0, 0))
  bel : Below w.heap.size w wr
  o : out.length + mu t left ≤ 3 * l.length
theorem DO.keep {t w wr w' lv ov l left out} (H : DO t w wr lv ov l left out) (hb : Below wr.heap.size wr w') : DO t w w' lv ov l left out :=
  ⟨H.lf.keep hb, H.ou.keep hb, H.ne, H.d, H.gd, (hb.block _ (Array.getElem?_eq_some_iff.1 H.tb).1).trans H.tb, H.bel.trans (hb.mono H.bel.size), H.o⟩
theorem DO.bound {t w wr lv ov l left out} (H : DO t w wr lv ov l left out) {left' out' : List Mv} (hne : left ≠ []) (hd : ds t (left, out) = (left', out')) (ho : out'.length = out.length + 1) : (∃ n, dn t n (lft l, []) = (left', out')) ∧ Gd t left' ∧ mu t left' < mu t left ∧ out'.length + mu t left' ≤ 3 * l.length := by
  obtain ⟨n, hn⟩ := H.d
  obtain ⟨h1, h2⟩ := ds_less (out := out) H.gd hne
  rw [hd] at h1 h2
  have := H.o
  exact ⟨⟨n + 1, (dn_step hn).trans hd⟩, h1, h2, by simp only at h2; omega⟩
/-- The row of what was put has grown. -/
structure DP (t : Lc) (w w7 : World) (lv v7 : Value) (left out' : List Mv) : Prop where
  lf : OwnM w7 w.heap.size lv left.length left
  ou : OwnM w7 w.heap.size v7 out'.length out'
  ne : ∀ g, lv.ownBlock = some g → v7.ownBlock ≠ some g
  tb : w7.heap[w.heap.size]? = some (.cells #[.int .i64 t.1, .int .i64 t.2] 24 (0, 0))
  bel : Below w.heap.size w w7
theorem DP.keep {t w wr w' lv ov left out} (H : DP t w wr lv ov left out) (hb : Below wr.heap.size wr w') : DP t w w' lv ov left out :=
  ⟨H.lf.keep hb, H.ou.keep hb, H.ne, (hb.block _ (Array.getElem?_eq_some_iff.1 H.tb).1).trans H.tb, H.bel.trans (hb.mono H.bel.size)⟩
theorem DO.grow {t w wr W w7 lv ov v7 l left out} {m : Mv} (H : DO t w wr lv ov l left out) (hb : Below wr.heap.size wr W) (h7 : OwnM w7 w.heap.size v7 (out.length + 1) (out ++ [m])) (g7 : GI w.heap.size W w7 ov v7) : DP t w w7 lv v7 left (out ++ [m]) := by
  have H1 := H.keep hb
  refine ⟨H1.lf.gi g7 H.ne, by simpa using h7, fun g hg e => ?_, ?_, H1.bel.trans g7.bel⟩
  · rcases g7.own g e with h | h
    · exact H.ne g hg h
    · have := (own_block H1.lf.out hg).2; omega
  · exact (g7.blk _ (Array.getElem?_eq_some_iff.1 H1.tb).1 (own_not H1.ou.out H1.tb (by decide))).trans H1.tb
theorem DP.setFrom {t w w7 g n c v7 m r out'} (H : DP t w w7 (.slice (some ⟨g, 0, none⟩) n c) v7 (m :: r) out') (hn : n = r.length + 1) (ht : FitL t) : DP t w ((w7.setCell ⟨g, 2, none⟩ (.int .i64 t.1)).setCell ⟨g, 3, none⟩ (.int .i64 t.2)) (.slice (some ⟨g, 0, none⟩) n c) v7 ((m.1, t) :: r) out' := by
  have hlf := H.lf
  rw [show (m :: r).length = n by simp; omega] at hlf
  have hk : ∀ g', g' ≠ g → ((w7.setCell ⟨g, 2, none⟩ (.int .i64 t.1)).setCell ⟨g, 3, none⟩ (.int .i64 t.2)).heap[g']? = w7.heap[g']? := fun g' h => (heap_set_other h).trans (heap_set_other h)
  have hgB := (own_block hlf.out (g := g) rfl).1
  have htg : w.heap.size ≠ g := fun e => own_not hlf.out H.tb (by decide) (by rw [e]; rfl)
  refine ⟨by rw [show ((m.1, t) :: r).length = n by simp; omega]; exact hlf.setFrom ht, H.ou.move fun g' hg' => hk g' (fun e => H.ne g rfl (by rw [← e]; exact hg')), H.ne, (hk _ htg).trans H.tb, ?_⟩
  exact (H.bel.setCell hgB _).setCell hgB _
theorem DP.cut {t w w7 w8 ga n c k v7 v8 left out'} (H : DP t w w7 (.slice ga n c) v7 left out') (h8 : OwnM w8 w.heap.size v8 (left.eraseIdx k).length (left.eraseIdx k)) (g8 : GI w.heap.size w7 w8 (.slice ga k c) v8) : DP t w w8 v8 v7 (left.eraseIdx k) out' := by
  have e1 : (Value.slice ga k c).ownBlock = (Value.slice ga n c).ownBlock := by cases ga <;> rfl
  refine ⟨h8, H.ou.gi g8 fun b hb e => H.ne b (by rw [← e1]; exact e) hb, fun g hg e => ?_, ?_, H.bel.trans g8.bel⟩
  · rcases g8.own g hg with h | h
    · exact H.ne g (by rw [← e1]; exact h) e
    · have := (own_block H.ou.out e).2; omega
  · exact (g8.blk _ (Array.getElem?_eq_some_iff.1 H.tb).1 (by rw [e1]; exact own_not H.lf.out H.tb (by decide))).trans H.tb
theorem DP.done {t w wr w7 lv ov lv' v7 l left out left' out'} (H : DO t w wr lv ov l left out) (P : DP t w w7 lv' v7 left' out') (hne : left ≠ []) (hd : ds t (left, out) = (left', out')) (ho : out'.length = out.length + 1) : DO t w w7 lv' v7 l left' out' ∧ mu t left' < mu t left := by
  obtain ⟨h1, h2, h3, h4⟩ := H.bound hne hd ho
  exact ⟨⟨P.lf, P.ou, P.ne, h1, h2, P.tb, P.bel, h4⟩, h3⟩
set_option maxRecDepth 100000 in
set_option maxHeartbeats 8000000 in
theorem refOrder_of (w : World) {la : Option Addr} {ln lc : Nat} {l : List Mv} (hL : Mvs w la lc l) (hn : ln = l.length) (hsz : ln ≤ 1000000) (t : Lc) (hft : FitL t)
    (hrf : ∀ w', Below w.heap.size w w' → Calls Try.prog 26 #[.slice la ln lc, .agg #[.int .i64 t.1, .int .i64 t.2]] w' fun e w'' => e = .returned (.int .i64 (errP t l)) ∧ Below w'.heap.size w' w'') :
    Calls Try.prog 12 #[.slice la ln lc, .agg #[.int .i64 t.1, .int .i64 t.2]] w fun e w' => ∃ v, e = .returned (.tuple #[v, .int .i64 (errP t l)]) ∧ OwnM w' w.heap.size v (ansP t l).length (ansP t l) ∧ Below w.heap.size w w' := by
  obtain ⟨t1, t2⟩ := t
  simp only at hrf
  have hmx : ln ≤ 9223372036854775807 := by omega
  have HL : Hid (Mvs w la lc l) := hL
  have HN : Hid (ln = l.length) := hn
  have HFT : Hid (FitL (t1, t2)) := hft
  obtain ⟨wt, hwt⟩ : ∃ W, W = w.alloc (.cells #[.int .i64 t1, .int .i64 t2] 24) := ⟨_, rfl⟩
  have HB0 : Hid (Below w.heap.size w wt) := by rw [hwt]; exact below_new _ _
  have HT0 : Hid (wt.heap[w.heap.size]? = some (.cells #[.int .i64 t1, .int .i64 t2] 24 (0, 0))) := by rw [hwt]; exact heap_alloc_new _ _
  have HRF : Hid (Calls Try.prog 26 #[.slice la ln lc, .agg #[.int .i64 t1, .int .i64 t2]] wt fun e w'' => e = .returned (.int .i64 (errP (t1, t2) l)) ∧ Below wt.heap.size wt w'') := hrf wt HB0.out
  have HLW : Hid (w.heap.size < wt.heap.size) := by rw [hwt]; show _ < _; simp
  clear hL hn hft hrf
  simp only
  by_cases hE : errP (t1, t2) l = 0
  · have hpl : placedP (t1, t2) l = true ∧ (l.map Prod.fst).Nodup := by
      unfold errP at hE
      by_cases h1 : placedP (t1, t2) l = true
      · rw [if_pos h1] at hE
        by_cases h2 : (l.map Prod.fst).Nodup
        · exact ⟨h1, h2⟩
        · rw [if_neg h2] at hE; omega
      · rw [if_neg h1] at hE; omega
    have HGD : Hid (Gd (t1, t2) l) := ⟨hpl.2, placed_ne hpl.1⟩
    have HAN : Hid (ansP (t1, t2) l = ord (t1, t2) l) := by show ansP _ _ = _; unfold ansP; rw [if_pos hpl.1, if_pos hpl.2]
    rw [hE] at HRF ⊢
    clear hE hpl
    go_enter Try.func12, Try.ntmps12
    subst hwt
    go_wp2_with (first | (go_at_call 26; refine HRF.out.mono ?_; rintro e w1 ⟨rfl, hb1⟩; have HB1 : Hid _ := hb1; clear hb1))
    have HW1 : Hid (Below w.heap.size w w1) := HB0.out.trans (HB1.out.mono (Nat.le_of_lt HLW.out))
    have HT1 : Hid (w1.heap[w.heap.size]? = some (.cells #[.int .i64 t1, .int .i64 t2] 24 (0, 0))) := (HB1.out.block _ HLW.out).trans HT0.out
    clear HB1 HB0 HT0 HRF HLW
    go_loopw [7, 8] (fun lv v wr => ∃ k : Nat, k ≤ ln ∧ v = .int .i64 k ∧ Hid (OwnM wr w.heap.size lv (lft (l.take k)).length (lft (l.take k)) ∧ Below w.heap.size w wr ∧ wr.heap[w.heap.size]? = some (.cells #[.int .i64 t1, .int .i64 t2] 24 (0, 0)))) (fun _ v _ => ln - (intOf v).toNat)
    case atStart => exact ⟨0, by omega, rfl, OwnM.nil _ _, HW1.out, HT1.out⟩
    case round =>
      clear HW1 HT1
      obtain ⟨k, hk, rfl, HI⟩ := hrel
      by_cases hlt : k < ln
      · have hkf : k < l.length := by have := HN.out; omega
        obtain ⟨b, o, rfl, hbl, c0, c1, c2, c3⟩ := (HL.out.below HI.out.2.1 (Nat.le_refl _)).at hkf
        obtain ⟨m, hmi⟩ : ∃ m, l[k] = m := ⟨_, rfl⟩
        have HLK : Hid (l[k] = m) := hmi
        have hfm := HL.out.fit _ (List.getElem_mem hkf)
        rw [hmi] at c0 c1 c2 c3 hfm
        clear hmi
        obtain ⟨⟨m1, m2⟩, ⟨m3, m4⟩⟩ := m
        simp only at c0 c1 c2 c3
        have HFM : Hid (FitM ((m1, m2), (m3, m4))) := hfm
        have hfl := lft_take_le l k
        obtain ⟨oa, oc, rfl, _, _⟩ := own_slice HI.out.1.out
        have S0 : (fun w' : World => Below wr.heap.size wr w' ∧ w'.cell? ⟨b, o + k * 4, none⟩ = some (.int .i64 m1) ∧ w'.cell? ⟨b, o + k * 4 + 1, none⟩ = some (.int .i64 m2) ∧ w'.cell? ⟨b, o + k * 4 + 2, none⟩ = some (.int .i64 m3) ∧ w'.cell? ⟨b, o + k * 4 + 3, none⟩ = some (.int .i64 m4)) wr.drew := ⟨(Below.refl _ _).drew, c0, c1, c2, c3⟩
        have HSA : Hid (∀ w', (fun w' : World => Below wr.heap.size wr w' ∧ w'.cell? ⟨b, o + k * 4, none⟩ = some (.int .i64 m1) ∧ w'.cell? ⟨b, o + k * 4 + 1, none⟩ = some (.int .i64 m2) ∧ w'.cell? ⟨b, o + k * 4 + 2, none⟩ = some (.int .i64 m3) ∧ w'.cell? ⟨b, o + k * 4 + 3, none⟩ = some (.int .i64 m4)) w' → Calls Try.prog 27 #[.agg #[.int .i64 m3, .int .i64 m4], .agg #[.int .i64 m1, .int .i64 m2]] w' fun e w'' => e = .returned (.bool (decide (((m3, m4) : Lc) = (m1, m2)))) ∧ (fun w' : World => Below wr.heap.size wr w' ∧ w'.cell? ⟨b, o + k * 4, none⟩ = some (.int .i64 m1) ∧ w'.cell? ⟨b, o + k * 4 + 1, none⟩ = some (.int .i64 m2) ∧ w'.cell? ⟨b, o + k * 4 + 2, none⟩ = some (.int .i64 m3) ∧ w'.cell? ⟨b, o + k * 4 + 3, none⟩ = some (.int .i64 m4)) w'') := fun w' hs => by
          refine (same_any w' (m3, m4) (m1, m2)).mono ?_
          rintro e w'' ⟨rfl, hb⟩
          exact ⟨rfl, hs.1.trans (hb.mono hs.1.size), (hb.cell (p := ⟨b, o + k * 4, none⟩) (Nat.lt_of_lt_of_le hbl hs.1.size)).trans hs.2.1, (hb.cell (p := ⟨b, o + k * 4 + 1, none⟩) (Nat.lt_of_lt_of_le hbl hs.1.size)).trans hs.2.2.1, (hb.cell (p := ⟨b, o + k * 4 + 2, none⟩) (Nat.lt_of_lt_of_le hbl hs.1.size)).trans hs.2.2.2.1, (hb.cell (p := ⟨b, o + k * 4 + 3, none⟩) (Nat.lt_of_lt_of_le hbl hs.1.size)).trans hs.2.2.2.2⟩
        have HLT : Hid (lft (l.take (k + 1)) = lft (l.take k) ++ (if stays ((m1, m2), (m3, m4)) = true then [] else [((m1, m2), (m3, m4))])) := by show _ = _; rw [lft_take hkf, HLK.out]
        by_cases he : ((m3, m4) : Lc) = (m1, m2)
        · have hd : decide (((m3, m4) : Lc) = (m1, m2)) = true := by simpa using he
          have HST : Hid (stays ((m1, m2), (m3, m4)) = true) := by show ((m3, m4) == (m1, m2)) = true; simpa using he
          rw [hd] at HSA
          clear he hd c0 c1 c2 c3
          go_wp2_with fail
          go_region_held (fun w' : World => Below wr.heap.size wr w' ∧ w'.cell? ⟨b, o + k * 4, none⟩ = some (.int .i64 m1) ∧ w'.cell? ⟨b, o + k * 4 + 1, none⟩ = some (.int .i64 m2) ∧ w'.cell? ⟨b, o + k * 4 + 2, none⟩ = some (.int .i64 m3) ∧ w'.cell? ⟨b, o + k * 4 + 3, none⟩ = some (.int .i64 m4)) (first | exact S0 | exact S1) (first | (go_at_call 27; refine (HSA.out _ S0).mono ?_; rintro e w1 ⟨rfl, S1⟩))
          go_wp2_with fail
          go_roundw
          case rel =>
            refine ⟨k + 1, by omega, by go_num, ?_⟩
            rw [HLT.out, HST.out, if_pos rfl, List.append_nil]
            exact ⟨HI.out.1.keep S1.1, HI.out.2.1.trans (S1.1.mono HI.out.2.1.size), (S1.1.block _ (Array.getElem?_eq_some_iff.1 HI.out.2.2).1).trans HI.out.2.2⟩
          case measure => simp [intOf]; omega
        · have hd : decide (((m3, m4) : Lc) = (m1, m2)) = false := by simpa using he
          have HST : Hid (¬ stays ((m1, m2), (m3, m4)) = true) := by show ¬ ((m3, m4) == (m1, m2)) = true; simpa using he
          rw [hd] at HSA
          clear he hd c0 c1 c2 c3
          go_wp2_with fail
          go_region_held (fun w' : World => Below wr.heap.size wr w' ∧ w'.cell? ⟨b, o + k * 4, none⟩ = some (.int .i64 m1) ∧ w'.cell? ⟨b, o + k * 4 + 1, none⟩ = some (.int .i64 m2) ∧ w'.cell? ⟨b, o + k * 4 + 2, none⟩ = some (.int .i64 m3) ∧ w'.cell? ⟨b, o + k * 4 + 3, none⟩ = some (.int .i64 m4)) (first | exact S0 | exact S1) (first | (go_at_call 27; refine (HSA.out _ S0).mono ?_; rintro e w1 ⟨rfl, S1⟩))
          obtain ⟨hb1, c0, c1, c2, c3⟩ := S1
          have HB1 : Hid (Below wr.heap.size wr w1) := hb1
          have HO1 : Hid (OwnM w1 w.heap.size (.slice oa (lft (l.take k)).length oc) (lft (l.take k)).length (lft (l.take k))) := HI.out.1.keep hb1
          have HS1 : Hid (w.heap.size ≤ w1.heap.size) := by have := hb1.size; have := HI.out.2.1.size; show _ ≤ _; omega
          clear hb1
          go_wp2_with (first
            | (at_builtin; refine wpList_append_mv rfl _ _ rfl w.heap.size (.slice oa (lft (l.take k)).length oc) _ (lft (l.take k)) m1 m2 m3 m4 rfl HO1.out HFM.out rfl (by omega) HS1.out ?_; intro v2 w2 h2 g2
               have HO2 : Hid _ := h2
               have HG2 : Hid _ := g2
               clear h2 g2))
          go_roundw
          case rel =>
            refine ⟨k + 1, by omega, by go_num, ?_⟩
            rw [HLT.out, if_neg HST.out]
            have hB := HI.out.2.1.trans (HB1.out.mono HI.out.2.1.size)
            have htb := (HB1.out.block _ (Array.getElem?_eq_some_iff.1 HI.out.2.2).1).trans HI.out.2.2
            refine ⟨by simpa using HO2.out, hB.trans HG2.out.bel, (HG2.out.blk _ (Array.getElem?_eq_some_iff.1 htb).1 (own_not HO1.out.out htb (by decide))).trans htb⟩
          case measure => simp [intOf]; omega
      · obtain rfl : k = ln := by omega
        obtain ⟨lv0, hlv0⟩ : ∃ v, v = u7 := ⟨_, rfl⟩
        have HD0 : Hid (DO (t1, t2) w wr u7 (.slice none 0 0) l (lft l) []) := by
          have h1 := HI.out.1
          rw [HN.out, List.take_length] at h1
          have h2 := mu_le (t1, t2) (lft l)
          have h3 := List.length_filter_le (fun m => !stays m) l
          exact ⟨h1, OwnM.nil _ _, fun g _ => by simp [Value.ownBlock], ⟨0, rfl⟩, HGD.out.lft, HI.out.2.2, HI.out.2.1, by unfold lft at h2 ⊢; simp at h2 ⊢; omega⟩
        clear HI hlv0
        go_wp2_with fail
        go_loopg [7, 9] (mu (t1, t2) (lft l)) (fun G lv ov wr => ∃ left out, G = mu (t1, t2) left ∧ Hid (DO (t1, t2) w wr lv ov l left out))
        case atStart => exact ⟨lft l, [], rfl, HD0⟩
        case round =>
          clear HD0
          obtain ⟨left, out, rfl, HD⟩ := hrel
          obtain ⟨ga, gc, rfl, hgc1, hgc2⟩ := own_slice HD.out.lf.out
          obtain ⟨oa, oc, rfl, _, _⟩ := own_slice HD.out.ou.out
          by_cases hl0 : left = []
          · subst hl0
            go_wp2_with fail
            go_ret2
            have hor : out = ord (t1, t2) l := by
              obtain ⟨n, hn⟩ := HD.out.d
              exact ord_of HGD.out hn
            refine ⟨_, rfl, ?_, HD.out.bel⟩
            rw [HAN.out, ← hor]
            exact HD.out.ou
          · have hlp : 0 < left.length := List.length_pos_iff.2 hl0
            have HLP : Hid (left ≠ []) := hl0
            have hll : left.length ≤ 3000000 := by have h1 := HD.out.o; have h2 := HN.out; unfold mu at h1; omega
            obtain ⟨g, c', e, _, _, hgB, hglt⟩ := own_some HD.out.lf.out hlp
            cases e
            clear hl0
            go_wp2_with fail
            go_loopw [10] (fun v wr => ∃ q : Nat, q ≤ left.length ∧ v = .int .i64 q ∧ Hid (∀ j, ∀ hj : j < left.length, j < q → rd left left[j].1 = true) ∧ Hid (DO (t1, t2) w wr (.slice (some ⟨g, 0, none⟩) left.length gc) (.slice oa out.length oc) l left out)) (fun v _ => left.length - (intOf v).toNat)
            case atStart => exact ⟨0, by omega, rfl, fun j _ h => by omega, HD⟩
            case round =>
              clear HD hglt
              obtain ⟨q, hq, rfl, HJ, HD⟩ := hrel
              obtain ⟨ao2, c2, e2, hM2⟩ := HD.out.lf.mvs
              cases e2
              have HM2 : Hid (Mvs wr (some ⟨g, 0, none⟩) gc left) := hM2
              have hglt := (own_block HD.out.lf.out (g := g) rfl).2
              by_cases hql : q < left.length
              · obtain ⟨b2, o2, e2, _, d0, d1, d2, d3⟩ := hM2.at hql
                cases e2
                obtain ⟨m, hmi⟩ : ∃ m, left[q] = m := ⟨_, rfl⟩
                have HLQ : Hid (left[q] = m) := hmi
                have hfm := HM2.out.fit _ (List.getElem_mem hql)
                rw [hmi] at d0 d1 d2 d3 hfm
                clear hmi
                obtain ⟨⟨m1, m2⟩, ⟨m3, m4⟩⟩ := m
                simp only [Nat.zero_add] at d0 d1 d2 d3
                have HFM : Hid (FitM ((m1, m2), (m3, m4))) := hfm
                have HRD : Hid (Calls Try.prog 28 #[.slice (some ⟨g, 0, none⟩) left.length gc, .agg #[.int .i64 m1, .int .i64 m2]] wr fun e w' => e = .returned (.bool (rd left (m1, m2))) ∧ Below wr.heap.size wr w') := read_any wr hM2 rfl (m1, m2)
                clear hM2 hfm
                by_cases hrd : rd left (m1, m2) = true
                · rw [hrd] at HRD
                  have HR1 : Hid (rd left (m1, m2) = true) := hrd
                  clear hrd
                  go_wp2_with (first | (go_at_call 28; refine HRD.out.mono ?_; rintro e w1 ⟨rfl, hb1⟩; have HB1 : Hid _ := hb1; clear hb1))
                  go_roundw
                  case rel =>
                    refine ⟨q + 1, by omega, by go_num, fun j hj hjq => ?_, HD.out.keep HB1.out⟩
                    by_cases e : j = q
                    · subst e; rw [HLQ.out]; exact HR1.out
                    · exact HJ.out j hj (by omega)
                  case measure => simp [intOf]; omega
                · have hrd' : rd left (m1, m2) = false := by simpa using hrd
                  rw [hrd'] at HRD
                  have HR1 : Hid (rd left (m1, m2) = false) := hrd'
                  clear hrd hrd'
                  have HDS : Hid (ds (t1, t2) (left, out) = (left.eraseIdx q, out ++ [((m1, m2), (m3, m4))])) := by
                    have h1 : left = left.take q ++ ((m1, m2), (m3, m4)) :: left.drop (q + 1) := by rw [← HLQ.out]; exact split_at hql
                    have h2 : left.eraseIdx q = left.take q ++ left.drop (q + 1) := List.eraseIdx_eq_take_drop_succ left q
                    show _ = _
                    rw [h2]
                    conv => lhs; rw [h1]
                    refine ds_put (fun x hx => ?_) ?_
                    · rw [← h1]
                      obtain ⟨j, hj, e⟩ := List.getElem_of_mem hx
                      rw [List.length_take] at hj
                      rw [List.getElem_take] at e
                      have := HJ.out j (by omega) (by omega)
                      rw [← e]
                      simp [fre, this]
                    · rw [← h1]
                      have := HR1.out
                      simp [fre, this]
                  go_wp2_with (first
                    | (go_at_call 28; refine HRD.out.mono ?_; rintro e w1 ⟨rfl, hb1⟩
                       have HB1 : Hid (Below wr.heap.size wr w1) := hb1
                       have f0 := (hb1.cell (p := ⟨g, q * 4, none⟩) hglt).trans d0
                       have f1 := (hb1.cell (p := ⟨g, q * 4 + 1, none⟩) hglt).trans d1
                       have f2 := (hb1.cell (p := ⟨g, q * 4 + 2, none⟩) hglt).trans d2
                       have f3 := (hb1.cell (p := ⟨g, q * 4 + 3, none⟩) hglt).trans d3
                       have HOW : Hid (OwnM w1 w.heap.size (.slice oa out.length oc) out.length out) := HD.out.ou.keep hb1
                       have HOL : Hid (out.length ≤ 10000000) := by have h1 := HD.out.o; have h2 := HN.out; show _ ≤ _; omega
                       have HBS : Hid (w.heap.size ≤ w1.heap.size) := by have := hb1.size; have := HD.out.bel.size; show _ ≤ _; omega
                       clear hb1)
                    | (at_builtin; refine wpList_append_mv rfl _ _ rfl w.heap.size (.slice oa out.length oc) out.length out m1 m2 m3 m4 rfl HOW.out HFM.out rfl (by have := HOL.out; omega) HBS.out ?_; intro v7 w7 h7 g7
                       have HP7 : Hid (DP (t1, t2) w w7 (.slice (some ⟨g, 0, none⟩) left.length gc) v7 left (out ++ [((m1, m2), (m3, m4))])) := HD.out.grow HB1.out h7 g7
                       clear h7 g7))
                  obtain ⟨ao7, c7, e7, hM7⟩ := HP7.out.lf.mvs
                  cases e7
                  obtain ⟨xo, hxo, hMx⟩ := (hM7.below (w' := w7.drew) (below_drewN0 w7 1) (Nat.le_refl _)).drop (q + 1) (by omega)
                  have hox : OwnM w7.drew w.heap.size (.slice (some ⟨g, 0, none⟩) q gc) q (left.take q) := (HP7.out.lf.keep (below_drewN0 w7 1)).cut (by omega)
                  have HMX : Hid (Mvs w7.drew xo (gc - (q + 1)) (left.drop (q + 1))) := hMx
                  have HOX : Hid _ := hox
                  have hxo2 : (if gc = q + 1 then some (⟨g, 0, none⟩ : Addr) else some ⟨g, (q + 1) * 4, none⟩) = xo := by rw [← hxo]; simp [add_none]
                  have HXO : Hid ((if gc = q + 1 then some (⟨g, 0, none⟩ : Addr) else some ⟨g, (q + 1) * 4, none⟩) = xo) := hxo2
                  have hqg : q + 1 ≤ gc := by omega
                  have hqc : q ≤ gc := by omega
                  have hwq : IntKind.i64.wrap ((q : Int) + 1) = ((q + 1 : Nat) : Int) := by rw [IntKind.wrap_i64]; omega
                  have hq2 : (0 : Int) ≤ (q : Int) + 1 := by omega
                  have hq3 : (q : Int) + 1 ≤ (left.length : Int) := by omega
                  have hq1 : q + 1 ≤ left.length := by omega
                  clear hM7 hMx hox hxo hxo2 d0 d1 d2 d3 f0 f1 f2 f3
                  refine led_start (S := fun _ => True) (z := 8) (by kernel_rfl) ?_
                  show led _ _ _ _ _ 9 _ _ _
                  refine led_take (i := 0) (v := ?v0c) rfl (by kernel_rfl) (by kernel_rfl) (by kernel_rfl) (by kernel_rfl) (fun _ _ _ h => h) (.inl ⟨by rfl, ?hy0c⟩) trivial ?rest0c
                  case hy0c =>
                    rintro w' _
                    go_simp
                    all_goals with_reducible rfl
                  try simp only [Act.put, List.setIfInBounds_toArray, List.set_cons_zero, List.set_cons_succ]
                  refine led_take (i := 1) (v := ?v1c) rfl (by kernel_rfl) (by kernel_rfl) (by kernel_rfl) (by kernel_rfl) (fun _ _ _ h => h) (.inl ⟨by rfl, ?hy1c⟩) trivial ?rest1c
                  case hy1c =>
                    rintro w' _
                    go_simp
                    all_goals with_reducible rfl
                  try simp only [Act.put, List.setIfInBounds_toArray, List.set_cons_zero, List.set_cons_succ]
                  refine led_take (i := 2) (v := ?v2c) rfl (by kernel_rfl) (by kernel_rfl) (by kernel_rfl) (by kernel_rfl) (fun _ _ _ h => h) (.inl ⟨by rfl, ?hy2c⟩) trivial ?rest2c
                  case hy2c =>
                    rintro w' _
                    go_simp
                    all_goals with_reducible rfl
                  try simp only [Act.put, List.setIfInBounds_toArray, List.set_cons_zero, List.set_cons_succ]
                  refine led_take (i := 3) (v := ?v3c) rfl (by kernel_rfl) (by kernel_rfl) (by kernel_rfl) (by kernel_rfl) (fun _ _ _ h => h) (.inl ⟨by rfl, ?hy3c⟩) trivial ?rest3c
                  case hy3c =>
                    rintro w' _
                    go_simp
                    all_goals with_reducible rfl
                  try simp only [Act.put, List.setIfInBounds_toArray, List.set_cons_zero, List.set_cons_succ]
                  refine led_take (i := 4) (v := ?v4c) rfl (by kernel_rfl) (by kernel_rfl) (by kernel_rfl) (by kernel_rfl) (fun _ _ _ h => h) (.inl ⟨by rfl, ?hy4c⟩) trivial ?rest4c
                  case hy4c =>
                    rintro w' _
                    go_simp
                    all_goals with_reducible rfl
                  try simp only [Act.put, List.setIfInBounds_toArray, List.set_cons_zero, List.set_cons_succ]
                  refine led_take (i := 5) (v := ?v5c) rfl (by kernel_rfl) (by kernel_rfl) (by kernel_rfl) (by kernel_rfl) (fun _ _ _ h => h) (.inl ⟨by rfl, ?hy5c⟩) trivial ?rest5c
                  case hy5c =>
                    rintro w' _
                    go_simp
                    all_goals with_reducible rfl
                  try simp only [Act.put, List.setIfInBounds_toArray, List.set_cons_zero, List.set_cons_succ]
                  refine led_take (i := 6) (v := ?v6c) rfl (by kernel_rfl) (by kernel_rfl) (by kernel_rfl) (by kernel_rfl) (fun _ _ _ h => h) (.inl ⟨by rfl, ?hy6c⟩) trivial ?rest6c
                  case hy6c =>
                    rintro w' _
                    go_simp
                    all_goals with_reducible rfl
                  try simp only [Act.put, List.setIfInBounds_toArray, List.set_cons_zero, List.set_cons_succ]
                  rw [HXO.out]
                  refine led_one (i := 7) rfl (by kernel_rfl) ?_
                  intro K16 hK16
                  refine step_append_mvs rfl _ _ rfl w.heap.size (.slice (some ⟨g, 0, none⟩) q gc) q (left.take q) (by simp [Act.eval]) HOX.out xo (left.length - (q + 1)) (gc - (q + 1)) (left.drop (q + 1)) (by simp [Act.eval]) (by simp) HMX.out (by omega) (by have := HP7.out.bel.size; simpa using this) ?_
                  intro v8 w8 h8 g8
                  refine hK16 _ _ (fun _ => trivial) ?_
                  clear hK16
                  try simp only [Act.put, List.setIfInBounds_toArray, List.set_cons_zero, List.set_cons_succ]
                  refine led_one (i := 8) rfl (by kernel_rfl) ?_
                  intro K19 hK19
                  rw [if_pos (by rfl)]
                  go_simp
                  refine hK19 _ _ (fun h => absurd rfl h) ?_
                  clear hK19
                  refine led_done (by kernel_rfl) ?_
                  have hee : left.take q ++ left.drop (q + 1) = left.eraseIdx q := (List.eraseIdx_eq_take_drop_succ left q).symm
                  have hle : q + (left.length - (q + 1)) = (left.eraseIdx q).length := by rw [List.length_eraseIdx_of_lt hql]; omega
                  rw [hee, hle] at h8
                  have hP8 := (HP7.out.keep (below_drewN0 w7 1)).cut h8 g8
                  obtain ⟨hD8, hmu⟩ := DP.done HD.out hP8 HLP.out HDS.out (by simp)
                  have HD8 : Hid _ := hD8
                  clear h8 g8 hP8 hD8
                  go_wp2_with fail
                  go_roundg (mu (t1, t2) (left.eraseIdx q))
                  case rel => exact ⟨_, _, rfl, HD8⟩
                  case measure => exact hmu
              · obtain rfl : q = left.length := by omega
                obtain ⟨m, r, hmr⟩ := List.exists_cons_of_ne_nil HLP.out
                have HMR : Hid (left = m :: r) := hmr
                have HNF : Hid (∀ x ∈ m :: r, fre (m :: r) x = false) := fun x hx => by
                  rw [← hmr] at hx ⊢
                  obtain ⟨j, hj, rfl⟩ := List.getElem_of_mem hx
                  have := HJ.out j hj hj
                  simp [fre, this]
                obtain ⟨b2, o2, e2, _, _, _, d2, d3⟩ := hM2.at hlp
                cases e2
                have hfm := HM2.out.fit m (by rw [hmr]; simp)
                have e0 : left[0] = m := by simp [hmr]
                rw [e0] at d2 d3
                obtain ⟨m12, ⟨m3, m4⟩⟩ := m
                simp only [Nat.zero_mul, Nat.zero_add] at d2 d3
                have HFM : Hid (FitM ((t1, t2), (m3, m4))) := ⟨HFT.out, hfm.f⟩
                have u0 : wr.cell? ⟨w.heap.size, 0, none⟩ = some (.int .i64 t1) := cell_arr HD.out.tb rfl
                have u1 : wr.cell? ⟨w.heap.size, 1, none⟩ = some (.int .i64 t2) := cell_arr HD.out.tb rfl
                have hbw : Below wr.heap.size wr (wr.drew.alloc (.cells #[.int .i64 t1, .int .i64 t2, .int .i64 m3, .int .i64 m4] 36)) := by
                  repeat (first | refine Below.alloc ?_ (by first | omega | (simp; done) | (simp; omega)) _ | refine Below.drew ?_ | exact Below.refl _ _)
                have HOW : Hid (OwnM (wr.drew.alloc (.cells #[.int .i64 t1, .int .i64 t2, .int .i64 m3, .int .i64 m4] 36)) w.heap.size (.slice oa out.length oc) out.length out) := HD.out.ou.keep hbw
                have HOL : Hid (out.length ≤ 10000000) := by have h1 := HD.out.o; have h2 := HN.out; show _ ≤ _; omega
                have HBS : Hid (w.heap.size ≤ wr.heap.size) := HD.out.bel.size
                have S0 : (fun w' : World => w'.cell? ⟨w.heap.size, 0, none⟩ = some (.int .i64 t1) ∧ w'.cell? ⟨w.heap.size, 1, none⟩ = some (.int .i64 t2) ∧ w'.cell? ⟨g, 2, none⟩ = some (.int .i64 m3) ∧ w'.cell? ⟨g, 3, none⟩ = some (.int .i64 m4)) wr.drew := ⟨u0, u1, d2, d3⟩
                have S1 : (fun w' : World => w'.cell? ⟨w.heap.size, 0, none⟩ = some (.int .i64 t1) ∧ w'.cell? ⟨w.heap.size, 1, none⟩ = some (.int .i64 t2) ∧ w'.cell? ⟨g, 2, none⟩ = some (.int .i64 m3) ∧ w'.cell? ⟨g, 3, none⟩ = some (.int .i64 m4)) (wr.drew.alloc (.cells #[.int .i64 t1, .int .i64 t2, .int .i64 m3, .int .i64 m4] 36)) := ⟨cellA u0, cellA u1, cellA d2, cellA d3⟩
                have HPU : Hid (∀ v7 w7, OwnM w7 w.heap.size v7 (out.length + 1) (out ++ [((t1, t2), (m3, m4))]) → GI w.heap.size (wr.drew.alloc (.cells #[.int .i64 t1, .int .i64 t2, .int .i64 m3, .int .i64 m4] 36)) w7 (.slice oa out.length oc) v7 → (fun w' : World => w'.cell? ⟨w.heap.size, 0, none⟩ = some (.int .i64 t1) ∧ w'.cell? ⟨w.heap.size, 1, none⟩ = some (.int .i64 t2) ∧ w'.cell? ⟨g, 2, none⟩ = some (.int .i64 m3) ∧ w'.cell? ⟨g, 3, none⟩ = some (.int .i64 m4)) w7 ∧ Hid (DP (t1, t2) w w7 (.slice (some ⟨g, 0, none⟩) left.length gc) v7 left (out ++ [((t1, t2), (m3, m4))]))) := fun v7 w7 h7 g7 => by
                  have hp := HD.out.grow hbw h7 g7
                  have n1 : (Value.slice oa out.length oc).ownBlock ≠ some w.heap.size := own_not HD.out.ou.out HD.out.tb (by decide)
                  have n2 : (Value.slice oa out.length oc).ownBlock ≠ some g := HD.out.ne g rfl
                  have kk : ∀ {a : Addr} {u : Value}, (wr.drew.alloc (.cells #[.int .i64 t1, .int .i64 t2, .int .i64 m3, .int .i64 m4] 36)).cell? a = some u → (Value.slice oa out.length oc).ownBlock ≠ some a.block → w7.cell? a = some u := fun {a u} h1 h2 => (World.cell?_of_block (g7.blk a.block (block_lt_of_cell h1) h2)).trans h1
                  exact ⟨⟨kk S1.1 n1, kk S1.2.1 n1, kk S1.2.2.1 n2, kk S1.2.2.2 n2⟩, hp⟩
                clear hbw hM2 hfm u0 u1 d2 d3 hmr e0
                go_wp2_with fail
                refine led_start (S := fun w' : World => w'.cell? ⟨w.heap.size, 0, none⟩ = some (.int .i64 t1) ∧ w'.cell? ⟨w.heap.size, 1, none⟩ = some (.int .i64 t2) ∧ w'.cell? ⟨g, 2, none⟩ = some (.int .i64 m3) ∧ w'.cell? ⟨g, 3, none⟩ = some (.int .i64 m4)) (z := 9) (by kernel_rfl) ?_
                show led _ _ _ _ _ 10 _ _ _
                refine led_take (i := 0) (v := ?v0) rfl (by kernel_rfl) (by kernel_rfl) (by kernel_rfl) (by kernel_rfl) (fun _ _ _ h => h) (.inl ⟨by rfl, ?hy0⟩) S0 ?rest0
                case hy0 =>
                  rintro w' ⟨h1, h2, h3, h4⟩
                  go_simp
                  all_goals with_reducible rfl
                try simp only [Act.put, List.setIfInBounds_toArray, List.set_cons_zero, List.set_cons_succ]
                refine led_take (i := 1) (v := ?v1) rfl (by kernel_rfl) (by kernel_rfl) (by kernel_rfl) (by kernel_rfl) (fun _ _ _ h => h) (.inl ⟨by rfl, ?hy1⟩) S0 ?rest1
                case hy1 =>
                  rintro w' ⟨h1, h2, h3, h4⟩
                  go_simp
                  all_goals with_reducible rfl
                try simp only [Act.put, List.setIfInBounds_toArray, List.set_cons_zero, List.set_cons_succ]
                refine led_take (i := 2) (v := ?v2) rfl (by kernel_rfl) (by kernel_rfl) (by kernel_rfl) (by kernel_rfl) (fun _ _ _ h => h) (.inl ⟨by rfl, ?hy2⟩) S0 ?rest2
                case hy2 =>
                  rintro w' ⟨h1, h2, h3, h4⟩
                  go_simp
                  all_goals with_reducible rfl
                try simp only [Act.put, List.setIfInBounds_toArray, List.set_cons_zero, List.set_cons_succ]
                refine led_take (i := 3) (v := ?v3) rfl (by kernel_rfl) (by kernel_rfl) (by kernel_rfl) (by kernel_rfl) (fun _ _ _ h => h) (.inl ⟨by rfl, ?hy3⟩) S0 ?rest3
                case hy3 =>
                  rintro w' ⟨h1, h2, h3, h4⟩
                  go_simp
                  all_goals with_reducible rfl
                try simp only [Act.put, List.setIfInBounds_toArray, List.set_cons_zero, List.set_cons_succ]
                refine led_take (i := 4) (v := ?v4) rfl (by kernel_rfl) (by kernel_rfl) (by kernel_rfl) (by kernel_rfl) (fun _ _ _ h => h) (.inl ⟨by rfl, ?hy4⟩) S0 ?rest4
                case hy4 =>
                  rintro w' ⟨h1, h2, h3, h4⟩
                  go_simp
                  all_goals with_reducible rfl
                try simp only [Act.put, List.setIfInBounds_toArray, List.set_cons_zero, List.set_cons_succ]
                refine led_take (i := 5) (v := ?v5) rfl (by kernel_rfl) (by kernel_rfl) (by kernel_rfl) (by kernel_rfl) (fun _ _ _ h => h) (.inl ⟨by rfl, ?hy5⟩) S0 ?rest5
                case hy5 =>
                  rintro w' ⟨h1, h2, h3, h4⟩
                  go_simp
                  all_goals with_reducible rfl
                try simp only [Act.put, List.setIfInBounds_toArray, List.set_cons_zero, List.set_cons_succ]
                refine led_take (i := 6) (v := ?v6) rfl (by kernel_rfl) (by kernel_rfl) (by kernel_rfl) (by kernel_rfl) (fun _ _ _ h => h) (.inl ⟨by rfl, ?hy6⟩) S0 ?rest6
                case hy6 =>
                  rintro w' ⟨h1, h2, h3, h4⟩
                  go_simp
                  all_goals with_reducible rfl
                try simp only [Act.put, List.setIfInBounds_toArray, List.set_cons_zero, List.set_cons_succ]
                refine led_one (i := 7) rfl (by kernel_rfl) ?_
                intro K15 hK15
                rw [if_pos (by rfl)]
                go_simp
                refine hK15 _ _ (fun _ => S1) ?_
                clear hK15
                try simp only [Act.put, List.setIfInBounds_toArray, List.set_cons_zero, List.set_cons_succ]
                refine led_one (i := 8) rfl (by kernel_rfl) ?_
                intro K16 hK16
                refine step_append_mv rfl _ _ rfl w.heap.size (.slice oa out.length oc) out.length out t1 t2 m3 m4 (by simp [Act.eval]) HOW.out HFM.out wr.drew.heap.size (by simp [Act.eval]) (cell_arr (heap_alloc_new _ _) rfl) (cell_arr (heap_alloc_new _ _) rfl) (cell_arr (heap_alloc_new _ _) rfl) (cell_arr (heap_alloc_new _ _) rfl) (by have := HOL.out; omega) (by simp; have := HBS.out; omega) ?_
                intro v7 w7 h7 g7
                obtain ⟨S7, HP7⟩ := HPU.out v7 w7 h7 g7
                refine hK16 _ _ (fun _ => S7) ?_
                clear hK16
                try simp only [Act.put, List.setIfInBounds_toArray, List.set_cons_zero, List.set_cons_succ]
                refine led_one (i := 9) rfl (by kernel_rfl) ?_
                intro K19 hK19
                rw [if_pos (by rfl)]
                go_simp
                refine hK19 _ _ (fun h => absurd rfl h) ?_
                clear hK19 S0 S1
                refine led_done (by kernel_rfl) ?_
                obtain ⟨u0, u1, u2, u3⟩ := S7
                have z2 := fz_own HP7.out.lf.out 2
                have z3 := fz_own HP7.out.lf.out 3
                go_wp2_with fail
                have hmrl : left.length = r.length + 1 := by rw [HMR.out]; simp
                have hds := ds_temp (t := (t1, t2)) (out := out) HNF.out
                have hP8 := HP7.out
                rw [HMR.out] at hP8
                have hP9 := DP.setFrom hP8 (by rw [← HMR.out]; exact hmrl) HFT.out
                rw [← HMR.out] at hP9 hds
                obtain ⟨hD8, hmu⟩ := DP.done HD.out hP9 HLP.out hds (by simp)
                have HD8 : Hid _ := hD8
                clear hP8 hP9 hD8 hds
                go_roundg (mu (t1, t2) ((m12, (t1, t2)) :: r))
                case rel => exact ⟨_, _, rfl, HD8⟩
                case measure => exact hmu
  · have HAN : Hid (ansP (t1, t2) l = []) := by
      show ansP _ _ = _
      unfold ansP
      unfold errP at hE
      by_cases h1 : placedP (t1, t2) l = true
      · rw [if_pos h1] at hE ⊢
        by_cases h2 : (l.map Prod.fst).Nodup
        · rw [if_pos h2] at hE; exact absurd rfl hE
        · rw [if_neg h2]
      · rw [if_neg h1]
    obtain ⟨E, hEE⟩ : ∃ E, errP (t1, t2) l = E := ⟨_, rfl⟩
    rw [hEE] at HRF hE ⊢
    rw [HAN.out]
    have hE2 : (E == 0) = false := by simpa using hE
    go_enter Try.func12, Try.ntmps12
    subst hwt
    go_wp2_with (first | (go_at_call 26; refine HRF.out.mono ?_; rintro e w1 ⟨rfl, hb1⟩; have HB1 : Hid _ := hb1; clear hb1))
    go_ret2
    exact ⟨_, rfl, OwnM.nil _ _, HB0.out.trans (HB1.out.mono (Nat.le_of_lt HLW.out))⟩
end Go.Proofs.Ytdoiblknbpbhaaa
