import Derived.Test.YthjjdfiaikibaabDmR
set_option linter.unusedVariables false
set_option linter.unusedSimpArgs false
namespace Go.Proofs.Ythjjdfiaikibaab
open Go.ChangeShapes Go.WideShapes Go.ChangeAt Go.RowKit Go.Maps

theorem own_of_exact {w : World} {B g n : Nat} {L : List Int} (hL : L.length = n) (hn : n ≤ 9223372036854775807) (hB : B ≤ g) (h : w.heap[g]? = some (.cells (ivs L).toArray 3 (0, 0))) : OwnI w B (.slice (some ⟨g, 0, none⟩) n n) n L :=
  ⟨hL.symm, by simp [ivs, hL], .inr ⟨g, n, (ivs L).toArray, rfl, hB, h, Nat.le_refl _, by unfold maxLen; omega, by simp [ivs, hL], List.take_of_length_le (by simp [ivs, hL])⟩⟩
theorem row_set {w : World} {g i : Nat} {L : List Int} {v : Int} (h : w.heap[g]? = some (.cells (ivs L).toArray 3 (0, 0))) : (w.setCell ⟨g, i, none⟩ (.int .i64 v)).heap[g]? = some (.cells (ivs (L.set i v)).toArray 3 (0, 0)) := by
  have := heap_set_at (i := i) (v := .int .i64 v) h
  rw [ivs_set] at this; exact this
theorem domP_ok {mt : List Int} {fr : List (List Int)} (hp : 0 < mt.length) (hfl : fr.length = mt.length) (hs : ∀ l ∈ fr, ∀ y ∈ l, 0 ≤ y ∧ y < (mt.length : Int)) (hmt : ∀ i, 1 ≤ i → i < mt.length → 0 ≤ gn mt i ∧ gn mt i < i) : (domP mt fr).length = mt.length ∧ ∀ i, i < mt.length → 0 ≤ gn (domP mt fr) i ∧ gn (domP mt fr) i < (mt.length : Int) := by
  have key : ∀ (k : Nat) (s : St), k < mt.length → FI mt.length s.door s.f → s.over.length = mt.length → (∀ i, i < mt.length → 0 ≤ gn s.over i ∧ gn s.over i < (mt.length : Int)) → (∀ a, ∀ x ∈ s.wt a, 0 ≤ x ∧ x < (mt.length : Int)) → (drun mt fr k s).over.length = mt.length ∧ ∀ i, i < mt.length → 0 ≤ gn (drun mt fr k s).over i ∧ gn (drun mt fr k s).over i < (mt.length : Int) := by
    intro k
    induction k with
    | zero => intro s _ _ h2 h3 _; exact ⟨h2, h3⟩
    | succ k ih =>
      intro s hk h1 h2 h3 h4
      rw [drun]
      have hx : k + 1 < mt.length := hk
      have hm := hmt (k + 1) (by omega) hx
      have hsr : ∀ y ∈ fr.getD (k + 1) [], 0 ≤ y ∧ y < (mt.length : Int) := by
        have hf : k + 1 < fr.length := by omega
        have e : fr.getD (k + 1) [] = fr[k + 1] := by simp [hf]
        rw [e]; exact hs _ (List.getElem_mem hf)
      have f1 := dIn_fi hx (fr.getD (k + 1) []) hsr h1
      have f2 := f1.hang hx (v := gn mt (k + 1)) (by omega) (by omega)
      have hwt : ∀ a, ∀ x ∈ upd s.wt (gn (dIn (k + 1) (fr.getD (k + 1) []) (s.door, s.f)).1 (k + 1)) (s.wt (gn (dIn (k + 1) (fr.getD (k + 1) []) (s.door, s.f)).1 (k + 1)) ++ [((k + 1 : Nat) : Int)]) a, 0 ≤ x ∧ x < (mt.length : Int) := by
        intro a x hxx
        unfold upd at hxx
        split at hxx
        · rcases List.mem_append.1 hxx with h | h
          · exact h4 _ x h
          · simp at h; omega
        · exact h4 _ x hxx
      obtain ⟨g1, g2, g3⟩ := dOv_ok (n := mt.length) (above := (gn mt (k + 1)).toNat) (by omega) (upd s.wt (gn (dIn (k + 1) (fr.getD (k + 1) []) (s.door, s.f)).1 (k + 1)) (s.wt (gn (dIn (k + 1) (fr.getD (k + 1) []) (s.door, s.f)).1 (k + 1)) ++ [((k + 1 : Nat) : Int)]) (gn mt (k + 1))) (s.over, ⟨(dIn (k + 1) (fr.getD (k + 1) []) (s.door, s.f)).2.up.set (k + 1) (gn mt (k + 1)), (dIn (k + 1) (fr.getD (k + 1) []) (s.door, s.f)).2.best⟩) (hwt _) f2 h2 h3
      refine ih _ (by omega) g1 g2 g3 fun a x hxx => ?_
      simp only [dstep] at hxx
      unfold upd at hxx
      split at hxx
      · simp at hxx
      · exact hwt a x (by unfold upd; exact hxx)
  obtain ⟨q1, q2⟩ := key (mt.length - 1) (st0 mt.length) (by omega) (FI.zero _) (by simp [st0]) (fun i hi => by rw [gn_at (by simpa [st0] using hi)]; simp [st0]; omega) (fun a x hx => by simp [st0] at hx)
  exact fpass_ok _ _ (by omega) q1 q2
set_option maxRecDepth 100000 in
set_option maxHeartbeats 4000000 in
theorem tree_any (w : World) (ao : Option Addr) (n c : Nat) (Ls : List (List Int)) (hn : n = Ls.length) (h : IRow w ao c Ls) (hsz : n ≤ 1000000) (hM : ∀ l ∈ Ls, l.length ≤ 1000000) :
    Calls Try.prog 6 #[.slice ao n c] w fun e w' => ∃ v, e = .returned v ∧ OwnI w' w.heap.size v (treeP Ls).length (treeP Ls) ∧ Below w.heap.size w w' := by
  have hgd := good_any w ao n c Ls hn h
  by_cases hg : goodP Ls = true
  · rw [hg] at hgd
    have hwi := walkP_wi hg
    have hwj := walkP_wj hg
    have hcl := walkP_closed hg
    have hpos : 0 < n := by have := goodP_pos hg; omega
    have hmk := run_make_row' (P := Try.prog) 27 3 (.int .i64 0) 8 Try.underlying27 info3d rfl .i64 .i64 n (by omega) (by omega)
    have HN : Hid (n = Ls.length) := hn
    have HI : Hid _ := h
    have HG : Hid (goodP Ls = true) := hg
    have HM : Hid _ := hM
    have HWI : Hid _ := hwi
    have HWJ : Hid _ := hwj
    have HCL : Hid _ := hcl
    clear h hn hg hM hwi hwj hcl
    go_enter Try.func6, Try.ntmps6
    go_wp2_with fail
    refine hgd.mono ?_
    rintro e w' ⟨rfl, rfl⟩
    clear hgd
    obtain ⟨g, hgg⟩ : ∃ g, g = w'.heap.size := ⟨_, rfl⟩
    have h1 : (w'.alloc (.cells (madeCells #[.int .i64 0] n) 3)).heap[g]? = some (.cells (ivs (fl n 0 fun _ => -1)).toArray 3 (0, 0)) := by rw [fl_zero, hgg, made_ivs]; exact heap_alloc_new _ _
    have b1 : Below w'.heap.size w' (w'.alloc (.cells (madeCells #[.int .i64 0] n) 3)) := (Below.refl _ _).alloc (Nat.le_refl _) _
    have H1 : Hid _ := h1
    have HB1 : Hid _ := b1
    have HGG : Hid (g = w'.heap.size) := hgg
    clear h1 b1
    go_wp2_with fail
    rw [← hgg]
    clear hgg hmk
    go_loopw [17] (fun v wr => ∃ k : Nat, k ≤ n ∧ v = .int .i64 k ∧ Hid (wr.heap[g]? = some (.cells (ivs (fl n k fun _ => -1)).toArray 3 (0, 0))) ∧ Hid (Below w'.heap.size w' wr)) (fun v _ => n - (intOf v).toNat)
    case atStart => exact ⟨0, by omega, rfl, H1.out, HB1.out⟩
    case round =>
      clear H1 HB1
      obtain ⟨k, hk, rfl, HT, HB⟩ := hrel
      by_cases hlt : k < n
      · obtain ⟨z, kz⟩ : ∃ z, wr.cell? ⟨g, k, none⟩ = some z := ⟨_, cell_arr HT.out (ivs_at (by rw [fl_len]; exact hlt))⟩
        have fz : wr.frozen? ⟨g, k, none⟩ = false := fz_of HT.out
        have HT2 := show Hid ((wr.setCell ⟨g, k, none⟩ (.int .i64 (-1))).heap[g]? = some (.cells (ivs (fl n (k + 1) fun _ => -1)).toArray 3 (0, 0))) from by rw [← fl_set (fun _ => -1) hlt]; exact row_set HT.out
        have HB2 := show Hid (Below w'.heap.size w' (wr.setCell ⟨g, k, none⟩ (.int .i64 (-1)))) from HB.out.setCell (by rw [← HGG.out]; exact Nat.le_refl _) _
        go_wp2_with fail
        go_roundw
        case rel => exact ⟨k + 1, by omega, by go_num, HT2.out, HB2.out⟩
        case measure => simp [intOf]; omega
      · have hkn : k = n := by omega
        subst hkn
        obtain ⟨w2, hw2⟩ : ∃ w2, w2 = wr := ⟨_, rfl⟩
        subst hw2
        have hT0 : w2.heap[g]? = some (.cells (ivs (List.replicate k (-1))).toArray 3 (0, 0)) := by
          have := HT.out
          rw [fl_full] at this
          have e : (List.range k).map (fun _ => (-1 : Int)) = List.replicate k (-1) := by
            refine List.ext_getElem (by simp) fun i h1 h2 => ?_
            simp
          rw [e] at this; exact this
        have hwk := walkOf_any w2 ao k c Ls HN.out (HI.out.below HB.out (Nat.le_refl _)) HG.out (by omega)
        have HT0 : Hid _ := hT0
        clear hT0 HT
        go_wp2_with fail
        refine hwk.mono ?_
        rintro e w3 ⟨rfl, ⟨v1, v2, HW⟩, hb3⟩
        have hs3 := hb3.size
        have hBw3 : w'.heap.size ≤ w2.heap.size := HB.out.size
        have hso := sources_any w3 HW (by omega) ao k c Ls HN.out (HI.out.below (HB.out.trans (hb3.mono hBw3)) (Nat.le_refl _)) HWI.out.rng HCL.out (by have := HWI.out.le; have := HN.out; omega) HM.out
        have HW3 : Hid _ := HW
        have HB3 : Hid _ := hb3
        clear hwk HW hb3
        go_wp2_with fail
        refine hso.mono ?_
        rintro e w4 ⟨gs, rfl, HS, hb4⟩
        have hW4 := HW3.out.move (w' := w4) fun q hq => hb4.block q (HW3.out.lt q hq).2
        obtain ⟨sk1, sk2⟩ := srcN_ok (walkP Ls).bl Ls (walkP Ls).bl.length (Nat.le_refl _)
        have hml : (walkP Ls).mt.length = (walkP Ls).bl.length := HWI.out.len
        have hnb : (walkP Ls).bl.length ≤ k := by have := HWI.out.le; have := HN.out; omega
        have hdo := dominators_any w4 hW4 (walkP Ls).bl.length rfl hml (some ⟨gs, 0, none⟩) (walkP Ls).bl.length (srcs (walkP Ls).bl Ls) HS sk1 HWJ.out.pos (by omega) sk2 HWJ.out.mt
        have HW4 : Hid _ := hW4
        have HB4 : Hid _ := hb4
        have HDP := show Hid _ from domP_ok (mt := (walkP Ls).mt) (fr := srcs (walkP Ls).bl Ls) (by rw [hml]; exact HWJ.out.pos) (by rw [hml]; exact sk1) (by rw [hml]; exact sk2) (by rw [hml]; exact HWJ.out.mt)
        clear hso HS hW4 hb4 sk1 sk2
        go_wp2_with fail
        refine hdo.mono ?_
        rintro e w5 ⟨ov, rfl, ho5, hov, hb5⟩
        clear hdo
        have hs4 := HB4.out.size
        have hs5 := hb5.size
        have HW5 := HW4.out.move (w' := w5) fun q hq => hb5.block q (HW4.out.lt q hq).2
        obtain ⟨a1, c1, e1, n1, n1'⟩ := own_slice HW5.o1.out
        obtain ⟨bl, hbl⟩ : ∃ bl, bl = (walkP Ls).bl := ⟨_, rfl⟩
        obtain ⟨m, hm⟩ : ∃ m, m = bl.length := ⟨_, rfl⟩
        obtain ⟨over, hover⟩ : ∃ over, over = domP (walkP Ls).mt (srcs (walkP Ls).bl Ls) := ⟨_, rfl⟩
        have hbox := HW5.box
        have hO1 := HW5.o1
        rw [e1] at hbox hO1
        rw [← hbl, ← hm] at hbox hO1
        rw [← hover] at ho5
        have hDP := HDP.out
        rw [hml, ← hover, ← hbl, ← hm] at hDP
        have hg4 : g < w2.heap.size := by have := (Array.getElem?_eq_some_iff.1 HT0.out).1; exact this
        have hg5 : w5.heap[g]? = some (.cells (ivs (List.replicate k (-1))).toArray 3 (0, 0)) := by rw [hb5.block g (by omega), HB4.out.block g (by omega), HB3.out.block g hg4]; exact HT0.out
        have HTP : Hid (treeP Ls = treeIn bl over k m) := by show _ = _; unfold treeP; rw [if_pos HG.out, ← HN.out, hm, hbl, hover]
        have HRG : Hid (∀ x ∈ bl, 0 ≤ x ∧ x < (k : Int)) := by intro x hx; have h9 := HWI.out.rng x (by rw [← hbl]; exact hx); have := HN.out; omega
        have HBX : Hid _ := hbox
        have HO1 : Hid _ := hO1
        have HO5 : Hid _ := ho5
        have HDO : Hid _ := hDP
        have HG5 : Hid _ := hg5
        have HML : Hid (m = bl.length) := hm
        have HMW : Hid (m = (walkP Ls).bl.length) := by show _ = _; rw [hm, hbl]
        have hB5 : Below w'.heap.size w' w5 := ((HB.out.trans (HB3.out.mono hBw3)).trans (HB4.out.mono (by omega))).trans (hb5.mono (by omega))
        have HB5 : Hid _ := hB5
        have hgo : g ≠ ov := by omega
        have hmk : m ≤ k := by rw [hm, hbl]; exact hnb
        have kb5 : w5.cell? ⟨w2.heap.size + 1, 0, none⟩ = some (.slice a1 m c1) := cell_arr (i := 0) hbox rfl
        rw [← hbl, ← hm] at n1
        have HGW : Hid (g < w2.heap.size) := hg4
        clear hbl hm hover hbox hO1 ho5 hDP hg5 hB5 HW5 e1 HW4 HB4 HW3 HB3 hb5 HWI HWJ HCL HM HDP hml hnb
        go_wp2_with fail
        go_loopw [36] (fun v wx => ∃ q : Nat, q ≤ m ∧ v = .int .i64 q ∧ Hid (wx.heap[g]? = some (.cells (ivs (treeIn bl over k q)).toArray 3 (0, 0))) ∧ Hid (∀ p, p < w5.heap.size → p ≠ g → wx.heap[p]? = w5.heap[p]?) ∧ Hid (Below w'.heap.size w' wx)) (fun v _ => m - (intOf v).toNat)
        case atStart => exact ⟨0, by omega, rfl, by rw [treeIn]; exact HG5.out, fun p _ _ => rfl, HB5.out⟩
        case round =>
          obtain ⟨q, hq, rfl, HT, HK, HB6⟩ := hrel
          by_cases hlt : q < m
          · have hqb : q < bl.length := by have := HML.out; omega
            have hgw := HGW.out
            have OB : OwnI wr w2.heap.size (.slice a1 m c1) m bl := ⟨HO1.out.len, own_move HO1.out.out fun p hp => HK.out p (own_block HO1.out.out hp).2 (by have := (own_block HO1.out.out hp).1; omega)⟩
            obtain ⟨a9, c9, e9, hI9⟩ := OB.ints
            cases e9
            obtain ⟨b9, o9, rfl, ky⟩ := hI9.at hqb
            have hyr := HRG.out bl[q] (List.getElem_mem hqb)
            obtain ⟨bn, hbn⟩ : ∃ bn : Nat, bl[q] = (bn : Int) := ⟨(bl[q]).toNat, by omega⟩
            rw [hbn] at ky
            have hbk : bn < k := by omega
            by_cases hq0 : q = 0
            · have HN2 : Hid (treeIn bl over k (q + 1) = treeIn bl over k q) := by show _ = _; rw [hq0]; simp [treeIn]
              have hq1 : ¬ 0 < q := by omega
              clear hq0
              go_wp2_with fail
              go_roundw
              case rel => exact ⟨q + 1, by omega, by go_num, by rw [HN2.out]; exact HT.out, HK.out, HB6.out⟩
              case measure => simp [intOf]; omega
            · have hqp : 0 < q := by omega
              obtain ⟨o, ho⟩ : ∃ o : Nat, gn over q = (o : Int) := ⟨(gn over q).toNat, by have := (HDO.out.2 q hlt).1; omega⟩
              have hom : o < m := by have := (HDO.out.2 q hlt).2; omega
              have hob : o < bl.length := by have := HML.out; omega
              have ko : wr.cell? ⟨ov, q, none⟩ = some (.int .i64 (o : Int)) := by
                rw [World.cell?_of_block (w := w5) (HK.out ov (Array.getElem?_eq_some_iff.1 HO5.out).1 (Ne.symm hgo)), ← ho]
                exact cell_arr HO5.out (ivs_at (by rw [HDO.out.1]; exact hlt))
              obtain ⟨b8, o8, e8, kbo⟩ := hI9.at hob
              cases e8
              obtain ⟨bo, hbo⟩ : ∃ bo, bo = bl[o] := ⟨_, rfl⟩
              rw [← hbo] at kbo
              have kb6 : wr.cell? ⟨w2.heap.size + 1, 0, none⟩ = some (.slice (some ⟨b9, o9, none⟩) m c1) := by
                rw [World.cell?_of_block (w := w5) (HK.out (w2.heap.size + 1) (Array.getElem?_eq_some_iff.1 HBX.out).1 (by omega))]
                exact kb5
              obtain ⟨z, kz⟩ : ∃ z, wr.cell? ⟨g, bn, none⟩ = some z := ⟨_, cell_arr HT.out (ivs_at (by rw [treeIn_len]; exact hbk))⟩
              have fz : wr.frozen? ⟨g, bn, none⟩ = false := fz_of HT.out
              have i1 : (0 : Int) ≤ (q : Int) := by omega
              have i2 : (q : Int) < (m : Int) := by omega
              have i3 : (0 : Int) ≤ (o : Int) := by omega
              have i4 : (o : Int) < (m : Int) := by omega
              have i5 : (0 : Int) ≤ (bn : Int) := by omega
              have i7 : (q : Int) < ((walkP Ls).bl.length : Int) := by have := HMW.out; omega
              have i8 : q < (walkP Ls).bl.length := by have := HMW.out; omega
              have i6 : (bn : Int) < (k : Int) := by omega
              have HN2 : Hid (treeIn bl over k (q + 1) = (treeIn bl over k q).set bn bo) := by
                show _ = _
                rw [treeIn, if_neg hq0, gn_at hqb, hbn, Int.toNat_natCast, ho, Int.toNat_natCast, gn_at hob, hbo]
              have HT2 := show Hid ((wr.setCell ⟨g, bn, none⟩ (.int .i64 bo)).heap[g]? = some (.cells (ivs (treeIn bl over k (q + 1))).toArray 3 (0, 0))) from by rw [HN2.out]; exact row_set HT.out
              have HB7 := show Hid (Below w'.heap.size w' (wr.setCell ⟨g, bn, none⟩ (.int .i64 bo))) from HB6.out.setCell (by rw [← HGG.out]; exact Nat.le_refl _) _
              have HK2 := show Hid (∀ p, p < w5.heap.size → p ≠ g → (wr.setCell ⟨g, bn, none⟩ (.int .i64 bo)).heap[p]? = w5.heap[p]?) from fun p h1 h2 => (heap_set_other h2).trans (HK.out p h1 h2)
              clear OB hI9 hyr hbn ho hbo kb5
              go_wp2_with fail
              go_region
              go_wp2_with fail
              go_roundw
              case rel => exact ⟨q + 1, by omega, by go_num, HT2.out, HK2.out, HB7.out.drew⟩
              case measure => simp [intOf]; omega
          · have hqm : q = m := by omega
            subst hqm
            go_wp2_with fail
            go_ret
            refine ⟨_, rfl, ?_, HB6.out⟩
            rw [HTP.out, treeIn_len]
            exact own_of_exact (treeIn_len _ _ _ _) (by omega) (by rw [HGG.out]; exact Nat.le_refl _) HT.out
  · have hf : goodP Ls = false := by simpa using hg
    have HR : Hid (treeP Ls = []) := by show _ = _; rw [treeP, if_neg hg]
    rw [hf] at hgd
    clear h hg hf hn
    go_enter Try.func6, Try.ntmps6
    go_wp2_with fail
    refine hgd.mono ?_
    rintro e w' ⟨rfl, rfl⟩
    go_wp2_with fail
    go_ret
    rw [HR.out]
    exact ⟨_, rfl, OwnI.nil _ _, Below.refl _ _⟩
end Go.Proofs.Ythjjdfiaikibaab
