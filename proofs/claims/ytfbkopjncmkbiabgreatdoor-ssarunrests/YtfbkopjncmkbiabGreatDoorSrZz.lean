import Derived.Test.YtfbkopjncmkbiabGreatDoorSrZy
set_option linter.unusedVariables false
set_option linter.unusedSimpArgs false
namespace Go.Proofs.YtfbkopjncmkbiabGreatDoor
open Go.ChangeShapes Go.WideShapes Go.ChangeAt Go.RowKit Go.Maps

def reX (m : Int) (B : Nat) : List Obj := [.cells #[.int .i64 0, .int .i64 5] 3, .cells #[.int .i64 3] 3, .cells #[.int .i64 3, .int .i64 1] 3, .cells #[.int .i64 5, .int .i64 2] 3, .cells #[.int .i64 1, .int .i64 1, .int .i64 0, .slice none 0 0, .int .i64 1, .int .i64 1, .int .i64 1, .slice none 0 0, .int .i64 1, .int .i64 1, .int .i64 m, .slice none 0 0, .int .i64 32, .int .i64 1, .int .i64 0, .slice (some ⟨B + 0, 0, none⟩) 2 2, .int .i64 26, .int .i64 0, .int .i64 0, .slice (some ⟨B + 1, 0, none⟩) 1 1, .int .i64 2, .int .i64 1, .int .i64 0, .slice (some ⟨B + 2, 0, none⟩) 2 2, .int .i64 15, .int .i64 2, .int .i64 0, .slice (some ⟨B + 3, 0, none⟩) 2 2] 25, .cells #[.int .i64 0, .int .i64 1, .int .i64 2] 3, .cells #[.int .i64 1] 3, .cells #[.int .i64 3] 3, .cells #[.int .i64 4, .int .i64 5, .int .i64 6] 3, .cells #[.int .i64 1, .int .i64 2] 3, .cells #[.int .i64 0, .int .i64 1] 3, .cells #[.int .i64 1] 3, .cells #[.slice none 0 0, .slice (some ⟨B + 5, 0, none⟩) 3 3, .int .i64 1, .int .i64 (-1), .slice (some ⟨B + 6, 0, none⟩) 1 1, .slice none 0 0, .slice (some ⟨B + 7, 0, none⟩) 1 1, .slice (some ⟨B + 8, 0, none⟩) 3 3, .int .i64 2, .int .i64 6, .slice (some ⟨B + 9, 0, none⟩) 2 2, .slice (some ⟨B + 10, 0, none⟩) 2 2, .slice none 0 0, .slice none 0 0, .int .i64 4, .int .i64 2, .slice none 0 0, .slice (some ⟨B + 11, 0, none⟩) 1 1] 30, .cells #[.string ⟨#[109, 97, 105, 110]⟩, .slice none 0 0, .int .i64 0, .slice (some ⟨B + 4, 0, none⟩) 7 7, .slice (some ⟨B + 12, 0, none⟩) 3 3] 33, .cells #[.string ⟨#[109, 97, 105, 110]⟩, .slice none 0 0, .int .i64 0, .slice (some ⟨B + 4, 0, none⟩) 7 7, .slice (some ⟨B + 12, 0, none⟩) 3 3] 33]
set_option maxRecDepth 100000 in
theorem re_fus (m : Int) (w : World) : Fus (al w (reX m w.heap.size)) (some ⟨w.heap.size + 14, 0, none⟩) 1 [(reF m)] := by
  have hx : ∀ i (h : i < (reX m w.heap.size).length), (al w (reX m w.heap.size)).heap[w.heap.size + i]? = some (reX m w.heap.size)[i] := fun i h => al_at _ w i h
  obtain ⟨B, hB⟩ : ∃ B, B = w.heap.size := ⟨_, rfl⟩
  obtain ⟨W, hW⟩ : ∃ W, W = al w (reX m w.heap.size) := ⟨_, rfl⟩
  rw [← hW] at hx ⊢
  rw [← hB] at hx ⊢
  clear hW hB
  have h0 := hx 0 (by simp [reX])
  have h1 := hx 1 (by simp [reX])
  have h2 := hx 2 (by simp [reX])
  have h3 := hx 3 (by simp [reX])
  have h4 := hx 4 (by simp [reX])
  have h5 := hx 5 (by simp [reX])
  have h6 := hx 6 (by simp [reX])
  have h7 := hx 7 (by simp [reX])
  have h8 := hx 8 (by simp [reX])
  have h9 := hx 9 (by simp [reX])
  have h10 := hx 10 (by simp [reX])
  have h11 := hx 11 (by simp [reX])
  have h12 := hx 12 (by simp [reX])
  have h13 := hx 13 (by simp [reX])
  have h14 := hx 14 (by simp [reX])
  have hl : ∀ j : Nat, j < 15 → B + j < W.heap.size := fun j hj => (Array.getElem?_eq_some_iff.1 (hx j (by simpa [reX] using hj))).1
  clear hx
  have i0 : Ints W (some ⟨B + 0, 0, none⟩) 2 [0, 5] := ints_exact (L := [0, 5]) h0 (by decide)
  have i1 : Ints W (some ⟨B + 1, 0, none⟩) 1 [3] := ints_exact (L := [3]) h1 (by decide)
  have i2 : Ints W (some ⟨B + 2, 0, none⟩) 2 [3, 1] := ints_exact (L := [3, 1]) h2 (by decide)
  have i3 : Ints W (some ⟨B + 3, 0, none⟩) 2 [5, 2] := ints_exact (L := [5, 2]) h3 (by decide)
  have i5 : Ints W (some ⟨B + 5, 0, none⟩) 3 [0, 1, 2] := ints_exact (L := [0, 1, 2]) h5 (by decide)
  have i6 : Ints W (some ⟨B + 6, 0, none⟩) 1 [1] := ints_exact (L := [1]) h6 (by decide)
  have i7 : Ints W (some ⟨B + 7, 0, none⟩) 1 [3] := ints_exact (L := [3]) h7 (by decide)
  have i8 : Ints W (some ⟨B + 8, 0, none⟩) 3 [4, 5, 6] := ints_exact (L := [4, 5, 6]) h8 (by decide)
  have i9 : Ints W (some ⟨B + 9, 0, none⟩) 2 [1, 2] := ints_exact (L := [1, 2]) h9 (by decide)
  have i10 : Ints W (some ⟨B + 10, 0, none⟩) 2 [0, 1] := ints_exact (L := [0, 1]) h10 (by decide)
  have i11 : Ints W (some ⟨B + 11, 0, none⟩) 1 [1] := ints_exact (L := [1]) h11 (by decide)
  have hv0 : Vls W (some ⟨B + 4, 0, none⟩) 7 (reF m).vals := by
    refine ⟨Nat.le_of_ble_eq_true (by kernel_rfl), by decide, fun _ => ⟨B + 4, 0, rfl, hl 4 (by omega), fun i hi => ?_⟩⟩
    match i, hi with
    | 0, _ => exact ⟨none, 0, cell_arr (i := 0) h4 rfl, cell_arr (i := 1) h4 rfl, cell_arr (i := 2) h4 rfl, cell_arr (i := 3) h4 rfl, (ints_none W)⟩
    | 1, _ => exact ⟨none, 0, cell_arr (i := 4) h4 rfl, cell_arr (i := 5) h4 rfl, cell_arr (i := 6) h4 rfl, cell_arr (i := 7) h4 rfl, (ints_none W)⟩
    | 2, _ => exact ⟨none, 0, cell_arr (i := 8) h4 rfl, cell_arr (i := 9) h4 rfl, cell_arr (i := 10) h4 rfl, cell_arr (i := 11) h4 rfl, (ints_none W)⟩
    | 3, _ => exact ⟨some ⟨B + 0, 0, none⟩, 2, cell_arr (i := 12) h4 rfl, cell_arr (i := 13) h4 rfl, cell_arr (i := 14) h4 rfl, cell_arr (i := 15) h4 rfl, i0⟩
    | 4, _ => exact ⟨some ⟨B + 1, 0, none⟩, 1, cell_arr (i := 16) h4 rfl, cell_arr (i := 17) h4 rfl, cell_arr (i := 18) h4 rfl, cell_arr (i := 19) h4 rfl, i1⟩
    | 5, _ => exact ⟨some ⟨B + 2, 0, none⟩, 2, cell_arr (i := 20) h4 rfl, cell_arr (i := 21) h4 rfl, cell_arr (i := 22) h4 rfl, cell_arr (i := 23) h4 rfl, i2⟩
    | 6, _ => exact ⟨some ⟨B + 3, 0, none⟩, 2, cell_arr (i := 24) h4 rfl, cell_arr (i := 25) h4 rfl, cell_arr (i := 26) h4 rfl, cell_arr (i := 27) h4 rfl, i3⟩
  have hk0 : Bks W (some ⟨B + 12, 0, none⟩) 3 (reF m).blks := by
    refine ⟨Nat.le_of_ble_eq_true (by kernel_rfl), by decide, fun _ => ⟨B + 12, 0, rfl, hl 12 (by omega), fun i hi => ?_⟩⟩
    match i, hi with
    | 0, _ => exact ⟨none, 0, some ⟨B + 5, 0, none⟩, 3, some ⟨B + 6, 0, none⟩, 1, none, 0, cell_arr (i := 0) h12 rfl, cell_arr (i := 1) h12 rfl, cell_arr (i := 2) h12 rfl, cell_arr (i := 3) h12 rfl, cell_arr (i := 4) h12 rfl, cell_arr (i := 5) h12 rfl, (ints_none W), i5, i6, (ints_none W)⟩
    | 1, _ => exact ⟨some ⟨B + 7, 0, none⟩, 1, some ⟨B + 8, 0, none⟩, 3, some ⟨B + 9, 0, none⟩, 2, some ⟨B + 10, 0, none⟩, 2, cell_arr (i := 6) h12 rfl, cell_arr (i := 7) h12 rfl, cell_arr (i := 8) h12 rfl, cell_arr (i := 9) h12 rfl, cell_arr (i := 10) h12 rfl, cell_arr (i := 11) h12 rfl, i7, i8, i9, i10⟩
    | 2, _ => exact ⟨none, 0, none, 0, none, 0, some ⟨B + 11, 0, none⟩, 1, cell_arr (i := 12) h12 rfl, cell_arr (i := 13) h12 rfl, cell_arr (i := 14) h12 rfl, cell_arr (i := 15) h12 rfl, cell_arr (i := 16) h12 rfl, cell_arr (i := 17) h12 rfl, (ints_none W), (ints_none W), (ints_none W), i11⟩
  refine ⟨Nat.le_of_ble_eq_true (by kernel_rfl), by decide, fun _ => ⟨B + 14, 0, rfl, hl 14 (by omega), fun i hi => ?_⟩⟩
  match i, hi with
  | 0, _ => exact ⟨none, 0, some ⟨B + 4, 0, none⟩, 7, some ⟨B + 12, 0, none⟩, 3, cell_arr (i := 0) h14 rfl, cell_arr (i := 1) h14 rfl, cell_arr (i := 2) h14 rfl, cell_arr (i := 3) h14 rfl, cell_arr (i := 4) h14 rfl, (ints_none W), hv0, hk0⟩
theorem re_new (m : Int) (w : World) (hTab : Tab w) : Calls Tryz.prog 5 #[.agg #[.slice (some ⟨w.heap.size + 14, 0, none⟩) 1 1, .int .i64 0], .slice none 0 0] (al w (reX m w.heap.size)) fun e w' => ∃ mb s d, s.mb = mb ∧ e = .returned (.tuple #[.pointer (some ⟨mb, 0, none⟩), .int .i64 0]) ∧ Mach [reF m] s d w' (rsM 0 0 [] [] [] 0) ∧ Below w.heap.size w w' ∧ ∀ k, foot s d k → w.heap.size ≤ k := by
  have bl := al_below (reX m w.heap.size) w
  refine (mNew_yes _ (hTab.below bl hTab.1) (n := 0) (FS := [reF m]) rfl (re_fus m w) (by show 1 ≤ 1000000; decide) (re_few m) (re_fewC m) (re_few10 m) (re_check m) (reF m) rfl (ints_none _) rfl (by decide) (rsM 0 0 [] [] [] 0) (re_begin m)).mono ?_
  intro e w' q
  obtain ⟨s, d, q1, q2, q3, q4, q5⟩ := q.out
  have := bl.size
  exact ⟨s.mb, s, d, rfl, q1, q2, bl.trans (q3.mono this), fun k hk => Nat.le_trans this (q5 k hk)⟩
/-- What the three calls leave: the two outcomes and the wanted one, in one world. -/
structure Three (w W : World) (g gx gy K : Nat) (x1 x2 x3 x4 : Int) (va oa ya : Option Addr) (vc oc yc : Nat) : Prop where
  bel : Below w.heap.size w W
  kg : W.heap[g]? = some (.cells #[.slice va K vc, .int .i64 x1, .int .i64 x2, .int .i64 x3, .int .i64 x4, .int .i64 0, .int .i64 1] 43 (0, 0))
  kx : W.heap[gx]? = some (.cells #[.slice oa K oc, .int .i64 x1, .int .i64 x2, .int .i64 x3, .int .i64 x4, .int .i64 0, .int .i64 1] 43 (0, 0))
  ky : W.heap[gy]? = some (.cells #[.slice ya K yc, .int .i64 x1, .int .i64 x2, .int .i64 x3, .int .i64 x4, .int .i64 0, .int .i64 1] 43 (0, 0))
  ev : Evs W va vc (uev K)
  eo : Evs W oa oc (uev K)
  ey : Evs W ya yc (uev K)
theorem Three.keep {w W W' g gx gy K x1 x2 x3 x4 va oa ya vc oc yc} (h : Three w W g gx gy K x1 x2 x3 x4 va oa ya vc oc yc) (b : Below W.heap.size W W') : Three w W' g gx gy K x1 x2 x3 x4 va oa ya vc oc yc :=
  ⟨h.bel.trans (b.mono h.bel.size), (b.block _ (Array.getElem?_eq_some_iff.1 h.kg).1).trans h.kg, (b.block _ (Array.getElem?_eq_some_iff.1 h.kx).1).trans h.kx, (b.block _ (Array.getElem?_eq_some_iff.1 h.ky).1).trans h.ky, h.ev.belowR b, h.eo.belowR b, h.ey.belowR b⟩
set_option maxRecDepth 100000 in
set_option maxHeartbeats 4000000 in
theorem rests_any (w : World) (hTab : Tab w) (m : Int) : Calls Tryz.prog 3 #[.int .i64 m] w fun e w' => e = .returned (.bool true) ∧ Below w.heap.size w w' := by
  have HAL : Hid _ := alive10_any w hTab
  have HT : Hid (Tab w) := hTab
  clear hTab
  by_cases hm : m < 1 ∨ 1100000 < m
  · by_cases h0 : m < 1
    · have q0 : decide (m < 1) = true := decide_eq_true h0
      clear hm
      go_enter Tryz.func3, Tryz.ntmps3
      go_upto_region 2 with (go_at_call 4; refine Calls.mono HAL.out ?_; rintro e wL ⟨rfl, bL⟩)
      go_wp2_with fail
      go_ret
      exact ⟨rfl, bL⟩
    · have q0 : decide (m < 1) = false := decide_eq_false h0
      have q1 : decide (1100000 < m) = true := decide_eq_true (by omega)
      clear hm
      go_enter Tryz.func3, Tryz.ntmps3
      go_upto_region 2 with (go_at_call 4; refine Calls.mono HAL.out ?_; rintro e wL ⟨rfl, bL⟩)
      go_wp2_with fail
      go_ret
      exact ⟨rfl, bL⟩
  have hm1 : 1 ≤ m ∧ m ≤ 1100000 := by omega
  clear hm
  have HNW : Hid (∀ W, Below w.heap.size w W → Calls Tryz.prog 5 #[.agg #[.slice (some ⟨W.heap.size + 14, 0, none⟩) 1 1, .int .i64 0], .slice none 0 0] (al W (reX m W.heap.size)) fun e w' => ∃ mb s d, s.mb = mb ∧ e = .returned (.tuple #[.pointer (some ⟨mb, 0, none⟩), .int .i64 0]) ∧ Mach [reF m] s d w' (rsM 0 0 [] [] [] 0) ∧ Below w.heap.size w w' ∧ ∀ k, foot s d k → w.heap.size ≤ k) := fun W hW => (re_new m W (HT.out.below hW HT.out.1)).mono fun e w' q => by
    obtain ⟨mb, s, d, q1, q2, q3, q4, q5⟩ := q
    exact ⟨mb, s, d, q1, q2, q3, hW.trans (q4.mono hW.size), fun k hk => Nat.le_trans hW.size (q5 k hk)⟩
  clear HT
  have q0 : decide (m < 1) = false := decide_eq_false (by omega)
  have q1 : decide (1100000 < m) = false := decide_eq_false (by omega)
  go_enter Tryz.func3, Tryz.ntmps3
  go_upto_region 2 with (go_at_call 4; refine Calls.mono HAL.out ?_; rintro e wL ⟨rfl, bL⟩)
  go_upto_region 8 with (go_at_call 5; refine (HNW.out wL bL).mono ?_; rintro e wN ⟨mb, s, d, hmb, rfl, hM, bN, hft⟩)
  have HMB : Hid (s.mb = mb) := hmb
  have HM : Hid (Mach [reF m] s d wN (rsM 0 0 [] [] [] 0)) := hM
  have HBN : Hid (Below w.heap.size w wN) := bN
  have HFT : Hid (∀ k, foot s d k → w.heap.size ≤ k) := hft
  clear HAL HNW bL bN hM hmb hft q0 q1
  go_upto_region 10 with fail
  obtain ⟨W8, hW8⟩ : ∃ W, W = wN.alloc (.cells #[.slice none 0 0, .int .i64 2, .int .i64 6, .int .i64 m, .int .i64 (5 + 5 * m), .int .i64 0, .int .i64 1] 43) := ⟨_, rfl⟩
  rw [← hW8]
  have k8 : W8.heap[wN.heap.size]? = some (.cells #[.slice none 0 0, .int .i64 2, .int .i64 6, .int .i64 m, .int .i64 (5 + 5 * m), .int .i64 0, .int .i64 1] 43 (0, 0)) := by rw [hW8]; exact heap_alloc_new _ _
  have b8 : Below wN.heap.size wN W8 := by rw [hW8]; exact below_new _ _
  have s8 : W8.heap.size = wN.heap.size + 1 := by rw [hW8]; simp
  have HB8 : Hid (Below wN.heap.size wN W8) := b8
  clear hW8 b8
  by_cases hbig : 1048576 < m
  · have q9 : decide (1048576 < m) = true := decide_eq_true hbig
    obtain ⟨KK, hK⟩ : ∃ K : Nat, K = 1048576 := ⟨_, rfl⟩
    have HRES : Hid (ResR m KK 0 0 0 5242885) := .inr ⟨hbig, hK, rfl, rfl, rfl, rfl⟩
    go_upto_region 13 with (refine wpList_store_row rfl 43 _ _ rfl _ _ rfl rfl 43 _ k8 (by kernel_rfl) rfl (by kernel_rfl) ?_)
    obtain ⟨W9, hW9⟩ : ∃ W, W = W8.setRow wN.heap.size #[.slice none 0 0, .int .i64 0, .int .i64 0, .int .i64 0, .int .i64 5242885, .int .i64 0, .int .i64 1] := ⟨_, rfl⟩
    rw [← hW9]
    have HWS : Hid (WantS wN.heap.size wN W9 0 0 0 5242885 0) := by
      have k9 := setRow_heap W8 wN.heap.size _ #[.slice none 0 0, .int .i64 0, .int .i64 0, .int .i64 0, .int .i64 5242885, .int .i64 0, .int .i64 1] _ _ k8
      rw [← hW9] at k9
      have oW : Only (fun k => k = wN.heap.size) W8 W9 := by rw [hW9]; exact ⟨rfl, rfl, rfl, by simp, fun k _ hn => setRow_other _ _ _ _ hn⟩
      exact ⟨_, k9, Row.nil _ _ _ _, HB8.out.trans (oW.below (by omega) fun k e => by have : k = wN.heap.size := e; omega)⟩
    clear k8 s8 hW9
    have e9 : (1048576 : Int) = (KK : Int) := by omega
    have hKm : KK ≤ 1048576 := by omega
    rw [e9]
    clear e9 hK hbig q9
    go_upto_region 14 with fail
    go_loopg [9] KK (fun q iv wr => ∃ i : Nat, i ≤ KK ∧ q = KK - i ∧ iv = .int .i64 (i : Int) ∧ Hid (WantS wN.heap.size wN wr 0 0 0 5242885 i))
    case atStart => exact ⟨0, by omega, by omega, rfl, HWS.out⟩
    case round =>
      clear HWS
      obtain ⟨i, hi, rfl, rfl, HS⟩ := hrel
      by_cases hlt : i < KK
      · obtain ⟨v, hb, hR, bN⟩ := HS.out.out
        obtain ⟨ao, c, ev, hc1, hc2⟩ := own_slice hR.out
        have hl : ((uev i).map evc).length = i := by simp [uev_len]
        rw [hl] at ev hc1
        subst ev
        have c0 : wr.cell? ⟨wN.heap.size, 0, none⟩ = some (.slice ao i c) := cell_arr hb rfl
        have hgl := (Array.getElem?_eq_some_iff.1 hb).1
        have HR : Hid (Row (wr.alloc (.cells #[.int .i64 1, .int .i64 (i : Int)] 45)) (wN.heap.size + 1) 45 2 (.slice ao i c) ((uev i).map evc)) := hR.keep (below_new _ _)
        have HNX : Hid (∀ v' w5, Row w5 (wN.heap.size + 1) 45 2 v' ((uev i).map evc ++ [[.int .i64 1, .int .i64 (i : Int)]]) → GI (wN.heap.size + 1) (wr.alloc (.cells #[.int .i64 1, .int .i64 (i : Int)] 45)) w5 (.slice ao i c) v' → WantS wN.heap.size wN (w5.setCell ⟨wN.heap.size, 0, none⟩ v') 0 0 0 5242885 (i + 1) ∧ w5.cell? ⟨wN.heap.size, 0, none⟩ = some (.slice ao i c) ∧ w5.frozen? ⟨wN.heap.size, 0, none⟩ = false) := fun v' w5 h5 g5 => want_next hb bN h5 g5
        have HCN : Hid (∀ j u, ([.int .i64 1, .int .i64 (i : Int)] : List Value)[j]? = some u → (wr.alloc (.cells #[.int .i64 1, .int .i64 (i : Int)] 45)).cell? ((⟨wr.heap.size, 0, none⟩ : Addr).add j) = some u) := cells_newR wr [.int .i64 1, .int .i64 (i : Int)] _
        have hsz : wN.heap.size + 1 ≤ (wr.alloc (.cells #[.int .i64 1, .int .i64 (i : Int)] 45)).heap.size := by simp; omega
        have hlx : ((uev i).map evc).length + 1 ≤ 1000000000 := by rw [hl]; omega
        clear hb hR bN HS hl
        go_wp2_with (first
          | (at_builtin; refine wpList_step fun K hK => ?_; refine step_append_row rfl _ _ 41 45 2 _ 16 rfl Tryz.underlying41 info_ev rfl (by decide) (by decide) (wN.heap.size + 1) (.slice ao i c) ((uev i).map evc) rfl HR.out wr.heap.size rfl [.int .i64 1, .int .i64 (i : Int)] rfl HCN.out (fun u hu => by simp at hu; rcases hu with rfl | rfl <;> rfl) hlx hsz ?_; intro v7 w7 h7 g7; refine hK _ _ ?_; clear hK
             obtain ⟨a7, c7, e7, _, _⟩ := own_slice h7.out
             obtain ⟨n7, hn7⟩ : ∃ n, n = ((uev i).map evc ++ [([.int .i64 1, .int .i64 (i : Int)] : List Value)]).length := ⟨_, rfl⟩
             rw [← hn7] at e7
             clear hn7
             subst e7
             have N := HNX.out _ w7 h7 g7
             have N1 : Hid _ := N.1
             have k7 := N.2.1
             have f7 := N.2.2
             clear N h7 g7)
          | go_in)
        go_roundg (KK - (i + 1))
        case rel => exact ⟨i + 1, by omega, rfl, by go_num, N1.out⟩
        case measure => omega
      · have hiK : i = KK := by omega
        rw [hiK] at HS
        obtain ⟨v, hb, hR, bN⟩ := HS.out.out
        have s0 := bN.size
        have HRN : Hid (Calls Tryz.prog 6 #[.pointer (some ⟨mb, 0, none⟩), .int .i64 10000000] wr fun e w' => ∃ ao c d' MF va vc, e = .returned (.tuple #[.agg #[.slice ao KK c, .int .i64 0, .int .i64 0, .int .i64 0, .int .i64 5242885, .int .i64 0, .int .i64 1], .int .i64 0]) ∧ Evs w' ao c (uev KK) ∧ Over10 s d' w' MF ∧ MF.over = true ∧ (∀ v, otv v MF = .agg #[v, .int .i64 0, .int .i64 0, .int .i64 0, .int .i64 5242885, .int .i64 0, .int .i64 1]) ∧ MF.ev = uev KK ∧ w'.heap[wN.heap.size]? = some (.cells #[.slice va KK vc, .int .i64 0, .int .i64 0, .int .i64 0, .int .i64 5242885, .int .i64 0, .int .i64 1] 43 (0, 0)) ∧ Evs w' va vc (uev KK) ∧ Below w.heap.size w w') := by
          refine (HMB.out ▸ re_run1 _ HRES.out (HM.out.below bN)).mono ?_
          rintro e w' ⟨ao, c, d', MF, rfl, q2, q3, q4, q5, q6, q7⟩
          have nf : ∀ b, wN.heap.size ≤ b → ¬ foot s d b := fun b hb' hf => by have := HM.out.foot_lt b hf; omega
          have R2 := hR.move (w' := w') fun b hb' => q7.block b (own_block hR.out hb').2 (nf b (by have := (own_block hR.out hb').1; omega))
          obtain ⟨va, vc, rfl, hE⟩ := evs_of R2
          rw [uev_len] at hb
          have bw : Below w.heap.size w wr := HBN.out.trans (bN.mono HBN.out.size)
          exact ⟨ao, c, d', MF, va, vc, rfl, q2, q3, q4, q5, q6, (q7.block _ (Array.getElem?_eq_some_iff.1 hb).1 (nf _ (Nat.le_refl _))).trans hb, hE, bw.trans (q7.below bw.size HFT.out)⟩
        clear hb hR bN HS s0 HM HBN HFT
        go_upto_region 18 with (go_at_call 6; refine Calls.mono HRN.out ?_; rintro e wR ⟨ao, c, d', MF, va, vc, rfl, q2, q3, q4, q5, q6, q7, q8, q9⟩)
        obtain ⟨W5, hW5⟩ : ∃ W, W = wR.alloc (.cells #[.slice ao KK c, .int .i64 0, .int .i64 0, .int .i64 0, .int .i64 5242885, .int .i64 0, .int .i64 1] 43) := ⟨_, rfl⟩
        rw [← hW5]
        have k5 : W5.heap[wR.heap.size]? = some (.cells #[.slice ao KK c, .int .i64 0, .int .i64 0, .int .i64 0, .int .i64 5242885, .int .i64 0, .int .i64 1] 43 (0, 0)) := by rw [hW5]; exact heap_alloc_new _ _
        have b5 : Below wR.heap.size wR W5 := by rw [hW5]; exact below_new _ _
        have HST : Hid (Calls Tryz.prog 7 #[.pointer (some ⟨mb, 0, none⟩)] W5 fun e w' => e = .returned (.bool false) ∧ W5 = w') := HMB.out ▸ mStep_no (q3.below b5) q4
        have HRV : Hid (Calls Tryz.prog 6 #[.pointer (some ⟨mb, 0, none⟩), .int .i64 1099511627776] W5 fun e w' => ∃ ya yc, e = .returned (.tuple #[.agg #[.slice ya KK yc, .int .i64 0, .int .i64 0, .int .i64 0, .int .i64 5242885, .int .i64 0, .int .i64 1], .int .i64 0]) ∧ Three w (w'.alloc (.cells #[.slice ya KK yc, .int .i64 0, .int .i64 0, .int .i64 0, .int .i64 5242885, .int .i64 0, .int .i64 1] 43)) wN.heap.size wR.heap.size w'.heap.size KK 0 0 0 5242885 va ao ya vc c yc) := by
          refine (HMB.out ▸ mRun_over (q3.below b5) q4 (fuel := 1099511627776) (by omega)).mono ?_
          rintro e w' ⟨v, B, rfl, hR, b6⟩
          rw [q6] at hR
          obtain ⟨ya, yc, rfl, hE⟩ := evs_of hR
          refine ⟨ya, yc, by rw [q5, uev_len], ?_⟩
          have b7 := below_new w' (.cells #[.slice ya KK yc, .int .i64 0, .int .i64 0, .int .i64 0, .int .i64 5242885, .int .i64 0, .int .i64 1] 43)
          have b57 : Below W5.heap.size W5 (w'.alloc (.cells #[.slice ya KK yc, .int .i64 0, .int .i64 0, .int .i64 0, .int .i64 5242885, .int .i64 0, .int .i64 1] 43)) := b6.trans (b7.mono b6.size)
          have bR7 := b5.trans (b57.mono b5.size)
          exact ⟨q9.trans (bR7.mono q9.size), (bR7.block _ (Array.getElem?_eq_some_iff.1 q7).1).trans q7, (b57.block _ (Array.getElem?_eq_some_iff.1 k5).1).trans k5, heap_alloc_new _ _, q8.belowR bR7, q2.belowR bR7, hE.belowR b7⟩
        clear q2 q3 q4 q5 q6 q7 q8 q9 k5 b5 hW5 HRN HMB
        go_upto_region 19 with (go_at_call 7; refine Calls.mono HST.out ?_; rintro e w6 ⟨rfl, rfl⟩)
        go_upto_region 20 with (go_at_call 6; refine Calls.mono HRV.out ?_; rintro e wV ⟨ya, yc, rfl, hT⟩)
        obtain ⟨W6, hW6⟩ : ∃ W, W = wV.alloc (.cells #[.slice ya KK yc, .int .i64 0, .int .i64 0, .int .i64 0, .int .i64 5242885, .int .i64 0, .int .i64 1] 43) := ⟨_, rfl⟩
        rw [← hW6] at hT ⊢
        clear hW6 HST HRV
        have o0 : W6.cell? ⟨wR.heap.size, 0, none⟩ = some (.slice ao KK c) := cell_arr hT.kx rfl
        have g0 : W6.cell? ⟨wN.heap.size, 0, none⟩ = some (.slice va KK vc) := cell_arr hT.kg rfl
        have o1 : W6.cell? ⟨wR.heap.size, 1, none⟩ = some (.int .i64 0) := cell_arr hT.kx rfl
        have g1 : W6.cell? ⟨wN.heap.size, 1, none⟩ = some (.int .i64 0) := cell_arr hT.kg rfl
        have o2 : W6.cell? ⟨wR.heap.size, 2, none⟩ = some (.int .i64 0) := cell_arr hT.kx rfl
        have g2 : W6.cell? ⟨wN.heap.size, 2, none⟩ = some (.int .i64 0) := cell_arr hT.kg rfl
        have o3 : W6.cell? ⟨wR.heap.size, 3, none⟩ = some (.int .i64 0) := cell_arr hT.kx rfl
        have g3 : W6.cell? ⟨wN.heap.size, 3, none⟩ = some (.int .i64 0) := cell_arr hT.kg rfl
        have o4 : W6.cell? ⟨wR.heap.size, 4, none⟩ = some (.int .i64 5242885) := cell_arr hT.kx rfl
        have g4 : W6.cell? ⟨wN.heap.size, 4, none⟩ = some (.int .i64 5242885) := cell_arr hT.kg rfl
        have o5 : W6.cell? ⟨wR.heap.size, 5, none⟩ = some (.int .i64 0) := cell_arr hT.kx rfl
        have g5 : W6.cell? ⟨wN.heap.size, 5, none⟩ = some (.int .i64 0) := cell_arr hT.kg rfl
        have o6 : W6.cell? ⟨wR.heap.size, 6, none⟩ = some (.int .i64 1) := cell_arr hT.kx rfl
        have g6 : W6.cell? ⟨wN.heap.size, 6, none⟩ = some (.int .i64 1) := cell_arr hT.kg rfl
        have l1 := (Array.getElem?_eq_some_iff.1 hT.kx).1
        have l2 := (Array.getElem?_eq_some_iff.1 hT.kg).1
        have HS1 : Hid (Calls Tryz.prog 8 #[.agg #[.slice ao KK c, .int .i64 0, .int .i64 0, .int .i64 0, .int .i64 5242885, .int .i64 0, .int .i64 1], .agg #[.slice va KK vc, .int .i64 0, .int .i64 0, .int .i64 0, .int .i64 5242885, .int .i64 0, .int .i64 1]] W6 fun e w' => e = .returned (.bool true) ∧ Three w w' wN.heap.size wR.heap.size wV.heap.size KK 0 0 0 5242885 va ao ya vc c yc) := (sameO_any W6 0 0 0 5242885 0 1 hT.eo hT.ev (uev_len _).symm).mono fun e w' q => ⟨q.1, hT.keep q.2⟩
        have HS2 : Hid (∀ W, Three w W wN.heap.size wR.heap.size wV.heap.size KK 0 0 0 5242885 va ao ya vc c yc → Calls Tryz.prog 8 #[.agg #[.slice ya KK yc, .int .i64 0, .int .i64 0, .int .i64 0, .int .i64 5242885, .int .i64 0, .int .i64 1], .agg #[.slice va KK vc, .int .i64 0, .int .i64 0, .int .i64 0, .int .i64 5242885, .int .i64 0, .int .i64 1]] W fun e w' => e = .returned (.bool true) ∧ Below w.heap.size w w') := fun W h => (sameO_any W 0 0 0 5242885 0 1 h.ey h.ev (uev_len _).symm).mono fun e w' q => ⟨q.1, h.bel.trans (q.2.mono h.bel.size)⟩
        clear hT
        have st0 : True := trivial
        go_wp2_with (go_at_call 8; first
          | (clear st0; refine Calls.mono HS1.out ?_; rintro e wS ⟨rfl, hT2⟩
             clear o0 o1 o2 o3 o4 o5 o6 g0 g1 g2 g3 g4 g5 g6 l1 l2 HS1
             have HT2 : Hid _ := hT2
             have y0 : wS.cell? ⟨wV.heap.size, 0, none⟩ = some (.slice ya KK yc) := cell_arr hT2.ky rfl
             have z0 : wS.cell? ⟨wN.heap.size, 0, none⟩ = some (.slice va KK vc) := cell_arr hT2.kg rfl
             have y1 : wS.cell? ⟨wV.heap.size, 1, none⟩ = some (.int .i64 0) := cell_arr hT2.ky rfl
             have z1 : wS.cell? ⟨wN.heap.size, 1, none⟩ = some (.int .i64 0) := cell_arr hT2.kg rfl
             have y2 : wS.cell? ⟨wV.heap.size, 2, none⟩ = some (.int .i64 0) := cell_arr hT2.ky rfl
             have z2 : wS.cell? ⟨wN.heap.size, 2, none⟩ = some (.int .i64 0) := cell_arr hT2.kg rfl
             have y3 : wS.cell? ⟨wV.heap.size, 3, none⟩ = some (.int .i64 0) := cell_arr hT2.ky rfl
             have z3 : wS.cell? ⟨wN.heap.size, 3, none⟩ = some (.int .i64 0) := cell_arr hT2.kg rfl
             have y4 : wS.cell? ⟨wV.heap.size, 4, none⟩ = some (.int .i64 5242885) := cell_arr hT2.ky rfl
             have z4 : wS.cell? ⟨wN.heap.size, 4, none⟩ = some (.int .i64 5242885) := cell_arr hT2.kg rfl
             have y5 : wS.cell? ⟨wV.heap.size, 5, none⟩ = some (.int .i64 0) := cell_arr hT2.ky rfl
             have z5 : wS.cell? ⟨wN.heap.size, 5, none⟩ = some (.int .i64 0) := cell_arr hT2.kg rfl
             have y6 : wS.cell? ⟨wV.heap.size, 6, none⟩ = some (.int .i64 1) := cell_arr hT2.ky rfl
             have z6 : wS.cell? ⟨wN.heap.size, 6, none⟩ = some (.int .i64 1) := cell_arr hT2.kg rfl
             have l3 := (Array.getElem?_eq_some_iff.1 hT2.ky).1
             have l4 := (Array.getElem?_eq_some_iff.1 hT2.kg).1
             clear hT2)
          | (refine (HS2.out _ HT2.out).mono ?_; rintro e wZ ⟨rfl, bZ⟩))
        go_ret
        exact ⟨rfl, bZ⟩
  · have q9 : decide (1048576 < m) = false := decide_eq_false hbig
    obtain ⟨KK, rfl⟩ : ∃ K : Nat, m = (K : Int) := ⟨m.toNat, by omega⟩
    have HRES : Hid (ResR (KK : Int) KK 2 6 (KK : Int) (5 + 5 * (KK : Int))) := .inl ⟨by omega, by omega, rfl, rfl, rfl, rfl, rfl⟩
    have HWS : Hid (WantS wN.heap.size wN W8 2 6 (KK : Int) (5 + 5 * (KK : Int)) 0) := ⟨_, k8, Row.nil _ _ _ _, HB8.out⟩
    have hKm : KK ≤ 1048576 := by omega
    clear k8 s8
    go_upto_region 14 with fail
    go_loopg [9] KK (fun q iv wr => ∃ i : Nat, i ≤ KK ∧ q = KK - i ∧ iv = .int .i64 (i : Int) ∧ Hid (WantS wN.heap.size wN wr 2 6 (KK : Int) (5 + 5 * (KK : Int)) i))
    case atStart => exact ⟨0, by omega, by omega, rfl, HWS.out⟩
    case round =>
      clear HWS
      obtain ⟨i, hi, rfl, rfl, HS⟩ := hrel
      by_cases hlt : i < KK
      · obtain ⟨v, hb, hR, bN⟩ := HS.out.out
        obtain ⟨ao, c, ev, hc1, hc2⟩ := own_slice hR.out
        have hl : ((uev i).map evc).length = i := by simp [uev_len]
        rw [hl] at ev hc1
        subst ev
        have c0 : wr.cell? ⟨wN.heap.size, 0, none⟩ = some (.slice ao i c) := cell_arr hb rfl
        have hgl := (Array.getElem?_eq_some_iff.1 hb).1
        have HR : Hid (Row (wr.alloc (.cells #[.int .i64 1, .int .i64 (i : Int)] 45)) (wN.heap.size + 1) 45 2 (.slice ao i c) ((uev i).map evc)) := hR.keep (below_new _ _)
        have HNX : Hid (∀ v' w5, Row w5 (wN.heap.size + 1) 45 2 v' ((uev i).map evc ++ [[.int .i64 1, .int .i64 (i : Int)]]) → GI (wN.heap.size + 1) (wr.alloc (.cells #[.int .i64 1, .int .i64 (i : Int)] 45)) w5 (.slice ao i c) v' → WantS wN.heap.size wN (w5.setCell ⟨wN.heap.size, 0, none⟩ v') 2 6 (KK : Int) (5 + 5 * (KK : Int)) (i + 1) ∧ w5.cell? ⟨wN.heap.size, 0, none⟩ = some (.slice ao i c) ∧ w5.frozen? ⟨wN.heap.size, 0, none⟩ = false) := fun v' w5 h5 g5 => want_next hb bN h5 g5
        have HCN : Hid (∀ j u, ([.int .i64 1, .int .i64 (i : Int)] : List Value)[j]? = some u → (wr.alloc (.cells #[.int .i64 1, .int .i64 (i : Int)] 45)).cell? ((⟨wr.heap.size, 0, none⟩ : Addr).add j) = some u) := cells_newR wr [.int .i64 1, .int .i64 (i : Int)] _
        have hsz : wN.heap.size + 1 ≤ (wr.alloc (.cells #[.int .i64 1, .int .i64 (i : Int)] 45)).heap.size := by simp; omega
        have hlx : ((uev i).map evc).length + 1 ≤ 1000000000 := by rw [hl]; omega
        clear hb hR bN HS hl
        go_wp2_with (first
          | (at_builtin; refine wpList_step fun K hK => ?_; refine step_append_row rfl _ _ 41 45 2 _ 16 rfl Tryz.underlying41 info_ev rfl (by decide) (by decide) (wN.heap.size + 1) (.slice ao i c) ((uev i).map evc) rfl HR.out wr.heap.size rfl [.int .i64 1, .int .i64 (i : Int)] rfl HCN.out (fun u hu => by simp at hu; rcases hu with rfl | rfl <;> rfl) hlx hsz ?_; intro v7 w7 h7 g7; refine hK _ _ ?_; clear hK
             obtain ⟨a7, c7, e7, _, _⟩ := own_slice h7.out
             obtain ⟨n7, hn7⟩ : ∃ n, n = ((uev i).map evc ++ [([.int .i64 1, .int .i64 (i : Int)] : List Value)]).length := ⟨_, rfl⟩
             rw [← hn7] at e7
             clear hn7
             subst e7
             have N := HNX.out _ w7 h7 g7
             have N1 : Hid _ := N.1
             have k7 := N.2.1
             have f7 := N.2.2
             clear N h7 g7)
          | go_in)
        go_roundg (KK - (i + 1))
        case rel => exact ⟨i + 1, by omega, rfl, by go_num, N1.out⟩
        case measure => omega
      · have hiK : i = KK := by omega
        rw [hiK] at HS
        obtain ⟨v, hb, hR, bN⟩ := HS.out.out
        have s0 := bN.size
        have HRN : Hid (Calls Tryz.prog 6 #[.pointer (some ⟨mb, 0, none⟩), .int .i64 10000000] wr fun e w' => ∃ ao c d' MF va vc, e = .returned (.tuple #[.agg #[.slice ao KK c, .int .i64 2, .int .i64 6, .int .i64 (KK : Int), .int .i64 (5 + 5 * (KK : Int)), .int .i64 0, .int .i64 1], .int .i64 0]) ∧ Evs w' ao c (uev KK) ∧ Over10 s d' w' MF ∧ MF.over = true ∧ (∀ v, otv v MF = .agg #[v, .int .i64 2, .int .i64 6, .int .i64 (KK : Int), .int .i64 (5 + 5 * (KK : Int)), .int .i64 0, .int .i64 1]) ∧ MF.ev = uev KK ∧ w'.heap[wN.heap.size]? = some (.cells #[.slice va KK vc, .int .i64 2, .int .i64 6, .int .i64 (KK : Int), .int .i64 (5 + 5 * (KK : Int)), .int .i64 0, .int .i64 1] 43 (0, 0)) ∧ Evs w' va vc (uev KK) ∧ Below w.heap.size w w') := by
          refine (HMB.out ▸ re_run1 _ HRES.out (HM.out.below bN)).mono ?_
          rintro e w' ⟨ao, c, d', MF, rfl, q2, q3, q4, q5, q6, q7⟩
          have nf : ∀ b, wN.heap.size ≤ b → ¬ foot s d b := fun b hb' hf => by have := HM.out.foot_lt b hf; omega
          have R2 := hR.move (w' := w') fun b hb' => q7.block b (own_block hR.out hb').2 (nf b (by have := (own_block hR.out hb').1; omega))
          obtain ⟨va, vc, rfl, hE⟩ := evs_of R2
          rw [uev_len] at hb
          have bw : Below w.heap.size w wr := HBN.out.trans (bN.mono HBN.out.size)
          exact ⟨ao, c, d', MF, va, vc, rfl, q2, q3, q4, q5, q6, (q7.block _ (Array.getElem?_eq_some_iff.1 hb).1 (nf _ (Nat.le_refl _))).trans hb, hE, bw.trans (q7.below bw.size HFT.out)⟩
        clear hb hR bN HS s0 HM HBN HFT
        go_upto_region 18 with (go_at_call 6; refine Calls.mono HRN.out ?_; rintro e wR ⟨ao, c, d', MF, va, vc, rfl, q2, q3, q4, q5, q6, q7, q8, q9⟩)
        obtain ⟨W5, hW5⟩ : ∃ W, W = wR.alloc (.cells #[.slice ao KK c, .int .i64 2, .int .i64 6, .int .i64 (KK : Int), .int .i64 (5 + 5 * (KK : Int)), .int .i64 0, .int .i64 1] 43) := ⟨_, rfl⟩
        rw [← hW5]
        have k5 : W5.heap[wR.heap.size]? = some (.cells #[.slice ao KK c, .int .i64 2, .int .i64 6, .int .i64 (KK : Int), .int .i64 (5 + 5 * (KK : Int)), .int .i64 0, .int .i64 1] 43 (0, 0)) := by rw [hW5]; exact heap_alloc_new _ _
        have b5 : Below wR.heap.size wR W5 := by rw [hW5]; exact below_new _ _
        have HST : Hid (Calls Tryz.prog 7 #[.pointer (some ⟨mb, 0, none⟩)] W5 fun e w' => e = .returned (.bool false) ∧ W5 = w') := HMB.out ▸ mStep_no (q3.below b5) q4
        have HRV : Hid (Calls Tryz.prog 6 #[.pointer (some ⟨mb, 0, none⟩), .int .i64 1099511627776] W5 fun e w' => ∃ ya yc, e = .returned (.tuple #[.agg #[.slice ya KK yc, .int .i64 2, .int .i64 6, .int .i64 (KK : Int), .int .i64 (5 + 5 * (KK : Int)), .int .i64 0, .int .i64 1], .int .i64 0]) ∧ Three w (w'.alloc (.cells #[.slice ya KK yc, .int .i64 2, .int .i64 6, .int .i64 (KK : Int), .int .i64 (5 + 5 * (KK : Int)), .int .i64 0, .int .i64 1] 43)) wN.heap.size wR.heap.size w'.heap.size KK 2 6 (KK : Int) (5 + 5 * (KK : Int)) va ao ya vc c yc) := by
          refine (HMB.out ▸ mRun_over (q3.below b5) q4 (fuel := 1099511627776) (by omega)).mono ?_
          rintro e w' ⟨v, B, rfl, hR, b6⟩
          rw [q6] at hR
          obtain ⟨ya, yc, rfl, hE⟩ := evs_of hR
          refine ⟨ya, yc, by rw [q5, uev_len], ?_⟩
          have b7 := below_new w' (.cells #[.slice ya KK yc, .int .i64 2, .int .i64 6, .int .i64 (KK : Int), .int .i64 (5 + 5 * (KK : Int)), .int .i64 0, .int .i64 1] 43)
          have b57 : Below W5.heap.size W5 (w'.alloc (.cells #[.slice ya KK yc, .int .i64 2, .int .i64 6, .int .i64 (KK : Int), .int .i64 (5 + 5 * (KK : Int)), .int .i64 0, .int .i64 1] 43)) := b6.trans (b7.mono b6.size)
          have bR7 := b5.trans (b57.mono b5.size)
          exact ⟨q9.trans (bR7.mono q9.size), (bR7.block _ (Array.getElem?_eq_some_iff.1 q7).1).trans q7, (b57.block _ (Array.getElem?_eq_some_iff.1 k5).1).trans k5, heap_alloc_new _ _, q8.belowR bR7, q2.belowR bR7, hE.belowR b7⟩
        clear q2 q3 q4 q5 q6 q7 q8 q9 k5 b5 hW5 HRN HMB
        go_upto_region 19 with (go_at_call 7; refine Calls.mono HST.out ?_; rintro e w6 ⟨rfl, rfl⟩)
        go_upto_region 20 with (go_at_call 6; refine Calls.mono HRV.out ?_; rintro e wV ⟨ya, yc, rfl, hT⟩)
        obtain ⟨W6, hW6⟩ : ∃ W, W = wV.alloc (.cells #[.slice ya KK yc, .int .i64 2, .int .i64 6, .int .i64 (KK : Int), .int .i64 (5 + 5 * (KK : Int)), .int .i64 0, .int .i64 1] 43) := ⟨_, rfl⟩
        rw [← hW6] at hT ⊢
        clear hW6 HST HRV
        have o0 : W6.cell? ⟨wR.heap.size, 0, none⟩ = some (.slice ao KK c) := cell_arr hT.kx rfl
        have g0 : W6.cell? ⟨wN.heap.size, 0, none⟩ = some (.slice va KK vc) := cell_arr hT.kg rfl
        have o1 : W6.cell? ⟨wR.heap.size, 1, none⟩ = some (.int .i64 2) := cell_arr hT.kx rfl
        have g1 : W6.cell? ⟨wN.heap.size, 1, none⟩ = some (.int .i64 2) := cell_arr hT.kg rfl
        have o2 : W6.cell? ⟨wR.heap.size, 2, none⟩ = some (.int .i64 6) := cell_arr hT.kx rfl
        have g2 : W6.cell? ⟨wN.heap.size, 2, none⟩ = some (.int .i64 6) := cell_arr hT.kg rfl
        have o3 : W6.cell? ⟨wR.heap.size, 3, none⟩ = some (.int .i64 (KK : Int)) := cell_arr hT.kx rfl
        have g3 : W6.cell? ⟨wN.heap.size, 3, none⟩ = some (.int .i64 (KK : Int)) := cell_arr hT.kg rfl
        have o4 : W6.cell? ⟨wR.heap.size, 4, none⟩ = some (.int .i64 (5 + 5 * (KK : Int))) := cell_arr hT.kx rfl
        have g4 : W6.cell? ⟨wN.heap.size, 4, none⟩ = some (.int .i64 (5 + 5 * (KK : Int))) := cell_arr hT.kg rfl
        have o5 : W6.cell? ⟨wR.heap.size, 5, none⟩ = some (.int .i64 0) := cell_arr hT.kx rfl
        have g5 : W6.cell? ⟨wN.heap.size, 5, none⟩ = some (.int .i64 0) := cell_arr hT.kg rfl
        have o6 : W6.cell? ⟨wR.heap.size, 6, none⟩ = some (.int .i64 1) := cell_arr hT.kx rfl
        have g6 : W6.cell? ⟨wN.heap.size, 6, none⟩ = some (.int .i64 1) := cell_arr hT.kg rfl
        have l1 := (Array.getElem?_eq_some_iff.1 hT.kx).1
        have l2 := (Array.getElem?_eq_some_iff.1 hT.kg).1
        have HS1 : Hid (Calls Tryz.prog 8 #[.agg #[.slice ao KK c, .int .i64 2, .int .i64 6, .int .i64 (KK : Int), .int .i64 (5 + 5 * (KK : Int)), .int .i64 0, .int .i64 1], .agg #[.slice va KK vc, .int .i64 2, .int .i64 6, .int .i64 (KK : Int), .int .i64 (5 + 5 * (KK : Int)), .int .i64 0, .int .i64 1]] W6 fun e w' => e = .returned (.bool true) ∧ Three w w' wN.heap.size wR.heap.size wV.heap.size KK 2 6 (KK : Int) (5 + 5 * (KK : Int)) va ao ya vc c yc) := (sameO_any W6 2 6 (KK : Int) (5 + 5 * (KK : Int)) 0 1 hT.eo hT.ev (uev_len _).symm).mono fun e w' q => ⟨q.1, hT.keep q.2⟩
        have HS2 : Hid (∀ W, Three w W wN.heap.size wR.heap.size wV.heap.size KK 2 6 (KK : Int) (5 + 5 * (KK : Int)) va ao ya vc c yc → Calls Tryz.prog 8 #[.agg #[.slice ya KK yc, .int .i64 2, .int .i64 6, .int .i64 (KK : Int), .int .i64 (5 + 5 * (KK : Int)), .int .i64 0, .int .i64 1], .agg #[.slice va KK vc, .int .i64 2, .int .i64 6, .int .i64 (KK : Int), .int .i64 (5 + 5 * (KK : Int)), .int .i64 0, .int .i64 1]] W fun e w' => e = .returned (.bool true) ∧ Below w.heap.size w w') := fun W h => (sameO_any W 2 6 (KK : Int) (5 + 5 * (KK : Int)) 0 1 h.ey h.ev (uev_len _).symm).mono fun e w' q => ⟨q.1, h.bel.trans (q.2.mono h.bel.size)⟩
        clear hT
        have st0 : True := trivial
        go_wp2_with (go_at_call 8; first
          | (clear st0; refine Calls.mono HS1.out ?_; rintro e wS ⟨rfl, hT2⟩
             clear o0 o1 o2 o3 o4 o5 o6 g0 g1 g2 g3 g4 g5 g6 l1 l2 HS1
             have HT2 : Hid _ := hT2
             have y0 : wS.cell? ⟨wV.heap.size, 0, none⟩ = some (.slice ya KK yc) := cell_arr hT2.ky rfl
             have z0 : wS.cell? ⟨wN.heap.size, 0, none⟩ = some (.slice va KK vc) := cell_arr hT2.kg rfl
             have y1 : wS.cell? ⟨wV.heap.size, 1, none⟩ = some (.int .i64 2) := cell_arr hT2.ky rfl
             have z1 : wS.cell? ⟨wN.heap.size, 1, none⟩ = some (.int .i64 2) := cell_arr hT2.kg rfl
             have y2 : wS.cell? ⟨wV.heap.size, 2, none⟩ = some (.int .i64 6) := cell_arr hT2.ky rfl
             have z2 : wS.cell? ⟨wN.heap.size, 2, none⟩ = some (.int .i64 6) := cell_arr hT2.kg rfl
             have y3 : wS.cell? ⟨wV.heap.size, 3, none⟩ = some (.int .i64 (KK : Int)) := cell_arr hT2.ky rfl
             have z3 : wS.cell? ⟨wN.heap.size, 3, none⟩ = some (.int .i64 (KK : Int)) := cell_arr hT2.kg rfl
             have y4 : wS.cell? ⟨wV.heap.size, 4, none⟩ = some (.int .i64 (5 + 5 * (KK : Int))) := cell_arr hT2.ky rfl
             have z4 : wS.cell? ⟨wN.heap.size, 4, none⟩ = some (.int .i64 (5 + 5 * (KK : Int))) := cell_arr hT2.kg rfl
             have y5 : wS.cell? ⟨wV.heap.size, 5, none⟩ = some (.int .i64 0) := cell_arr hT2.ky rfl
             have z5 : wS.cell? ⟨wN.heap.size, 5, none⟩ = some (.int .i64 0) := cell_arr hT2.kg rfl
             have y6 : wS.cell? ⟨wV.heap.size, 6, none⟩ = some (.int .i64 1) := cell_arr hT2.ky rfl
             have z6 : wS.cell? ⟨wN.heap.size, 6, none⟩ = some (.int .i64 1) := cell_arr hT2.kg rfl
             have l3 := (Array.getElem?_eq_some_iff.1 hT2.ky).1
             have l4 := (Array.getElem?_eq_some_iff.1 hT2.kg).1
             clear hT2)
          | (refine (HS2.out _ HT2.out).mono ?_; rintro e wZ ⟨rfl, bZ⟩))
        go_ret
        exact ⟨rfl, bZ⟩
end Go.Proofs.YtfbkopjncmkbiabGreatDoor
