import Derived.Test.YteplldbhfjfbpaaGreatDoorVcO
import Derived.Test.YteplldbhfjfbpaaGreatDoorVcL
import Derived.Test.YteplldbhfjfbpaaGreatDoorJbb
import Derived.Deep.Cut
import Derived.Deep.CutRange
set_option linter.unusedVariables false
set_option linter.unusedSimpArgs false
namespace Go.Proofs.YteplldbhfjfbpaaGreatDoor
open Go.ChangeShapes Go.WideShapes Go.ChangeAt Go.RowKit Go.Maps

theorem made_oneR (n : Nat) : madeCells #[.int .i64 0] n = ((List.replicate n (0 : Int)).map (Value.int .i64)).toArray := by
  apply Array.ext
  · simp [madeCells]
  · intro i h1 h2
    have e1 : (madeCells #[.int .i64 0] n)[i] = .int .i64 0 := by
      simp only [madeCells, Array.getElem_map, Array.getElem_range]
      have hz : i % 1 = 0 := by omega
      show #[Value.int .i64 0][i % 1]! = _; rw [hz]; rfl
    rw [e1]
    simp
theorem run_intsR (n : Nat) (h : n ≤ 100000000) (w : World) : (Instr.makeSlice 51 (.int .i64 (n : Int)) (.int .i64 (n : Int))).run Tryz.prog w = .ok (.slice (some ⟨w.heap.size, 0, none⟩) n n) (w.alloc (.cells (ivs (List.replicate n (0 : Int))).toArray 3)) := by
  have info3r : (Tryz.prog.info? 3).map (fun i => (i.zero, i.size, i.bytes)) = some (some (.int .i64 0), 1, 8) := by kernel_rfl
  obtain ⟨i0, hi, hz0, hz1, hz2⟩ := info_parts info3r
  have hr := run_make (P := Tryz.prog) w 51 3 i0 (.int .i64 0) Tryz.underlying51 hi hz0 .i64 .i64 n n (by omega) (by omega) (by rw [hz2]; omega) (by omega)
  simp only [Int.toNat_natCast, hz1, Nat.mul_one] at hr
  rw [show ivs (List.replicate n (0 : Int)) = (List.replicate n (0 : Int)).map (Value.int .i64) from rfl, ← made_oneR]
  exact hr
theorem size_lt {w : World} {g : Nat} {A : Obj} (h : w.heap[g]? = some A) : g < w.heap.size := (Array.getElem?_eq_some_iff.1 h).1
/-- R16Errors' memory ahead of New. -/
structure ErX (w W : World) (p q L : Nat) (m S r : Int) : Prop where
  lim : W.heap[p]? = some (.cells #[.int .i64 S, .int .i64 r] 35 (0, 0))
  box : W.heap[q]? = some (.cells #[.slice (some ⟨L + 1, 0, none⟩) 8 8, .slice (some ⟨L + 2, 0, none⟩) 1 1, .int .i64 m] 29 (0, 0))
  sm : SmL w W L
  lt : w.heap.size ≤ p ∧ p < q ∧ L + 2 < q
theorem ErX.set {w W p q L m S r} (h : ErX w W p q L m S r) (k : Int) : ErX w (W.setCell ⟨q, 2, none⟩ (.int .i64 k)) p q L k S r :=
  ⟨(heap_set_other (by have := h.lt; omega)).trans h.lim, heap_set_at h.box, h.sm.set (by have := h.lt; omega) h.lt.2.2 _ _, h.lt⟩
theorem ErX.below {w W W' p q L m S r} (h : ErX w W p q L m S r) (b : Below W.heap.size W W') : ErX w W' p q L m S r :=
  ⟨(b.block _ (size_lt h.lim)).trans h.lim, (b.block _ (size_lt h.box)).trans h.box, h.sm.below b (Nat.le_refl _), h.lt⟩
/-- What New is to answer. -/
def erWant (sp : Bool) (n : Nat) (S r : Int) : Int := if sp = true then 210 else if 1048576 < n then 4 else if (decide (0 ≤ S ∧ S ≤ 1099511627776) && decide (0 ≤ r ∧ r ≤ 1099511627776)) = false then 5 else 0
theorem er_form1 : formR smC smF (-1) = false := by decide +kernel
theorem er_want (sp : Bool) (n : Nat) (S r : Int) : newErr smC smF (if sp = true then -1 else 0) n S r = erWant sp n S r := by
  unfold newErr erWant
  cases sp with
  | true => rw [if_pos rfl, if_pos rfl, if_pos er_form1]
  | false =>
    rw [show (if (false : Bool) = true then (-1 : Int) else 0) = 0 from rfl, if_neg (by rw [sm_form]; simp)]
    exact (if_neg (by simp)).symm
set_option maxRecDepth 100000 in
set_option maxHeartbeats 4000000 in
theorem r16Errors_in (w : World) (hTab : Tab w) (o z S r : Int) (hS : Fits S) (hr : Fits r) (n : Nat) (hn : 1 ≤ n ∧ n ≤ 1048577) (sp : Bool) (hsp : (bits BinOp.and IntKind.i64 o 3 == 1) = sp) (k7 : Nat) (h7 : bits BinOp.and IntKind.i64 z 7 = (k7 : Int)) (hz : (k7 ≠ 0 ∧ n = k7) ∨ (k7 = 0 ∧ IntKind.i64.wrap (1048576 + bits BinOp.and IntKind.i64 (z / 8) 1) = (n : Int))) : Calls Tryz.prog 6 #[.int .i64 o, .int .i64 z, .agg #[.int .i64 S, .int .i64 r]] w fun e w' => e = .returned (.bool true) ∧ Below w.heap.size w w' := by
  have HAL : Hid (∀ W, Below w.heap.size w W → Calls Tryz.prog 10 #[] W fun e w' => e = .returned (.bool true) ∧ Below W.heap.size W w') := fun W bW => alive21_any W (hTab.below bW hTab.1)
  have HNM : Hid (∀ W x, Calls Tryz.prog 11 #[.int .i64 x] W fun e w' => e = .returned (.int .i64 x) ∧ W = w') := numV_any
  have HFI : Hid (∀ W, Calls Tryz.prog 15 #[] W fun e w' => ∃ L, e = .returned (.agg #[.slice (some ⟨L + 1, 0, none⟩) 8 8, .slice (some ⟨L + 2, 0, none⟩) 1 1, .int .i64 0]) ∧ SmL W w' L) := sample_lies
  obtain ⟨m, hm⟩ : ∃ m : Int, m = if sp = true then -1 else 0 := ⟨_, rfl⟩
  have HM : Hid _ := hm
  have HT : Hid (Tab w) := hTab
  have HZ : Hid _ := hz
  have HN : Hid _ := hn
  have HSP : Hid _ := hsp
  have H7 : Hid _ := h7
  have HFS : Hid (Fits S ∧ Fits r) := ⟨hS, hr⟩
  clear hm hTab hS hr hz hn hsp h7
  go_enter Tryz.func6, Tryz.ntmps6
  go_upto_region 1 with fail
  obtain ⟨w1, hw1⟩ : ∃ w1, w1 = w.alloc (.cells #[.int .i64 S, .int .i64 r] 35) := ⟨_, rfl⟩
  obtain ⟨p, hp⟩ : ∃ p, p = w.heap.size := ⟨_, rfl⟩
  have k1 : w1.heap[p]? = some (.cells #[.int .i64 S, .int .i64 r] 35 (0, 0)) := by rw [hw1, hp]; exact heap_alloc_new _ _
  have b1 : Below w.heap.size w w1 := by rw [hw1]; exact below_newR w _
  rw [← hw1, ← hp]
  have HA1 : Hid _ := HAL.out w1 b1
  have HB1 : Hid _ := b1
  have HK1 : Hid _ := k1
  have HP : Hid _ := hp
  clear hw1 b1 k1 hp HAL
  go_upto_region 2 with (go_at_call 10; refine Calls.mono HA1.out ?_; rintro e wL ⟨rfl, bL⟩)
  have HBL : Hid (Below w1.heap.size w1 wL) := bL
  clear bL HA1
  go_wp2_with fail
  refine (HFI.out _).mono ?_
  rintro e wS ⟨L, rfl, hL⟩
  go_upto_region 3 with fail
  obtain ⟨w3, hw3⟩ : ∃ w3, w3 = wS.alloc (.cells #[.slice (some ⟨L + 1, 0, none⟩) 8 8, .slice (some ⟨L + 2, 0, none⟩) 1 1, .int .i64 0] 29) := ⟨_, rfl⟩
  obtain ⟨q, hq⟩ : ∃ q, q = wS.heap.size := ⟨_, rfl⟩
  have X3 : ErX w w3 p q L 0 S r := by
    have b3 : Below wS.heap.size wS w3 := by rw [hw3]; exact below_newR wS _
    have bLS : Below wL.heap.size wL wS := hL.low
    have b1S : Below w1.heap.size w1 wS := HBL.out.trans (bLS.mono HBL.out.size)
    have kS := (b1S.block _ (size_lt HK1.out)).trans HK1.out
    have hlt : L + 2 < wS.heap.size := by
      obtain ⟨b, o, e, h2, _⟩ := hL.fns.out (by simp [smF])
      cases e
      exact h2
    have bw : Below w.heap.size w wS := HB1.out.trans (b1S.mono HB1.out.size)
    refine ⟨(b3.block _ (size_lt kS)).trans kS, by rw [hw3, hq]; exact heap_alloc_new _ _, ⟨hL.ins.below b3 (Nat.le_refl _), hL.fns.below b3 (Nat.le_refl _), bw.trans (b3.mono bw.size)⟩, ⟨by rw [HP.out]; exact Nat.le_refl _, by rw [hq]; exact size_lt kS, by rw [hq]; exact hlt⟩⟩
  rw [← hw3, ← hq]
  have HX3 : Hid _ := X3
  clear hw3 hq hL X3 HB1 HBL HK1 HFI HP
  have x2 : w3.cell? ⟨q, 2, none⟩ = some (.int .i64 0) := cell_arr HX3.out.box rfl
  have f2 : w3.frozen? ⟨q, 2, none⟩ = false := fz_of HX3.out.box
  have lq := size_lt HX3.out.box
  have hsp := HSP.out
  go_upto_if 22 with fail
  go_cut [] from 18 to 54 (fun wc => Hid (ErX w wc p q L m S r))
  case first =>
    cases sp with
    | true =>
      have HMM : Hid (m = -1) := HM.out
      clear HM HSP
      go_wp2_with fail
      go_meet
      case rel => show ErX w _ p q L m S r; rw [HMM.out]; exact HX3.out.set (-1)
    | false =>
      have HMM : Hid (m = 0) := HM.out
      clear HM HSP
      go_wp2_with fail
      go_meet
      case rel => show ErX w _ p q L m S r; rw [HMM.out]; exact HX3.out
  case rest =>
  obtain ⟨W4, rfl⟩ : ∃ W4, W4 = wc := ⟨_, rfl⟩
  have HX4 := hcut
  clear hcut HX3 x2 f2 lq hsp
  have h7 := H7.out
  go_upto_if 27 with fail
  go_cut [9] from 18 to 54 (fun v wq => v = .int .i64 (n : Int) ∧ wq = W4)
  case first =>
    rcases HZ.out with ⟨h0, h1⟩ | ⟨h0, h1⟩
    · have t0 : ((k7 : Int) == 0) = false := beq_eq_false_iff_ne.2 (by omega)
      have HNK : Hid (n = k7) := h1
      clear h0 h1 HZ h7 H7
      go_wp2_with fail
      go_meet
      case rel => exact ⟨by rw [HNK.out], rfl⟩
    · have t0 : ((k7 : Int) == 0) = true := by rw [h0]; rfl
      clear h0 HZ h7 H7
      go_wp2_with fail
      go_meet
      case rel => exact ⟨rfl, rfl⟩
  case rest =>
  obtain ⟨rfl, hw⟩ := hcut
  rw [hw]
  clear hw h7 H7 HZ wc
  have y0 : W4.cell? ⟨p, 0, none⟩ = some (.int .i64 S) := cell_arr HX4.out.lim rfl
  have y1 : W4.cell? ⟨p, 1, none⟩ = some (.int .i64 r) := cell_arr HX4.out.lim rfl
  have lp := size_lt HX4.out.lim
  obtain ⟨ok, hok⟩ : ∃ ok, (decide (0 ≤ S ∧ S ≤ 1099511627776) && decide (0 ≤ r ∧ r ≤ 1099511627776)) = ok := ⟨_, rfl⟩
  go_upto_region 9 with fail
  go_cut [49] from 18 to 54 (fun v wq => v = .bool (!ok) ∧ wq = W4)
  case first =>
    have HOK : Hid _ := hok
    clear hok
    by_cases a0 : S < 0
    · have t0 : decide (S < 0) = true := decide_eq_true a0
      have HE : Hid (ok = false) := by show _ = _; rw [← HOK.out, decide_eq_false (by omega)]; rfl
      clear a0
      go_wp2_with fail
      go_meet
      case rel => exact ⟨by rw [HE.out]; rfl, rfl⟩
    · have t0 : decide (S < 0) = false := decide_eq_false a0
      by_cases a1 : 1099511627776 < S
      · have t1 : decide (1099511627776 < S) = true := decide_eq_true a1
        have HE : Hid (ok = false) := by show _ = _; rw [← HOK.out, decide_eq_false (by omega)]; rfl
        clear a0 a1
        go_wp2_with fail
        go_meet
        case rel => exact ⟨by rw [HE.out]; rfl, rfl⟩
      · have t1 : decide (1099511627776 < S) = false := decide_eq_false a1
        by_cases a2 : r < 0
        · have t2 : decide (r < 0) = true := decide_eq_true a2
          have HE : Hid (ok = false) := by show _ = _; rw [← HOK.out, decide_eq_true (by omega), decide_eq_false (by omega)]; rfl
          clear a0 a1 a2
          go_wp2_with fail
          go_meet
          case rel => exact ⟨by rw [HE.out]; rfl, rfl⟩
        · have t2 : decide (r < 0) = false := decide_eq_false a2
          by_cases a3 : 1099511627776 < r
          · have t3 : decide (1099511627776 < r) = true := decide_eq_true a3
            have HE : Hid (ok = false) := by show _ = _; rw [← HOK.out, decide_eq_true (by omega), decide_eq_false (by omega)]; rfl
            clear a0 a1 a2 a3
            go_wp2_with fail
            go_meet
            case rel => exact ⟨by rw [HE.out]; rfl, rfl⟩
          · have t3 : decide (1099511627776 < r) = false := decide_eq_false a3
            have HE : Hid (ok = true) := by show _ = _; rw [← HOK.out, decide_eq_true (by omega), decide_eq_true (by omega)]; rfl
            clear a0 a1 a2 a3
            go_wp2_with fail
            go_meet
            case rel => exact ⟨by rw [HE.out]; rfl, rfl⟩
  case rest =>
  obtain ⟨rfl, hw⟩ := hcut
  rw [hw]
  clear hw wc y0 y1 lp
  have HOK : Hid _ := hok
  clear hok
  obtain ⟨k0, hk0⟩ : ∃ k0 : Int, k0 = if ok = false then 5 else 0 := ⟨_, rfl⟩
  have HK0 : Hid _ := hk0
  clear hk0
  go_upto_if 49 with fail
  go_cut [10] from 18 to 54 (fun v wq => v = .int .i64 k0 ∧ wq = W4)
  case first =>
    cases ok with
    | true =>
      have HE : Hid (k0 = 0) := HK0.out
      clear HK0 HOK
      go_wp2_with fail
      go_meet
      case rel => exact ⟨by rw [HE.out], rfl⟩
    | false =>
      have HE : Hid (k0 = 5) := HK0.out
      clear HK0 HOK
      go_wp2_with fail
      go_meet
      case rel => exact ⟨by rw [HE.out], rfl⟩
  case rest =>
  obtain ⟨rfl, hw⟩ := hcut
  rw [hw]
  clear hw wc
  obtain ⟨k1, hk1⟩ : ∃ k1 : Int, k1 = if 1048576 < n then 4 else k0 := ⟨_, rfl⟩
  have HK1 : Hid _ := hk1
  clear hk1
  obtain ⟨lg, hlg⟩ : ∃ lg, decide (1048576 < (n : Int)) = lg := ⟨_, rfl⟩
  go_upto_if 51 with fail
  go_cut [10] from 18 to 54 (fun v wq => v = .int .i64 k1 ∧ wq = W4)
  case first =>
    cases lg with
    | true =>
      have HE : Hid (k1 = 4) := HK1.out.trans (if_pos (by have := of_decide_eq_true hlg; omega))
      clear HK1 HOK HN
      go_wp2_with fail
      go_meet
      case rel => exact ⟨by rw [HE.out], rfl⟩
    | false =>
      have HE : Hid (k1 = k0) := HK1.out.trans (if_neg (by have := of_decide_eq_false hlg; omega))
      clear HK1 HOK HN
      go_wp2_with fail
      go_meet
      case rel => exact ⟨by rw [HE.out], rfl⟩
  case rest =>
  obtain ⟨rfl, hw⟩ := hcut
  rw [hw]
  clear hw wc hlg
  obtain ⟨k2, hk2⟩ : ∃ k2 : Int, k2 = erWant sp n S r := ⟨_, rfl⟩
  have HK2 : Hid (k2 = if sp = true then 210 else k1) := by
    show _ = _
    rw [hk2, HK1.out, HK0.out, ← HOK.out]
    rfl
  have HW : Hid (newErr smC smF m n S r = k2) := by show _ = _; rw [HM.out, er_want, hk2]
  clear hk2 HK0 HK1 HOK HM
  have hsp := HSP.out
  go_upto_if 54 with fail
  go_cut [10] from 18 to 54 (fun v wq => v = .int .i64 k2 ∧ wq = W4)
  case first =>
    cases sp with
    | true =>
      have HE : Hid (k2 = 210) := HK2.out
      clear HK2 HW HSP
      go_wp2_with fail
      go_meet
      case rel => exact ⟨by rw [HE.out], rfl⟩
    | false =>
      have HE : Hid (k2 = k1) := HK2.out
      clear HK2 HW HSP
      go_wp2_with fail
      go_meet
      case rel => exact ⟨by rw [HE.out], rfl⟩
  case rest =>
  obtain ⟨rfl, hw⟩ := hcut
  rw [hw]
  clear hw wc hsp HK2 HSP
  go_upto_region 15 with fail
  have HC4 : Hid _ := HX4.out
  have Sz : (W4.cell? ⟨q, 0, none⟩ = some (.slice (some ⟨L + 1, 0, none⟩) 8 8) ∧ W4.cell? ⟨q, 1, none⟩ = some (.slice (some ⟨L + 2, 0, none⟩) 1 1) ∧ W4.cell? ⟨q, 2, none⟩ = some (.int .i64 m)) ∧ (W4.cell? ⟨p, 0, none⟩ = some (.int .i64 S) ∧ W4.cell? ⟨p, 1, none⟩ = some (.int .i64 r)) ∧ q < W4.heap.size ∧ p < W4.heap.size := ⟨⟨cell_arr HX4.out.box rfl, cell_arr HX4.out.box rfl, cell_arr HX4.out.box rfl⟩, ⟨cell_arr HX4.out.lim rfl, cell_arr HX4.out.lim rfl⟩, size_lt HX4.out.box, size_lt HX4.out.lim⟩
  have hmk := run_intsR n (by have := HN.out; omega)
  refine lec_start (S := fun w' : World => (w'.cell? ⟨q, 0, none⟩ = some (.slice (some ⟨L + 1, 0, none⟩) 8 8) ∧ w'.cell? ⟨q, 1, none⟩ = some (.slice (some ⟨L + 2, 0, none⟩) 1 1) ∧ w'.cell? ⟨q, 2, none⟩ = some (.int .i64 m)) ∧ (w'.cell? ⟨p, 0, none⟩ = some (.int .i64 S) ∧ w'.cell? ⟨p, 1, none⟩ = some (.int .i64 r)) ∧ q < w'.heap.size ∧ p < w'.heap.size) (z := 4) (by kernel_rfl) ?_
  show lec _ _ _ _ _ 10 _ _ _
  try simp only [List.size_toArray, List.length_cons, List.length_nil, Array.replicate]
  refine lec_takeT [4, 5, 6, 7, 8, 9] (i := 0) (v := ?v0z) rfl (by kernel_rfl) (by kernel_rfl) (by kernel_rfl) (by kernel_rfl) (fun _ _ _ h => h) (.inl ⟨by rfl, ?hy0z⟩) Sz ?rest0z
  case hy0z =>
    rintro w' ⟨⟨h1, h2, h3⟩, ⟨h4, h5⟩, h6, h7⟩
    go_simp
    all_goals with_reducible rfl
  try simp only [Act.put, List.getElem_toArray, List.getElem_cons_succ, List.getElem_cons_zero, List.setIfInBounds_toArray, List.set_cons_zero, List.set_cons_succ]
  refine lec_takeP (i := 1) (v := ?v1z) rfl (by kernel_rfl) (by kernel_rfl) (by kernel_rfl) (by kernel_rfl) (fun _ _ _ h => h) (.inl ⟨by rfl, ?hy1z⟩) Sz ?rest1z
  case hy1z =>
    rintro w' _
    go_simp
    all_goals with_reducible rfl
  try simp only [Act.put, List.getElem_toArray, List.getElem_cons_succ, List.getElem_cons_zero, List.setIfInBounds_toArray, List.set_cons_zero, List.set_cons_succ]
  refine lec_takeT [4, 5, 6, 7, 8, 9] (i := 3) (v := ?v3z) rfl (by kernel_rfl) (by kernel_rfl) (by kernel_rfl) (by kernel_rfl) (fun _ _ _ h => h) (.inl ⟨by rfl, ?hy3z⟩) Sz ?rest3z
  case hy3z =>
    rintro w' ⟨⟨h1, h2, h3⟩, ⟨h4, h5⟩, h6, h7⟩
    go_simp
    all_goals with_reducible rfl
  try simp only [Act.put, List.getElem_toArray, List.getElem_cons_succ, List.getElem_cons_zero, List.setIfInBounds_toArray, List.set_cons_zero, List.set_cons_succ]
  refine lec_one (i := 2) rfl (by kernel_rfl) ?_
  intro K2 hK2
  rw [if_pos (by rfl)]
  go_simp
  obtain ⟨W5, hW5⟩ : ∃ W5, W5 = (W4.alloc (.cells (ivs (List.replicate n (0 : Int))).toArray 3)).drew := ⟨_, rfl⟩
  obtain ⟨g, hg⟩ : ∃ g, g = W4.heap.size := ⟨_, rfl⟩
  rw [← hW5, ← hg]
  have k5 : W5.heap[g]? = some (.cells (ivs (List.replicate n (0 : Int))).toArray 3 (0, 0)) := by rw [hW5, hg]; exact heap_alloc_new _ _
  have b5 : Below W4.heap.size W4 W5 := by rw [hW5]; exact Below.drew (below_newR _ _)
  have HX5 : Hid (ErX w W5 p q L m S r) := HX4.out.below b5
  clear Sz
  have Sz : (W5.cell? ⟨q, 0, none⟩ = some (.slice (some ⟨L + 1, 0, none⟩) 8 8) ∧ W5.cell? ⟨q, 1, none⟩ = some (.slice (some ⟨L + 2, 0, none⟩) 1 1) ∧ W5.cell? ⟨q, 2, none⟩ = some (.int .i64 m)) ∧ (W5.cell? ⟨p, 0, none⟩ = some (.int .i64 S) ∧ W5.cell? ⟨p, 1, none⟩ = some (.int .i64 r)) ∧ q < W5.heap.size ∧ p < W5.heap.size := ⟨⟨cell_arr HX5.out.box rfl, cell_arr HX5.out.box rfl, cell_arr HX5.out.box rfl⟩, ⟨cell_arr HX5.out.lim rfl, cell_arr HX5.out.lim rfl⟩, size_lt HX5.out.box, size_lt HX5.out.lim⟩
  have HNE : Hid _ := er_new w W5 HT.out HX5.out.sm k5 HN.out HW.out
  clear hW5 hg k5 b5 hmk
  refine hK2 _ _ (fun _ => Sz) ?_
  clear hK2
  try simp only [Act.put, List.getElem_toArray, List.getElem_cons_succ, List.getElem_cons_zero, List.setIfInBounds_toArray, List.set_cons_zero, List.set_cons_succ]
  refine lec_one (i := 4) rfl (by kernel_rfl) ?_
  intro K4 hK4
  rw [if_pos (by rfl)]
  go_simp
  refine Calls.mono HNE.out ?_
  rintro e w5 ⟨mp, rfl, b5, hN5⟩
  have HN5 : Hid _ := hN5
  have HX6 : Hid (ErX w w5 p q L m S r) := HX5.out.below b5
  clear Sz
  have Sz : (w5.cell? ⟨q, 0, none⟩ = some (.slice (some ⟨L + 1, 0, none⟩) 8 8) ∧ w5.cell? ⟨q, 1, none⟩ = some (.slice (some ⟨L + 2, 0, none⟩) 1 1) ∧ w5.cell? ⟨q, 2, none⟩ = some (.int .i64 m)) ∧ (w5.cell? ⟨p, 0, none⟩ = some (.int .i64 S) ∧ w5.cell? ⟨p, 1, none⟩ = some (.int .i64 r)) ∧ q < w5.heap.size ∧ p < w5.heap.size := ⟨⟨cell_arr HX6.out.box rfl, cell_arr HX6.out.box rfl, cell_arr HX6.out.box rfl⟩, ⟨cell_arr HX6.out.lim rfl, cell_arr HX6.out.lim rfl⟩, size_lt HX6.out.box, size_lt HX6.out.lim⟩
  clear hN5 b5 HNE
  go_simp
  refine hK4 _ _ (fun _ => Sz) ?_
  clear hK4
  try simp only [Act.put, List.getElem_toArray, List.getElem_cons_succ, List.getElem_cons_zero, List.setIfInBounds_toArray, List.set_cons_zero, List.set_cons_succ]
  refine lec_takeP (i := 5) (v := ?v5z) rfl (by kernel_rfl) (by kernel_rfl) (by kernel_rfl) (by kernel_rfl) (fun _ _ _ h => h) (.inl ⟨by rfl, ?hy5z⟩) Sz ?rest5z
  case hy5z =>
    rintro w' _
    go_simp
    all_goals with_reducible rfl
  try simp only [Act.put, List.getElem_toArray, List.getElem_cons_succ, List.getElem_cons_zero, List.setIfInBounds_toArray, List.set_cons_zero, List.set_cons_succ]
  refine lec_takeP (i := 6) (v := ?v6z) rfl (by kernel_rfl) (by kernel_rfl) (by kernel_rfl) (by kernel_rfl) (fun _ _ _ h => h) (.inl ⟨by rfl, ?hy6z⟩) Sz ?rest6z
  case hy6z =>
    rintro w' _
    go_simp
    all_goals with_reducible rfl
  try simp only [Act.put, List.getElem_toArray, List.getElem_cons_succ, List.getElem_cons_zero, List.setIfInBounds_toArray, List.set_cons_zero, List.set_cons_succ]
  refine lec_takeP (i := 7) (v := ?v7z) rfl (by kernel_rfl) (by kernel_rfl) (by kernel_rfl) (by kernel_rfl) (fun _ _ _ h => h) (.inl ⟨by rfl, ?hy7z⟩) Sz ?rest7z
  case hy7z =>
    rintro w' _
    go_simp
    all_goals with_reducible rfl
  try simp only [Act.put, List.getElem_toArray, List.getElem_cons_succ, List.getElem_cons_zero, List.setIfInBounds_toArray, List.set_cons_zero, List.set_cons_succ]
  refine lec_takeP (i := 8) (v := ?v8z) rfl (by kernel_rfl) (by kernel_rfl) (by kernel_rfl) (by kernel_rfl) (fun _ _ _ h => h) (.inl ⟨by rfl, ?hy8z⟩) Sz ?rest8z
  case hy8z =>
    rintro w' _
    go_simp
    all_goals with_reducible rfl
  try simp only [Act.put, List.getElem_toArray, List.getElem_cons_succ, List.getElem_cons_zero, List.setIfInBounds_toArray, List.set_cons_zero, List.set_cons_succ]
  refine lec_takeP (i := 9) (v := ?v9z) rfl (by kernel_rfl) (by kernel_rfl) (by kernel_rfl) (by kernel_rfl) (fun _ _ _ h => h) (.inl ⟨by rfl, ?hy9z⟩) Sz ?rest9z
  case hy9z =>
    rintro w' _
    go_simp
    all_goals with_reducible rfl
  try simp only [Act.put, List.getElem_toArray, List.getElem_cons_succ, List.getElem_cons_zero, List.setIfInBounds_toArray, List.set_cons_zero, List.set_cons_succ]
  refine lec_done (by kernel_rfl) ?_
  have HLW : Hid (Below w.heap.size w w5) := HX6.out.sm.low
  clear Sz HW HX4 HT HN HFS
  rcases HN5.out with ⟨hk, hmp⟩ | ⟨hk, hA, hB, mb, hmp⟩
  · subst hmp
    have t0 : (k2 != 0) = true := bne_iff_ne.2 hk
    clear hk HN5 HX5 HX6
    go_wp2_with (go_at_call 11; refine (HNM.out _ _).mono ?_; rintro e w9 ⟨rfl, rfl⟩)
    go_ret
    exact ⟨rfl, HLW.out⟩
  · subst hk hmp
    clear HN5
    by_cases hs3 : S < 3
    · have M := hA hs3
      have t3 : decide (S < 3) = true := decide_eq_true hs3
      clear hA hB hs3
      have HM : Hid _ := M
      clear M
      go_wp2_with (go_at_call 11; refine (HNM.out _ _).mono ?_; rintro e w9 ⟨rfl, rfl⟩)
      refine Calls.mono (HM.out.out _ (Below.refl _ _)) ?_
      rintro e wO ⟨aa, ca, rfl, hEa, bO⟩
      go_upto_region 21 with fail
      obtain ⟨pa, hpa⟩ : ∃ p, p = wO.heap.size := ⟨_, rfl⟩
      obtain ⟨wA, hwA⟩ : ∃ W, W = wO.alloc (.cells #[.slice aa 0 ca, .int .i64 2, .int .i64 7, .int .i64 0, .int .i64 0, .int .i64 0, .int .i64 0] 40) := ⟨_, rfl⟩
      rw [← hwA, ← hpa]
      have kA : wA.heap[pa]? = some (.cells #[.slice aa 0 ca, .int .i64 2, .int .i64 7, .int .i64 0, .int .i64 0, .int .i64 0, .int .i64 0] 40 (0, 0)) := by rw [hwA, hpa]; exact heap_alloc_new _ _
      have bA : Below w5.heap.size w5 wA := bO.trans (by rw [hwA]; exact (below_newR wO _).mono bO.size)
      have HEA : Hid (Evs wA aa ca []) := evs_none hEa
      have HKA : Hid _ := kA
      have HBA : Hid _ := bA
      clear kA bA hEa bO hwA hpa
      go_wp2_with fail
      refine Calls.mono (HM.out.bad wA HBA.out) ?_
      rintro e wB ⟨rfl, bB⟩
      go_upto_region 22 with fail
      obtain ⟨pz, hpz⟩ : ∃ p, p = wB.heap.size := ⟨_, rfl⟩
      obtain ⟨wC, hwC⟩ : ∃ W, W = wB.alloc (.cells #[.slice none 0 0, .int .i64 0, .int .i64 0, .int .i64 0, .int .i64 0, .int .i64 0, .int .i64 0] 40) := ⟨_, rfl⟩
      rw [← hwC, ← hpz]
      have bC : Below wA.heap.size wA wC := bB.trans (by rw [hwC]; exact (below_newR wB _).mono bB.size)
      have HBC : Hid _ := bC
      clear bC bB hwC hpz
      go_wp2_with fail
      refine Calls.mono (HM.out.run wC (HBA.out.trans (HBC.out.mono HBA.out.size))) ?_
      rintro e wR ⟨ab, cb, rfl, hEb, bR, hkR⟩
      go_upto_region 23 with fail
      obtain ⟨pb, hpb⟩ : ∃ p, p = wR.heap.size := ⟨_, rfl⟩
      obtain ⟨wF, hwF⟩ : ∃ W, W = wR.alloc (.cells #[.slice ab 0 cb, .int .i64 2, .int .i64 7, .int .i64 0, .int .i64 0, .int .i64 0, .int .i64 0] 40) := ⟨_, rfl⟩
      rw [← hwF, ← hpb]
      have kC := (HBC.out.block _ (size_lt HKA.out)).trans HKA.out
      have kR := (hkR _ _ kC).trans kC
      have bF : Below wR.heap.size wR wF := by rw [hwF]; exact below_newR wR _
      have kaF := (bF.block _ (size_lt kR)).trans kR
      have kbF : wF.heap[pb]? = some (.cells #[.slice ab 0 cb, .int .i64 2, .int .i64 7, .int .i64 0, .int .i64 0, .int .i64 0, .int .i64 0] 40 (0, 0)) := by rw [hwF, hpb]; exact heap_alloc_new _ _
      have b5C : Below w5.heap.size w5 wC := HBA.out.trans (HBC.out.mono HBA.out.size)
      have limC := (b5C.block _ (size_lt HX6.out.lim)).trans HX6.out.lim
      have limR := (bR.block p (size_lt HX5.out.lim)).trans limC
      have limF := (bF.block _ (size_lt limR)).trans limR
      have HBF : Hid (Below w.heap.size w wF) := by
        have z1 : Below w.heap.size w wC := HLW.out.trans (b5C.mono HLW.out.size)
        have z2 : Below w.heap.size w wR := z1.trans (bR.mono HX5.out.sm.low.size)
        exact z2.trans (bF.mono z2.size)
      have HEBF : Hid (Evs wF ab cb []) := evs_none hEb
      have HEAF : Hid (Evs wF aa ca []) := evs_none HEA.out
      have y0 : wF.cell? ⟨p, 0, none⟩ = some (.int .i64 S) := cell_arr limF rfl
      have ly := size_lt limF
      have la := size_lt kaF
      have lb := size_lt kbF
      have x0 : wF.cell? ⟨pa, 0, none⟩ = some (.slice aa 0 ca) := cell_arr kaF rfl
      have x1 : wF.cell? ⟨pa, 1, none⟩ = some (.int .i64 2) := cell_arr kaF rfl
      have x2 : wF.cell? ⟨pa, 2, none⟩ = some (.int .i64 7) := cell_arr kaF rfl
      have x3 : wF.cell? ⟨pa, 3, none⟩ = some (.int .i64 0) := cell_arr kaF rfl
      have x4 : wF.cell? ⟨pa, 4, none⟩ = some (.int .i64 0) := cell_arr kaF rfl
      have x5 : wF.cell? ⟨pa, 5, none⟩ = some (.int .i64 0) := cell_arr kaF rfl
      have x6 : wF.cell? ⟨pa, 6, none⟩ = some (.int .i64 0) := cell_arr kaF rfl
      have z0 : wF.cell? ⟨pb, 0, none⟩ = some (.slice ab 0 cb) := cell_arr kbF rfl
      have z1 : wF.cell? ⟨pb, 1, none⟩ = some (.int .i64 2) := cell_arr kbF rfl
      have z2 : wF.cell? ⟨pb, 2, none⟩ = some (.int .i64 7) := cell_arr kbF rfl
      have z3 : wF.cell? ⟨pb, 3, none⟩ = some (.int .i64 0) := cell_arr kbF rfl
      have z4 : wF.cell? ⟨pb, 4, none⟩ = some (.int .i64 0) := cell_arr kbF rfl
      have z5 : wF.cell? ⟨pb, 5, none⟩ = some (.int .i64 0) := cell_arr kbF rfl
      have z6 : wF.cell? ⟨pb, 6, none⟩ = some (.int .i64 0) := cell_arr kbF rfl
      clear kC kR bF kaF kbF b5C limC limR limF hEb bR hkR hwF hpb HM HEA HKA HBA HBC HX5 HX6 HLW
      have HSM : Hid _ := sameV_any wF 2 7 0 0 0 0 HEAF.out HEBF.out rfl
      go_wp2_with (first | (go_at_call 11; refine (HNM.out _ _).mono ?_; rintro e w9 ⟨rfl, rfl⟩) | (go_at_call 17; refine Calls.mono HSM.out ?_; rintro e w8 ⟨rfl, b8⟩; have HB8 : Hid _ := HBF.out.trans (b8.mono HBF.out.size); clear b8))
      go_ret
      exact ⟨rfl, HB8.out⟩
    · have M := hB hs3
      have t3 : decide (S < 3) = false := decide_eq_false hs3
      clear hA hB hs3
      have HM : Hid _ := M
      clear M
      go_wp2_with (go_at_call 11; refine (HNM.out _ _).mono ?_; rintro e w9 ⟨rfl, rfl⟩)
      refine Calls.mono (HM.out.out _ (Below.refl _ _)) ?_
      rintro e wO ⟨aa, ca, rfl, hEa, bO⟩
      go_upto_region 21 with fail
      obtain ⟨pa, hpa⟩ : ∃ p, p = wO.heap.size := ⟨_, rfl⟩
      obtain ⟨wA, hwA⟩ : ∃ W, W = wO.alloc (.cells #[.slice aa 0 ca, .int .i64 0, .int .i64 0, .int .i64 0, .int .i64 0, .int .i64 0, .int .i64 1] 40) := ⟨_, rfl⟩
      rw [← hwA, ← hpa]
      have kA : wA.heap[pa]? = some (.cells #[.slice aa 0 ca, .int .i64 0, .int .i64 0, .int .i64 0, .int .i64 0, .int .i64 0, .int .i64 1] 40 (0, 0)) := by rw [hwA, hpa]; exact heap_alloc_new _ _
      have bA : Below w5.heap.size w5 wA := bO.trans (by rw [hwA]; exact (below_newR wO _).mono bO.size)
      have HEA : Hid (Evs wA aa ca []) := evs_none hEa
      have HKA : Hid _ := kA
      have HBA : Hid _ := bA
      clear kA bA hEa bO hwA hpa
      go_wp2_with fail
      refine Calls.mono (HM.out.bad wA HBA.out) ?_
      rintro e wB ⟨rfl, bB⟩
      go_upto_region 22 with fail
      obtain ⟨pz, hpz⟩ : ∃ p, p = wB.heap.size := ⟨_, rfl⟩
      obtain ⟨wC, hwC⟩ : ∃ W, W = wB.alloc (.cells #[.slice none 0 0, .int .i64 0, .int .i64 0, .int .i64 0, .int .i64 0, .int .i64 0, .int .i64 0] 40) := ⟨_, rfl⟩
      rw [← hwC, ← hpz]
      have bC : Below wA.heap.size wA wC := bB.trans (by rw [hwC]; exact (below_newR wB _).mono bB.size)
      have HBC : Hid _ := bC
      clear bC bB hwC hpz
      go_wp2_with fail
      refine Calls.mono (HM.out.run wC (HBA.out.trans (HBC.out.mono HBA.out.size))) ?_
      rintro e wR ⟨ab, cb, rfl, hEb, bR, hkR⟩
      go_upto_region 23 with fail
      obtain ⟨pb, hpb⟩ : ∃ p, p = wR.heap.size := ⟨_, rfl⟩
      obtain ⟨wF, hwF⟩ : ∃ W, W = wR.alloc (.cells #[.slice ab 0 cb, .int .i64 2, .int .i64 1, .int .i64 0, .int .i64 2, .int .i64 0, .int .i64 1] 40) := ⟨_, rfl⟩
      rw [← hwF, ← hpb]
      have kC := (HBC.out.block _ (size_lt HKA.out)).trans HKA.out
      have kR := (hkR _ _ kC).trans kC
      have bF : Below wR.heap.size wR wF := by rw [hwF]; exact below_newR wR _
      have kaF := (bF.block _ (size_lt kR)).trans kR
      have kbF : wF.heap[pb]? = some (.cells #[.slice ab 0 cb, .int .i64 2, .int .i64 1, .int .i64 0, .int .i64 2, .int .i64 0, .int .i64 1] 40 (0, 0)) := by rw [hwF, hpb]; exact heap_alloc_new _ _
      have b5C : Below w5.heap.size w5 wC := HBA.out.trans (HBC.out.mono HBA.out.size)
      have limC := (b5C.block _ (size_lt HX6.out.lim)).trans HX6.out.lim
      have limR := (bR.block p (size_lt HX5.out.lim)).trans limC
      have limF := (bF.block _ (size_lt limR)).trans limR
      have HBF : Hid (Below w.heap.size w wF) := by
        have z1 : Below w.heap.size w wC := HLW.out.trans (b5C.mono HLW.out.size)
        have z2 : Below w.heap.size w wR := z1.trans (bR.mono HX5.out.sm.low.size)
        exact z2.trans (bF.mono z2.size)
      have HEBF : Hid (Evs wF ab cb []) := evs_none hEb
      have HEAF : Hid (Evs wF aa ca []) := evs_none HEA.out
      have y0 : wF.cell? ⟨p, 0, none⟩ = some (.int .i64 S) := cell_arr limF rfl
      have ly := size_lt limF
      have la := size_lt kaF
      have lb := size_lt kbF
      have x0 : wF.cell? ⟨pa, 0, none⟩ = some (.slice aa 0 ca) := cell_arr kaF rfl
      have x1 : wF.cell? ⟨pa, 1, none⟩ = some (.int .i64 0) := cell_arr kaF rfl
      have x2 : wF.cell? ⟨pa, 2, none⟩ = some (.int .i64 0) := cell_arr kaF rfl
      have x3 : wF.cell? ⟨pa, 3, none⟩ = some (.int .i64 0) := cell_arr kaF rfl
      have x4 : wF.cell? ⟨pa, 4, none⟩ = some (.int .i64 0) := cell_arr kaF rfl
      have x5 : wF.cell? ⟨pa, 5, none⟩ = some (.int .i64 0) := cell_arr kaF rfl
      have x6 : wF.cell? ⟨pa, 6, none⟩ = some (.int .i64 1) := cell_arr kaF rfl
      have z0 : wF.cell? ⟨pb, 0, none⟩ = some (.slice ab 0 cb) := cell_arr kbF rfl
      have z1 : wF.cell? ⟨pb, 1, none⟩ = some (.int .i64 2) := cell_arr kbF rfl
      have z2 : wF.cell? ⟨pb, 2, none⟩ = some (.int .i64 1) := cell_arr kbF rfl
      have z3 : wF.cell? ⟨pb, 3, none⟩ = some (.int .i64 0) := cell_arr kbF rfl
      have z4 : wF.cell? ⟨pb, 4, none⟩ = some (.int .i64 2) := cell_arr kbF rfl
      have z5 : wF.cell? ⟨pb, 5, none⟩ = some (.int .i64 0) := cell_arr kbF rfl
      have z6 : wF.cell? ⟨pb, 6, none⟩ = some (.int .i64 1) := cell_arr kbF rfl
      clear kC kR bF kaF kbF b5C limC limR limF hEb bR hkR hwF hpb HM HEA HKA HBA HBC HX5 HX6 HLW
      go_wp2_with (go_at_call 11; refine (HNM.out _ _).mono ?_; rintro e w9 ⟨rfl, rfl⟩)
      go_ret
      exact ⟨rfl, HBF.out⟩
theorem r16Errors_any (w : World) (hTab : Tab w) (o z S r : Int) (hS : Fits S) (hr : Fits r) : Calls Tryz.prog 6 #[.int .i64 o, .int .i64 z, .agg #[.int .i64 S, .int .i64 r]] w fun e w' => e = .returned (.bool true) ∧ Below w.heap.size w w' := by
  obtain ⟨k7, hk7, h7⟩ := andR_small z 7 (by omega)
  by_cases h0 : k7 = 0
  · obtain ⟨j, hj, h1⟩ := andR_small (z / 8) 1 (by omega)
    have h1' : bits BinOp.and IntKind.i64 (z / 8) 1 = (j : Int) := h1
    exact r16Errors_in w hTab o z S r hS hr (1048576 + j) (by omega) _ rfl k7 h7 (Or.inr ⟨h0, by rw [h1', IntKind.wrap_i64]; omega⟩)
  · exact r16Errors_in w hTab o z S r hS hr k7 (by omega) _ rfl k7 h7 (Or.inl ⟨h0, rfl⟩)
end Go.Proofs.YteplldbhfjfbpaaGreatDoor
