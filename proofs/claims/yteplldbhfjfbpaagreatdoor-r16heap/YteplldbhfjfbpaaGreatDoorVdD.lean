import Derived.Test.YteplldbhfjfbpaaGreatDoorVdC
import Derived.Test.YteplldbhfjfbpaaGreatDoorJbb
import Derived.Test.YteplldbhfjfbpaaGreatDoorVcH
import Derived.Deep.Cut
import Derived.Deep.CutRange
set_option linter.unusedVariables false
set_option linter.unusedSimpArgs false
namespace Go.Proofs.YteplldbhfjfbpaaGreatDoor
open Go.ChangeShapes Go.WideShapes Go.ChangeAt Go.RowKit Go.Maps

theorem row_slice3 {w : World} {B e z : Nat} {v : Value} {xs : List (List Value)} (h : Row w B e z v xs) : ∃ (a : Option Addr) (n c : Nat), v = .slice a n c := by
  obtain ⟨ao, c, ev, _⟩ := own_slice h.out
  exact ⟨ao, _, c, ev⟩
set_option maxRecDepth 100000 in
set_option maxHeartbeats 8000000 in
theorem r16Heap_in (w : World) (hTab : Tab w) (sa : Option Addr) (sc : Nat) (Z : List Int) (hZ : Ints w sa sc Z) (hl : Z.length ≤ 300) (n : Nat) (hn : n = Z.length) (h room : Int) (hroom : bits BinOp.and IntKind.i64 h 1048575 = room) (hrr : 0 ≤ room ∧ room ≤ 1048575) : Calls Tryz.prog 5 #[.slice sa n sc, .int .i64 h] w fun e w' => e = .returned (.bool true) ∧ Below w.heap.size w w' := by
  have HAL : Hid (∀ W, Below w.heap.size w W → Calls Tryz.prog 10 #[] W fun e w' => e = .returned (.bool true) ∧ Below W.heap.size W w') := fun W bW => alive21_any W (hTab.below bW hTab.1)
  have HT : Hid (Tab w) := hTab
  have HZ : Hid _ := hZ
  have HN : Hid (n = Z.length ∧ n ≤ 300) := ⟨hn, by omega⟩
  have HR : Hid (0 ≤ room ∧ room ≤ 1048575) := hrr
  have t0 : decide (300 < (n : Int)) = false := decide_eq_false (by omega)
  clear hTab hZ hl hn hrr
  go_enter Tryz.func5, Tryz.ntmps5
  have HS0 : Hid (HpR w w [] [] (.slice none 0 0) (.slice none 0 0)) := HpR.start w
  go_wp2_with fail
  go_loopw [5, 6, 7, 8, 9] (fun v5 v6 v7 v8 v9 wr => ∃ (i : Nat) (a5 : Option Addr) (n5 c5 : Nat) (a6 : Option Addr) (n6 c6 : Nat) (M : Int), i ≤ n ∧ v5 = .slice a5 n5 c5 ∧ v6 = .slice a6 n6 c6 ∧ v7 = .int .i64 M ∧ v8 = .bool false ∧ v9 = .int .i64 (i : Int) ∧ Hid (HpR w wr (hpP ((Z.take i).map szm)) (hpW 0 ((Z.take i).map szm)) (.slice a5 n5 c5) (.slice a6 n6 c6)) ∧ Hid (hpF room 0 ((Z.take i).map szm)) ∧ Hid (M = hpT 0 ((Z.take i).map szm) + 1)) (fun v5 v6 v7 v8 v9 _ => n - (intOf v9).toNat)
  case atStart => exact ⟨0, none, 0, 0, none, 0, 0, 1, by omega, rfl, rfl, rfl, rfl, rfl, HS0.out, trivial, rfl⟩
  case round =>
    obtain ⟨i, a5, n5, c5, a6, n6, c6, M, hi, rfl, rfl, rfl, rfl, rfl, HH, HFI, HM⟩ := hrel
    obtain ⟨wq, rfl⟩ : ∃ wq, wq = wr := ⟨_, rfl⟩
    obtain ⟨L, hL⟩ : ∃ L, L = (Z.take i).map szm := ⟨_, rfl⟩
    rw [← hL] at HH HFI HM
    have HLL : Hid (L = (Z.take i).map szm) := hL
    clear hL HS0 t0
    by_cases hlt : i < n
    · have t1 : decide ((i : Int) < (n : Int)) = true := decide_eq_true (by omega)
      obtain ⟨zi, hzi⟩ : ∃ zi : Int, Z[i]? = some zi := ⟨Z[i]'(by have := HN.out; omega), List.getElem?_eq_getElem _⟩
      obtain ⟨k, hk, hkz⟩ := and14 zi
      have HKZ : Hid (k ≤ 16383 ∧ szm zi = (k : Int) ∧ (Z.take (i + 1)).map szm = L ++ [(k : Int)]) := by
        refine ⟨hk, hkz, ?_⟩
        have hl2 : i < Z.length := (List.getElem?_eq_some_iff.1 hzi).1
        rw [take_one hl2, ← HLL.out]
        have : Z[i] = zi := (List.getElem?_eq_some_iff.1 hzi).2
        rw [this]
        show L ++ [szm zi] = _
        rw [show szm zi = (k : Int) from hkz]
      have hq0 := HZ.out.below HH.out.low (Nat.le_refl _)
      obtain ⟨sb, so, e0, hsb, hcc⟩ := hq0.out (by intro q; rw [q] at hzi; simp at hzi)
      subst e0
      have hl2 : i < Z.length := (List.getElem?_eq_some_iff.1 hzi).1
      have hc0 : wq.cell? ⟨sb, so + i, none⟩ = some (.int .i64 zi) := by
        have := hcc i hl2
        rw [(List.getElem?_eq_some_iff.1 hzi).2] at this
        exact this
      clear hq0 hcc hl2
      have hkz' : bits BinOp.and IntKind.i64 zi 16383 = (k : Int) := hkz
      clear hzi hkz hk
      go_upto_region 12 with fail
      clear hc0 hsb hkz' t1
      have HCL : Hid ((hpP L).length ≤ 3300 ∧ (hpW 0 L).length ≤ 1200 ∧ 0 ≤ hpT 0 L ∧ hpT 0 L ≤ 16384 * 300) := by
        have hll : L.length ≤ 300 := by have := HN.out; rw [HLL.out, List.length_map]; have := List.length_take_le i Z; omega
        have h1 := hpP_len L
        have h2 := hpW_len 0 L
        have h3 := hpT_le 0 L (by rw [HLL.out]; exact szm_all Z i)
        show _ ∧ _ ∧ _ ∧ _
        omega
      obtain ⟨zW, hzW⟩ : ∃ X, X = wq.alloc (.cells #[.int .i64 1, .int .i64 2, .int .i64 0, .int .i64 0, .int .i64 (k : Int), .int .i64 28, .int .i64 3, .int .i64 2, .int .i64 0, .int .i64 0] 23) := ⟨_, rfl⟩
      have bzW : Below wq.heap.size wq zW := by rw [hzW]; exact below_newR wq _
      have szW : StsG zW (some ⟨wq.heap.size, 0, none⟩) 2 5 ((hpA (k : Int)).map riv) := stsG_exact (xs := (hpA (k : Int)).map riv) (by rw [hzW]; exact heap_alloc_new _ _) rfl rfl rfl (by show 2 ≤ _; omega)
      have HzW : Hid (HpR w zW (hpP L) (hpW 0 L) (.slice a5 n5 c5) (.slice a6 n6 c6)) := HH.out.keep bzW
      have SzW : Hid _ := szW
      have EzW : Hid _ := hzW
      have LzW : Hid (((hpP L).map riv).length + 2 ≤ 1000000000) := by have := HCL.out; show _ ≤ _; simp only [List.length_map, List.length_append, hpA, hpB, hpC, List.length_cons, List.length_nil]; omega
      clear hzW bzW szW
      go_upto_region 13 with (at_builtin; rw [← EzW.out]; refine wpList_step fun K hK => ?_; refine step_append_rowsG rfl _ _ 24 23 5 _ 40 rfl Tryz.underlying24 info_ri rfl (by decide) (by decide) w.heap.size ((.slice a5 n5 c5)) ((hpP L).map riv) rfl HzW.out.c (some ⟨wq.heap.size, 0, none⟩) 2 2 rfl ((hpA (k : Int)).map riv) rfl (rivH_len _) (stsH_cells SzW.out) (rivH_one _) LzW.out HzW.out.low.size ?_; intro v' wz hr hg; refine hK _ _ ?_; clear hK; have q := HzW.out.ins hr hg; obtain ⟨az, nz, cz, ez⟩ := row_slice3 hr; subst ez; have Kz : Hid _ := q; clear q hr hg)
      clear HzW SzW EzW LzW
      have u1 : IntKind.i64.wrap (M + (k : Int)) = M + (k : Int) := by have := HCL.out; have := HM.out; have := HKZ.out.1; rw [IntKind.wrap_i64]; omega
      by_cases hf : room < M + (k : Int)
      · have t2 : decide (room < M + (k : Int)) = true := decide_eq_true hf
        go_upto_region 21 with fail
        clear t2
        obtain ⟨yW, hyW⟩ : ∃ X, X = wz.alloc (.cells #[.int .i64 27, .int .i64 0, .int .i64 0, .int .i64 0, .int .i64 0] 23) := ⟨_, rfl⟩
        have byW : Below wz.heap.size wz yW := by rw [hyW]; exact below_newR wz _
        have syW : StsG yW (some ⟨wz.heap.size, 0, none⟩) 1 5 (([(⟨27, 0, 0, 0, 0⟩ : Ri)]).map riv) := stsG_exact (xs := ([(⟨27, 0, 0, 0, 0⟩ : Ri)]).map riv) (by rw [hyW]; exact heap_alloc_new _ _) rfl rfl rfl (by show 1 ≤ _; omega)
        have HyW : Hid (HpR w yW (hpP L ++ hpA (k : Int)) (hpW 0 L) (.slice az nz cz) (.slice a6 n6 c6)) := Kz.out.keep byW
        have SyW : Hid _ := syW
        have EyW : Hid _ := hyW
        have LyW : Hid (((hpP L ++ hpA (k : Int)).map riv).length + 1 ≤ 1000000000) := by have := HCL.out; show _ ≤ _; simp only [List.length_map, List.length_append, hpA, hpB, hpC, List.length_cons, List.length_nil]; omega
        clear hyW byW syW
        go_upto_region 22 with (at_builtin; rw [← EyW.out]; refine wpList_step fun K hK => ?_; refine step_append_rowsG rfl _ _ 24 23 5 _ 40 rfl Tryz.underlying24 info_ri rfl (by decide) (by decide) w.heap.size ((.slice az nz cz)) ((hpP L ++ hpA (k : Int)).map riv) rfl HyW.out.c (some ⟨wz.heap.size, 0, none⟩) 1 1 rfl (([(⟨27, 0, 0, 0, 0⟩ : Ri)]).map riv) rfl (rivH_len _) (stsH_cells SyW.out) (rivH_one _) LyW.out HyW.out.low.size ?_; intro v' wy hr hg; refine hK _ _ ?_; clear hK; have q := HyW.out.ins hr hg; obtain ⟨ay, ny, cy, ey⟩ := row_slice3 hr; subst ey; have Ky : Hid _ := q; clear q hr hg)
        clear HyW SyW EyW LyW
        obtain ⟨P, hP⟩ : ∃ P, P = hpP L ++ hpA (k : Int) ++ [(⟨27, 0, 0, 0, 0⟩ : Ri)] := ⟨_, rfl⟩
        have hKy := Ky.out
        rw [← hP] at hKy
        obtain ⟨a', c', e', hs⟩ := row_sts hKy.c (rivH_one _)
        injection e' with q1 q2 q3
        subst q1 q3
        have hny : ny = P.length := by rw [q2, List.length_map]
        have hll : L.length ≤ 300 := by have := HN.out; rw [HLL.out, List.length_map]; have := List.length_take_le i Z; omega
        obtain ⟨RF, g1, g2, g3, g4, g5, g6, g7⟩ := hp_ends (room := room) (n := (k : Int)) L (by rw [HLL.out]; exact szm_all Z i) hll HFI.out (by omega) (by have := HM.out; omega) (P := P) (by rw [hP, List.append_assoc])
        have hfm : ∀ f, ∀ x ∈ hpP L ++ hpA (k : Int), (regsF x = true ∧ numF 1 f x = true) ∧ Fits x.n := fun f x hx => by
          rcases List.mem_append.1 hx with q | q
          · exact hpP_form f L (by rw [HLL.out]; exact szm_all Z i) x q
          · have := HKZ.out.1
            exact hpI_form (n := (k : Int)) (by omega) f x (List.mem_append_left _ q)
        obtain ⟨a2, c2, e2, _⟩ := own_slice hKy.v.out
        injection e2 with q4 q5 q6
        have hn6 : n6 = (hpW 0 L).length := by rw [q5, List.length_map]
        have hform := hp_form (C := hpP L ++ hpA (k : Int)) hfm
        rw [← hP] at hform
        have hly : ny ≤ 10000 := by have := HCL.out; rw [hny, hP]; simp only [List.length_map, List.length_append, hpA, List.length_cons, List.length_nil]; omega
        have HON : Hid (Calls Tryz.prog 13 #[.slice ay ny cy, .int .i64 2, .agg #[.int .i64 2, .int .i64 room], .slice none 0 0, .int .i64 ((ny : Int) + 1)] wy fun e w' => ∃ ao co, e = .returned (.tuple #[.agg #[.slice ao n6 co, .int .i64 2, .int .i64 8, .int .i64 RF.vl, .int .i64 ((ny : Int) - 1), .int .i64 (M - 1), .int .i64 RF.deep], .bool true]) ∧ Evs w' ao co RF.ev ∧ Below wy.heap.size wy w') := by
          have q := one_any wy (HT.out.below hKy.low HT.out.1) ay ny cy P hny hs (by omega) hform.2 2 2 room (newErr_one hform.1 (by omega) (by have := HR.out; omega)) (P.length + 1) (by omega) RF g1
          rw [show ((P.length + 1 : Nat) : Int) = (ny : Int) + 1 by rw [hny]; rfl] at q
          refine q.mono ?_
          rintro e w' ⟨ao, co, rfl, hE, hB⟩
          refine ⟨ao, co, ?_, hE, hB⟩
          rw [g3, g4, g5, g6, g7, List.length_map, ← hn6, ← hny, show hpT 0 L = M - 1 by have := HM.out; omega]
        have HEV : Hid (RF.ev = (hpW 0 L).map evt ∧ n6 = (hpW 0 L).length) := ⟨g3, hn6⟩
        have HKY : Hid (Row wy w.heap.size 3 1 (.slice a6 n6 c6) ((hpW 0 L).map sngR)) := hKy.v
        have HBY : Hid (Below w.heap.size w wy) := hKy.low
        have u4 : IntKind.i64.wrap ((ny : Int) + 1) = (ny : Int) + 1 := by rw [IntKind.wrap_i64]; omega
        have u5 : IntKind.i64.wrap ((ny : Int) - 1) = (ny : Int) - 1 := by rw [IntKind.wrap_i64]; omega
        have u6 : IntKind.i64.wrap (M - 1) = M - 1 := by have := HM.out; have := HCL.out; rw [IntKind.wrap_i64]; omega
        have HN6 : Hid (n6 ≤ 1200) := by have := HCL.out; show _ ≤ _; omega
        clear hP hKy hs q2 hny g1 g2 g3 g4 g5 g6 g7 q4 q5 q6 hn6 hform hly hfm Ky
        go_wp2_with fail
        refine Calls.mono HON.out ?_
        rintro e wE ⟨ao, co, rfl, hE, bE⟩
        go_upto_region 23 with fail
        obtain ⟨p, hp⟩ : ∃ p, p = wE.heap.size := ⟨_, rfl⟩
        obtain ⟨wF, hwF⟩ : ∃ W, W = wE.alloc (.cells #[.slice ao n6 co, .int .i64 2, .int .i64 8, .int .i64 RF.vl, .int .i64 ((ny : Int) - 1), .int .i64 (M - 1), .int .i64 RF.deep] 40) := ⟨_, rfl⟩
        rw [← hwF, ← hp]
        have kF : wF.heap[p]? = some (.cells #[.slice ao n6 co, .int .i64 2, .int .i64 8, .int .i64 RF.vl, .int .i64 ((ny : Int) - 1), .int .i64 (M - 1), .int .i64 RF.deep] 40 (0, 0)) := by rw [hwF, hp]; exact heap_alloc_new _ _
        have bF : Below wE.heap.size wE wF := by rw [hwF]; exact below_newR wE _
        have HEF : Hid _ := hE.belowR bF
        have HKF : Hid _ := (HKY.out.keep bE).keep bF
        have HBF : Hid (Below w.heap.size w wF) := HBY.out.trans ((bE.mono HBY.out.size).trans (bF.mono (Nat.le_trans HBY.out.size bE.size)))
        have HPF : Hid _ := kF
        have HAF : Hid _ := HAL.out wF HBF.out
        clear hwF hp kF bF hE bE HON HKY HBY u4
        go_wp2_with fail
        refine Calls.mono HAF.out ?_
        rintro e wG ⟨rfl, bG⟩
        have kG := (bG.block _ (Array.getElem?_eq_some_iff.1 HPF.out).1).trans HPF.out
        have lG := (Array.getElem?_eq_some_iff.1 kG).1
        have HEG : Hid _ := HEF.out.belowR bG
        have HKG : Hid _ := HKF.out.keep bG
        have HBG : Hid (Below w.heap.size w wG) := HBF.out.trans (bG.mono HBF.out.size)
        have x0 : wG.cell? ⟨p, 0, none⟩ = some (.slice ao n6 co) := cell_arr kG rfl
        have x1 : wG.cell? ⟨p, 1, none⟩ = some (.int .i64 2) := cell_arr kG rfl
        have x2 : wG.cell? ⟨p, 2, none⟩ = some (.int .i64 8) := cell_arr kG rfl
        have x4 : wG.cell? ⟨p, 4, none⟩ = some (.int .i64 ((ny : Int) - 1)) := cell_arr kG rfl
        have x5 : wG.cell? ⟨p, 5, none⟩ = some (.int .i64 (M - 1)) := cell_arr kG rfl
        have HPG : Hid _ := kG
        clear kG bG HEF HKF HBF HPF HAF
        go_wp2_with fail
        clear x0 x1 x2 x4 x5 lG
        go_loopw [13] (fun v wr => ∃ j : Nat, j ≤ n6 ∧ v = .int .i64 (j : Int) ∧ Hid (Below wG.heap.size wG wr)) (fun v _ => n6 - (intOf v).toNat)
        case atStart => exact ⟨0, by omega, rfl, Below.refl _ _⟩
        case round =>
          obtain ⟨j, hj, rfl, HW⟩ := hrel
          obtain ⟨wv, rfl⟩ : ∃ wv, wv = wr := ⟨_, rfl⟩
          have kV := (HW.out.block _ (Array.getElem?_eq_some_iff.1 HPG.out).1).trans HPG.out
          have lV := (Array.getElem?_eq_some_iff.1 kV).1
          have x0 : wv.cell? ⟨p, 0, none⟩ = some (.slice ao n6 co) := cell_arr kV rfl
          have x1 : wv.cell? ⟨p, 1, none⟩ = some (.int .i64 2) := cell_arr kV rfl
          have x2 : wv.cell? ⟨p, 2, none⟩ = some (.int .i64 8) := cell_arr kV rfl
          have x4 : wv.cell? ⟨p, 4, none⟩ = some (.int .i64 ((ny : Int) - 1)) := cell_arr kV rfl
          have x5 : wv.cell? ⟨p, 5, none⟩ = some (.int .i64 (M - 1)) := cell_arr kV rfl
          clear kV
          by_cases hlt : j < n6
          · have t1 : decide ((j : Int) < (n6 : Int)) = true := decide_eq_true (by omega)
            have hjl : j < (hpW 0 L).length := by have := HEV.out.2; omega
            have hje : j < RF.ev.length := by rw [HEV.out.1, List.length_map]; exact hjl
            obtain ⟨x, hx⟩ : ∃ x, x = (hpW 0 L)[j]'hjl := ⟨_, rfl⟩
            have hev : RF.ev[j]'hje = (1, x) := by
              have e1 := List.getElem?_eq_getElem hje
              have e2 : RF.ev[j]? = some (1, x) := by rw [HEV.out.1, List.getElem?_map, List.getElem?_eq_getElem hjl, ← hx]; rfl
              rw [e2] at e1
              exact (Option.some.inj e1).symm
            obtain ⟨eb, eo, ee, el, z0, z1⟩ := (HEG.out.belowR HW.out).atR (k := j) hje
            rw [hev] at z0 z1
            dsimp only at z0 z1
            subst ee
            have hk9 := HKG.out.keep HW.out
            obtain ⟨gb, c9, cs9, ev9, _, _, _, hb9⟩ := Row.some hk9 (by rw [List.length_map]; omega)
            injection ev9 with w1 w2 w3
            subst w1
            have hc9 := Row.cell hk9 w2 (i := j) (by rw [List.length_map]; exact hjl) (r := 0) (by omega) (u := .int .i64 x) (by rw [List.getElem_map, ← hx]; rfl)
            simp only [Nat.mul_one, Nat.add_zero] at hc9
            have lb9 := (Array.getElem?_eq_some_iff.1 hb9).1
            clear hk9 hb9 w2 w3 hev hje hjl hx
            have u9 : IntKind.i64.wrap ((j : Int) + 1) = (j : Int) + 1 := by have := HN6.out; rw [IntKind.wrap_i64]; omega
            go_upto_region 28 with fail
            go_quiet (fail)
            go_wp2_with fail
            go_roundw
            case rel => exact ⟨j + 1, by omega, by go_num, below_drewN HW.out _⟩
            case measure => simp [intOf]; omega
          · have t1 : decide ((j : Int) < (n6 : Int)) = false := decide_eq_false (by omega)
            have HEND : Hid (Below w.heap.size w wv) := HBG.out.trans (HW.out.mono HBG.out.size)
            go_wp2_with fail
            go_ret
            exact ⟨rfl, HEND.out⟩
      · have t2 : decide (room < M + (k : Int)) = false := decide_eq_false hf
        have u2 : IntKind.i64.wrap (M + (k : Int) + 1) = M + (k : Int) + 1 := by have := HCL.out; have := HM.out; have := HKZ.out.1; rw [IntKind.wrap_i64]; omega
        have HF2 : Hid (hpF room 0 (L ++ [(k : Int)]) ∧ M + (k : Int) + 1 = hpT 0 (L ++ [(k : Int)]) + 1) := by
          refine ⟨hpF_app room 0 L [(k : Int)] HFI.out ⟨by have := HM.out; omega, trivial⟩, ?_⟩
          rw [hpT_app, HM.out]
          show hpT 0 L + 1 + (k : Int) + 1 = hpT 0 L + (k : Int) + 1 + 1
          omega
        have HV : Hid (hpV (hpT 0 L) (k : Int) = [M, (k : Int)] ++ (if (k : Int) > 0 then [0, (k : Int)] else [])) := by show _ = _; unfold hpV; rw [HM.out]
        obtain ⟨xW, hxW⟩ : ∃ X, X = wz.alloc (.cells #[.int .i64 37, .int .i64 3, .int .i64 0, .int .i64 0, .int .i64 0, .int .i64 29, .int .i64 4, .int .i64 3, .int .i64 0, .int .i64 0, .int .i64 37, .int .i64 4, .int .i64 0, .int .i64 0, .int .i64 0] 23) := ⟨_, rfl⟩
        have bxW : Below wz.heap.size wz xW := by rw [hxW]; exact below_newR wz _
        have sxW : StsG xW (some ⟨wz.heap.size, 0, none⟩) 3 5 ((hpB).map riv) := stsG_exact (xs := (hpB).map riv) (by rw [hxW]; exact heap_alloc_new _ _) rfl rfl rfl (by show 3 ≤ _; omega)
        have HxW : Hid (HpR w xW (hpP L ++ hpA (k : Int)) (hpW 0 L) (.slice az nz cz) (.slice a6 n6 c6)) := Kz.out.keep bxW
        have SxW : Hid _ := sxW
        have ExW : Hid _ := hxW
        have LxW : Hid (((hpP L ++ hpA (k : Int)).map riv).length + 3 ≤ 1000000000) := by have := HCL.out; show _ ≤ _; simp only [List.length_map, List.length_append, hpA, hpB, hpC, List.length_cons, List.length_nil]; omega
        clear hxW bxW sxW
        go_upto_region 16 with (at_builtin; rw [← ExW.out]; refine wpList_step fun K hK => ?_; refine step_append_rowsG rfl _ _ 24 23 5 _ 40 rfl Tryz.underlying24 info_ri rfl (by decide) (by decide) w.heap.size ((.slice az nz cz)) ((hpP L ++ hpA (k : Int)).map riv) rfl HxW.out.c (some ⟨wz.heap.size, 0, none⟩) 3 3 rfl ((hpB).map riv) rfl (rivH_len _) (stsH_cells SxW.out) (rivH_one _) LxW.out HxW.out.low.size ?_; intro v' wx hr hg; refine hK _ _ ?_; clear hK; have q := HxW.out.ins hr hg; obtain ⟨ax, nx, cx, ex⟩ := row_slice3 hr; subst ex; have Kx : Hid _ := q; clear q hr hg)
        clear HxW SxW ExW LxW
        obtain ⟨bW, hbW⟩ : ∃ X, X = wx.alloc (.cells #[.int .i64 M, .int .i64 (k : Int)] 3) := ⟨_, rfl⟩
        have bbW : Below wx.heap.size wx bW := by rw [hbW]; exact below_newR wx _
        have sbW : StsG bW (some ⟨wx.heap.size, 0, none⟩) 2 1 (([M, (k : Int)]).map sngR) := stsG_exact (xs := ([M, (k : Int)]).map sngR) (by rw [hbW]; exact heap_alloc_new _ _) rfl rfl rfl (by show 2 ≤ _; omega)
        have HbW : Hid (HpR w bW (hpP L ++ hpA (k : Int) ++ hpB) (hpW 0 L) (.slice ax nx cx) (.slice a6 n6 c6)) := Kx.out.keep bbW
        have SbW : Hid _ := sbW
        have EbW : Hid _ := hbW
        have LbW : Hid (((hpW 0 L).map sngR).length + 2 ≤ 1000000000) := by have := HCL.out; show _ ≤ _; simp only [List.length_map, List.length_append, hpA, hpB, hpC, List.length_cons, List.length_nil]; omega
        clear hbW bbW sbW
        go_upto_region 17 with (at_builtin; rw [← EbW.out]; refine wpList_step fun K hK => ?_; refine step_append_rowsG rfl _ _ 51 3 1 _ 8 rfl Tryz.underlying51 infoH rfl (by decide) (by decide) w.heap.size ((.slice a6 n6 c6)) ((hpW 0 L).map sngR) rfl HbW.out.v (some ⟨wx.heap.size, 0, none⟩) 2 2 rfl (([M, (k : Int)]).map sngR) rfl (sngH_len _) (stsH_cells SbW.out) (sngH_one _) LbW.out HbW.out.low.size ?_; intro v' wb hr hg; refine hK _ _ ?_; clear hK; have q := HbW.out.num hr hg; obtain ⟨ab, nb, cb, eb⟩ := row_slice3 hr; subst eb; have Kb : Hid _ := q; clear q hr hg)
        clear HbW SbW EbW LbW
        by_cases hk0 : 0 < k
        · have t3 : decide (0 < (k : Int)) = true := decide_eq_true (by omega)
          have t4 : decide (0 < k) = true := decide_eq_true hk0
          have u3 : IntKind.i64.wrap ((k : Int) - 1) = (k : Int) - 1 := by have := HKZ.out.1; rw [IntKind.wrap_i64]; omega
          have HI9 : Hid (hpI (k : Int) = hpA (k : Int) ++ (hpB ++ hpC (k : Int)) ∧ hpV (hpT 0 L) (k : Int) = [M, (k : Int)] ++ [0, (k : Int)]) := by
            refine ⟨?_, ?_⟩
            · unfold hpI; rw [if_pos (by omega)]
            · rw [HV.out, if_pos (by omega)]
          clear hk0
          go_upto_region 18 with fail
          obtain ⟨cW, hcW⟩ : ∃ X, X = wb.alloc (.cells #[.int .i64 1, .int .i64 5, .int .i64 0, .int .i64 0, .int .i64 ((k : Int) - 1), .int .i64 30, .int .i64 6, .int .i64 3, .int .i64 5, .int .i64 0, .int .i64 37, .int .i64 6, .int .i64 0, .int .i64 0, .int .i64 0, .int .i64 31, .int .i64 2, .int .i64 3, .int .i64 5, .int .i64 0, .int .i64 30, .int .i64 6, .int .i64 3, .int .i64 5, .int .i64 0, .int .i64 37, .int .i64 6, .int .i64 0, .int .i64 0, .int .i64 0] 23) := ⟨_, rfl⟩
          have bcW : Below wb.heap.size wb cW := by rw [hcW]; exact below_newR wb _
          have scW : StsG cW (some ⟨wb.heap.size, 0, none⟩) 6 5 ((hpC (k : Int)).map riv) := stsG_exact (xs := (hpC (k : Int)).map riv) (by rw [hcW]; exact heap_alloc_new _ _) rfl rfl rfl (by show 6 ≤ _; omega)
          have HcW : Hid (HpR w cW (hpP L ++ hpA (k : Int) ++ hpB) (hpW 0 L ++ [M, (k : Int)]) (.slice ax nx cx) (.slice ab nb cb)) := Kb.out.keep bcW
          have ScW : Hid _ := scW
          have EcW : Hid _ := hcW
          have LcW : Hid (((hpP L ++ hpA (k : Int) ++ hpB).map riv).length + 6 ≤ 1000000000) := by have := HCL.out; show _ ≤ _; simp only [List.length_map, List.length_append, hpA, hpB, hpC, List.length_cons, List.length_nil]; omega
          clear hcW bcW scW
          go_upto_region 19 with (at_builtin; rw [← EcW.out]; refine wpList_step fun K hK => ?_; refine step_append_rowsG rfl _ _ 24 23 5 _ 40 rfl Tryz.underlying24 info_ri rfl (by decide) (by decide) w.heap.size ((.slice ax nx cx)) ((hpP L ++ hpA (k : Int) ++ hpB).map riv) rfl HcW.out.c (some ⟨wb.heap.size, 0, none⟩) 6 6 rfl ((hpC (k : Int)).map riv) rfl (rivH_len _) (stsH_cells ScW.out) (rivH_one _) LcW.out HcW.out.low.size ?_; intro v' wc hr hg; refine hK _ _ ?_; clear hK; have q := HcW.out.ins hr hg; obtain ⟨ac, nc, cc, ec⟩ := row_slice3 hr; subst ec; have Kc : Hid _ := q; clear q hr hg)
          clear HcW ScW EcW LcW
          obtain ⟨dW, hdW⟩ : ∃ X, X = wc.alloc (.cells #[.int .i64 0, .int .i64 (k : Int)] 3) := ⟨_, rfl⟩
          have bdW : Below wc.heap.size wc dW := by rw [hdW]; exact below_newR wc _
          have sdW : StsG dW (some ⟨wc.heap.size, 0, none⟩) 2 1 (([0, (k : Int)]).map sngR) := stsG_exact (xs := ([0, (k : Int)]).map sngR) (by rw [hdW]; exact heap_alloc_new _ _) rfl rfl rfl (by show 2 ≤ _; omega)
          have HdW : Hid (HpR w dW (hpP L ++ hpA (k : Int) ++ hpB ++ hpC (k : Int)) (hpW 0 L ++ [M, (k : Int)]) (.slice ac nc cc) (.slice ab nb cb)) := Kc.out.keep bdW
          have SdW : Hid _ := sdW
          have EdW : Hid _ := hdW
          have LdW : Hid (((hpW 0 L ++ [M, (k : Int)]).map sngR).length + 2 ≤ 1000000000) := by have := HCL.out; show _ ≤ _; simp only [List.length_map, List.length_append, hpA, hpB, hpC, List.length_cons, List.length_nil]; omega
          clear hdW bdW sdW
          go_upto_region 20 with (at_builtin; rw [← EdW.out]; refine wpList_step fun K hK => ?_; refine step_append_rowsG rfl _ _ 51 3 1 _ 8 rfl Tryz.underlying51 infoH rfl (by decide) (by decide) w.heap.size ((.slice ab nb cb)) ((hpW 0 L ++ [M, (k : Int)]).map sngR) rfl HdW.out.v (some ⟨wc.heap.size, 0, none⟩) 2 2 rfl (([0, (k : Int)]).map sngR) rfl (sngH_len _) (stsH_cells SdW.out) (sngH_one _) LdW.out HdW.out.low.size ?_; intro v' wd hr hg; refine hK _ _ ?_; clear hK; have q := HdW.out.num hr hg; obtain ⟨ad, nd, cd, ed⟩ := row_slice3 hr; subst ed; have Kd : Hid _ := q; clear q hr hg)
          clear HdW SdW EdW LdW
          have HFIN : Hid (HpR w wd (hpP ((Z.take (i + 1)).map szm)) (hpW 0 ((Z.take (i + 1)).map szm)) (.slice ac nc cc) (.slice ad nd cd)) := by
            have q := Kd.out
            rw [HKZ.out.2.2, hpP_app, hpW_app]
            show HpR w wd (hpP L ++ (hpI (k : Int) ++ [])) (hpW 0 L ++ (hpV (hpT 0 L) (k : Int) ++ [])) _ _
            rw [List.append_nil, List.append_nil, HI9.out.1, HI9.out.2]
            simp only [List.append_assoc] at q ⊢
            exact q
          have HFIT : Hid (hpF room 0 ((Z.take (i + 1)).map szm) ∧ M + (k : Int) + 1 = hpT 0 ((Z.take (i + 1)).map szm) + 1) := by rw [HKZ.out.2.2]; exact HF2.out
          clear t2 t3 t4 hf
          have hn3 := HN.out.2
          have u9 : IntKind.i64.wrap ((i : Int) + 1) = (i : Int) + 1 := by rw [IntKind.wrap_i64]; omega
          go_wp2_with fail
          go_roundw
          case rel => exact ⟨i + 1, ac, nc, cc, ad, nd, cd, M + (k : Int) + 1, by omega, rfl, rfl, rfl, rfl, by go_num, HFIN.out, HFIT.out.1, HFIT.out.2⟩
          case measure => simp [intOf]; omega
        · have t3 : decide (0 < (k : Int)) = false := decide_eq_false (by omega)
          have t4 : decide (0 < k) = false := decide_eq_false hk0
          have HI9 : Hid (hpI (k : Int) = hpA (k : Int) ++ hpB ∧ hpV (hpT 0 L) (k : Int) = [M, (k : Int)]) := by
            refine ⟨?_, ?_⟩
            · unfold hpI; rw [if_neg (by omega), List.append_nil]
            · rw [HV.out, if_neg (by omega), List.append_nil]
          have HFIN : Hid (HpR w wb (hpP ((Z.take (i + 1)).map szm)) (hpW 0 ((Z.take (i + 1)).map szm)) (.slice ax nx cx) (.slice ab nb cb)) := by
            have q := Kb.out
            rw [HKZ.out.2.2, hpP_app, hpW_app]
            show HpR w wb (hpP L ++ (hpI (k : Int) ++ [])) (hpW 0 L ++ (hpV (hpT 0 L) (k : Int) ++ [])) _ _
            rw [List.append_nil, List.append_nil, HI9.out.1, HI9.out.2]
            simp only [List.append_assoc] at q ⊢
            exact q
          have HFIT : Hid (hpF room 0 ((Z.take (i + 1)).map szm) ∧ M + (k : Int) + 1 = hpT 0 ((Z.take (i + 1)).map szm) + 1) := by rw [HKZ.out.2.2]; exact HF2.out
          clear t2 hf hk0
          have hn3 := HN.out.2
          have u9 : IntKind.i64.wrap ((i : Int) + 1) = (i : Int) + 1 := by rw [IntKind.wrap_i64]; omega
          go_wp2_with fail
          go_roundw
          case rel => exact ⟨i + 1, ax, nx, cx, ab, nb, cb, M + (k : Int) + 1, by omega, rfl, rfl, rfl, rfl, by go_num, HFIN.out, HFIT.out.1, HFIT.out.2⟩
          case measure => simp [intOf]; omega
    · have t1 : decide ((i : Int) < (n : Int)) = false := decide_eq_false (by omega)
      go_upto_region 21 with fail
      have HCL : Hid ((hpP L).length ≤ 3300 ∧ (hpW 0 L).length ≤ 1200 ∧ 0 ≤ hpT 0 L ∧ hpT 0 L ≤ 16384 * 300) := by
        have hll : L.length ≤ 300 := by have := HN.out; rw [HLL.out, List.length_map]; have := List.length_take_le i Z; omega
        have h1 := hpP_len L
        have h2 := hpW_len 0 L
        have h3 := hpT_le 0 L (by rw [HLL.out]; exact szm_all Z i)
        show _ ∧ _ ∧ _ ∧ _
        omega
      clear t1 hlt
      obtain ⟨yW, hyW⟩ : ∃ X, X = wq.alloc (.cells #[.int .i64 27, .int .i64 0, .int .i64 0, .int .i64 0, .int .i64 0] 23) := ⟨_, rfl⟩
      have byW : Below wq.heap.size wq yW := by rw [hyW]; exact below_newR wq _
      have syW : StsG yW (some ⟨wq.heap.size, 0, none⟩) 1 5 (([(⟨27, 0, 0, 0, 0⟩ : Ri)]).map riv) := stsG_exact (xs := ([(⟨27, 0, 0, 0, 0⟩ : Ri)]).map riv) (by rw [hyW]; exact heap_alloc_new _ _) rfl rfl rfl (by show 1 ≤ _; omega)
      have HyW : Hid (HpR w yW (hpP L) (hpW 0 L) (.slice a5 n5 c5) (.slice a6 n6 c6)) := HH.out.keep byW
      have SyW : Hid _ := syW
      have EyW : Hid _ := hyW
      have LyW : Hid (((hpP L).map riv).length + 1 ≤ 1000000000) := by have := HCL.out; show _ ≤ _; simp only [List.length_map, List.length_append, hpA, hpB, hpC, List.length_cons, List.length_nil]; omega
      clear hyW byW syW
      go_upto_region 22 with (at_builtin; rw [← EyW.out]; refine wpList_step fun K hK => ?_; refine step_append_rowsG rfl _ _ 24 23 5 _ 40 rfl Tryz.underlying24 info_ri rfl (by decide) (by decide) w.heap.size ((.slice a5 n5 c5)) ((hpP L).map riv) rfl HyW.out.c (some ⟨wq.heap.size, 0, none⟩) 1 1 rfl (([(⟨27, 0, 0, 0, 0⟩ : Ri)]).map riv) rfl (rivH_len _) (stsH_cells SyW.out) (rivH_one _) LyW.out HyW.out.low.size ?_; intro v' wy hr hg; refine hK _ _ ?_; clear hK; have q := HyW.out.ins hr hg; obtain ⟨ay, ny, cy, ey⟩ := row_slice3 hr; subst ey; have Ky : Hid _ := q; clear q hr hg)
      clear HyW SyW EyW LyW
      obtain ⟨P, hP⟩ : ∃ P, P = hpP L ++ [(⟨27, 0, 0, 0, 0⟩ : Ri)] := ⟨_, rfl⟩
      have hKy := Ky.out
      rw [← hP] at hKy
      obtain ⟨a', c', e', hs⟩ := row_sts hKy.c (rivH_one _)
      injection e' with q1 q2 q3
      subst q1 q3
      have hny : ny = P.length := by rw [q2, List.length_map]
      have hll : L.length ≤ 300 := by have := HN.out; rw [HLL.out, List.length_map]; have := List.length_take_le i Z; omega
      obtain ⟨RF, g1, g2, g3, g4, g6, g7⟩ := hp_all (room := room) L (by rw [HLL.out]; exact szm_all Z i) hll HFI.out (P := P) hP
      have hfm : ∀ f, ∀ x ∈ hpP L, (regsF x = true ∧ numF 1 f x = true) ∧ Fits x.n := fun f x hx => hpP_form f L (by rw [HLL.out]; exact szm_all Z i) x hx
      obtain ⟨a2, c2, e2, _⟩ := own_slice hKy.v.out
      injection e2 with q4 q5 q6
      have hn6 : n6 = (hpW 0 L).length := by rw [q5, List.length_map]
      have hform := hp_form (C := hpP L) hfm
      rw [← hP] at hform
      have hly : ny ≤ 10000 := by have := HCL.out; rw [hny, hP]; simp only [List.length_map, List.length_append, hpA, List.length_cons, List.length_nil]; omega
      have HON : Hid (Calls Tryz.prog 13 #[.slice ay ny cy, .int .i64 2, .agg #[.int .i64 2, .int .i64 room], .slice none 0 0, .int .i64 ((ny : Int) + 1)] wy fun e w' => ∃ ao co, e = .returned (.tuple #[.agg #[.slice ao n6 co, .int .i64 1, .int .i64 RF.kd, .int .i64 RF.vl, .int .i64 (ny : Int), .int .i64 (M - 1), .int .i64 RF.deep], .bool true]) ∧ Evs w' ao co RF.ev ∧ Below wy.heap.size wy w') := by
        have q := one_any wy (HT.out.below hKy.low HT.out.1) ay ny cy P hny hs (by omega) hform.2 2 2 room (newErr_one hform.1 (by omega) (by have := HR.out; omega)) (P.length + 1) (by omega) RF g1
        rw [show ((P.length + 1 : Nat) : Int) = (ny : Int) + 1 by rw [hny]; rfl] at q
        refine q.mono ?_
        rintro e w' ⟨ao, co, rfl, hE, hB⟩
        refine ⟨ao, co, ?_, hE, hB⟩
        rw [g3, g4, g6, g7, List.length_map, ← hn6, ← hny, show hpT 0 L = M - 1 by have := HM.out; omega]
      have HEV : Hid (RF.ev = (hpW 0 L).map evt ∧ n6 = (hpW 0 L).length) := ⟨g3, hn6⟩
      have HKY : Hid (Row wy w.heap.size 3 1 (.slice a6 n6 c6) ((hpW 0 L).map sngR)) := hKy.v
      have HBY : Hid (Below w.heap.size w wy) := hKy.low
      have u4 : IntKind.i64.wrap ((ny : Int) + 1) = (ny : Int) + 1 := by rw [IntKind.wrap_i64]; omega
      have u5 : IntKind.i64.wrap ((ny : Int) - 1) = (ny : Int) - 1 := by rw [IntKind.wrap_i64]; omega
      have u6 : IntKind.i64.wrap (M - 1) = M - 1 := by have := HM.out; have := HCL.out; rw [IntKind.wrap_i64]; omega
      have HN6 : Hid (n6 ≤ 1200) := by have := HCL.out; show _ ≤ _; omega
      clear hP hKy hs q2 hny g1 g2 g3 g4 g6 g7 q4 q5 q6 hn6 hform hly hfm Ky
      go_wp2_with fail
      refine Calls.mono HON.out ?_
      rintro e wE ⟨ao, co, rfl, hE, bE⟩
      go_upto_region 23 with fail
      obtain ⟨p, hp⟩ : ∃ p, p = wE.heap.size := ⟨_, rfl⟩
      obtain ⟨wF, hwF⟩ : ∃ W, W = wE.alloc (.cells #[.slice ao n6 co, .int .i64 1, .int .i64 RF.kd, .int .i64 RF.vl, .int .i64 (ny : Int), .int .i64 (M - 1), .int .i64 RF.deep] 40) := ⟨_, rfl⟩
      rw [← hwF, ← hp]
      have kF : wF.heap[p]? = some (.cells #[.slice ao n6 co, .int .i64 1, .int .i64 RF.kd, .int .i64 RF.vl, .int .i64 (ny : Int), .int .i64 (M - 1), .int .i64 RF.deep] 40 (0, 0)) := by rw [hwF, hp]; exact heap_alloc_new _ _
      have bF : Below wE.heap.size wE wF := by rw [hwF]; exact below_newR wE _
      have HEF : Hid _ := hE.belowR bF
      have HKF : Hid _ := (HKY.out.keep bE).keep bF
      have HBF : Hid (Below w.heap.size w wF) := HBY.out.trans ((bE.mono HBY.out.size).trans (bF.mono (Nat.le_trans HBY.out.size bE.size)))
      have HPF : Hid _ := kF
      have HAF : Hid _ := HAL.out wF HBF.out
      clear hwF hp kF bF hE bE HON HKY HBY u4
      go_wp2_with fail
      refine Calls.mono HAF.out ?_
      rintro e wG ⟨rfl, bG⟩
      have kG := (bG.block _ (Array.getElem?_eq_some_iff.1 HPF.out).1).trans HPF.out
      have lG := (Array.getElem?_eq_some_iff.1 kG).1
      have HEG : Hid _ := HEF.out.belowR bG
      have HKG : Hid _ := HKF.out.keep bG
      have HBG : Hid (Below w.heap.size w wG) := HBF.out.trans (bG.mono HBF.out.size)
      have x0 : wG.cell? ⟨p, 0, none⟩ = some (.slice ao n6 co) := cell_arr kG rfl
      have x1 : wG.cell? ⟨p, 1, none⟩ = some (.int .i64 1) := cell_arr kG rfl
      have x2 : wG.cell? ⟨p, 2, none⟩ = some (.int .i64 RF.kd) := cell_arr kG rfl
      have x4 : wG.cell? ⟨p, 4, none⟩ = some (.int .i64 (ny : Int)) := cell_arr kG rfl
      have x5 : wG.cell? ⟨p, 5, none⟩ = some (.int .i64 (M - 1)) := cell_arr kG rfl
      have HPG : Hid _ := kG
      clear kG bG HEF HKF HBF HPF HAF
      go_wp2_with fail
      clear x0 x1 x2 x4 x5 lG
      go_loopw [13] (fun v wr => ∃ j : Nat, j ≤ n6 ∧ v = .int .i64 (j : Int) ∧ Hid (Below wG.heap.size wG wr)) (fun v _ => n6 - (intOf v).toNat)
      case atStart => exact ⟨0, by omega, rfl, Below.refl _ _⟩
      case round =>
        obtain ⟨j, hj, rfl, HW⟩ := hrel
        obtain ⟨wv, rfl⟩ : ∃ wv, wv = wr := ⟨_, rfl⟩
        have kV := (HW.out.block _ (Array.getElem?_eq_some_iff.1 HPG.out).1).trans HPG.out
        have lV := (Array.getElem?_eq_some_iff.1 kV).1
        have x0 : wv.cell? ⟨p, 0, none⟩ = some (.slice ao n6 co) := cell_arr kV rfl
        have x1 : wv.cell? ⟨p, 1, none⟩ = some (.int .i64 1) := cell_arr kV rfl
        have x2 : wv.cell? ⟨p, 2, none⟩ = some (.int .i64 RF.kd) := cell_arr kV rfl
        have x4 : wv.cell? ⟨p, 4, none⟩ = some (.int .i64 (ny : Int)) := cell_arr kV rfl
        have x5 : wv.cell? ⟨p, 5, none⟩ = some (.int .i64 (M - 1)) := cell_arr kV rfl
        clear kV
        by_cases hlt : j < n6
        · have t1 : decide ((j : Int) < (n6 : Int)) = true := decide_eq_true (by omega)
          have hjl : j < (hpW 0 L).length := by have := HEV.out.2; omega
          have hje : j < RF.ev.length := by rw [HEV.out.1, List.length_map]; exact hjl
          obtain ⟨x, hx⟩ : ∃ x, x = (hpW 0 L)[j]'hjl := ⟨_, rfl⟩
          have hev : RF.ev[j]'hje = (1, x) := by
            have e1 := List.getElem?_eq_getElem hje
            have e2 : RF.ev[j]? = some (1, x) := by rw [HEV.out.1, List.getElem?_map, List.getElem?_eq_getElem hjl, ← hx]; rfl
            rw [e2] at e1
            exact (Option.some.inj e1).symm
          obtain ⟨eb, eo, ee, el, z0, z1⟩ := (HEG.out.belowR HW.out).atR (k := j) hje
          rw [hev] at z0 z1
          dsimp only at z0 z1
          subst ee
          have hk9 := HKG.out.keep HW.out
          obtain ⟨gb, c9, cs9, ev9, _, _, _, hb9⟩ := Row.some hk9 (by rw [List.length_map]; omega)
          injection ev9 with w1 w2 w3
          subst w1
          have hc9 := Row.cell hk9 w2 (i := j) (by rw [List.length_map]; exact hjl) (r := 0) (by omega) (u := .int .i64 x) (by rw [List.getElem_map, ← hx]; rfl)
          simp only [Nat.mul_one, Nat.add_zero] at hc9
          have lb9 := (Array.getElem?_eq_some_iff.1 hb9).1
          clear hk9 hb9 w2 w3 hev hje hjl hx
          have u9 : IntKind.i64.wrap ((j : Int) + 1) = (j : Int) + 1 := by have := HN6.out; rw [IntKind.wrap_i64]; omega
          go_upto_region 28 with fail
          go_quiet (fail)
          go_wp2_with fail
          go_roundw
          case rel => exact ⟨j + 1, by omega, by go_num, below_drewN HW.out _⟩
          case measure => simp [intOf]; omega
        · have t1 : decide ((j : Int) < (n6 : Int)) = false := decide_eq_false (by omega)
          have HEND : Hid (Below w.heap.size w wv) := HBG.out.trans (HW.out.mono HBG.out.size)
          go_wp2_with fail
          go_ret
          exact ⟨rfl, HEND.out⟩
theorem r16Heap_any (w : World) (hTab : Tab w) (sa : Option Addr) (sc : Nat) (Z : List Int) (hZ : Ints w sa sc Z) (n : Nat) (hn : n = Z.length) (hb : n ≤ 9223372036854775807) (h : Int) : Calls Tryz.prog 5 #[.slice sa n sc, .int .i64 h] w fun e w' => e = .returned (.bool true) ∧ Below w.heap.size w w' := by
  by_cases hl : n ≤ 300
  · obtain ⟨r, hr, h1⟩ := andR_small h 1048575 (by omega)
    exact r16Heap_in w hTab sa sc Z hZ (by omega) n hn h (r : Int) h1 (by omega)
  · have t0 : decide (300 < (n : Int)) = true := decide_eq_true (by omega)
    have HB : Hid (Below w.heap.size w w) := Below.refl _ _
    clear hTab hZ hn hb hl
    go_enter Tryz.func5, Tryz.ntmps5
    go_wp2_with fail
    go_ret
    exact ⟨rfl, HB.out⟩
end Go.Proofs.YteplldbhfjfbpaaGreatDoor
