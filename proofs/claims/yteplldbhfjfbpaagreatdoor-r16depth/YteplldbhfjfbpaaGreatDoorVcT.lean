import Derived.Test.YteplldbhfjfbpaaGreatDoorVcS
set_option linter.unusedVariables false
set_option linter.unusedSimpArgs false
namespace Go.Proofs.YteplldbhfjfbpaaGreatDoor
open Go.ChangeShapes Go.WideShapes Go.ChangeAt Go.RowKit Go.Maps

theorem tri_go (m : Nat) (h : m ≤ 4095) : (tri m : Int) = wrap64 ((wrap64 ((m : Int) * ((m : Int) + 1))).tdiv 2) := by
  have h1 := tri_eq m
  have h2 := tri_le m h
  have e : (m : Int) * ((m : Int) + 1) = 2 * (tri m : Int) := by
    have : ((m * (m + 1) : Nat) : Int) = ((2 * tri m : Nat) : Int) := by rw [h1]
    rw [Int.natCast_mul, Int.natCast_add, Int.natCast_mul] at this
    exact this
  rw [e]
  have e2 : wrap64 (2 * (tri m : Int)) = 2 * (tri m : Int) := by unfold wrap64; omega
  rw [e2, Int.mul_tdiv_cancel_left _ (by decide)]
  unfold wrap64
  omega
def dpA (n : Int) : List Ri := [⟨1, 5, 0, 0, 1⟩, ⟨1, 0, 0, 0, n⟩, ⟨26, 0, 0, 0, 1⟩, ⟨37, 0, 0, 0, 0⟩, ⟨27, 0, 0, 0, 0⟩]
def dpB (fr : Int) : List Ri := [⟨25, 0, 0, 0, fr - 1⟩, ⟨22, 0, 0, 0, 11⟩, ⟨4, 0, 0, 5, 0⟩, ⟨26, 0, 0, 0, 1⟩, ⟨24, 1, 0, 0, fr - 1⟩, ⟨3, 0, 0, 1, 0⟩, ⟨27, 0, 0, 0, 0⟩]
theorem riv_len (L : List Ri) : ∀ y ∈ L.map riv, y.length = 5 := fun y hy => by
  obtain ⟨e, _, rfl⟩ := List.mem_map.1 hy
  rfl
theorem riv_one1 (L : List Ri) : ∀ u ∈ (L.map riv).flatten, u.oneCell' = true := fun u hu => by
  obtain ⟨y, hy, hu'⟩ := List.mem_flatten.1 hu
  obtain ⟨e, _, rfl⟩ := List.mem_map.1 hy
  simp only [riv, List.mem_cons, List.not_mem_nil, or_false] at hu'
  rcases hu' with rfl | rfl | rfl | rfl | rfl <;> rfl
theorem riv_cells {W : World} {ao : Option Addr} {c : Nat} {L : List Ri} (h : StsG W ao c 5 (L.map riv)) : L.map riv ≠ [] → ∃ ad, ao = some ad ∧ ∀ j u, (L.map riv).flatten[j]? = some u → W.cell? (ad.add j) = some u := fun hne => by
  obtain ⟨b, o, e, _, hc⟩ := h.out hne
  exact ⟨⟨b, o, none⟩, e, fun j u hu => by rw [add_noneR]; exact hc j u hu⟩
set_option maxRecDepth 100000 in
set_option maxHeartbeats 4000000 in
theorem r16Depth_1 (w : World) (hTab : Tab w) (a b c : Int) (m : Nat) (q : Nat) (hm : m ≤ 4095) (hq : q ≤ 255) (h1 : bits BinOp.and IntKind.i64 a 4095 = (m : Int)) (h2 : bits BinOp.and IntKind.i64 b 255 = (q : Int)) (h3 : bits BinOp.and IntKind.i64 c 1 = 1) (fr : Int) (hfr : fr = 3 + (q : Int)) : Calls Tryz.prog 3 #[.int .i64 a, .int .i64 b, .int .i64 c] w fun e w' => e = .returned (.bool true) ∧ Below w.heap.size w w' := by
  have HAL : Hid (∀ W, Below w.heap.size w W → Calls Tryz.prog 10 #[] W fun e w' => e = .returned (.bool true) ∧ Below W.heap.size W w') := fun W bW => alive21_any W (hTab.below bW hTab.1)
  have HNM : Hid (∀ W x, Calls Tryz.prog 11 #[.int .i64 x] W fun e w' => e = .returned (.int .i64 x) ∧ W = w') := numV_any
  have hw1 : IntKind.i64.wrap (3 + (q : Int)) = fr := by rw [IntKind.wrap_i64]; omega
  have hw2 : IntKind.i64.wrap (fr - 1) = fr - 1 := by rw [IntKind.wrap_i64]; omega
  have HT : Hid (Tab w) := hTab
  have HFR : Hid (3 ≤ fr ∧ fr ≤ 300) := by show _ ∧ _; omega
  have HML : Hid (m ≤ 4095) := hm
  have HMM : Hid (m ≤ 4095) := hm
  clear hTab hq hm hfr
  go_enter Tryz.func3, Tryz.ntmps3
  go_upto_region 7 with fail
  obtain ⟨W6, hW6⟩ : ∃ W6, W6 = (w.alloc (.cells #[.int .i64 25, .int .i64 0, .int .i64 0, .int .i64 0, .int .i64 (fr - 1), .int .i64 22, .int .i64 0, .int .i64 0, .int .i64 0, .int .i64 11, .int .i64 4, .int .i64 0, .int .i64 0, .int .i64 5, .int .i64 0, .int .i64 26, .int .i64 0, .int .i64 0, .int .i64 0, .int .i64 1, .int .i64 24, .int .i64 1, .int .i64 0, .int .i64 0, .int .i64 (fr - 1), .int .i64 3, .int .i64 0, .int .i64 0, .int .i64 1, .int .i64 0, .int .i64 27, .int .i64 0, .int .i64 0, .int .i64 0, .int .i64 0] 23)).alloc (.cells #[.int .i64 1, .int .i64 5, .int .i64 0, .int .i64 0, .int .i64 1, .int .i64 1, .int .i64 0, .int .i64 0, .int .i64 0, .int .i64 (m : Int), .int .i64 26, .int .i64 0, .int .i64 0, .int .i64 0, .int .i64 1, .int .i64 37, .int .i64 0, .int .i64 0, .int .i64 0, .int .i64 0, .int .i64 27, .int .i64 0, .int .i64 0, .int .i64 0, .int .i64 0] 23) := ⟨_, rfl⟩
  obtain ⟨gf, hgf⟩ : ∃ g, g = w.heap.size := ⟨_, rfl⟩
  have eal : W6 = al w [.cells #[.int .i64 25, .int .i64 0, .int .i64 0, .int .i64 0, .int .i64 (fr - 1), .int .i64 22, .int .i64 0, .int .i64 0, .int .i64 0, .int .i64 11, .int .i64 4, .int .i64 0, .int .i64 0, .int .i64 5, .int .i64 0, .int .i64 26, .int .i64 0, .int .i64 0, .int .i64 0, .int .i64 1, .int .i64 24, .int .i64 1, .int .i64 0, .int .i64 0, .int .i64 (fr - 1), .int .i64 3, .int .i64 0, .int .i64 0, .int .i64 1, .int .i64 0, .int .i64 27, .int .i64 0, .int .i64 0, .int .i64 0, .int .i64 0] 23, .cells #[.int .i64 1, .int .i64 5, .int .i64 0, .int .i64 0, .int .i64 1, .int .i64 1, .int .i64 0, .int .i64 0, .int .i64 0, .int .i64 (m : Int), .int .i64 26, .int .i64 0, .int .i64 0, .int .i64 0, .int .i64 1, .int .i64 37, .int .i64 0, .int .i64 0, .int .i64 0, .int .i64 0, .int .i64 27, .int .i64 0, .int .i64 0, .int .i64 0, .int .i64 0] 23] := hW6
  have kf : W6.heap[gf]? = some (.cells #[.int .i64 25, .int .i64 0, .int .i64 0, .int .i64 0, .int .i64 (fr - 1), .int .i64 22, .int .i64 0, .int .i64 0, .int .i64 0, .int .i64 11, .int .i64 4, .int .i64 0, .int .i64 0, .int .i64 5, .int .i64 0, .int .i64 26, .int .i64 0, .int .i64 0, .int .i64 0, .int .i64 1, .int .i64 24, .int .i64 1, .int .i64 0, .int .i64 0, .int .i64 (fr - 1), .int .i64 3, .int .i64 0, .int .i64 0, .int .i64 1, .int .i64 0, .int .i64 27, .int .i64 0, .int .i64 0, .int .i64 0, .int .i64 0] 23 (0, 0)) := by rw [eal, hgf]; exact al_at _ w 0 (by simp)
  have km : W6.heap[gf + 1]? = some (.cells #[.int .i64 1, .int .i64 5, .int .i64 0, .int .i64 0, .int .i64 1, .int .i64 1, .int .i64 0, .int .i64 0, .int .i64 0, .int .i64 (m : Int), .int .i64 26, .int .i64 0, .int .i64 0, .int .i64 0, .int .i64 1, .int .i64 37, .int .i64 0, .int .i64 0, .int .i64 0, .int .i64 0, .int .i64 27, .int .i64 0, .int .i64 0, .int .i64 0, .int .i64 0] 23 (0, 0)) := by rw [eal, hgf]; exact al_at _ w 1 (by simp)
  have HB6 : Hid (Below w.heap.size w W6) := by show Below _ _ _; rw [eal]; exact al_below _ w
  have HSA : Hid (StsG W6 (some ⟨gf + 1, 0, none⟩) 5 5 ((dpA m).map riv)) := stsG_exact (xs := (dpA m).map riv) km rfl rfl rfl (by show 5 ≤ _; omega)
  have HSB : Hid (StsG W6 (some ⟨gf, 0, none⟩) 7 5 ((dpB fr).map riv)) := stsG_exact (xs := (dpB fr).map riv) kf rfl rfl rfl (by show 7 ≤ _; omega)
  rw [← hW6, ← hgf]
  clear hW6 hgf eal kf km h1 h2 h3 hw1
  go_upto_region 8 with (first
    | (at_builtin
       refine wpList_step fun K hK => ?_
       refine step_append_rowsG rfl _ _ 24 23 5 _ 40 rfl Tryz.underlying24 info_ri rfl (by decide) (by decide) W6.heap.size (.slice none 0 0) [] rfl (Row.nil _ _ _ _) (some ⟨gf + 1, 0, none⟩) 5 5 rfl ((dpA m).map riv) rfl (riv_len _) (riv_cells HSA.out) (riv_one1 _) (by simp) (Nat.le_refl _) ?_
       intro v7 w7 h7 g7
       refine hK _ _ ?_
       clear hK
       have h7' : Row w7 W6.heap.size 23 5 v7 ((dpA m).map riv) := h7
       obtain ⟨a7, c7, e7, _⟩ := row_sts h7' (riv_one1 _)
       have e7' : v7 = .slice a7 5 c7 := e7
       subst e7'
       have H7 : Hid (Row w7 W6.heap.size 23 5 (.slice a7 5 c7) ((dpA m).map riv)) := h7'
       have HB7 : Hid (Below W6.heap.size W6 w7) := g7.bel
       clear h7 h7' g7 e7)
    | (at_builtin
       refine wpList_step fun K hK => ?_
       refine step_append_rowsG rfl _ _ 24 23 5 _ 40 rfl Tryz.underlying24 info_ri rfl (by decide) (by decide) W6.heap.size (.slice a7 5 c7) ((dpA m).map riv) rfl H7.out (some ⟨gf, 0, none⟩) 7 7 rfl ((dpB fr).map riv) rfl (riv_len _) (riv_cells (HSB.out.below HB7.out (Nat.le_refl _))) (riv_one1 _) (by simp [dpA]) HB7.out.size ?_
       intro v8 w8 h8 g8
       refine hK _ _ ?_
       clear hK
       have h8' : Row w8 W6.heap.size 23 5 v8 ((dpC m fr).map riv) := h8
       obtain ⟨a8, c8, e8, hs8⟩ := row_sts h8' (riv_one1 _)
       have e8' : v8 = .slice a8 12 c8 := e8
       subst e8'
       have HS8 : Hid (StsG w8 a8 c8 5 ((dpC m fr).map riv)) := hs8
       have HB8 : Hid (Below W6.heap.size W6 w8) := HB7.out.trans (g8.bel.mono (Nat.le_refl _))
       clear h8 h8' g8 e8 hs8))
  obtain ⟨P, hP⟩ : ∃ P, P = ((m : Int) + 1) * fr := ⟨_, rfl⟩
  have hPb : 0 ≤ P ∧ P ≤ 4096 * 300 := by
    have h1 := HFR.out
    have h2 := HML.out
    have h3 : 0 ≤ ((m : Int) + 1) * fr := Int.mul_nonneg (by omega) (by omega)
    have h4 : ((m : Int) + 1) * fr ≤ 4096 * 300 := Int.mul_le_mul (by omega) (by omega) (by omega) (by omega)
    rw [hP]
    exact ⟨h3, h4⟩
  obtain ⟨S, hS⟩ : ∃ S, S = 2 + P - 1 := ⟨_, rfl⟩
  have u1 : IntKind.i64.wrap ((m : Int) + 1) = (m : Int) + 1 := by have := HML.out; rw [IntKind.wrap_i64]; omega
  have u2 : IntKind.i64.wrap (((m : Int) + 1) * fr) = P := by rw [← hP, IntKind.wrap_i64]; omega
  have u3 : IntKind.i64.wrap (2 + P) = 2 + P := by rw [IntKind.wrap_i64]; omega
  have u4 : IntKind.i64.wrap (2 + P - 1) = S := by rw [IntKind.wrap_i64]; omega
  have HSB2 : Hid (0 ≤ S ∧ S ≤ 1099511627776) := by
    have : 4 ≤ P + 2 := by
      have h1 := HFR.out
      have h3 : 1 * fr ≤ ((m : Int) + 1) * fr := Int.mul_le_mul_of_nonneg_right (by omega) (by omega)
      omega
    show _ ∧ _
    omega
  obtain ⟨RF, hRF⟩ : ∃ RF, smG (dpC m fr) (dpF fr) S 0 (20 * (m + 2)) (dp0 S) = RF := ⟨_, rfl⟩
  have HG : Hid (RF.ev = [] ∧ RF.fin = 2 ∧ RF.kd = 7 ∧ RF.vl = 0 ∧ RF.deep = (m : Int) + 1) := by
    have h := dp_less m fr HML.out HFR.out
    have e : 2 + ((m : Int) + 1) * fr - 1 = S := by rw [hS, ← hP]
    rw [e, hRF] at h
    simp only [Prod.mk.injEq] at h
    exact ⟨h.2.1, h.2.2.1, h.2.2.2.1, h.2.2.2.2.1, h.2.2.2.2.2⟩
  have HNE : Hid (∀ W g, Below w8.heap.size w8 W → W.heap[g]? = some (.cells #[.string ⟨#[109, 97, 105, 110]⟩, .int .i64 2, .int .i64 0, .int .i64 5, .int .i64 0, .string ⟨#[102]⟩, .int .i64 fr, .int .i64 5, .int .i64 7, .int .i64 1] 26 (0, 0)) → Calls Tryz.prog 9 #[.agg #[.slice a8 12 c8, .slice (some ⟨g, 0, none⟩) 2 2, .int .i64 0], .slice none 0 0, .agg #[.int .i64 S, .int .i64 0]] W fun e w' => ∃ mb, e = .returned (.tuple #[.pointer (some ⟨mb, 0, none⟩), .int .i64 0]) ∧ Below W.heap.size W w' ∧ ∀ W2, Below w'.heap.size w' W2 → Calls Tryz.prog 12 #[.pointer (some ⟨mb, 0, none⟩), .int .i64 ((20 * (m + 2) : Nat) : Int)] W2 fun e w3 => ∃ ao c, e = .returned (.tuple #[.agg #[.slice ao RF.ev.length c, .int .i64 RF.fin, .int .i64 RF.kd, .int .i64 RF.vl, .int .i64 RF.steps, .int .i64 RF.words, .int .i64 RF.deep], .int .i64 0]) ∧ Evs w3 ao c RF.ev ∧ Below W.heap.size W2 w3) := fun W g bW hg =>
    dp_new W ((HT.out.below HB6.out HT.out.1).below (HB8.out.trans (bW.mono HB8.out.size)) (by have := HT.out.1; have := HB6.out.size; omega)) m fr S HML.out HFR.out HSB2.out (HS8.out.below bW (Nat.le_refl _)) (stsG_exact (xs := (dpF fr).map rfv) hg rfl rfl rfl (by show 2 ≤ _; omega)) (E := []) (x1 := 0) (x2 := 0) (x3 := 0) (x4 := 0) (x5 := 0) (x6 := 0) hRF
  have HBW : Hid (Below w.heap.size w w8) := HB6.out.trans (HB8.out.mono HB6.out.size)
  clear hRF hS hP hPb HFR HSB2 HB6 HB7 HB8 HS8 HSA HSB H7 HT hw2 HML
  go_upto_region 9 with fail
  obtain ⟨n8, hn8⟩ : ∃ n, n = w8.heap.size := ⟨_, rfl⟩
  obtain ⟨w9, hw9⟩ : ∃ W, W = (w8.alloc (.cells #[.string ⟨#[109, 97, 105, 110]⟩, .int .i64 2, .int .i64 0, .int .i64 5, .int .i64 0, .string ⟨#[102]⟩, .int .i64 fr, .int .i64 5, .int .i64 7, .int .i64 1] 26)).alloc (.cells #[.slice a8 12 c8, .slice (some ⟨w8.heap.size, 0, none⟩) 2 2, .int .i64 0] 29) := ⟨_, rfl⟩
  have eal9 : w9 = al w8 [.cells #[.string ⟨#[109, 97, 105, 110]⟩, .int .i64 2, .int .i64 0, .int .i64 5, .int .i64 0, .string ⟨#[102]⟩, .int .i64 fr, .int .i64 5, .int .i64 7, .int .i64 1] 26, .cells #[.slice a8 12 c8, .slice (some ⟨w8.heap.size, 0, none⟩) 2 2, .int .i64 0] 29] := hw9
  have k9 : w9.heap[n8]? = some (.cells #[.string ⟨#[109, 97, 105, 110]⟩, .int .i64 2, .int .i64 0, .int .i64 5, .int .i64 0, .string ⟨#[102]⟩, .int .i64 fr, .int .i64 5, .int .i64 7, .int .i64 1] 26 (0, 0)) := by rw [eal9, hn8]; exact al_at _ w8 0 (by simp)
  have k9b : w9.heap[n8 + 1]? = some (.cells #[.slice a8 12 c8, .slice (some ⟨n8, 0, none⟩) 2 2, .int .i64 0] 29 (0, 0)) := by rw [eal9, hn8]; exact al_at _ w8 1 (by simp)
  have b9 : Below w8.heap.size w8 w9 := by rw [eal9]; exact al_below _ w8
  have HN9 : Hid _ := HNE.out w9 n8 b9 k9
  have HB9 : Hid (Below w.heap.size w w9) := HBW.out.trans (b9.mono HBW.out.size)
  rw [← hw9, ← hn8]
  have x0 : w9.cell? ⟨n8 + 1, 0, none⟩ = some (.slice a8 12 c8) := cell_arr k9b rfl
  have x1 : w9.cell? ⟨n8 + 1, 1, none⟩ = some (.slice (some ⟨n8, 0, none⟩) 2 2) := cell_arr k9b rfl
  have x2 : w9.cell? ⟨n8 + 1, 2, none⟩ = some (.int .i64 0) := cell_arr k9b rfl
  have l9 := (Array.getElem?_eq_some_iff.1 k9b).1
  clear hw9 hn8 eal9 k9 k9b b9 HNE HBW
  go_wp2_with fail
  refine Calls.mono HN9.out ?_
  rintro e wN ⟨mb, rfl, bN, hRun⟩
  have HBN : Hid (Below w.heap.size w wN) := HB9.out.trans (bN.mono HB9.out.size)
  have HS9 : Hid (w.heap.size ≤ w9.heap.size) := HB9.out.size
  have HRN : Hid _ := hRun
  have HAN : Hid _ := HAL.out wN HBN.out
  clear hRun bN HN9 HB9 HAL x0 x1 x2 l9 u2 u3 u4
  go_wp2_with fail
  refine Calls.mono HAN.out ?_
  rintro e wL ⟨rfl, bL⟩
  have HRL : Hid _ := HRN.out wL bL
  have HBL : Hid (Below w.heap.size w wL) := HBN.out.trans (bL.mono HBN.out.size)
  have u5 : IntKind.i64.wrap ((m : Int) + 2) = (m : Int) + 2 := by have := HMM.out; rw [IntKind.wrap_i64]; omega
  have u6 : IntKind.i64.wrap (20 * ((m : Int) + 2)) = ((20 * (m + 2) : Nat) : Int) := by have := HMM.out; rw [IntKind.wrap_i64]; omega
  clear bL HRN HAN HBN
  go_wp2_with (go_at_call 11; refine (HNM.out _ _).mono ?_; rintro e w9 ⟨rfl, rfl⟩)
  refine Calls.mono HRL.out ?_
  rintro e wR ⟨ao, c9, rfl, hE, bR⟩
  obtain ⟨g1, g2, g3, g4, g5⟩ := HG.out
  rw [g1, g2, g3, g4, g5]
  rw [g1] at hE
  go_upto_region 14 with fail
  obtain ⟨p, hp⟩ : ∃ p, p = wR.heap.size := ⟨_, rfl⟩
  obtain ⟨wF, hwF⟩ : ∃ W, W = wR.alloc (.cells #[.slice ao 0 c9, .int .i64 2, .int .i64 7, .int .i64 0, .int .i64 RF.steps, .int .i64 RF.words, .int .i64 ((m : Int) + 1)] 40) := ⟨_, rfl⟩
  rw [← hwF, ← hp]
  have bF : Below wR.heap.size wR wF := by rw [hwF]; exact below_newR wR _
  have kF : wF.heap[p]? = some (.cells #[.slice ao 0 c9, .int .i64 2, .int .i64 7, .int .i64 0, .int .i64 RF.steps, .int .i64 RF.words, .int .i64 ((m : Int) + 1)] 40 (0, 0)) := by rw [hwF, hp]; exact heap_alloc_new _ _
  have HBF : Hid (Below w.heap.size w wF) := by
    have z := HBL.out.trans (bR.mono HS9.out)
    exact z.trans (bF.mono z.size)
  have lF := (Array.getElem?_eq_some_iff.1 kF).1
  have y0 : wF.cell? ⟨p, 0, none⟩ = some (.slice ao 0 c9) := cell_arr kF rfl
  have y1 : wF.cell? ⟨p, 1, none⟩ = some (.int .i64 2) := cell_arr kF rfl
  have y2 : wF.cell? ⟨p, 2, none⟩ = some (.int .i64 7) := cell_arr kF rfl
  have y3 : wF.cell? ⟨p, 3, none⟩ = some (.int .i64 0) := cell_arr kF rfl
  have y4 : wF.cell? ⟨p, 4, none⟩ = some (.int .i64 RF.steps) := cell_arr kF rfl
  have y5 : wF.cell? ⟨p, 5, none⟩ = some (.int .i64 RF.words) := cell_arr kF rfl
  have y6 : wF.cell? ⟨p, 6, none⟩ = some (.int .i64 ((m : Int) + 1)) := cell_arr kF rfl
  clear hwF hp bF kF bR hE HG HRL HBL g1 g2 g3
  go_wp2_with (go_at_call 11; refine (HNM.out _ _).mono ?_; rintro e w9 ⟨rfl, rfl⟩)
  go_ret
  exact ⟨rfl, HBF.out⟩
set_option maxRecDepth 100000 in
set_option maxHeartbeats 4000000 in
theorem r16Depth_0 (w : World) (hTab : Tab w) (a b c : Int) (m : Nat) (q : Nat) (hm : m ≤ 4095) (hq : q ≤ 255) (h1 : bits BinOp.and IntKind.i64 a 4095 = (m : Int)) (h2 : bits BinOp.and IntKind.i64 b 255 = (q : Int)) (h3 : bits BinOp.and IntKind.i64 c 1 = 0) (fr : Int) (hfr : fr = 3 + (q : Int)) : Calls Tryz.prog 3 #[.int .i64 a, .int .i64 b, .int .i64 c] w fun e w' => e = .returned (.bool true) ∧ Below w.heap.size w w' := by
  have HAL : Hid (∀ W, Below w.heap.size w W → Calls Tryz.prog 10 #[] W fun e w' => e = .returned (.bool true) ∧ Below W.heap.size W w') := fun W bW => alive21_any W (hTab.below bW hTab.1)
  have HNM : Hid (∀ W x, Calls Tryz.prog 11 #[.int .i64 x] W fun e w' => e = .returned (.int .i64 x) ∧ W = w') := numV_any
  have hw1 : IntKind.i64.wrap (3 + (q : Int)) = fr := by rw [IntKind.wrap_i64]; omega
  have hw2 : IntKind.i64.wrap (fr - 1) = fr - 1 := by rw [IntKind.wrap_i64]; omega
  have HT : Hid (Tab w) := hTab
  have HFR : Hid (3 ≤ fr ∧ fr ≤ 300) := by show _ ∧ _; omega
  have HML : Hid (m ≤ 4095) := hm
  have HMM : Hid (m ≤ 4095) := hm
  clear hTab hq hm hfr
  go_enter Tryz.func3, Tryz.ntmps3
  go_upto_region 7 with fail
  obtain ⟨W6, hW6⟩ : ∃ W6, W6 = (w.alloc (.cells #[.int .i64 25, .int .i64 0, .int .i64 0, .int .i64 0, .int .i64 (fr - 1), .int .i64 22, .int .i64 0, .int .i64 0, .int .i64 0, .int .i64 11, .int .i64 4, .int .i64 0, .int .i64 0, .int .i64 5, .int .i64 0, .int .i64 26, .int .i64 0, .int .i64 0, .int .i64 0, .int .i64 1, .int .i64 24, .int .i64 1, .int .i64 0, .int .i64 0, .int .i64 (fr - 1), .int .i64 3, .int .i64 0, .int .i64 0, .int .i64 1, .int .i64 0, .int .i64 27, .int .i64 0, .int .i64 0, .int .i64 0, .int .i64 0] 23)).alloc (.cells #[.int .i64 1, .int .i64 5, .int .i64 0, .int .i64 0, .int .i64 1, .int .i64 1, .int .i64 0, .int .i64 0, .int .i64 0, .int .i64 (m : Int), .int .i64 26, .int .i64 0, .int .i64 0, .int .i64 0, .int .i64 1, .int .i64 37, .int .i64 0, .int .i64 0, .int .i64 0, .int .i64 0, .int .i64 27, .int .i64 0, .int .i64 0, .int .i64 0, .int .i64 0] 23) := ⟨_, rfl⟩
  obtain ⟨gf, hgf⟩ : ∃ g, g = w.heap.size := ⟨_, rfl⟩
  have eal : W6 = al w [.cells #[.int .i64 25, .int .i64 0, .int .i64 0, .int .i64 0, .int .i64 (fr - 1), .int .i64 22, .int .i64 0, .int .i64 0, .int .i64 0, .int .i64 11, .int .i64 4, .int .i64 0, .int .i64 0, .int .i64 5, .int .i64 0, .int .i64 26, .int .i64 0, .int .i64 0, .int .i64 0, .int .i64 1, .int .i64 24, .int .i64 1, .int .i64 0, .int .i64 0, .int .i64 (fr - 1), .int .i64 3, .int .i64 0, .int .i64 0, .int .i64 1, .int .i64 0, .int .i64 27, .int .i64 0, .int .i64 0, .int .i64 0, .int .i64 0] 23, .cells #[.int .i64 1, .int .i64 5, .int .i64 0, .int .i64 0, .int .i64 1, .int .i64 1, .int .i64 0, .int .i64 0, .int .i64 0, .int .i64 (m : Int), .int .i64 26, .int .i64 0, .int .i64 0, .int .i64 0, .int .i64 1, .int .i64 37, .int .i64 0, .int .i64 0, .int .i64 0, .int .i64 0, .int .i64 27, .int .i64 0, .int .i64 0, .int .i64 0, .int .i64 0] 23] := hW6
  have kf : W6.heap[gf]? = some (.cells #[.int .i64 25, .int .i64 0, .int .i64 0, .int .i64 0, .int .i64 (fr - 1), .int .i64 22, .int .i64 0, .int .i64 0, .int .i64 0, .int .i64 11, .int .i64 4, .int .i64 0, .int .i64 0, .int .i64 5, .int .i64 0, .int .i64 26, .int .i64 0, .int .i64 0, .int .i64 0, .int .i64 1, .int .i64 24, .int .i64 1, .int .i64 0, .int .i64 0, .int .i64 (fr - 1), .int .i64 3, .int .i64 0, .int .i64 0, .int .i64 1, .int .i64 0, .int .i64 27, .int .i64 0, .int .i64 0, .int .i64 0, .int .i64 0] 23 (0, 0)) := by rw [eal, hgf]; exact al_at _ w 0 (by simp)
  have km : W6.heap[gf + 1]? = some (.cells #[.int .i64 1, .int .i64 5, .int .i64 0, .int .i64 0, .int .i64 1, .int .i64 1, .int .i64 0, .int .i64 0, .int .i64 0, .int .i64 (m : Int), .int .i64 26, .int .i64 0, .int .i64 0, .int .i64 0, .int .i64 1, .int .i64 37, .int .i64 0, .int .i64 0, .int .i64 0, .int .i64 0, .int .i64 27, .int .i64 0, .int .i64 0, .int .i64 0, .int .i64 0] 23 (0, 0)) := by rw [eal, hgf]; exact al_at _ w 1 (by simp)
  have HB6 : Hid (Below w.heap.size w W6) := by show Below _ _ _; rw [eal]; exact al_below _ w
  have HSA : Hid (StsG W6 (some ⟨gf + 1, 0, none⟩) 5 5 ((dpA m).map riv)) := stsG_exact (xs := (dpA m).map riv) km rfl rfl rfl (by show 5 ≤ _; omega)
  have HSB : Hid (StsG W6 (some ⟨gf, 0, none⟩) 7 5 ((dpB fr).map riv)) := stsG_exact (xs := (dpB fr).map riv) kf rfl rfl rfl (by show 7 ≤ _; omega)
  rw [← hW6, ← hgf]
  clear hW6 hgf eal kf km h1 h2 h3 hw1
  go_upto_region 8 with (first
    | (at_builtin
       refine wpList_step fun K hK => ?_
       refine step_append_rowsG rfl _ _ 24 23 5 _ 40 rfl Tryz.underlying24 info_ri rfl (by decide) (by decide) W6.heap.size (.slice none 0 0) [] rfl (Row.nil _ _ _ _) (some ⟨gf + 1, 0, none⟩) 5 5 rfl ((dpA m).map riv) rfl (riv_len _) (riv_cells HSA.out) (riv_one1 _) (by simp) (Nat.le_refl _) ?_
       intro v7 w7 h7 g7
       refine hK _ _ ?_
       clear hK
       have h7' : Row w7 W6.heap.size 23 5 v7 ((dpA m).map riv) := h7
       obtain ⟨a7, c7, e7, _⟩ := row_sts h7' (riv_one1 _)
       have e7' : v7 = .slice a7 5 c7 := e7
       subst e7'
       have H7 : Hid (Row w7 W6.heap.size 23 5 (.slice a7 5 c7) ((dpA m).map riv)) := h7'
       have HB7 : Hid (Below W6.heap.size W6 w7) := g7.bel
       clear h7 h7' g7 e7)
    | (at_builtin
       refine wpList_step fun K hK => ?_
       refine step_append_rowsG rfl _ _ 24 23 5 _ 40 rfl Tryz.underlying24 info_ri rfl (by decide) (by decide) W6.heap.size (.slice a7 5 c7) ((dpA m).map riv) rfl H7.out (some ⟨gf, 0, none⟩) 7 7 rfl ((dpB fr).map riv) rfl (riv_len _) (riv_cells (HSB.out.below HB7.out (Nat.le_refl _))) (riv_one1 _) (by simp [dpA]) HB7.out.size ?_
       intro v8 w8 h8 g8
       refine hK _ _ ?_
       clear hK
       have h8' : Row w8 W6.heap.size 23 5 v8 ((dpC m fr).map riv) := h8
       obtain ⟨a8, c8, e8, hs8⟩ := row_sts h8' (riv_one1 _)
       have e8' : v8 = .slice a8 12 c8 := e8
       subst e8'
       have HS8 : Hid (StsG w8 a8 c8 5 ((dpC m fr).map riv)) := hs8
       have HB8 : Hid (Below W6.heap.size W6 w8) := HB7.out.trans (g8.bel.mono (Nat.le_refl _))
       clear h8 h8' g8 e8 hs8))
  obtain ⟨P, hP⟩ : ∃ P, P = ((m : Int) + 1) * fr := ⟨_, rfl⟩
  have hPb : 0 ≤ P ∧ P ≤ 4096 * 300 := by
    have h1 := HFR.out
    have h2 := HML.out
    have h3 : 0 ≤ ((m : Int) + 1) * fr := Int.mul_nonneg (by omega) (by omega)
    have h4 : ((m : Int) + 1) * fr ≤ 4096 * 300 := Int.mul_le_mul (by omega) (by omega) (by omega) (by omega)
    rw [hP]
    exact ⟨h3, h4⟩
  have u1 : IntKind.i64.wrap ((m : Int) + 1) = (m : Int) + 1 := by have := HML.out; rw [IntKind.wrap_i64]; omega
  have u2 : IntKind.i64.wrap (((m : Int) + 1) * fr) = P := by rw [← hP, IntKind.wrap_i64]; omega
  have u3 : IntKind.i64.wrap (2 + P) = 2 + P := by rw [IntKind.wrap_i64]; omega
  have HSB2 : Hid (0 ≤ (2 + P) ∧ (2 + P) ≤ 1099511627776) := by
    have : 4 ≤ P + 2 := by
      have h1 := HFR.out
      have h3 : 1 * fr ≤ ((m : Int) + 1) * fr := Int.mul_le_mul_of_nonneg_right (by omega) (by omega)
      omega
    show _ ∧ _
    omega
  obtain ⟨RF, hRF⟩ : ∃ RF, smG (dpC m fr) (dpF fr) (2 + P) 0 (20 * (m + 2)) (dp0 (2 + P)) = RF := ⟨_, rfl⟩
  have HG : Hid (RF.ev = [(1, (tri m : Int))] ∧ RF.fin = 1 ∧ RF.deep = (m : Int) + 2 ∧ RF.words = 0) := by
    have h := dp_all m fr HML.out HFR.out
    have e : 2 + ((m : Int) + 1) * fr = (2 + P) := by rw [← hP]
    rw [e, hRF] at h
    simp only [Prod.mk.injEq] at h
    exact ⟨h.2.1, h.2.2.1, h.2.2.2.1, h.2.2.2.2⟩
  have HNE : Hid (∀ W g, Below w8.heap.size w8 W → W.heap[g]? = some (.cells #[.string ⟨#[109, 97, 105, 110]⟩, .int .i64 2, .int .i64 0, .int .i64 5, .int .i64 0, .string ⟨#[102]⟩, .int .i64 fr, .int .i64 5, .int .i64 7, .int .i64 1] 26 (0, 0)) → Calls Tryz.prog 9 #[.agg #[.slice a8 12 c8, .slice (some ⟨g, 0, none⟩) 2 2, .int .i64 0], .slice none 0 0, .agg #[.int .i64 (2 + P), .int .i64 0]] W fun e w' => ∃ mb, e = .returned (.tuple #[.pointer (some ⟨mb, 0, none⟩), .int .i64 0]) ∧ Below W.heap.size W w' ∧ ∀ W2, Below w'.heap.size w' W2 → Calls Tryz.prog 12 #[.pointer (some ⟨mb, 0, none⟩), .int .i64 ((20 * (m + 2) : Nat) : Int)] W2 fun e w3 => ∃ ao c, e = .returned (.tuple #[.agg #[.slice ao RF.ev.length c, .int .i64 RF.fin, .int .i64 RF.kd, .int .i64 RF.vl, .int .i64 RF.steps, .int .i64 RF.words, .int .i64 RF.deep], .int .i64 0]) ∧ Evs w3 ao c RF.ev ∧ Below W.heap.size W2 w3) := fun W g bW hg =>
    dp_new W ((HT.out.below HB6.out HT.out.1).below (HB8.out.trans (bW.mono HB8.out.size)) (by have := HT.out.1; have := HB6.out.size; omega)) m fr (2 + P) HML.out HFR.out HSB2.out (HS8.out.below bW (Nat.le_refl _)) (stsG_exact (xs := (dpF fr).map rfv) hg rfl rfl rfl (by show 2 ≤ _; omega)) (E := []) (x1 := 0) (x2 := 0) (x3 := 0) (x4 := 0) (x5 := 0) (x6 := 0) hRF
  have HBW : Hid (Below w.heap.size w w8) := HB6.out.trans (HB8.out.mono HB6.out.size)
  clear hRF hP hPb HFR HSB2 HB6 HB7 HB8 HS8 HSA HSB H7 HT hw2 HML
  go_upto_region 9 with fail
  obtain ⟨n8, hn8⟩ : ∃ n, n = w8.heap.size := ⟨_, rfl⟩
  obtain ⟨w9, hw9⟩ : ∃ W, W = (w8.alloc (.cells #[.string ⟨#[109, 97, 105, 110]⟩, .int .i64 2, .int .i64 0, .int .i64 5, .int .i64 0, .string ⟨#[102]⟩, .int .i64 fr, .int .i64 5, .int .i64 7, .int .i64 1] 26)).alloc (.cells #[.slice a8 12 c8, .slice (some ⟨w8.heap.size, 0, none⟩) 2 2, .int .i64 0] 29) := ⟨_, rfl⟩
  have eal9 : w9 = al w8 [.cells #[.string ⟨#[109, 97, 105, 110]⟩, .int .i64 2, .int .i64 0, .int .i64 5, .int .i64 0, .string ⟨#[102]⟩, .int .i64 fr, .int .i64 5, .int .i64 7, .int .i64 1] 26, .cells #[.slice a8 12 c8, .slice (some ⟨w8.heap.size, 0, none⟩) 2 2, .int .i64 0] 29] := hw9
  have k9 : w9.heap[n8]? = some (.cells #[.string ⟨#[109, 97, 105, 110]⟩, .int .i64 2, .int .i64 0, .int .i64 5, .int .i64 0, .string ⟨#[102]⟩, .int .i64 fr, .int .i64 5, .int .i64 7, .int .i64 1] 26 (0, 0)) := by rw [eal9, hn8]; exact al_at _ w8 0 (by simp)
  have k9b : w9.heap[n8 + 1]? = some (.cells #[.slice a8 12 c8, .slice (some ⟨n8, 0, none⟩) 2 2, .int .i64 0] 29 (0, 0)) := by rw [eal9, hn8]; exact al_at _ w8 1 (by simp)
  have b9 : Below w8.heap.size w8 w9 := by rw [eal9]; exact al_below _ w8
  have HN9 : Hid _ := HNE.out w9 n8 b9 k9
  have HB9 : Hid (Below w.heap.size w w9) := HBW.out.trans (b9.mono HBW.out.size)
  rw [← hw9, ← hn8]
  have x0 : w9.cell? ⟨n8 + 1, 0, none⟩ = some (.slice a8 12 c8) := cell_arr k9b rfl
  have x1 : w9.cell? ⟨n8 + 1, 1, none⟩ = some (.slice (some ⟨n8, 0, none⟩) 2 2) := cell_arr k9b rfl
  have x2 : w9.cell? ⟨n8 + 1, 2, none⟩ = some (.int .i64 0) := cell_arr k9b rfl
  have l9 := (Array.getElem?_eq_some_iff.1 k9b).1
  clear hw9 hn8 eal9 k9 k9b b9 HNE HBW
  go_wp2_with fail
  refine Calls.mono HN9.out ?_
  rintro e wN ⟨mb, rfl, bN, hRun⟩
  have HBN : Hid (Below w.heap.size w wN) := HB9.out.trans (bN.mono HB9.out.size)
  have HS9 : Hid (w.heap.size ≤ w9.heap.size) := HB9.out.size
  have HRN : Hid _ := hRun
  have HAN : Hid _ := HAL.out wN HBN.out
  clear hRun bN HN9 HB9 HAL x0 x1 x2 l9 u2 u3
  go_wp2_with fail
  refine Calls.mono HAN.out ?_
  rintro e wL ⟨rfl, bL⟩
  have HRL : Hid _ := HRN.out wL bL
  have HBL : Hid (Below w.heap.size w wL) := HBN.out.trans (bL.mono HBN.out.size)
  have u5 : IntKind.i64.wrap ((m : Int) + 2) = (m : Int) + 2 := by have := HMM.out; rw [IntKind.wrap_i64]; omega
  have u6 : IntKind.i64.wrap (20 * ((m : Int) + 2)) = ((20 * (m + 2) : Nat) : Int) := by have := HMM.out; rw [IntKind.wrap_i64]; omega
  clear bL HRN HAN HBN
  go_wp2_with (go_at_call 11; refine (HNM.out _ _).mono ?_; rintro e w9 ⟨rfl, rfl⟩)
  refine Calls.mono HRL.out ?_
  rintro e wR ⟨ao, c9, rfl, hE, bR⟩
  obtain ⟨g1, g2, g3, g4⟩ := HG.out
  rw [g1, g2, g3, g4]
  rw [g1] at hE
  go_upto_region 14 with fail
  obtain ⟨p, hp⟩ : ∃ p, p = wR.heap.size := ⟨_, rfl⟩
  obtain ⟨wF, hwF⟩ : ∃ W, W = wR.alloc (.cells #[.slice ao 1 c9, .int .i64 1, .int .i64 RF.kd, .int .i64 RF.vl, .int .i64 RF.steps, .int .i64 0, .int .i64 ((m : Int) + 2)] 40) := ⟨_, rfl⟩
  rw [← hwF, ← hp]
  have bF : Below wR.heap.size wR wF := by rw [hwF]; exact below_newR wR _
  have kF : wF.heap[p]? = some (.cells #[.slice ao 1 c9, .int .i64 1, .int .i64 RF.kd, .int .i64 RF.vl, .int .i64 RF.steps, .int .i64 0, .int .i64 ((m : Int) + 2)] 40 (0, 0)) := by rw [hwF, hp]; exact heap_alloc_new _ _
  have HBF : Hid (Below w.heap.size w wF) := by
    have z := HBL.out.trans (bR.mono HS9.out)
    exact z.trans (bF.mono z.size)
  have lF := (Array.getElem?_eq_some_iff.1 kF).1
  have y0 : wF.cell? ⟨p, 0, none⟩ = some (.slice ao 1 c9) := cell_arr kF rfl
  have y1 : wF.cell? ⟨p, 1, none⟩ = some (.int .i64 1) := cell_arr kF rfl
  have y2 : wF.cell? ⟨p, 2, none⟩ = some (.int .i64 RF.kd) := cell_arr kF rfl
  have y3 : wF.cell? ⟨p, 3, none⟩ = some (.int .i64 RF.vl) := cell_arr kF rfl
  have y4 : wF.cell? ⟨p, 4, none⟩ = some (.int .i64 RF.steps) := cell_arr kF rfl
  have y5 : wF.cell? ⟨p, 5, none⟩ = some (.int .i64 0) := cell_arr kF rfl
  have y6 : wF.cell? ⟨p, 6, none⟩ = some (.int .i64 ((m : Int) + 2)) := cell_arr kF rfl
  obtain ⟨eb, eo, ee, el, z0, z1⟩ := (hE.belowR bF).atR (k := 0) (by simp)
  subst ee
  simp only [Nat.zero_mul, Nat.add_zero, List.getElem_cons_zero] at z0 z1
  obtain ⟨t, ht⟩ : ∃ t : Int, t = (tri m : Int) := ⟨_, rfl⟩
  rw [← ht] at z1
  have HTT : Hid (t = (tri m : Int)) := ht
  clear ht
  clear hwF hp bF kF bR hE HG HRL HBL g1 g2 g3
  go_wp2_with (go_at_call 11; refine (HNM.out _ _).mono ?_; rintro e w9 ⟨rfl, rfl⟩)
  all_goals first | (go_ret; exact ⟨rfl, HBF.out⟩) | (rename_i hx; exact absurd (HTT.out.trans (tri_go m HMM.out)) hx)
theorem r16Depth_any (w : World) (hTab : Tab w) (a b c : Int) : Calls Tryz.prog 3 #[.int .i64 a, .int .i64 b, .int .i64 c] w fun e w' => e = .returned (.bool true) ∧ Below w.heap.size w w' := by
  obtain ⟨m, hm, h1⟩ := andR_small a 4095 (by omega)
  obtain ⟨q, hq, h2⟩ := andR_small b 255 (by omega)
  obtain ⟨l, hl, h3⟩ := andR_small c 1 (by omega)
  rcases (show l = 0 ∨ l = 1 by omega) with rfl | rfl
  · exact r16Depth_0 w hTab a b c m q hm hq h1 h2 h3 _ rfl
  · exact r16Depth_1 w hTab a b c m q hm hq h1 h2 h3 _ rfl
end Go.Proofs.YteplldbhfjfbpaaGreatDoor
