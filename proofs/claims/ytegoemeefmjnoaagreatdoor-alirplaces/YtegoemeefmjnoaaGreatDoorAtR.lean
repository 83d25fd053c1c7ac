import Derived.Test.YtegoemeefmjnoaaGreatDoorAtQ
set_option linter.unusedVariables false
set_option linter.unusedSimpArgs false
namespace Go.Proofs.YtegoemeefmjnoaaGreatDoor
open Go.ChangeShapes Go.WideShapes Go.ChangeAt Go.RowKit Go.Maps

set_option maxRecDepth 100000 in
set_option maxHeartbeats 8000000 in
theorem places_no (w : World) (hTab : Tab w) {pa1 pa2 : Option Addr} {pn1 pc1 pn2 pc2 : Nat} {l1 l2 : List Pt} (hP1 : Pts w pa1 pc1 l1) (hn1 : pn1 = l1.length) (hP2 : Pts w pa2 pc2 l2) (hn2 : pn2 = l2.length) (hl1 : pn1 ≤ 300) (hl2 : pn2 ≤ 300) (f1 : ∀ p ∈ l1, fitsB p.num = true) (f2 : ∀ p ∈ l2, fitsB p.num = true) (sv : Int) : Calls Tryz.prog 4 #[.slice pa1 pn1 pc1, .slice pa2 pn2 pc2, .int .i64 sv, .bool false] w fun e w' => e = .returned (.bool true) ∧ Below w.heap.size w w' := by
  have HAL : Hid _ := alive19_any w hTab
  have HT : Hid (Tab w) := hTab
  have HP1 : Hid (∀ W, Below w.heap.size w W → Pts W pa1 pc1 l1) := fun W hW => hP1.below hW (Nat.le_refl _)
  have HP2 : Hid (∀ W, Below w.heap.size w W → Pts W pa2 pc2 l2) := fun W hW => hP2.below hW (Nat.le_refl _)
  have HN : Hid (pn1 = l1.length ∧ pn2 = l2.length ∧ l1.length ≤ 300 ∧ l2.length ≤ 300) := ⟨hn1, hn2, by omega, by omega⟩
  have HF : Hid ((∀ p ∈ l1, fitsB p.num = true) ∧ (∀ p ∈ l2, fitsB p.num = true)) := ⟨f1, f2⟩
  have HNM : Hid (∀ W x, Calls Tryz.prog 12 #[.int .i64 x] W fun e w' => e = .returned (.int .i64 x) ∧ W = w') := numA_any
  have HWH : Hid (∀ W (k : Nat), k < 16 → Calls Tryz.prog 15 #[.int .i64 (k : Int)] W fun e w' => e = .returned (.agg #[.int .i64 (whP k).1, .int .i64 (whP k).2]) ∧ Below W.heap.size W w') := whereP_any
  have HSV : Hid _ := seven_two
  have g1 : decide (300 < (pn1 : Int)) = false := by simp; omega
  have g2 : decide (300 < (pn2 : Int)) = false := by simp; omega
  clear hTab hP1 hP2 hn1 hn2 hl1 hl2 f1 f2
  go_enter Tryz.func4, Tryz.ntmps4
  go_upto_region 2 with (go_at_call 8; refine Calls.mono HAL.out ?_; rintro e wL ⟨rfl, bL⟩)
  have HBL : Hid (Below w.heap.size w wL) := bL
  clear bL HAL
  go_upto_region 5 with fail
  obtain ⟨W0, hW0⟩ : ∃ W, W = wL.alloc (.cells #[.int .i64 0, .int .i64 0, .int .i64 0, .int .i64 0, .int .i64 0, .int .i64 0, .int .i64 0, .int .i64 0, .int .i64 0, .int .i64 0, .int .i64 0, .int .i64 0, .int .i64 0, .int .i64 0, .int .i64 0, .int .i64 0] 55) := ⟨_, rfl⟩
  obtain ⟨hb, hhb⟩ : ∃ g, g = wL.heap.size := ⟨_, rfl⟩
  have HF0 : Hid (HfA W0 W0 hb 0) := ⟨Only.refl _ _, by rw [hW0, hhb]; exact heap_alloc_new wL _⟩
  have HB0 : Hid (Below w.heap.size w W0 ∧ w.heap.size ≤ hb ∧ hb < W0.heap.size) := by
    rw [hW0, hhb]
    exact ⟨HBL.out.trans ((below_newA wL _).mono HBL.out.size), HBL.out.size, by simp⟩
  rw [← hW0, ← hhb]
  clear hW0 hhb g1 g2
  go_upto_region 6 with fail
  go_loopw [11] (fun v wr => ∃ i : Nat, i ≤ 16 ∧ v = .int .i64 (i : Int) ∧ Hid (HfA W0 wr hb i)) (fun v _ => 16 - (intOf v).toNat)
  case atStart => exact ⟨0, by omega, rfl, HF0.out⟩
  case round =>
    clear HF0
    obtain ⟨i, hi, rfl, HH⟩ := hrel
    by_cases hlt : i < 16
    · have hh := HH.out.hd
      have hcb := hh.cell (k := i) (by simp; omega)
      have hfz : wr.frozen? ⟨hb, i, none⟩ = false := fz_of hh
      have hbl := (Array.getElem?_eq_some_iff.1 hh).1
      generalize (List.replicate i (-1 : Int) ++ List.replicate (16 - i) 0).getD i 0 = x0 at hcb
      have HH2 : Hid _ := HH.out.next hlt
      clear hh HH
      go_wp2_with fail
      go_roundw
      case rel => exact ⟨i + 1, by omega, by first | go_num | rfl, HH2.out⟩
      case measure => (simp [intOf]; try omega)
    · obtain rfl : i = 16 := by omega
      have HPA : Hid (Calls Tryz.prog 14 #[.slice pa1 pn1 pc1, .pointer (some ⟨hb, 0, none⟩)] wr fun e w' => ∃ v, e = .returned v ∧ PlS wr w' hb v (l1.map pI) (l1.foldl hp (List.replicate 16 (-1)))) := puts_any wr (fun W hW => HP1.out W (HB0.out.1.trans ((HH.out.only.trans hW fun _ _ q => q).below HB0.out.1.size fun k hk => by have : k = hb := hk; have := HB0.out.2.1; omega))) HN.out.1 (by have := HN.out; omega) (by have := HH.out.hd; simpa using this) (by simp)
      have HBW : Hid (Below w.heap.size w wr ∧ w.heap.size ≤ hb ∧ hb < wr.heap.size) := ⟨HB0.out.1.trans (HH.out.only.below HB0.out.1.size fun k hk => by have : k = hb := hk; have := HB0.out.2.1; omega), HB0.out.2.1, Nat.lt_of_lt_of_le HB0.out.2.2 HH.out.only.size⟩
      clear HH HP1 HB0 hi hlt
      go_upto_region 10 with (go_at_call 14; refine Calls.mono HPA.out ?_; rintro e w2 ⟨v1, rfl, hS1⟩)
      have H16 : Hid (∀ (l : List Pt) (H : List Int), H.length = 16 → (l.foldl hp H).length = 16) := fun m => by
        induction m with
        | nil => intro H h; exact h
        | cons p m ih => intro H h; exact ih _ (by unfold hp; simpa using h)
      obtain ⟨xa, xc, e1, -, -⟩ := hS1.row.sl
      rw [List.length_map, ← HN.out.1] at e1
      subst e1
      obtain ⟨wa, rfl⟩ : ∃ x, x = wr := ⟨_, rfl⟩
      obtain ⟨N, hN⟩ : ∃ N, N = l1.map pI := ⟨_, rfl⟩
      obtain ⟨H1, hH1⟩ : ∃ H1, H1 = l1.foldl hp (List.replicate 16 (-1)) := ⟨_, rfl⟩
      obtain ⟨n, hn⟩ : ∃ n, n = pn1 := ⟨_, rfl⟩
      rw [← hN, ← hH1, ← hn] at hS1
      rw [← hn]
      have HS : Hid (PlS wa w2 hb (.slice xa n xc) N H1) := hS1
      have HNH : Hid (N = l1.map pI ++ midI none ∧ H1 = midH (l1.foldl hp (List.replicate 16 (-1))) none ∧ H1.length = 16 ∧ N.length = n ∧ n ≤ 400) := ⟨by rw [hN]; simp [midI], hH1, by rw [hH1]; exact H16.out _ _ rfl, by rw [hN, hn, List.length_map, HN.out.1], by rw [hn]; have := HN.out; omega⟩
      clear hS1 HPA hN hH1 hn
      go_upto_region 19 with fail
      have HPB : Hid (Calls Tryz.prog 14 #[.slice pa2 pn2 pc2, .pointer (some ⟨hb, 0, none⟩)] w2 fun e w' => ∃ v, e = .returned v ∧ PlS w2 w' hb v (l2.map pI) (l2.foldl hp H1)) := puts_any w2 (fun W hW => HP2.out W (HBW.out.1.trans ((HS.out.low.trans hW fun _ _ q => q).below HBW.out.1.size fun k hk => by have : k = hb := hk; have := HBW.out.2.1; omega))) HN.out.2.1 (by have := HN.out; omega) HS.out.hd HNH.out.2.2.1
      obtain ⟨H2, hH2⟩ : ∃ H2, H2 = l2.foldl hp H1 := ⟨_, rfl⟩
      rw [← hH2] at HPB
      have HH2 : Hid (H2 = plH l1 l2 none ∧ H2.length = 16) := by
        refine ⟨?_, by rw [hH2]; exact H16.out _ _ HNH.out.2.2.1⟩
        rw [hH2, HNH.out.2.1]
        rfl
      clear hH2 H16 HP2
      obtain ⟨m, hm⟩ : ∃ m, m = n + pn2 := ⟨_, rfl⟩
      obtain ⟨N2, hN2⟩ : ∃ N2, N2 = N ++ l2.map pI := ⟨_, rfl⟩
      have HM : Hid (m = n + pn2 ∧ N2.length = m ∧ N2 = N ++ l2.map pI) := ⟨hm, by rw [hN2, hm, List.length_append, List.length_map, HNH.out.2.2.2.1, HN.out.2.1], hN2⟩
      have hml : m ≤ 800 := by have := HN.out; have := HNH.out.2.2.2.2; omega
      clear hm hN2
      go_upto_region 20 with (first
        | (go_at_call 14; refine Calls.mono HPB.out ?_; rintro e w3 ⟨v2, rfl, hS2⟩
           obtain ⟨ya, yc, e2, -, -⟩ := hS2.row.sl
           rw [List.length_map, ← HN.out.2.1] at e2
           subst e2
           have HS3 : Hid _ := HS.out.over hS2
           have HS2 : Hid _ := hS2
           clear hS2)
        | (at_builtin
           obtain ⟨xs, hr, hxl, hxs⟩ := HS3.out.row.out
           obtain ⟨ys, hr2, hyl, hys⟩ := HS2.out.row.out
           have hon := rowE_one hyl hys
           obtain ⟨zo, zc, ez, hst⟩ := row_sts hr2 hon
           injection ez with q1 q2 q3
           subst q1 q3
           have HXL : Hid ((xs ++ ys).length = m) := by show (xs ++ ys).length = m; rw [List.length_append, hxl, ← q2, HM.out.1, HNH.out.2.2.2.1]
           have hl9 : xs.length + pn2 ≤ 1000000000 := by rw [hxl, HNH.out.2.2.2.1]; have := HN.out; have := HNH.out.2.2.2.2; omega
           refine wpList_step fun K hK => ?_
           refine step_append_rowsG rfl _ _ 30 29 6 _ 80 rfl Tryz.underlying30 info_ai rfl (by decide) (by decide) wa.heap.size (.slice xa n xc) xs rfl hr ya pn2 yc rfl ys q2 hr2.len (fun hne => by
             obtain ⟨b, o, e, _, hc⟩ := hst.out hne
             exact ⟨⟨b, o, none⟩, e, fun j u hu => by rw [add_noneR]; exact hc j u hu⟩) hon hl9 HS3.out.low.size ?_
           intro v4 w4 h4 g4
           refine hK _ _ ?_
           have HP4 : Hid (PlS wa w4 hb v4 N2 H2) := by show PlS wa w4 hb v4 N2 H2; rw [HM.out.2.2]; exact HS3.out.both HS2.out.row hr hxl hxs hyl hys h4 g4
           obtain ⟨xa4, xc4, e4, _, _⟩ := own_slice h4.out
           rw [HXL.out] at e4
           clear hK h4 g4 hr hxl hxs hr2 hyl hys hon hst q2 hl9 HXL
           subst e4))
      clear HPB HS HS2 HS3
      go_upto_region 21 with fail
      go_loopw [12, 15] (fun ov iv w5 => ∃ (i : Nat) (ya : Option Addr) (yc : Nat), i ≤ 16 ∧ iv = .int .i64 (i : Int) ∧ ov = .slice ya (m + i) yc ∧ Hid (PlS wa w5 hb ov (N2 ++ (List.range i).map prI) H2)) (fun _ iv _ => 16 - (intOf iv).toNat)
      case atStart => exact ⟨0, xa4, xc4, by omega, rfl, rfl, by show PlS wa w4 hb _ (N2 ++ []) H2; rw [List.append_nil]; exact HP4.out⟩
      case round =>
        clear HP4
        obtain ⟨i, ya, yc, hi, rfl, rfl, HS⟩ := hrel
        by_cases hlt : i < 16
        · obtain ⟨xs, hr1, hxl, hxs⟩ := HS.out.row.out
          have hxi : xs.length = m + i := by rw [hxl, List.length_append, HM.out.2.1]; simp
          have hlx : xs.length + 1 ≤ 1000000000 := by omega
          have HRW : Hid (∀ W, Below wr.heap.size wr W → Row W wa.heap.size 29 6 (.slice ya (m + i) yc) xs ∧ wa.heap.size ≤ W.heap.size) := fun W hW => ⟨hr1.keep hW, Nat.le_trans HS.out.low.size hW.size⟩
          have HXL : Hid (∀ cs : List Value, (xs ++ [cs]).length = m + (i + 1)) := fun cs => by rw [List.length_append, hxi]; rfl
          have HPU : Hid (∀ (wB WB w7 : World) (v7 : Value) (gl : Nat), Below wr.heap.size wr wB → gl = wB.heap.size → WB = (wB.alloc (.cells #[.int .i64 (whP i).1, .int .i64 (whP i).2] 24)).alloc (.cells #[.int .i64 26, .int .i64 0, .int .i64 0, .int .i64 0, .slice (some ⟨gl, 0, none⟩) 1 1, .slice none 0 0] 29) → Row w7 wa.heap.size 29 6 v7 (xs ++ [[.int .i64 26, .int .i64 0, .int .i64 0, .int .i64 0, .slice (some ⟨gl, 0, none⟩) 1 1, .slice none 0 0]]) → GI wa.heap.size WB w7 (.slice ya (m + i) yc) v7 → PlS wa w7 hb v7 (N2 ++ (List.range (i + 1)).map prI) H2) := fun wB WB w7 v7 gl b hg hW h7 g7 => by
            have b1 := below_newA wB (.cells #[.int .i64 (whP i).1, .int .i64 (whP i).2] 24)
            have b2 := below_newA (wB.alloc (.cells #[.int .i64 (whP i).1, .int .i64 (whP i).2] 24)) (.cells #[.int .i64 26, .int .i64 0, .int .i64 0, .int .i64 0, .slice (some ⟨gl, 0, none⟩) 1 1, .slice none 0 0] 29)
            rw [← hW] at b2
            have b12 := b1.trans (b2.mono b1.size)
            have k1 := heap_alloc_new wB (.cells #[.int .i64 (whP i).1, .int .i64 (whP i).2] 24)
            have k2 := (b2.block _ (Array.getElem?_eq_some_iff.1 k1).1).trans k1
            rw [← hg] at k2
            have bb := b.trans (b12.mono b.size)
            have z := HS.out.push bb (hr1.keep bb) hxl hxs (x := prI i) ⟨some ⟨gl, 0, none⟩, 1, none, 0, rfl, .inr ⟨gl, rfl, rfl, k2⟩, .inl ⟨rfl, rfl, rfl⟩⟩ h7 g7
            rw [List.range_succ, List.map_append, ← List.append_assoc]
            exact z
          clear hr1 hxl hxs hxi HS
          go_upto_region 22 with (first
            | (go_at_call 15; refine (HWH.out _ i hlt).mono ?_; rintro e wB ⟨rfl, bB⟩; have HBB : Hid (Below wr.heap.size wr wB) := bB; clear bB)
            | (at_builtin
               obtain ⟨gl, hgl⟩ : ∃ gl, gl = wB.heap.size := ⟨_, rfl⟩
               obtain ⟨WB, hWB⟩ : ∃ WB, WB = (wB.alloc (.cells #[.int .i64 (whP i).1, .int .i64 (whP i).2] 24)).alloc (.cells #[.int .i64 26, .int .i64 0, .int .i64 0, .int .i64 0, .slice (some ⟨wB.heap.size, 0, none⟩) 1 1, .slice none 0 0] 29) := ⟨_, rfl⟩
               obtain ⟨sb, hsb⟩ : ∃ sb, sb = wB.heap.size + 1 := ⟨_, rfl⟩
               rw [← hWB, ← hsb, ← hgl]
               rw [← hgl] at hWB
               have b1 := below_newA wB (.cells #[.int .i64 (whP i).1, .int .i64 (whP i).2] 24)
               have b2 := below_newA (wB.alloc (.cells #[.int .i64 (whP i).1, .int .i64 (whP i).2] 24)) (.cells #[.int .i64 26, .int .i64 0, .int .i64 0, .int .i64 0, .slice (some ⟨gl, 0, none⟩) 1 1, .slice none 0 0] 29)
               have hcW := heap_alloc_new (wB.alloc (.cells #[.int .i64 (whP i).1, .int .i64 (whP i).2] 24)) (.cells #[.int .i64 26, .int .i64 0, .int .i64 0, .int .i64 0, .slice (some ⟨gl, 0, none⟩) 1 1, .slice none 0 0] 29)
               rw [← hWB] at b2 hcW
               rw [show (wB.alloc (.cells #[.int .i64 (whP i).1, .int .i64 (whP i).2] 24)).heap.size = sb by rw [hsb]; simp] at hcW
               have HRX : Hid _ := HRW.out WB (HBB.out.trans ((b1.trans (b2.mono b1.size)).mono HBB.out.size))
               have HCN : Hid (∀ j u, ([.int .i64 26, .int .i64 0, .int .i64 0, .int .i64 0, .slice (some ⟨gl, 0, none⟩) 1 1, .slice none 0 0] : List Value)[j]? = some u → WB.cell? ((⟨sb, 0, none⟩ : Addr).add j) = some u) := fun j u hu => by
                 rw [add_noneR, Nat.zero_add]
                 exact cell_arr hcW (by simpa using hu)
               have HPV : Hid _ := fun w7 v7 => HPU.out wB WB w7 v7 gl HBB.out hgl hWB
               clear hcW b1 b2 hWB hsb hgl
               refine wpList_step fun K hK => ?_
               refine step_append_row rfl _ _ 30 29 6 _ 80 rfl Tryz.underlying30 info_ai rfl (by decide) (by decide) wa.heap.size (.slice ya (m + i) yc) xs rfl HRX.out.1 sb rfl [.int .i64 26, .int .i64 0, .int .i64 0, .int .i64 0, .slice (some ⟨gl, 0, none⟩) 1 1, .slice none 0 0] rfl HCN.out (fun u hu => by simp at hu; rcases hu with rfl | rfl | rfl | rfl | rfl | rfl <;> rfl) hlx HRX.out.2 ?_
               intro v7 w7 h7 g7
               refine hK _ _ ?_
               have HP7 : Hid _ := HPV.out w7 v7 h7 g7
               obtain ⟨xa7, xc7, ev7, _, _⟩ := own_slice h7.out
               rw [HXL.out] at ev7
               clear hK h7 g7
               subst ev7))
          go_wp2_with fail
          go_roundw
          case rel => exact ⟨i + 1, xa7, xc7, by omega, by first | go_num | rfl, rfl, HP7.out⟩
          case measure => (simp [intOf]; try omega)
        · obtain rfl : i = 16 := by omega
          have HS9 : Hid (PlS wa wr hb (.slice ya (m + 16) yc) (plB l1 l2 none) H2) := by
            have z := HS.out
            rw [HM.out.2.2, HNH.out.1, List.append_assoc, List.append_assoc] at z
            exact z
          have HLB : Hid ((plB l1 l2 none).length = m + 16) := by
            have z := HS9.out.row.sl
            obtain ⟨a, c, e, _, _⟩ := z
            injection e with _ q _
            exact q.symm
          clear HS hi hlt HM HNH
          go_upto_region 25 with (go_at_call 16; refine (HSV.out _).mono ?_; rintro e w6 ⟨SB, hSB, rfl, k2, k4, k23, b6⟩; have HSQ : Hid (SB = wr.heap.size) := hSB; clear hSB)
          obtain ⟨W6, hW6⟩ : ∃ W6, W6 = w6.alloc (.cells #[.slice (some ⟨SB + 23, 0, none⟩) 2 2, .int .i64 1] 44) := ⟨_, rfl⟩
          obtain ⟨ab, hab⟩ : ∃ ab, ab = w6.heap.size := ⟨_, rfl⟩
          obtain ⟨LL, hLL⟩ : ∃ LL, LL = SB + 23 := ⟨_, rfl⟩
          have b66 : Below w6.heap.size w6 W6 := by rw [hW6]; exact below_newA _ _
          have xa6 : W6.heap[ab]? = some (.cells #[.slice (some ⟨LL, 0, none⟩) 2 2, .int .i64 1] 44 (0, 0)) := by rw [hW6, hab, hLL]; exact heap_alloc_new _ _
          have x2 := (b66.block _ (Array.getElem?_eq_some_iff.1 k2).1).trans k2
          have x4 := (b66.block _ (Array.getElem?_eq_some_iff.1 k4).1).trans k4
          have x23 := (b66.block _ (Array.getElem?_eq_some_iff.1 k23).1).trans k23
          have n23 := (Array.getElem?_eq_some_iff.1 k23).1
          rw [← hW6, ← hab, ← hLL]
          rw [← hLL] at x23
          have HXX : Hid _ := And.intro x2 (And.intro x4 (And.intro x23 xa6))
          have HSB : Hid (SB = wr.heap.size ∧ LL = SB + 23 ∧ LL < ab) := ⟨HSQ.out, hLL, by rw [hLL, hab]; exact n23⟩
          have HB6 : Hid (Below wr.heap.size wr W6) := b6.trans (b66.mono b6.size)
          have a0 : W6.cell? ⟨ab, 0, none⟩ = some (.slice (some ⟨LL, 0, none⟩) 2 2) := cell_arr xa6 rfl
          have a1 : W6.cell? ⟨ab, 1, none⟩ = some (.int .i64 1) := cell_arr xa6 rfl
          have m5 : W6.cell? ⟨LL, 5, none⟩ = some (.string ⟨#[109, 97, 105, 110]⟩) := cell_arr x23 rfl
          have m6 : W6.cell? ⟨LL, 6, none⟩ = some (.slice none 0 0) := cell_arr x23 rfl
          have m7 : W6.cell? ⟨LL, 7, none⟩ = some (.int .i64 0) := cell_arr x23 rfl
          have m8 : W6.cell? ⟨LL, 8, none⟩ = some (.int .i64 1) := cell_arr x23 rfl
          have m9 : W6.cell? ⟨LL, 9, none⟩ = some (.slice (some ⟨SB + 21, 0, none⟩) 1 1) := cell_arr x23 rfl
          have fz : ∀ j, W6.frozen? ⟨LL, j, none⟩ = false := fun j => fz_of x23
          have ll := (Array.getElem?_eq_some_iff.1 x23).1
          have la := (Array.getElem?_eq_some_iff.1 xa6).1
          have ll1 : LL < W6.heap.size + 1 := by omega
          have la1 : ab < W6.heap.size + 1 := by omega
          clear hW6 hab hLL b66 xa6 x2 x4 x23 k2 k4 k23 b6 HSQ n23 HSV HWH
          go_upto_region 26 with fail
          obtain ⟨V, hV⟩ : ∃ V, V = (((((W6.setCell ⟨LL, 5, none⟩ (.string ⟨#[109, 97, 105, 110]⟩)).setCell ⟨LL, 6, none⟩ (.slice none 0 0)).setCell ⟨LL, 7, none⟩ (.int .i64 0)).setCell ⟨LL, 8, none⟩ (.int .i64 8)).setCell ⟨LL, 9, none⟩ (.slice (some ⟨W6.heap.size, 0, none⟩) 1 1)) := ⟨_, rfl⟩
          obtain ⟨W7, hW7⟩ : ∃ W7, W7 = V.alloc (.cells #[.slice ya (m + 16) yc, .int .i64 3, .int .i64 0, .int .i64 0, .slice none 0 0] 34) := ⟨_, rfl⟩
          obtain ⟨gq, hgq⟩ : ∃ gq, gq = W6.heap.size := ⟨_, rfl⟩
          rw [← hV, ← hW7, ← hgq]
          rw [← hgq] at hV
          have oV : Only (fun k => k = LL) W6 V := by
            rw [hV]
            exact ((((Only.of_set _ ⟨LL, 5, none⟩ _).trans (Only.of_set _ ⟨LL, 6, none⟩ _) fun _ _ q => q).trans (Only.of_set _ ⟨LL, 7, none⟩ _) fun _ _ q => q).trans (Only.of_set _ ⟨LL, 8, none⟩ _) fun _ _ q => q).trans (Only.of_set _ ⟨LL, 9, none⟩ _) fun _ _ q => q
          have sV : V.heap.size = W6.heap.size := by rw [hV]; simp
          have y23 : V.heap[LL]? = some (.cells #[.string ⟨#[115, 101, 118, 101, 110]⟩, .slice none 0 0, .int .i64 1, .int .i64 0, .slice (some ⟨SB + 4, 0, none⟩) 1 1, .string ⟨#[109, 97, 105, 110]⟩, .slice none 0 0, .int .i64 0, .int .i64 8, .slice (some ⟨gq, 0, none⟩) 1 1] 37 (0, 0)) := by
            rw [hV]
            exact heap_set_at (heap_set_at (heap_set_at (heap_set_at (heap_set_at HXX.out.2.2.1))))
          have b7 : Below V.heap.size V W7 := by rw [hW7]; exact below_newA _ _
          have z7 : W7.heap[gq]? = some (.cells #[.slice ya (m + 16) yc, .int .i64 3, .int .i64 0, .int .i64 0, .slice none 0 0] 34 (0, 0)) := by
            have := heap_alloc_new V (.cells #[.slice ya (m + 16) yc, .int .i64 3, .int .i64 0, .int .i64 0, .slice none 0 0] 34)
            rw [sV, ← hgq, ← hW7] at this
            exact this
          have o7 : ∀ k, k < W6.heap.size → k ≠ LL → W7.heap[k]? = W6.heap[k]? := fun k hk hn => (b7.block k (by rw [sV]; exact hk)).trans (oV.block k hk hn)
          have z23 := (b7.block LL (by rw [sV]; exact ll)).trans y23
          have z2 := (o7 _ (Array.getElem?_eq_some_iff.1 HXX.out.1).1 (by have := HSB.out; omega)).trans HXX.out.1
          have z4 := (o7 _ (Array.getElem?_eq_some_iff.1 HXX.out.2.1).1 (by have := HSB.out; omega)).trans HXX.out.2.1
          have za := (o7 _ la (by have := HSB.out; omega)).trans HXX.out.2.2.2
          have HB7 : Hid (Below wr.heap.size wr W7) := by
            refine (HB6.out.trans (oV.below HB6.out.size fun k hk => ?_)).trans (b7.mono (by rw [sV]; exact HB6.out.size))
            have : k = LL := hk
            have := HSB.out
            omega
          have HW7 : Hid (Below w.heap.size w W7) := by
            have q1 : Below w.heap.size w wr := HBW.out.1.trans (HS9.out.low.below HBW.out.1.size fun k hk => by have : k = hb := hk; have := HBW.out.2.1; omega)
            exact q1.trans (HB7.out.mono q1.size)
          have HHB : Hid (HbA W7 hb H2 ∧ hb < W7.heap.size) := by
            have h0 := HS9.out.hd
            have hl := (Array.getElem?_eq_some_iff.1 h0).1
            exact ⟨(HB7.out.block _ hl).trans h0, Nat.lt_of_lt_of_le hl HB7.out.size⟩
          have a2 : W7.cell? ⟨ab, 0, none⟩ = some (.slice (some ⟨LL, 0, none⟩) 2 2) := cell_arr za rfl
          have a3 : W7.cell? ⟨ab, 1, none⟩ = some (.int .i64 1) := cell_arr za rfl
          have lb := (Array.getElem?_eq_some_iff.1 za).1
          have HOK := body_ok l1 l2 none (plB l1 l2 none) (fun S h => by cases h)
          have HNW : Hid (Calls Tryz.prog 11 #[.agg #[.slice (some ⟨LL, 0, none⟩) 2 2, .int .i64 1], .slice none 0 0] W7 fun e w' => ∃ mb s d, s.ws.mb = mb ∧ e = .returned (.tuple #[.pointer (some ⟨mb, 0, none⟩), .int .i64 0]) ∧ Mca (plF (plB l1 l2 none)) s d w' (Ma.start [] 1) ∧ (HbA w' hb H2 ∧ hb < w'.heap.size) ∧ Below w.heap.size w w' ∧ ∀ k, footA s d k → hb < k ∧ w.heap.size ≤ k) := by
            obtain ⟨xa9, xc9, e9, hL9⟩ := (HS9.out.row).lst (fun x hx => Nat.le_trans (HOK x hx).ar (by decide))
            rw [HLB.out] at e9
            injection e9 with q1 q2 q3
            subst q1 q3
            have hA := pl_afs (B := plB l1 l2 none) z2 z4 (by rw [← HSB.out.2.1]; exact z23) z7 HLB.out.symm (hL9.below HB7.out (Nat.le_refl _) (enI_below HB7.out (Nat.le_refl _)))
            rw [← HSB.out.2.1] at hA
            refine ((pl_ok HOK (by rw [HLB.out]; omega)).new W7 (HT.out.below HW7.out HT.out.1) hA rfl (ints_noneA _) rfl (by decide)).mono ?_
            rintro e w' ⟨mb, s, d, r1, r2, r3, r4, r5⟩
            have l7 := HHB.out.2
            exact ⟨mb, s, d, r1, r2, r3, ⟨(r4.block _ l7).trans HHB.out.1, Nat.lt_of_lt_of_le l7 r4.size⟩, HW7.out.trans (r4.mono HW7.out.size), fun k hk => ⟨by have := r5 k hk; omega, by have := r5 k hk; have := HW7.out.size; omega⟩⟩
          clear hV hW7 hgq oV sV y23 b7 z7 o7 z23 z2 z4 za HOK HXX HSB HB6 HB7 HW7 HHB HS9 HLB a0 a1 m5 m6 m7 m8 m9 fz ll la ll1 la1 HT HBW hml
          go_upto_region 27 with (go_at_call 11; refine Calls.mono HNW.out ?_; rintro e wN ⟨mb, s, d, hmb, rfl, hM, hHB, bN, hft⟩)
          have HRN : Hid (Calls Tryz.prog 13 #[.pointer (some ⟨mb, 0, none⟩), .int .i64 2000] wN fun e w' => ∃ ao c' st dp, e = .returned (.tuple #[.agg #[.slice ao 16 c', .int .i64 1, .int .i64 0, .int .i64 0, .int .i64 st, .int .i64 0, .int .i64 dp], .int .i64 0]) ∧ Evs w' ao c' (tev H2 16) ∧ (HbA w' hb H2 ∧ hb < w'.heap.size) ∧ Below w.heap.size w w') := (hmb ▸ pl_go l1 l2 none HN.out.2.2.1 HN.out.2.2.2 HF.out.1 HF.out.2 (fun S h => by cases h) hM).mono fun e w' ⟨ao, c', st, dp, q1, q2, q3⟩ => ⟨ao, c', st, dp, q1, by rw [HH2.out.1]; exact q2, ⟨(q3.block hb hHB.2 (fun q => by have := (hft hb q).1; omega)).trans hHB.1, Nat.lt_of_lt_of_le hHB.2 q3.size⟩, bN.trans (q3.below bN.size fun k hk => (hft k hk).2)⟩
          clear HNW hmb hM hHB bN hft a2 a3 lb
          go_upto_region 29 with (go_at_call 12; refine (HNM.out _ _).mono ?_; rintro e w9 ⟨rfl, rfl⟩)
          go_upto_region 30 with (go_at_call 13; refine Calls.mono HRN.out ?_; rintro e wR ⟨ao, co, st, dp, rfl, hE, hHB, bR⟩)
          obtain ⟨W8, hW8⟩ : ∃ W, W = wR.alloc (.cells #[.slice ao 16 co, .int .i64 1, .int .i64 0, .int .i64 0, .int .i64 st, .int .i64 0, .int .i64 dp] 48) := ⟨_, rfl⟩
          obtain ⟨gx, hgx⟩ : ∃ g, g = wR.heap.size := ⟨_, rfl⟩
          rw [← hW8, ← hgx]
          have b8 : Below wR.heap.size wR W8 := by rw [hW8]; exact below_newA _ _
          have k8 : W8.heap[gx]? = some (.cells #[.slice ao 16 co, .int .i64 1, .int .i64 0, .int .i64 0, .int .i64 st, .int .i64 0, .int .i64 dp] 48 (0, 0)) := by rw [hW8, hgx]; exact heap_alloc_new _ _
          have lg := (Array.getElem?_eq_some_iff.1 k8).1
          have HB8 : Hid (Below w.heap.size w W8) := bR.trans (b8.mono bR.size)
          have hE8 := hE.belowR b8
          obtain ⟨eb, eo, e1, hel, -, -⟩ := hE8.at (k := 0) (by rw [tev_len]; omega)
          subst e1
          have HEV : Hid (∀ W, Below W8.heap.size W8 W → ∀ i : Nat, i < 16 → W.cell? ⟨gx, 0, none⟩ = some (.slice (some ⟨eb, eo, none⟩) 16 co) ∧ gx < W.heap.size ∧ eb < W.heap.size ∧ hb < W.heap.size ∧ W.cell? ⟨hb, i, none⟩ = some (.int .i64 (H2.getD i 0)) ∧ W.cell? ⟨eb, eo + i * 2, none⟩ = some (.int .i64 1) ∧ W.cell? ⟨eb, eo + i * 2 + 1, none⟩ = some (.int .i64 (H2.getD i 0))) := fun W hW i hi => by
            have k9 := (hW.block _ lg).trans k8
            have hi' : i < (tev H2 16).length := by rw [tev_len]; exact hi
            obtain ⟨b', o', e1, l', e2, e3⟩ := (hE8.belowR hW).at (k := i) hi'
            rw [tev_at H2 16 i hi'] at e2 e3
            cases e1
            have h8 : HbA W8 hb H2 := (b8.block _ hHB.2).trans hHB.1
            have l8 := (Array.getElem?_eq_some_iff.1 h8).1
            have h9 : HbA W hb H2 := (hW.block _ l8).trans h8
            exact ⟨cell_arr k9 rfl, (Array.getElem?_eq_some_iff.1 k9).1, l', (Array.getElem?_eq_some_iff.1 h9).1, h9.cell (by rw [HH2.out.2]; exact hi), e2, e3⟩
          have c0 : W8.cell? ⟨gx, 0, none⟩ = some (.slice (some ⟨eb, eo, none⟩) 16 co) := cell_arr k8 rfl
          have c1 : W8.cell? ⟨gx, 1, none⟩ = some (.int .i64 1) := cell_arr k8 rfl
          clear hE hHB bR hW8 hgx b8 k8 hE8 HRN HN HF hel
          go_upto_region 33 with (go_at_call 12; refine (HNM.out _ _).mono ?_; rintro e w9 ⟨rfl, rfl⟩)
          clear c0 c1 lg
          go_loopw [21] (fun v wz => ∃ i : Nat, i ≤ 16 ∧ v = .int .i64 (i : Int) ∧ Hid (Below W8.heap.size W8 wz)) (fun v _ => 16 - (intOf v).toNat)
          case atStart => exact ⟨0, by omega, rfl, Below.refl _ _⟩
          case round =>
            obtain ⟨i, hi, rfl, HW⟩ := hrel
            by_cases hlt : i < 16
            · obtain ⟨d0, d1, d2, d3, d4, d5, d6⟩ := HEV.out _ HW.out i hlt
              generalize H2.getD i 0 = x at d4 d6
              go_wp2_with fail
              go_quiet (fail)
              go_wp2_with fail
              go_roundw
              case rel => exact ⟨i + 1, by omega, by first | go_num | rfl, below_drawnA HW.out _⟩
              case measure => (simp [intOf]; try omega)
            · obtain rfl : i = 16 := by omega
              go_wp2_with fail
              go_ret
              exact ⟨rfl, HB8.out.trans (HW.out.mono HB8.out.size)⟩
end Go.Proofs.YtegoemeefmjnoaaGreatDoor
