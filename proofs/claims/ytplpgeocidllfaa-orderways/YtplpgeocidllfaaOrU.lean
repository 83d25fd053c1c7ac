import Derived.Test.YtplpgeocidllfaaOrT
set_option linter.unusedVariables false
set_option linter.unusedSimpArgs false
namespace Go.Proofs.Ytplpgeocidllfaa
open Go.ChangeShapes Go.WideShapes Go.ChangeAt Go.RowKit Go.Maps

theorem wyL_take (Y N : List (List Int)) : wyL Y N = [[1, 1 + (Y.length : Int)]] ++ Y.map (sh 1) ++ N.map (sh (1 + (Y.length : Int))) := by simp [wyL]
theorem good_mem {Ls : List (List Int)} (hg : goodP Ls = true) {l : List Int} (hl : l ∈ Ls) {x : Int} (hx : x ∈ l) : 0 ≤ x ∧ x < Ls.length := by
  obtain ⟨k, hk, rfl⟩ := List.mem_iff_getElem.1 hl
  obtain ⟨j, hj, rfl⟩ := List.mem_iff_getElem.1 hx
  exact goodP_yes hg hk hj
def cntN (ml : List Int) (k : Nat) : Nat := ((List.range k).filter fun i : Nat => decide ((i : Int) ∈ ml)).length
theorem cntN_succ (ml : List Int) (k : Nat) : cntN ml (k + 1) = cntN ml k + (if (k : Int) ∈ ml then 1 else 0) := by
  unfold cntN
  rw [List.range_succ, List.filter_append, List.length_append]
  congr 1
  by_cases h : (k : Int) ∈ ml <;> simp [h]
theorem cntN_le (ml : List Int) (k : Nat) : cntN ml k ≤ k := by
  have := List.length_filter_le (fun i : Nat => decide ((i : Int) ∈ ml)) (List.range k)
  simpa [cntN] using this
set_option maxRecDepth 100000 in
set_option maxHeartbeats 8000000 in
theorem orderWays_any (w : World) (ao : Option Addr) (n c : Nat) (Ys : List (List Int)) (hn : n = Ys.length) (hI : IRow w ao c Ys) (hz : RZ w ao n) (hl : ∀ l ∈ Ys, l.length ≤ 17592186043904) (hnn : n ≤ 17592186043904)
    (bo : Option Addr) (k d : Nat) (Ns : List (List Int)) (hk : k = Ns.length) (hJ : IRow w bo d Ns) (hz2 : RZ w bo k) (hl2 : ∀ l ∈ Ns, l.length ≤ 17592186043904) (hkk : k ≤ 17592186043904) :
    Calls Try.prog 6 #[.slice ao n c, .slice bo k d] w fun e w' => e = .returned (.bool true) ∧ Below w.heap.size w w' := by
  have hal := aliveO_any w
  have hnc : n ≤ c := by have := hI.le; omega
  have hcm : c ≤ 9223372036854775807 := hI.mx
  have hkd : k ≤ d := by have := hJ.le; omega
  have hdm : d ≤ 9223372036854775807 := hJ.mx
  have HN : Hid (n = Ys.length) := hn
  have HI : Hid (IRow w ao c Ys) := hI
  have HL : Hid (∀ l ∈ Ys, l.length ≤ 17592186043904) := hl
  have HK : Hid (k = Ns.length) := hk
  have HJ : Hid (IRow w bo d Ns) := hJ
  have HL2 : Hid (∀ l ∈ Ns, l.length ≤ 17592186043904) := hl2
  clear hn hI hz hl hk hJ hz2 hl2
  go_enter Try.func6, Try.ntmps6
  go_wp2_with fail
  refine hal.mono ?_
  rintro e w1 ⟨rfl, b1⟩
  have HB1 : Hid (Below w.heap.size w w1) := b1
  clear hal b1
  go_wp2_with fail
  have hhv := heavy_any w1 ao n c Ys HN.out (HI.out.below HB1.out (Nat.le_refl _)) (fun l hl => by have := HL.out l hl; omega) (by omega) 20000 (by omega)
  refine Calls.mono hhv ?_
  rintro e w2 ⟨rfl, rfl⟩
  clear hhv
  by_cases h2 : 20000 < bulkP Ys
  · rw [decide_eq_true h2]
    go_wp2_with fail
    go_ret
    exact ⟨rfl, HB1.out⟩
  rw [decide_eq_false h2]
  go_wp2_with fail
  have hhv := heavy_any w2 bo k d Ns HK.out (HJ.out.below HB1.out (Nat.le_refl _)) (fun l hl => by have := HL2.out l hl; omega) (by omega) 20000 (by omega)
  refine Calls.mono hhv ?_
  rintro e w3 ⟨rfl, rfl⟩
  clear hhv
  by_cases h3 : 20000 < bulkP Ns
  · rw [decide_eq_true h3]
    go_wp2_with fail
    go_ret
    exact ⟨rfl, HB1.out⟩
  rw [decide_eq_false h3]
  have hnb : n ≤ 20000 := by have := HN.out; unfold bulkP at h2; omega
  have hkb : k ≤ 20000 := by have := HK.out; unfold bulkP at h3; omega
  have HM : Hid (∀ l ∈ Ys, l.length ≤ 1000000) := fun l hl => by have := bulk_row hl; omega
  have HM2 : Hid (∀ l ∈ Ns, l.length ≤ 1000000) := fun l hl => by have := bulk_row hl; omega
  clear h2 h3 hnn hkk
  go_wp2_with fail
  refine Calls.mono (right_any w3 ao n c Ys HN.out (HI.out.below HB1.out (Nat.le_refl _))) ?_
  rintro e w4 ⟨rfl, rfl⟩
  obtain ⟨gy, hgy⟩ : ∃ gy, gy = goodP Ys := ⟨_, rfl⟩
  rw [← hgy]
  have HGY : Hid (gy = goodP Ys) := hgy
  clear hgy
  go_wp2_with fail
  refine Calls.mono (right_any w4 bo k d Ns HK.out (HJ.out.below HB1.out (Nat.le_refl _))) ?_
  rintro e w5 ⟨rfl, rfl⟩
  obtain ⟨gn, hgn⟩ : ∃ gn, gn = goodP Ns := ⟨_, rfl⟩
  rw [← hgn]
  have HGN : Hid (gn = goodP Ns) := hgn
  clear hgn
  by_cases hy0 : gy = false
  · subst hy0
    go_wp2_with fail
    go_ret
    exact ⟨rfl, HB1.out⟩
  have hy1 : gy = true := by simpa using hy0
  subst hy1
  by_cases hy2 : gn = false
  · subst hy2
    go_wp2_with fail
    go_ret
    exact ⟨rfl, HB1.out⟩
  have hy3 : gn = true := by simpa using hy2
  subst hy3
  clear hy0 hy2
  have HG : Hid (goodP Ys = true) := HGY.out.symm
  have HG2 : Hid (goodP Ns = true) := HGN.out.symm
  have hpos : 0 < n := by have := goodP_pos HG.out; have := HN.out; omega
  clear HGY HGN
  obtain ⟨W1, hW1⟩ : ∃ W1, W1 = (w5.alloc (.cells #[.int .i64 1, .int .i64 (1 + (n : Int))] 3)).alloc (.cells #[.slice (some ⟨w5.heap.size, 0, none⟩) 2 2] 27) := ⟨_, rfl⟩
  obtain ⟨B, hB⟩ : ∃ B, B = w5.heap.size := ⟨_, rfl⟩
  have R0 : Rws W1 B (.slice (some ⟨B + 1, 0, none⟩) 1 1) [[1, 1 + (n : Int)]] := by
    rw [hW1, hB]
    refine ⟨[.slice (some ⟨w5.heap.size, 0, none⟩) 2 2], rfl, ⟨rfl, .inr ⟨w5.heap.size + 1, 1, #[.slice (some ⟨w5.heap.size, 0, none⟩) 2 2], rfl, by omega, ?_, Nat.le_refl _, by unfold maxLen; simp, rfl, rfl⟩⟩, fun i hi => ?_⟩
    · simpa using heap_alloc_new (w5.alloc (.cells #[.int .i64 1, .int .i64 (1 + (n : Int))] 3)) (.cells #[.slice (some ⟨w5.heap.size, 0, none⟩) 2 2] 27)
    · simp at hi
      subst hi
      refine ⟨_, rfl, rfl, rfl, .inr ⟨w5.heap.size, 2, #[.int .i64 1, .int .i64 (1 + (n : Int))], rfl, Nat.le_refl _, ?_, Nat.le_refl _, by unfold maxLen; simp, rfl, rfl⟩⟩
      rw [heap_alloc_old _ _ (by simp)]
      exact heap_alloc_new _ _
  have bW : Below w.heap.size w W1 := by rw [hW1]; exact (HB1.out.alloc HB1.out.size _).alloc (by have := HB1.out.size; simp; omega) _
  have hBw : w.heap.size ≤ B := by rw [hB]; exact HB1.out.size
  have hBW : B ≤ W1.heap.size := by rw [hW1, hB]; simp; omega
  have HR0 : Hid (Rws W1 B (.slice (some ⟨B + 1, 0, none⟩) 1 1) ([[1, 1 + (n : Int)]] ++ (Ys.take 0).map (sh 1)) ∧ Below w.heap.size w W1 ∧ B ≤ W1.heap.size) := ⟨by simpa using R0, bW, hBW⟩
  have HW1 : Hid (W1 = (w5.alloc (.cells #[.int .i64 1, .int .i64 (1 + (n : Int))] 3)).alloc (.cells #[.slice (some ⟨w5.heap.size, 0, none⟩) 2 2] 27)) := hW1
  have HB : Hid (B = w5.heap.size) := hB
  clear R0 bW hBW hW1 hB HB1
  go_upto_region 8 with fail
  rw [← HW1.out, ← HB.out]
  clear HW1 HB
  go_wp2_with fail
  go_loopg [8, 9] n (fun q tv iv wr => ∃ (i : Nat) (a8 : Option Addr) (c8 : Nat), i ≤ n ∧ q = n - i ∧ tv = .slice a8 (1 + i) c8 ∧ iv = .int .i64 (i : Int) ∧ Hid (Rws wr B (.slice a8 (1 + i) c8) ([[1, 1 + (n : Int)]] ++ (Ys.take i).map (sh 1)) ∧ Below w.heap.size w wr ∧ B ≤ wr.heap.size))
  case atStart => exact ⟨0, _, _, by omega, by omega, rfl, rfl, HR0.out⟩
  case round =>
    clear HR0
    obtain ⟨i, a8, c8, hi, rfl, rfl, rfl, HH⟩ := hrel
    by_cases hlt : i < n
    · have hiL : i < Ys.length := by have := HN.out; omega
      obtain ⟨rb, ro, ar, cr, rfl, krw, hIr⟩ := HI.out.at hiL
      have kr := (HH.out.2.1.cell (p := ⟨rb, ro + i, none⟩) (block_lt_of_cell krw)).trans krw
      obtain ⟨L, hL⟩ : ∃ L, L = Ys[i] := ⟨_, rfl⟩
      rw [← hL] at kr hIr
      have hLm : L.length ≤ 1000000 := by rw [hL]; exact HM.out _ (List.getElem_mem hiL)
      obtain ⟨m, hm⟩ : ∃ m, m = L.length := ⟨_, rfl⟩
      rw [← hm] at kr
      obtain ⟨vs, hvl, hv, hr⟩ := HH.out.1.out
      have hvs : vs.length = 1 + i := by rw [hvl]; simp; omega
      have HSH : Hid (Calls Try.prog 18 #[.slice ar m cr, .int .i64 1] wr fun e w' => ∃ v, e = .returned v ∧ OwnI w' wr.heap.size v m (sh 1 L) ∧ Below wr.heap.size wr w') := shifted_any wr ar m cr L hm (hIr.below HH.out.2.1 (Nat.le_refl _)) (by omega) 1 (by omega) (fun x hx => by
        have := good_mem HG.out (l := L) (by rw [hL]; exact List.getElem_mem hiL) hx
        have := HN.out
        omega)
      have FIN : Hid (∀ u w2, OwnI w2 wr.heap.size u m (sh 1 L) → Below wr.heap.size wr w2 → OwnV w2 B (.slice a8 (1 + i) c8) vs ∧ B ≤ w2.heap.size ∧ ∀ v' w3, OwnV w3 B v' (vs ++ [u]) → GI B w2 w3 (.slice a8 (1 + i) c8) v' → Rws w3 B v' ([[1, 1 + (n : Int)]] ++ (Ys.take (i + 1)).map (sh 1)) ∧ Below w.heap.size w w3 ∧ B ≤ w3.heap.size) := fun u w2 o2 b2 => by
        refine ⟨hv.keep b2, Nat.le_trans HH.out.2.2 b2.size, fun v' w3 h3 g3 => ⟨?_, (HH.out.2.1.trans (b2.mono HH.out.2.1.size)).trans (g3.bel.mono hBw), by have := g3.size; have := b2.size; have := HH.out.2.2; omega⟩⟩
        rw [← List.take_append_getElem hiL, List.map_append, ← List.append_assoc, ← hL]
        exact Rws.more hvl hv hr HH.out.2.2 b2 (by simpa [sh, hm] using o2) h3 g3
      have HVS : Hid (vs.length = 1 + i) := hvs
      clear HH hvl hv hr hvs hm krw hIr hL
      go_wp2_with (first
        | (go_at_call 18; refine Calls.mono HSH.out ?_; rintro e w2 ⟨u, rfl, o2, b2⟩
           obtain ⟨V2, B2, F3⟩ := FIN.out u w2 o2 b2
           have HV2 : Hid _ := V2
           have HF3 : Hid _ := F3
           obtain ⟨au, cu, eu, _, _⟩ := own_slice o2.out
           subst eu
           clear V2 F3 FIN HSH o2 b2)
        | (at_builtin; refine wpList_append_slG (w0 := w2) rfl _ _ rfl B (.slice a8 (1 + i) c8) vs au m cu rfl HV2.out rfl (by rw [HVS.out]; omega) B2 ?_; intro v3 w3 o3 g3
           have P3 := HF3.out v3 w3 o3 g3
           have HP3 : Hid _ := P3
           obtain ⟨a4, c4, e4, _, _⟩ := own_slice o3.out
           rw [List.length_append, List.length_singleton, HVS.out] at e4
           subst e4
           clear o3 g3 P3 HF3)
        | go_in)
      go_roundg (n - (i + 1))
      case rel => exact ⟨i + 1, a4, c4, by omega, rfl, rfl, by go_num, HP3.out⟩
      case measure => omega
    · obtain rfl : i = n := by omega
      have HR0 : Hid (Rws wr B (.slice a8 (1 + i) c8) ([[1, 1 + (i : Int)]] ++ Ys.map (sh 1) ++ (Ns.take 0).map (sh (1 + (i : Int)))) ∧ Below w.heap.size w wr ∧ B ≤ wr.heap.size) := by
        have := HH.out
        rw [List.take_of_length_le (by have := HN.out; omega)] at this
        refine ⟨?_, this.2⟩
        have h1 := this.1
        simp only [List.take_zero, List.map_nil, List.append_nil]
        exact h1
      clear HH
      go_wp2_with fail
      go_loopg [8, 10] k (fun q tv iv wr => ∃ (j : Nat) (a8 : Option Addr) (c8 : Nat), j ≤ k ∧ q = k - j ∧ tv = .slice a8 (1 + i + j) c8 ∧ iv = .int .i64 (j : Int) ∧ Hid (Rws wr B (.slice a8 (1 + i + j) c8) ([[1, 1 + (i : Int)]] ++ Ys.map (sh 1) ++ (Ns.take j).map (sh (1 + (i : Int)))) ∧ Below w.heap.size w wr ∧ B ≤ wr.heap.size))
      case atStart => exact ⟨0, _, _, by omega, by omega, rfl, rfl, HR0.out⟩
      case round =>
        clear HR0
        obtain ⟨j, a8, c8, hj, rfl, rfl, rfl, HH⟩ := hrel
        by_cases hlt2 : j < k
        · have hiL : j < Ns.length := by have := HK.out; omega
          obtain ⟨rb, ro, ar, cr, rfl, krw, hIr⟩ := HJ.out.at hiL
          have kr := (HH.out.2.1.cell (p := ⟨rb, ro + j, none⟩) (block_lt_of_cell krw)).trans krw
          obtain ⟨L, hL⟩ : ∃ L, L = Ns[j] := ⟨_, rfl⟩
          rw [← hL] at kr hIr
          have hLm : L.length ≤ 1000000 := by rw [hL]; exact HM2.out _ (List.getElem_mem hiL)
          obtain ⟨m, hm⟩ : ∃ m, m = L.length := ⟨_, rfl⟩
          rw [← hm] at kr
          obtain ⟨vs, hvl, hv, hr⟩ := HH.out.1.out
          have hvs : vs.length = 1 + i + j := by rw [hvl]; simp; have := HN.out; omega
          have HSH : Hid (Calls Try.prog 18 #[.slice ar m cr, .int .i64 (1 + (i : Int))] wr fun e w' => ∃ v, e = .returned v ∧ OwnI w' wr.heap.size v m (sh (1 + (i : Int)) L) ∧ Below wr.heap.size wr w') := shifted_any wr ar m cr L hm (hIr.below HH.out.2.1 (Nat.le_refl _)) (by omega) (1 + (i : Int)) (by omega) (fun x hx => by
            have := good_mem HG2.out (l := L) (by rw [hL]; exact List.getElem_mem hiL) hx
            have := HK.out
            omega)
          have FIN : Hid (∀ u w2, OwnI w2 wr.heap.size u m (sh (1 + (i : Int)) L) → Below wr.heap.size wr w2 → OwnV w2 B (.slice a8 (1 + i + j) c8) vs ∧ B ≤ w2.heap.size ∧ ∀ v' w3, OwnV w3 B v' (vs ++ [u]) → GI B w2 w3 (.slice a8 (1 + i + j) c8) v' → Rws w3 B v' ([[1, 1 + (i : Int)]] ++ Ys.map (sh 1) ++ (Ns.take (j + 1)).map (sh (1 + (i : Int)))) ∧ Below w.heap.size w w3 ∧ B ≤ w3.heap.size) := fun u w2 o2 b2 => by
            refine ⟨hv.keep b2, Nat.le_trans HH.out.2.2 b2.size, fun v' w3 h3 g3 => ⟨?_, (HH.out.2.1.trans (b2.mono HH.out.2.1.size)).trans (g3.bel.mono hBw), by have := g3.size; have := b2.size; have := HH.out.2.2; omega⟩⟩
            rw [← List.take_append_getElem hiL, List.map_append, ← List.append_assoc, ← hL]
            exact Rws.more hvl hv hr HH.out.2.2 b2 (by simpa [sh, hm] using o2) h3 g3
          have HVS : Hid (vs.length = 1 + i + j) := hvs
          clear HH hvl hv hr hvs hm krw hIr hL
          go_wp2_with (first
            | (go_at_call 18; refine Calls.mono HSH.out ?_; rintro e w2 ⟨u, rfl, o2, b2⟩
               obtain ⟨V2, B2, F3⟩ := FIN.out u w2 o2 b2
               have HV2 : Hid _ := V2
               have HF3 : Hid _ := F3
               obtain ⟨au, cu, eu, _, _⟩ := own_slice o2.out
               subst eu
               clear V2 F3 FIN HSH o2 b2)
            | (at_builtin; refine wpList_append_slG (w0 := w2) rfl _ _ rfl B (.slice a8 (1 + i + j) c8) vs au m cu rfl HV2.out rfl (by rw [HVS.out]; omega) B2 ?_; intro v3 w3 o3 g3
               have P3 := HF3.out v3 w3 o3 g3
               have HP3 : Hid _ := P3
               obtain ⟨a4, c4, e4, _, _⟩ := own_slice o3.out
               rw [List.length_append, List.length_singleton, HVS.out] at e4
               subst e4
               clear o3 g3 P3 HF3)
            | go_in)
          go_roundg (k - (j + 1))
          case rel => exact ⟨j + 1, a4, c4, by omega, rfl, rfl, by go_num, HP3.out⟩
          case measure => omega
        · obtain rfl : j = k := by omega
          have hR := HH.out
          rw [List.take_of_length_le (by have := HK.out; omega), HN.out, ← wyL_take, ← HN.out] at hR
          have hlen : 1 + i + j = (wyL Ys Ns).length := by rw [wyL_len, ← HN.out, ← HK.out]
          obtain ⟨P, Q, hPQ, hP, hQ⟩ := wy_line HG.out HG2.out
          have HLI : Hid (Calls Try.prog 12 #[.slice a8 (1 + i + j : Nat) c8] wr fun e w' => ∃ v, e = .returned v ∧ OwnI w' wr.heap.size v (1 + P.length + Q.length) (0 :: (P ++ Q)) ∧ Below wr.heap.size wr w') := by
            refine Calls.mono (line_any wr a8 (1 + i + j) c8 (wyL Ys Ns) hlen (hR.1.irow hlen) (by omega)) ?_
            rintro e w' ⟨v, rfl, h1, h2⟩
            rw [hPQ] at h1
            refine ⟨v, rfl, ?_, h2⟩
            have e1 : (0 :: (P ++ Q) : List Int).length = 1 + P.length + Q.length := by simp; omega
            rw [e1] at h1
            exact h1
          have HPQ : Hid (linP (wyL Ys Ns) = 0 :: (P ++ Q)) := hPQ
          have HPP : Hid (∀ x ∈ P, 1 ≤ x ∧ x ≤ Ys.length) := hP
          have HQQ : Hid (∀ x ∈ Q, (Ys.length : Int) < x) := hQ
          have hlL : 1 + P.length + Q.length ≤ 1 + i + j := by
            have := lin_len (Ls := wyL Ys Ns)
            rw [hPQ] at this
            simp at this
            omega
          have HBL : Hid (Below w.heap.size w wr) := hR.2.1
          clear HH hR hlen hPQ hP hQ
          go_wp2_with fail
          refine Calls.mono HLI.out ?_
          rintro e w6 ⟨va, rfl, OA, b6⟩
          obtain ⟨ga, ca, ea, hca, hca', _, _⟩ := own_some OA.out (by omega)
          subst ea
          have HOA : Hid _ := OA
          have HB6 : Hid (Below w.heap.size w w6) := HBL.out.trans (b6.mono HBL.out.size)
          clear OA b6 HLI HBL
          go_wp2_with fail
          refine Calls.mono (reached_any w6 ao i c Ys HN.out (HI.out.below HB6.out (Nat.le_refl _)) HG.out (by omega) 0 hpos) ?_
          rintro e w7 ⟨rfl, ⟨ml, M7, hml⟩, b7⟩
          obtain ⟨hct, hQp⟩ := wy_count HG.out HG2.out HPQ.out HPP.out HQQ.out ml hml
          have hct2 : P.length = cntN ml i := by rw [hct, cntN, HN.out]
          obtain ⟨g, hgd⟩ : ∃ g, g = w6.heap.size := ⟨_, rfl⟩
          rw [← hgd] at M7 ⊢
          have HM7 : Hid (MR w7 g i ml) := M7
          have HB7 : Hid (Below w.heap.size w w7) := HB6.out.trans (b7.mono HB6.out.size)
          have HOA7 : Hid (OwnI w7 wr.heap.size (.slice (some ⟨ga, 0, none⟩) (1 + P.length + Q.length) ca) (1 + P.length + Q.length) (0 :: (P ++ Q))) := HOA.out.keep b7
          have HCT : Hid (P.length = cntN ml i) := hct2
          clear M7 hml b7 HOA HB6 hgd hct hct2 HPQ
          go_wp2_with fail
          go_loopg [12, 14] i (fun q nv iv wr => ∃ t : Nat, t ≤ i ∧ q = i - t ∧ nv = .int .i64 (1 + (cntN ml t : Int)) ∧ iv = .int .i64 (t : Int) ∧ wr = w7)
          case atStart => exact ⟨0, by omega, by omega, rfl, rfl, rfl⟩
          case round =>
            obtain ⟨t, ht, rfl, rfl, rfl, rfl⟩ := hrel
            by_cases hlt3 : t < i
            · have km := HM7.out.cell hlt3
              have hcl := cntN_le ml t
              have hsu := cntN_succ ml t
              by_cases hin : (t : Int) ∈ ml
              · rw [decide_eq_true hin] at km
                rw [if_pos hin] at hsu
                obtain ⟨cn, hcn⟩ : ∃ cn, cn = cntN ml t := ⟨_, rfl⟩
                rw [← hcn] at hsu hcl ⊢
                have HSU : Hid (cntN ml (t + 1) = cn + 1) := hsu
                clear hsu hcn hin
                go_wp2_with fail
                go_roundg (i - (t + 1))
                case rel => exact ⟨t + 1, by omega, rfl, by rw [HSU.out]; go_num, by go_num, rfl⟩
                case measure => omega
              · rw [decide_eq_false hin] at km
                rw [if_neg hin] at hsu
                obtain ⟨cn, hcn⟩ : ∃ cn, cn = cntN ml t := ⟨_, rfl⟩
                rw [← hcn] at hsu hcl ⊢
                have HSU : Hid (cntN ml (t + 1) = cn + 0) := hsu
                clear hsu hcn hin
                go_wp2_with fail
                go_roundg (i - (t + 1))
                case rel => exact ⟨t + 1, by omega, rfl, by rw [HSU.out]; simp, by go_num, rfl⟩
                case measure => omega
            · obtain rfl : t = i := by omega
              rw [← HCT.out]
              obtain ⟨pl, hpl⟩ : ∃ pl, pl = P.length := ⟨_, rfl⟩
              obtain ⟨ql, hql⟩ : ∃ ql, ql = Q.length := ⟨_, rfl⟩
              rw [← hpl, ← hql] at HOA7 hlL
              rw [← hql] at hQp
              rw [← hpl, ← hql] at hca
              rw [← hpl, ← hql]
              have HCL : Hid (∀ s, s < 1 + pl + ql → ∃ x, (0 :: (P ++ Q) : List Int)[s]? = some x ∧ (s < 1 + pl → x ≤ t) ∧ (1 + pl ≤ s → (t : Int) < x)) := fun s hs => by
                rcases s with _ | s
                · exact ⟨0, rfl, fun _ => by omega, fun h => by omega⟩
                · rw [List.getElem?_cons_succ]
                  by_cases hsp : s < P.length
                  · rw [List.getElem?_append_left hsp, List.getElem?_eq_getElem hsp]
                    refine ⟨_, rfl, fun _ => ?_, fun h => by omega⟩
                    have := HPP.out _ (List.getElem_mem hsp)
                    have := HN.out
                    omega
                  · rw [List.getElem?_append_right (by omega), List.getElem?_eq_getElem (by omega)]
                    refine ⟨_, rfl, fun h => by omega, fun _ => ?_⟩
                    have := HQQ.out (Q[s - P.length]'(by omega)) (List.getElem_mem _)
                    have := HN.out
                    omega
              clear HCT hpl hql
              go_wp2_with fail
              go_loopg [15] (1 + pl + ql) (fun q iv wq => ∃ s : Nat, s ≤ 1 + pl + ql ∧ q = 1 + pl + ql - s ∧ iv = .int .i64 (s : Int) ∧ wq = wr)
              case atStart => exact ⟨0, by omega, by omega, rfl, rfl⟩
              case round =>
                obtain ⟨s, hs, rfl, rfl, rfl⟩ := hrel
                by_cases hlt4 : s < 1 + pl + ql
                · obtain ⟨x, hx, hx1, hx2⟩ := HCL.out s hlt4
                  have kx := own_cell HOA7.out.out s (by omega)
                  rw [show (ivs (0 :: (P ++ Q)))[s]? = some (.int .i64 x) by simp only [ivs, List.getElem?_map, hx]; rfl] at kx
                  by_cases hsp : s < 1 + pl
                  · have q1 : decide ((s : Int) < 1 + (pl : Int)) = true := by simp; omega
                    have q2 : decide (x ≤ (t : Int)) = true := by simpa using hx1 hsp
                    clear hx hx1 hx2
                    go_wp2_with fail
                    go_roundg (1 + pl + ql - (s + 1))
                    case rel => exact ⟨s + 1, by omega, rfl, by go_num, rfl⟩
                    case measure => omega
                  · have q1 : decide ((s : Int) < 1 + (pl : Int)) = false := by simp; omega
                    have q2 : decide (x ≤ (t : Int)) = false := by have := hx2 (by omega); simp; omega
                    clear hx hx1 hx2
                    go_wp2_with fail
                    go_roundg (1 + pl + ql - (s + 1))
                    case rel => exact ⟨s + 1, by omega, rfl, by go_num, rfl⟩
                    case measure => omega
                · have q1 : decide (1 + (pl : Int) < 1 + (pl : Int) + (ql : Int)) = true := by simp; omega
                  go_wp2_with fail
                  try rw [Exit.noGoto_ret]
                  go_ret
                  exact ⟨by simp [Array.getD]; try omega, HB7.out⟩
end Go.Proofs.Ytplpgeocidllfaa
