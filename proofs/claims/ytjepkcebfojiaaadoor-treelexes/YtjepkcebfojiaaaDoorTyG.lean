import Derived.Test.YtjepkcebfojiaaaDoorTyF
import Derived.Test.YtjepkcebfojiaaaDoorTyO
import Derived.Test.YtjepkcebfojiaaaDoorTyW
import Derived.Test.YtjepkcebfojiaaaDoorLzG
import Derived.Deep.Cut
set_option linter.unusedVariables false
set_option linter.unusedSimpArgs false
namespace Go.Proofs.YtjepkcebfojiaaaDoor
open Go.ChangeShapes Go.WideShapes Go.ChangeAt Go.RowKit

set_option maxRecDepth 20000 in
set_option maxHeartbeats 4000000 in
theorem treeLexes_any (w : World) (hA : AllTab w) (no : Option Addr) (nc nn : Nat) (fo : Option Addr) (fc fn : Nat) (T : Tr) (hnn : nn = T.nodes.length) (hfn : fn = T.funcs.length) (hN : Nodes w no nc T.nodes) (hF : Ints w fo fc T.funcs) (hR : Rch T.nodes) (hn1 : nn ≤ 140737488351232) (hf1 : fn ≤ 140737488351232) (hv : ∀ n ∈ T.nodes, n.val ≤ 9223372036854775807) :
    Calls Tryd.prog 4 #[.agg #[.slice no nn nc, .slice fo fn fc]] w fun e w' => e = .returned (.bool true) ∧ Below w.heap.size w w' := by
  have HH : Hid (nn = T.nodes.length ∧ fn = T.funcs.length) := ⟨hnn, hfn⟩
  have HA : Hid (AllTab w) := hA
  have HV : Hid (∀ n ∈ T.nodes, n.val ≤ 9223372036854775807) := hv
  have hncl : nn ≤ nc := by have := hN.le; omega
  have hncx := hN.mx
  clear hnn hfn hA hv
  go_enter Tryd.func4, Tryd.ntmps4
  go_wp2_with fail
  have hb0 : Below w.heap.size w (w.alloc (.cells #[.slice no nn nc, .slice fo fn fc] 25)) := (Below.refl _ _).alloc (Nat.le_refl _) _
  refine (fits3_deep _ no nc nn fo fc fn T.nodes HH.out.1 (hN.below hb0 (Nat.le_refl _)) hR hn1 hf1).mono ?_
  rintro e w1 ⟨⟨R, rfl, hRR⟩, hb1⟩
  have HRR : Hid (R = true → nn + fn ≤ 120000 ∧ (∀ n ∈ T.nodes, n.kids.length ≤ 120000) ∧ (T.nodes.map c3).sum * T.nodes.length ≤ 16777216) := hRR
  clear hRR
  have hs1 := hb1.size
  simp at hs1
  have f0 : w1.cell? ⟨w.heap.size, 0, none⟩ = some (.slice no nn nc) := cell_below hb1 (by simp) (by simp)
  have f1 : w1.cell? ⟨w.heap.size, 1, none⟩ = some (.slice fo fn fc) := cell_below hb1 (by simp) (by simp)
  have hbw1 : Below w.heap.size w w1 := hb0.trans (hb1.mono (by simp))
  clear hb0
  cases R
  · go_wp2_with fail
    go_ret
    exact ⟨rfl, hbw1⟩
  obtain ⟨hsum, hkids, hdeep⟩ := HRR.out rfl
  have HKI : Hid _ := hkids
  have HDP : Hid ((T.nodes.map c3).sum * T.nodes.length ≤ 16777216) := hdeep
  have hnB : nn ≤ 1000000000 := by omega
  clear HRR hkids hdeep
  go_wp2_with fail
  refine (alive3_any w1 (HA.out.below hbw1)).mono ?_
  rintro e w2 ⟨rfl, hb2⟩
  have hs2 := hb2.size
  have g0 : w2.cell? ⟨w.heap.size, 0, none⟩ = some (.slice no nn nc) := cell_below hb2 (by omega) f0
  have g1 : w2.cell? ⟨w.heap.size, 1, none⟩ = some (.slice fo fn fc) := cell_below hb2 (by omega) f1
  have hbw2 : Below w.heap.size w w2 := hbw1.trans (hb2.mono (by omega))
  clear f0 f1
  go_wp2_with fail
  cases hC : chk T
  · refine (print_no w2 (HA.out.below hbw2).tab no nc nn fo fc fn T HH.out.1 HH.out.2 (hN.below hbw2 (Nat.le_refl _)) (hF.below hbw2 (Nat.le_refl _)) hnB hC).mono ?_
    rintro e w3 ⟨rfl, hb3⟩
    go_wp2_with (first | (go_at_call 9; refine (num3_any _ _).mono ?_; rintro e w' ⟨rfl, rfl⟩))
    go_ret
    exact ⟨rfl, hbw2.trans (hb3.mono (by omega))⟩
  have HC : Hid (chk T = true) := hC
  obtain ⟨S1, hP1, hS1⟩ := prints_ok hC HV.out (by have := HH.out.1; omega) HDP.out
  clear hC
  obtain ⟨ts, hLx, hWt⟩ := prints_lex HC.out HV.out (by have := HH.out.1; omega) hP1
  have HLX : Hid (Lexes 0 S1.text ts 0 0) := hLx
  have HWT : Hid (Wants T.nodes ts) := hWt
  have HAK := HA.out.below hbw2
  refine (print_all w2 HAK.tab HAK.lo HAK.t1 HAK.t2 HAK.tp no nc nn fo fc fn T HH.out.1 HH.out.2 (hN.below hbw2 (Nat.le_refl _)) (hF.below hbw2 (Nat.le_refl _)) hnB HC.out S1 hP1).mono ?_
  rintro e w3 ⟨⟨bv, bn, rfl, HB⟩, hb3⟩
  clear hLx hWt hP1 HAK
  obtain ⟨ba, bc, rfl, _, hTx⟩ := HB.view
  have hs3 := hb3.size
  have i0 : w3.cell? ⟨w.heap.size, 0, none⟩ = some (.slice no nn nc) := cell_below hb3 (by omega) g0
  have i1 : w3.cell? ⟨w.heap.size, 1, none⟩ = some (.slice fo fn fc) := cell_below hb3 (by omega) g1
  have hbw3 : Below w.heap.size w w3 := hbw2.trans (hb3.mono (by omega))
  have HBN : Hid (bn = S1.text.length) := HB.len
  have TKS : ∀ q, Calls Tryd.prog 11 #[.slice ba bn bc] q (fun e w' => q = w3 → ∃ v, e = .returned (.tuple #[v, .int .i64 0, .int .i64 0]) ∧ Own w' w3.heap.size v ts ∧ Below w3.heap.size w3 w') ∨ q ≠ w3 := fun q => by
    by_cases hq : q = w3
    · left
      subst hq
      have h := tokens_big q (HA.out.below hbw3).tab ba bc S1.text hTx (by omega)
      rw [← HBN.out] at h
      refine h.mono ?_
      rintro e w' ⟨ts', p, er, v, h1, rfl, h2, h3⟩ _
      obtain ⟨rfl, rfl, rfl⟩ := HLX.out.one h1
      exact ⟨v, rfl, h2, h3⟩
    · exact .inr hq
  clear g0 g1 HB hTx
  go_wp2_with (first
    | (go_at_call 9; refine (num3_any _ _).mono ?_; rintro e w' ⟨rfl, rfl⟩)
    | (go_at_call 11; refine ((TKS w3).resolve_right (fun h => h rfl)).mono ?_; intro e w4 hh; obtain ⟨v, rfl, hO, hb4⟩ := hh rfl; obtain ⟨ta, tc, rfl, htc1, htc2, hTV⟩ := hO.view))
  have HTL : Hid (Own w4 w3.heap.size (.slice ta ts.length tc) ts) := hO
  obtain ⟨tl, htl⟩ : ∃ tl, tl = ts.length := ⟨_, rfl⟩
  rw [← htl] at htc1 ⊢
  have HTL2 : Hid (tl = ts.length) := htl
  have hbw4 : Below w.heap.size w w4 := hbw3.trans (hb4.mono (by omega))
  have j0 : w4.cell? ⟨w.heap.size, 0, none⟩ = some (.slice no nn nc) := cell_below hb4 (by omega) i0
  have hs4 := hb4.size
  have hsz4 : w.heap.size < w4.heap.size := by omega
  clear TKS hh hO i0 i1 htl hb4 hb3 hb2 hb1 hbw1 hbw2 hbw3 hs1 hs2 hs3 hs4
  have HVK : Hid (∀ (i : Nat) (h : i < T.nodes.length), NdOKx T.nodes T.nodes[i]) := chk_ok HC.out HV.out (by have := HH.out.1; omega)
  go_loopw [10, 11] (fun nv iv wr => ∃ (i nk : Nat) (na : Option Addr) (nc' : Nat), i ≤ nn ∧ nk ≤ i ∧ iv = .int .i64 i ∧ nv = .slice na nk nc' ∧ LS w4.heap.size w4 wr (.slice na nk nc') nk (vals (T.nodes.take i)) (wS T.nodes i)) (fun _ iv _ => nn - (intOf iv).toNat)
  case atStart => exact ⟨0, 0, none, 0, by omega, by omega, rfl, rfl, OwnI.nil _ _, ⟨⟨_, heap_alloc_last _ _, rfl, fun q hq => by show (Array.replicate 70 (Value.int .i64 0))[q]? = _; simp [hq, wS]⟩⟩, (Below.refl _ _).alloc (Nat.le_refl _) _⟩
  case round =>
    obtain ⟨i, nk, na, nc', hi, hnk, rfl, rfl, HLS⟩ := hrel
    have hbr := HLS.bel
    have k0 : wr.cell? ⟨w.heap.size, 0, none⟩ = some (.slice no nn nc) := cell_below hbr (by omega) j0
    have hsr := hbr.size
    by_cases hlt : i < nn
    · have hbwr : Below w.heap.size w wr := hbw4.trans (hbr.mono hbw4.size)
      have hiN : i < T.nodes.length := by have := HH.out.1; omega
      obtain ⟨b, o, rfl, hbl, hAt⟩ := (hN.below hbwr (Nat.le_refl _)).out (by intro e; simp [e] at hiN)
      obtain ⟨ka, kc, c0, c1, c2, c3, c4, c5, c6, c7, c8, c9, hK⟩ := (hAt i hiN).out
      obtain ⟨nd, hnd⟩ : ∃ nd, nd = T.nodes[i] := ⟨_, rfl⟩
      rw [← hnd] at c0 c1 c2 c3 c4 c5 c6 c7 c8 c9 hK
      have HND : Hid (nd = T.nodes[i]) := hnd
      have hok : NdOKx T.nodes nd := by rw [hnd]; exact HVK.out i hiN
      have hkl : nd.kids.length ≤ 120000 := by rw [hnd]; exact HKI.out _ (List.getElem_mem _)
      obtain ⟨kl, hkl2⟩ : ∃ kl, kl = nd.kids.length := ⟨_, rfl⟩
      rw [← hkl2] at c9 hkl
      have HKL : Hid (kl = nd.kids.length) := hkl2
      have hkc : kl ≤ kc := by have := hK.le; omega
      have hkx := hK.mx
      obtain ⟨sn, hsn⟩ : ∃ sn, sn = bs nd.name := ⟨_, rfl⟩
      rw [← hsn] at c8
      have HSN : Hid (sn = bs nd.name) := hsn
      have HOK : Hid (NdOKx T.nodes nd) := hok
      have hbl2 : b < wr.heap.size := by omega
      have hgl : w4.heap.size < wr.heap.size := HLS.wa.lt
      have hle : ∀ q, wS T.nodes i q ≤ 600000 := fun q => by have := wS_le T.nodes i q; omega
      have HLE : Hid _ := hle
      clear hnd hAt hkl2 hsn hok hK hle
      --CASES
      have hvk := HOK.out.vk
      have hff := HOK.out.ff
      have hrg := ffit_rng hff
      obtain ⟨kk, hkk⟩ : ∃ kk, kk = nd.kind := ⟨_, rfl⟩
      obtain ⟨po, hpo⟩ : ∃ po, po = nd.op := ⟨_, rfl⟩
      rw [← hkk] at c0 hvk hrg
      rw [← hpo] at c6 hrg
      have HKK : Hid (kk = nd.kind ∧ po = nd.op) := ⟨hkk, hpo⟩
      have HFF : Hid (ffit nd = true) := hff
      clear hkk hpo hff
      have WQ : ∀ (nm : Bool) (k : Int) (els : Bool) (p : Int), decide (nd.name ≠ []) = nm → kk = k → decide (kk = 10 ∧ kl = 3) = els → ((k = 30 ∨ k = 31) → po = p) → ∀ q, wS T.nodes (i + 1) q = wS T.nodes i q + wn nm k els p q := fun nm k els p h1 h2 h3 h4 q => by
        rw [wS_next hiN, ← HND.out, wq_of nm k els p h1 (by rw [← HKK.out.1]; exact h2) (by rw [← HKK.out.1, ← HKL.out]; exact h3) (by rw [← HKK.out.2]; exact h4)]
      have VN : vals (T.nodes.take (i + 1)) = vals (T.nodes.take i) ++ if kk = 20 then [nd.val] else [] := by rw [vals_next hiN, ← HND.out, ← HKK.out.1]
      have HWQ : Hid _ := WQ
      have HVN : Hid _ := VN
      clear WQ VN
      by_cases hm : (mayOf kk).name = true
      · as_aux_lemma =>
          have hks : kk = 1 ∨ kk = 2 ∨ kk = 4 ∨ kk = 5 ∨ kk = 6 ∨ kk = 24 ∨ kk = 25 := may_nm hm
          have hnm : nmOk nd.name = true := nm_yes HFF.out (by rw [← HKK.out.1]; exact hm)
          have hse : (!sn.toList.isEmpty) = true := by rw [HSN.out, bs_toList]; simp [(nm_facts hnm).1]
          have h30 : ¬ kk = 30 := by omega
          have h31 : ¬ kk = 31 := by omega
          have h20 : ¬ kk = 20 := by omega
          have h10 : ¬ kk = 10 := by omega
          have FIN : ∀ q, up (up (wS T.nodes i) 1) (wordK kk) q = wS T.nodes (i + 1) q := fun q => by
            rw [HWQ.out true kk false 0 (dn_yes hnm) rfl (by simp [h10]) (by intro h; omega), up2 _ _ _ _ (by have := hks; rcases this with h | h | h | h | h | h | h <;> rw [h] <;> decide)]
            by_cases h1 : q = 1
            · subst h1; simp [wn, h30, h31]; try omega
            · have h1' : ¬ 1 = q := fun h => h1 h.symm
              simp [wn, h30, h31, h1, h1']
          have hwq : wordK kk < 70 ∧ ¬ wordK kk = 1 := by rcases hks with h | h | h | h | h | h | h <;> rw [h] <;> decide
          obtain ⟨qw, hqw⟩ : ∃ qw, qw = wordK kk := ⟨_, rfl⟩
          rw [← hqw] at FIN hwq
          have HQW : Hid (qw = wordK kk) := hqw
          obtain ⟨hq70, hq1⟩ := hwq
          have hq1' : ¬ 1 = qw := fun h => hq1 h.symm
          obtain ⟨y0, z0⟩ := HLS.wa.cell 1 (by omega)
          have le0 := HLE.out 1
          obtain ⟨f0, hf0⟩ : ∃ f, f = wS T.nodes i 1 := ⟨_, rfl⟩
          rw [← hf0] at y0 le0
          have HF0 : Hid (f0 = wS T.nodes i 1) := hf0
          clear hf0
          obtain ⟨y1, z1⟩ := HLS.wa.cell qw (by omega)
          have le1 := HLE.out qw
          obtain ⟨f1, hf1⟩ : ∃ f, f = wS T.nodes i qw := ⟨_, rfl⟩
          rw [← hf1] at y1 le1
          have HF1 : Hid (f1 = wS T.nodes i qw) := hf1
          clear hf1
          have HFIN : Hid _ := FIN
          clear FIN hks hnm hm hqw hrg
          go_wp2_with (first | (go_at_call 12; refine (word_any kk hvk _).mono ?_; rintro e w' ⟨rfl, rfl⟩; rw [← HQW.out]))
          go_roundw
          case rel => exact ⟨i + 1, nk, na, nc', by omega, by omega, by go_num, rfl, LS.to (((HLS.inc 1 (by omega) (by rw [HF0.out]; rfl)).inc qw hq70 (by simp [up, hq1]; rw [HF1.out])).alloc _) (by rw [HVN.out, if_neg h20, List.append_nil]) (fun q _ => HFIN.out q)⟩
          case measure => simp [intOf]; omega
      · have hnm : nd.name = [] := nm_no HFF.out (by rw [← HKK.out.1]; simpa using hm)
        have hse : sn = ⟨#[]⟩ := by rw [HSN.out, hnm]; rfl
        have hdn := dn_no hnm
        subst hse
        have HDN : Hid _ := hdn
        clear hnm hdn
        by_cases h30 : kk = 30
        · subst h30
          have ho : po = 20 ∨ po = 21 ∨ po = 22 := by have h1 := hrg.2.2.1; have h2 := hrg.2.2.2.1; simp [mayOf] at h1 h2; omega
          rcases ho with ho | ho | ho
          · as_aux_lemma =>
              subst ho
              have FIN : ∀ q, up (up (wS T.nodes i) 0) 56 q = wS T.nodes (i + 1) q := fun q => by
                rw [HWQ.out false 30 false 20 HDN.out rfl (by simp) (fun _ => rfl), up2 _ _ _ _ (by omega)]
                simp [wn, wordK, unK]
                try rw [Nat.add_assoc]
              obtain ⟨y0, z0⟩ := HLS.wa.cell 0 (by omega)
              have le0 := HLE.out 0
              obtain ⟨f0, hf0⟩ : ∃ f, f = wS T.nodes i 0 := ⟨_, rfl⟩
              rw [← hf0] at y0 le0
              have HF0 : Hid (f0 = wS T.nodes i 0) := hf0
              clear hf0
              obtain ⟨y1, z1⟩ := HLS.wa.cell 56 (by omega)
              have le1 := HLE.out 56
              obtain ⟨f1, hf1⟩ : ∃ f, f = wS T.nodes i 56 := ⟨_, rfl⟩
              rw [← hf1] at y1 le1
              have HF1 : Hid (f1 = wS T.nodes i 56) := hf1
              clear hf1
              have HFIN : Hid _ := FIN
              clear FIN hm hrg
              have hix := ix20
              go_wp2_with (first | (go_at_call 12; refine (word_any 30 hvk _).mono ?_; rintro e w' ⟨rfl, rfl⟩; rw [show ((wordK 30 : Nat) : Int) = 0 from rfl]))
              go_roundw
              case rel => exact ⟨i + 1, nk, na, nc', by omega, by omega, by go_num, rfl, LS.to (((HLS.inc 0 (by omega) (by rw [HF0.out]; rfl)).inc 56 (by omega) (by simp [up]; rw [HF1.out])).alloc _) (by rw [HVN.out, if_neg (by decide), List.append_nil]) (fun q _ => HFIN.out q)⟩
              case measure => simp [intOf]; omega
          · as_aux_lemma =>
              subst ho
              have FIN : ∀ q, up (up (wS T.nodes i) 0) 68 q = wS T.nodes (i + 1) q := fun q => by
                rw [HWQ.out false 30 false 21 HDN.out rfl (by simp) (fun _ => rfl), up2 _ _ _ _ (by omega)]
                simp [wn, wordK, unK]
                try rw [Nat.add_assoc]
              obtain ⟨y0, z0⟩ := HLS.wa.cell 0 (by omega)
              have le0 := HLE.out 0
              obtain ⟨f0, hf0⟩ : ∃ f, f = wS T.nodes i 0 := ⟨_, rfl⟩
              rw [← hf0] at y0 le0
              have HF0 : Hid (f0 = wS T.nodes i 0) := hf0
              clear hf0
              obtain ⟨y1, z1⟩ := HLS.wa.cell 68 (by omega)
              have le1 := HLE.out 68
              obtain ⟨f1, hf1⟩ : ∃ f, f = wS T.nodes i 68 := ⟨_, rfl⟩
              rw [← hf1] at y1 le1
              have HF1 : Hid (f1 = wS T.nodes i 68) := hf1
              clear hf1
              have HFIN : Hid _ := FIN
              clear FIN hm hrg
              have hix := ix21
              go_wp2_with (first | (go_at_call 12; refine (word_any 30 hvk _).mono ?_; rintro e w' ⟨rfl, rfl⟩; rw [show ((wordK 30 : Nat) : Int) = 0 from rfl]))
              go_roundw
              case rel => exact ⟨i + 1, nk, na, nc', by omega, by omega, by go_num, rfl, LS.to (((HLS.inc 0 (by omega) (by rw [HF0.out]; rfl)).inc 68 (by omega) (by simp [up]; rw [HF1.out])).alloc _) (by rw [HVN.out, if_neg (by decide), List.append_nil]) (fun q _ => HFIN.out q)⟩
              case measure => simp [intOf]; omega
          · as_aux_lemma =>
              subst ho
              have FIN : ∀ q, up (up (wS T.nodes i) 0) 62 q = wS T.nodes (i + 1) q := fun q => by
                rw [HWQ.out false 30 false 22 HDN.out rfl (by simp) (fun _ => rfl), up2 _ _ _ _ (by omega)]
                simp [wn, wordK, unK]
                try rw [Nat.add_assoc]
              obtain ⟨y0, z0⟩ := HLS.wa.cell 0 (by omega)
              have le0 := HLE.out 0
              obtain ⟨f0, hf0⟩ : ∃ f, f = wS T.nodes i 0 := ⟨_, rfl⟩
              rw [← hf0] at y0 le0
              have HF0 : Hid (f0 = wS T.nodes i 0) := hf0
              clear hf0
              obtain ⟨y1, z1⟩ := HLS.wa.cell 62 (by omega)
              have le1 := HLE.out 62
              obtain ⟨f1, hf1⟩ : ∃ f, f = wS T.nodes i 62 := ⟨_, rfl⟩
              rw [← hf1] at y1 le1
              have HF1 : Hid (f1 = wS T.nodes i 62) := hf1
              clear hf1
              have HFIN : Hid _ := FIN
              clear FIN hm hrg
              have hix := ix22
              go_wp2_with (first | (go_at_call 12; refine (word_any 30 hvk _).mono ?_; rintro e w' ⟨rfl, rfl⟩; rw [show ((wordK 30 : Nat) : Int) = 0 from rfl]))
              go_roundw
              case rel => exact ⟨i + 1, nk, na, nc', by omega, by omega, by go_num, rfl, LS.to (((HLS.inc 0 (by omega) (by rw [HF0.out]; rfl)).inc 62 (by omega) (by simp [up]; rw [HF1.out])).alloc _) (by rw [HVN.out, if_neg (by decide), List.append_nil]) (fun q _ => HFIN.out q)⟩
              case measure => simp [intOf]; omega
        · by_cases h31 : kk = 31
          · as_aux_lemma =>
              subst h31
              have ho1 : 1 ≤ po := by have h1 := hrg.2.2.1; simpa [mayOf] using h1
              have ho2 : po ≤ 19 := by have h1 := hrg.2.2.2.1; simpa [mayOf] using h1
              obtain ⟨hq70, hq1⟩ := opK_lt ho1 ho2
              have FIN : ∀ q, up (up (wS T.nodes i) 0) (opK po) q = wS T.nodes (i + 1) q := fun q => by
                rw [HWQ.out false 31 false po HDN.out rfl (by simp) (fun _ => rfl), up2 _ _ _ _ (by omega)]
                simp [wn, wordK]
                try rw [Nat.add_assoc]
              obtain ⟨qw, hqw⟩ : ∃ qw, qw = opK po := ⟨_, rfl⟩
              rw [← hqw] at FIN hq70 hq1
              have HQW : Hid (qw = opK po) := hqw
              have hq0 : ¬ qw = 0 := by omega
              have hq0' : ¬ 0 = qw := by omega
              obtain ⟨y0, z0⟩ := HLS.wa.cell 0 (by omega)
              have le0 := HLE.out 0
              obtain ⟨f0, hf0⟩ : ∃ f, f = wS T.nodes i 0 := ⟨_, rfl⟩
              rw [← hf0] at y0 le0
              have HF0 : Hid (f0 = wS T.nodes i 0) := hf0
              clear hf0
              obtain ⟨y1, z1⟩ := HLS.wa.cell qw (by omega)
              have le1 := HLE.out qw
              obtain ⟨f1, hf1⟩ : ∃ f, f = wS T.nodes i qw := ⟨_, rfl⟩
              rw [← hf1] at y1 le1
              have HF1 : Hid (f1 = wS T.nodes i qw) := hf1
              clear hf1
              have HFIN : Hid _ := FIN
              clear FIN hm hqw hrg hq1
              go_wp2_with (first
                | (go_at_call 12; refine (word_any 31 hvk _).mono ?_; rintro e w' ⟨rfl, rfl⟩; rw [show ((wordK 31 : Nat) : Int) = 0 from rfl])
                | (go_at_call 13; refine (operator_any po ho1 ho2 _).mono ?_; rintro e w9 ⟨rfl, hb9⟩; rw [← HQW.out]
                   have HL9 := LS.below ((HLS.inc 0 (by omega) (by rw [HF0.out]; rfl)).alloc _) hb9
                   obtain ⟨y9, z9⟩ := HL9.wa.cell qw hq70
                   have e9 : up (wS T.nodes i) 0 qw = f1 := by rw [HF1.out]; simp [up, hq0]
                   rw [e9] at y9
                   have e0 : w9.cell? ⟨wr.heap.size, 0, none⟩ = some (.int .i64 31) := cell_below hb9 (by simp [World.setCell]) (cell_new0 wr _ _ _ _ _)
                   have HE9 : Hid _ := e9
                   clear e9))
              go_roundw
              case rel => exact ⟨i + 1, nk, na, nc', by omega, by omega, by go_num, rfl, LS.to (HL9.inc qw hq70 (by rw [HE9.out]; rfl)) (by rw [HVN.out, if_neg (by decide), List.append_nil]) (fun q _ => HFIN.out q)⟩
              case measure => simp [intOf]; omega
          · by_cases h20 : kk = 20
            · as_aux_lemma =>
                subst h20
                have FIN : ∀ q, up (wS T.nodes i) 2 q = wS T.nodes (i + 1) q := fun q => by
                  rw [HWQ.out false 20 false 0 HDN.out rfl (by simp) (by intro h; omega), up1]
                  simp [wn, wordK]
                obtain ⟨y0, z0⟩ := HLS.wa.cell 2 (by omega)
                have le0 := HLE.out 2
                obtain ⟨f0, hf0⟩ : ∃ f, f = wS T.nodes i 2 := ⟨_, rfl⟩
                rw [← hf0] at y0 le0
                have HF0 : Hid (f0 = wS T.nodes i 2) := hf0
                clear hf0
                have HFIN : Hid _ := FIN
                clear FIN hm hrg
                go_wp2_with (first
                  | (go_at_call 12; refine (word_any 20 hvk _).mono ?_; rintro e w' ⟨rfl, rfl⟩; rw [show ((wordK 20 : Nat) : Int) = 2 from rfl])
                  | (at_builtin; refine wpList_append_intJ rfl _ _ rfl (w4.heap.size + 1) _ nk _ nd.val (wr.heap.size + 1) (by simp [World.setCell]) ?_ ((HLS.inc 2 (by omega) (by rw [HF0.out]; rfl)).alloc _).nu ?_ (by omega) (by simp [World.setCell]; omega) ?_; (next => rfl); (next => rfl); intro v8 w8 h8 hG8; have HL8 := LS.push ((HLS.inc 2 (by omega) (by rw [HF0.out]; rfl)).alloc _) h8 hG8; obtain ⟨na8, nc8, rfl⟩ := own_slice h8.out
                     have e0 : w8.cell? ⟨wr.heap.size, 0, none⟩ = some (.int .i64 20) := (World.cell?_of_block (hG8.blk wr.heap.size (by simp [World.setCell]) (fun e => by have := (own_block HLS.nu.out e).2; omega))).trans (cell_new0 wr _ _ _ _ _)))
                go_roundw
                case rel => exact ⟨i + 1, nk + 1, na8, nc8, by omega, by omega, by go_num, rfl, LS.to HL8 (by rw [HVN.out]; simp) (fun q _ => HFIN.out q)⟩
                case measure => simp [intOf]; omega
            · by_cases h10 : kk = 10
              · by_cases hkl3 : kl = 3
                · as_aux_lemma =>
                    subst h10
                    subst hkl3
                    have FIN : ∀ q, up (up (wS T.nodes i) 12) 13 q = wS T.nodes (i + 1) q := fun q => by
                      rw [HWQ.out false 10 true 0 HDN.out rfl (by simp) (by intro h; omega), up2 _ _ _ _ (by omega)]
                      by_cases h13 : q = 13
                      · subst h13; simp [wn, wordK]
                      · have h13' : ¬ 13 = q := fun h => h13 h.symm
                        simp [wn, wordK, h13, h13']
                    obtain ⟨y0, z0⟩ := HLS.wa.cell 12 (by omega)
                    have le0 := HLE.out 12
                    obtain ⟨f0, hf0⟩ : ∃ f, f = wS T.nodes i 12 := ⟨_, rfl⟩
                    rw [← hf0] at y0 le0
                    have HF0 : Hid (f0 = wS T.nodes i 12) := hf0
                    clear hf0
                    obtain ⟨y1, z1⟩ := HLS.wa.cell 13 (by omega)
                    have le1 := HLE.out 13
                    obtain ⟨f1, hf1⟩ : ∃ f, f = wS T.nodes i 13 := ⟨_, rfl⟩
                    rw [← hf1] at y1 le1
                    have HF1 : Hid (f1 = wS T.nodes i 13) := hf1
                    clear hf1
                    have HFIN : Hid _ := FIN
                    clear FIN hm hrg
                    go_wp2_with (first | (go_at_call 12; refine (word_any 10 hvk _).mono ?_; rintro e w' ⟨rfl, rfl⟩; rw [show ((wordK 10 : Nat) : Int) = 12 from rfl]))
                    go_roundw
                    case rel => exact ⟨i + 1, nk, na, nc', by omega, by omega, by go_num, rfl, LS.to (((HLS.inc 12 (by omega) (by rw [HF0.out]; rfl)).inc 13 (by omega) (by simp [up]; rw [HF1.out])).alloc _) (by rw [HVN.out, if_neg h20, List.append_nil]) (fun q _ => HFIN.out q)⟩
                    case measure => simp [intOf]; omega
                · as_aux_lemma =>
                    subst h10
                    have hkl3i : ¬ (kl : Int) = 3 := by omega
                    have FIN : ∀ q, up (wS T.nodes i) 12 q = wS T.nodes (i + 1) q := fun q => by
                      rw [HWQ.out false 10 false 0 HDN.out rfl (by simp [hkl3]) (by intro h; omega), up1]
                      simp [wn, wordK]
                    obtain ⟨y0, z0⟩ := HLS.wa.cell 12 (by omega)
                    have le0 := HLE.out 12
                    obtain ⟨f0, hf0⟩ : ∃ f, f = wS T.nodes i 12 := ⟨_, rfl⟩
                    rw [← hf0] at y0 le0
                    have HF0 : Hid (f0 = wS T.nodes i 12) := hf0
                    clear hf0
                    have HFIN : Hid _ := FIN
                    clear FIN hm hrg
                    go_wp2_with (first | (go_at_call 12; refine (word_any 10 hvk _).mono ?_; rintro e w' ⟨rfl, rfl⟩; rw [show ((wordK 10 : Nat) : Int) = 12 from rfl]))
                    go_roundw
                    case rel => exact ⟨i + 1, nk, na, nc', by omega, by omega, by go_num, rfl, LS.to ((HLS.inc 12 (by omega) (by rw [HF0.out]; rfl)).alloc _) (by rw [HVN.out, if_neg h20, List.append_nil]) (fun q _ => HFIN.out q)⟩
                    case measure => simp [intOf]; omega
              · as_aux_lemma =>
                  have FIN : ∀ q, up (wS T.nodes i) (wordK kk) q = wS T.nodes (i + 1) q := fun q => by
                    rw [HWQ.out false kk false 0 HDN.out rfl (by simp [h10]) (by intro h; omega), up1]
                    simp only [wn]
                    simp [h30, h31]
                  have hq70 := wordK_lt kk
                  obtain ⟨qw, hqw⟩ : ∃ qw, qw = wordK kk := ⟨_, rfl⟩
                  rw [← hqw] at FIN hq70
                  have HQW : Hid (qw = wordK kk) := hqw
                  obtain ⟨y0, z0⟩ := HLS.wa.cell qw (by omega)
                  have le0 := HLE.out qw
                  obtain ⟨f0, hf0⟩ : ∃ f, f = wS T.nodes i qw := ⟨_, rfl⟩
                  rw [← hf0] at y0 le0
                  have HF0 : Hid (f0 = wS T.nodes i qw) := hf0
                  clear hf0
                  have HFIN : Hid _ := FIN
                  clear FIN hm hqw hrg
                  go_wp2_with (first | (go_at_call 12; refine (word_any kk hvk _).mono ?_; rintro e w' ⟨rfl, rfl⟩; rw [← HQW.out]))
                  go_roundw
                  case rel => exact ⟨i + 1, nk, na, nc', by omega, by omega, by go_num, rfl, LS.to ((HLS.inc qw hq70 (by rw [HF0.out]; rfl)).alloc _) (by rw [HVN.out, if_neg h20, List.append_nil]) (fun q _ => HFIN.out q)⟩
                  case measure => simp [intOf]; omega
    · --LOOP2
      have hin : i = nn := by omega
      subst hin
      have hbwr : Below w.heap.size w wr := hbw4.trans (hbr.mono hbw4.size)
      have eV : vals (T.nodes.take i) = vals T.nodes := by rw [List.take_of_length_le (by have := HH.out.1; omega)]
      have eW : ∀ q, wS T.nodes i q = (T.nodes.map fun n => wq n q).sum := fun q => by unfold wS; rw [List.take_of_length_le (by have := HH.out.1; omega)]
      have HEW : Hid _ := eW
      have hNU := HLS.nu
      rw [eV] at hNU
      have HVL : Hid (nk = (vals T.nodes).length) := hNU.len
      obtain ⟨_, _, eN, hn1', hn2', hNI, _⟩ := hNU.view
      cases eN
      have HNI : Hid _ := hNI
      have HTV : Hid (TokV wr ta ts) := hTV.below hbr (Nat.le_refl _)
      have HTW : Hid (TokV w4 ta ts) := hTV
      have HWA : Hid (WA wr w4.heap.size (wS T.nodes i)) := HLS.wa
      have hgl := HLS.wa.lt
      have hn4 : nk ≤ 120000 := by omega
      clear eV eW hNU hNI hTV HLS hlt hi
      obtain ⟨wo, rfl⟩ : ∃ wo, wo = wr := ⟨_, rfl⟩
      go_wp2_with fail
      go_loopw [14, 15] (fun kw iv wr => ∃ (j k : Nat), j ≤ tl ∧ iv = .int .i64 j ∧ kw = .int .i64 k ∧ Hid (k = (nums ((ts.take j).map kv)).length) ∧ k ≤ nk ∧ WA wr wo.heap.size (fun q => cnt q ((ts.take j).map kv)) ∧ Below wo.heap.size wo wr) (fun _ iv _ => tl - (intOf iv).toNat)
      case atStart => exact ⟨0, 0, by omega, rfl, rfl, by simp [Hid, nums], by omega, ⟨⟨_, heap_alloc_last _ _, rfl, fun q hq => by show (Array.replicate 70 (Value.int .i64 0))[q]? = _; simp [hq, cnt]⟩⟩, (Below.refl _ _).alloc (Nat.le_refl _) _⟩
      case round =>
        obtain ⟨j, k, hj, rfl, rfl, HK, hkn, HWX, hbx⟩ := hrel
        have hsx := hbx.size
        have htl : tl ≤ 9223372036854775807 := by omega
        by_cases hlt : j < tl
        · have hjt : j < ts.length := by have := HTL2.out; omega
          obtain ⟨tg, rfl, htg, hTC⟩ := (HTV.out.below hbx (Nat.le_refl _)).out (by intro e; simp [e] at hjt)
          obtain ⟨t0, t1, t2, t3⟩ := hTC j hjt
          have htg2 : tg < wo.heap.size := by
            obtain ⟨tg2, e, h2, _⟩ := HTV.out.out (by intro e; simp [e] at hjt)
            cases e; exact h2
          have hrgk := HWT.out.rg ts[j] (List.getElem_mem hjt)
          obtain ⟨Q, hQ⟩ : ∃ Q : Nat, ts[j].kind = (Q : Int) := ⟨ts[j].kind.toNat, by omega⟩
          rw [hQ] at t0 hrgk
          obtain ⟨hQ1, hQ2⟩ := hrgk
          have hQ3 : Q < 70 := by omega
          have hQ4 : 1 ≤ Q := by omega
          obtain ⟨tv, htv⟩ : ∃ v, v = ts[j].val := ⟨_, rfl⟩
          rw [← htv] at t2
          have CN : ∀ q, cnt q ((ts.take (j + 1)).map kv) = cnt q ((ts.take j).map kv) + if Q = q then 1 else 0 := fun q => by
            rw [cnt_next hjt, hQ]
            by_cases h : Q = q
            · subst h; simp
            · rw [if_neg (by omega), if_neg h]
          have HNA : Hid (Q = 2 → k < (vals T.nodes).length ∧ ∀ h : k < (vals T.nodes).length, (vals T.nodes)[k] = tv) := fun h => by
            have := nums_at HWT.out.ns hjt (by rw [hQ, h]; rfl) HK.out
            rw [← htv] at this
            exact this
          have NN := nums_next hjt
          rw [hQ, ← htv] at NN
          have HCN : Hid _ := CN
          have HNN : Hid _ := NN
          obtain ⟨y0, z0⟩ := HWX.cell Q hQ3
          obtain ⟨f0, hf0⟩ : ∃ f, f = cnt Q ((ts.take j).map kv) := ⟨_, rfl⟩
          have le0 : f0 ≤ j := by
            have h := cnt_le Q ((ts.take j).map kv)
            rw [List.length_map, List.length_take] at h
            omega
          rw [← hf0] at y0
          have HF0 : Hid (f0 = cnt Q ((ts.take j).map kv)) := hf0
          have hxl : wo.heap.size < wr.heap.size := HWX.lt
          have FIN : WA (wr.setCell ⟨wo.heap.size, Q, none⟩ (.int .i64 ((f0 : Int) + 1))) wo.heap.size (fun q => cnt q ((ts.take (j + 1)).map kv)) := (HWX.inc Q hQ3 (by rw [HF0.out]; rfl)).to fun q _ => by rw [up1, HCN.out q]
          have HFIN : Hid _ := FIN
          have hne1 : ¬ tg = wo.heap.size := by omega
          clear CN NN hf0 hQ htv hTC t1 t3 FIN hjt
          by_cases h2 : Q = 2
          · as_aux_lemma =>
              subst h2
              obtain ⟨hkn1, hval⟩ := HNA.out rfl
              have hkn2 : k < nk := by have := HVL.out; omega
              obtain ⟨ng, no', rfl, hNA⟩ := HNI.out.out (by intro e; have := HVL.out; simp [e] at this; omega)
              have n0 := hNA.cell k hkn1
              rw [hval hkn1] at n0
              have hngl := hNA.lt
              have n1 : wr.cell? ⟨ng, no' + k, none⟩ = some (.int .i64 tv) := cell_below hbx hngl n0
              have hne2 : ¬ ng = wo.heap.size := by omega
              have hki : ¬ (k : Int) = (nk : Int) := by omega
              have hkd : decide ((k : Int) = (nk : Int)) = false := by simp; omega
              clear n0 hval hNA
              go_wp2_with fail
              go_quiet (fail)
              go_wp2_with fail
              go_roundw
              case rel => exact ⟨j + 1, k + 1, by omega, by go_num, by go_num, (by show k + 1 = _; rw [HNN.out, if_pos (show ((2 : Nat) : Int) = 2 from rfl), List.length_append, ← HK.out]; rfl), by omega, WA.keep HFIN.out (by simp), below_drewN (hbx.setCell (p := ⟨wo.heap.size, 2, none⟩) (Nat.le_refl _) _) _⟩
              case measure => simp [intOf]; omega
          · as_aux_lemma =>
              have h2i : ¬ (Q : Int) = 2 := by omega
              go_wp2_with fail
              go_roundw
              case rel => exact ⟨j + 1, k, by omega, by go_num, rfl, (by show k = _; rw [HNN.out, if_neg h2i, List.append_nil]; exact HK.out), by omega, HFIN.out, hbx.setCell (p := ⟨wo.heap.size, Q, none⟩) (Nat.le_refl _) _⟩
              case measure => simp [intOf]; omega
        · have hjt : j = tl := by omega
          have eT : ts.take j = ts := List.take_of_length_le (by have := HTL2.out; omega)
          rw [eT] at HWX HK
          have hkk : k = nk := by
            have h1 := HK.out
            rw [HWT.out.ns] at h1
            have := HVL.out
            omega
          subst hkk
          have hWw : WA wr w4.heap.size (wS T.nodes i) := HWA.out.keep (hbx.block _ hgl)
          have HEQ : Hid (∀ q, CT q = true → cnt q (ts.map kv) = wS T.nodes i q) := fun q hq => by rw [HWT.out.ct q hq, HEW.out q]
          have HP : Hid (cnt 40 (ts.map kv) = cnt 41 (ts.map kv) ∧ cnt 42 (ts.map kv) = cnt 43 (ts.map kv) ∧ cnt 44 (ts.map kv) = cnt 45 (ts.map kv)) := ⟨HWT.out.p1, HWT.out.p2, HWT.out.p3⟩
          have HBX : Hid (Below w.heap.size w wr) := hbwr.trans (hbx.mono hbwr.size)
          obtain ⟨wp, rfl⟩ : ∃ wp, wp = wr := ⟨_, rfl⟩
          have HHW : Hid (WA wp wo.heap.size (fun q => cnt q (ts.map kv))) := HWX
          have HHV : Hid (WA wp w4.heap.size (wS T.nodes i)) := hWw
          have hl1 := HWX.lt
          have hl2 := hWw.lt
          clear HWX hWw eT hjt
          go_wp2_with fail
          go_loopw [16] (fun iv wr => ∃ (q n : Nat), 1 ≤ q ∧ q ≤ 70 ∧ iv = .int .i64 q ∧ wr = wp.drewN n) (fun iv _ => 70 - (intOf iv).toNat)
          case atStart => exact ⟨1, 0, by omega, by omega, rfl, rfl⟩
          case round =>
            obtain ⟨q, n, hq1, hq2, rfl, rfl⟩ := hrel
            by_cases hq : q < 70
            · obtain ⟨x0, _⟩ := HHW.out.cell q hq
              obtain ⟨y0, _⟩ := HHV.out.cell q hq
              have hcase : (q ≤ 22 ∧ q ≠ 13) ∨ q = 13 ∨ (23 ≤ q ∧ q ≤ 24) ∨ (25 ≤ q ∧ q ≤ 27) ∨ (28 ≤ q ∧ q ≤ 41) ∨ q = 42 ∨ (43 ≤ q ∧ q ≤ 48) ∨ (49 ≤ q ∧ q ≤ 68) ∨ q = 69 := by omega
              rcases hcase with hc | hc | hc | hc | hc | hc | hc | hc | hc
              · as_aux_lemma =>
                  have a0 : (q : Int) ≤ 22 := by omega
                  have a1 : ¬ (q : Int) = 13 := by omega
                  have hct := HEQ.out q (by simp [CT]; omega)
                  rw [hct] at x0
                  clear hct
                  go_wp2_with fail
                  go_quiet (fail)
                  go_wp2_with fail
                  go_roundw
                  case rel => exact ⟨q + 1, _, by omega, by omega, by go_num, by first | rfl | exact World.drewN_drewN _ _ _⟩
                  case measure => simp [intOf]; omega
              · as_aux_lemma =>
                  subst hc
                  have hct := HEQ.out 13 (by decide)
                  rw [hct] at x0
                  clear hct
                  go_wp2_with fail
                  go_quiet (fail)
                  go_wp2_with fail
                  go_roundw
                  case rel => exact ⟨13 + 1, _, by omega, by omega, by go_num, by first | rfl | exact World.drewN_drewN _ _ _⟩
                  case measure => simp [intOf]
              · as_aux_lemma =>
                  have a0 : ¬ (q : Int) ≤ 22 := by omega
                  have a1 : ¬ 25 ≤ (q : Int) := by omega
                  have a2 : ¬ (q : Int) = 42 := by omega
                  have a3 : ¬ 49 ≤ (q : Int) := by omega
                  have a4 : ¬ (q : Int) = 13 := by omega
                  go_wp2_with fail
                  go_quiet (fail)
                  go_wp2_with fail
                  go_roundw
                  case rel => exact ⟨q + 1, _, by omega, by omega, by go_num, by first | rfl | exact World.drewN_drewN _ _ _⟩
                  case measure => simp [intOf]; omega
              · as_aux_lemma =>
                  have a0 : ¬ (q : Int) ≤ 22 := by omega
                  have a1 : 25 ≤ (q : Int) := by omega
                  have a2 : (q : Int) ≤ 27 := by omega
                  have hct := HEQ.out q (by simp [CT]; omega)
                  rw [hct] at x0
                  clear hct
                  go_wp2_with fail
                  go_quiet (fail)
                  go_wp2_with fail
                  go_roundw
                  case rel => exact ⟨q + 1, _, by omega, by omega, by go_num, by first | rfl | exact World.drewN_drewN _ _ _⟩
                  case measure => simp [intOf]; omega
              · as_aux_lemma =>
                  have a0 : ¬ (q : Int) ≤ 22 := by omega
                  have a1 : 25 ≤ (q : Int) := by omega
                  have a2 : ¬ (q : Int) ≤ 27 := by omega
                  have a3 : ¬ (q : Int) = 42 := by omega
                  have a4 : ¬ 49 ≤ (q : Int) := by omega
                  have a5 : ¬ (q : Int) = 13 := by omega
                  go_wp2_with fail
                  go_quiet (fail)
                  go_wp2_with fail
                  go_roundw
                  case rel => exact ⟨q + 1, _, by omega, by omega, by go_num, by first | rfl | exact World.drewN_drewN _ _ _⟩
                  case measure => simp [intOf]; omega
              · as_aux_lemma =>
                  subst hc
                  have hct := HEQ.out 42 (by decide)
                  rw [hct] at x0
                  clear hct
                  go_wp2_with fail
                  go_quiet (fail)
                  go_wp2_with fail
                  go_roundw
                  case rel => exact ⟨42 + 1, _, by omega, by omega, by go_num, by first | rfl | exact World.drewN_drewN _ _ _⟩
                  case measure => simp [intOf]
              · as_aux_lemma =>
                  have a0 : ¬ (q : Int) ≤ 22 := by omega
                  have a1 : 25 ≤ (q : Int) := by omega
                  have a2 : ¬ (q : Int) ≤ 27 := by omega
                  have a3 : ¬ (q : Int) = 42 := by omega
                  have a4 : ¬ 49 ≤ (q : Int) := by omega
                  have a5 : ¬ (q : Int) = 13 := by omega
                  go_wp2_with fail
                  go_quiet (fail)
                  go_wp2_with fail
                  go_roundw
                  case rel => exact ⟨q + 1, _, by omega, by omega, by go_num, by first | rfl | exact World.drewN_drewN _ _ _⟩
                  case measure => simp [intOf]; omega
              · as_aux_lemma =>
                  have a0 : ¬ (q : Int) ≤ 22 := by omega
                  have a1 : 25 ≤ (q : Int) := by omega
                  have a2 : ¬ (q : Int) ≤ 27 := by omega
                  have a3 : ¬ (q : Int) = 42 := by omega
                  have a4 : 49 ≤ (q : Int) := by omega
                  have a5 : ¬ (q : Int) = 69 := by omega
                  have hct := HEQ.out q (by simp [CT]; omega)
                  rw [hct] at x0
                  clear hct
                  go_wp2_with fail
                  go_quiet (fail)
                  go_wp2_with fail
                  go_roundw
                  case rel => exact ⟨q + 1, _, by omega, by omega, by go_num, by first | rfl | exact World.drewN_drewN _ _ _⟩
                  case measure => simp [intOf]; omega
              · as_aux_lemma =>
                  subst hc
                  go_wp2_with fail
                  go_quiet (fail)
                  go_wp2_with fail
                  go_roundw
                  case rel => exact ⟨69 + 1, _, by omega, by omega, by go_num, by first | rfl | exact World.drewN_drewN _ _ _⟩
                  case measure => simp [intOf]
            · as_aux_lemma =>
                have hq70 : q = 70 := by omega
                subst hq70
                obtain ⟨x0, _⟩ := HHW.out.cell 40 (by omega)
                obtain ⟨x1, _⟩ := HHW.out.cell 41 (by omega)
                obtain ⟨x2, _⟩ := HHW.out.cell 42 (by omega)
                obtain ⟨x3, _⟩ := HHW.out.cell 43 (by omega)
                obtain ⟨x4, _⟩ := HHW.out.cell 44 (by omega)
                obtain ⟨x5, _⟩ := HHW.out.cell 45 (by omega)
                rw [← HP.out.1] at x1
                rw [← HP.out.2.1] at x3
                rw [← HP.out.2.2] at x5
                go_wp2_with fail
                go_ret
                exact ⟨rfl, below_drewN HBX.out _⟩
end Go.Proofs.YtjepkcebfojiaaaDoor
