import Derived.Test.YtpgbkkllnbahpaaScY
import Derived.Test.YtpgbkkllnbahpaaSoB
set_option linter.unusedVariables false
set_option linter.unusedSimpArgs false
namespace Go.Proofs.Ytpgbkkllnbahpaa
open Go.ChangeShapes Go.WideShapes Go.ChangeAt Go.RowKit Go.Maps

theorem row_pre {w : World} {B g n k : Nat} {L R : List Iv} (h : Row w B 35 3 (.slice (some ⟨g, 0, none⟩) n k) ((L ++ R).map vc)) (hn : n = (L ++ R).length) (hf : ∀ x ∈ L, FitV x) : Ivs w (some ⟨g, 0, none⟩) k L := by
  obtain ⟨_, _, _, e, _, h1, h2⟩ := row_sl h
  cases e
  refine ⟨by rw [hn] at h1; simp at h1; omega, h2, hf, fun _ => ⟨g, 0, rfl, (own_block h.out (g := g) rfl).2, fun i hi => ?_⟩⟩
  have := row_vc h hn (k := i) (by simp; omega)
  rw [List.getElem_append_left hi] at this
  simpa using this
theorem scanG_any (w : World) (ao : Option Addr) (n c : Nat) (S : List Iv) (hn : n = S.length) (h : Ivs w ao c S) (hS : Srt S) (r : Nat) (h1 : 1 ≤ r) (h8 : r ≤ 8) (hl : n ≤ 90000000) : Calls Try.prog 11 #[.slice ao n c, .int .i64 (r : Int)] w fun e w' => ∃ po pk, e = .returned (.tuple #[.slice po (scn S r).pl.length pk, .int .i64 ((scn S r).sl : Int), .int .i64 0]) ∧ Row w' w.heap.size 37 2 (.slice po (scn S r).pl.length pk) ((scn S r).pl.map lc) ∧ Below w.heap.size w w' := by
  refine (scan_any w ao n c S hn h r hl).mono ?_
  rintro e w' ⟨v, m, x, rfl, A⟩
  obtain ⟨q1, q2, q3⟩ := A.good (by omega) hS.good
  rw [Int.toNat_natCast] at q1 q2
  obtain ⟨po, pn, pk, rfl, e2, _, _⟩ := row_sl q1
  simp at e2
  subst e2 q2 q3
  exact ⟨po, pk, rfl, q1, A.bel⟩
/-- lent, and then Scan. -/
theorem ls_any (w : World) (ao : Option Addr) (n c : Nat) (S : List Iv) (hn : n = S.length) (h : Ivs w ao c S) (hS : Srt S) (hl : n ≤ 3000) :
    Calls Try.prog 10 #[.slice ao n c] w fun e w' => ∃ g k, e = .returned (.slice (some ⟨g, 0, none⟩) n k) ∧ Ivs w' (some ⟨g, 0, none⟩) k S ∧ Below w.heap.size w w' := by
  refine (lent_any w ao n c S hn h (by omega)).mono ?_
  rintro e w' ⟨g, k, rfl, R, hb⟩
  exact ⟨g, k, rfl, row_pre R (by simp [hn]) h.fit, hb⟩
theorem cnt_step {S : List Iv} {j : Nat} (h : j < S.length) (p : Iv → Bool) : (((S.take (j + 1)).filter p).length : Int) = ((S.take j).filter p).length + (if p S[j] = true then 1 else 0) := by
  rw [← List.take_append_getElem h, List.filter_append]
  cases e : p S[j] <;> simp [e]
set_option maxRecDepth 100000 in
set_option maxHeartbeats 8000000 in
theorem scanFew_any (w : World) (ao : Option Addr) (n c : Nat) (L : List Iv) (hn : n = L.length) (h : Ivs w ao c L) (regs : Int) : Calls Try.prog 6 #[.slice ao n c, .int .i64 regs] w fun e w' => e = .returned (.bool true) ∧ Below w.heap.size w w' := by
  have HN : Hid (n = L.length) := hn
  have HH : Hid (Ivs w ao c L) := h
  have HAL : Hid (Calls Try.prog 9 #[] w fun e w' => e = .returned (.bool true) ∧ Below w.heap.size w w') := alive_any w
  by_cases hr : regs < 1
  · clear h hn
    go_enter Try.func6, Try.ntmps6
    go_wp2_with (go_at_call 9; refine Calls.mono HAL.out ?_; rintro e w1 ⟨rfl, hb1⟩; have HB1 : Hid (Below w.heap.size w w1) := hb1; clear hb1)
    go_ret
    exact ⟨rfl, HB1.out⟩
  by_cases hr8 : 8 < regs
  · clear h hn
    go_enter Try.func6, Try.ntmps6
    go_wp2_with (go_at_call 9; refine Calls.mono HAL.out ?_; rintro e w1 ⟨rfl, hb1⟩; have HB1 : Hid (Below w.heap.size w w1) := hb1; clear hb1)
    go_ret
    exact ⟨rfl, HB1.out⟩
  obtain ⟨r, hrr⟩ : ∃ r : Nat, regs = (r : Int) := ⟨regs.toNat, by omega⟩
  subst hrr
  have HR : Hid (1 ≤ r ∧ r ≤ 8) := ⟨by omega, by omega⟩
  have t1 : decide ((r : Int) < 1) = false := by simp; omega
  have t2 : decide ((8 : Int) < (r : Int)) = false := by simp; omega
  have HSO : Hid (∀ W, Below w.heap.size w W → Calls Try.prog 15 #[.slice ao n c] W fun e w' => ∃ S v, e = .returned v ∧ Row w' W.heap.size 35 3 v (S.map vc) ∧ Srt S ∧ S.length ≤ 3000 ∧ Below W.heap.size W w') := fun W hW => sorted_any W ao n c L hn (h.below hW (Nat.le_refl _))
  clear h hn hr hr8
  go_enter Try.func6, Try.ntmps6
  go_wp2_with (first
    | (go_at_call 15; refine Calls.mono (HSO.out w1 HB1.out) ?_; rintro e w2 ⟨S, v2, rfl, R2, hS, hS3, hb2⟩; have HB2 : Hid (Below w.heap.size w w2) := HB1.out.trans (hb2.mono HB1.out.size); have HS : Hid (Srt S) := hS; obtain ⟨so, sc, rfl, hI⟩ := row_ivs R2 hS.fit; have HI : Hid (Ivs w2 so sc S) := hI; have hsc : S.length ≤ sc := hI.le; have hscm : sc ≤ 9223372036854775807 := hI.mx; clear R2 hb2 hS hI)
    | (go_at_call 9; refine Calls.mono HAL.out ?_; rintro e w1 ⟨rfl, hb1⟩; have HB1 : Hid (Below w.heap.size w w1) := hb1; clear hb1))
  obtain ⟨sn, hsn⟩ : ∃ sn, sn = S.length := ⟨_, rfl⟩
  have HSN : Hid (sn = S.length) := hsn
  rw [← hsn] at hS3 hsc ⊢
  clear hsn HSO HAL t1 t2
  go_loopw [7, 8] (fun u v wr => ∃ (k : Nat) (mk : Nat), k ≤ sn ∧ mk ≤ sn ∧ v = .int .i64 k ∧ u = .int .i64 mk ∧ Hid (∀ i (hi : i < S.length), i < k → (atP S S[i]).length ≤ mk) ∧ Hid (mk = 0 ∨ ∃ i, ∃ hi : i < S.length, i < k ∧ mk = (atP S S[i]).length) ∧ Hid (Below w2.heap.size w2 wr)) (fun _ v _ => sn - (intOf v).toNat)
  case atStart => exact ⟨0, 0, by omega, by omega, rfl, rfl, fun i _ h => by omega, .inl rfl, Below.refl _ _⟩
  case round =>
    obtain ⟨k, mk, hk, hmk, rfl, rfl, HE, HM, HB⟩ := hrel
    obtain ⟨wq, rfl⟩ : ∃ wq, wq = wr := ⟨_, rfl⟩
    by_cases hlt : k < sn
    · have hk2 : k < S.length := by have := HSN.out; omega
      go_wp2_with fail
      go_loopw [9, 10] (fun u v wr => ∃ j : Nat, j ≤ sn ∧ v = .int .i64 j ∧ u = .int .i64 (((S.take j).filter fun y => decide (y.2.1 ≤ S[k].2.1) && decide (S[k].2.1 ≤ y.2.2)).length : Int) ∧ Hid (Below w2.heap.size w2 wr)) (fun _ v _ => sn - (intOf v).toNat)
      case atStart => exact ⟨0, by omega, rfl, rfl, HB.out⟩
      case round =>
        obtain ⟨j, hj, rfl, rfl, HBJ⟩ := hrel
        obtain ⟨wz, rfl⟩ : ∃ wz, wz = wr := ⟨_, rfl⟩
        by_cases hjl : j < sn
        · have hj2 : j < S.length := by have := HSN.out; omega
          obtain ⟨b, o, rfl, hbw, c0, c1, c2⟩ := (HI.out.below HBJ.out (Nat.le_refl _)).at hk2
          obtain ⟨_, _, e, _, d0, d1, d2⟩ := (HI.out.below HBJ.out (Nat.le_refl _)).at hj2
          cases e
          have HC : Hid (_ = _) := cnt_step hj2 (fun y => decide (y.2.1 ≤ S[k].2.1) && decide (S[k].2.1 ≤ y.2.2))
          have hcl : ((S.take j).filter fun y => decide (y.2.1 ≤ S[k].2.1) && decide (S[k].2.1 ≤ y.2.2)).length ≤ 3000 := by
            have := List.length_filter_le (fun y : Iv => decide (y.2.1 ≤ S[k].2.1) && decide (S[k].2.1 ≤ y.2.2)) (S.take j)
            simp at this
            omega
          have HW2 : Hid (∀ q, Below w2.heap.size w2 (wz.drewN q)) := fun q => below_dn HBJ.out q
          obtain ⟨ct, hct⟩ : ∃ ct, ct = ((S.take j).filter fun y => decide (y.2.1 ≤ S[k].2.1) && decide (S[k].2.1 ≤ y.2.2)).length := ⟨_, rfl⟩
          rw [← hct] at hcl HC ⊢
          by_cases q1 : S[j].2.1 ≤ S[k].2.1
          · by_cases q2 : S[k].2.1 ≤ S[j].2.2
            · have HC2 : Hid ((((S.take (j + 1)).filter fun y => decide (y.2.1 ≤ S[k].2.1) && decide (S[k].2.1 ≤ y.2.2)).length : Int) = (ct : Int) + 1) := by rw [HC.out]; simp [Hid, q1, q2]
              clear HC hct
              go_wp2_with fail
              go_quiet (fail)
              go_wp2_with fail
              go_roundw
              case rel => exact ⟨j + 1, by omega, by go_num, by first | (rw [HC2.out]; done) | (rw [HC2.out]; rfl) | (rw [HC2.out]; go_num), HW2.out _⟩
              case measure => simp [intOf]; omega
            · have HC2 : Hid ((((S.take (j + 1)).filter fun y => decide (y.2.1 ≤ S[k].2.1) && decide (S[k].2.1 ≤ y.2.2)).length : Int) = (ct : Int)) := by rw [HC.out]; simp [Hid, q2]
              have q3 : decide (S[k].2.1 ≤ S[j].2.2) = false := by simp; omega
              clear HC hct
              go_wp2_with fail
              go_quiet (fail)
              go_wp2_with fail
              go_roundw
              case rel => exact ⟨j + 1, by omega, by go_num, by rw [HC2.out], HW2.out _⟩
              case measure => simp [intOf]; omega
          · have HC2 : Hid ((((S.take (j + 1)).filter fun y => decide (y.2.1 ≤ S[k].2.1) && decide (S[k].2.1 ≤ y.2.2)).length : Int) = (ct : Int)) := by rw [HC.out]; simp [Hid, q1]
            have q3 : decide (S[j].2.1 ≤ S[k].2.1) = false := by simp; omega
            clear HC hct
            go_wp2_with fail
            go_quiet (fail)
            go_wp2_with fail
            go_roundw
            case rel => exact ⟨j + 1, by omega, by go_num, by rw [HC2.out], HW2.out _⟩
            case measure => simp [intOf]; omega
        · obtain rfl : j = sn := by omega
          have HT : Hid (((S.take j).filter fun y => decide (y.2.1 ≤ S[k].2.1) && decide (S[k].2.1 ≤ y.2.2)).length = (atP S S[k]).length) := by
            show _ = _
            rw [List.take_of_length_le (by have := HSN.out; omega)]
            rfl
          rw [HT.out]
          have hle : (atP S S[k]).length ≤ j := by
            have := List.length_filter_le (fun y : Iv => decide (y.2.1 ≤ S[k].2.1) && decide (S[k].2.1 ≤ y.2.2)) S
            have := HSN.out
            unfold atP
            omega
          have HK : Hid (∃ hi : k < S.length, (atP S S[k]).length = (atP S S[k]).length) := ⟨hk2, rfl⟩
          obtain ⟨ct, hct⟩ : ∃ ct, ct = (atP S S[k]).length := ⟨_, rfl⟩
          have HCT : Hid (ct = (atP S S[k]).length) := hct
          rw [← hct] at hle ⊢
          have HE2 : Hid (∀ i (hi : i < S.length), i < k + 1 → (atP S S[i]).length ≤ max mk ct) := fun i h1 h2 => by
            rcases Nat.lt_succ_iff_lt_or_eq.1 h2 with q | rfl
            · have := HE.out i h1 q; omega
            · omega
          have HM2 : Hid (max mk ct = 0 ∨ ∃ i, ∃ hi : i < S.length, i < k + 1 ∧ max mk ct = (atP S S[i]).length) := by
            by_cases q : mk ≤ ct
            · exact .inr ⟨k, hk2, by omega, by omega⟩
            · rcases HM.out with q2 | ⟨i, h1, h2, h3⟩
              · omega
              · exact .inr ⟨i, h1, by omega, by omega⟩
          clear hct
          have hmx : max (mk : Int) (ct : Int) = ((max mk ct : Nat) : Int) := by omega
          go_wp2_with fail
          go_roundw
          case rel => exact ⟨k + 1, max mk ct, by omega, by omega, by go_num, by first | rfl | (congr 1; omega), HE2.out, HM2.out, HBJ.out⟩
          case measure => simp [intOf]; omega
    · obtain rfl : k = sn := by omega
      have HFEW : Hid ((scn S r).sl = 0 ↔ mk ≤ r) := by
        show _ ↔ _
        rw [few_iff HS.out r]
        constructor
        · intro q
          rcases HM.out with q2 | ⟨i, h1, h2, h3⟩
          · omega
          · rw [h3]; exact q _ (List.getElem_mem h1)
        · intro q x hx
          obtain ⟨i, hi, rfl⟩ := List.getElem_of_mem hx
          have := HE.out i hi (by have := HSN.out; omega)
          omega
      have HLS : Hid (Calls Try.prog 10 #[.slice so k sc] wq fun e w' => ∃ g q, e = .returned (.slice (some ⟨g, 0, none⟩) k q) ∧ Ivs w' (some ⟨g, 0, none⟩) q S ∧ Below wq.heap.size wq w') := ls_any wq so k sc S HSN.out (HI.out.below HB.out (Nat.le_refl _)) HS.out hS3
      have HBQ : Hid (Below w.heap.size w wq) := HB2.out.trans (HB.out.mono HB2.out.size)
      clear HE HM HB
      obtain ⟨sl, hsl⟩ : ∃ sl, sl = (scn S r).sl := ⟨_, rfl⟩
      have HSL : Hid (sl = (scn S r).sl) := hsl
      clear hsl
      have fin : ∀ (w' : World), Below w.heap.size w w' → (Ending.returned (Value.bool (((sl : Int) == 0) == decide (mk ≤ r))) = .returned (.bool true) ∧ Below w.heap.size w w') := fun w' hb => by
        refine ⟨?_, hb⟩
        have := HFEW.out
        rw [← HSL.out] at this
        have e : (((sl : Int) == 0) == decide (mk ≤ r)) = true := by
          by_cases q : sl = 0
          · have q2 := this.1 q
            have e1 : ((sl : Int) == 0) = true := by simp [q]
            have e2 : decide (mk ≤ r) = true := by simp; omega
            rw [e1, e2]; rfl
          · have q2 : ¬ mk ≤ r := fun h => q (this.2 h)
            have e1 : ((sl : Int) == 0) = false := by simp; omega
            have e2 : decide (mk ≤ r) = false := by simp; omega
            rw [e1, e2]; rfl
        rw [e]
      have HFI : Hid _ := fin
      clear fin
      go_wp2_with (first
        | (go_at_call 11; refine Calls.mono (scanG_any w3 _ _ _ S HSN.out HI3.out HS.out r HR.out.1 HR.out.2 (by omega)) ?_; rintro e w4 ⟨po, pk, rfl, R4, hb4⟩; have HB4 : Hid (Below w.heap.size w w4) := HB3.out.trans (hb4.mono HB3.out.size); clear R4 hb4; rw [← HSL.out])
        | (go_at_call 10; refine Calls.mono HLS.out ?_; rintro e w3 ⟨g, q, rfl, hI3, hb3⟩; have HB3 : Hid (Below w.heap.size w w3) := HBQ.out.trans (hb3.mono HBQ.out.size); have HI3 : Hid (Ivs w3 (some ⟨g, 0, none⟩) q S) := hI3; clear hb3 hI3))
      go_ret
      exact HFI.out _ HB4.out
end Go.Proofs.Ytpgbkkllnbahpaa
