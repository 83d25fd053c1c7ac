import Derived.Test.YtplpgeocidllfaaOrB
set_option linter.unusedVariables false
set_option linter.unusedSimpArgs false
namespace Go.Proofs.Ytplpgeocidllfaa
open Go.ChangeShapes Go.WideShapes Go.ChangeAt Go.RowKit Go.Maps

set_option maxHeartbeats 1000000 in
theorem sameO_any (w : World) (a1 a2 : Option Addr) (c1 c2 n1 n2 : Nat) (L1 L2 : List Int) (hn1 : n1 = L1.length) (hn2 : n2 = L2.length) (h1 : Ints w a1 c1 L1) (h2 : Ints w a2 c2 L2) :
    Calls Try.prog 14 #[.slice a1 n1 c1, .slice a2 n2 c2] w fun e w' => e = .returned (.bool (decide (L1 = L2))) ∧ Below w.heap.size w w' := by
  have b1 : n1 ≤ 9223372036854775807 := by have := h1.le; have := h1.mx; omega
  have b2 : n2 ≤ 9223372036854775807 := by have := h2.le; have := h2.mx; omega
  have HN1 : Hid (n1 = L1.length) := hn1
  have HN2 : Hid (n2 = L2.length) := hn2
  clear hn1 hn2
  obtain ⟨R, hR⟩ : ∃ R, R = decide (L1 = L2) := ⟨_, rfl⟩
  rw [← hR]
  have HR : Hid (R = decide (L1 = L2)) := hR
  have H1 : Hid (Ints w a1 c1 L1) := h1
  have H2 : Hid (Ints w a2 c2 L2) := h2
  clear hR h1 h2
  by_cases hne : n1 = n2
  · subst hne
    go_enter Try.func14, Try.ntmps14
    go_wp2_with fail
    go_loopw [5] (fun v wr => ∃ j : Nat, j ≤ n1 ∧ v = .int .i64 j ∧ Hid (Below w.heap.size w wr) ∧ Hid (L1.take j = L2.take j)) (fun v _ => n1 - (intOf v).toNat)
    case atStart => exact ⟨0, by omega, rfl, Below.refl _ _, rfl⟩
    case round =>
      obtain ⟨j, hj, rfl, HB, HT⟩ := hrel
      by_cases hlt : j < n1
      · have hj1 : j < L1.length := by have := HN1.out; omega
        have hj2 : j < L2.length := by have := HN2.out; omega
        obtain ⟨g1, o1, rfl, k1⟩ := (H1.out.below HB.out (Nat.le_refl _)).at hj1
        obtain ⟨g2, o2, rfl, k2⟩ := (H2.out.below HB.out (Nat.le_refl _)).at hj2
        obtain ⟨x, hx⟩ : ∃ x, x = L1[j] := ⟨_, rfl⟩
        obtain ⟨y, hy⟩ : ∃ y, y = L2[j] := ⟨_, rfl⟩
        rw [← hx] at k1
        rw [← hy] at k2
        have HX : Hid (x = L1[j]) := hx
        have HY : Hid (y = L2[j]) := hy
        clear hx hy
        by_cases hxy : x = y
        · subst hxy
          go_wp2_with fail
          go_quiet (fail)
          go_wp2_with fail
          go_roundw
          case rel =>
            refine ⟨j + 1, by omega, by go_num, ?_, ?_⟩
            · first | exact HB.out | exact HB.out.drew | exact below_drewN HB.out _
            · show _ = _
              rw [List.take_add_one, List.take_add_one, HT.out]
              simp [hj1, hj2, ← HX.out, ← HY.out]
          case measure => simp [intOf]; omega
        · have hf : R = false := by
            rw [HR.out]
            refine decide_eq_false fun e => hxy ?_
            rw [HX.out, HY.out]
            simp [e]
          subst hf
          go_wp2_with fail
          go_quiet (fail)
          go_wp2_with fail
          go_ret
          exact ⟨rfl, by first | exact HB.out | exact HB.out.drew | exact below_drewN HB.out _⟩
      · have ht : R = true := by
          rw [HR.out]
          refine decide_eq_true ?_
          have := HT.out
          rwa [List.take_of_length_le (by have := HN1.out; omega), List.take_of_length_le (by have := HN2.out; omega)] at this
        subst ht
        go_wp2_with fail
        go_ret
        exact ⟨rfl, HB.out⟩
  · have hf : R = false := by
      rw [HR.out]
      refine decide_eq_false fun e => hne ?_
      rw [HN1.out, HN2.out, e]
    subst hf
    go_enter Try.func14, Try.ntmps14
    go_wp2_with fail
    go_ret
    exact ⟨rfl, Below.refl _ _⟩
set_option maxHeartbeats 1000000 in
theorem right_any (w : World) (ao : Option Addr) (n c : Nat) (Ls : List (List Int)) (hn : n = Ls.length) (h : IRow w ao c Ls) : Calls Try.prog 16 #[.slice ao n c] w fun e w' => e = .returned (.bool (goodP Ls)) ∧ w' = w := by
  have hmx : n ≤ 9223372036854775807 := by have := h.le; have := h.mx; omega
  obtain ⟨R, hR⟩ : ∃ R, R = goodP Ls := ⟨_, rfl⟩
  rw [← hR]
  have HR : Hid (R = goodP Ls) := hR
  have HN : Hid (n = Ls.length) := hn
  have HI : Hid (IRow w ao c Ls) := h
  clear hR hn h
  go_enter Try.func16, Try.ntmps16
  go_wp2_with fail
  go_loopw [3] (fun v wr => ∃ k : Nat, k ≤ n ∧ v = .int .i64 k ∧ wr = w ∧ Hid (∀ (k' : Nat) (hk : k' < Ls.length), k' < k → ∀ (j : Nat) (hj : j < Ls[k'].length), 0 ≤ Ls[k'][j] ∧ Ls[k'][j] < Ls.length)) (fun v _ => n - (intOf v).toNat)
  case atStart => exact ⟨0, by omega, rfl, rfl, fun k' _ h => absurd h (by omega)⟩
  case round =>
    obtain ⟨k, hk, rfl, rfl, HT⟩ := hrel
    by_cases hlt : k < n
    · have hkL : k < Ls.length := by have := HN.out; omega
      obtain ⟨b, o, a', c', rfl, hc, hI⟩ := HI.out.at hkL
      obtain ⟨l, hl⟩ : ∃ l, l = Ls[k] := ⟨_, rfl⟩
      rw [← hl] at hc hI
      have HL : Hid (l = Ls[k]) := hl
      have hl2 : l.length ≤ 9223372036854775807 := by have := hI.le; have := hI.mx; omega
      have HII : Hid (Ints wr a' c' l) := hI
      obtain ⟨m, hm⟩ : ∃ m, m = l.length := ⟨_, rfl⟩
      rw [← hm] at hc hl2
      have HM : Hid (m = l.length) := hm
      clear hl hI hm
      go_wp2_with fail
      go_loopw [4] (fun v wr' => ∃ j : Nat, j ≤ m ∧ v = .int .i64 j ∧ wr' = wr ∧ Hid (∀ (j' : Nat) (hj : j' < l.length), j' < j → 0 ≤ l[j'] ∧ l[j'] < Ls.length)) (fun v _ => m - (intOf v).toNat)
      case atStart => exact ⟨0, by omega, rfl, rfl, fun j' _ h => absurd h (by omega)⟩
      case round =>
        obtain ⟨j, hj, rfl, rfl, HJ⟩ := hrel
        by_cases hjl : j < m
        · have hjL : j < l.length := by have := HM.out; omega
          obtain ⟨b2, o2, rfl, hc2⟩ := HII.out.at hjL
          obtain ⟨x, hx⟩ : ∃ x, x = l[j] := ⟨_, rfl⟩
          rw [← hx] at hc2
          have HX : Hid (x = l[j]) := hx
          clear hx
          by_cases hx0 : x < 0
          · have hf : R = false := by
              rw [HR.out]
              refine goodP_no hkL (j := j) (by rw [← HL.out]; exact hjL) ?_
              have : Ls[k][j]'(by rw [← HL.out]; exact hjL) = x := by rw [HX.out]; simp [HL.out]
              rw [this]; omega
            subst hf
            go_wp2_with fail
            go_ret
            exact ⟨rfl, rfl⟩
          · by_cases hx1 : (n : Int) ≤ x
            · have hf : R = false := by
                rw [HR.out]
                refine goodP_no hkL (j := j) (by rw [← HL.out]; exact hjL) ?_
                have : Ls[k][j]'(by rw [← HL.out]; exact hjL) = x := by rw [HX.out]; simp [HL.out]
                rw [this, ← HN.out]; omega
              subst hf
              go_wp2_with fail
              go_ret
              exact ⟨rfl, rfl⟩
            · go_wp2_with fail
              go_roundw
              case rel =>
                refine ⟨j + 1, by omega, by go_num, by first | rfl | trivial, fun j' hj' h => ?_⟩
                by_cases e : j' = j
                · subst e
                  rw [← HX.out, ← HN.out]; omega
                · exact HJ.out j' hj' (by omega)
              case measure => simp [intOf]; omega
        · go_wp2_with fail
          go_roundw
          case rel =>
            refine ⟨k + 1, by omega, by go_num, by first | rfl | trivial, fun k' hk' h j' hj' => ?_⟩
            by_cases e : k' = k
            · subst e
              have := HJ.out j' (by rw [HL.out]; exact hj') (by have := HM.out; rw [HL.out] at this; omega)
              simpa [HL.out] using this
            · exact HT.out k' hk' (by omega) j' hj'
          case measure => simp [intOf]; omega
    · by_cases hz : 0 < n
      · have ht : R = true := by
          rw [HR.out]
          exact goodP_all (by rw [← HN.out]; exact hz) fun k' hk' j hj => HT.out k' hk' (by have := HN.out; omega) j hj
        subst ht
        go_wp2_with fail
        go_ret
        exact ⟨by simp [Array.getD, hz], rfl⟩
      · have hf : R = false := by
          rw [HR.out]
          have : Ls = [] := List.length_eq_zero_iff.1 (by have := HN.out; omega)
          rw [this]; rfl
        subst hf
        go_wp2_with fail
        go_ret
        exact ⟨by simp [Array.getD, hz]; try omega, rfl⟩
set_option maxHeartbeats 1000000 in
theorem known_any (w : World) (ao : Option Addr) (n c : Nat) (Ls : List (List Int)) (hn : n = Ls.length) (h : IRow w ao c Ls) : Calls Try.prog 20 #[.slice ao n c] w fun e w' => e = .returned (.bool (goodP Ls)) ∧ w' = w := by
  have hmx : n ≤ 9223372036854775807 := by have := h.le; have := h.mx; omega
  obtain ⟨R, hR⟩ : ∃ R, R = goodP Ls := ⟨_, rfl⟩
  rw [← hR]
  have HR : Hid (R = goodP Ls) := hR
  have HN : Hid (n = Ls.length) := hn
  have HI : Hid (IRow w ao c Ls) := h
  clear hR hn h
  go_enter Try.func20, Try.ntmps20
  go_wp2_with fail
  go_loopw [9] (fun v wr => ∃ k : Nat, k ≤ n ∧ v = .int .i64 k ∧ wr = w ∧ Hid (∀ (k' : Nat) (hk : k' < Ls.length), k' < k → ∀ (j : Nat) (hj : j < Ls[k'].length), 0 ≤ Ls[k'][j] ∧ Ls[k'][j] < Ls.length)) (fun v _ => n - (intOf v).toNat)
  case atStart => exact ⟨0, by omega, rfl, rfl, fun k' _ h => absurd h (by omega)⟩
  case round =>
    obtain ⟨k, hk, rfl, rfl, HT⟩ := hrel
    by_cases hlt : k < n
    · have hkL : k < Ls.length := by have := HN.out; omega
      obtain ⟨b, o, a', c', rfl, hc, hI⟩ := HI.out.at hkL
      obtain ⟨l, hl⟩ : ∃ l, l = Ls[k] := ⟨_, rfl⟩
      rw [← hl] at hc hI
      have HL : Hid (l = Ls[k]) := hl
      have hl2 : l.length ≤ 9223372036854775807 := by have := hI.le; have := hI.mx; omega
      have HII : Hid (Ints wr a' c' l) := hI
      obtain ⟨m, hm⟩ : ∃ m, m = l.length := ⟨_, rfl⟩
      rw [← hm] at hc hl2
      have HM : Hid (m = l.length) := hm
      clear hl hI hm
      go_wp2_with fail
      go_loopw [15] (fun v wr' => ∃ j : Nat, j ≤ m ∧ v = .int .i64 j ∧ wr' = wr ∧ Hid (∀ (j' : Nat) (hj : j' < l.length), j' < j → 0 ≤ l[j'] ∧ l[j'] < Ls.length)) (fun v _ => m - (intOf v).toNat)
      case atStart => exact ⟨0, by omega, rfl, rfl, fun j' _ h => absurd h (by omega)⟩
      case round =>
        obtain ⟨j, hj, rfl, rfl, HJ⟩ := hrel
        by_cases hjl : j < m
        · have hjL : j < l.length := by have := HM.out; omega
          obtain ⟨b2, o2, rfl, hc2⟩ := HII.out.at hjL
          obtain ⟨x, hx⟩ : ∃ x, x = l[j] := ⟨_, rfl⟩
          rw [← hx] at hc2
          have HX : Hid (x = l[j]) := hx
          clear hx
          by_cases hx0 : x < 0
          · have hf : R = false := by
              rw [HR.out]
              refine goodP_no hkL (j := j) (by rw [← HL.out]; exact hjL) ?_
              have : Ls[k][j]'(by rw [← HL.out]; exact hjL) = x := by rw [HX.out]; simp [HL.out]
              rw [this]; omega
            subst hf
            go_wp2_with fail
            go_ret
            exact ⟨rfl, rfl⟩
          · by_cases hx1 : (n : Int) ≤ x
            · have hf : R = false := by
                rw [HR.out]
                refine goodP_no hkL (j := j) (by rw [← HL.out]; exact hjL) ?_
                have : Ls[k][j]'(by rw [← HL.out]; exact hjL) = x := by rw [HX.out]; simp [HL.out]
                rw [this, ← HN.out]; omega
              subst hf
              go_wp2_with fail
              go_ret
              exact ⟨rfl, rfl⟩
            · go_wp2_with fail
              go_roundw
              case rel =>
                refine ⟨j + 1, by omega, by go_num, by first | rfl | trivial, fun j' hj' h => ?_⟩
                by_cases e : j' = j
                · subst e
                  rw [← HX.out, ← HN.out]; omega
                · exact HJ.out j' hj' (by omega)
              case measure => simp [intOf]; omega
        · go_wp2_with fail
          go_roundw
          case rel =>
            refine ⟨k + 1, by omega, by go_num, by first | rfl | trivial, fun k' hk' h j' hj' => ?_⟩
            by_cases e : k' = k
            · subst e
              have := HJ.out j' (by rw [HL.out]; exact hj') (by have := HM.out; rw [HL.out] at this; omega)
              simpa [HL.out] using this
            · exact HT.out k' hk' (by omega) j' hj'
          case measure => simp [intOf]; omega
    · by_cases hz : 0 < n
      · have ht : R = true := by
          rw [HR.out]
          exact goodP_all (by rw [← HN.out]; exact hz) fun k' hk' j hj => HT.out k' hk' (by have := HN.out; omega) j hj
        subst ht
        go_wp2_with fail
        go_ret
        exact ⟨by simp [Array.getD, hz], rfl⟩
      · have hf : R = false := by
          rw [HR.out]
          have : Ls = [] := List.length_eq_zero_iff.1 (by have := HN.out; omega)
          rw [this]; rfl
        subst hf
        go_wp2_with fail
        go_ret
        exact ⟨by simp [Array.getD, hz]; try omega, rfl⟩
end Go.Proofs.Ytplpgeocidllfaa
