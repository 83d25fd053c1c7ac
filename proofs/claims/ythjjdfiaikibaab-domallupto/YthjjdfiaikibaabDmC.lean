import Derived.Test.YthjjdfiaikibaabDmB
set_option linter.unusedVariables false
set_option linter.unusedSimpArgs false
namespace Go.Proofs.Ythjjdfiaikibaab
open Go.ChangeShapes Go.WideShapes Go.ChangeAt Go.RowKit Go.Maps

theorem goodP_no {Ls : List (List Int)} {k j : Nat} (hk : k < Ls.length) (hj : j < Ls[k].length) (h : ¬ (0 ≤ Ls[k][j] ∧ Ls[k][j] < Ls.length)) : goodP Ls = false := by
  cases e : goodP Ls with
  | false => rfl
  | true =>
    simp only [goodP, Bool.and_eq_true, List.all_eq_true, decide_eq_true_eq] at e
    exact absurd (e.2 _ (List.getElem_mem hk) _ (List.getElem_mem hj)) h
theorem goodP_all {Ls : List (List Int)} (h0 : 0 < Ls.length) (h : ∀ (k : Nat) (hk : k < Ls.length) (j : Nat) (hj : j < Ls[k].length), 0 ≤ Ls[k][j] ∧ Ls[k][j] < Ls.length) : goodP Ls = true := by
  simp only [goodP, Bool.and_eq_true, List.all_eq_true, decide_eq_true_eq]
  refine ⟨h0, fun l hl x hx => ?_⟩
  obtain ⟨k, hk, rfl⟩ := List.mem_iff_getElem.1 hl
  obtain ⟨j, hj, rfl⟩ := List.mem_iff_getElem.1 hx
  exact h k hk j hj
theorem goodP_yes {Ls : List (List Int)} (h : goodP Ls = true) {k j : Nat} (hk : k < Ls.length) (hj : j < Ls[k].length) : 0 ≤ Ls[k][j] ∧ Ls[k][j] < Ls.length := by
  simp only [goodP, Bool.and_eq_true, List.all_eq_true, decide_eq_true_eq] at h
  exact h.2 _ (List.getElem_mem hk) _ (List.getElem_mem hj)
theorem goodP_pos {Ls : List (List Int)} (h : goodP Ls = true) : 0 < Ls.length := by
  simp only [goodP, Bool.and_eq_true, decide_eq_true_eq] at h
  exact h.1
theorem goodP_nil : goodP [] = false := rfl

set_option maxHeartbeats 1000000 in
theorem refGood_any (w : World) (ao : Option Addr) (n c : Nat) (Ls : List (List Int)) (hn : n = Ls.length) (h : IRow w ao c Ls) : Calls Try.prog 23 #[.slice ao n c] w fun e w' => e = .returned (.bool (goodP Ls)) ∧ w' = w := by
  have hmx : n ≤ 9223372036854775807 := by have := h.le; have := h.mx; omega
  obtain ⟨R, hR⟩ : ∃ R, R = goodP Ls := ⟨_, rfl⟩
  rw [← hR]
  have HR : Hid (R = goodP Ls) := hR
  have HN : Hid (n = Ls.length) := hn
  have HI : Hid (IRow w ao c Ls) := h
  clear hR hn h
  go_enter Try.func23, Try.ntmps23
  go_wp2_with fail
  go_loopw [3] (fun v wr => ∃ k : Nat, k ≤ n ∧ v = .int .i64 k ∧ wr = w ∧ Hid (∀ (k' : Nat) (hk : k' < Ls.length), k' < k → ∀ (j : Nat) (hj : j < Ls[k'].length), 0 ≤ Ls[k'][j] ∧ Ls[k'][j] < Ls.length)) (fun v _ => n - (intOf v).toNat)
  case atStart => exact ⟨0, by omega, rfl, rfl, fun k' _ h => absurd h (by omega)⟩
  case round =>
    obtain ⟨k, hk, rfl, rfl, HT⟩ := hrel
    by_cases hlt : k < n
    · have hkL : k < Ls.length := by have := HN.out; omega
      obtain ⟨b, o, a', c', rfl, hc, hI⟩ := HI.out.at hkL
      obtain ⟨l, hl⟩ : ∃ l, l = Ls[k] := ⟨_, rfl⟩
      rw [← hl] at hc hI
      have HL : Hid (l = Ls[k]) := hl
      have hl2 : l.length ≤ 9223372036854775807 := by have := hI.le; have := hI.mx; omega
      have HII : Hid (Ints wr a' c' l) := hI
      obtain ⟨m, hm⟩ : ∃ m, m = l.length := ⟨_, rfl⟩
      rw [← hm] at hc hl2
      have HM : Hid (m = l.length) := hm
      clear hl hI hm
      go_wp2_with fail
      go_loopw [4] (fun v wr' => ∃ j : Nat, j ≤ m ∧ v = .int .i64 j ∧ wr' = wr ∧ Hid (∀ (j' : Nat) (hj : j' < l.length), j' < j → 0 ≤ l[j'] ∧ l[j'] < Ls.length)) (fun v _ => m - (intOf v).toNat)
      case atStart => exact ⟨0, by omega, rfl, rfl, fun j' _ h => absurd h (by omega)⟩
      case round =>
        obtain ⟨j, hj, rfl, rfl, HJ⟩ := hrel
        by_cases hjl : j < m
        · have hjL : j < l.length := by have := HM.out; omega
          obtain ⟨b2, o2, rfl, hc2⟩ := HII.out.at hjL
          obtain ⟨x, hx⟩ : ∃ x, x = l[j] := ⟨_, rfl⟩
          rw [← hx] at hc2
          have HX : Hid (x = l[j]) := hx
          clear hx
          by_cases hx0 : x < 0
          · have hf : R = false := by
              rw [HR.out]
              refine goodP_no hkL (j := j) (by rw [← HL.out]; exact hjL) ?_
              have : Ls[k][j]'(by rw [← HL.out]; exact hjL) = x := by rw [HX.out]; simp [HL.out]
              rw [this]; omega
            subst hf
            go_wp2_with fail
            go_ret
            exact ⟨rfl, rfl⟩
          · by_cases hx1 : (n : Int) ≤ x
            · have hf : R = false := by
                rw [HR.out]
                refine goodP_no hkL (j := j) (by rw [← HL.out]; exact hjL) ?_
                have : Ls[k][j]'(by rw [← HL.out]; exact hjL) = x := by rw [HX.out]; simp [HL.out]
                rw [this, ← HN.out]; omega
              subst hf
              go_wp2_with fail
              go_ret
              exact ⟨rfl, rfl⟩
            · go_wp2_with fail
              go_roundw
              case rel =>
                refine ⟨j + 1, by omega, by go_num, by first | rfl | trivial, fun j' hj' h => ?_⟩
                by_cases e : j' = j
                · subst e
                  rw [← HX.out, ← HN.out]; omega
                · exact HJ.out j' hj' (by omega)
              case measure => simp [intOf]; omega
        · go_wp2_with fail
          go_roundw
          case rel =>
            refine ⟨k + 1, by omega, by go_num, by first | rfl | trivial, fun k' hk' h j' hj' => ?_⟩
            by_cases e : k' = k
            · subst e
              have := HJ.out j' (by rw [HL.out]; exact hj') (by have := HM.out; rw [HL.out] at this; omega)
              simpa [HL.out] using this
            · exact HT.out k' hk' (by omega) j' hj'
          case measure => simp [intOf]; omega
    · by_cases hz : 0 < n
      · have ht : R = true := by
          rw [HR.out]
          exact goodP_all (by rw [← HN.out]; exact hz) fun k' hk' j hj => HT.out k' hk' (by have := HN.out; omega) j hj
        subst ht
        go_wp2_with fail
        go_ret
        exact ⟨by simp [Array.getD, hz], rfl⟩
      · have hf : R = false := by
          rw [HR.out]
          have : Ls = [] := List.length_eq_zero_iff.1 (by have := HN.out; omega)
          rw [this]; rfl
        subst hf
        go_wp2_with fail
        go_ret
        exact ⟨by simp [Array.getD, hz]; try omega, rfl⟩

end Go.Proofs.Ythjjdfiaikibaab
