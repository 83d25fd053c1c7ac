import Derived.Test.YthjjdfiaikibaabDmC
import Derived.Deep.LoopGhost
import Derived.WalkMore
set_option linter.unusedVariables false
set_option linter.unusedSimpArgs false
namespace Go.Proofs.Ythjjdfiaikibaab
open Go.ChangeShapes Go.WideShapes Go.ChangeAt Go.RowKit Go.Maps

set_option maxHeartbeats 1000000 in
theorem good_any (w : World) (ao : Option Addr) (n c : Nat) (Ls : List (List Int)) (hn : n = Ls.length) (h : IRow w ao c Ls) : Calls Try.prog 18 #[.slice ao n c] w fun e w' => e = .returned (.bool (goodP Ls)) ∧ w' = w := by
  have hmx : n ≤ 9223372036854775807 := by have := h.le; have := h.mx; omega
  obtain ⟨R, hR⟩ : ∃ R, R = goodP Ls := ⟨_, rfl⟩
  rw [← hR]
  have HR : Hid (R = goodP Ls) := hR
  have HN : Hid (n = Ls.length) := hn
  have HI : Hid (IRow w ao c Ls) := h
  clear hR hn h
  go_enter Try.func18, Try.ntmps18
  go_wp2_with fail
  go_step3
  go_wp2_with fail
  go_step3
  go_wp2_with fail
  go_loopg [3, 13] n (fun q fv v wr => ∃ (k : Nat) (F : Bool), k ≤ n ∧ q = n - k ∧ fv = .bool F ∧ Hid (F = decide (0 < n)) ∧ v = .int .i64 k ∧ wr = w ∧ Hid (∀ (k' : Nat) (hk : k' < Ls.length), k' < k → ∀ (j : Nat) (hj : j < Ls[k'].length), 0 ≤ Ls[k'][j] ∧ Ls[k'][j] < Ls.length))
  case atStart => exact ⟨0, _, by omega, by omega, rfl, (by show _ = _; simp), rfl, rfl, fun k' _ h => absurd h (by omega)⟩
  case round =>
    obtain ⟨k, F, hk, rfl, rfl, HF, rfl, rfl, HT⟩ := hrel
    by_cases hlt : k < n
    · have hkL : k < Ls.length := by have := HN.out; omega
      obtain ⟨b, o, a', c', rfl, hc, hI⟩ := HI.out.at hkL
      obtain ⟨l, hl⟩ : ∃ l, l = Ls[k] := ⟨_, rfl⟩
      rw [← hl] at hc hI
      have HL : Hid (l = Ls[k]) := hl
      have hl2 : l.length ≤ 9223372036854775807 := by have := hI.le; have := hI.mx; omega
      have HII : Hid (Ints wr a' c' l) := hI
      obtain ⟨m, hm⟩ : ∃ m, m = l.length := ⟨_, rfl⟩
      rw [← hm] at hc hl2
      have HM : Hid (m = l.length) := hm
      clear hl hI hm
      go_wp2_with fail
      go_loopg [3, 19] m (fun q fv v wr' => ∃ j : Nat, j ≤ m ∧ q = m - j ∧ fv = .bool F ∧ v = .int .i64 j ∧ wr' = wr ∧ Hid (∀ (j' : Nat) (hj : j' < l.length), j' < j → 0 ≤ l[j'] ∧ l[j'] < Ls.length))
      case atStart => exact ⟨0, by omega, by omega, rfl, rfl, rfl, fun j' _ h => absurd h (by omega)⟩
      case round =>
        obtain ⟨j, hj, rfl, rfl, rfl, rfl, HJ⟩ := hrel
        by_cases hjl : j < m
        · have hjL : j < l.length := by have := HM.out; omega
          obtain ⟨b2, o2, rfl, hc2⟩ := HII.out.at hjL
          obtain ⟨x, hx⟩ : ∃ x, x = l[j] := ⟨_, rfl⟩
          rw [← hx] at hc2
          have HX : Hid (x = l[j]) := hx
          clear hx
          go_wp2_with fail
          refine (withins_any _ _ n c x).mono ?_
          rintro e w3 ⟨rfl, rfl⟩
          by_cases hy : 0 ≤ x ∧ x < n
          · rw [show (decide (0 ≤ x ∧ x < (n : Int))) = true from decide_eq_true hy]
            go_wp2_with fail
            go_roundg (m - (j + 1))
            case rel =>
              refine ⟨j + 1, by omega, rfl, rfl, by go_num, by first | rfl | trivial, fun j' hj' h => ?_⟩
              by_cases e : j' = j
              · subst e
                rw [← HX.out, ← HN.out]; omega
              · exact HJ.out j' hj' (by omega)
            case measure => omega
          · rw [show (decide (0 ≤ x ∧ x < (n : Int))) = false from decide_eq_false hy]
            have hf : R = false := by
              rw [HR.out]
              refine goodP_no hkL (j := j) (by rw [← HL.out]; exact hjL) ?_
              have : Ls[k][j]'(by rw [← HL.out]; exact hjL) = x := by rw [HX.out]; simp [HL.out]
              rw [this, ← HN.out]; omega
            subst hf
            go_wp2_with fail
            try rw [Exit.noGoto_ret]
            go_ret
            exact ⟨rfl, rfl⟩
        · go_wp2_with fail
          go_roundg (n - (k + 1))
          case rel =>
            refine ⟨k + 1, F, by omega, rfl, rfl, HF, by go_num, by first | rfl | trivial, fun k' hk' h j' hj' => ?_⟩
            by_cases e : k' = k
            · subst e
              have := HJ.out j' (by rw [HL.out]; exact hj') (by have := HM.out; rw [HL.out] at this; omega)
              simpa [HL.out] using this
            · exact HT.out k' hk' (by omega) j' hj'
          case measure => omega
    · have hFR : F = R := by
        rw [HF.out, HR.out]
        by_cases hz : 0 < n
        · rw [decide_eq_true hz]
          exact (goodP_all (by rw [← HN.out]; exact hz) fun k' hk' j hj => HT.out k' hk' (by have := HN.out; omega) j hj).symm
        · rw [decide_eq_false hz]
          have : Ls = [] := List.length_eq_zero_iff.1 (by have := HN.out; omega)
          rw [this]; rfl
      subst hFR
      go_wp2_with fail
      try rw [Exit.noGoto_ret]
      go_ret
      exact ⟨rfl, rfl⟩
/-- A slice of bools. -/
structure Bls (w : World) (ao : Option Addr) (cap : Nat) (L : List Bool) : Prop where
  le : L.length ≤ cap
  mx : cap ≤ 9223372036854775807
  out : L ≠ [] → ∃ b o, ao = some ⟨b, o, none⟩ ∧ b < w.heap.size ∧ ∀ i (h : i < L.length), w.cell? ⟨b, o + i, none⟩ = some (.bool L[i])
theorem Bls.below {w w' ao cap L K} (h : Bls w ao cap L) (hb : Below K w w') (hK : w.heap.size ≤ K) : Bls w' ao cap L :=
  ⟨h.le, h.mx, fun hn => by
    obtain ⟨b, o, e, h1, h2⟩ := h.out hn
    exact ⟨b, o, e, by have := hb.size; omega, fun i hi => by rw [hb.cell (p := ⟨b, o + i, none⟩) (by show b < K; omega)]; exact h2 i hi⟩⟩
theorem Bls.at {w ao cap L} (h : Bls w ao cap L) {j : Nat} (hj : j < L.length) : ∃ b o, ao = some ⟨b, o, none⟩ ∧ w.cell? ⟨b, o + j, none⟩ = some (.bool L[j]) := by
  obtain ⟨b, o, e, _, hA⟩ := h.out (by intro e; rw [e] at hj; simp at hj)
  exact ⟨b, o, e, hA j hj⟩
set_option maxHeartbeats 1000000 in
theorem alike_any (w : World) (a1 a2 : Option Addr) (c1 c2 n1 n2 : Nat) (L1 L2 : List Bool) (hn1 : n1 = L1.length) (hn2 : n2 = L2.length) (h1 : Bls w a1 c1 L1) (h2 : Bls w a2 c2 L2) :
    Calls Try.prog 9 #[.slice a1 n1 c1, .slice a2 n2 c2] w fun e w' => e = .returned (.bool (decide (L1 = L2))) ∧ Below w.heap.size w w' := by
  have b1 : n1 ≤ 9223372036854775807 := by have := h1.le; have := h1.mx; omega
  have b2 : n2 ≤ 9223372036854775807 := by have := h2.le; have := h2.mx; omega
  have HN1 : Hid (n1 = L1.length) := hn1
  have HN2 : Hid (n2 = L2.length) := hn2
  clear hn1 hn2
  obtain ⟨R, hR⟩ : ∃ R, R = decide (L1 = L2) := ⟨_, rfl⟩
  rw [← hR]
  have HR : Hid (R = decide (L1 = L2)) := hR
  have H1 : Hid (Bls w a1 c1 L1) := h1
  have H2 : Hid (Bls w a2 c2 L2) := h2
  clear hR h1 h2
  by_cases hne : n1 = n2
  · subst hne
    go_enter Try.func9, Try.ntmps9
    go_wp2_with fail
    go_loopw [5] (fun v wr => ∃ j : Nat, j ≤ n1 ∧ v = .int .i64 j ∧ Hid (Below w.heap.size w wr) ∧ Hid (L1.take j = L2.take j)) (fun v _ => n1 - (intOf v).toNat)
    case atStart => exact ⟨0, by omega, rfl, Below.refl _ _, rfl⟩
    case round =>
      obtain ⟨j, hj, rfl, HB, HT⟩ := hrel
      by_cases hlt : j < n1
      · have hj1 : j < L1.length := by have := HN1.out; omega
        have hj2 : j < L2.length := by have := HN2.out; omega
        obtain ⟨g1, o1, rfl, k1⟩ := (H1.out.below HB.out (Nat.le_refl _)).at hj1
        obtain ⟨g2, o2, rfl, k2⟩ := (H2.out.below HB.out (Nat.le_refl _)).at hj2
        obtain ⟨x, hx⟩ : ∃ x, x = L1[j] := ⟨_, rfl⟩
        obtain ⟨y, hy⟩ : ∃ y, y = L2[j] := ⟨_, rfl⟩
        rw [← hx] at k1
        rw [← hy] at k2
        have HX : Hid (x = L1[j]) := hx
        have HY : Hid (y = L2[j]) := hy
        clear hx hy
        by_cases hxy : x = y
        · subst hxy
          go_wp2_with fail
          go_quiet (fail)
          go_wp2_with fail
          go_roundw
          case rel =>
            refine ⟨j + 1, by omega, by go_num, ?_, ?_⟩
            · first | exact HB.out | exact HB.out.drew | exact below_drewN HB.out _
            · show _ = _
              rw [List.take_add_one, List.take_add_one, HT.out]
              simp [hj1, hj2, ← HX.out, ← HY.out]
          case measure => simp [intOf]; omega
        · have hf : R = false := by
            rw [HR.out]
            refine decide_eq_false fun e => hxy ?_
            rw [HX.out, HY.out]
            simp [e]
          subst hf
          have hb : (x == y) = false := by simpa using hxy
          go_wp2_with fail
          go_quiet (fail)
          go_wp2_with fail
          go_ret
          exact ⟨rfl, by first | exact HB.out | exact HB.out.drew | exact below_drewN HB.out _⟩
      · have ht : R = true := by
          rw [HR.out]
          refine decide_eq_true ?_
          have := HT.out
          rwa [List.take_of_length_le (by have := HN1.out; omega), List.take_of_length_le (by have := HN2.out; omega)] at this
        subst ht
        go_wp2_with fail
        go_ret
        exact ⟨rfl, HB.out⟩
  · have hf : R = false := by
      rw [HR.out]
      refine decide_eq_false fun e => hne ?_
      rw [HN1.out, HN2.out, e]
    subst hf
    go_enter Try.func9, Try.ntmps9
    go_wp2_with fail
    go_ret
    exact ⟨rfl, Below.refl _ _⟩

set_option maxHeartbeats 1000000 in
theorem edges_any (w : World) (ao : Option Addr) (n c : Nat) (Ls : List (List Int)) (hn : n = Ls.length) (h : IRow w ao c Ls) (hs : (Ls.map List.length).sum ≤ 9223372036854775807) : Calls Try.prog 11 #[.slice ao n c] w fun e w' => e = .returned (.int .i64 ((Ls.map List.length).sum : Nat)) ∧ w' = w := by
  have hmx : n ≤ 9223372036854775807 := by have := h.le; have := h.mx; omega
  have HN : Hid (n = Ls.length) := hn
  have HI : Hid (IRow w ao c Ls) := h
  obtain ⟨S, hS⟩ : ∃ S, S = (Ls.map List.length).sum := ⟨_, rfl⟩
  rw [← hS] at hs ⊢
  have HS : Hid (S = (Ls.map List.length).sum) := hS
  clear hn h hS
  go_enter Try.func11, Try.ntmps11
  go_wp2_with fail
  go_loopw [3, 4] (fun sv v wr => ∃ k s : Nat, k ≤ n ∧ v = .int .i64 k ∧ sv = .int .i64 s ∧ wr = w ∧ Hid (s = ((Ls.take k).map List.length).sum)) (fun _ v _ => n - (intOf v).toNat)
  case atStart => exact ⟨0, 0, by omega, rfl, rfl, rfl, rfl⟩
  case round =>
    obtain ⟨k, s, hk, rfl, rfl, rfl, HT⟩ := hrel
    by_cases hlt : k < n
    · have hkL : k < Ls.length := by have := HN.out; omega
      obtain ⟨b, o, a', c', rfl, hc, hI⟩ := HI.out.at hkL
      obtain ⟨m, hm⟩ : ∃ m, m = Ls[k].length := ⟨_, rfl⟩
      have hle : s + m ≤ S := by
        rw [HT.out, HS.out, hm]
        have e1 : ((Ls.take (k + 1)).map List.length).sum = ((Ls.take k).map List.length).sum + Ls[k].length := by
          rw [← List.take_append_getElem hkL, List.map_append, List.sum_append]
          rfl
        have e2 : (Ls.map List.length).sum = ((Ls.take (k + 1)).map List.length).sum + ((Ls.drop (k + 1)).map List.length).sum := by
          rw [← List.sum_append, ← List.map_append, List.take_append_drop]
        omega
      rw [← hm] at hc
      have HM : Hid (m = Ls[k].length) := hm
      clear hm hI
      go_wp2_with fail
      go_roundw
      case rel =>
        refine ⟨k + 1, s + m, by omega, by go_num, by go_num, by first | rfl | trivial, ?_⟩
        show _ = _
        rw [HM.out, HT.out, ← List.take_append_getElem hkL, List.map_append, List.sum_append]
        rfl
      case measure => simp [intOf]; omega
    · have hsS : s = S := by
        rw [HT.out, HS.out, List.take_of_length_le (by have := HN.out; omega)]
      subst hsS
      go_wp2_with fail
      go_ret
      exact ⟨rfl, rfl⟩
end Go.Proofs.Ythjjdfiaikibaab
