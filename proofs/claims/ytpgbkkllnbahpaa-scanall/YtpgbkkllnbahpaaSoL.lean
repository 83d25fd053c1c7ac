import Derived.Test.YtpgbkkllnbahpaaSoA
set_option linter.unusedVariables false
set_option linter.unusedSimpArgs false
namespace Go.Proofs.Ytpgbkkllnbahpaa
open Go.ChangeShapes Go.WideShapes Go.ChangeAt Go.RowKit Go.Maps

/-- A slice of calls: a list of intervals, and a number each. -/
structure CRow (w : World) (ao : Option Addr) (cap : Nat) (Cs : List (List Iv × Int)) : Prop where
  le : Cs.length ≤ cap
  mx : cap ≤ 9223372036854775807
  out : Cs ≠ [] → ∃ b o, ao = some ⟨b, o, none⟩ ∧ b < w.heap.size ∧ ∀ i (h : i < Cs.length), ∃ la lc, w.cell? ⟨b, o + i * 2, none⟩ = some (.slice la Cs[i].1.length lc) ∧ w.cell? ⟨b, o + i * 2 + 1, none⟩ = some (.int .i64 Cs[i].2) ∧ Ivs w la lc Cs[i].1
theorem CRow.below {w w' ao cap Cs} (h : CRow w ao cap Cs) (hb : Below w.heap.size w w') : CRow w' ao cap Cs :=
  ⟨h.le, h.mx, fun hn => by
    obtain ⟨b, o, e, hl, hc⟩ := h.out hn
    refine ⟨b, o, e, by have := hb.size; omega, fun i hi => ?_⟩
    obtain ⟨la, lc, h1, h2, h3⟩ := hc i hi
    refine ⟨la, lc, ?_, ?_, h3.below hb (Nat.le_refl _)⟩
    · rw [hb.cell (p := ⟨b, o + i * 2, none⟩) hl]; exact h1
    · rw [hb.cell (p := ⟨b, o + i * 2 + 1, none⟩) hl]; exact h2⟩
theorem CRow.at {w ao cap Cs} (h : CRow w ao cap Cs) {i : Nat} (hi : i < Cs.length) : ∃ b o la lc, ao = some ⟨b, o, none⟩ ∧ b < w.heap.size ∧ w.cell? ⟨b, o + i * 2, none⟩ = some (.slice la Cs[i].1.length lc) ∧ w.cell? ⟨b, o + i * 2 + 1, none⟩ = some (.int .i64 Cs[i].2) ∧ Ivs w la lc Cs[i].1 := by
  obtain ⟨b, o, e, hl, hc⟩ := h.out (by rintro rfl; simp at hi)
  obtain ⟨la, lc, h1, h2, h3⟩ := hc i hi
  exact ⟨b, o, la, lc, e, hl, h1, h2, h3⟩
set_option maxRecDepth 20000 in
set_option maxHeartbeats 1000000 in
/-- A slice of calls that came in. -/
theorem calls_view {H : Type} {enc : TypeId × Value → H} {W : World} {fuel : Nat} {cs : List Value} {x : DataW H × List MemPlace} (h : DataW.trod enc Try.prog W 0 (fun _ => true) true fuel 39 cs = some x) :
    ∃ (ao : Option Addr) (cap : Nat) (Cs : List (List Iv × Int)), cs = [.slice ao Cs.length cap] ∧ CRow W ao cap Cs := by
  rcases Deep.open_slice Try.underlying39 h with ⟨h0, _⟩ | ⟨a, len, cap, m, n, D, Pl, rfl, _, hl, hm, hmm, rfl, hx⟩
  · exact ⟨none, 0, [], h0, ⟨Nat.le_refl _, by decide, fun h => absurd rfl h⟩⟩
  · have ce : Try.prog.cellsOf 42 = 2 := by kernel_rfl
    have c3 : Try.prog.cellsOf 3 = 1 := by kernel_rfl
    have c4 : Try.prog.cellsOf 22 = 1 := by kernel_rfl
    rw [ce] at hx
    have hml : len ≤ m := by rw [hmm]; simp; exact hl
    have each : ∀ i, i < len → ∃ q : Option Addr × Nat × List Iv × Int, W.cell? (a.add (i * 2)) = some (.slice q.1 q.2.2.1.length q.2.1) ∧ W.cell? (a.add (i * 2 + 1)) = some (.int .i64 q.2.2.2) ∧ Ivs W q.1 q.2.1 q.2.2.1 := by
      intro i hi
      obtain ⟨cs', h1, h2⟩ := hx i (by omega)
      obtain ⟨_, hlen, hcell⟩ := World.cells?_some h1
      obtain ⟨xs, k, hk, hxy, _, hxl, hf⟩ := DataW.trod_struct Try.underlying42 h2
      match cs', hlen with
      | [v0, v1], _ =>
        have g0 := hf 0 _ rfl
        have g1 := hf 1 _ rfl
        simp [c3, c4] at g0 g1
        match xs, hxl with
        | [y0, y1], _ =>
          obtain ⟨la, lc, N, e0, hI⟩ := ivs_view (show DataW.trod enc Try.prog W 0 _ true k 22 _ = some y0 from g0)
          obtain ⟨n1, e1, _, w1⟩ := DataW.trod_int Try.underlying3 (show DataW.trod enc Try.prog W 0 _ true k 3 _ = some y1 from g1)
          simp at e0 e1
          subst e0 e1
          have hc : ∀ j (hj : j < 2), W.cell? (a.add (i * 2 + j)) = some ([Value.slice la N.length lc, .int .i64 n1][j]'(by simpa using hj)) := by
            intro j hj
            have := hcell j (by omega)
            rw [Deep.add_add] at this
            rw [this]; simp
          exact ⟨(la, lc, N, n1), hc 0 (by omega), hc 1 (by omega), hI⟩
    haveI : Inhabited (Option Addr × Nat × List Iv × Int) := ⟨(none, 0, [], 0)⟩
    obtain ⟨q, hq⟩ := Deep.choose_lt each
    refine ⟨some a, cap, (List.range len).map fun i => (q i).2.2, by simp, ⟨by simpa using hl, by unfold maxLen at hm; omega, fun hne => ?_⟩⟩
    have hl0 : 0 < len := by
      rcases Nat.eq_zero_or_pos len with h | h
      · subst h; simp at hne
      · exact h
    obtain ⟨b, off, spot⟩ := a
    obtain ⟨c00, _⟩ := hq 0 hl0
    have hspot : spot = none := by simpa [Addr.add] using World.cell?_spot c00
    subst hspot
    refine ⟨b, off, rfl, by have := block_lt_of_cell c00; simpa [Addr.add] using this, fun i hi => ?_⟩
    have hi' : i < len := by simpa using hi
    obtain ⟨d0, d1, d2⟩ := hq i hi'
    simp only [add_none, ← Nat.add_assoc] at d0 d1
    have e : ((List.range len).map fun i => (q i).2.2)[i] = (q i).2.2 := by simp
    rw [e]
    exact ⟨_, _, d0, d1, d2⟩
def farP (L : List Iv) : Bool := L.any fun x => decide (5000 < x.1) && decide (x.1 < 262144)
set_option maxRecDepth 100000 in
set_option maxHeartbeats 2000000 in
theorem far_any (w : World) (ao : Option Addr) (n c : Nat) (L : List Iv) (hn : n = L.length) (h : Ivs w ao c L) : Calls Try.prog 17 #[.slice ao n c] w fun e w' => e = .returned (.bool (farP L)) ∧ Below w.heap.size w w' := by
  have HN : Hid (n = L.length) := hn
  have hnc : n ≤ c := by have := h.le; omega
  have hcm : c ≤ 9223372036854775807 := h.mx
  have HH : Hid (Ivs w ao c L) := h
  clear h hn
  go_enter Try.func17, Try.ntmps17
  go_wp2_with fail
  go_loopw [3] (fun v wr => ∃ k : Nat, k ≤ n ∧ v = .int .i64 k ∧ Hid (∀ i (h : i < L.length), i < k → (decide (5000 < L[i].1) && decide (L[i].1 < 262144)) = false) ∧ wr = w) (fun v _ => n - (intOf v).toNat)
  case atStart => exact ⟨0, by omega, rfl, fun i _ h => by omega, rfl⟩
  case round =>
    obtain ⟨k, hk, rfl, HE, hwr⟩ := hrel
    subst hwr
    by_cases hlt : k < n
    · have hk2 : k < L.length := by have := HN.out; omega
      obtain ⟨b, o, rfl, hbw, c0, c1, c2⟩ := HH.out.at hk2
      have HF : Hid ((decide (5000 < L[k].1) && decide (L[k].1 < 262144)) = true → farP L = true) := fun q => List.any_eq_true.2 ⟨_, List.getElem_mem hk2, q⟩
      have HT : Hid ((decide (5000 < L[k].1) && decide (L[k].1 < 262144)) = false → ∀ i (h : i < L.length), i < k + 1 → (decide (5000 < L[i].1) && decide (L[i].1 < 262144)) = false) := fun q i h1 h2 => by
        rcases Nat.lt_succ_iff_lt_or_eq.1 h2 with q' | rfl
        · exact HE.out i h1 q'
        · exact q
      clear HE
      generalize L[k] = y at c0 c1 c2 HF HT
      clear hk2
      by_cases h0 : 5000 < y.1
      · by_cases h1 : y.1 < 262144
        · have HA := show Hid _ from HF.out (by simp [h0, h1])
          clear HF HT
          go_wp2_with fail
          go_ret
          exact ⟨by first | (rw [HA.out]; done) | (rw [HA.out]; rfl), Below.refl _ _⟩
        · have HE2 := show Hid _ from HT.out (by simp [h1])
          have t1 : decide (y.1 < 262144) = false := by simp; omega
          clear HF HT
          go_wp2_with fail
          go_roundw
          case rel => exact ⟨k + 1, by omega, by go_num, HE2.out, by trivial⟩
          case measure => simp [intOf]; omega
      · have HE2 := show Hid _ from HT.out (by simp [h0])
        have t1 : decide (5000 < y.1) = false := by simp; omega
        clear HF HT
        go_wp2_with fail
        go_roundw
        case rel => exact ⟨k + 1, by omega, by go_num, HE2.out, by trivial⟩
        case measure => simp [intOf]; omega
    · have HA : Hid (farP L = false) := List.any_eq_false.2 fun x hx => by
        obtain ⟨i, hi, rfl⟩ := List.getElem_of_mem hx
        rw [HE.out i hi (by have := HN.out; omega)]
        simp
      go_wp2_with fail
      go_ret
      exact ⟨by first | (rw [HA.out]; done) | (rw [HA.out]; rfl), Below.refl _ _⟩
end Go.Proofs.Ytpgbkkllnbahpaa
