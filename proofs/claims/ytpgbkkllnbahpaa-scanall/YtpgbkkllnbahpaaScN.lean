import Derived.Test.YtpgbkkllnbahpaaScM
set_option linter.unusedVariables false
set_option linter.unusedSimpArgs false
namespace Go.Proofs.Ytpgbkkllnbahpaa
open Go.ChangeShapes Go.WideShapes Go.ChangeAt Go.RowKit Go.Maps

structure FitV (x : Iv) : Prop where
  r : -9223372036854775808 ≤ x.1 ∧ x.1 ≤ 9223372036854775807
  f : -9223372036854775808 ≤ x.2.1 ∧ x.2.1 ≤ 9223372036854775807
  t : -9223372036854775808 ≤ x.2.2 ∧ x.2.2 ≤ 9223372036854775807
/-- Intervals in block b from o on. -/
structure AtV (w : World) (b o : Nat) (L : List Iv) : Prop where
  lt : b < w.heap.size
  cell : ∀ i (h : i < L.length), w.cell? ⟨b, o + i * 3, none⟩ = some (.int .i64 L[i].1) ∧ w.cell? ⟨b, o + i * 3 + 1, none⟩ = some (.int .i64 L[i].2.1) ∧ w.cell? ⟨b, o + i * 3 + 2, none⟩ = some (.int .i64 L[i].2.2)
/-- A slice of intervals that holds L. -/
structure Ivs (w : World) (ao : Option Addr) (cap : Nat) (L : List Iv) : Prop where
  le : L.length ≤ cap
  mx : cap ≤ 9223372036854775807
  fit : ∀ x ∈ L, FitV x
  out : L ≠ [] → ∃ b o, ao = some ⟨b, o, none⟩ ∧ AtV w b o L
theorem AtV.below {w w' b o M K} (h : AtV w b o M) (hb : Below K w w') (hK : b < K) : AtV w' b o M :=
  ⟨by have := hb.size; have := h.lt; omega, fun i hi => by
    have := h.cell i hi
    rw [hb.cell (p := ⟨b, o + i * 3, none⟩) hK, hb.cell (p := ⟨b, o + i * 3 + 1, none⟩) hK, hb.cell (p := ⟨b, o + i * 3 + 2, none⟩) hK]
    exact this⟩
theorem Ivs.below {w w' ao cap L K} (h : Ivs w ao cap L) (hb : Below K w w') (hK : w.heap.size ≤ K) : Ivs w' ao cap L :=
  ⟨h.le, h.mx, h.fit, fun hn => by
    obtain ⟨b, o, e, hA⟩ := h.out hn
    exact ⟨b, o, e, hA.below hb (Nat.lt_of_lt_of_le hA.lt hK)⟩⟩
theorem Ivs.at {w ao cap L} (h : Ivs w ao cap L) {i : Nat} (hi : i < L.length) : ∃ b o, ao = some ⟨b, o, none⟩ ∧ b < w.heap.size ∧ w.cell? ⟨b, o + i * 3, none⟩ = some (.int .i64 L[i].1) ∧ w.cell? ⟨b, o + i * 3 + 1, none⟩ = some (.int .i64 L[i].2.1) ∧ w.cell? ⟨b, o + i * 3 + 2, none⟩ = some (.int .i64 L[i].2.2) := by
  obtain ⟨b, o, e, hA⟩ := h.out (by rintro rfl; simp at hi)
  obtain ⟨h1, h2, h3⟩ := hA.cell i hi
  exact ⟨b, o, e, hA.lt, h1, h2, h3⟩
/-- A row of its own is such a slice. -/
theorem row_ivs {w : World} {B : Nat} {v : Value} {L : List Iv} (h : Row w B 35 3 v (L.map vc)) (hf : ∀ x ∈ L, FitV x) : ∃ ao c, v = .slice ao L.length c ∧ Ivs w ao c L := by
  obtain ⟨ao, n, c, e, hn, h1, h2⟩ := row_sl h
  simp at hn
  subst hn
  subst e
  refine ⟨ao, c, rfl, h1, h2, hf, fun hne => ?_⟩
  obtain ⟨g, c', e, _, _, _, hg⟩ := own_some h.out (by simp; exact List.length_pos_iff.2 hne)
  simp only [Value.slice.injEq] at e
  obtain ⟨rfl, _, _⟩ := e
  exact ⟨g, 0, rfl, hg, fun i hi => by simpa using row_vc h rfl hi⟩
def okI (x : Iv) : Bool := decide (0 ≤ x.1) && decide (x.1 < 262144) && decide (x.2.1 ≤ x.2.2)
def upI (a b : Iv) : Bool := decide (a.2.1 < b.2.1) || (decide (a.2.1 = b.2.1) && decide (a.1 < b.1))
def fmP (L : List Iv) : Bool := L.all okI
def rsP (L : List Iv) : Bool := (List.range (L.length - 1)).all fun i => upI (L.getD i (0, 0, 0)) (L.getD (i + 1) (0, 0, 0))
theorem getD_at {α : Type} {l : List α} {i : Nat} (h : i < l.length) (d : α) : l.getD i d = l[i] := by simp [List.getD, h]
theorem rsP_of {L : List Iv} (h : ∀ i (h : i + 1 < L.length), upI L[i] L[i + 1] = true) : rsP L = true := by
  unfold rsP
  rw [List.all_eq_true]
  intro i hi
  have hi' : i + 1 < L.length := by have := List.mem_range.1 hi; omega
  rw [getD_at (by omega), getD_at hi']
  exact h i hi'
theorem rsP_not {L : List Iv} {i : Nat} (hi : i + 1 < L.length) (h : upI L[i] L[i + 1] = false) : rsP L = false := by
  unfold rsP
  rw [List.all_eq_false]
  refine ⟨i, List.mem_range.2 (by omega), ?_⟩
  rw [getD_at (by omega), getD_at hi, h]
  simp
set_option maxRecDepth 100000 in
set_option maxHeartbeats 2000000 in
theorem formed_any (w : World) (ao : Option Addr) (n c : Nat) (L : List Iv) (hn : n = L.length) (h : Ivs w ao c L) : Calls Try.prog 19 #[.slice ao n c] w fun e w' => e = .returned (.bool (fmP L)) ∧ Below w.heap.size w w' := by
  have HN : Hid (n = L.length) := hn
  have hnc : n ≤ c := by have := h.le; omega
  have hcm : c ≤ 9223372036854775807 := h.mx
  have HH : Hid (Ivs w ao c L) := h
  clear h hn
  go_enter Try.func19, Try.ntmps19
  go_wp2_with fail
  go_loopw [7] (fun v wr => ∃ k : Nat, k ≤ n ∧ v = .int .i64 k ∧ Hid (∀ i (h : i < L.length), i < k → okI L[i] = true) ∧ Hid (Below w.heap.size w wr)) (fun v _ => n - (intOf v).toNat)
  case atStart => exact ⟨0, by omega, rfl, fun i _ h => by omega, Below.refl _ _⟩
  case round =>
    obtain ⟨k, hk, rfl, HE, HB⟩ := hrel
    obtain ⟨wq, rfl⟩ : ∃ wq, wq = wr := ⟨_, rfl⟩
    by_cases hlt : k < n
    · have hk2 : k < L.length := by have := HN.out; omega
      obtain ⟨b, o, rfl, hbw, c0, c1, c2⟩ := (HH.out.below HB.out (Nat.le_refl _)).at hk2
      have HF : Hid (okI L[k] = false → fmP L = false) := fun q => List.all_eq_false.2 ⟨_, List.getElem_mem hk2, by simp [q]⟩
      have HT : Hid (okI L[k] = true → ∀ i (h : i < L.length), i < k + 1 → okI L[i] = true) := fun q i h1 h2 => by
        rcases Nat.lt_succ_iff_lt_or_eq.1 h2 with q' | rfl
        · exact HE.out i h1 q'
        · exact q
      clear HE
      generalize L[k] = y at c0 c1 c2 HF HT
      obtain ⟨y0, y1, y2⟩ := y
      simp only at c0 c1 c2
      clear hk2
      have HBB : Hid (Below w.heap.size w (wq.alloc (.cells #[.int .i64 y0, .int .i64 y1, .int .i64 y2] 35))) := HB.out.alloc HB.out.size _
      by_cases h0 : 0 ≤ y0
      · by_cases h1 : y0 < 262144
        · by_cases h2 : y1 ≤ y2
          · have t1 : decide (262144 ≤ y0) = false := by simp; omega
            have t2 : decide (y2 < y1) = false := by simp; omega
            have t3 : decide (y0 < 0) = false := by simp; omega
            have HE2 := show Hid _ from HT.out (by simp [okI, h0, h1, h2])
            clear HT HF
            go_wp2_with fail
            go_roundw
            case rel => exact ⟨k + 1, by omega, by go_num, HE2.out, HBB.out⟩
            case measure => simp [intOf]; omega
          · have HA := show Hid _ from HF.out (by simp [okI, h2])
            have t2 : y2 < y1 := by omega
            clear HT HF
            go_wp2_with fail
            go_ret
            exact ⟨by first | (rw [HA.out]; done) | (rw [HA.out]; rfl), HBB.out⟩
        · have HA := show Hid _ from HF.out (by simp [okI, h1])
          have t1 : 262144 ≤ y0 := by omega
          clear HT HF
          go_wp2_with fail
          go_ret
          exact ⟨by first | (rw [HA.out]; done) | (rw [HA.out]; rfl), HBB.out⟩
      · have HA := show Hid _ from HF.out (by simp [okI, h0])
        have t1 : y0 < 0 := by omega
        clear HT HF
        go_wp2_with fail
        go_ret
        exact ⟨by first | (rw [HA.out]; done) | (rw [HA.out]; rfl), HBB.out⟩
    · have HA : Hid (fmP L = true) := List.all_eq_true.2 fun x hx => by
        obtain ⟨i, hi, rfl⟩ := List.getElem_of_mem hx
        exact HE.out i hi (by have := HN.out; omega)
      go_wp2_with fail
      go_ret
      exact ⟨by first | (rw [HA.out]; done) | (rw [HA.out]; rfl), HB.out⟩
theorem grt_step (L : List Iv) (k : Nat) (h : k < L.length) : grt (L.take (k + 1)) = max (grt (L.take k)) L[k].1 := by
  unfold grt
  rw [← List.take_append_getElem h, List.foldl_append]
  rfl
set_option maxRecDepth 100000 in
set_option maxHeartbeats 2000000 in
theorem greatest_any (w : World) (ao : Option Addr) (n c : Nat) (L : List Iv) (hn : n = L.length) (h : Ivs w ao c L) : Calls Try.prog 23 #[.slice ao n c] w fun e w' => e = .returned (.int .i64 (grt L)) ∧ Below w.heap.size w w' := by
  have HN : Hid (n = L.length) := hn
  have hnc : n ≤ c := by have := h.le; omega
  have hcm : c ≤ 9223372036854775807 := h.mx
  have HH : Hid (Ivs w ao c L) := h
  clear h hn
  go_enter Try.func23, Try.ntmps23
  go_wp2_with fail
  go_loopw [3, 8] (fun u v wr => ∃ k : Nat, k ≤ n ∧ v = .int .i64 k ∧ u = .int .i64 (grt (L.take k)) ∧ Hid (Below w.heap.size w wr)) (fun _ v _ => n - (intOf v).toNat)
  case atStart => exact ⟨0, by omega, rfl, rfl, Below.refl _ _⟩
  case round =>
    obtain ⟨k, hk, rfl, rfl, HB⟩ := hrel
    obtain ⟨wq, rfl⟩ : ∃ wq, wq = wr := ⟨_, rfl⟩
    by_cases hlt : k < n
    · have hk2 : k < L.length := by have := HN.out; omega
      obtain ⟨b, o, rfl, hbw, c0, c1, c2⟩ := (HH.out.below HB.out (Nat.le_refl _)).at hk2
      have HG : Hid (grt (L.take (k + 1)) = max (grt (L.take k)) L[k].1) := grt_step L k hk2
      generalize L[k] = y at c0 c1 c2 HG
      obtain ⟨y0, y1, y2⟩ := y
      simp only at c0 c1 c2 HG
      clear hk2
      have HBB : Hid (Below w.heap.size w (wq.alloc (.cells #[.int .i64 y0, .int .i64 y1, .int .i64 y2] 35))) := HB.out.alloc HB.out.size _
      obtain ⟨g, hg⟩ : ∃ g, g = grt (L.take k) := ⟨_, rfl⟩
      rw [← hg] at HG ⊢
      clear hg
      go_wp2_with fail
      go_roundw
      case rel => exact ⟨k + 1, by omega, by go_num, by rw [HG.out]; first | rfl | (congr 1; omega), HBB.out⟩
      case measure => simp [intOf]; omega
    · obtain rfl : k = n := by omega
      have HA : Hid (grt (L.take k) = grt L) := by show grt _ = _; rw [List.take_of_length_le (by have := HN.out; omega)]
      clear hk hlt
      obtain ⟨g, hg⟩ : ∃ g, g = grt (L.take k) := ⟨_, rfl⟩
      rw [← hg] at HA ⊢
      clear hg
      go_wp2_with fail
      go_ret
      exact ⟨by first | (rw [← HA.out]; done) | (rw [← HA.out]; rfl), HB.out⟩
end Go.Proofs.Ytpgbkkllnbahpaa
