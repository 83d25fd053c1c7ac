import Derived.Test.YtpgbkkllnbahpaaScY
set_option linter.unusedVariables false
set_option linter.unusedSimpArgs false
namespace Go.Proofs.Ytpgbkkllnbahpaa
open Go.ChangeShapes Go.WideShapes Go.ChangeAt Go.RowKit Go.Maps

/-- What the document's right asks of the first k. -/
structure RgK (L : List Iv) (k : Nat) : Prop where
  ok : ∀ i (h : i < L.length), i < k → okI L[i] = true
  up : ∀ i (h : i + 1 < L.length), i + 1 < k → upI L[i] L[i + 1] = true
  once : ((L.take k).map (·.1)).Nodup
theorem RgK.good {L : List Iv} (h : RgK L L.length) : gdB L = true := by
  have h1 : fmP L = true := List.all_eq_true.2 fun x hx => by
    obtain ⟨i, hi, rfl⟩ := List.getElem_of_mem hx
    exact h.ok i hi hi
  have h2 : rsP L = true := rsP_of fun i hi => h.up i hi hi
  have h3 : twP L = false := by have := h.once; rw [List.take_of_length_le (Nat.le_refl _)] at this; simp [twP, this]
  simp [gdB, h1, h2, h3]
theorem bad_ok {L : List Iv} {k : Nat} (hk : k < L.length) (h : okI L[k] = false) : gdB L = false := by
  have : fmP L = false := List.all_eq_false.2 ⟨_, List.getElem_mem hk, by simp [h]⟩
  simp [gdB, this]
theorem bad_up {L : List Iv} {k : Nat} (hk : k + 1 < L.length) (h : upI L[k] L[k + 1] = false) : gdB L = false := by
  have := rsP_not hk h
  simp [gdB, this]
theorem bad_once {L : List Iv} {k j : Nat} (hk : k < L.length) (hj : j < k) (h : (L[j]'(by omega)).1 = L[k].1) : gdB L = false := by
  have : twP L = true := by
    unfold twP
    rw [decide_eq_false (not_nodup hk (List.mem_map.2 ⟨L[j]'(by omega), ?_, h⟩))]
    · rfl
    · rw [List.mem_take_iff_getElem]
      exact ⟨j, by omega, rfl⟩
  simp [gdB, this]
set_option maxRecDepth 100000 in
set_option maxHeartbeats 8000000 in
theorem right_any (w : World) (ao : Option Addr) (n c : Nat) (L : List Iv) (hn : n = L.length) (h : Ivs w ao c L) : Calls Try.prog 26 #[.slice ao n c] w fun e w' => e = .returned (.bool (gdB L)) ∧ Below w.heap.size w w' := by
  have HN : Hid (n = L.length) := hn
  have hnc : n ≤ c := by have := h.le; omega
  have hcm : c ≤ 9223372036854775807 := h.mx
  have HH : Hid (Ivs w ao c L) := h
  clear h hn
  go_enter Try.func26, Try.ntmps26
  go_wp2_with fail
  go_loopw [3] (fun v wr => ∃ k : Nat, k ≤ n ∧ v = .int .i64 k ∧ Hid (RgK L k) ∧ Hid (Below w.heap.size w wr)) (fun v _ => n - (intOf v).toNat)
  case atStart => exact ⟨0, by omega, rfl, ⟨fun i _ h => by omega, fun i _ h => by omega, by simp⟩, Below.refl _ _⟩
  case round =>
    obtain ⟨k, hk, rfl, HE, HB⟩ := hrel
    obtain ⟨wq, rfl⟩ : ∃ wq, wq = wr := ⟨_, rfl⟩
    by_cases hlt : k < n
    · have hk2 : k < L.length := by have := HN.out; omega
      obtain ⟨b, o, rfl, hbw, c0, c1, c2⟩ := (HH.out.below HB.out (Nat.le_refl _)).at hk2
      have HF : Hid (okI L[k] = false → gdB L = false) := fun q => bad_ok hk2 q
      have HT : Hid (okI L[k] = true → RgK L k → (∀ h : 0 < k, upI (L[k - 1]'(by omega)) L[k] = true) → L[k].1 ∉ (L.take k).map (·.1) → RgK L (k + 1)) := fun q r u m => by
        refine ⟨fun i h1 h2 => ?_, fun i h1 h2 => ?_, nodup_take hk2 r.once m⟩
        · rcases Nat.lt_succ_iff_lt_or_eq.1 h2 with q' | rfl
          · exact r.ok i h1 q'
          · exact q
        · by_cases e : i + 1 = k
          · subst e
            simpa using u (by omega)
          · exact r.up i h1 (by omega)
      obtain ⟨y, hy⟩ : ∃ y, y = L[k] := ⟨_, rfl⟩
      have HY : Hid (y = L[k]) := hy
      rw [← hy] at c0 c1 c2 HF HT
      have HBB : Hid (Below w.heap.size w (wq.alloc (.cells #[.int .i64 y.1, .int .i64 y.2.1, .int .i64 y.2.2] 35))) := HB.out.alloc HB.out.size _
      have HXB : Hid (BxV (wq.alloc (.cells #[.int .i64 y.1, .int .i64 y.2.1, .int .i64 y.2.2] 35)) wq.heap.size y) := ⟨heap_alloc_new _ _⟩
      have HK2 : Hid (k < L.length) := hk2
      clear hy
      by_cases h0 : 0 ≤ y.1
      · by_cases h1 : y.1 < 262144
        · by_cases h2 : y.2.1 ≤ y.2.2
          · have t1 : decide (262144 ≤ y.1) = false := by simp; omega
            have t2 : decide (y.2.2 < y.2.1) = false := by simp; omega
            have t3 : decide (y.1 < 0) = false := by simp; omega
            have HOK : Hid (okI y = true) := by show okI y = true; simp [okI, h0, h1, h2]
            clear HF
            have HXB2 := HXB
            cases k with
            | zero =>
              simp only [Nat.zero_mul, Nat.add_zero] at c0 c1 c2
              go_wp2_with fail
              go_quiet (fail)
              obtain ⟨W1, hW1⟩ : ∃ W1, W1 = wq.alloc (.cells #[.int .i64 y.1, .int .i64 y.2.1, .int .i64 y.2.2] 35) := ⟨_, rfl⟩
              rw [← hW1] at HBB HXB ⊢
              generalize wq.heap.size = xb at HXB ⊢
              clear hW1 HXB2 c0 c1 c2 hbw t1 t2 t3 HB
              have HB2 : Hid (Below W1.heap.size W1 (W1.drewN nq)) := below_drewN0 _ _
              go_wp2_with fail
              go_loopw [5] (fun v wr => ∃ j : Nat, j ≤ 0 ∧ v = .int .i64 j ∧ Hid (∀ i (h : i < L.length), i < j → L[i].1 ≠ y.1) ∧ Hid (Below W1.heap.size W1 wr)) (fun v _ => 0 - (intOf v).toNat)
              case atStart => exact ⟨0, by omega, rfl, fun i _ h => by omega, HB2.out⟩
              case round =>
                obtain ⟨j, hj, rfl, HJ, HW⟩ := hrel
                obtain ⟨wz, rfl⟩ : ∃ wz, wz = wr := ⟨_, rfl⟩
                have HBZ : Hid (Below w.heap.size w wz) := HBB.out.trans (HW.out.mono HBB.out.size)
                by_cases hjl : j < 0
                · exact absurd hjl (by omega)
                · obtain rfl : j = 0 := by omega
                  have HR : Hid (RgK L (0 + 1)) := HT.out HOK.out HE.out (fun hp => by omega) (by
                    intro q
                    obtain ⟨z, hz, e⟩ := List.mem_map.1 q
                    obtain ⟨i, hi, e2⟩ := List.getElem_of_mem hz
                    simp only [List.length_take] at hi
                    rw [List.getElem_take] at e2
                    exact HJ.out i (by omega) (by omega) (by rw [e2, e]))
                  go_wp2_with fail
                  go_roundw
                  case rel => exact ⟨0 + 1, by omega, by first | rfl | go_num, HR.out, HBZ.out⟩
                  case measure => simp [intOf]; omega
            | succ k =>
              have hk1 : k < L.length := by omega
              obtain ⟨_, _, e, _, p0, p1, p2⟩ := (HH.out.below HB.out (Nat.le_refl _)).at hk1
              cases e
              obtain ⟨z, hz⟩ : ∃ z, z = L[k] := ⟨_, rfl⟩
              have HZ : Hid (z = L[k]) := hz
              rw [← hz] at p0 p1 p2
              clear hz
              have i1 : ((k : Int) + 1).toNat = k + 1 := by omega
              have i2 : (0 : Int) < (k : Int) + 1 := by omega
              have i3 : (k : Int) + 1 < (n : Int) := by omega
              have i4 : (0 : Int) ≤ (k : Int) + 1 := by omega
              have i5 : (k : Int) < (n : Int) := by omega
              have i6 : k < n := by omega
              have HBQ0 : Hid (∀ q, Below w.heap.size w ((wq.alloc (.cells #[.int .i64 y.1, .int .i64 y.2.1, .int .i64 y.2.2] 35)).drewN q)) := fun q => below_dn HBB.out q
              by_cases u1 : z.2.1 < y.2.1
              · have s1 : decide (y.2.1 < z.2.1) = false := by simp; omega
                have s2 : (z.2.1 == y.2.1) = false := by simp; omega
                have HUP : Hid (upI z y = true) := by show upI z y = true; simp [upI, u1]
                go_wp2_with fail
                go_quiet (fail)
                obtain ⟨W1, hW1⟩ : ∃ W1, W1 = wq.alloc (.cells #[.int .i64 y.1, .int .i64 y.2.1, .int .i64 y.2.2] 35) := ⟨_, rfl⟩
                rw [← hW1] at HBB HXB ⊢
                generalize wq.heap.size = xb at HXB ⊢
                clear hW1 HXB2 c0 c1 c2 hbw t1 t2 t3 HB p0 p1 p2 s1 s2 u1
                have HB2 : Hid (Below W1.heap.size W1 (W1.drewN nq)) := below_drewN0 _ _
                go_wp2_with fail
                go_loopw [5] (fun v wr => ∃ j : Nat, j ≤ (k + 1) ∧ v = .int .i64 j ∧ Hid (∀ i (h : i < L.length), i < j → L[i].1 ≠ y.1) ∧ Hid (Below W1.heap.size W1 wr)) (fun v _ => (k + 1) - (intOf v).toNat)
                case atStart => exact ⟨0, by omega, rfl, fun i _ h => by omega, HB2.out⟩
                case round =>
                  obtain ⟨j, hj, rfl, HJ, HW⟩ := hrel
                  obtain ⟨wz, rfl⟩ : ∃ wz, wz = wr := ⟨_, rfl⟩
                  have HBZ : Hid (Below w.heap.size w wz) := HBB.out.trans (HW.out.mono HBB.out.size)
                  by_cases hjl : j < (k + 1)
                  · have hj2 : j < L.length := by have := HN.out; omega
                    obtain ⟨_, _, e, hbw, d0, d1, d2⟩ := (HH.out.below HBZ.out (Nat.le_refl _)).at hj2
                    cases e
                    obtain ⟨x0, x1, x2⟩ := (HXB.out.keep HW.out).cells
                    have hxl := (HXB.out.keep HW.out).lt
                    have hjn : j < n := by omega
                    have HBQ : Hid (∀ q, Below w.heap.size w (wz.drewN q)) := fun q => below_dn HBZ.out q
                    have HWQ : Hid (∀ q, Below W1.heap.size W1 (wz.drewN q)) := fun q => below_dn HW.out q
                    by_cases he : L[j].1 = y.1
                    · have HA : Hid (gdB L = false) := bad_once HK2.out hjl (by rw [he, HY.out])
                      rw [he] at d0
                      clear he HT
                      go_wp2_with fail
                      go_quiet (fail)
                      go_wp2_with fail
                      go_ret
                      exact ⟨by first | (rw [HA.out]; done) | (rw [HA.out]; rfl), HBQ.out _⟩
                    · have eb : (L[j].1 == y.1) = false := by simpa using he
                      have HJ2 : Hid (∀ i (h : i < L.length), i < j + 1 → L[i].1 ≠ y.1) := fun i h1 h2 => by
                        rcases Nat.lt_succ_iff_lt_or_eq.1 h2 with q | rfl
                        · exact HJ.out i h1 q
                        · exact he
                      go_wp2_with fail
                      go_quiet (fail)
                      go_wp2_with fail
                      go_roundw
                      case rel => exact ⟨j + 1, by omega, by go_num, HJ2.out, HWQ.out _⟩
                      case measure => simp [intOf]; omega
                  · obtain rfl : j = (k + 1) := by omega
                    have HR : Hid (RgK L ((k + 1) + 1)) := HT.out HOK.out HE.out (fun _ => by have := HUP.out; rw [HZ.out] at this; simpa using this) (by
                      intro q
                      obtain ⟨z, hz, e⟩ := List.mem_map.1 q
                      obtain ⟨i, hi, e2⟩ := List.getElem_of_mem hz
                      simp only [List.length_take] at hi
                      rw [List.getElem_take] at e2
                      exact HJ.out i (by omega) (by omega) (by rw [e2, e]))
                    go_wp2_with fail
                    go_roundw
                    case rel => exact ⟨(k + 1) + 1, by omega, by first | rfl | go_num, HR.out, HBZ.out⟩
                    case measure => simp [intOf]; omega
              · by_cases u2 : z.2.1 = y.2.1
                · by_cases u3 : z.1 < y.1
                  · have HUP : Hid (upI z y = true) := by show upI z y = true; simp [upI, u2, u3]
                    rw [u2] at p1
                    have s3 : decide (y.1 ≤ z.1) = false := by simp; omega
                    clear u1 u2
                    go_wp2_with fail
                    go_quiet (fail)
                    obtain ⟨W1, hW1⟩ : ∃ W1, W1 = wq.alloc (.cells #[.int .i64 y.1, .int .i64 y.2.1, .int .i64 y.2.2] 35) := ⟨_, rfl⟩
                    rw [← hW1] at HBB HXB ⊢
                    generalize wq.heap.size = xb at HXB ⊢
                    clear hW1 HXB2 c0 c1 c2 hbw t1 t2 t3 HB p0 p1 p2 s3
                    have HB2 : Hid (Below W1.heap.size W1 (W1.drewN nq)) := below_drewN0 _ _
                    go_wp2_with fail
                    go_loopw [5] (fun v wr => ∃ j : Nat, j ≤ (k + 1) ∧ v = .int .i64 j ∧ Hid (∀ i (h : i < L.length), i < j → L[i].1 ≠ y.1) ∧ Hid (Below W1.heap.size W1 wr)) (fun v _ => (k + 1) - (intOf v).toNat)
                    case atStart => exact ⟨0, by omega, rfl, fun i _ h => by omega, HB2.out⟩
                    case round =>
                      obtain ⟨j, hj, rfl, HJ, HW⟩ := hrel
                      obtain ⟨wz, rfl⟩ : ∃ wz, wz = wr := ⟨_, rfl⟩
                      have HBZ : Hid (Below w.heap.size w wz) := HBB.out.trans (HW.out.mono HBB.out.size)
                      by_cases hjl : j < (k + 1)
                      · have hj2 : j < L.length := by have := HN.out; omega
                        obtain ⟨_, _, e, hbw, d0, d1, d2⟩ := (HH.out.below HBZ.out (Nat.le_refl _)).at hj2
                        cases e
                        obtain ⟨x0, x1, x2⟩ := (HXB.out.keep HW.out).cells
                        have hxl := (HXB.out.keep HW.out).lt
                        have hjn : j < n := by omega
                        have HBQ : Hid (∀ q, Below w.heap.size w (wz.drewN q)) := fun q => below_dn HBZ.out q
                        have HWQ : Hid (∀ q, Below W1.heap.size W1 (wz.drewN q)) := fun q => below_dn HW.out q
                        by_cases he : L[j].1 = y.1
                        · have HA : Hid (gdB L = false) := bad_once HK2.out hjl (by rw [he, HY.out])
                          rw [he] at d0
                          clear he HT
                          go_wp2_with fail
                          go_quiet (fail)
                          go_wp2_with fail
                          go_ret
                          exact ⟨by first | (rw [HA.out]; done) | (rw [HA.out]; rfl), HBQ.out _⟩
                        · have eb : (L[j].1 == y.1) = false := by simpa using he
                          have HJ2 : Hid (∀ i (h : i < L.length), i < j + 1 → L[i].1 ≠ y.1) := fun i h1 h2 => by
                            rcases Nat.lt_succ_iff_lt_or_eq.1 h2 with q | rfl
                            · exact HJ.out i h1 q
                            · exact he
                          go_wp2_with fail
                          go_quiet (fail)
                          go_wp2_with fail
                          go_roundw
                          case rel => exact ⟨j + 1, by omega, by go_num, HJ2.out, HWQ.out _⟩
                          case measure => simp [intOf]; omega
                      · obtain rfl : j = (k + 1) := by omega
                        have HR : Hid (RgK L ((k + 1) + 1)) := HT.out HOK.out HE.out (fun _ => by have := HUP.out; rw [HZ.out] at this; simpa using this) (by
                          intro q
                          obtain ⟨z, hz, e⟩ := List.mem_map.1 q
                          obtain ⟨i, hi, e2⟩ := List.getElem_of_mem hz
                          simp only [List.length_take] at hi
                          rw [List.getElem_take] at e2
                          exact HJ.out i (by omega) (by omega) (by rw [e2, e]))
                        go_wp2_with fail
                        go_roundw
                        case rel => exact ⟨(k + 1) + 1, by omega, by first | rfl | go_num, HR.out, HBZ.out⟩
                        case measure => simp [intOf]; omega
                  · have HA : Hid (gdB L = false) := bad_up (k := k) (by omega) (by rw [← HZ.out, ← HY.out]; simp [upI, u2, u3])
                    rw [u2] at p1
                    have s3 : y.1 ≤ z.1 := by omega
                    clear u1 u2 HT
                    go_wp2_with fail
                    go_quiet (fail)
                    go_wp2_with fail
                    go_ret
                    exact ⟨by first | (rw [HA.out]; done) | (rw [HA.out]; rfl), HBQ0.out _⟩
                · have HA : Hid (gdB L = false) := bad_up (k := k) (by omega) (by rw [← HZ.out, ← HY.out]; simp [upI, u2, u1])
                  have s1 : y.2.1 < z.2.1 := by omega
                  clear HT
                  go_wp2_with fail
                  go_quiet (fail)
                  go_wp2_with fail
                  go_ret
                  exact ⟨by first | (rw [HA.out]; done) | (rw [HA.out]; rfl), HBQ0.out _⟩
          · have t1 : decide (262144 ≤ y.1) = false := by simp; omega
            have t2 : y.2.2 < y.2.1 := by omega
            have t3 : decide (y.1 < 0) = false := by simp; omega
            have HA := show Hid _ from HF.out (by simp [okI, h2])
            clear HT HF
            go_wp2_with fail
            go_ret
            exact ⟨by first | (rw [HA.out]; done) | (rw [HA.out]; rfl), HBB.out⟩
        · have t1 : 262144 ≤ y.1 := by omega
          have t3 : decide (y.1 < 0) = false := by simp; omega
          have HA := show Hid _ from HF.out (by simp [okI, h1])
          clear HT HF
          go_wp2_with fail
          go_ret
          exact ⟨by first | (rw [HA.out]; done) | (rw [HA.out]; rfl), HBB.out⟩
      · have t1 : y.1 < 0 := by omega
        have HA := show Hid _ from HF.out (by simp [okI, h0])
        clear HT HF
        go_wp2_with fail
        go_ret
        exact ⟨by first | (rw [HA.out]; done) | (rw [HA.out]; rfl), HBB.out⟩
    · obtain rfl : k = n := by omega
      have HA : Hid (gdB L = true) := by have := HE.out; rw [HN.out] at this; exact this.good
      go_wp2_with fail
      go_ret
      exact ⟨by first | (rw [HA.out]; done) | (rw [HA.out]; rfl), HB.out⟩
end Go.Proofs.Ytpgbkkllnbahpaa
