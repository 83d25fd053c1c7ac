import Derived.Test.YtmddjfofedpggaaDoorLxI
set_option linter.unusedVariables false
namespace Go.Proofs.YtmddjfofedpggaaDoor
open Go.ChangeShapes Go.WideShapes Go.ChangeAt Go.RowKit

theorem letter_any (c : UInt8) (w : World) : Calls Tryd.prog 35 #[.int .u8 c.toNat] w fun e w' => e = .returned (.bool (decide (cl c = 6))) ∧ w = w' := by
  have hb : c.toNat < 256 := c.toNat_lt
  obtain ⟨n, hn⟩ : ∃ n, n = c.toNat := ⟨_, rfl⟩
  obtain ⟨B, hB⟩ : ∃ B, B = decide (cl c = 6) := ⟨_, rfl⟩
  rw [← hB]
  have hc := cl_cases c
  have HB : (B = true ∧ ((65 ≤ n ∧ n ≤ 90) ∨ (97 ≤ n ∧ n ≤ 122) ∨ n = 95)) ∨ (B = false ∧ ¬ (65 ≤ n ∧ n ≤ 90) ∧ ¬ (97 ≤ n ∧ n ≤ 122) ∧ n ≠ 95) := by
    rw [hB, hn]; simp; omega
  rw [← hn]
  rw [← hn] at hb
  clear hn hB hc
  rcases HB with ⟨rfl, h | h | h⟩ | ⟨rfl, h1, h2, h3⟩
  all_goals (try subst h)
  all_goals
    go_enter Tryd.func35, Tryd.ntmps35
    go_wp2
  all_goals (try go_ret)
  all_goals first | exact ⟨rfl, rfl⟩ | (exfalso; omega) | (exact ⟨ret_bool (by first | (simp; omega) | omega), rfl⟩) | trace_state
theorem digit_any (c : UInt8) (w : World) : Calls Tryd.prog 38 #[.int .u8 c.toNat] w fun e w' => e = .returned (.bool (decide (cl c = 7))) ∧ w = w' := by
  have hb : c.toNat < 256 := c.toNat_lt
  obtain ⟨n, hn⟩ : ∃ n, n = c.toNat := ⟨_, rfl⟩
  obtain ⟨B, hB⟩ : ∃ B, B = decide (cl c = 7) := ⟨_, rfl⟩
  rw [← hB]
  have hc := cl_cases c
  have HB : (B = true ∧ (48 ≤ n ∧ n ≤ 57)) ∨ (B = false ∧ ¬ (48 ≤ n ∧ n ≤ 57)) := by
    rw [hB, hn]; simp; omega
  rw [← hn]
  rw [← hn] at hb
  clear hn hB hc
  rcases HB with ⟨rfl, h1, h2⟩ | ⟨rfl, h⟩
  all_goals
    go_enter Tryd.func38, Tryd.ntmps38
    go_wp2
  all_goals (try go_ret)
  all_goals first | exact ⟨rfl, rfl⟩ | (exfalso; omega) | (exact ⟨ret_bool (by first | (simp; omega) | omega), rfl⟩) | trace_state

theorem sk_nl {x : UInt8} {l : List UInt8} (h : cl x = 8) : sk true (x :: l) = sk false (x :: l) := by simp [sk, h]

structure SKm (L : List UInt8) (m : Bool) (j R : Nat) (b : Bool) : Prop where
  out : j + (sk m (L.drop j)).1 = R ∧ (sk m (L.drop j)).2 = b
theorem SKm.next {L m j R b x} (h : SKm L m j R b) (HD : L.drop j = x :: L.drop (j + 1)) (m' : Bool) (e : sk m (x :: L.drop (j + 1)) = ((sk m' (L.drop (j + 1))).1 + 1, (sk m' (L.drop (j + 1))).2)) : SKm L m' (j + 1) R b := by
  obtain ⟨h1, h2⟩ := h.out
  rw [HD, e] at h1 h2
  exact ⟨by simp only at h1; omega, h2⟩
theorem SKm.stop {L m j R b x} (h : SKm L m j R b) (HD : L.drop j = x :: L.drop (j + 1)) {b' : Bool} (e : sk m (x :: L.drop (j + 1)) = (0, b')) : j = R ∧ b' = b := by
  obtain ⟨h1, h2⟩ := h.out
  rw [HD, e] at h1 h2
  exact ⟨by simp only at h1; omega, h2⟩
theorem SKm.fin {L m j R b} (h : SKm L m j R b) (hj : L.length ≤ j) : j = R ∧ true = b := by
  obtain ⟨h1, h2⟩ := h.out
  rw [List.drop_of_length_le hj] at h1 h2
  cases m <;> exact ⟨h1, h2⟩
theorem ret_ib {a b : Int} {c d : Bool} (h1 : a = b) (h2 : c = d) : Ending.returned (.tuple #[.int .i64 a, .bool c]) = .returned (.tuple #[.int .i64 b, .bool d]) := by rw [h1, h2]

set_option maxRecDepth 10000 in
set_option maxHeartbeats 1000000 in
theorem refBlank_any (w : World) (ao : Option Addr) (cap n : Nat) (L : List UInt8) (hT : Txt w ao cap L) (hn : n = L.length) (k : Nat) (hk : k ≤ n) (R : Nat) (b : Bool) (HR : SKm L false k R b) :
    Calls Tryd.prog 27 #[.slice ao n cap, .int .i64 k] w fun e w' => e = .returned (.tuple #[.int .i64 (R : Int), .bool b]) ∧ w = w' := by
  have hc1 : n ≤ cap := by have := hT.1; omega
  have hc2 := hT.2.1
  have HN : Hid (n = L.length) := hn
  clear hn
  go_enter Tryd.func27, Tryd.ntmps27
  go_wp2
  go_loop [1] (fun v => ∃ j : Nat, j ≤ n ∧ v = .int .i64 j ∧ SKm L false j R b) (fun v => n - (intOf v).toNat)
  case atStart => exact ⟨k, hk, rfl, HR⟩
  case round =>
    obtain ⟨j, hj, rfl, HJ⟩ := hrel
    by_cases hlt : j < n
    · obtain ⟨bb, o, rfl, hA⟩ := hT.at (HN.out ▸ hlt)
      obtain ⟨x, hx⟩ : ∃ x, x = L[j]'(HN.out ▸ hlt) := ⟨_, rfl⟩
      have hcell := hA.2 j (HN.out ▸ hlt)
      rw [← hx] at hcell
      have HD : Hid (L.drop j = x :: L.drop (j + 1)) := by rw [hx]; exact List.drop_eq_getElem_cons _
      clear hx
      have hxb : x.toNat < 256 := x.toNat_lt
      by_cases hs : cl x = 8 ∨ cl x = 12
      · have H3 : SKm L false (j + 1) R b := HJ.next HD.out false (by simp [sk, hs])
        have hv : x.toNat = 9 ∨ x.toNat = 10 ∨ x.toNat = 13 ∨ x.toNat = 32 := by have := cl_cases x; omega
        clear hs
        obtain ⟨c, hc⟩ : ∃ c, c = x.toNat := ⟨_, rfl⟩
        rw [← hc] at hv hcell hxb
        clear hc
        rcases hv with rfl | rfl | rfl | rfl
        all_goals
          go_wp2
          go_round
          case rel => exact ⟨j + 1, by omega, by go_num, H3⟩
          case measure => simp [intOf]; omega
      · have HX : Hid (¬ (cl x = 8 ∨ cl x = 12)) := hs
        have hv : x.toNat ≠ 9 ∧ x.toNat ≠ 10 ∧ x.toNat ≠ 13 ∧ x.toNat ≠ 32 := by have := cl_cases x; omega
        obtain ⟨hv1, hv2, hv3, hv4⟩ := hv
        clear hs
        by_cases h47 : x = 47
        · subst h47
          have h47' : (47 : UInt8).toNat = 47 := rfl
          rw [h47'] at hcell
          by_cases hend : j + 1 < n
          · obtain ⟨y, hy⟩ : ∃ y, y = L[j + 1]'(HN.out ▸ hend) := ⟨_, rfl⟩
            have hcell2 := hA.2 (j + 1) (HN.out ▸ hend)
            rw [← hy] at hcell2
            have HD2 : Hid (L.drop (j + 1) = y :: L.drop (j + 1 + 1)) := by rw [hy]; exact List.drop_eq_getElem_cons _
            clear hy
            by_cases hy47 : y = 47
            · have HJ2 : SKm L true j R b := by
                obtain ⟨h1, h2⟩ := HJ.out
                have e : sk false (L.drop j) = sk true (L.drop j) := by rw [HD.out, HD2.out, hy47]; simp [sk, cl47]
                rw [e] at h1 h2; exact ⟨h1, h2⟩
              subst hy47
              rw [h47'] at hcell2
              have hcell3 : w.cell? ⟨bb, o + j + 1, none⟩ = some (.int .u8 47) := by rw [Nat.add_assoc]; exact hcell2
              go_wp2
              go_loop [1] (fun v => ∃ i : Nat, j ≤ i ∧ i ≤ n ∧ v = .int .i64 i ∧ SKm L true i R b) (fun v => n - (intOf v).toNat)
              case atStart => exact ⟨j, by omega, hj, rfl, HJ2⟩
              case round =>
                obtain ⟨i, hji, hi, rfl, HI⟩ := hrel
                by_cases hil : i < n
                · obtain ⟨z, hz⟩ : ∃ z, z = L[i]'(HN.out ▸ hil) := ⟨_, rfl⟩
                  have hcz := hA.2 i (HN.out ▸ hil)
                  rw [← hz] at hcz
                  have HDz : Hid (L.drop i = z :: L.drop (i + 1)) := by rw [hz]; exact List.drop_eq_getElem_cons _
                  clear hz
                  have hzb : z.toNat < 256 := z.toNat_lt
                  obtain ⟨c, hc⟩ : ∃ c, c = z.toNat := ⟨_, rfl⟩
                  rw [← hc] at hcz hzb
                  have HC : Hid (c = z.toNat) := hc
                  clear hc
                  by_cases h10 : c = 10
                  · have HI2 : SKm L false i R b := by
                      have h8 : cl z = 8 := by have := cl_cases z; have := HC.out; omega
                      obtain ⟨h1, h2⟩ := HI.out
                      have e : sk true (L.drop i) = sk false (L.drop i) := by rw [HDz.out]; exact sk_nl h8
                      rw [e] at h1 h2; exact ⟨h1, h2⟩
                    have hne : j < i := by
                      rcases Nat.lt_or_ge j i with h | h
                      · exact h
                      · have : i = j := by omega
                        subst this
                        have e := HDz.out; rw [HD.out] at e
                        have e1 : (47 : UInt8) = z := (List.cons.inj e).1
                        rw [← e1] at HC; have := HC.out; rw [h47'] at this; omega
                    subst h10
                    go_wp2
                    go_round
                    case rel => exact ⟨i, by omega, rfl, HI2⟩
                    case measure => simp [intOf]; omega
                  · by_cases hok : c = 9 ∨ c = 13 ∨ (32 ≤ c ∧ c ≤ 126)
                    · have HI2 : SKm L true (i + 1) R b := HI.next HDz.out true (by
                        have h8 : cl z ≠ 8 := by have := cl_cases z; have := HC.out; omega
                        have h0 : cl z ≠ 0 := by have := cl_cases z; have := HC.out; omega
                        simp [sk, h8, h0])
                      rcases hok with rfl | rfl | ⟨h32, h126⟩
                      · go_wp2
                        go_round
                        case rel => exact ⟨i + 1, by omega, by omega, by go_num, HI2⟩
                        case measure => simp [intOf]; omega
                      · go_wp2
                        go_round
                        case rel => exact ⟨i + 1, by omega, by omega, by go_num, HI2⟩
                        case measure => simp [intOf]; omega
                      · have hI1 : ((c : Int) != 10) = true := by simp; omega
                        have hI2 : ((c : Int) != 9) = true := by simp; omega
                        have hI3 : ((c : Int) != 13) = true := by simp; omega
                        have hI4 : ¬ (c : Int) < 32 := by omega
                        have hI5 : ¬ (126 : Int) < (c : Int) := by omega
                        go_wp2
                        all_goals
                          go_round
                          case rel => exact ⟨i + 1, by omega, by omega, by go_num, HI2⟩
                          case measure => simp [intOf]; omega
                    · have hst := HI.stop HDz.out (b' := false) (by
                        have h0 : cl z = 0 := by have := cl_cases z; have := HC.out; omega
                        simp [sk, h0])
                      obtain ⟨rfl, rfl⟩ := hst
                      have hI1 : ((c : Int) != 10) = true := by simp; omega
                      have hI2 : ((c : Int) != 9) = true := by simp; omega
                      have hI3 : ((c : Int) != 13) = true := by simp; omega
                      have hI4 : (c : Int) < 32 ∨ (¬ (c : Int) < 32 ∧ (126 : Int) < (c : Int)) := by omega
                      clear hok
                      rcases hI4 with hI4 | ⟨hI4, hI5⟩
                      all_goals
                        go_wp2
                        go_ret2
                        exact ⟨rfl, rfl⟩
                · have hin : i = n := by omega
                  subst hin
                  have HI2 : SKm L false i R b := by
                    obtain ⟨h1, h2⟩ := HI.fin (by have := HN.out; omega)
                    exact ⟨by rw [List.drop_of_length_le (by have := HN.out; omega)]; exact h1, by rw [List.drop_of_length_le (by have := HN.out; omega)]; exact h2⟩
                  go_wp2
                  go_round
                  case rel => exact ⟨i, by omega, rfl, HI2⟩
                  case measure => simp [intOf]; omega
            · have hst := HJ.stop HD.out (b' := true) (by rw [HD2.out]; simp [sk, cl47, hy47])
              obtain ⟨rfl, rfl⟩ := hst
              have hy2 : ¬ y.toNat = 47 := fun e => hy47 (UInt8.toNat_inj.1 e)
              have hyb : y.toNat < 256 := y.toNat_lt
              obtain ⟨c, hc⟩ : ∃ c, c = y.toNat := ⟨_, rfl⟩
              rw [← hc] at hy2 hyb hcell2
              clear hc
              have hyI : ((c : Int) != 47) = true := by simp; omega
              have hcell3 : w.cell? ⟨bb, o + j + 1, none⟩ = some (.int .u8 c) := by rw [Nat.add_assoc]; exact hcell2
              go_wp2
              go_ret2
              exact ⟨rfl, rfl⟩
          · have hst := HJ.stop HD.out (b' := true) (by rw [List.drop_of_length_le (l := L) (i := j + 1) (by have := HN.out; omega)]; simp [sk, cl47])
            obtain ⟨rfl, rfl⟩ := hst
            have hend2 : n = j + 1 := by omega
            subst hend2
            go_wp2
            go_ret2
            exact ⟨rfl, rfl⟩
        · have hst := HJ.stop HD.out (b' := true) (by simp [sk, HX.out, h47])
          have h47n : ¬ x.toNat = 47 := fun e => h47 (UInt8.toNat_inj.1 e)
          obtain ⟨rfl, rfl⟩ := hst
          obtain ⟨c, hc⟩ : ∃ c, c = x.toNat := ⟨_, rfl⟩
          rw [← hc] at hv1 hv2 hv3 hv4 h47n hcell hxb
          clear hc
          have hxI : ((c : Int) != 47) = true := by simp; omega
          have hx1 : ((c : Int) == 9) = false := by simp; omega
          have hx2 : ((c : Int) == 10) = false := by simp; omega
          have hx3 : ((c : Int) == 13) = false := by simp; omega
          have hx4 : ((c : Int) == 32) = false := by simp; omega
          go_wp2
          go_ret2
          exact ⟨rfl, rfl⟩
    · have hst := HJ.fin (by have := HN.out; omega)
      obtain ⟨rfl, rfl⟩ := hst
      go_wp2
      go_ret2
      exact ⟨rfl, rfl⟩
end Go.Proofs.YtmddjfofedpggaaDoor
