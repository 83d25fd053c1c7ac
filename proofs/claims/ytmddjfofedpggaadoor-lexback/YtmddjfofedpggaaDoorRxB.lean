import Derived.Test.YtmddjfofedpggaaDoorRxA
set_option linter.unusedVariables false
namespace Go.Proofs.YtmddjfofedpggaaDoor
open Go.ChangeShapes Go.WideShapes Go.ChangeAt Go.RowKit

theorem ret_int {k : IntKind} {a b : Int} (h : a = b) : Ending.returned (.int k a) = .returned (.int k b) := by rw [h]
def rowP (b : Bool) (c : UInt8) : Bool := cl c == 7 || (b && cl c == 6)
structure RW (L : List UInt8) (p : UInt8 → Bool) (k j N : Nat) : Prop where
  out : j - k + ((L.drop j).takeWhile p).length = N

set_option maxHeartbeats 1000000 in
theorem row_any (w : World) (bb o cap n : Nat) (L : List UInt8) (hA : At w bb o L) (hn : n = L.length) (hm : n ≤ 9223372036854775807) (k : Nat) (hk : k ≤ n) (b : Bool) (N : Nat) (HR : RW L (rowP b) k k N) :
    Calls Tryd.prog 36 #[.slice (some ⟨bb, o, none⟩) n cap, .int .i64 k, .bool b] w fun e w' => e = .returned (.int .i64 ((k + N : Nat) : Int)) ∧ w = w' := by
  have HN : Hid (n = L.length) := hn
  clear hn
  go_enter Tryd.func36, Tryd.ntmps36
  go_wp2
  go_loop [1] (fun v => ∃ j : Nat, k ≤ j ∧ j ≤ n ∧ v = .int .i64 j ∧ RW L (rowP b) k j N) (fun v => n - (intOf v).toNat)
  case atStart => exact ⟨k, by omega, hk, rfl, HR⟩
  case round =>
    obtain ⟨j, hkj, hj, rfl, HJ⟩ := hrel
    by_cases hlt : j < n
    · obtain ⟨x, hx⟩ : ∃ x, x = L[j]'(HN.out ▸ hlt) := ⟨_, rfl⟩
      have hcell := hA.2 j (HN.out ▸ hlt)
      rw [← hx] at hcell
      have HD : Hid (L.drop j = x :: L.drop (j + 1)) := by rw [hx]; exact List.drop_eq_getElem_cons _
      clear hx
      by_cases h7 : cl x = 7
      · have H3 : RW L (rowP b) k (j + 1) N := ⟨row_next HJ.out hkj HD.out (by simp [rowP, h7])⟩
        go_wp2_with (first | (go_at_call 38; refine (digit_any _ _).mono ?_; rintro e w' ⟨rfl, rfl⟩) | (go_at_call 35; refine (letter_any _ _).mono ?_; rintro e w' ⟨rfl, rfl⟩))
        go_round
        case rel => exact ⟨j + 1, by omega, by omega, by go_num, H3⟩
        case measure => simp [intOf]; omega
      · cases b
        · have hE : N = j - k := row_stop HJ.out HD.out (by simp [rowP, h7])
          have HE : Hid _ := hE
          clear hE
          go_wp2_with (first | (go_at_call 38; refine (digit_any _ _).mono ?_; rintro e w' ⟨rfl, rfl⟩) | (go_at_call 35; refine (letter_any _ _).mono ?_; rintro e w' ⟨rfl, rfl⟩))
          go_ret
          exact ⟨ret_int (by have := HE.out; omega), rfl⟩
        · by_cases h6 : cl x = 6
          · have H3 : RW L (rowP true) k (j + 1) N := ⟨row_next HJ.out hkj HD.out (by simp [rowP, h6])⟩
            go_wp2_with (first | (go_at_call 38; refine (digit_any _ _).mono ?_; rintro e w' ⟨rfl, rfl⟩) | (go_at_call 35; refine (letter_any _ _).mono ?_; rintro e w' ⟨rfl, rfl⟩))
            go_round
            case rel => exact ⟨j + 1, by omega, by omega, by go_num, H3⟩
            case measure => simp [intOf]; omega
          · have hE : N = j - k := row_stop HJ.out HD.out (by simp [rowP, h7, h6])
            have HE : Hid _ := hE
            clear hE
            go_wp2_with (first | (go_at_call 38; refine (digit_any _ _).mono ?_; rintro e w' ⟨rfl, rfl⟩) | (go_at_call 35; refine (letter_any _ _).mono ?_; rintro e w' ⟨rfl, rfl⟩))
            go_ret
            exact ⟨ret_int (by have := HE.out; omega), rfl⟩
    · have hE : N = j - k := row_end HJ.out (by have := HN.out; omega)
      have HE : Hid _ := hE
      clear hE
      go_wp2_with fail
      go_ret
      exact ⟨ret_int (by have := HE.out; omega), rfl⟩

theorem valOf_snoc (a : Nat) (l : List UInt8) (c : UInt8) : valOf a (l ++ [c]) = 10 * valOf a l + (c.toNat - 48) := by simp [valOf]
theorem valOf_lt (l : List UInt8) (h : ∀ c ∈ l, cl c = 7) : valOf 0 l < 10 ^ l.length := by
  suffices ∀ r : List UInt8, (∀ c ∈ r, cl c = 7) → valOf 0 r.reverse < 10 ^ r.length by
    have := this l.reverse (by simpa using h); simpa using this
  intro r
  induction r with
  | nil => simp [valOf]
  | cons c r ih =>
    intro h
    have h1 := ih (fun x hx => h x (by simp [hx]))
    have h2 : cl c = 7 := h c (by simp)
    have h3 : 48 ≤ c.toNat ∧ c.toNat ≤ 57 := by have := cl_cases c; omega
    rw [List.reverse_cons, valOf_snoc, List.length_cons, Nat.pow_succ]
    omega

structure VL (M : List UInt8) (i y : Nat) : Prop where
  out : valOf 0 (M.take i) = y
def numB (M : List UInt8) : Int × Bool := match numVal M with | none => (0, false) | some v => ((v : Int), true)
structure NB (M : List UInt8) (z : Int) (b : Bool) : Prop where
  out : numB M = (z, b)

theorem NB.bad {M z b} (h : NB M z b) (hd : ∀ c ∈ M, cl c = 7) (hb : (1 < M.length ∧ M.head? = some 48) ∨ 9223372036854775807 < valOf 0 M) : (0 : Int) = z ∧ false = b := by
  have := h.out
  simp only [numB, numVal, hb, if_true] at this
  exact ⟨(Prod.mk.inj this).1, (Prod.mk.inj this).2⟩
theorem NB.good {M z b} (h : NB M z b) (hb : ¬ ((1 < M.length ∧ M.head? = some 48) ∨ 9223372036854775807 < valOf 0 M)) : ((valOf 0 M : Nat) : Int) = z ∧ true = b := by
  have := h.out
  simp only [numB, numVal, hb, if_false] at this
  exact ⟨(Prod.mk.inj this).1, (Prod.mk.inj this).2⟩

/-- More than nineteen digits, the first no nought: above the greatest number. -/
theorem long_big : ∀ (M : List UInt8), (∀ c ∈ M, cl c = 7) → M.head? ≠ some 48 → 0 < M.length → 10 ^ (M.length - 1) ≤ valOf 0 M := by
  suffices ∀ (r : List UInt8) (a : Nat), (∀ c ∈ r, cl c = 7) → a * 10 ^ r.length ≤ valOf a r by
    intro M hd hh hl
    cases M with
    | nil => simp at hl
    | cons c M =>
      have h2 : cl c = 7 := hd c (by simp)
      have h3 : 48 ≤ c.toNat ∧ c.toNat ≤ 57 := by have := cl_cases c; omega
      have h4 : c.toNat ≠ 48 := fun e => hh (by simp; exact UInt8.toNat_inj.1 e)
      have := this M (c.toNat - 48) (fun x hx => hd x (by simp [hx]))
      have e : valOf 0 (c :: M) = valOf (c.toNat - 48) M := by simp [valOf]
      rw [e]
      refine Nat.le_trans ?_ this
      simp only [List.length_cons, Nat.add_sub_cancel]
      exact Nat.le_mul_of_pos_left _ (by omega)
  intro r
  induction r with
  | nil => intro a _; simp [valOf]
  | cons c r ih =>
    intro a hd
    have := ih (10 * a + (c.toNat - 48)) (fun x hx => hd x (by simp [hx]))
    have e : valOf a (c :: r) = valOf (10 * a + (c.toNat - 48)) r := rfl
    rw [e]
    refine Nat.le_trans ?_ this
    rw [List.length_cons, Nat.pow_succ, Nat.mul_comm (10 ^ r.length) 10, ← Nat.mul_assoc, Nat.mul_comm a 10]
    exact Nat.mul_le_mul_right _ (by omega)

set_option maxHeartbeats 1000000 in
theorem refNumber_any (w : World) (bb o cap m : Nat) (M : List UInt8) (hA : At w bb o M) (hn : m = M.length) (hm : m ≤ 9223372036854775807) (hm0 : 0 < m) (hd : ∀ c ∈ M, cl c = 7) (z : Int) (b : Bool) (HR : NB M z b) :
    Calls Tryd.prog 39 #[.slice (some ⟨bb, o, none⟩) m cap] w fun e w' => e = .returned (.tuple #[.int .i64 z, .bool b]) ∧ w = w' := by
  have HN : Hid (m = M.length) := hn
  clear hn
  have HDG : Hid (∀ c ∈ M, cl c = 7) := hd
  clear hd
  obtain ⟨x, hx⟩ : ∃ x, x = M[0]'(HN.out ▸ hm0) := ⟨_, rfl⟩
  have hcell := hA.2 0 (HN.out ▸ hm0)
  rw [← hx] at hcell
  have hcell0 : w.cell? ⟨bb, o, none⟩ = some (.int .u8 x.toNat) := hcell
  have HH : Hid (M.head? = some x) := by rw [hx, List.head?_eq_getElem?, List.getElem?_eq_getElem]; exact rfl
  clear hx hcell
  by_cases h1 : 1 < m ∧ x.toNat = 48
  · obtain ⟨rfl, rfl⟩ := HR.bad HDG.out (.inl ⟨by have := HN.out; omega, by rw [HH.out]; have : x = 48 := UInt8.toNat_inj.1 h1.2; rw [this]⟩)
    obtain ⟨h1, h2⟩ := h1
    rw [h2] at hcell0
    go_enter Tryd.func39, Tryd.ntmps39
    go_wp2
    go_ret2
    exact ⟨rfl, rfl⟩
  · have hp : m = 1 ∨ (1 < m ∧ ((x.toNat : Int) == 48) = false) := by
      rcases Nat.lt_or_ge 1 m with h | h
      · exact .inr ⟨h, by simp; intro e; exact h1 ⟨h, by omega⟩⟩
      · exact .inl (by omega)
    have HH1 : Hid (¬ (1 < m ∧ x.toNat = 48)) := h1
    have HH2 : Hid (¬ (1 < M.length ∧ M.head? = some 48)) := by
      rw [HH.out]; rintro ⟨a, b⟩; exact HH1.out ⟨by have := HN.out; omega, by rw [Option.some.inj b]; rfl⟩
    clear h1
    by_cases h19 : 19 < m
    · have hb := HR.bad HDG.out (.inr (by
        have h1 := long_big M HDG.out (by intro e; exact HH2.out ⟨by have := HN.out; omega, e⟩) (by have := HN.out; omega)
        have h2 : 10 ^ 19 ≤ 10 ^ (M.length - 1) := Nat.pow_le_pow_right (by omega) (by have := HN.out; omega)
        omega))
      obtain ⟨rfl, rfl⟩ := hb
      rcases hp with hp | ⟨hp1, hp2⟩
      · omega
      · go_enter Tryd.func39, Tryd.ntmps39
        go_wp2
        go_ret2
        exact ⟨rfl, rfl⟩
    · have hp3 : Hid _ := hp
      have hf : (((1 : Int) < (m : Int)) ∧ ((x.toNat : Int) == 48) = false) ∨ ¬ (1 : Int) < (m : Int) := by
        rcases hp with h | ⟨h1, h2⟩
        · exact .inr (by omega)
        · exact .inl ⟨by omega, h2⟩
      clear hp
      rcases hf with ⟨hp1, hp2⟩ | hp1
      all_goals
        go_enter Tryd.func39, Tryd.ntmps39
        go_wp2
        go_loop [4, 5] (fun v c => ∃ i y : Nat, i ≤ m ∧ v = .int .u64 y ∧ c = .int .i64 i ∧ VL M i y) (fun _ c => m - (intOf c).toNat)
        case atStart => exact ⟨0, 0, by omega, rfl, rfl, ⟨rfl⟩⟩
        case round =>
          obtain ⟨i, y, hi, rfl, rfl, HV⟩ := hrel
          by_cases hlt : i < m
          · obtain ⟨c, hc⟩ : ∃ c, c = M[i]'(HN.out ▸ hlt) := ⟨_, rfl⟩
            have hcc := hA.2 i (HN.out ▸ hlt)
            rw [← hc] at hcc
            have h7 : cl c = 7 := HDG.out c (by rw [hc]; exact List.getElem_mem _)
            have hcr : 48 ≤ c.toNat ∧ c.toNat ≤ 57 := by have := cl_cases c; omega
            obtain ⟨hc1, hc2⟩ := hcr
            clear h7
            have hy : y < 1000000000000000000 := by
              have e1 := valOf_lt (M.take i) (fun c hc => HDG.out c (List.mem_of_mem_take hc))
              rw [HV.out, List.length_take, Nat.min_eq_left (by have := HN.out; omega)] at e1
              exact Nat.lt_of_lt_of_le e1 (Nat.le_trans (Nat.pow_le_pow_right (by omega) (show i ≤ 18 by omega)) (by decide))
            have HV2 : VL M (i + 1) (10 * y + (c.toNat - 48)) := ⟨by
              rw [List.take_add_one, List.getElem?_eq_getElem (HN.out ▸ hlt), ← hc]
              show valOf 0 (List.take i M ++ [c]) = _
              rw [valOf_snoc, HV.out]⟩
            clear hc
            go_wp2
            go_round
            case rel => exact ⟨i + 1, 10 * y + (c.toNat - 48), by omega, by go_num, by go_num, HV2⟩
            case measure => simp [intOf]; omega
          · have him : i = m := by omega
            subst him
            have hV : valOf 0 M = y := by have := HV.out; rwa [List.take_of_length_le (by have := HN.out; omega)] at this
            by_cases hbig : 9223372036854775807 < y
            · obtain ⟨rfl, rfl⟩ := HR.bad HDG.out (.inr (by rw [hV]; exact hbig))
              clear hV
              go_wp2
              go_ret2
              exact ⟨rfl, rfl⟩
            · obtain ⟨h2, h3⟩ := HR.good (by rintro (h | h); exact HH2.out h; rw [hV] at h; exact hbig h)
              rw [hV] at h2
              subst h2 h3
              clear hV
              go_wp2
              go_ret2
              exact ⟨rfl, rfl⟩
end Go.Proofs.YtmddjfofedpggaaDoor
