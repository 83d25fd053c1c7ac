import Derived.Test.YtjegnmbidhpegaaOps
import Derived.Test.YtjegnmbidhpegaaNumS
import Derived.Test.YtjegnmbidhpegaaNumR
namespace Go.Proofs.Ytjegnmbidhpegaa
open Go.ChangeShapes Go.WideShapes Go.ChangeAt Go.RowKit

theorem ret_int {k : IntKind} {a b : Int} (h : a = b) : Ending.returned (.int k a) = .returned (.int k b) := by rw [h]

theorem refAdd_any (a b : Int) (w : World) : Calls Try.prog 23 #[.int .i64 a, .int .i64 b] w fun e w' => e = .returned (.int .i64 (wrap64 (a + b))) ∧ w' = w := by
  go_enter Try.func23, Try.ntmps23
  go_wp2
  go_ret
  exact ⟨ret_int (NumR.ra a b), rfl⟩
theorem refSub_any (a b : Int) (w : World) : Calls Try.prog 24 #[.int .i64 a, .int .i64 b] w fun e w' => e = .returned (.int .i64 (wrap64 (a - b))) ∧ w' = w := by
  go_enter Try.func24, Try.ntmps24
  go_wp2
  go_ret
  exact ⟨ret_int (NumR.rs a b), rfl⟩
theorem refMul_any (a b : Int) (w : World) : Calls Try.prog 25 #[.int .i64 a, .int .i64 b] w fun e w' => e = .returned (.int .i64 (wrap64 (a * b))) ∧ w' = w := by
  go_enter Try.func25, Try.ntmps25
  go_wp2
  go_ret
  exact ⟨ret_int (NumR.rm a b), rfl⟩
theorem refNeg_any (a : Int) (w : World) : Calls Try.prog 36 #[.int .i64 a] w fun e w' => e = .returned (.int .i64 (wrap64 (-a))) ∧ w' = w := by
  go_enter Try.func36, Try.ntmps36
  go_wp2_with (first | (go_at_call 24; refine (refSub_any _ _ _).mono ?_; rintro e w' ⟨rfl, rfl⟩))
  go_ret
  exact ⟨rfl, rfl⟩
theorem size_neg (a : Int) (h : -9223372036854775808 ≤ a) (h0 : a < 0) (w : World) : Calls Try.prog 40 #[.int .i64 a] w fun e w' => e = .returned (.int .u64 (-a)) ∧ w' = w := by
  go_enter Try.func40, Try.ntmps40
  go_wp2
  go_ret
  exact ⟨ret_int (NumR.rneg a h h0), rfl⟩
theorem size_pos (a : Int) (h : a ≤ 9223372036854775807) (h0 : 0 ≤ a) (w : World) : Calls Try.prog 40 #[.int .i64 a] w fun e w' => e = .returned (.int .u64 a) ∧ w' = w := by
  go_enter Try.func40, Try.ntmps40
  go_wp2
  go_ret
  exact ⟨rfl, rfl⟩

theorem refShl_neg (a b : Int) (h : b < 0) (w : World) : Calls Try.prog 33 #[.int .i64 a, .int .i64 b] w fun e w' => e = .returned (.int .i64 0) ∧ w' = w := by
  go_enter Try.func33, Try.ntmps33
  go_wp2
  go_ret
  exact ⟨rfl, rfl⟩
theorem refShr_neg (a b : Int) (h : b < 0) (w : World) : Calls Try.prog 35 #[.int .i64 a, .int .i64 b] w fun e w' => e = .returned (.int .i64 0) ∧ w' = w := by
  go_enter Try.func35, Try.ntmps35
  go_wp2
  go_ret
  exact ⟨rfl, rfl⟩
open NumS in
theorem refShl_pos (a : Int) (n : Nat) (ha : -9223372036854775808 ≤ a ∧ a ≤ 9223372036854775807) (hn : n ≤ 9223372036854775807) (w : World) : Calls Try.prog 33 #[.int .i64 a, .int .i64 n] w fun e w' => e = .returned (.int .i64 (xk a (min n 64))) ∧ w' = w := by
  have hx0 : Hid (xk a 0 = a) := xk_zero a ha
  have hxs : Hid (∀ k, wrap64 (xk a k + xk a k) = xk a (k + 1)) := fun k => by rw [← xk_succ a k]; congr 1; omega
  clear ha
  go_enter Try.func33, Try.ntmps33
  go_wp2
  go_loop [0, 5] (fun x i => ∃ k : Nat, k ≤ min n 64 ∧ i = .int .i64 k ∧ x = .int .i64 (xk a k)) (fun _ i => 64 - (intOf i).toNat)
  case atStart => exact ⟨0, Nat.zero_le _, rfl, by rw [hx0.out]⟩
  case round =>
    obtain ⟨k, hk, rfl, rfl⟩ := hrel
    by_cases hlt : k < min n 64
    · have h1 : k < n := by omega
      have h2 : k < 64 := by omega
      clear hk hlt
      go_wp2_with (first | (go_at_call 23; refine (refAdd_any _ _ _).mono ?_; rintro e w' ⟨rfl, rfl⟩))
      go_round
      case rel => exact ⟨k + 1, by omega, by go_num, by rw [hxs.out]⟩
      case measure => simp [intOf]; omega
    · obtain rfl : k = min n 64 := by omega
      clear hk hlt
      by_cases h64 : n < 64
      · have e1 : min n 64 = n := by omega
        go_wp2
        go_ret
        exact ⟨rfl, rfl⟩
      · have e1 : min n 64 = 64 := by omega
        go_wp2
        all_goals
          go_ret
          exact ⟨rfl, rfl⟩
open NumS in
theorem refShr_pos (a : Int) (n : Nat) (ha : -9223372036854775808 ≤ a ∧ a ≤ 9223372036854775807) (hn : n ≤ 9223372036854775807) (w : World) : Calls Try.prog 35 #[.int .i64 a, .int .i64 n] w fun e w' => e = .returned (.int .i64 (yk a (min n 64))) ∧ w' = w := by
  have hy0 : Hid (yk a 0 = a) := yk_zero a
  have hys : Hid (∀ k, yk a (k + 1) = yk a k / 2) := fun k => yk_succ a k
  have hyb : Hid (∀ k, -9223372036854775808 ≤ yk a k ∧ yk a k ≤ 9223372036854775807) := yk_bd a ha
  clear ha
  go_enter Try.func35, Try.ntmps35
  go_wp2
  go_loop [0, 5] (fun x i => ∃ k : Nat, k ≤ min n 64 ∧ i = .int .i64 k ∧ x = .int .i64 (yk a k)) (fun _ i => 64 - (intOf i).toNat)
  case atStart => exact ⟨0, Nat.zero_le _, rfl, by rw [hy0.out]⟩
  case round =>
    obtain ⟨k, hk, rfl, rfl⟩ := hrel
    by_cases hlt : k < min n 64
    · have h1 : k < n := by omega
      have h2 : k < 64 := by omega
      have Hb : Hid (-9223372036854775808 ≤ yk a k ∧ yk a k ≤ 9223372036854775807) := hyb.out k
      have Hs : Hid (yk a (k + 1) = yk a k / 2) := hys.out k
      clear hk hlt
      generalize yk a k = y at *
      by_cases hodd : y % 2 = 1
      · have ht : ((IntKind.u64.wrap y).tmod 2 == 1) = true := NumS.odd_yes y hodd
        clear hodd
        go_wp2
        go_round
        case rel => exact ⟨k + 1, by omega, by go_num, by rw [Hs.out, NumS.half_odd y Hb.out ht]⟩
        case measure => simp [intOf]; omega
      · have ht : ((IntKind.u64.wrap y).tmod 2 == 1) = false := NumS.odd_no y hodd
        clear hodd
        go_wp2
        go_round
        case rel => exact ⟨k + 1, by omega, by go_num, by rw [Hs.out, NumS.half_even y Hb.out ht]⟩
        case measure => simp [intOf]; omega
    · obtain rfl : k = min n 64 := by omega
      clear hk hlt
      by_cases h64 : n < 64
      · have e1 : min n 64 = n := by omega
        go_wp2
        go_ret
        exact ⟨rfl, rfl⟩
      · have e1 : min n 64 = 64 := by omega
        go_wp2
        all_goals
          go_ret
          exact ⟨rfl, rfl⟩
end Go.Proofs.Ytjegnmbidhpegaa
