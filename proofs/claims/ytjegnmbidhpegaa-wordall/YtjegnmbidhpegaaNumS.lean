import Derived.WalkKit
import Derived.OpenShut
namespace Go.Proofs.Ytjegnmbidhpegaa.NumS
open Go.RowKit

theorem i64_and1 (n : Int) : bits .and .i64 n 1 = n % 2 := by
  have h1 : (BitVec.ofInt 64 1).toNat = 2 ^ 1 - 1 := by decide
  have key : (BitVec.ofInt 64 n &&& BitVec.ofInt 64 1).toNat = (n % ((2 ^ 64 : Nat) : Int)).toNat % 2 ^ 1 := by
    rw [BitVec.toNat_and, BitVec.toNat_ofInt, h1, Nat.and_two_pow_sub_one_eq_mod]
  show IntKind.i64.wrap ((BitVec.ofInt 64 n &&& BitVec.ofInt 64 1).toNat : Nat) = n % 2
  rw [key, IntKind.wrap_i64]
  omega

theorem wrap_mod (x y : Int) (h : x % 18446744073709551616 = y % 18446744073709551616) : wrap64 x = wrap64 y := by
  unfold wrap64; omega
theorem wrap_emod (x : Int) : wrap64 x % 18446744073709551616 = x % 18446744073709551616 := by
  unfold wrap64; omega

/-- What k doublings make of a; what k halvings make of it. -/
def xk (a : Int) (k : Nat) : Int := wrap64 (a * 2 ^ k)
def yk (a : Int) (k : Nat) : Int := a / 2 ^ k

theorem xk_zero (a : Int) (h : -9223372036854775808 ≤ a ∧ a ≤ 9223372036854775807) : xk a 0 = a := by
  unfold xk wrap64; simp; omega
theorem yk_zero (a : Int) : yk a 0 = a := by unfold yk; simp
theorem xk_succ (a : Int) (k : Nat) : wrap64 (xk a k * 2) = xk a (k + 1) := by
  unfold xk
  apply wrap_mod
  rw [Int.mul_emod, wrap_emod, ← Int.mul_emod, Int.pow_succ, Int.mul_assoc]
theorem yk_succ (a : Int) (k : Nat) : yk a (k + 1) = yk a k / 2 := by
  unfold yk
  rw [Int.pow_succ, Int.ediv_ediv_of_nonneg (by have := Int.pow_pos (n := 2) (m := k) (by decide); omega)]
theorem yk_bd (a : Int) (h : -9223372036854775808 ≤ a ∧ a ≤ 9223372036854775807) : ∀ k : Nat, -9223372036854775808 ≤ yk a k ∧ yk a k ≤ 9223372036854775807
  | 0 => by rw [yk_zero]; exact h
  | k + 1 => by
    have := yk_bd a h k
    rw [yk_succ]
    omega
theorem half (y : Int) (h : -9223372036854775808 ≤ y ∧ y ≤ 9223372036854775807) : wrap64 ((wrap64 (y - y % 2)).tdiv 2) = y / 2 := by
  have e1 : wrap64 (y - y % 2) = y - y % 2 := by unfold wrap64; omega
  have e2 : (y - y % 2).tdiv 2 = y / 2 := by
    have : y - y % 2 = 2 * (y / 2) := by omega
    rw [this, Int.mul_tdiv_cancel_left _ (by decide)]
  rw [e1, e2]
  unfold wrap64; omega
theorem xk_big (a : Int) : xk a 64 = 0 := by
  unfold xk wrap64
  have : (2 : Int) ^ 64 = 18446744073709551616 := by decide
  rw [this]; omega
theorem yk_big (a : Int) (h : -9223372036854775808 ≤ a ∧ a ≤ 9223372036854775807) : yk a 64 = if a < 0 then -1 else 0 := by
  unfold yk
  have : (2 : Int) ^ 64 = 18446744073709551616 := by decide
  rw [this]; split <;> omega

theorem odd_yes (y : Int) (h : y % 2 = 1) : ((IntKind.u64.wrap y).tmod 2 == 1) = true := by
  rw [IntKind.wrap_u64, tmod_of_emod]; simp; omega
theorem odd_no (y : Int) (h : ¬ y % 2 = 1) : ((IntKind.u64.wrap y).tmod 2 == 1) = false := by
  rw [IntKind.wrap_u64, tmod_of_emod]; simp; omega
theorem odd_of {y : Int} (h : ((IntKind.u64.wrap y).tmod 2 == 1) = true) : y % 2 = 1 := by
  rw [IntKind.wrap_u64, tmod_of_emod] at h; simp at h; omega
theorem half_odd (y : Int) (h : -9223372036854775808 ≤ y ∧ y ≤ 9223372036854775807) (ht : ((IntKind.u64.wrap y).tmod 2 == 1) = true) : wrap64 ((wrap64 (y - 1)).tdiv 2) = y / 2 := by
  have e := odd_of ht
  have := half y h
  rw [e] at this
  exact this
theorem half_even (y : Int) (h : -9223372036854775808 ≤ y ∧ y ≤ 9223372036854775807) (ht : ((IntKind.u64.wrap y).tmod 2 == 1) = false) : wrap64 ((wrap64 y).tdiv 2) = y / 2 := by
  have e : y % 2 = 0 := by
    by_cases h1 : y % 2 = 1
    · rw [odd_yes y h1] at ht; exact absurd ht (by decide)
    · omega
  have h2 := half y h
  rw [e] at h2
  rw [Int.sub_zero] at h2
  exact h2
end Go.Proofs.Ytjegnmbidhpegaa.NumS
