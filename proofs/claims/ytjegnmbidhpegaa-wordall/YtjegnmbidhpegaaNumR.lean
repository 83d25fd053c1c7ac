import Derived.WalkKit
import Derived.OpenShut
namespace Go.Proofs.Ytjegnmbidhpegaa.NumR
open Go.RowKit

theorem wrap_mod (x y : Int) (h : x % 18446744073709551616 = y % 18446744073709551616) : wrap64 x = wrap64 y := by
  unfold wrap64; omega
theorem wrap_emod (x : Int) : wrap64 x % 18446744073709551616 = x % 18446744073709551616 := by
  unfold wrap64; omega
theorem mulL (x y : Int) : wrap64 (wrap64 x * y) = wrap64 (x * y) := by
  apply wrap_mod
  rw [Int.mul_emod, wrap_emod, ← Int.mul_emod]
theorem mulR (x y : Int) : wrap64 (x * wrap64 y) = wrap64 (x * y) := by
  rw [Int.mul_comm, mulL, Int.mul_comm]
theorem addL (x y : Int) : wrap64 (wrap64 x + y) = wrap64 (x + y) := by
  unfold wrap64; omega
theorem addR (x y : Int) : wrap64 (x + wrap64 y) = wrap64 (x + y) := by
  unfold wrap64; omega
theorem subL (x y : Int) : wrap64 (wrap64 x - y) = wrap64 (x - y) := by
  unfold wrap64; omega
theorem wrap_self (a : Int) (h : -9223372036854775808 ≤ a ∧ a ≤ 9223372036854775807) : wrap64 a = a := by
  unfold wrap64; omega

theorem s1 (a b : Int) : wrap64 (a + b) = wrap64 (b + a) := by rw [Int.add_comm]
theorem s2 (a b : Int) : wrap64 (a * b) = wrap64 (b * a) := by rw [Int.mul_comm]
theorem s3 (a b c : Int) : wrap64 (wrap64 (a + b) + c) = wrap64 (a + wrap64 (b + c)) := by rw [addL, addR, Int.add_assoc]
theorem s4 (a b c : Int) : wrap64 (wrap64 (a * b) * c) = wrap64 (a * wrap64 (b * c)) := by rw [mulL, mulR, Int.mul_assoc]
theorem s5 (a b c : Int) : wrap64 (a * wrap64 (b + c)) = wrap64 (wrap64 (a * b) + wrap64 (a * c)) := by rw [mulR, addL, addR, Int.mul_add]
theorem s6 (a b : Int) (h : -9223372036854775808 ≤ a ∧ a ≤ 9223372036854775807) : wrap64 (wrap64 (a + b) - b) = a := by
  rw [subL, Int.add_sub_cancel, wrap_self a h]
theorem s7 (a : Int) : wrap64 (a + wrap64 (-a)) = 0 := by unfold wrap64; omega
theorem s8 (a b : Int) : wrap64 (a - b) = wrap64 (a + wrap64 (-b)) := by unfold wrap64; omega
theorem s9 (a : Int) : wrap64 (a * -1) = wrap64 (-a) := by rw [Int.mul_neg, Int.mul_one]
theorem s10 (a : Int) (h : -9223372036854775808 ≤ a ∧ a ≤ 9223372036854775807) : wrap64 (a * 1) = a := by rw [Int.mul_one, wrap_self a h]
theorem s11 (a : Int) (h : -9223372036854775808 ≤ a ∧ a ≤ 9223372036854775807) : wrap64 (a + 0) = a := by rw [Int.add_zero, wrap_self a h]

/-! the document's sums, over numbers without a sign -/
theorem ra (a b : Int) : wrap64 (IntKind.u64.wrap (IntKind.u64.wrap a + IntKind.u64.wrap b)) = wrap64 (a + b) := by
  rw [IntKind.wrap_u64, IntKind.wrap_u64, IntKind.wrap_u64]; unfold wrap64; omega
theorem rs (a b : Int) : wrap64 (IntKind.u64.wrap (IntKind.u64.wrap a - IntKind.u64.wrap b)) = wrap64 (a - b) := by
  rw [IntKind.wrap_u64, IntKind.wrap_u64, IntKind.wrap_u64]; unfold wrap64; omega
theorem rm (a b : Int) : wrap64 (IntKind.u64.wrap (IntKind.u64.wrap a * IntKind.u64.wrap b)) = wrap64 (a * b) := by
  rw [IntKind.wrap_u64, IntKind.wrap_u64, IntKind.wrap_u64]
  apply wrap_mod
  rw [Int.emod_emod_of_dvd _ (Int.dvd_refl _), ← Int.mul_emod]
theorem rneg (a : Int) (h : -9223372036854775808 ≤ a) (h0 : a < 0) : IntKind.u64.wrap (-IntKind.u64.wrap a) = -a := by
  rw [IntKind.wrap_u64, IntKind.wrap_u64]; omega
end Go.Proofs.Ytjegnmbidhpegaa.NumR
