import Derived.WalkKit
import Derived.OpenShut
namespace Go.Proofs.Ytjegnmbidhpegaa.NumB
open Go.RowKit

theorem toInt_wrap (x : BitVec 64) : IntKind.i64.wrap (x.toNat : Int) = x.toInt := by
  have h := x.isLt
  rw [IntKind.wrap_i64, BitVec.toInt_eq_toNat_cond]
  split <;> omega
theorem wrap_bv (n : Int) : wrap64 n = (BitVec.ofInt 64 n).toInt := by
  rw [BitVec.toInt_ofInt, Int.bmod_def]
  unfold wrap64
  split <;> omega
theorem and_bv (a b : Int) : bits .and .i64 a b = (BitVec.ofInt 64 a &&& BitVec.ofInt 64 b).toInt := toInt_wrap _
theorem or_bv (a b : Int) : bits .or .i64 a b = (BitVec.ofInt 64 a ||| BitVec.ofInt 64 b).toInt := toInt_wrap _
theorem xor_bv (a b : Int) : bits .xor .i64 a b = (BitVec.ofInt 64 a ^^^ BitVec.ofInt 64 b).toInt := toInt_wrap _
theorem bic_bv (a b : Int) : bits .andNot .i64 a b = (BitVec.ofInt 64 a &&& ~~~ BitVec.ofInt 64 b).toInt := toInt_wrap _
theorem inv_bv (a : Int) : bits .xor .i64 (-1) a = (~~~ BitVec.ofInt 64 a).toInt := by
  rw [xor_bv]
  have e : BitVec.ofInt 64 (-1) = BitVec.allOnes 64 := by decide
  rw [e, BitVec.allOnes_xor]
theorem self_bv (a : Int) (h : -9223372036854775808 ≤ a ∧ a ≤ 9223372036854775807) : (BitVec.ofInt 64 a).toInt = a := by
  rw [← wrap_bv]; unfold wrap64; omega

theorem ofInt_sub' (x y : Int) : BitVec.ofInt 64 (x - y) = BitVec.ofInt 64 x - BitVec.ofInt 64 y := by
  apply BitVec.eq_of_toInt_eq
  rw [BitVec.toInt_sub, BitVec.toInt_ofInt, BitVec.toInt_ofInt, BitVec.toInt_ofInt]
  simp [Int.sub_bmod_bmod, Int.bmod_sub_bmod]

theorem part (A B : BitVec 64) : (A &&& B) + (A &&& ~~~B) = A := by
  rw [BitVec.add_eq_or_of_and_eq_zero]
  · ext i; simp; cases A[i] <;> cases B[i] <;> rfl
  · ext i; simp; cases A[i] <;> cases B[i] <;> simp
theorem join (A B : BitVec 64) : B + (A &&& ~~~B) = A ||| B := by
  rw [BitVec.add_eq_or_of_and_eq_zero]
  · ext i; simp; cases A[i] <;> cases B[i] <;> rfl
  · ext i; simp; cases A[i] <;> cases B[i] <;> simp
theorem split2 (A B : BitVec 64) : (A ^^^ B) + (A &&& B) = A ||| B := by
  rw [BitVec.add_eq_or_of_and_eq_zero]
  · ext i; simp; cases A[i] <;> cases B[i] <;> rfl
  · ext i; simp; cases A[i] <;> cases B[i] <;> simp

theorem w1 (a b : Int) (h : -9223372036854775808 ≤ a ∧ a ≤ 9223372036854775807) : bits .xor .i64 (bits .xor .i64 a b) b = a := by
  rw [xor_bv, xor_bv, BitVec.ofInt_toInt, BitVec.xor_assoc, BitVec.xor_self, BitVec.xor_zero, self_bv a h]
theorem w2 (a : Int) (h : -9223372036854775808 ≤ a ∧ a ≤ 9223372036854775807) : bits .xor .i64 (-1) (bits .xor .i64 (-1) a) = a := by
  rw [inv_bv, inv_bv, BitVec.ofInt_toInt, BitVec.not_not, self_bv a h]
theorem w3 (a : Int) : wrap64 (a + bits .xor .i64 (-1) a) = -1 := by
  rw [wrap_bv, BitVec.ofInt_add, inv_bv, BitVec.ofInt_toInt, BitVec.add_not_self]
  decide
theorem w4 (a b : Int) : wrap64 (bits .and .i64 a b + bits .or .i64 a b) = wrap64 (a + b) := by
  rw [wrap_bv, wrap_bv, BitVec.ofInt_add, BitVec.ofInt_add, and_bv, or_bv, BitVec.ofInt_toInt, BitVec.ofInt_toInt]
  congr 1
  generalize BitVec.ofInt 64 a = A
  generalize BitVec.ofInt 64 b = B
  rw [← join A B, BitVec.add_comm B, ← BitVec.add_assoc, part]
theorem w5 (a b : Int) : bits .xor .i64 a b = wrap64 (bits .or .i64 a b - bits .and .i64 a b) := by
  rw [wrap_bv, ofInt_sub', and_bv, or_bv, xor_bv, BitVec.ofInt_toInt, BitVec.ofInt_toInt]
  congr 1
  rw [← split2, BitVec.add_sub_cancel]
theorem w6 (a b : Int) : bits .andNot .i64 a b = wrap64 (a - bits .and .i64 a b) := by
  rw [wrap_bv, ofInt_sub', and_bv, bic_bv, BitVec.ofInt_toInt]
  congr 1
  generalize BitVec.ofInt 64 a = A
  generalize BitVec.ofInt 64 b = B
  have h := part A B
  have : (A &&& B) + (A &&& ~~~B) - (A &&& B) = A &&& ~~~B := by rw [BitVec.add_comm, BitVec.add_sub_cancel]
  rw [h] at this
  exact this.symm
theorem w7 (a b : Int) : bits .andNot .i64 a b = bits .and .i64 a (bits .xor .i64 (-1) b) := by
  rw [bic_bv, and_bv, inv_bv, BitVec.ofInt_toInt]
theorem w8 (a b : Int) : bits .xor .i64 (-1) (bits .and .i64 a b) = bits .or .i64 (bits .xor .i64 (-1) a) (bits .xor .i64 (-1) b) := by
  rw [inv_bv, and_bv, or_bv, inv_bv, inv_bv, BitVec.ofInt_toInt, BitVec.ofInt_toInt, BitVec.ofInt_toInt, BitVec.not_and]
end Go.Proofs.Ytjegnmbidhpegaa.NumB
