import Derived.Test.YtjegnmbidhpegaaNumB
namespace Go.Proofs.Ytjegnmbidhpegaa.NumT
open Go.RowKit

/-- Bit by bit, by a table of four numbers. -/
def tab (t0 t1 t2 t3 : Int) (x y : Int) : Int := if x = 0 then (if y = 0 then t0 else t2) else (if y = 0 then t1 else t3)
def xK (X : Int) (k : Nat) : Int := X / 2 ^ k
def oneK (k : Nat) : Int := if k < 64 then 2 ^ k else 0
def outK (t0 t1 t2 t3 X Y : Int) : Nat → Int
  | 0 => 0
  | k + 1 => outK t0 t1 t2 t3 X Y k + 2 ^ k * tab t0 t1 t2 t3 (xK X k % 2) (xK Y k % 2)

theorem two_pos (k : Nat) : (1 : Int) ≤ 2 ^ k := by have := Int.pow_pos (n := 2) (m := k) (by decide); omega
theorem xK_zero (X : Int) : xK X 0 = X := by unfold xK; simp
theorem xK_succ (X : Int) (k : Nat) : xK X (k + 1) = xK X k / 2 := by
  unfold xK
  rw [Int.pow_succ, Int.ediv_ediv_of_nonneg (by have := two_pos k; omega)]
theorem xK_bd (X : Int) (h : 0 ≤ X ∧ X ≤ 18446744073709551615) : ∀ k : Nat, 0 ≤ xK X k ∧ xK X k ≤ 18446744073709551615
  | 0 => by rw [xK_zero]; exact h
  | k + 1 => by have := xK_bd X h k; rw [xK_succ]; omega
theorem one_at (k : Nat) (h : k < 64) : oneK k = 2 ^ k := by unfold oneK; rw [if_pos h]
theorem pow_le (k : Nat) (h : k < 64) : (2 : Int) ^ k ≤ 9223372036854775808 := by
  have h1 : (2 : Int) ^ 63 = 9223372036854775808 := by decide
  rw [← h1]
  by_cases e : k = 63
  · rw [e]; exact Int.le_refl _
  · exact Int.le_of_lt (Int.pow_lt_pow_of_lt (by decide) (by omega))
theorem one_succ (k : Nat) (h : k < 64) : IntKind.u64.wrap (2 * oneK k) = oneK (k + 1) := by
  rw [one_at k h, IntKind.wrap_u64]
  unfold oneK
  by_cases h1 : k + 1 < 64
  · rw [if_pos h1, Int.pow_succ]
    have h2 := pow_le (k + 1) h1
    have h3 := two_pos k
    rw [Int.pow_succ] at h2
    omega
  · rw [if_neg h1]
    obtain rfl : k = 63 := by omega
    decide
theorem tab01 {t0 t1 t2 t3 : Int} (h0 : t0 = 0 ∨ t0 = 1) (h1 : t1 = 0 ∨ t1 = 1) (h2 : t2 = 0 ∨ t2 = 1) (h3 : t3 = 0 ∨ t3 = 1) (x y : Int) : tab t0 t1 t2 t3 x y = 0 ∨ tab t0 t1 t2 t3 x y = 1 := by
  unfold tab; split <;> split <;> assumption
theorem out_bd {t0 t1 t2 t3 : Int} (h0 : t0 = 0 ∨ t0 = 1) (h1 : t1 = 0 ∨ t1 = 1) (h2 : t2 = 0 ∨ t2 = 1) (h3 : t3 = 0 ∨ t3 = 1) (X Y : Int) : ∀ k : Nat, 0 ≤ outK t0 t1 t2 t3 X Y k ∧ outK t0 t1 t2 t3 X Y k < 2 ^ k
  | 0 => by simp [outK]
  | k + 1 => by
    have ih := out_bd h0 h1 h2 h3 X Y k
    have hp := two_pos k
    rw [outK, Int.pow_succ]
    rcases tab01 h0 h1 h2 h3 (xK X k % 2) (xK Y k % 2) with e | e <;> rw [e] <;> omega
/-- A sum of a round stays below 2^64. -/
theorem no_wrap (o p t : Int) (h : t = 0 ∨ t = 1) (ho : 0 ≤ o ∧ o < p) (hp : p ≤ 9223372036854775808) : IntKind.u64.wrap (o + IntKind.u64.wrap (p * t)) = o + p * t := by
  rw [IntKind.wrap_u64, IntKind.wrap_u64]
  rcases h with rfl | rfl <;> omega
/-- The bits of Z are what the table says: so is Z. -/
theorem out_eq (t0 t1 t2 t3 : Int) (X Y : Int) (Z : Nat) (h : ∀ k, k < 64 → tab t0 t1 t2 t3 (xK X k % 2) (xK Y k % 2) = ((Z / 2 ^ k % 2 : Nat) : Int)) :
    ∀ n, n ≤ 64 → outK t0 t1 t2 t3 X Y n = ((Z % 2 ^ n : Nat) : Int)
  | 0, _ => by simp [outK, Nat.mod_one]
  | n + 1, hn => by
    rw [outK, out_eq t0 t1 t2 t3 X Y Z h n (by omega), h n (by omega), Nat.mod_pow_succ]
    simp
theorem xK_nat (a : Int) (k : Nat) : xK (IntKind.u64.wrap a) k % 2 = (((BitVec.ofInt 64 a).toNat / 2 ^ k % 2 : Nat) : Int) := by
  have h1 : IntKind.u64.wrap a = ((BitVec.ofInt 64 a).toNat : Int) := by
    rw [IntKind.wrap_u64, BitVec.toNat_ofInt]
    have : (((2 : Nat) ^ 64 : Nat) : Int) = 18446744073709551616 := by decide
    rw [this]; omega
  rw [h1]; unfold xK
  simp
theorem bit_of (Z k : Nat) : Z / 2 ^ k % 2 = if Z.testBit k then 1 else 0 := by
  rw [Nat.testBit_eq_decide_div_mod_eq]
  have : Z / 2 ^ k % 2 = 0 ∨ Z / 2 ^ k % 2 = 1 := by omega
  rcases this with e | e <;> simp [e]
/-- A table of a bit's function f. -/
theorem by_table (f : Bool → Bool → Bool) (t0 t1 t2 t3 : Int) (e0 : t0 = if f false false then 1 else 0) (e1 : t1 = if f true false then 1 else 0) (e2 : t2 = if f false true then 1 else 0) (e3 : t3 = if f true true then 1 else 0)
    (a b : Int) (Z : BitVec 64) (hZ : ∀ k, k < 64 → Z.toNat.testBit k = f ((BitVec.ofInt 64 a).toNat.testBit k) ((BitVec.ofInt 64 b).toNat.testBit k)) :
    wrap64 (outK t0 t1 t2 t3 (IntKind.u64.wrap a) (IntKind.u64.wrap b) 64) = Z.toInt := by
  have h := out_eq t0 t1 t2 t3 (IntKind.u64.wrap a) (IntKind.u64.wrap b) Z.toNat (fun k hk => by
    rw [xK_nat, xK_nat, bit_of, bit_of, bit_of, hZ k hk]
    cases (BitVec.ofInt 64 a).toNat.testBit k <;> cases (BitVec.ofInt 64 b).toNat.testBit k <;> simp [tab, e0, e1, e2, e3] <;> split <;> simp_all) 64 (Nat.le_refl _)
  rw [h, Nat.mod_eq_of_lt Z.isLt, ← NumB.toInt_wrap, IntWalk.i64_left]
theorem and_tab (a b : Int) : wrap64 (outK 0 0 0 1 (IntKind.u64.wrap a) (IntKind.u64.wrap b) 64) = bits .and .i64 a b := by
  rw [NumB.and_bv]
  exact by_table (fun x y => x && y) _ _ _ _ rfl rfl rfl rfl a b _ (fun k _ => by simp)
theorem or_tab (a b : Int) : wrap64 (outK 0 1 1 1 (IntKind.u64.wrap a) (IntKind.u64.wrap b) 64) = bits .or .i64 a b := by
  rw [NumB.or_bv]
  exact by_table (fun x y => x || y) _ _ _ _ rfl rfl rfl rfl a b _ (fun k _ => by simp)
theorem xor_tab (a b : Int) : wrap64 (outK 0 1 1 0 (IntKind.u64.wrap a) (IntKind.u64.wrap b) 64) = bits .xor .i64 a b := by
  rw [NumB.xor_bv]
  exact by_table (fun x y => x ^^ y) _ _ _ _ rfl rfl rfl rfl a b _ (fun k _ => by simp)
theorem bic_tab (a b : Int) : wrap64 (outK 0 1 0 0 (IntKind.u64.wrap a) (IntKind.u64.wrap b) 64) = bits .andNot .i64 a b := by
  rw [NumB.bic_bv]
  exact by_table (fun x y => x && !y) _ _ _ _ rfl rfl rfl rfl a b _ (fun k hk => by
    rw [BitVec.toNat_and, Nat.testBit_and]
    congr 1
    rw [BitVec.testBit_toNat, BitVec.testBit_toNat, BitVec.getLsbD_not]; simp [hk])
theorem inv_tab0 (a : Int) : wrap64 (outK 1 0 0 0 (IntKind.u64.wrap a) (IntKind.u64.wrap 0) 64) = bits .xor .i64 (-1) a := by
  rw [NumB.inv_bv]
  exact by_table (fun x y => !x && !y) _ _ _ _ rfl rfl rfl rfl a 0 _ (fun k hk => by
    rw [BitVec.testBit_toNat, BitVec.testBit_toNat, BitVec.getLsbD_not]; simp [hk])
end Go.Proofs.Ytjegnmbidhpegaa.NumT
