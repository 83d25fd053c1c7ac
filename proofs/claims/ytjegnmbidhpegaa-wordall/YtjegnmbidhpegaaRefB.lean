import Derived.Test.YtjegnmbidhpegaaRefD
import Derived.Test.YtjegnmbidhpegaaNumT
namespace Go.Proofs.Ytjegnmbidhpegaa
open Go.ChangeShapes Go.WideShapes Go.ChangeAt Go.RowKit

open NumT in
set_option maxHeartbeats 1000000 in
theorem refBits_any (a b t0 t1 t2 t3 : Int) (z0 : t0 = 0 ∨ t0 = 1) (z1 : t1 = 0 ∨ t1 = 1) (z2 : t2 = 0 ∨ t2 = 1) (z3 : t3 = 0 ∨ t3 = 1) (w : World) :
    Calls Try.prog 41 #[.int .i64 a, .int .i64 b, .agg #[.int .u64 t0, .int .u64 t1, .int .u64 t2, .int .u64 t3]] w fun e w' => e = .returned (.int .i64 (wrap64 (outK t0 t1 t2 t3 (IntKind.u64.wrap a) (IntKind.u64.wrap b) 64))) ∧ Grown w w' := by
  have HX : Hid (∀ k, 0 ≤ xK (IntKind.u64.wrap a) k ∧ xK (IntKind.u64.wrap a) k ≤ 18446744073709551615) := xK_bd _ (by rw [IntKind.wrap_u64]; omega)
  have HY : Hid (∀ k, 0 ≤ xK (IntKind.u64.wrap b) k ∧ xK (IntKind.u64.wrap b) k ≤ 18446744073709551615) := xK_bd _ (by rw [IntKind.wrap_u64]; omega)
  have HO := fun X Y => out_bd z0 z1 z2 z3 X Y
  have HO' : Hid (∀ X Y k, 0 ≤ outK t0 t1 t2 t3 X Y k ∧ outK t0 t1 t2 t3 X Y k < 2 ^ k) := HO
  have HZ : Hid ((t0 = 0 ∨ t0 = 1) ∧ (t1 = 0 ∨ t1 = 1) ∧ (t2 = 0 ∨ t2 = 1) ∧ (t3 = 0 ∨ t3 = 1)) := ⟨z0, z1, z2, z3⟩
  clear HO z0 z1 z2 z3
  go_enter Try.func41, Try.ntmps41
  go_wp2
  go_loop [7, 8, 9, 10, 11] (fun x y o u i => ∃ k : Nat, k ≤ 64 ∧ i = .int .i64 k ∧ x = .int .u64 (xK (IntKind.u64.wrap a) k) ∧ y = .int .u64 (xK (IntKind.u64.wrap b) k) ∧ o = .int .u64 (oneK k) ∧ u = .int .u64 (outK t0 t1 t2 t3 (IntKind.u64.wrap a) (IntKind.u64.wrap b) k)) (fun _ _ _ _ i => 64 - (intOf i).toNat)
  case atStart => exact ⟨0, Nat.zero_le _, rfl, by rw [xK_zero], by rw [xK_zero], rfl, rfl⟩
  case round =>
    obtain ⟨k, hk, rfl, rfl, rfl, rfl, rfl⟩ := hrel
    by_cases hlt : k < 64
    · have hx := HX.out k
      have hy := HY.out k
      have ho := HO'.out (IntKind.u64.wrap a) (IntKind.u64.wrap b) k
      have hp := pow_le k hlt
      rw [← one_at k hlt] at ho hp
      have E1 : Hid (xK (IntKind.u64.wrap a) (k + 1) = xK (IntKind.u64.wrap a) k / 2) := xK_succ _ _
      have E2 : Hid (xK (IntKind.u64.wrap b) (k + 1) = xK (IntKind.u64.wrap b) k / 2) := xK_succ _ _
      have E3 : Hid (IntKind.u64.wrap (2 * oneK k) = oneK (k + 1)) := one_succ k hlt
      have E4 : Hid (outK t0 t1 t2 t3 (IntKind.u64.wrap a) (IntKind.u64.wrap b) (k + 1) = outK t0 t1 t2 t3 (IntKind.u64.wrap a) (IntKind.u64.wrap b) k + oneK k * tab t0 t1 t2 t3 (xK (IntKind.u64.wrap a) k % 2) (xK (IntKind.u64.wrap b) k % 2)) := by rw [one_at k hlt]; exact rfl
      generalize xK (IntKind.u64.wrap a) k = x at *
      generalize xK (IntKind.u64.wrap b) k = y at *
      generalize oneK k = p at *
      generalize outK t0 t1 t2 t3 (IntKind.u64.wrap a) (IntKind.u64.wrap b) k = o at *
      have HB : Hid ((0 ≤ o ∧ o < p) ∧ p ≤ 9223372036854775808) := ⟨ho, hp⟩
      clear ho hp
      have cx : x % 2 = 0 ∨ x % 2 = 1 := by omega
      have cy : y % 2 = 0 ∨ y % 2 = 1 := by omega
      rcases cx with cx | cx <;> rcases cy with cy | cy
      all_goals
        go_wp2
        go_round
        case rel => exact ⟨k + 1, by omega, by go_num, by rw [E1.out], by rw [E2.out], by rw [E3.out], by rw [E4.out, cx, cy, no_wrap _ _ _ (by first | exact HZ.out.1 | exact HZ.out.2.1 | exact HZ.out.2.2.1 | exact HZ.out.2.2.2) HB.out.1 HB.out.2]; simp [tab]⟩
        case measure => simp [intOf]; omega
    · obtain rfl : k = 64 := by omega
      go_wp2
      go_ret
      exact ⟨rfl, (Grown.refl _).alloc _ _⟩

theorem refAnd_any (a b : Int) (w : World) : Calls Try.prog 28 #[.int .i64 a, .int .i64 b] w fun e w' => e = .returned (.int .i64 (bits .and .i64 a b)) ∧ Grown w w' := by
  have hv : Hid (wrap64 (NumT.outK 0 0 0 1 (IntKind.u64.wrap a) (IntKind.u64.wrap b) 64) = bits .and .i64 a b) := NumT.and_tab a b
  go_enter Try.func28, Try.ntmps28
  go_wp2_with fail
  refine (refBits_any _ _ 0 0 0 1 (by simp) (by simp) (by simp) (by simp) _).mono ?_
  rintro e w' ⟨rfl, g⟩
  rw [hv.out]
  go_wp2
  go_ret
  exact ⟨rfl, g⟩

theorem refOr_any (a b : Int) (w : World) : Calls Try.prog 29 #[.int .i64 a, .int .i64 b] w fun e w' => e = .returned (.int .i64 (bits .or .i64 a b)) ∧ Grown w w' := by
  have hv : Hid (wrap64 (NumT.outK 0 1 1 1 (IntKind.u64.wrap a) (IntKind.u64.wrap b) 64) = bits .or .i64 a b) := NumT.or_tab a b
  go_enter Try.func29, Try.ntmps29
  go_wp2_with fail
  refine (refBits_any _ _ 0 1 1 1 (by simp) (by simp) (by simp) (by simp) _).mono ?_
  rintro e w' ⟨rfl, g⟩
  rw [hv.out]
  go_wp2
  go_ret
  exact ⟨rfl, g⟩

theorem refXor_any (a b : Int) (w : World) : Calls Try.prog 30 #[.int .i64 a, .int .i64 b] w fun e w' => e = .returned (.int .i64 (bits .xor .i64 a b)) ∧ Grown w w' := by
  have hv : Hid (wrap64 (NumT.outK 0 1 1 0 (IntKind.u64.wrap a) (IntKind.u64.wrap b) 64) = bits .xor .i64 a b) := NumT.xor_tab a b
  go_enter Try.func30, Try.ntmps30
  go_wp2_with fail
  refine (refBits_any _ _ 0 1 1 0 (by simp) (by simp) (by simp) (by simp) _).mono ?_
  rintro e w' ⟨rfl, g⟩
  rw [hv.out]
  go_wp2
  go_ret
  exact ⟨rfl, g⟩

theorem refBic_any (a b : Int) (w : World) : Calls Try.prog 31 #[.int .i64 a, .int .i64 b] w fun e w' => e = .returned (.int .i64 (bits .andNot .i64 a b)) ∧ Grown w w' := by
  have hv : Hid (wrap64 (NumT.outK 0 1 0 0 (IntKind.u64.wrap a) (IntKind.u64.wrap b) 64) = bits .andNot .i64 a b) := NumT.bic_tab a b
  go_enter Try.func31, Try.ntmps31
  go_wp2_with fail
  refine (refBits_any _ _ 0 1 0 0 (by simp) (by simp) (by simp) (by simp) _).mono ?_
  rintro e w' ⟨rfl, g⟩
  rw [hv.out]
  go_wp2
  go_ret
  exact ⟨rfl, g⟩

theorem refInv_any (a : Int) (w : World) : Calls Try.prog 37 #[.int .i64 a] w fun e w' => e = .returned (.int .i64 (bits .xor .i64 (-1) a)) ∧ Grown w w' := by
  have hv : Hid (wrap64 (NumT.outK 1 0 0 0 (IntKind.u64.wrap a) (IntKind.u64.wrap 0) 64) = bits .xor .i64 (-1) a) := NumT.inv_tab0 a
  go_enter Try.func37, Try.ntmps37
  go_wp2_with fail
  refine (refBits_any _ _ 1 0 0 0 (by simp) (by simp) (by simp) (by simp) _).mono ?_
  rintro e w' ⟨rfl, g⟩
  rw [hv.out]
  go_wp2
  go_ret
  exact ⟨rfl, g⟩
end Go.Proofs.Ytjegnmbidhpegaa
