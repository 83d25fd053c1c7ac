import Derived.Test.YtjegnmbidhpegaaRefA
namespace Go.Proofs.Ytjegnmbidhpegaa
open Go.ChangeShapes Go.WideShapes Go.ChangeAt Go.RowKit

theorem w_u (x : Int) : wrap64 (IntKind.u64.wrap x) = wrap64 x := by
  rw [IntKind.wrap_u64]; unfold wrap64; omega
theorem w_nu (x : Int) : wrap64 (-wrap64 (IntKind.u64.wrap (-x))) = wrap64 x := by
  rw [IntKind.wrap_u64]; unfold wrap64; omega
theorem tmod_bd (a b : Int) (h : -9223372036854775808 ≤ a ∧ a ≤ 9223372036854775807) : -9223372036854775808 ≤ a.tmod b ∧ a.tmod b ≤ 9223372036854775807 := by
  have h1 : (a.tmod b).natAbs ≤ a.natAbs := by rw [Int.natAbs_tmod]; exact Nat.mod_le _ _
  by_cases h0 : 0 ≤ a
  · have := Int.tmod_nonneg b h0; omega
  · have h2 := Int.tmod_nonneg (a := -a) b (by omega)
    rw [Int.neg_tmod] at h2
    omega
theorem w_nn (x : Int) : wrap64 (-wrap64 (-x)) = wrap64 x := by unfold wrap64; omega
theorem w_self (x : Int) (h : -9223372036854775808 ≤ x ∧ x ≤ 9223372036854775807) : wrap64 x = x := by unfold wrap64; omega

theorem refDiv_nn (a b : Int) (ha : -9223372036854775808 ≤ a) (hb : -9223372036854775808 ≤ b) (h1 : a < 0) (h2 : b < 0) (w : World) : Calls Try.prog 26 #[.int .i64 a, .int .i64 b] w fun e w' => e = .returned (.int .i64 (wrap64 (a.tdiv b))) ∧ w' = w := by
  have hb0 : (b == 0) = false := by simp; omega
  have d1 : decide (a < 0) = true := by simp; omega
  have d2 : decide (b < 0) = true := by simp; omega
  have hv : Hid (wrap64 (a.tmod b) = a.tmod b) := w_self _ (tmod_bd a b (by omega))
  go_enter Try.func26, Try.ntmps26
  go_wp2_with fail
  refine (size_neg a ha h1 _).mono ?_
  rintro e w' ⟨rfl, rfl⟩
  go_wp2_with fail
  refine (size_neg b hb h2 _).mono ?_
  rintro e w' ⟨rfl, rfl⟩
  go_wp2_with (first | (go_at_call 36; refine (refNeg_any _ _).mono ?_; rintro e w' ⟨rfl, rfl⟩))
  go_ret
  exact ⟨ret_int (by first | rfl | exact w_u _ | exact w_nu _ | exact (w_u _).trans hv.out | exact (w_nu _).trans hv.out | exact (w_nn _).trans hv.out | rw [Int.tdiv_eq_ediv_of_nonneg h1] | (rw [← Int.tmod_eq_emod_of_nonneg h1]; exact hv.out)), rfl⟩

theorem refDiv_np (a b : Int) (ha : -9223372036854775808 ≤ a) (hb : b ≤ 9223372036854775807) (h1 : a < 0) (h2 : 0 < b) (w : World) : Calls Try.prog 26 #[.int .i64 a, .int .i64 b] w fun e w' => e = .returned (.int .i64 (wrap64 (a.tdiv b))) ∧ w' = w := by
  have hb0 : (b == 0) = false := by simp; omega
  have d1 : decide (a < 0) = true := by simp; omega
  have d2 : decide (b < 0) = false := by simp; omega
  have hv : Hid (wrap64 (a.tmod b) = a.tmod b) := w_self _ (tmod_bd a b (by omega))
  go_enter Try.func26, Try.ntmps26
  go_wp2_with fail
  refine (size_neg a ha h1 _).mono ?_
  rintro e w' ⟨rfl, rfl⟩
  go_wp2_with fail
  refine (size_pos b hb (by omega) _).mono ?_
  rintro e w' ⟨rfl, rfl⟩
  go_wp2_with (first | (go_at_call 36; refine (refNeg_any _ _).mono ?_; rintro e w' ⟨rfl, rfl⟩))
  go_ret
  exact ⟨ret_int (by first | rfl | exact w_u _ | exact w_nu _ | exact (w_u _).trans hv.out | exact (w_nu _).trans hv.out | exact (w_nn _).trans hv.out | rw [Int.tdiv_eq_ediv_of_nonneg h1] | (rw [← Int.tmod_eq_emod_of_nonneg h1]; exact hv.out)), rfl⟩

theorem refDiv_pn (a b : Int) (ha : a ≤ 9223372036854775807) (hb : -9223372036854775808 ≤ b) (h1 : 0 ≤ a) (h2 : b < 0) (w : World) : Calls Try.prog 26 #[.int .i64 a, .int .i64 b] w fun e w' => e = .returned (.int .i64 (wrap64 (a.tdiv b))) ∧ w' = w := by
  have hb0 : (b == 0) = false := by simp; omega
  have d1 : decide (a < 0) = false := by simp; omega
  have d2 : decide (b < 0) = true := by simp; omega
  have hv : Hid (wrap64 (a.tmod b) = a.tmod b) := w_self _ (tmod_bd a b (by omega))
  go_enter Try.func26, Try.ntmps26
  go_wp2_with fail
  refine (size_pos a ha (by omega) _).mono ?_
  rintro e w' ⟨rfl, rfl⟩
  go_wp2_with fail
  refine (size_neg b hb h2 _).mono ?_
  rintro e w' ⟨rfl, rfl⟩
  go_wp2_with (first | (go_at_call 36; refine (refNeg_any _ _).mono ?_; rintro e w' ⟨rfl, rfl⟩))
  go_ret
  exact ⟨ret_int (by first | rfl | exact w_u _ | exact w_nu _ | exact (w_u _).trans hv.out | exact (w_nu _).trans hv.out | exact (w_nn _).trans hv.out | rw [Int.tdiv_eq_ediv_of_nonneg h1] | (rw [← Int.tmod_eq_emod_of_nonneg h1]; exact hv.out)), rfl⟩

theorem refDiv_pp (a b : Int) (ha : a ≤ 9223372036854775807) (hb : b ≤ 9223372036854775807) (h1 : 0 ≤ a) (h2 : 0 < b) (w : World) : Calls Try.prog 26 #[.int .i64 a, .int .i64 b] w fun e w' => e = .returned (.int .i64 (wrap64 (a.tdiv b))) ∧ w' = w := by
  have hb0 : (b == 0) = false := by simp; omega
  have d1 : decide (a < 0) = false := by simp; omega
  have d2 : decide (b < 0) = false := by simp; omega
  have hv : Hid (wrap64 (a.tmod b) = a.tmod b) := w_self _ (tmod_bd a b (by omega))
  go_enter Try.func26, Try.ntmps26
  go_wp2_with fail
  refine (size_pos a ha (by omega) _).mono ?_
  rintro e w' ⟨rfl, rfl⟩
  go_wp2_with fail
  refine (size_pos b hb (by omega) _).mono ?_
  rintro e w' ⟨rfl, rfl⟩
  go_wp2_with (first | (go_at_call 36; refine (refNeg_any _ _).mono ?_; rintro e w' ⟨rfl, rfl⟩))
  go_ret
  exact ⟨ret_int (by first | rfl | exact w_u _ | exact w_nu _ | exact (w_u _).trans hv.out | exact (w_nu _).trans hv.out | exact (w_nn _).trans hv.out | rw [Int.tdiv_eq_ediv_of_nonneg h1] | (rw [← Int.tmod_eq_emod_of_nonneg h1]; exact hv.out)), rfl⟩

theorem refRem_nn (a b : Int) (ha : -9223372036854775808 ≤ a) (hb : -9223372036854775808 ≤ b) (h1 : a < 0) (h2 : b < 0) (w : World) : Calls Try.prog 27 #[.int .i64 a, .int .i64 b] w fun e w' => e = .returned (.int .i64 (a.tmod b)) ∧ w' = w := by
  have hb0 : (b == 0) = false := by simp; omega
  have d1 : decide (a < 0) = true := by simp; omega
  have d2 : decide (b < 0) = true := by simp; omega
  have hv : Hid (wrap64 (a.tmod b) = a.tmod b) := w_self _ (tmod_bd a b (by omega))
  go_enter Try.func27, Try.ntmps27
  go_wp2_with fail
  refine (size_neg a ha h1 _).mono ?_
  rintro e w' ⟨rfl, rfl⟩
  go_wp2_with fail
  refine (size_neg b hb h2 _).mono ?_
  rintro e w' ⟨rfl, rfl⟩
  go_wp2_with (first | (go_at_call 36; refine (refNeg_any _ _).mono ?_; rintro e w' ⟨rfl, rfl⟩))
  go_ret
  exact ⟨ret_int (by first | rfl | exact w_u _ | exact w_nu _ | exact (w_u _).trans hv.out | exact (w_nu _).trans hv.out | exact (w_nn _).trans hv.out | rw [Int.tdiv_eq_ediv_of_nonneg h1] | (rw [← Int.tmod_eq_emod_of_nonneg h1]; exact hv.out)), rfl⟩

theorem refRem_np (a b : Int) (ha : -9223372036854775808 ≤ a) (hb : b ≤ 9223372036854775807) (h1 : a < 0) (h2 : 0 < b) (w : World) : Calls Try.prog 27 #[.int .i64 a, .int .i64 b] w fun e w' => e = .returned (.int .i64 (a.tmod b)) ∧ w' = w := by
  have hb0 : (b == 0) = false := by simp; omega
  have d1 : decide (a < 0) = true := by simp; omega
  have d2 : decide (b < 0) = false := by simp; omega
  have hv : Hid (wrap64 (a.tmod b) = a.tmod b) := w_self _ (tmod_bd a b (by omega))
  go_enter Try.func27, Try.ntmps27
  go_wp2_with fail
  refine (size_neg a ha h1 _).mono ?_
  rintro e w' ⟨rfl, rfl⟩
  go_wp2_with fail
  refine (size_pos b hb (by omega) _).mono ?_
  rintro e w' ⟨rfl, rfl⟩
  go_wp2_with (first | (go_at_call 36; refine (refNeg_any _ _).mono ?_; rintro e w' ⟨rfl, rfl⟩))
  go_ret
  exact ⟨ret_int (by first | rfl | exact w_u _ | exact w_nu _ | exact (w_u _).trans hv.out | exact (w_nu _).trans hv.out | exact (w_nn _).trans hv.out | rw [Int.tdiv_eq_ediv_of_nonneg h1] | (rw [← Int.tmod_eq_emod_of_nonneg h1]; exact hv.out)), rfl⟩

theorem refRem_pn (a b : Int) (ha : a ≤ 9223372036854775807) (hb : -9223372036854775808 ≤ b) (h1 : 0 ≤ a) (h2 : b < 0) (w : World) : Calls Try.prog 27 #[.int .i64 a, .int .i64 b] w fun e w' => e = .returned (.int .i64 (a.tmod b)) ∧ w' = w := by
  have hb0 : (b == 0) = false := by simp; omega
  have d1 : decide (a < 0) = false := by simp; omega
  have d2 : decide (b < 0) = true := by simp; omega
  have hv : Hid (wrap64 (a.tmod b) = a.tmod b) := w_self _ (tmod_bd a b (by omega))
  go_enter Try.func27, Try.ntmps27
  go_wp2_with fail
  refine (size_pos a ha (by omega) _).mono ?_
  rintro e w' ⟨rfl, rfl⟩
  go_wp2_with fail
  refine (size_neg b hb h2 _).mono ?_
  rintro e w' ⟨rfl, rfl⟩
  go_wp2_with (first | (go_at_call 36; refine (refNeg_any _ _).mono ?_; rintro e w' ⟨rfl, rfl⟩))
  go_ret
  exact ⟨ret_int (by first | rfl | exact w_u _ | exact w_nu _ | exact (w_u _).trans hv.out | exact (w_nu _).trans hv.out | exact (w_nn _).trans hv.out | rw [Int.tdiv_eq_ediv_of_nonneg h1] | (rw [← Int.tmod_eq_emod_of_nonneg h1]; exact hv.out)), rfl⟩

theorem refRem_pp (a b : Int) (ha : a ≤ 9223372036854775807) (hb : b ≤ 9223372036854775807) (h1 : 0 ≤ a) (h2 : 0 < b) (w : World) : Calls Try.prog 27 #[.int .i64 a, .int .i64 b] w fun e w' => e = .returned (.int .i64 (a.tmod b)) ∧ w' = w := by
  have hb0 : (b == 0) = false := by simp; omega
  have d1 : decide (a < 0) = false := by simp; omega
  have d2 : decide (b < 0) = false := by simp; omega
  have hv : Hid (wrap64 (a.tmod b) = a.tmod b) := w_self _ (tmod_bd a b (by omega))
  go_enter Try.func27, Try.ntmps27
  go_wp2_with fail
  refine (size_pos a ha (by omega) _).mono ?_
  rintro e w' ⟨rfl, rfl⟩
  go_wp2_with fail
  refine (size_pos b hb (by omega) _).mono ?_
  rintro e w' ⟨rfl, rfl⟩
  go_wp2_with (first | (go_at_call 36; refine (refNeg_any _ _).mono ?_; rintro e w' ⟨rfl, rfl⟩))
  go_ret
  exact ⟨ret_int (by first | rfl | exact w_u _ | exact w_nu _ | exact (w_u _).trans hv.out | exact (w_nu _).trans hv.out | exact (w_nn _).trans hv.out | rw [Int.tdiv_eq_ediv_of_nonneg h1] | (rw [← Int.tmod_eq_emod_of_nonneg h1]; exact hv.out)), rfl⟩

theorem refDiv_any (a b : Int) (ha : -9223372036854775808 ≤ a ∧ a ≤ 9223372036854775807) (hb : -9223372036854775808 ≤ b ∧ b ≤ 9223372036854775807) (w : World) : Calls Try.prog 26 #[.int .i64 a, .int .i64 b] w fun e w' => e = .returned (.int .i64 (divI a b)) ∧ w' = w := by
  by_cases h : b = 0
  · subst h
    go_enter Try.func26, Try.ntmps26
    go_wp2
    go_ret
    exact ⟨rfl, rfl⟩
  · have e1 : divI a b = wrap64 (a.tdiv b) := by unfold divI; rw [if_neg h]
    rw [e1]
    by_cases h1 : a < 0 <;> by_cases h2 : b < 0
    · exact refDiv_nn a b ha.1 hb.1 h1 h2 w
    · exact refDiv_np a b ha.1 hb.2 h1 (by omega) w
    · exact refDiv_pn a b ha.2 hb.1 (by omega) h2 w
    · exact refDiv_pp a b ha.2 hb.2 (by omega) (by omega) w
theorem refRem_any (a b : Int) (ha : -9223372036854775808 ≤ a ∧ a ≤ 9223372036854775807) (hb : -9223372036854775808 ≤ b ∧ b ≤ 9223372036854775807) (w : World) : Calls Try.prog 27 #[.int .i64 a, .int .i64 b] w fun e w' => e = .returned (.int .i64 (remI a b)) ∧ w' = w := by
  by_cases h : b = 0
  · subst h
    go_enter Try.func27, Try.ntmps27
    go_wp2
    go_ret
    exact ⟨rfl, rfl⟩
  · have e1 : remI a b = a.tmod b := by unfold remI; rw [if_neg h]
    rw [e1]
    by_cases h1 : a < 0 <;> by_cases h2 : b < 0
    · exact refRem_nn a b ha.1 hb.1 h1 h2 w
    · exact refRem_np a b ha.1 hb.2 h1 (by omega) w
    · exact refRem_pn a b ha.2 hb.1 (by omega) h2 w
    · exact refRem_pp a b ha.2 hb.2 (by omega) (by omega) w
theorem refShl_any (a b : Int) (ha : -9223372036854775808 ≤ a ∧ a ≤ 9223372036854775807) (hb : -9223372036854775808 ≤ b ∧ b ≤ 9223372036854775807) (w : World) : Calls Try.prog 33 #[.int .i64 a, .int .i64 b] w fun e w' => e = .returned (.int .i64 (shlI a b)) ∧ w' = w := by
  by_cases h : b < 0
  · have e1 : shlI a b = 0 := by unfold shlI; rw [if_pos h]
    rw [e1]; exact refShl_neg a b h w
  · obtain ⟨n, rfl⟩ := Int.eq_ofNat_of_zero_le (show 0 ≤ b by omega)
    have e1 : shlI a n = NumS.xk a (min n 64) := by unfold shlI NumS.xk; rw [if_neg h, Int.toNat_natCast]
    rw [e1]; exact refShl_pos a n ha (by omega) w
theorem refShr_any (a b : Int) (ha : -9223372036854775808 ≤ a ∧ a ≤ 9223372036854775807) (hb : -9223372036854775808 ≤ b ∧ b ≤ 9223372036854775807) (w : World) : Calls Try.prog 35 #[.int .i64 a, .int .i64 b] w fun e w' => e = .returned (.int .i64 (shrI a b)) ∧ w' = w := by
  by_cases h : b < 0
  · have e1 : shrI a b = 0 := by unfold shrI; rw [if_pos h]
    rw [e1]; exact refShr_neg a b h w
  · obtain ⟨n, rfl⟩ := Int.eq_ofNat_of_zero_le (show 0 ≤ b by omega)
    have e1 : shrI a n = NumS.yk a (min n 64) := by unfold shrI NumS.yk; rw [if_neg h, Int.toNat_natCast]
    rw [e1]; exact refShr_pos a n ha (by omega) w
theorem refTruth_any (p : Bool) (w : World) : Calls Try.prog 42 #[.bool p] w fun e w' => e = .returned (.int .i64 (truthI p)) ∧ w' = w := by
  cases p
  · go_enter Try.func42, Try.ntmps42
    go_wp2
    go_ret
    exact ⟨rfl, rfl⟩
  · go_enter Try.func42, Try.ntmps42
    go_wp2
    go_ret
    exact ⟨rfl, rfl⟩
end Go.Proofs.Ytjegnmbidhpegaa
