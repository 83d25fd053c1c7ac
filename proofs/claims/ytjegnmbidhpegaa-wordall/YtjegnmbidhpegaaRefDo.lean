import Derived.Test.YtjegnmbidhpegaaRefB
import Derived.Test.YtjegnmbidhpegaaDo
namespace Go.Proofs.Ytjegnmbidhpegaa
open Go.ChangeShapes Go.WideShapes Go.ChangeAt Go.RowKit
set_option linter.unusedVariables false

theorem refDo_none (op a b : Int) (h : op < 2 ∨ 19 < op) (w : World) : Calls Try.prog 38 #[.int .i64 op, .int .i64 a, .int .i64 b] w fun e w' => e = .returned (.tuple #[.int .i64 0, .bool false]) ∧ Grown w w' := by
  by_cases h1 : op < 2
  · clear h
    go_enter Try.func38, Try.ntmps38
    go_wp2
    go_ret2
    exact ⟨rfl, Grown.refl _⟩
  · have h2 : 19 < op := by omega
    clear h h1
    go_enter Try.func38, Try.ntmps38
    go_wp2
    go_ret2
    exact ⟨rfl, Grown.refl _⟩

theorem refDo_2 (a b : Int) (ha : -9223372036854775808 ≤ a ∧ a ≤ 9223372036854775807) (hb : -9223372036854775808 ≤ b ∧ b ≤ 9223372036854775807) (w : World) : Calls Try.prog 38 #[.int .i64 2, .int .i64 a, .int .i64 b] w fun e w' => e = .returned (.tuple #[.int .i64 (wrap64 (a + b)), .bool true]) ∧ Grown w w' := by
  go_enter Try.func38, Try.ntmps38
  go_wp2_with fail
  refine (refAdd_any _ _ _).mono ?_
  rintro e w' ⟨rfl, rfl⟩
  go_wp2
  go_ret2
  exact ⟨rfl, Grown.refl _⟩

theorem refDo_3 (a b : Int) (ha : -9223372036854775808 ≤ a ∧ a ≤ 9223372036854775807) (hb : -9223372036854775808 ≤ b ∧ b ≤ 9223372036854775807) (w : World) : Calls Try.prog 38 #[.int .i64 3, .int .i64 a, .int .i64 b] w fun e w' => e = .returned (.tuple #[.int .i64 (wrap64 (a - b)), .bool true]) ∧ Grown w w' := by
  go_enter Try.func38, Try.ntmps38
  go_wp2_with fail
  refine (refSub_any _ _ _).mono ?_
  rintro e w' ⟨rfl, rfl⟩
  go_wp2
  go_ret2
  exact ⟨rfl, Grown.refl _⟩

theorem refDo_4 (a b : Int) (ha : -9223372036854775808 ≤ a ∧ a ≤ 9223372036854775807) (hb : -9223372036854775808 ≤ b ∧ b ≤ 9223372036854775807) (w : World) : Calls Try.prog 38 #[.int .i64 4, .int .i64 a, .int .i64 b] w fun e w' => e = .returned (.tuple #[.int .i64 (wrap64 (a * b)), .bool true]) ∧ Grown w w' := by
  go_enter Try.func38, Try.ntmps38
  go_wp2_with fail
  refine (refMul_any _ _ _).mono ?_
  rintro e w' ⟨rfl, rfl⟩
  go_wp2
  go_ret2
  exact ⟨rfl, Grown.refl _⟩

theorem refDo_5 (a b : Int) (ha : -9223372036854775808 ≤ a ∧ a ≤ 9223372036854775807) (hb : -9223372036854775808 ≤ b ∧ b ≤ 9223372036854775807) (w : World) : Calls Try.prog 38 #[.int .i64 5, .int .i64 a, .int .i64 b] w fun e w' => e = .returned (.tuple #[.int .i64 (divI a b), .bool true]) ∧ Grown w w' := by
  go_enter Try.func38, Try.ntmps38
  go_wp2_with fail
  refine (refDiv_any _ _ ha hb _).mono ?_
  rintro e w' ⟨rfl, rfl⟩
  go_wp2
  go_ret2
  exact ⟨rfl, Grown.refl _⟩

theorem refDo_6 (a b : Int) (ha : -9223372036854775808 ≤ a ∧ a ≤ 9223372036854775807) (hb : -9223372036854775808 ≤ b ∧ b ≤ 9223372036854775807) (w : World) : Calls Try.prog 38 #[.int .i64 6, .int .i64 a, .int .i64 b] w fun e w' => e = .returned (.tuple #[.int .i64 (remI a b), .bool true]) ∧ Grown w w' := by
  go_enter Try.func38, Try.ntmps38
  go_wp2_with fail
  refine (refRem_any _ _ ha hb _).mono ?_
  rintro e w' ⟨rfl, rfl⟩
  go_wp2
  go_ret2
  exact ⟨rfl, Grown.refl _⟩

theorem refDo_7 (a b : Int) (ha : -9223372036854775808 ≤ a ∧ a ≤ 9223372036854775807) (hb : -9223372036854775808 ≤ b ∧ b ≤ 9223372036854775807) (w : World) : Calls Try.prog 38 #[.int .i64 7, .int .i64 a, .int .i64 b] w fun e w' => e = .returned (.tuple #[.int .i64 (bits .and .i64 a b), .bool true]) ∧ Grown w w' := by
  go_enter Try.func38, Try.ntmps38
  go_wp2_with fail
  refine (refAnd_any _ _ _).mono ?_
  rintro e w' ⟨rfl, g⟩
  go_wp2
  go_ret2
  exact ⟨rfl, g⟩

theorem refDo_8 (a b : Int) (ha : -9223372036854775808 ≤ a ∧ a ≤ 9223372036854775807) (hb : -9223372036854775808 ≤ b ∧ b ≤ 9223372036854775807) (w : World) : Calls Try.prog 38 #[.int .i64 8, .int .i64 a, .int .i64 b] w fun e w' => e = .returned (.tuple #[.int .i64 (bits .or .i64 a b), .bool true]) ∧ Grown w w' := by
  go_enter Try.func38, Try.ntmps38
  go_wp2_with fail
  refine (refOr_any _ _ _).mono ?_
  rintro e w' ⟨rfl, g⟩
  go_wp2
  go_ret2
  exact ⟨rfl, g⟩

theorem refDo_9 (a b : Int) (ha : -9223372036854775808 ≤ a ∧ a ≤ 9223372036854775807) (hb : -9223372036854775808 ≤ b ∧ b ≤ 9223372036854775807) (w : World) : Calls Try.prog 38 #[.int .i64 9, .int .i64 a, .int .i64 b] w fun e w' => e = .returned (.tuple #[.int .i64 (bits .xor .i64 a b), .bool true]) ∧ Grown w w' := by
  go_enter Try.func38, Try.ntmps38
  go_wp2_with fail
  refine (refXor_any _ _ _).mono ?_
  rintro e w' ⟨rfl, g⟩
  go_wp2
  go_ret2
  exact ⟨rfl, g⟩

theorem refDo_10 (a b : Int) (ha : -9223372036854775808 ≤ a ∧ a ≤ 9223372036854775807) (hb : -9223372036854775808 ≤ b ∧ b ≤ 9223372036854775807) (w : World) : Calls Try.prog 38 #[.int .i64 10, .int .i64 a, .int .i64 b] w fun e w' => e = .returned (.tuple #[.int .i64 (bits .andNot .i64 a b), .bool true]) ∧ Grown w w' := by
  go_enter Try.func38, Try.ntmps38
  go_wp2_with fail
  refine (refBic_any _ _ _).mono ?_
  rintro e w' ⟨rfl, g⟩
  go_wp2
  go_ret2
  exact ⟨rfl, g⟩

theorem refDo_11 (a b : Int) (ha : -9223372036854775808 ≤ a ∧ a ≤ 9223372036854775807) (hb : -9223372036854775808 ≤ b ∧ b ≤ 9223372036854775807) (w : World) : Calls Try.prog 38 #[.int .i64 11, .int .i64 a, .int .i64 b] w fun e w' => e = .returned (.tuple #[.int .i64 (shlI a b), .bool true]) ∧ Grown w w' := by
  go_enter Try.func38, Try.ntmps38
  go_wp2_with fail
  refine (refShl_any _ _ ha hb _).mono ?_
  rintro e w' ⟨rfl, rfl⟩
  go_wp2
  go_ret2
  exact ⟨rfl, Grown.refl _⟩

theorem refDo_12 (a b : Int) (ha : -9223372036854775808 ≤ a ∧ a ≤ 9223372036854775807) (hb : -9223372036854775808 ≤ b ∧ b ≤ 9223372036854775807) (w : World) : Calls Try.prog 38 #[.int .i64 12, .int .i64 a, .int .i64 b] w fun e w' => e = .returned (.tuple #[.int .i64 (shrI a b), .bool true]) ∧ Grown w w' := by
  go_enter Try.func38, Try.ntmps38
  go_wp2_with fail
  refine (refShr_any _ _ ha hb _).mono ?_
  rintro e w' ⟨rfl, rfl⟩
  go_wp2
  go_ret2
  exact ⟨rfl, Grown.refl _⟩

theorem refDo_13 (a b : Int) (ha : -9223372036854775808 ≤ a ∧ a ≤ 9223372036854775807) (hb : -9223372036854775808 ≤ b ∧ b ≤ 9223372036854775807) (w : World) : Calls Try.prog 38 #[.int .i64 13, .int .i64 a, .int .i64 b] w fun e w' => e = .returned (.tuple #[.int .i64 (truthI (a == b)), .bool true]) ∧ Grown w w' := by
  go_enter Try.func38, Try.ntmps38
  go_wp2_with fail
  refine (refTruth_any _ _).mono ?_
  rintro e w' ⟨rfl, rfl⟩
  go_wp2
  go_ret2
  exact ⟨rfl, Grown.refl _⟩

theorem refDo_14 (a b : Int) (ha : -9223372036854775808 ≤ a ∧ a ≤ 9223372036854775807) (hb : -9223372036854775808 ≤ b ∧ b ≤ 9223372036854775807) (w : World) : Calls Try.prog 38 #[.int .i64 14, .int .i64 a, .int .i64 b] w fun e w' => e = .returned (.tuple #[.int .i64 (truthI (a != b)), .bool true]) ∧ Grown w w' := by
  go_enter Try.func38, Try.ntmps38
  go_wp2_with fail
  refine (refTruth_any _ _).mono ?_
  rintro e w' ⟨rfl, rfl⟩
  go_wp2
  go_ret2
  exact ⟨rfl, Grown.refl _⟩

theorem refDo_15 (a b : Int) (ha : -9223372036854775808 ≤ a ∧ a ≤ 9223372036854775807) (hb : -9223372036854775808 ≤ b ∧ b ≤ 9223372036854775807) (w : World) : Calls Try.prog 38 #[.int .i64 15, .int .i64 a, .int .i64 b] w fun e w' => e = .returned (.tuple #[.int .i64 (truthI (decide (a < b))), .bool true]) ∧ Grown w w' := by
  go_enter Try.func38, Try.ntmps38
  go_wp2_with fail
  refine (refTruth_any _ _).mono ?_
  rintro e w' ⟨rfl, rfl⟩
  go_wp2
  go_ret2
  exact ⟨rfl, Grown.refl _⟩

theorem refDo_16 (a b : Int) (ha : -9223372036854775808 ≤ a ∧ a ≤ 9223372036854775807) (hb : -9223372036854775808 ≤ b ∧ b ≤ 9223372036854775807) (w : World) : Calls Try.prog 38 #[.int .i64 16, .int .i64 a, .int .i64 b] w fun e w' => e = .returned (.tuple #[.int .i64 (truthI (decide (a ≤ b))), .bool true]) ∧ Grown w w' := by
  go_enter Try.func38, Try.ntmps38
  go_wp2_with fail
  refine (refTruth_any _ _).mono ?_
  rintro e w' ⟨rfl, rfl⟩
  go_wp2
  go_ret2
  exact ⟨rfl, Grown.refl _⟩

theorem refDo_17 (a b : Int) (ha : -9223372036854775808 ≤ a ∧ a ≤ 9223372036854775807) (hb : -9223372036854775808 ≤ b ∧ b ≤ 9223372036854775807) (w : World) : Calls Try.prog 38 #[.int .i64 17, .int .i64 a, .int .i64 b] w fun e w' => e = .returned (.tuple #[.int .i64 (wrap64 (-a)), .bool true]) ∧ Grown w w' := by
  go_enter Try.func38, Try.ntmps38
  go_wp2_with fail
  refine (refNeg_any _ _).mono ?_
  rintro e w' ⟨rfl, rfl⟩
  go_wp2
  go_ret2
  exact ⟨rfl, Grown.refl _⟩

theorem refDo_18 (a b : Int) (ha : -9223372036854775808 ≤ a ∧ a ≤ 9223372036854775807) (hb : -9223372036854775808 ≤ b ∧ b ≤ 9223372036854775807) (w : World) : Calls Try.prog 38 #[.int .i64 18, .int .i64 a, .int .i64 b] w fun e w' => e = .returned (.tuple #[.int .i64 (bits .xor .i64 (-1) a), .bool true]) ∧ Grown w w' := by
  go_enter Try.func38, Try.ntmps38
  go_wp2_with fail
  refine (refInv_any _ _).mono ?_
  rintro e w' ⟨rfl, g⟩
  go_wp2
  go_ret2
  exact ⟨rfl, g⟩

theorem refDo_19 (a b : Int) (ha : -9223372036854775808 ≤ a ∧ a ≤ 9223372036854775807) (hb : -9223372036854775808 ≤ b ∧ b ≤ 9223372036854775807) (w : World) : Calls Try.prog 38 #[.int .i64 19, .int .i64 a, .int .i64 b] w fun e w' => e = .returned (.tuple #[.int .i64 (wrap64 (1 - a)), .bool true]) ∧ Grown w w' := by
  go_enter Try.func38, Try.ntmps38
  go_wp2_with fail
  refine (refSub_any _ _ _).mono ?_
  rintro e w' ⟨rfl, rfl⟩
  go_wp2
  go_ret2
  exact ⟨rfl, Grown.refl _⟩

theorem refDo_any (op a b : Int) (ha : -9223372036854775808 ≤ a ∧ a ≤ 9223372036854775807) (hb : -9223372036854775808 ≤ b ∧ b ≤ 9223372036854775807) (w : World) : Calls Try.prog 38 #[.int .i64 op, .int .i64 a, .int .i64 b] w fun e w' => e = .returned (.tuple #[.int .i64 (doI op a b), .bool (isOp op)]) ∧ Grown w w' := by
  by_cases h : op < 2 ∨ 19 < op
  · have e1 : isOp op = false := by unfold isOp; exact decide_eq_false (by omega)
    have e2 : doI op a b = 0 := by
      unfold doI
      rw [if_neg (by omega), if_neg (by omega), if_neg (by omega), if_neg (by omega), if_neg (by omega), if_neg (by omega), if_neg (by omega), if_neg (by omega), if_neg (by omega), if_neg (by omega), if_neg (by omega), if_neg (by omega), if_neg (by omega), if_neg (by omega), if_neg (by omega), if_neg (by omega), if_neg (by omega), if_neg (by omega)]
    rw [e1, e2]
    exact refDo_none op a b h w
  · have hk : op = 2 ∨ op = 3 ∨ op = 4 ∨ op = 5 ∨ op = 6 ∨ op = 7 ∨ op = 8 ∨ op = 9 ∨ op = 10 ∨ op = 11 ∨ op = 12 ∨ op = 13 ∨ op = 14 ∨ op = 15 ∨ op = 16 ∨ op = 17 ∨ op = 18 ∨ op = 19 := by omega
    rcases hk with rfl | rfl | rfl | rfl | rfl | rfl | rfl | rfl | rfl | rfl | rfl | rfl | rfl | rfl | rfl | rfl | rfl | rfl
    · exact refDo_2 a b ha hb w
    · exact refDo_3 a b ha hb w
    · exact refDo_4 a b ha hb w
    · exact refDo_5 a b ha hb w
    · exact refDo_6 a b ha hb w
    · exact refDo_7 a b ha hb w
    · exact refDo_8 a b ha hb w
    · exact refDo_9 a b ha hb w
    · exact refDo_10 a b ha hb w
    · exact refDo_11 a b ha hb w
    · exact refDo_12 a b ha hb w
    · exact refDo_13 a b ha hb w
    · exact refDo_14 a b ha hb w
    · exact refDo_15 a b ha hb w
    · exact refDo_16 a b ha hb w
    · exact refDo_17 a b ha hb w
    · exact refDo_18 a b ha hb w
    · exact refDo_19 a b ha hb w
end Go.Proofs.Ytjegnmbidhpegaa
