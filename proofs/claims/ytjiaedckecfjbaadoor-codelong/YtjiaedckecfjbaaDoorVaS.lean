import Derived.Test.YtjiaedckecfjbaaDoorVaX
import Derived.Test.YtjiaedckecfjbaaDoorVaC
set_option linter.unusedVariables false
set_option linter.unusedSimpArgs false
namespace Go.Proofs.YtjiaedckecfjbaaDoor
open Go.ChangeShapes Go.WideShapes Go.ChangeAt Go.RowKit Go.Maps

theorem withinR (w : World) (n l m : Int) {T : Bool} (hT : decide (l ≤ n ∧ n ≤ m) = T) : Calls Tryd.prog 47 #[.int .i64 n, .int .i64 l, .int .i64 m] w fun e w' => e = .returned (.bool T) ∧ w' = w := by
  subst hT
  by_cases h0 : l ≤ n
  · by_cases h1 : n ≤ m
    · go_enter Tryd.func47, Tryd.ntmps47
      go_wp2_with fail
      go_ret
      exact ⟨by simp [h0, h1], rfl⟩
    · go_enter Tryd.func47, Tryd.ntmps47
      go_wp2_with fail
      go_ret
      exact ⟨by simp [h0, h1], rfl⟩
  · go_enter Tryd.func47, Tryd.ntmps47
    go_wp2_with fail
    go_ret
    exact ⟨by simp; omega, rfl⟩
theorem isLastR (w : World) (op : Int) : Calls Tryd.prog 51 #[.int .i64 op] w fun e w' => e = .returned (.bool (lastF op)) ∧ w' = w := by
  by_cases h0 : op = 21
  · subst h0
    go_enter Tryd.func51, Tryd.ntmps51
    go_wp2_with fail
    go_ret
    exact ⟨rfl, rfl⟩
  · by_cases h1 : op = 27
    · subst h1
      go_enter Tryd.func51, Tryd.ntmps51
      go_wp2_with fail
      go_ret
      exact ⟨rfl, rfl⟩
    · have t0 : (op == 21) = false := beq_eq_false_iff_ne.2 h0
      have t1 : (op == 27) = false := beq_eq_false_iff_ne.2 h1
      have e : lastF op = (op == 35) := by unfold lastF; rw [Bool.eq_iff_iff]; simp [h0, h1]
      rw [e]
      clear e h0 h1
      go_enter Tryd.func51, Tryd.ntmps51
      go_wp2_with fail
      go_ret
      exact ⟨rfl, rfl⟩
theorem regsOf_1 (w : World) : Calls Tryd.prog 22 #[.int .i64 1] w fun e w' => e = .returned (.int .i64 (rcnt 1)) ∧ w' = w := by
  go_enter Tryd.func22, Tryd.ntmps22
  go_wp2_with fail
  go_ret
  exact ⟨rfl, rfl⟩
theorem regsOf_2 (w : World) : Calls Tryd.prog 22 #[.int .i64 2] w fun e w' => e = .returned (.int .i64 (rcnt 2)) ∧ w' = w := by
  go_enter Tryd.func22, Tryd.ntmps22
  go_wp2_with fail
  go_ret
  exact ⟨rfl, rfl⟩
theorem regsOf_3 (w : World) : Calls Tryd.prog 22 #[.int .i64 3] w fun e w' => e = .returned (.int .i64 (rcnt 3)) ∧ w' = w := by
  go_enter Tryd.func22, Tryd.ntmps22
  go_wp2_with fail
  go_ret
  exact ⟨rfl, rfl⟩
theorem regsOf_4 (w : World) : Calls Tryd.prog 22 #[.int .i64 4] w fun e w' => e = .returned (.int .i64 (rcnt 4)) ∧ w' = w := by
  go_enter Tryd.func22, Tryd.ntmps22
  go_wp2_with fail
  go_ret
  exact ⟨rfl, rfl⟩
theorem regsOf_5 (w : World) : Calls Tryd.prog 22 #[.int .i64 5] w fun e w' => e = .returned (.int .i64 (rcnt 5)) ∧ w' = w := by
  go_enter Tryd.func22, Tryd.ntmps22
  go_wp2_with fail
  go_ret
  exact ⟨rfl, rfl⟩
theorem regsOf_6 (w : World) : Calls Tryd.prog 22 #[.int .i64 6] w fun e w' => e = .returned (.int .i64 (rcnt 6)) ∧ w' = w := by
  go_enter Tryd.func22, Tryd.ntmps22
  go_wp2_with fail
  go_ret
  exact ⟨rfl, rfl⟩
theorem regsOf_7 (w : World) : Calls Tryd.prog 22 #[.int .i64 7] w fun e w' => e = .returned (.int .i64 (rcnt 7)) ∧ w' = w := by
  go_enter Tryd.func22, Tryd.ntmps22
  go_wp2_with fail
  go_ret
  exact ⟨rfl, rfl⟩
theorem regsOf_8 (w : World) : Calls Tryd.prog 22 #[.int .i64 8] w fun e w' => e = .returned (.int .i64 (rcnt 8)) ∧ w' = w := by
  go_enter Tryd.func22, Tryd.ntmps22
  go_wp2_with fail
  go_ret
  exact ⟨rfl, rfl⟩
theorem regsOf_9 (w : World) : Calls Tryd.prog 22 #[.int .i64 9] w fun e w' => e = .returned (.int .i64 (rcnt 9)) ∧ w' = w := by
  go_enter Tryd.func22, Tryd.ntmps22
  go_wp2_with fail
  go_ret
  exact ⟨rfl, rfl⟩
theorem regsOf_10 (w : World) : Calls Tryd.prog 22 #[.int .i64 10] w fun e w' => e = .returned (.int .i64 (rcnt 10)) ∧ w' = w := by
  go_enter Tryd.func22, Tryd.ntmps22
  go_wp2_with fail
  go_ret
  exact ⟨rfl, rfl⟩
theorem regsOf_11 (w : World) : Calls Tryd.prog 22 #[.int .i64 11] w fun e w' => e = .returned (.int .i64 (rcnt 11)) ∧ w' = w := by
  go_enter Tryd.func22, Tryd.ntmps22
  go_wp2_with fail
  go_ret
  exact ⟨rfl, rfl⟩
theorem regsOf_12 (w : World) : Calls Tryd.prog 22 #[.int .i64 12] w fun e w' => e = .returned (.int .i64 (rcnt 12)) ∧ w' = w := by
  go_enter Tryd.func22, Tryd.ntmps22
  go_wp2_with fail
  go_ret
  exact ⟨rfl, rfl⟩
theorem regsOf_13 (w : World) : Calls Tryd.prog 22 #[.int .i64 13] w fun e w' => e = .returned (.int .i64 (rcnt 13)) ∧ w' = w := by
  go_enter Tryd.func22, Tryd.ntmps22
  go_wp2_with fail
  go_ret
  exact ⟨rfl, rfl⟩
theorem regsOf_14 (w : World) : Calls Tryd.prog 22 #[.int .i64 14] w fun e w' => e = .returned (.int .i64 (rcnt 14)) ∧ w' = w := by
  go_enter Tryd.func22, Tryd.ntmps22
  go_wp2_with fail
  go_ret
  exact ⟨rfl, rfl⟩
theorem regsOf_15 (w : World) : Calls Tryd.prog 22 #[.int .i64 15] w fun e w' => e = .returned (.int .i64 (rcnt 15)) ∧ w' = w := by
  go_enter Tryd.func22, Tryd.ntmps22
  go_wp2_with fail
  go_ret
  exact ⟨rfl, rfl⟩
theorem regsOf_16 (w : World) : Calls Tryd.prog 22 #[.int .i64 16] w fun e w' => e = .returned (.int .i64 (rcnt 16)) ∧ w' = w := by
  go_enter Tryd.func22, Tryd.ntmps22
  go_wp2_with fail
  go_ret
  exact ⟨rfl, rfl⟩
theorem regsOf_17 (w : World) : Calls Tryd.prog 22 #[.int .i64 17] w fun e w' => e = .returned (.int .i64 (rcnt 17)) ∧ w' = w := by
  go_enter Tryd.func22, Tryd.ntmps22
  go_wp2_with fail
  go_ret
  exact ⟨rfl, rfl⟩
theorem regsOf_18 (w : World) : Calls Tryd.prog 22 #[.int .i64 18] w fun e w' => e = .returned (.int .i64 (rcnt 18)) ∧ w' = w := by
  go_enter Tryd.func22, Tryd.ntmps22
  go_wp2_with fail
  go_ret
  exact ⟨rfl, rfl⟩
theorem regsOf_19 (w : World) : Calls Tryd.prog 22 #[.int .i64 19] w fun e w' => e = .returned (.int .i64 (rcnt 19)) ∧ w' = w := by
  go_enter Tryd.func22, Tryd.ntmps22
  go_wp2_with fail
  go_ret
  exact ⟨rfl, rfl⟩
theorem regsOf_20 (w : World) : Calls Tryd.prog 22 #[.int .i64 20] w fun e w' => e = .returned (.int .i64 (rcnt 20)) ∧ w' = w := by
  go_enter Tryd.func22, Tryd.ntmps22
  go_wp2_with fail
  go_ret
  exact ⟨rfl, rfl⟩
theorem regsOf_21 (w : World) : Calls Tryd.prog 22 #[.int .i64 21] w fun e w' => e = .returned (.int .i64 (rcnt 21)) ∧ w' = w := by
  go_enter Tryd.func22, Tryd.ntmps22
  go_wp2_with fail
  go_ret
  exact ⟨rfl, rfl⟩
theorem regsOf_22 (w : World) : Calls Tryd.prog 22 #[.int .i64 22] w fun e w' => e = .returned (.int .i64 (rcnt 22)) ∧ w' = w := by
  go_enter Tryd.func22, Tryd.ntmps22
  go_wp2_with fail
  go_ret
  exact ⟨rfl, rfl⟩
theorem regsOf_23 (w : World) : Calls Tryd.prog 22 #[.int .i64 23] w fun e w' => e = .returned (.int .i64 (rcnt 23)) ∧ w' = w := by
  go_enter Tryd.func22, Tryd.ntmps22
  go_wp2_with fail
  go_ret
  exact ⟨rfl, rfl⟩
theorem regsOf_24 (w : World) : Calls Tryd.prog 22 #[.int .i64 24] w fun e w' => e = .returned (.int .i64 (rcnt 24)) ∧ w' = w := by
  go_enter Tryd.func22, Tryd.ntmps22
  go_wp2_with fail
  go_ret
  exact ⟨rfl, rfl⟩
theorem regsOf_25 (w : World) : Calls Tryd.prog 22 #[.int .i64 25] w fun e w' => e = .returned (.int .i64 (rcnt 25)) ∧ w' = w := by
  go_enter Tryd.func22, Tryd.ntmps22
  go_wp2_with fail
  go_ret
  exact ⟨rfl, rfl⟩
theorem regsOf_26 (w : World) : Calls Tryd.prog 22 #[.int .i64 26] w fun e w' => e = .returned (.int .i64 (rcnt 26)) ∧ w' = w := by
  go_enter Tryd.func22, Tryd.ntmps22
  go_wp2_with fail
  go_ret
  exact ⟨rfl, rfl⟩
theorem regsOf_27 (w : World) : Calls Tryd.prog 22 #[.int .i64 27] w fun e w' => e = .returned (.int .i64 (rcnt 27)) ∧ w' = w := by
  go_enter Tryd.func22, Tryd.ntmps22
  go_wp2_with fail
  go_ret
  exact ⟨rfl, rfl⟩
theorem regsOf_28 (w : World) : Calls Tryd.prog 22 #[.int .i64 28] w fun e w' => e = .returned (.int .i64 (rcnt 28)) ∧ w' = w := by
  go_enter Tryd.func22, Tryd.ntmps22
  go_wp2_with fail
  go_ret
  exact ⟨rfl, rfl⟩
theorem regsOf_29 (w : World) : Calls Tryd.prog 22 #[.int .i64 29] w fun e w' => e = .returned (.int .i64 (rcnt 29)) ∧ w' = w := by
  go_enter Tryd.func22, Tryd.ntmps22
  go_wp2_with fail
  go_ret
  exact ⟨rfl, rfl⟩
theorem regsOf_30 (w : World) : Calls Tryd.prog 22 #[.int .i64 30] w fun e w' => e = .returned (.int .i64 (rcnt 30)) ∧ w' = w := by
  go_enter Tryd.func22, Tryd.ntmps22
  go_wp2_with fail
  go_ret
  exact ⟨rfl, rfl⟩
theorem regsOf_31 (w : World) : Calls Tryd.prog 22 #[.int .i64 31] w fun e w' => e = .returned (.int .i64 (rcnt 31)) ∧ w' = w := by
  go_enter Tryd.func22, Tryd.ntmps22
  go_wp2_with fail
  go_ret
  exact ⟨rfl, rfl⟩
theorem regsOf_32 (w : World) : Calls Tryd.prog 22 #[.int .i64 32] w fun e w' => e = .returned (.int .i64 (rcnt 32)) ∧ w' = w := by
  go_enter Tryd.func22, Tryd.ntmps22
  go_wp2_with fail
  go_ret
  exact ⟨rfl, rfl⟩
theorem regsOf_33 (w : World) : Calls Tryd.prog 22 #[.int .i64 33] w fun e w' => e = .returned (.int .i64 (rcnt 33)) ∧ w' = w := by
  go_enter Tryd.func22, Tryd.ntmps22
  go_wp2_with fail
  go_ret
  exact ⟨rfl, rfl⟩
theorem regsOf_34 (w : World) : Calls Tryd.prog 22 #[.int .i64 34] w fun e w' => e = .returned (.int .i64 (rcnt 34)) ∧ w' = w := by
  go_enter Tryd.func22, Tryd.ntmps22
  go_wp2_with fail
  go_ret
  exact ⟨rfl, rfl⟩
theorem regsOf_35 (w : World) : Calls Tryd.prog 22 #[.int .i64 35] w fun e w' => e = .returned (.int .i64 (rcnt 35)) ∧ w' = w := by
  go_enter Tryd.func22, Tryd.ntmps22
  go_wp2_with fail
  go_ret
  exact ⟨rfl, rfl⟩
theorem regsOf_36 (w : World) : Calls Tryd.prog 22 #[.int .i64 36] w fun e w' => e = .returned (.int .i64 (rcnt 36)) ∧ w' = w := by
  go_enter Tryd.func22, Tryd.ntmps22
  go_wp2_with fail
  go_ret
  exact ⟨rfl, rfl⟩
theorem regsOf_37 (w : World) : Calls Tryd.prog 22 #[.int .i64 37] w fun e w' => e = .returned (.int .i64 (rcnt 37)) ∧ w' = w := by
  go_enter Tryd.func22, Tryd.ntmps22
  go_wp2_with fail
  go_ret
  exact ⟨rfl, rfl⟩
theorem regsOf_38 (w : World) : Calls Tryd.prog 22 #[.int .i64 38] w fun e w' => e = .returned (.int .i64 (rcnt 38)) ∧ w' = w := by
  go_enter Tryd.func22, Tryd.ntmps22
  go_wp2_with fail
  go_ret
  exact ⟨rfl, rfl⟩
set_option maxRecDepth 100000 in
theorem regsOf_no (w : World) (op : Int) (h : op < 1 ∨ 38 < op) : Calls Tryd.prog 22 #[.int .i64 op] w fun e w' => e = .returned (.int .i64 (-1)) ∧ w' = w := by
  have t1 : (op == 1) = false := beq_eq_false_iff_ne.2 (by omega)
  have t2 : (op == 2) = false := beq_eq_false_iff_ne.2 (by omega)
  have t3 : (op == 3) = false := beq_eq_false_iff_ne.2 (by omega)
  have t4 : (op == 4) = false := beq_eq_false_iff_ne.2 (by omega)
  have t5 : (op == 5) = false := beq_eq_false_iff_ne.2 (by omega)
  have t6 : (op == 6) = false := beq_eq_false_iff_ne.2 (by omega)
  have t7 : (op == 7) = false := beq_eq_false_iff_ne.2 (by omega)
  have t8 : (op == 8) = false := beq_eq_false_iff_ne.2 (by omega)
  have t9 : (op == 9) = false := beq_eq_false_iff_ne.2 (by omega)
  have t10 : (op == 10) = false := beq_eq_false_iff_ne.2 (by omega)
  have t11 : (op == 11) = false := beq_eq_false_iff_ne.2 (by omega)
  have t12 : (op == 12) = false := beq_eq_false_iff_ne.2 (by omega)
  have t13 : (op == 13) = false := beq_eq_false_iff_ne.2 (by omega)
  have t14 : (op == 14) = false := beq_eq_false_iff_ne.2 (by omega)
  have t15 : (op == 15) = false := beq_eq_false_iff_ne.2 (by omega)
  have t16 : (op == 16) = false := beq_eq_false_iff_ne.2 (by omega)
  have t17 : (op == 17) = false := beq_eq_false_iff_ne.2 (by omega)
  have t18 : (op == 18) = false := beq_eq_false_iff_ne.2 (by omega)
  have t19 : (op == 19) = false := beq_eq_false_iff_ne.2 (by omega)
  have t20 : (op == 20) = false := beq_eq_false_iff_ne.2 (by omega)
  have t21 : (op == 21) = false := beq_eq_false_iff_ne.2 (by omega)
  have t22 : (op == 22) = false := beq_eq_false_iff_ne.2 (by omega)
  have t23 : (op == 23) = false := beq_eq_false_iff_ne.2 (by omega)
  have t24 : (op == 24) = false := beq_eq_false_iff_ne.2 (by omega)
  have t25 : (op == 25) = false := beq_eq_false_iff_ne.2 (by omega)
  have t26 : (op == 26) = false := beq_eq_false_iff_ne.2 (by omega)
  have t27 : (op == 27) = false := beq_eq_false_iff_ne.2 (by omega)
  have t28 : (op == 28) = false := beq_eq_false_iff_ne.2 (by omega)
  have t29 : (op == 29) = false := beq_eq_false_iff_ne.2 (by omega)
  have t30 : (op == 30) = false := beq_eq_false_iff_ne.2 (by omega)
  have t31 : (op == 31) = false := beq_eq_false_iff_ne.2 (by omega)
  have t32 : (op == 32) = false := beq_eq_false_iff_ne.2 (by omega)
  have t33 : (op == 33) = false := beq_eq_false_iff_ne.2 (by omega)
  have t34 : (op == 34) = false := beq_eq_false_iff_ne.2 (by omega)
  have t35 : (op == 35) = false := beq_eq_false_iff_ne.2 (by omega)
  have t36 : (op == 36) = false := beq_eq_false_iff_ne.2 (by omega)
  have t37 : (op == 37) = false := beq_eq_false_iff_ne.2 (by omega)
  have t38 : (op == 38) = false := beq_eq_false_iff_ne.2 (by omega)
  clear h
  go_enter Tryd.func22, Tryd.ntmps22
  go_wp2_with fail
  go_ret
  exact ⟨rfl, rfl⟩
theorem regsOf_any (w : World) (op : Int) {k : Int} (hk : rcnt op = k) : Calls Tryd.prog 22 #[.int .i64 op] w fun e w' => e = .returned (.int .i64 k) ∧ w' = w := by
  subst hk
  by_cases h : op < 1 ∨ 38 < op
  · have e : rcnt op = -1 := by
      unfold rcnt
      rw [if_neg (by omega), if_neg (by omega), if_neg (by omega), if_neg (by omega)]
    rw [e]
    exact regsOf_no w op h
  · have hop : op = 1 ∨ op = 2 ∨ op = 3 ∨ op = 4 ∨ op = 5 ∨ op = 6 ∨ op = 7 ∨ op = 8 ∨ op = 9 ∨ op = 10 ∨ op = 11 ∨ op = 12 ∨ op = 13 ∨ op = 14 ∨ op = 15 ∨ op = 16 ∨ op = 17 ∨ op = 18 ∨ op = 19 ∨ op = 20 ∨ op = 21 ∨ op = 22 ∨ op = 23 ∨ op = 24 ∨ op = 25 ∨ op = 26 ∨ op = 27 ∨ op = 28 ∨ op = 29 ∨ op = 30 ∨ op = 31 ∨ op = 32 ∨ op = 33 ∨ op = 34 ∨ op = 35 ∨ op = 36 ∨ op = 37 ∨ op = 38 := by omega
    rcases hop with rfl | rfl | rfl | rfl | rfl | rfl | rfl | rfl | rfl | rfl | rfl | rfl | rfl | rfl | rfl | rfl | rfl | rfl | rfl | rfl | rfl | rfl | rfl | rfl | rfl | rfl | rfl | rfl | rfl | rfl | rfl | rfl | rfl | rfl | rfl | rfl | rfl | rfl
    · exact regsOf_1 w
    · exact regsOf_2 w
    · exact regsOf_3 w
    · exact regsOf_4 w
    · exact regsOf_5 w
    · exact regsOf_6 w
    · exact regsOf_7 w
    · exact regsOf_8 w
    · exact regsOf_9 w
    · exact regsOf_10 w
    · exact regsOf_11 w
    · exact regsOf_12 w
    · exact regsOf_13 w
    · exact regsOf_14 w
    · exact regsOf_15 w
    · exact regsOf_16 w
    · exact regsOf_17 w
    · exact regsOf_18 w
    · exact regsOf_19 w
    · exact regsOf_20 w
    · exact regsOf_21 w
    · exact regsOf_22 w
    · exact regsOf_23 w
    · exact regsOf_24 w
    · exact regsOf_25 w
    · exact regsOf_26 w
    · exact regsOf_27 w
    · exact regsOf_28 w
    · exact regsOf_29 w
    · exact regsOf_30 w
    · exact regsOf_31 w
    · exact regsOf_32 w
    · exact regsOf_33 w
    · exact regsOf_34 w
    · exact regsOf_35 w
    · exact regsOf_36 w
    · exact regsOf_37 w
    · exact regsOf_38 w
set_option maxRecDepth 100000 in
theorem regsFit_00 (w : World) (op a b c n : Int) (hk : rcnt op = 0) (ha : (a != 0) = true) : Calls Tryd.prog 50 #[.agg #[.int .i64 op, .int .i64 a, .int .i64 b, .int .i64 c, .int .i64 n]] w fun e w' => e = .returned (.bool false) ∧ Below w.heap.size w w' := by
  have HK : Hid (∀ W, Calls Tryd.prog 22 #[.int .i64 op] W fun e w' => e = .returned (.int .i64 0) ∧ w' = W) := fun W => regsOf_any W op hk
  have ix0 : ∀ W : World, (Instr.index 77 (.agg #[.int .i64 a, .int .i64 b, .int .i64 c]) (.int .i64 0)).run Tryd.prog W = .ok (.int .i64 a) W := fun _ => by kernel_rfl
  have ix1 : ∀ W : World, (Instr.index 77 (.agg #[.int .i64 a, .int .i64 b, .int .i64 c]) (.int .i64 1)).run Tryd.prog W = .ok (.int .i64 b) W := fun _ => by kernel_rfl
  have ix2 : ∀ W : World, (Instr.index 77 (.agg #[.int .i64 a, .int .i64 b, .int .i64 c]) (.int .i64 2)).run Tryd.prog W = .ok (.int .i64 c) W := fun _ => by kernel_rfl
  clear hk
  go_enter Tryd.func50, Tryd.ntmps50
  go_wp2_with (first | (go_at_call 22; refine Calls.mono (HK.out _) ?_; rintro e w1 ⟨rfl, rfl⟩))
  refine wp_loop_rounds 1 ?_
  rw [rounds_succ]
  go_wp2_with fail
  go_ret
  exact ⟨rfl, below_newR _ _⟩
set_option maxRecDepth 100000 in
theorem regsFit_01 (w : World) (op a b c n : Int) (hk : rcnt op = 0) (ha : (a != 0) = false) (hb : (b != 0) = true) : Calls Tryd.prog 50 #[.agg #[.int .i64 op, .int .i64 a, .int .i64 b, .int .i64 c, .int .i64 n]] w fun e w' => e = .returned (.bool false) ∧ Below w.heap.size w w' := by
  have HK : Hid (∀ W, Calls Tryd.prog 22 #[.int .i64 op] W fun e w' => e = .returned (.int .i64 0) ∧ w' = W) := fun W => regsOf_any W op hk
  have ix0 : ∀ W : World, (Instr.index 77 (.agg #[.int .i64 a, .int .i64 b, .int .i64 c]) (.int .i64 0)).run Tryd.prog W = .ok (.int .i64 a) W := fun _ => by kernel_rfl
  have ix1 : ∀ W : World, (Instr.index 77 (.agg #[.int .i64 a, .int .i64 b, .int .i64 c]) (.int .i64 1)).run Tryd.prog W = .ok (.int .i64 b) W := fun _ => by kernel_rfl
  have ix2 : ∀ W : World, (Instr.index 77 (.agg #[.int .i64 a, .int .i64 b, .int .i64 c]) (.int .i64 2)).run Tryd.prog W = .ok (.int .i64 c) W := fun _ => by kernel_rfl
  clear hk
  go_enter Tryd.func50, Tryd.ntmps50
  go_wp2_with (first | (go_at_call 22; refine Calls.mono (HK.out _) ?_; rintro e w1 ⟨rfl, rfl⟩))
  refine wp_loop_rounds 2 ?_
  rw [rounds_succ]
  go_wp2_with fail
  rw [rounds_succ]
  go_wp2_with fail
  go_ret
  exact ⟨rfl, below_newR _ _⟩
set_option maxRecDepth 100000 in
theorem regsFit_02 (w : World) (op a b c n : Int) (hk : rcnt op = 0) (ha : (a != 0) = false) (hb : (b != 0) = false) (hc : (c != 0) = true) : Calls Tryd.prog 50 #[.agg #[.int .i64 op, .int .i64 a, .int .i64 b, .int .i64 c, .int .i64 n]] w fun e w' => e = .returned (.bool false) ∧ Below w.heap.size w w' := by
  have HK : Hid (∀ W, Calls Tryd.prog 22 #[.int .i64 op] W fun e w' => e = .returned (.int .i64 0) ∧ w' = W) := fun W => regsOf_any W op hk
  have ix0 : ∀ W : World, (Instr.index 77 (.agg #[.int .i64 a, .int .i64 b, .int .i64 c]) (.int .i64 0)).run Tryd.prog W = .ok (.int .i64 a) W := fun _ => by kernel_rfl
  have ix1 : ∀ W : World, (Instr.index 77 (.agg #[.int .i64 a, .int .i64 b, .int .i64 c]) (.int .i64 1)).run Tryd.prog W = .ok (.int .i64 b) W := fun _ => by kernel_rfl
  have ix2 : ∀ W : World, (Instr.index 77 (.agg #[.int .i64 a, .int .i64 b, .int .i64 c]) (.int .i64 2)).run Tryd.prog W = .ok (.int .i64 c) W := fun _ => by kernel_rfl
  clear hk
  go_enter Tryd.func50, Tryd.ntmps50
  go_wp2_with (first | (go_at_call 22; refine Calls.mono (HK.out _) ?_; rintro e w1 ⟨rfl, rfl⟩))
  refine wp_loop_rounds 3 ?_
  rw [rounds_succ]
  go_wp2_with fail
  rw [rounds_succ]
  go_wp2_with fail
  rw [rounds_succ]
  go_wp2_with fail
  go_ret
  exact ⟨rfl, below_newR _ _⟩
set_option maxRecDepth 100000 in
theorem regsFit_03 (w : World) (op a b c n : Int) (hk : rcnt op = 0) (ha : (a != 0) = false) (hb : (b != 0) = false) (hc : (c != 0) = false) : Calls Tryd.prog 50 #[.agg #[.int .i64 op, .int .i64 a, .int .i64 b, .int .i64 c, .int .i64 n]] w fun e w' => e = .returned (.bool true) ∧ Below w.heap.size w w' := by
  have HK : Hid (∀ W, Calls Tryd.prog 22 #[.int .i64 op] W fun e w' => e = .returned (.int .i64 0) ∧ w' = W) := fun W => regsOf_any W op hk
  have ix0 : ∀ W : World, (Instr.index 77 (.agg #[.int .i64 a, .int .i64 b, .int .i64 c]) (.int .i64 0)).run Tryd.prog W = .ok (.int .i64 a) W := fun _ => by kernel_rfl
  have ix1 : ∀ W : World, (Instr.index 77 (.agg #[.int .i64 a, .int .i64 b, .int .i64 c]) (.int .i64 1)).run Tryd.prog W = .ok (.int .i64 b) W := fun _ => by kernel_rfl
  have ix2 : ∀ W : World, (Instr.index 77 (.agg #[.int .i64 a, .int .i64 b, .int .i64 c]) (.int .i64 2)).run Tryd.prog W = .ok (.int .i64 c) W := fun _ => by kernel_rfl
  clear hk
  go_enter Tryd.func50, Tryd.ntmps50
  go_wp2_with (first | (go_at_call 22; refine Calls.mono (HK.out _) ?_; rintro e w1 ⟨rfl, rfl⟩))
  refine wp_loop_rounds 4 ?_
  rw [rounds_succ]
  go_wp2_with fail
  rw [rounds_succ]
  go_wp2_with fail
  rw [rounds_succ]
  go_wp2_with fail
  rw [rounds_succ]
  go_wp2_with fail
  go_ret
  exact ⟨rfl, below_newR _ _⟩
set_option maxRecDepth 100000 in
theorem regsFit_10 (w : World) (op a b c n : Int) (hk : rcnt op = 1) (ha : decide (0 ≤ a ∧ a ≤ 15) = false) : Calls Tryd.prog 50 #[.agg #[.int .i64 op, .int .i64 a, .int .i64 b, .int .i64 c, .int .i64 n]] w fun e w' => e = .returned (.bool false) ∧ Below w.heap.size w w' := by
  have HK : Hid (∀ W, Calls Tryd.prog 22 #[.int .i64 op] W fun e w' => e = .returned (.int .i64 1) ∧ w' = W) := fun W => regsOf_any W op hk
  have Ha : Hid (∀ W, Calls Tryd.prog 47 #[.int .i64 a, .int .i64 0, .int .i64 15] W fun e w' => e = .returned (.bool false) ∧ w' = W) := fun W => withinR W a 0 15 ha
  clear ha
  have ix0 : ∀ W : World, (Instr.index 77 (.agg #[.int .i64 a, .int .i64 b, .int .i64 c]) (.int .i64 0)).run Tryd.prog W = .ok (.int .i64 a) W := fun _ => by kernel_rfl
  have ix1 : ∀ W : World, (Instr.index 77 (.agg #[.int .i64 a, .int .i64 b, .int .i64 c]) (.int .i64 1)).run Tryd.prog W = .ok (.int .i64 b) W := fun _ => by kernel_rfl
  have ix2 : ∀ W : World, (Instr.index 77 (.agg #[.int .i64 a, .int .i64 b, .int .i64 c]) (.int .i64 2)).run Tryd.prog W = .ok (.int .i64 c) W := fun _ => by kernel_rfl
  clear hk
  go_enter Tryd.func50, Tryd.ntmps50
  go_wp2_with (first | (go_at_call 22; refine Calls.mono (HK.out _) ?_; rintro e w1 ⟨rfl, rfl⟩) | (refine Calls.mono (Ha.out _) ?_; rintro e w1 ⟨rfl, rfl⟩))
  refine wp_loop_rounds 1 ?_
  rw [rounds_succ]
  go_wp2_with fail
  refine Calls.mono (Ha.out _) ?_
  rintro e w1 ⟨rfl, rfl⟩
  go_wp2_with fail
  go_ret
  exact ⟨rfl, below_newR _ _⟩
set_option maxRecDepth 100000 in
theorem regsFit_11 (w : World) (op a b c n : Int) (hk : rcnt op = 1) (ha : decide (0 ≤ a ∧ a ≤ 15) = true) (hb : (b != 0) = true) : Calls Tryd.prog 50 #[.agg #[.int .i64 op, .int .i64 a, .int .i64 b, .int .i64 c, .int .i64 n]] w fun e w' => e = .returned (.bool false) ∧ Below w.heap.size w w' := by
  have HK : Hid (∀ W, Calls Tryd.prog 22 #[.int .i64 op] W fun e w' => e = .returned (.int .i64 1) ∧ w' = W) := fun W => regsOf_any W op hk
  have Ha : Hid (∀ W, Calls Tryd.prog 47 #[.int .i64 a, .int .i64 0, .int .i64 15] W fun e w' => e = .returned (.bool true) ∧ w' = W) := fun W => withinR W a 0 15 ha
  clear ha
  have ix0 : ∀ W : World, (Instr.index 77 (.agg #[.int .i64 a, .int .i64 b, .int .i64 c]) (.int .i64 0)).run Tryd.prog W = .ok (.int .i64 a) W := fun _ => by kernel_rfl
  have ix1 : ∀ W : World, (Instr.index 77 (.agg #[.int .i64 a, .int .i64 b, .int .i64 c]) (.int .i64 1)).run Tryd.prog W = .ok (.int .i64 b) W := fun _ => by kernel_rfl
  have ix2 : ∀ W : World, (Instr.index 77 (.agg #[.int .i64 a, .int .i64 b, .int .i64 c]) (.int .i64 2)).run Tryd.prog W = .ok (.int .i64 c) W := fun _ => by kernel_rfl
  clear hk
  go_enter Tryd.func50, Tryd.ntmps50
  go_wp2_with (first | (go_at_call 22; refine Calls.mono (HK.out _) ?_; rintro e w1 ⟨rfl, rfl⟩) | (refine Calls.mono (Ha.out _) ?_; rintro e w1 ⟨rfl, rfl⟩))
  refine wp_loop_rounds 2 ?_
  rw [rounds_succ]
  go_wp2_with fail
  refine Calls.mono (Ha.out _) ?_
  rintro e w1 ⟨rfl, rfl⟩
  go_wp2_with fail
  rw [rounds_succ]
  go_wp2_with fail
  go_ret
  exact ⟨rfl, below_newR _ _⟩
set_option maxRecDepth 100000 in
theorem regsFit_12 (w : World) (op a b c n : Int) (hk : rcnt op = 1) (ha : decide (0 ≤ a ∧ a ≤ 15) = true) (hb : (b != 0) = false) (hc : (c != 0) = true) : Calls Tryd.prog 50 #[.agg #[.int .i64 op, .int .i64 a, .int .i64 b, .int .i64 c, .int .i64 n]] w fun e w' => e = .returned (.bool false) ∧ Below w.heap.size w w' := by
  have HK : Hid (∀ W, Calls Tryd.prog 22 #[.int .i64 op] W fun e w' => e = .returned (.int .i64 1) ∧ w' = W) := fun W => regsOf_any W op hk
  have Ha : Hid (∀ W, Calls Tryd.prog 47 #[.int .i64 a, .int .i64 0, .int .i64 15] W fun e w' => e = .returned (.bool true) ∧ w' = W) := fun W => withinR W a 0 15 ha
  clear ha
  have ix0 : ∀ W : World, (Instr.index 77 (.agg #[.int .i64 a, .int .i64 b, .int .i64 c]) (.int .i64 0)).run Tryd.prog W = .ok (.int .i64 a) W := fun _ => by kernel_rfl
  have ix1 : ∀ W : World, (Instr.index 77 (.agg #[.int .i64 a, .int .i64 b, .int .i64 c]) (.int .i64 1)).run Tryd.prog W = .ok (.int .i64 b) W := fun _ => by kernel_rfl
  have ix2 : ∀ W : World, (Instr.index 77 (.agg #[.int .i64 a, .int .i64 b, .int .i64 c]) (.int .i64 2)).run Tryd.prog W = .ok (.int .i64 c) W := fun _ => by kernel_rfl
  clear hk
  go_enter Tryd.func50, Tryd.ntmps50
  go_wp2_with (first | (go_at_call 22; refine Calls.mono (HK.out _) ?_; rintro e w1 ⟨rfl, rfl⟩) | (refine Calls.mono (Ha.out _) ?_; rintro e w1 ⟨rfl, rfl⟩))
  refine wp_loop_rounds 3 ?_
  rw [rounds_succ]
  go_wp2_with fail
  refine Calls.mono (Ha.out _) ?_
  rintro e w1 ⟨rfl, rfl⟩
  go_wp2_with fail
  rw [rounds_succ]
  go_wp2_with fail
  rw [rounds_succ]
  go_wp2_with fail
  go_ret
  exact ⟨rfl, below_newR _ _⟩
set_option maxRecDepth 100000 in
theorem regsFit_13 (w : World) (op a b c n : Int) (hk : rcnt op = 1) (ha : decide (0 ≤ a ∧ a ≤ 15) = true) (hb : (b != 0) = false) (hc : (c != 0) = false) : Calls Tryd.prog 50 #[.agg #[.int .i64 op, .int .i64 a, .int .i64 b, .int .i64 c, .int .i64 n]] w fun e w' => e = .returned (.bool true) ∧ Below w.heap.size w w' := by
  have HK : Hid (∀ W, Calls Tryd.prog 22 #[.int .i64 op] W fun e w' => e = .returned (.int .i64 1) ∧ w' = W) := fun W => regsOf_any W op hk
  have Ha : Hid (∀ W, Calls Tryd.prog 47 #[.int .i64 a, .int .i64 0, .int .i64 15] W fun e w' => e = .returned (.bool true) ∧ w' = W) := fun W => withinR W a 0 15 ha
  clear ha
  have ix0 : ∀ W : World, (Instr.index 77 (.agg #[.int .i64 a, .int .i64 b, .int .i64 c]) (.int .i64 0)).run Tryd.prog W = .ok (.int .i64 a) W := fun _ => by kernel_rfl
  have ix1 : ∀ W : World, (Instr.index 77 (.agg #[.int .i64 a, .int .i64 b, .int .i64 c]) (.int .i64 1)).run Tryd.prog W = .ok (.int .i64 b) W := fun _ => by kernel_rfl
  have ix2 : ∀ W : World, (Instr.index 77 (.agg #[.int .i64 a, .int .i64 b, .int .i64 c]) (.int .i64 2)).run Tryd.prog W = .ok (.int .i64 c) W := fun _ => by kernel_rfl
  clear hk
  go_enter Tryd.func50, Tryd.ntmps50
  go_wp2_with (first | (go_at_call 22; refine Calls.mono (HK.out _) ?_; rintro e w1 ⟨rfl, rfl⟩) | (refine Calls.mono (Ha.out _) ?_; rintro e w1 ⟨rfl, rfl⟩))
  refine wp_loop_rounds 4 ?_
  rw [rounds_succ]
  go_wp2_with fail
  refine Calls.mono (Ha.out _) ?_
  rintro e w1 ⟨rfl, rfl⟩
  go_wp2_with fail
  rw [rounds_succ]
  go_wp2_with fail
  rw [rounds_succ]
  go_wp2_with fail
  rw [rounds_succ]
  go_wp2_with fail
  go_ret
  exact ⟨rfl, below_newR _ _⟩
set_option maxRecDepth 100000 in
theorem regsFit_20 (w : World) (op a b c n : Int) (hk : rcnt op = 2) (ha : decide (0 ≤ a ∧ a ≤ 15) = false) : Calls Tryd.prog 50 #[.agg #[.int .i64 op, .int .i64 a, .int .i64 b, .int .i64 c, .int .i64 n]] w fun e w' => e = .returned (.bool false) ∧ Below w.heap.size w w' := by
  have HK : Hid (∀ W, Calls Tryd.prog 22 #[.int .i64 op] W fun e w' => e = .returned (.int .i64 2) ∧ w' = W) := fun W => regsOf_any W op hk
  have Ha : Hid (∀ W, Calls Tryd.prog 47 #[.int .i64 a, .int .i64 0, .int .i64 15] W fun e w' => e = .returned (.bool false) ∧ w' = W) := fun W => withinR W a 0 15 ha
  clear ha
  have ix0 : ∀ W : World, (Instr.index 77 (.agg #[.int .i64 a, .int .i64 b, .int .i64 c]) (.int .i64 0)).run Tryd.prog W = .ok (.int .i64 a) W := fun _ => by kernel_rfl
  have ix1 : ∀ W : World, (Instr.index 77 (.agg #[.int .i64 a, .int .i64 b, .int .i64 c]) (.int .i64 1)).run Tryd.prog W = .ok (.int .i64 b) W := fun _ => by kernel_rfl
  have ix2 : ∀ W : World, (Instr.index 77 (.agg #[.int .i64 a, .int .i64 b, .int .i64 c]) (.int .i64 2)).run Tryd.prog W = .ok (.int .i64 c) W := fun _ => by kernel_rfl
  clear hk
  go_enter Tryd.func50, Tryd.ntmps50
  go_wp2_with (first | (go_at_call 22; refine Calls.mono (HK.out _) ?_; rintro e w1 ⟨rfl, rfl⟩) | (refine Calls.mono (Ha.out _) ?_; rintro e w1 ⟨rfl, rfl⟩))
  refine wp_loop_rounds 1 ?_
  rw [rounds_succ]
  go_wp2_with fail
  refine Calls.mono (Ha.out _) ?_
  rintro e w1 ⟨rfl, rfl⟩
  go_wp2_with fail
  go_ret
  exact ⟨rfl, below_newR _ _⟩
set_option maxRecDepth 100000 in
theorem regsFit_21 (w : World) (op a b c n : Int) (hk : rcnt op = 2) (ha : decide (0 ≤ a ∧ a ≤ 15) = true) (hb : decide (0 ≤ b ∧ b ≤ 15) = false) : Calls Tryd.prog 50 #[.agg #[.int .i64 op, .int .i64 a, .int .i64 b, .int .i64 c, .int .i64 n]] w fun e w' => e = .returned (.bool false) ∧ Below w.heap.size w w' := by
  have HK : Hid (∀ W, Calls Tryd.prog 22 #[.int .i64 op] W fun e w' => e = .returned (.int .i64 2) ∧ w' = W) := fun W => regsOf_any W op hk
  have Ha : Hid (∀ W, Calls Tryd.prog 47 #[.int .i64 a, .int .i64 0, .int .i64 15] W fun e w' => e = .returned (.bool true) ∧ w' = W) := fun W => withinR W a 0 15 ha
  clear ha
  have Hb : Hid (∀ W, Calls Tryd.prog 47 #[.int .i64 b, .int .i64 0, .int .i64 15] W fun e w' => e = .returned (.bool false) ∧ w' = W) := fun W => withinR W b 0 15 hb
  clear hb
  have ix0 : ∀ W : World, (Instr.index 77 (.agg #[.int .i64 a, .int .i64 b, .int .i64 c]) (.int .i64 0)).run Tryd.prog W = .ok (.int .i64 a) W := fun _ => by kernel_rfl
  have ix1 : ∀ W : World, (Instr.index 77 (.agg #[.int .i64 a, .int .i64 b, .int .i64 c]) (.int .i64 1)).run Tryd.prog W = .ok (.int .i64 b) W := fun _ => by kernel_rfl
  have ix2 : ∀ W : World, (Instr.index 77 (.agg #[.int .i64 a, .int .i64 b, .int .i64 c]) (.int .i64 2)).run Tryd.prog W = .ok (.int .i64 c) W := fun _ => by kernel_rfl
  clear hk
  go_enter Tryd.func50, Tryd.ntmps50
  go_wp2_with (first | (go_at_call 22; refine Calls.mono (HK.out _) ?_; rintro e w1 ⟨rfl, rfl⟩) | (refine Calls.mono (Ha.out _) ?_; rintro e w1 ⟨rfl, rfl⟩) | (refine Calls.mono (Hb.out _) ?_; rintro e w1 ⟨rfl, rfl⟩))
  refine wp_loop_rounds 2 ?_
  rw [rounds_succ]
  go_wp2_with fail
  refine Calls.mono (Ha.out _) ?_
  rintro e w1 ⟨rfl, rfl⟩
  go_wp2_with fail
  rw [rounds_succ]
  go_wp2_with fail
  refine Calls.mono (Hb.out _) ?_
  rintro e w1 ⟨rfl, rfl⟩
  go_wp2_with fail
  go_ret
  exact ⟨rfl, below_newR _ _⟩
set_option maxRecDepth 100000 in
theorem regsFit_22 (w : World) (op a b c n : Int) (hk : rcnt op = 2) (ha : decide (0 ≤ a ∧ a ≤ 15) = true) (hb : decide (0 ≤ b ∧ b ≤ 15) = true) (hc : (c != 0) = true) : Calls Tryd.prog 50 #[.agg #[.int .i64 op, .int .i64 a, .int .i64 b, .int .i64 c, .int .i64 n]] w fun e w' => e = .returned (.bool false) ∧ Below w.heap.size w w' := by
  have HK : Hid (∀ W, Calls Tryd.prog 22 #[.int .i64 op] W fun e w' => e = .returned (.int .i64 2) ∧ w' = W) := fun W => regsOf_any W op hk
  have Ha : Hid (∀ W, Calls Tryd.prog 47 #[.int .i64 a, .int .i64 0, .int .i64 15] W fun e w' => e = .returned (.bool true) ∧ w' = W) := fun W => withinR W a 0 15 ha
  clear ha
  have Hb : Hid (∀ W, Calls Tryd.prog 47 #[.int .i64 b, .int .i64 0, .int .i64 15] W fun e w' => e = .returned (.bool true) ∧ w' = W) := fun W => withinR W b 0 15 hb
  clear hb
  have ix0 : ∀ W : World, (Instr.index 77 (.agg #[.int .i64 a, .int .i64 b, .int .i64 c]) (.int .i64 0)).run Tryd.prog W = .ok (.int .i64 a) W := fun _ => by kernel_rfl
  have ix1 : ∀ W : World, (Instr.index 77 (.agg #[.int .i64 a, .int .i64 b, .int .i64 c]) (.int .i64 1)).run Tryd.prog W = .ok (.int .i64 b) W := fun _ => by kernel_rfl
  have ix2 : ∀ W : World, (Instr.index 77 (.agg #[.int .i64 a, .int .i64 b, .int .i64 c]) (.int .i64 2)).run Tryd.prog W = .ok (.int .i64 c) W := fun _ => by kernel_rfl
  clear hk
  go_enter Tryd.func50, Tryd.ntmps50
  go_wp2_with (first | (go_at_call 22; refine Calls.mono (HK.out _) ?_; rintro e w1 ⟨rfl, rfl⟩) | (refine Calls.mono (Ha.out _) ?_; rintro e w1 ⟨rfl, rfl⟩) | (refine Calls.mono (Hb.out _) ?_; rintro e w1 ⟨rfl, rfl⟩))
  refine wp_loop_rounds 3 ?_
  rw [rounds_succ]
  go_wp2_with fail
  refine Calls.mono (Ha.out _) ?_
  rintro e w1 ⟨rfl, rfl⟩
  go_wp2_with fail
  rw [rounds_succ]
  go_wp2_with fail
  refine Calls.mono (Hb.out _) ?_
  rintro e w1 ⟨rfl, rfl⟩
  go_wp2_with fail
  rw [rounds_succ]
  go_wp2_with fail
  go_ret
  exact ⟨rfl, below_newR _ _⟩
set_option maxRecDepth 100000 in
theorem regsFit_23 (w : World) (op a b c n : Int) (hk : rcnt op = 2) (ha : decide (0 ≤ a ∧ a ≤ 15) = true) (hb : decide (0 ≤ b ∧ b ≤ 15) = true) (hc : (c != 0) = false) : Calls Tryd.prog 50 #[.agg #[.int .i64 op, .int .i64 a, .int .i64 b, .int .i64 c, .int .i64 n]] w fun e w' => e = .returned (.bool true) ∧ Below w.heap.size w w' := by
  have HK : Hid (∀ W, Calls Tryd.prog 22 #[.int .i64 op] W fun e w' => e = .returned (.int .i64 2) ∧ w' = W) := fun W => regsOf_any W op hk
  have Ha : Hid (∀ W, Calls Tryd.prog 47 #[.int .i64 a, .int .i64 0, .int .i64 15] W fun e w' => e = .returned (.bool true) ∧ w' = W) := fun W => withinR W a 0 15 ha
  clear ha
  have Hb : Hid (∀ W, Calls Tryd.prog 47 #[.int .i64 b, .int .i64 0, .int .i64 15] W fun e w' => e = .returned (.bool true) ∧ w' = W) := fun W => withinR W b 0 15 hb
  clear hb
  have ix0 : ∀ W : World, (Instr.index 77 (.agg #[.int .i64 a, .int .i64 b, .int .i64 c]) (.int .i64 0)).run Tryd.prog W = .ok (.int .i64 a) W := fun _ => by kernel_rfl
  have ix1 : ∀ W : World, (Instr.index 77 (.agg #[.int .i64 a, .int .i64 b, .int .i64 c]) (.int .i64 1)).run Tryd.prog W = .ok (.int .i64 b) W := fun _ => by kernel_rfl
  have ix2 : ∀ W : World, (Instr.index 77 (.agg #[.int .i64 a, .int .i64 b, .int .i64 c]) (.int .i64 2)).run Tryd.prog W = .ok (.int .i64 c) W := fun _ => by kernel_rfl
  clear hk
  go_enter Tryd.func50, Tryd.ntmps50
  go_wp2_with (first | (go_at_call 22; refine Calls.mono (HK.out _) ?_; rintro e w1 ⟨rfl, rfl⟩) | (refine Calls.mono (Ha.out _) ?_; rintro e w1 ⟨rfl, rfl⟩) | (refine Calls.mono (Hb.out _) ?_; rintro e w1 ⟨rfl, rfl⟩))
  refine wp_loop_rounds 4 ?_
  rw [rounds_succ]
  go_wp2_with fail
  refine Calls.mono (Ha.out _) ?_
  rintro e w1 ⟨rfl, rfl⟩
  go_wp2_with fail
  rw [rounds_succ]
  go_wp2_with fail
  refine Calls.mono (Hb.out _) ?_
  rintro e w1 ⟨rfl, rfl⟩
  go_wp2_with fail
  rw [rounds_succ]
  go_wp2_with fail
  rw [rounds_succ]
  go_wp2_with fail
  go_ret
  exact ⟨rfl, below_newR _ _⟩
set_option maxRecDepth 100000 in
theorem regsFit_30 (w : World) (op a b c n : Int) (hk : rcnt op = 3) (ha : decide (0 ≤ a ∧ a ≤ 15) = false) : Calls Tryd.prog 50 #[.agg #[.int .i64 op, .int .i64 a, .int .i64 b, .int .i64 c, .int .i64 n]] w fun e w' => e = .returned (.bool false) ∧ Below w.heap.size w w' := by
  have HK : Hid (∀ W, Calls Tryd.prog 22 #[.int .i64 op] W fun e w' => e = .returned (.int .i64 3) ∧ w' = W) := fun W => regsOf_any W op hk
  have Ha : Hid (∀ W, Calls Tryd.prog 47 #[.int .i64 a, .int .i64 0, .int .i64 15] W fun e w' => e = .returned (.bool false) ∧ w' = W) := fun W => withinR W a 0 15 ha
  clear ha
  have ix0 : ∀ W : World, (Instr.index 77 (.agg #[.int .i64 a, .int .i64 b, .int .i64 c]) (.int .i64 0)).run Tryd.prog W = .ok (.int .i64 a) W := fun _ => by kernel_rfl
  have ix1 : ∀ W : World, (Instr.index 77 (.agg #[.int .i64 a, .int .i64 b, .int .i64 c]) (.int .i64 1)).run Tryd.prog W = .ok (.int .i64 b) W := fun _ => by kernel_rfl
  have ix2 : ∀ W : World, (Instr.index 77 (.agg #[.int .i64 a, .int .i64 b, .int .i64 c]) (.int .i64 2)).run Tryd.prog W = .ok (.int .i64 c) W := fun _ => by kernel_rfl
  clear hk
  go_enter Tryd.func50, Tryd.ntmps50
  go_wp2_with (first | (go_at_call 22; refine Calls.mono (HK.out _) ?_; rintro e w1 ⟨rfl, rfl⟩) | (refine Calls.mono (Ha.out _) ?_; rintro e w1 ⟨rfl, rfl⟩))
  refine wp_loop_rounds 1 ?_
  rw [rounds_succ]
  go_wp2_with fail
  refine Calls.mono (Ha.out _) ?_
  rintro e w1 ⟨rfl, rfl⟩
  go_wp2_with fail
  go_ret
  exact ⟨rfl, below_newR _ _⟩
set_option maxRecDepth 100000 in
theorem regsFit_31 (w : World) (op a b c n : Int) (hk : rcnt op = 3) (ha : decide (0 ≤ a ∧ a ≤ 15) = true) (hb : decide (0 ≤ b ∧ b ≤ 15) = false) : Calls Tryd.prog 50 #[.agg #[.int .i64 op, .int .i64 a, .int .i64 b, .int .i64 c, .int .i64 n]] w fun e w' => e = .returned (.bool false) ∧ Below w.heap.size w w' := by
  have HK : Hid (∀ W, Calls Tryd.prog 22 #[.int .i64 op] W fun e w' => e = .returned (.int .i64 3) ∧ w' = W) := fun W => regsOf_any W op hk
  have Ha : Hid (∀ W, Calls Tryd.prog 47 #[.int .i64 a, .int .i64 0, .int .i64 15] W fun e w' => e = .returned (.bool true) ∧ w' = W) := fun W => withinR W a 0 15 ha
  clear ha
  have Hb : Hid (∀ W, Calls Tryd.prog 47 #[.int .i64 b, .int .i64 0, .int .i64 15] W fun e w' => e = .returned (.bool false) ∧ w' = W) := fun W => withinR W b 0 15 hb
  clear hb
  have ix0 : ∀ W : World, (Instr.index 77 (.agg #[.int .i64 a, .int .i64 b, .int .i64 c]) (.int .i64 0)).run Tryd.prog W = .ok (.int .i64 a) W := fun _ => by kernel_rfl
  have ix1 : ∀ W : World, (Instr.index 77 (.agg #[.int .i64 a, .int .i64 b, .int .i64 c]) (.int .i64 1)).run Tryd.prog W = .ok (.int .i64 b) W := fun _ => by kernel_rfl
  have ix2 : ∀ W : World, (Instr.index 77 (.agg #[.int .i64 a, .int .i64 b, .int .i64 c]) (.int .i64 2)).run Tryd.prog W = .ok (.int .i64 c) W := fun _ => by kernel_rfl
  clear hk
  go_enter Tryd.func50, Tryd.ntmps50
  go_wp2_with (first | (go_at_call 22; refine Calls.mono (HK.out _) ?_; rintro e w1 ⟨rfl, rfl⟩) | (refine Calls.mono (Ha.out _) ?_; rintro e w1 ⟨rfl, rfl⟩) | (refine Calls.mono (Hb.out _) ?_; rintro e w1 ⟨rfl, rfl⟩))
  refine wp_loop_rounds 2 ?_
  rw [rounds_succ]
  go_wp2_with fail
  refine Calls.mono (Ha.out _) ?_
  rintro e w1 ⟨rfl, rfl⟩
  go_wp2_with fail
  rw [rounds_succ]
  go_wp2_with fail
  refine Calls.mono (Hb.out _) ?_
  rintro e w1 ⟨rfl, rfl⟩
  go_wp2_with fail
  go_ret
  exact ⟨rfl, below_newR _ _⟩
set_option maxRecDepth 100000 in
theorem regsFit_32 (w : World) (op a b c n : Int) (hk : rcnt op = 3) (ha : decide (0 ≤ a ∧ a ≤ 15) = true) (hb : decide (0 ≤ b ∧ b ≤ 15) = true) (hc : decide (0 ≤ c ∧ c ≤ 15) = false) : Calls Tryd.prog 50 #[.agg #[.int .i64 op, .int .i64 a, .int .i64 b, .int .i64 c, .int .i64 n]] w fun e w' => e = .returned (.bool false) ∧ Below w.heap.size w w' := by
  have HK : Hid (∀ W, Calls Tryd.prog 22 #[.int .i64 op] W fun e w' => e = .returned (.int .i64 3) ∧ w' = W) := fun W => regsOf_any W op hk
  have Ha : Hid (∀ W, Calls Tryd.prog 47 #[.int .i64 a, .int .i64 0, .int .i64 15] W fun e w' => e = .returned (.bool true) ∧ w' = W) := fun W => withinR W a 0 15 ha
  clear ha
  have Hb : Hid (∀ W, Calls Tryd.prog 47 #[.int .i64 b, .int .i64 0, .int .i64 15] W fun e w' => e = .returned (.bool true) ∧ w' = W) := fun W => withinR W b 0 15 hb
  clear hb
  have Hc : Hid (∀ W, Calls Tryd.prog 47 #[.int .i64 c, .int .i64 0, .int .i64 15] W fun e w' => e = .returned (.bool false) ∧ w' = W) := fun W => withinR W c 0 15 hc
  clear hc
  have ix0 : ∀ W : World, (Instr.index 77 (.agg #[.int .i64 a, .int .i64 b, .int .i64 c]) (.int .i64 0)).run Tryd.prog W = .ok (.int .i64 a) W := fun _ => by kernel_rfl
  have ix1 : ∀ W : World, (Instr.index 77 (.agg #[.int .i64 a, .int .i64 b, .int .i64 c]) (.int .i64 1)).run Tryd.prog W = .ok (.int .i64 b) W := fun _ => by kernel_rfl
  have ix2 : ∀ W : World, (Instr.index 77 (.agg #[.int .i64 a, .int .i64 b, .int .i64 c]) (.int .i64 2)).run Tryd.prog W = .ok (.int .i64 c) W := fun _ => by kernel_rfl
  clear hk
  go_enter Tryd.func50, Tryd.ntmps50
  go_wp2_with (first | (go_at_call 22; refine Calls.mono (HK.out _) ?_; rintro e w1 ⟨rfl, rfl⟩) | (refine Calls.mono (Ha.out _) ?_; rintro e w1 ⟨rfl, rfl⟩) | (refine Calls.mono (Hb.out _) ?_; rintro e w1 ⟨rfl, rfl⟩) | (refine Calls.mono (Hc.out _) ?_; rintro e w1 ⟨rfl, rfl⟩))
  refine wp_loop_rounds 3 ?_
  rw [rounds_succ]
  go_wp2_with fail
  refine Calls.mono (Ha.out _) ?_
  rintro e w1 ⟨rfl, rfl⟩
  go_wp2_with fail
  rw [rounds_succ]
  go_wp2_with fail
  refine Calls.mono (Hb.out _) ?_
  rintro e w1 ⟨rfl, rfl⟩
  go_wp2_with fail
  rw [rounds_succ]
  go_wp2_with fail
  refine Calls.mono (Hc.out _) ?_
  rintro e w1 ⟨rfl, rfl⟩
  go_wp2_with fail
  go_ret
  exact ⟨rfl, below_newR _ _⟩
set_option maxRecDepth 100000 in
theorem regsFit_33 (w : World) (op a b c n : Int) (hk : rcnt op = 3) (ha : decide (0 ≤ a ∧ a ≤ 15) = true) (hb : decide (0 ≤ b ∧ b ≤ 15) = true) (hc : decide (0 ≤ c ∧ c ≤ 15) = true) : Calls Tryd.prog 50 #[.agg #[.int .i64 op, .int .i64 a, .int .i64 b, .int .i64 c, .int .i64 n]] w fun e w' => e = .returned (.bool true) ∧ Below w.heap.size w w' := by
  have HK : Hid (∀ W, Calls Tryd.prog 22 #[.int .i64 op] W fun e w' => e = .returned (.int .i64 3) ∧ w' = W) := fun W => regsOf_any W op hk
  have Ha : Hid (∀ W, Calls Tryd.prog 47 #[.int .i64 a, .int .i64 0, .int .i64 15] W fun e w' => e = .returned (.bool true) ∧ w' = W) := fun W => withinR W a 0 15 ha
  clear ha
  have Hb : Hid (∀ W, Calls Tryd.prog 47 #[.int .i64 b, .int .i64 0, .int .i64 15] W fun e w' => e = .returned (.bool true) ∧ w' = W) := fun W => withinR W b 0 15 hb
  clear hb
  have Hc : Hid (∀ W, Calls Tryd.prog 47 #[.int .i64 c, .int .i64 0, .int .i64 15] W fun e w' => e = .returned (.bool true) ∧ w' = W) := fun W => withinR W c 0 15 hc
  clear hc
  have ix0 : ∀ W : World, (Instr.index 77 (.agg #[.int .i64 a, .int .i64 b, .int .i64 c]) (.int .i64 0)).run Tryd.prog W = .ok (.int .i64 a) W := fun _ => by kernel_rfl
  have ix1 : ∀ W : World, (Instr.index 77 (.agg #[.int .i64 a, .int .i64 b, .int .i64 c]) (.int .i64 1)).run Tryd.prog W = .ok (.int .i64 b) W := fun _ => by kernel_rfl
  have ix2 : ∀ W : World, (Instr.index 77 (.agg #[.int .i64 a, .int .i64 b, .int .i64 c]) (.int .i64 2)).run Tryd.prog W = .ok (.int .i64 c) W := fun _ => by kernel_rfl
  clear hk
  go_enter Tryd.func50, Tryd.ntmps50
  go_wp2_with (first | (go_at_call 22; refine Calls.mono (HK.out _) ?_; rintro e w1 ⟨rfl, rfl⟩) | (refine Calls.mono (Ha.out _) ?_; rintro e w1 ⟨rfl, rfl⟩) | (refine Calls.mono (Hb.out _) ?_; rintro e w1 ⟨rfl, rfl⟩) | (refine Calls.mono (Hc.out _) ?_; rintro e w1 ⟨rfl, rfl⟩))
  refine wp_loop_rounds 4 ?_
  rw [rounds_succ]
  go_wp2_with fail
  refine Calls.mono (Ha.out _) ?_
  rintro e w1 ⟨rfl, rfl⟩
  go_wp2_with fail
  rw [rounds_succ]
  go_wp2_with fail
  refine Calls.mono (Hb.out _) ?_
  rintro e w1 ⟨rfl, rfl⟩
  go_wp2_with fail
  rw [rounds_succ]
  go_wp2_with fail
  refine Calls.mono (Hc.out _) ?_
  rintro e w1 ⟨rfl, rfl⟩
  go_wp2_with fail
  rw [rounds_succ]
  go_wp2_with fail
  go_ret
  exact ⟨rfl, below_newR _ _⟩
end Go.Proofs.YtjiaedckecfjbaaDoor
