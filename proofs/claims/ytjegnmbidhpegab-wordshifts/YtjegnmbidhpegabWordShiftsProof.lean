import Derived.Test.YtjegnmbidhpegabRows
import Derived.WalkKit
import Derived.ProofKit
import Derived.OpenShut
import Derived.Test.YtjegnmbidhpegabAlive
import Derived.Test.YtjegnmbidhpegabNumS
namespace Go.Proofs.Ytjegnmbidhpegab.wordShifts
open Go.ChangeShapes Go.WideShapes Go.ChangeAt Go.RowKit
set_option linter.unusedVariables false      -- a walk need not use every 'w<i>' (that an integer argument fits its kind)

theorem own : ownKnob Try.prog.godebug = none := by kernel_rfl

open NumS

theorem shl_big (a b : Int) (h : 63 < b) : shlI a b = 0 := by
  unfold shlI
  rw [if_neg (by omega), show min b.toNat 64 = 64 from by omega]
  exact xk_big a
theorem shr_big (a b : Int) (ha : -9223372036854775808 ≤ a ∧ a ≤ 9223372036854775807) (h : 63 < b) : shrI a b = if a < 0 then -1 else 0 := by
  unfold shrI
  rw [if_neg (by omega), show min b.toNat 64 = 64 from by omega]
  exact yk_big a ha
theorem shl_at (a : Int) (n : Nat) (h : n ≤ 63) : shlI a n = xk a n := by
  unfold shlI xk
  rw [if_neg (by omega), show min (n : Int).toNat 64 = n from by omega]
theorem shr_at (a : Int) (n : Nat) (h : n ≤ 63) : shrI a n = yk a n := by
  unfold shrI yk
  rw [if_neg (by omega), show min (n : Int).toNat 64 = n from by omega]
theorem y_step (a : Int) (k : Nat) (h : -9223372036854775808 ≤ a ∧ a ≤ 9223372036854775807) : divI (wrap64 (yk a k - bits .and .i64 (yk a k) 1)) 2 = yk a (k + 1) := by
  rw [i64_and1, yk_succ]
  exact half _ (yk_bd a h k)

theorem walk_neg (a b : Int) (hb : b < 0) (w : World) : Calls Try.prog 3 #[.int .i64 a, .int .i64 b] w fun e w' => e = .returned (.bool true) ∧ Grown w w' := by
  have e1 : shlI a b = 0 := by unfold shlI; rw [if_pos hb]
  have e2 : shrI a b = 0 := by unfold shrI; rw [if_pos hb]
  have n1 : shlI 1 3 = 8 := by unfold shlI wrap64; decide
  have n2 : shrI (-8) 3 = -1 := by unfold shrI; decide
  go_enter Try.func3, Try.ntmps3
  go_wp2_with fail
  refine (alive_any _).mono ?_
  rintro e u1 ⟨rfl, g1⟩
  go_wp2_with (first | (go_at_call 7; refine (shl_any _ _ _).mono ?_; rintro e w' ⟨rfl, rfl⟩) | (go_at_call 8; refine (shr_any _ _ _).mono ?_; rintro e w' ⟨rfl, rfl⟩))
  go_ret
  exact ⟨rfl, g1⟩

theorem walk_big (a b : Int) (ha : -9223372036854775808 ≤ a ∧ a ≤ 9223372036854775807) (hb : 63 < b) (w : World) : Calls Try.prog 3 #[.int .i64 a, .int .i64 b] w fun e w' => e = .returned (.bool true) ∧ Grown w w' := by
  have e1 : shlI a b = 0 := shl_big a b hb
  have n1 : shlI 1 3 = 8 := by unfold shlI wrap64; decide
  have n2 : shrI (-8) 3 = -1 := by unfold shrI; decide
  have h0 : ¬ b < 0 := by omega
  by_cases c : a < 0
  · have e2 : shrI a b = -1 := by rw [shr_big a b ha hb, if_pos c]
    go_enter Try.func3, Try.ntmps3
    go_wp2_with fail
    refine (alive_any _).mono ?_
    rintro e u1 ⟨rfl, g1⟩
    go_wp2_with (first | (go_at_call 7; refine (shl_any _ _ _).mono ?_; rintro e w' ⟨rfl, rfl⟩) | (go_at_call 8; refine (shr_any _ _ _).mono ?_; rintro e w' ⟨rfl, rfl⟩))
    go_ret
    exact ⟨rfl, g1⟩
  · have e2 : shrI a b = 0 := by rw [shr_big a b ha hb, if_neg c]
    go_enter Try.func3, Try.ntmps3
    go_wp2_with fail
    refine (alive_any _).mono ?_
    rintro e u1 ⟨rfl, g1⟩
    go_wp2_with (first | (go_at_call 7; refine (shl_any _ _ _).mono ?_; rintro e w' ⟨rfl, rfl⟩) | (go_at_call 8; refine (shr_any _ _ _).mono ?_; rintro e w' ⟨rfl, rfl⟩))
    go_ret
    exact ⟨rfl, g1⟩

theorem walk_mid (a : Int) (n : Nat) (ha : -9223372036854775808 ≤ a ∧ a ≤ 9223372036854775807) (hn : n ≤ 63) (w : World) : Calls Try.prog 3 #[.int .i64 a, .int .i64 n] w fun e w' => e = .returned (.bool true) ∧ Grown w w' := by
  have n1 : shlI 1 3 = 8 := by unfold shlI wrap64; decide
  have n2 : shrI (-8) 3 = -1 := by unfold shrI; decide
  have hx0 : Hid (xk a 0 = a) := xk_zero a ha
  have hy0 : Hid (yk a 0 = a) := yk_zero a
  have hxs : Hid (∀ k, wrap64 (xk a k * 2) = xk a (k + 1)) := xk_succ a
  have hys : Hid (∀ k, divI (wrap64 (yk a k - bits .and .i64 (yk a k) 1)) 2 = yk a (k + 1)) := fun k => y_step a k ha
  have hl : Hid (shlI a n = xk a n) := shl_at a n hn
  have hr : Hid (shrI a n = yk a n) := shr_at a n hn
  clear ha
  by_cases c : a < 0
  all_goals
    go_enter Try.func3, Try.ntmps3
    go_wp2_with fail
    refine (alive_any _).mono ?_
    rintro e u1 ⟨rfl, g1⟩
    go_wp2_with (first | (go_at_call 7; refine (shl_any _ _ _).mono ?_; rintro e w' ⟨rfl, rfl⟩) | (go_at_call 8; refine (shr_any _ _ _).mono ?_; rintro e w' ⟨rfl, rfl⟩))
    go_loop [6, 7, 8] (fun x y i => ∃ k : Nat, k ≤ n ∧ i = .int .i64 k ∧ x = .int .i64 (xk a k) ∧ y = .int .i64 (yk a k)) (fun _ _ i => n - (intOf i).toNat)
    case atStart => exact ⟨0, Nat.zero_le _, rfl, by rw [hx0.out], by rw [hy0.out]⟩
    case round =>
      obtain ⟨k, hk, rfl, rfl, rfl⟩ := hrel
      by_cases hlt : k < n
      · go_wp2_with (first | (go_at_call 9; refine (mul_any _ _ _).mono ?_; rintro e w' ⟨rfl, rfl⟩) | (go_at_call 10; refine (and_any _ _ _).mono ?_; rintro e w' ⟨rfl, rfl⟩) | (go_at_call 12; refine (sub_any _ _ _).mono ?_; rintro e w' ⟨rfl, rfl⟩) | (go_at_call 11; refine (div_any _ _ _).mono ?_; rintro e w' ⟨rfl, rfl⟩))
        go_round
        case rel => exact ⟨k + 1, by omega, by go_num, by rw [hxs.out], by rw [hys.out]⟩
        case measure => simp [intOf]; omega
      · obtain rfl : k = n := by omega
        go_wp2_with (first | (go_at_call 7; refine (shl_any _ _ _).mono ?_; rintro e w' ⟨rfl, rfl⟩; rw [hl.out]) | (go_at_call 8; refine (shr_any _ _ _).mono ?_; rintro e w' ⟨rfl, rfl⟩; rw [hr.out]))
        go_ret
        exact ⟨rfl, g1⟩

/-! ### STEP 1: THE WALK: the Go text returns true. 'Grown w w'': the world has at most new blocks (Derived/RowKit3.lean). Part the cases AHEAD of 'go_enter' where a test parts the walk; take each callee by a contract of your own. -/
theorem walk (a0 : Int) (a1 : Int) (w0 : (Lit.int .i64 a0).wf = true) (w1 : (Lit.int .i64 a1).wf = true) (w : World) :
    Calls Try.prog 3 #[.int .i64 a0, .int .i64 a1] w fun e w' => e = .returned (.bool true) ∧ Grown w w' := by
  have ha := bounds_i64 w0
  by_cases h1 : a1 < 0
  · exact walk_neg a0 a1 h1 w
  · by_cases h2 : 63 < a1
    · exact walk_big a0 a1 ha h2 w
    · obtain ⟨n, rfl⟩ := Int.eq_ofNat_of_zero_le (show 0 ≤ a1 by omega)
      exact walk_mid a0 n ha (by omega) w

/-! ### THE ROW's STEP: WRITTEN OUT: LEAVE IT -/
set_option maxRecDepth 100000 in
theorem lifted (os : Os) (started : os.Started) (H : Type) (enc : TypeId × Value → H) :
    ReturnsInHanded {} Try.checked os 3 .any (Rows.wordShiftsSpec.pre6 enc Try.prog Try.f3 Rows.wordShiftsRow.domain false) (Rows.wordShiftsSpec.post enc Try.prog Try.f3 false true false false) := by
  refine returnsInHanded_of_change (C := Try.checked) own started (by kernel_rfl) Try.func3
    (ChangeSpec.witness6 (enc := enc) (C := Try.checked) false ⟨#[], #[.int .i64 0, .int .i64 0], []⟩ 8 (by kernel_rfl) (by kernel_rfl) (by kernel_rfl) (by kernel_rfl)) ?_
  intro W base args ds gs before hval0 hW hcnd _
  have hval : ∀ (j : Nat) t v, Try.f3.params[j]? = some t → args[j]? = some v → Value.okWide Try.prog W .any base t v := hval0
  have hW' := hW
  obtain ⟨p, q, hA0, hV, rfl, hfz, hnd⟩ := hW
  have hA : DataW.TrodAll enc Try.prog W 0 (fun _ => true) true Try.f3.params.toList args.toList ds p := hA0
  rw [Try.params3] at hA hval
  obtain ⟨v0, vs0, d0, ds0, p0, q0, hargs, rfl, rfl, h0, r0⟩ := trodAll_cons hA
  obtain ⟨v1, vs1, d1, ds1, p1, q1, rfl, rfl, rfl, h1, r1⟩ := trodAll_cons r0
  obtain ⟨rfl, rfl, rfl⟩ := trodAll_nil r1
  obtain rfl : args = #[v0, v1] := by cases args; simp_all
  obtain ⟨rfl, rfl⟩ := trodVars_none hV
  obtain ⟨a0, rfl, rfl, rfl, w0⟩ := open_int Try.underlying3 (hval 0 3 v0 rfl rfl) h0
  obtain ⟨a1, rfl, rfl, rfl, w1⟩ := open_int Try.underlying3 (hval 1 3 v1 rfl rfl) h1
  clear hA0 hval0
  simp only [List.append_nil] at hW'
  refine (walk a0 a1 w0 w1 W).mono fun e W' ⟨he, hg⟩ => ?_
  subst he
  exact ⟨_, rfl, post_of_same (pa := []) (pv := []) hW' (fun _ _ _ => (trodAll_cons_mk (shut_bool Try.underlying4 _) trodAll_mk0)) (fun sp _ => (trodAll_cons_mk (shut_int Try.underlying3 w0) (trodAll_cons_mk (shut_int Try.underlying3 w1) trodAll_mk0))) (fun _ _ => rfl) rfl
    (hg.frame _) hg.2.1 (ok_one (by kernel_rfl) rfl (okWide_bool_mk Try.underlying4 _))⟩

theorem over : Rows.wordShiftsRow.holds Try.pinned (OpenSpec.ofChange Rows.wordShiftsSpec) :=
  OpenClaim.holds_of_wide 3 Try.f3 rfl rfl rfl rfl rfl rfl rfl ⟨rfl, rfl, rfl, rfl, rfl⟩ rfl rfl rfl rfl rfl (by kernel_rfl) Try.func3 (by kernel_rfl)
    (of_decide_eq_true (by kernel_rfl)) (by unfold Func.isWrapper; first | (rw [if_pos (by decide +kernel)]; kernel_rfl) | (rw [if_neg (by decide +kernel)]; exact ⟨rfl, rfl⟩))
    (fun os started H enc _ => lifted os started H enc)

/-- ████ THE STATEMENT ████ -/
theorem proved : Rows.WordShiftsSaid :=
  over
#print axioms proved
end Go.Proofs.Ytjegnmbidhpegab.wordShifts
namespace Go.Proofs.Ytjegnmbidhpegab
theorem wordShifts_holds : Rows.WordShiftsSaid := wordShifts.proved
#print axioms wordShifts_holds
end Go.Proofs.Ytjegnmbidhpegab
