import Derived.Test.YtjegnmbidhpegaaRows
import Derived.WalkKit
import Derived.ProofKit
import Derived.OpenShut
import Derived.Test.YtjegnmbidhpegaaAlive
import Derived.Test.YtjegnmbidhpegaaNumR
import Derived.Test.YtjegnmbidhpegaaRefD
namespace Go.Proofs.Ytjegnmbidhpegaa.wordParts
open Go.ChangeShapes Go.WideShapes Go.ChangeAt Go.RowKit
set_option linter.unusedVariables false      -- a walk need not use every 'w<i>' (that an integer argument fits its kind)

theorem own : ownKnob Try.prog.godebug = none := by kernel_rfl

/-! what chapter 1 says of a quotient and of what is left, over the plain integers -/
theorem p_sum (a b : Int) (ha : -9223372036854775808 ≤ a ∧ a ≤ 9223372036854775807) (hb : b ≠ 0) : wrap64 (wrap64 (divI a b * b) + remI a b) = a := by
  unfold divI remI
  rw [if_neg hb, if_neg hb, NumR.addL]
  have e : wrap64 (wrap64 (a.tdiv b) * b + a.tmod b) = wrap64 (a.tdiv b * b + a.tmod b) := by
    rw [← NumR.addL, NumR.mulL, NumR.addL]
  rw [e, Int.mul_comm, Int.mul_tdiv_add_tmod]
  exact NumR.wrap_self a ha
theorem p_pos (a b : Int) (h : 0 ≤ a) : 0 ≤ remI a b := by
  unfold remI; split
  · omega
  · exact Int.tmod_nonneg b h
theorem p_neg (a b : Int) (h : a ≤ 0) : remI a b ≤ 0 := by
  unfold remI; split
  · omega
  · have := Int.tmod_nonneg (a := -a) b (by omega)
    rw [Int.neg_tmod] at this
    omega
theorem p_abs (a b : Int) (hb : b ≠ 0) : (remI a b).natAbs < b.natAbs := by
  unfold remI
  rw [if_neg hb, Int.natAbs_tmod]
  exact Nat.mod_lt _ (by omega)
theorem p_least_r (a : Int) (ha : -9223372036854775808 ≤ a ∧ a ≤ 9223372036854775807) (h : a ≠ -9223372036854775808) : remI a (-9223372036854775808) = a ∧ divI a (-9223372036854775808) = 0 := by
  have h1 : a.natAbs < 9223372036854775808 := by omega
  have e1 : (a.tdiv (-9223372036854775808)) = 0 := by
    apply Int.natAbs_eq_zero.1
    rw [Int.natAbs_tdiv]
    exact Nat.div_eq_of_lt h1
  constructor
  · unfold remI
    rw [if_neg (by decide), Int.tmod_def, e1]
    omega
  · unfold divI
    rw [if_neg (by decide), e1]
    unfold wrap64; decide
theorem p_least_b : remI (-9223372036854775808) (-9223372036854775808) = 0 ∧ divI (-9223372036854775808) (-9223372036854775808) = 1 := by
  constructor
  · unfold remI; decide
  · unfold divI wrap64; decide

theorem parts_zero (a : Int) (w : World) : Calls Try.prog 7 #[.int .i64 a, .int .i64 0] w fun e w' => e = .returned (.bool true) ∧ Grown w w' := by
  have e1 : divI a 0 = 0 := rfl
  have e2 : remI a 0 = 0 := rfl
  have e3 : divI 7 2 = 3 := by unfold divI wrap64; decide
  go_enter Try.func7, Try.ntmps7
  go_wp2_with (first | (go_at_call 9; refine (alive_any _).mono ?_; rintro e u1 ⟨rfl, g1⟩) | (first | (go_at_call 15; refine (div_any _ _ _).mono ?_; rintro e w' ⟨rfl, rfl⟩) | (go_at_call 16; refine (rem_any _ _ _).mono ?_; rintro e w' ⟨rfl, rfl⟩)))
  go_ret
  exact ⟨rfl, by assumption⟩

theorem parts_mid (a b q r : Int) (hq : Hid (divI a b = q)) (hr : Hid (remI a b = r)) (hb0 : (b == 0) = false) (hbl : (b == -9223372036854775808) = false) (hsum : (wrap64 (wrap64 (q * b) + r) != a) = false)
    (hs : (a < 0 ∧ r ≤ 0) ∨ (0 < a ∧ 0 ≤ r) ∨ (a ≤ 0 ∧ 0 ≤ a ∧ r ≤ 0 ∧ 0 ≤ r)) (hm : (b < 0 ∧ -9223372036854775808 < b ∧ r < -b ∧ b < r) ∨ (0 < b ∧ b ≤ 9223372036854775807 ∧ r < b ∧ -b < r)) (w : World) : Calls Try.prog 7 #[.int .i64 a, .int .i64 b] w fun e w' => e = .returned (.bool true) ∧ Grown w w' := by
  have e3 : divI 7 2 = 3 := by unfold divI wrap64; decide
  rcases hs with ⟨s1, s2⟩ | ⟨s1, s2⟩ | ⟨s1, s2, s3, s4⟩ <;> rcases hm with ⟨m1, m2, m3, m4⟩ | ⟨m1, m2, m3, m4⟩
  all_goals
    go_enter Try.func7, Try.ntmps7
    go_wp2_with (first | (go_at_call 9; refine (alive_any _).mono ?_; rintro e u1 ⟨rfl, g1⟩) | (go_at_call 15; refine (div_any _ _ _).mono ?_; rintro e w' ⟨rfl, rfl⟩; try rw [hq.out]) | (go_at_call 16; refine (rem_any _ _ _).mono ?_; rintro e w' ⟨rfl, rfl⟩; rw [hr.out]) | (first | (go_at_call 12; refine (mul_any _ _ _).mono ?_; rintro e w' ⟨rfl, rfl⟩) | (go_at_call 11; refine (add_any _ _ _).mono ?_; rintro e w' ⟨rfl, rfl⟩)))
    go_ret
    exact ⟨rfl, by assumption⟩

theorem parts_least (a q r : Int) (hq : Hid (divI a (-9223372036854775808) = q)) (hr : Hid (remI a (-9223372036854775808) = r)) (hsum : (wrap64 (wrap64 (q * -9223372036854775808) + r) != a) = false)
    (hs : (a < 0 ∧ r ≤ 0) ∨ (0 < a ∧ 0 ≤ r) ∨ (a ≤ 0 ∧ 0 ≤ a ∧ r ≤ 0 ∧ 0 ≤ r)) (hm : ((r == a) = true ∧ (q == 0) = true) ∨ ((a == -9223372036854775808) = true ∧ (r == a) = false ∧ (q == 1) = true ∧ (r == 0) = true)) (w : World) : Calls Try.prog 7 #[.int .i64 a, .int .i64 (-9223372036854775808)] w fun e w' => e = .returned (.bool true) ∧ Grown w w' := by
  have e3 : divI 7 2 = 3 := by unfold divI wrap64; decide
  rcases hs with ⟨s1, s2⟩ | ⟨s1, s2⟩ | ⟨s1, s2, s3, s4⟩ <;> rcases hm with ⟨m1, m2⟩ | ⟨m1, m2, m3, m4⟩
  all_goals
    go_enter Try.func7, Try.ntmps7
    go_wp2_with (first | (go_at_call 9; refine (alive_any _).mono ?_; rintro e u1 ⟨rfl, g1⟩) | (go_at_call 15; refine (div_any _ _ _).mono ?_; rintro e w' ⟨rfl, rfl⟩; try rw [hq.out]) | (go_at_call 16; refine (rem_any _ _ _).mono ?_; rintro e w' ⟨rfl, rfl⟩; rw [hr.out]) | (first | (go_at_call 12; refine (mul_any _ _ _).mono ?_; rintro e w' ⟨rfl, rfl⟩) | (go_at_call 11; refine (add_any _ _ _).mono ?_; rintro e w' ⟨rfl, rfl⟩)))
    go_ret
    exact ⟨rfl, by assumption⟩

theorem p_sign (a b : Int) : (a < 0 ∧ remI a b ≤ 0) ∨ (0 < a ∧ 0 ≤ remI a b) ∨ (a ≤ 0 ∧ 0 ≤ a ∧ remI a b ≤ 0 ∧ 0 ≤ remI a b) := by
  have h1 := p_pos a b
  have h2 := p_neg a b
  omega
/-! ### STEP 1: THE WALK: the Go text returns true. 'Grown w w'': the world has at most new blocks (Derived/RowKit3.lean). Part the cases AHEAD of 'go_enter' where a test parts the walk; take each callee by a contract of your own. -/
theorem walk (a0 : Int) (a1 : Int) (w0 : (Lit.int .i64 a0).wf = true) (w1 : (Lit.int .i64 a1).wf = true) (w : World) :
    Calls Try.prog 7 #[.int .i64 a0, .int .i64 a1] w fun e w' => e = .returned (.bool true) ∧ Grown w w' := by
  have ha := bounds_i64 w0
  have hb := bounds_i64 w1
  by_cases h0 : a1 = 0
  · subst h0; exact parts_zero a0 w
  · have hsum : (wrap64 (wrap64 (divI a0 a1 * a1) + remI a0 a1) != a0) = false := by rw [p_sum a0 a1 ha h0]; simp
    by_cases hl : a1 = -9223372036854775808
    · subst hl
      refine parts_least a0 _ _ (show Hid _ from rfl) (show Hid _ from rfl) hsum (p_sign _ _) ?_ w
      by_cases e : a0 = -9223372036854775808
      · subst e
        rw [p_least_b.1, p_least_b.2]
        exact Or.inr ⟨by decide, by decide, by decide, by decide⟩
      · rw [(p_least_r a0 ha e).1, (p_least_r a0 ha e).2]
        exact Or.inl ⟨by simp, by decide⟩
    · have hab := p_abs a0 a1 h0
      refine parts_mid a0 a1 _ _ (show Hid _ from rfl) (show Hid _ from rfl) (by simp [h0]) (by simp [hl]) hsum (p_sign _ _) (by omega) w

/-! ### THE ROW's STEP: WRITTEN OUT: LEAVE IT -/
set_option maxRecDepth 100000 in
theorem lifted (os : Os) (started : os.Started) (H : Type) (enc : TypeId × Value → H) :
    ReturnsInHanded {} Try.checked os 7 .any (Rows.wordPartsSpec.pre6 enc Try.prog Try.f7 Rows.wordPartsRow.domain false) (Rows.wordPartsSpec.post enc Try.prog Try.f7 false true false false) := by
  refine returnsInHanded_of_change (C := Try.checked) own started (by kernel_rfl) Try.func7
    (ChangeSpec.witness6 (enc := enc) (C := Try.checked) false ⟨#[], #[.int .i64 0, .int .i64 0], []⟩ 8 (by kernel_rfl) (by kernel_rfl) (by kernel_rfl) (by kernel_rfl)) ?_
  intro W base args ds gs before hval0 hW hcnd _
  have hval : ∀ (j : Nat) t v, Try.f7.params[j]? = some t → args[j]? = some v → Value.okWide Try.prog W .any base t v := hval0
  have hW' := hW
  obtain ⟨p, q, hA0, hV, rfl, hfz, hnd⟩ := hW
  have hA : DataW.TrodAll enc Try.prog W 0 (fun _ => true) true Try.f7.params.toList args.toList ds p := hA0
  rw [Try.params7] at hA hval
  obtain ⟨v0, vs0, d0, ds0, p0, q0, hargs, rfl, rfl, h0, r0⟩ := trodAll_cons hA
  obtain ⟨v1, vs1, d1, ds1, p1, q1, rfl, rfl, rfl, h1, r1⟩ := trodAll_cons r0
  obtain ⟨rfl, rfl, rfl⟩ := trodAll_nil r1
  obtain rfl : args = #[v0, v1] := by cases args; simp_all
  obtain ⟨rfl, rfl⟩ := trodVars_none hV
  obtain ⟨a0, rfl, rfl, rfl, w0⟩ := open_int Try.underlying3 (hval 0 3 v0 rfl rfl) h0
  obtain ⟨a1, rfl, rfl, rfl, w1⟩ := open_int Try.underlying3 (hval 1 3 v1 rfl rfl) h1
  clear hA0 hval0
  simp only [List.append_nil] at hW'
  refine (walk a0 a1 w0 w1 W).mono fun e W' ⟨he, hg⟩ => ?_
  subst he
  exact ⟨_, rfl, post_of_same (pa := []) (pv := []) hW' (fun _ _ _ => (trodAll_cons_mk (shut_bool Try.underlying4 _) trodAll_mk0)) (fun sp _ => (trodAll_cons_mk (shut_int Try.underlying3 w0) (trodAll_cons_mk (shut_int Try.underlying3 w1) trodAll_mk0))) (fun _ _ => rfl) rfl
    (hg.frame _) hg.2.1 (ok_one (by kernel_rfl) rfl (okWide_bool_mk Try.underlying4 _))⟩

theorem over : Rows.wordPartsRow.holds Try.pinned (OpenSpec.ofChange Rows.wordPartsSpec) :=
  OpenClaim.holds_of_wide 7 Try.f7 rfl rfl rfl rfl rfl rfl rfl ⟨rfl, rfl, rfl, rfl, rfl⟩ rfl rfl rfl rfl rfl (by kernel_rfl) Try.func7 (by kernel_rfl)
    (of_decide_eq_true (by kernel_rfl)) (by unfold Func.isWrapper; first | (rw [if_pos (by decide +kernel)]; kernel_rfl) | (rw [if_neg (by decide +kernel)]; exact ⟨rfl, rfl⟩))
    (fun os started H enc _ => lifted os started H enc)

/-- ████ THE STATEMENT ████ -/
theorem proved : Rows.WordPartsSaid :=
  over
#print axioms proved
end Go.Proofs.Ytjegnmbidhpegaa.wordParts
namespace Go.Proofs.Ytjegnmbidhpegaa
theorem wordParts_holds : Rows.WordPartsSaid := wordParts.proved
#print axioms wordParts_holds
end Go.Proofs.Ytjegnmbidhpegaa
