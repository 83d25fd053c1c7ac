import Derived.Test.YtjegnmbidhpegabRows
import Derived.WalkKit
import Derived.ProofKit
import Derived.OpenShut
import Derived.Test.YtjegnmbidhpegabAlive
namespace Go.Proofs.Ytjegnmbidhpegab.wordOrder
open Go.ChangeShapes Go.WideShapes Go.ChangeAt Go.RowKit
set_option linter.unusedVariables false      -- a walk need not use every 'w<i>' (that an integer argument fits its kind)

theorem own : ownKnob Try.prog.godebug = none := by kernel_rfl

theorem truth_of (op a b : Int) (p : Bool) (hd : ∀ w, Calls Try.prog 14 #[.int .i64 op, .int .i64 a, .int .i64 b] w fun e w' => e = .returned (.tuple #[.int .i64 (truthI p), .bool true]) ∧ Grown w w') (w : World) :
    Calls Try.prog 13 #[.int .i64 op, .int .i64 a, .int .i64 b] w fun e w' => e = .returned (.tuple #[.bool p, .bool true]) ∧ Grown w w' := by
  have hd' : Hid (∀ w, Calls Try.prog 14 #[.int .i64 op, .int .i64 a, .int .i64 b] w fun e w' => e = .returned (.tuple #[.int .i64 (truthI p), .bool true]) ∧ Grown w w') := hd
  clear hd
  cases p
  · go_enter Try.func13, Try.ntmps13
    go_wp2_with fail
    refine (hd'.out _).mono ?_
    rintro e u1 ⟨rfl, g1⟩
    have t : truthI false = 0 := rfl
    go_wp2
    go_ret2
    exact ⟨rfl, g1⟩
  · go_enter Try.func13, Try.ntmps13
    go_wp2_with fail
    refine (hd'.out _).mono ?_
    rintro e u1 ⟨rfl, g1⟩
    have t : truthI true = 1 := rfl
    go_wp2
    go_ret2
    exact ⟨rfl, g1⟩

theorem walk_of (a b : Int) (eq ne lt le gt : Bool) (h1 : (a == b) = eq) (h2 : (a != b) = ne) (h3 : decide (a < b) = lt) (h4 : decide (a ≤ b) = le) (h5 : decide (b < a) = gt)
    (hc : (eq = true ∧ ne = false ∧ lt = false ∧ le = true ∧ gt = false) ∨ (eq = false ∧ ne = true ∧ lt = true ∧ le = true ∧ gt = false) ∨ (eq = false ∧ ne = true ∧ lt = false ∧ le = false ∧ gt = true)) (w : World) :
    Calls Try.prog 4 #[.int .i64 a, .int .i64 b] w fun e w' => e = .returned (.bool true) ∧ Grown w w' := by
  have H1 : Hid (∀ w, Calls Try.prog 13 #[.int .i64 13, .int .i64 a, .int .i64 b] w fun e w' => e = .returned (.tuple #[.bool eq, .bool true]) ∧ Grown w w') := truth_of 13 a b eq (fun w => h1 ▸ do_13 a b w)
  have H2 : Hid (∀ w, Calls Try.prog 13 #[.int .i64 14, .int .i64 a, .int .i64 b] w fun e w' => e = .returned (.tuple #[.bool ne, .bool true]) ∧ Grown w w') := truth_of 14 a b ne (fun w => h2 ▸ do_14 a b w)
  have H3 : Hid (∀ w, Calls Try.prog 13 #[.int .i64 15, .int .i64 a, .int .i64 b] w fun e w' => e = .returned (.tuple #[.bool lt, .bool true]) ∧ Grown w w') := truth_of 15 a b lt (fun w => h3 ▸ do_15 a b w)
  have H4 : Hid (∀ w, Calls Try.prog 13 #[.int .i64 16, .int .i64 a, .int .i64 b] w fun e w' => e = .returned (.tuple #[.bool le, .bool true]) ∧ Grown w w') := truth_of 16 a b le (fun w => h4 ▸ do_16 a b w)
  have H5 : Hid (∀ w, Calls Try.prog 13 #[.int .i64 15, .int .i64 b, .int .i64 a] w fun e w' => e = .returned (.tuple #[.bool gt, .bool true]) ∧ Grown w w') := truth_of 15 b a gt (fun w => h5 ▸ do_15 b a w)
  clear h1 h2 h3 h4 h5
  have n1 : wrap64 (1 - 1) = 0 := by unfold wrap64; decide
  have n2 : wrap64 (1 - 0) = 1 := by unfold wrap64; decide
  have n3 : truthI (a == a) = 1 := by simp [truthI]
  rcases hc with ⟨rfl, rfl, rfl, rfl, rfl⟩ | ⟨rfl, rfl, rfl, rfl, rfl⟩ | ⟨rfl, rfl, rfl, rfl, rfl⟩
  all_goals
    go_enter Try.func4, Try.ntmps4
    go_wp2_with fail
    refine (H1.out _).mono ?_
    rintro e u1 ⟨rfl, g1⟩
    go_wp2_with fail
    refine (H2.out _).mono ?_
    rintro e u2 ⟨rfl, g2⟩
    go_wp2_with fail
    refine (H3.out _).mono ?_
    rintro e u3 ⟨rfl, g3⟩
    go_wp2_with fail
    refine (H4.out _).mono ?_
    rintro e u4 ⟨rfl, g4⟩
    go_wp2_with fail
    refine (H5.out _).mono ?_
    rintro e u5 ⟨rfl, g5⟩
    go_wp2_with fail
    refine (alive_any _).mono ?_
    rintro e u6 ⟨rfl, g6⟩
    go_wp2_with fail
    refine (do_19 _ _ _).mono ?_
    rintro e u7 ⟨rfl, g7⟩
    go_wp2_with fail
    refine (do_19 _ _ _).mono ?_
    rintro e u8 ⟨rfl, g8⟩
    go_wp2_with fail
    refine (do_13 _ _ _).mono ?_
    rintro e u9 ⟨rfl, g9⟩
    go_wp2
    go_ret
    exact ⟨rfl, grown_trans g1 (grown_trans g2 (grown_trans g3 (grown_trans g4 (grown_trans g5 (grown_trans g6 (grown_trans g7 (grown_trans g8 g9)))))))⟩

/-! ### STEP 1: THE WALK: the Go text returns true. 'Grown w w'': the world has at most new blocks (Derived/RowKit3.lean). Part the cases AHEAD of 'go_enter' where a test parts the walk; take each callee by a contract of your own. -/
theorem walk (a0 : Int) (a1 : Int) (w0 : (Lit.int .i64 a0).wf = true) (w1 : (Lit.int .i64 a1).wf = true) (w : World) :
    Calls Try.prog 4 #[.int .i64 a0, .int .i64 a1] w fun e w' => e = .returned (.bool true) ∧ Grown w w' := by
  refine walk_of a0 a1 _ _ _ _ _ rfl rfl rfl rfl rfl ?_ w
  simp
  omega

/-! ### THE ROW's STEP: WRITTEN OUT: LEAVE IT -/
set_option maxRecDepth 100000 in
theorem lifted (os : Os) (started : os.Started) (H : Type) (enc : TypeId × Value → H) :
    ReturnsInHanded {} Try.checked os 4 .any (Rows.wordOrderSpec.pre6 enc Try.prog Try.f4 Rows.wordOrderRow.domain false) (Rows.wordOrderSpec.post enc Try.prog Try.f4 false true false false) := by
  refine returnsInHanded_of_change (C := Try.checked) own started (by kernel_rfl) Try.func4
    (ChangeSpec.witness6 (enc := enc) (C := Try.checked) false ⟨#[], #[.int .i64 0, .int .i64 0], []⟩ 8 (by kernel_rfl) (by kernel_rfl) (by kernel_rfl) (by kernel_rfl)) ?_
  intro W base args ds gs before hval0 hW hcnd _
  have hval : ∀ (j : Nat) t v, Try.f4.params[j]? = some t → args[j]? = some v → Value.okWide Try.prog W .any base t v := hval0
  have hW' := hW
  obtain ⟨p, q, hA0, hV, rfl, hfz, hnd⟩ := hW
  have hA : DataW.TrodAll enc Try.prog W 0 (fun _ => true) true Try.f4.params.toList args.toList ds p := hA0
  rw [Try.params4] at hA hval
  obtain ⟨v0, vs0, d0, ds0, p0, q0, hargs, rfl, rfl, h0, r0⟩ := trodAll_cons hA
  obtain ⟨v1, vs1, d1, ds1, p1, q1, rfl, rfl, rfl, h1, r1⟩ := trodAll_cons r0
  obtain ⟨rfl, rfl, rfl⟩ := trodAll_nil r1
  obtain rfl : args = #[v0, v1] := by cases args; simp_all
  obtain ⟨rfl, rfl⟩ := trodVars_none hV
  obtain ⟨a0, rfl, rfl, rfl, w0⟩ := open_int Try.underlying3 (hval 0 3 v0 rfl rfl) h0
  obtain ⟨a1, rfl, rfl, rfl, w1⟩ := open_int Try.underlying3 (hval 1 3 v1 rfl rfl) h1
  clear hA0 hval0
  simp only [List.append_nil] at hW'
  refine (walk a0 a1 w0 w1 W).mono fun e W' ⟨he, hg⟩ => ?_
  subst he
  exact ⟨_, rfl, post_of_same (pa := []) (pv := []) hW' (fun _ _ _ => (trodAll_cons_mk (shut_bool Try.underlying4 _) trodAll_mk0)) (fun sp _ => (trodAll_cons_mk (shut_int Try.underlying3 w0) (trodAll_cons_mk (shut_int Try.underlying3 w1) trodAll_mk0))) (fun _ _ => rfl) rfl
    (hg.frame _) hg.2.1 (ok_one (by kernel_rfl) rfl (okWide_bool_mk Try.underlying4 _))⟩

theorem over : Rows.wordOrderRow.holds Try.pinned (OpenSpec.ofChange Rows.wordOrderSpec) :=
  OpenClaim.holds_of_wide 4 Try.f4 rfl rfl rfl rfl rfl rfl rfl ⟨rfl, rfl, rfl, rfl, rfl⟩ rfl rfl rfl rfl rfl (by kernel_rfl) Try.func4 (by kernel_rfl)
    (of_decide_eq_true (by kernel_rfl)) (by unfold Func.isWrapper; first | (rw [if_pos (by decide +kernel)]; kernel_rfl) | (rw [if_neg (by decide +kernel)]; exact ⟨rfl, rfl⟩))
    (fun os started H enc _ => lifted os started H enc)

/-- ████ THE STATEMENT ████ -/
theorem proved : Rows.WordOrderSaid :=
  over
#print axioms proved
end Go.Proofs.Ytjegnmbidhpegab.wordOrder
namespace Go.Proofs.Ytjegnmbidhpegab
theorem wordOrder_holds : Rows.WordOrderSaid := wordOrder.proved
#print axioms wordOrder_holds
end Go.Proofs.Ytjegnmbidhpegab
