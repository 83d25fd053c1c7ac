import Derived.Test.YtchobeakieljpaaGreatDoorLuC
set_option linter.unusedVariables false
set_option linter.unusedSimpArgs false
namespace Go.Proofs.YtchobeakieljpaaGreatDoor
open Go.ChangeShapes Go.WideShapes Go.ChangeAt Go.RowKit

set_option maxRecDepth 10000 in
set_option maxHeartbeats 8000000 in
theorem rFields_1 (w : World) (nd : Nd) (hk : nd.kind = 1) (ka : Option Addr) (kl kc : Nat) (s : ByteArray) (hs : s = bs nd.name) (hsl : nd.name.length ≤ 1000000000000000) (R : Bool) (hR : ffit nd = R) :
    Calls Tryz.prog 33 #[.agg #[.int .i64 nd.kind, .int .i64 nd.at_, .int .i64 nd.wh, .int .i64 nd.close, .int .i64 nd.decl, .int .i64 nd.typ, .int .i64 nd.op, .int .i64 nd.val, .string s, .slice ka kl kc]] w fun e w' => e = .returned (.bool R) ∧ Below w.heap.size w w' := by
  have HR : Hid (ffit nd = R) := hR
  have HM : Hid (mayOf nd.kind = ⟨true, true, false, true, 0, 3, 0, 0, 0, 0⟩) := by show _ = _; rw [hk]; rfl
  rw [hk]
  have NAMED : ∀ w, Calls Tryz.prog 54 #[.int .i64 1] w fun e w' => e = .returned (.bool true) ∧ w = w' := fun w => rNm_any 1 w
  have EX : ∀ w, Calls Tryz.prog 56 #[.int .i64 1] w fun e w' => e = .returned (.bool false) ∧ w = w' := fun w => rEx_any 1 w
  clear hk
  obtain ⟨P, hP⟩ : ∃ P, nmOk nd.name = P := ⟨_, rfl⟩
  have NM : ∀ w, Calls Tryz.prog 55 #[.string s] w fun e w' => e = .returned (.bool P) ∧ Below w.heap.size w w' := fun w => rIsName_any w nd.name s hs hsl P hP
  have HP : Hid (nmOk nd.name = P) := hP
  clear hR hP hs hsl
  cases P
  · go_enter Tryz.func33, Tryz.ntmps33
    go_wp2_with (first
      | (go_at_call 54; refine (NAMED _).mono ?_; rintro e w' ⟨rfl, rfl⟩)
      | (go_at_call 55; refine (NM _).mono ?_; rintro e w1 ⟨rfl, hb1⟩))
    go_ret
    exact ⟨ret_b (ff_no HR.out fun h => by rw [ff_iff, HM.out] at h; simp [nmFits, HP.out] at h), ((Below.refl _ _).alloc (Nat.le_refl _) _).trans (hb1.mono (by simp))⟩
  · go_enter Tryz.func33, Tryz.ntmps33
    go_wp2_with (first
      | (go_at_call 54; refine (NAMED _).mono ?_; rintro e w' ⟨rfl, rfl⟩)
      | (go_at_call 55; refine (NM _).mono ?_; rintro e w1 ⟨rfl, hb1⟩; have d0 := ndc hb1 0 _ rfl; have d3 := ndc hb1 3 _ rfl; have d4 := ndc hb1 4 _ rfl; have d5 := ndc hb1 5 _ rfl; have d6 := ndc hb1 6 _ rfl; have d7 := ndc hb1 7 _ rfl; clear NM)
      | (go_at_call 56; refine (EX _).mono ?_; rintro e w' ⟨rfl, rfl⟩))
    all_goals
      go_ret
      first
        | exact ⟨ret_b (ff_no HR.out fun h => by rw [ff_iff, HM.out] at h; simp at h; omega), ((Below.refl _ _).alloc (Nat.le_refl _) _).trans (hb1.mono (by simp))⟩
        | exact ⟨ret_b (ff_op HR.out (by rw [ff_iff, HM.out]; simp [nmFits, HP.out]; omega)), ((Below.refl _ _).alloc (Nat.le_refl _) _).trans (hb1.mono (by simp))⟩
        | (rename_i hz; exfalso; obtain ⟨_, hz2⟩ := hz; simp at hz2; omega)
        | trace_state
set_option maxRecDepth 10000 in
set_option maxHeartbeats 8000000 in
theorem rFields_5 (w : World) (nd : Nd) (hk : nd.kind = 5) (ka : Option Addr) (kl kc : Nat) (s : ByteArray) (hs : s = bs nd.name) (hsl : nd.name.length ≤ 1000000000000000) (R : Bool) (hR : ffit nd = R) :
    Calls Tryz.prog 33 #[.agg #[.int .i64 nd.kind, .int .i64 nd.at_, .int .i64 nd.wh, .int .i64 nd.close, .int .i64 nd.decl, .int .i64 nd.typ, .int .i64 nd.op, .int .i64 nd.val, .string s, .slice ka kl kc]] w fun e w' => e = .returned (.bool R) ∧ Below w.heap.size w w' := by
  have HR : Hid (ffit nd = R) := hR
  have HM : Hid (mayOf nd.kind = ⟨true, false, false, true, 0, 0, 0, 0, 0, 0⟩) := by show _ = _; rw [hk]; rfl
  rw [hk]
  have NAMED : ∀ w, Calls Tryz.prog 54 #[.int .i64 5] w fun e w' => e = .returned (.bool true) ∧ w = w' := fun w => rNm_any 5 w
  have EX : ∀ w, Calls Tryz.prog 56 #[.int .i64 5] w fun e w' => e = .returned (.bool false) ∧ w = w' := fun w => rEx_any 5 w
  clear hk
  obtain ⟨P, hP⟩ : ∃ P, nmOk nd.name = P := ⟨_, rfl⟩
  have NM : ∀ w, Calls Tryz.prog 55 #[.string s] w fun e w' => e = .returned (.bool P) ∧ Below w.heap.size w w' := fun w => rIsName_any w nd.name s hs hsl P hP
  have HP : Hid (nmOk nd.name = P) := hP
  clear hR hP hs hsl
  cases P
  · go_enter Tryz.func33, Tryz.ntmps33
    go_wp2_with (first
      | (go_at_call 54; refine (NAMED _).mono ?_; rintro e w' ⟨rfl, rfl⟩)
      | (go_at_call 55; refine (NM _).mono ?_; rintro e w1 ⟨rfl, hb1⟩))
    go_ret
    exact ⟨ret_b (ff_no HR.out fun h => by rw [ff_iff, HM.out] at h; simp [nmFits, HP.out] at h), ((Below.refl _ _).alloc (Nat.le_refl _) _).trans (hb1.mono (by simp))⟩
  · go_enter Tryz.func33, Tryz.ntmps33
    go_wp2_with (first
      | (go_at_call 54; refine (NAMED _).mono ?_; rintro e w' ⟨rfl, rfl⟩)
      | (go_at_call 55; refine (NM _).mono ?_; rintro e w1 ⟨rfl, hb1⟩; have d0 := ndc hb1 0 _ rfl; have d3 := ndc hb1 3 _ rfl; have d4 := ndc hb1 4 _ rfl; have d5 := ndc hb1 5 _ rfl; have d6 := ndc hb1 6 _ rfl; have d7 := ndc hb1 7 _ rfl; clear NM)
      | (go_at_call 56; refine (EX _).mono ?_; rintro e w' ⟨rfl, rfl⟩))
    all_goals
      go_ret
      first
        | exact ⟨ret_b (ff_no HR.out fun h => by rw [ff_iff, HM.out] at h; simp at h; omega), ((Below.refl _ _).alloc (Nat.le_refl _) _).trans (hb1.mono (by simp))⟩
        | exact ⟨ret_b (ff_op HR.out (by rw [ff_iff, HM.out]; simp [nmFits, HP.out]; omega)), ((Below.refl _ _).alloc (Nat.le_refl _) _).trans (hb1.mono (by simp))⟩
        | (rename_i hz; exfalso; obtain ⟨_, hz2⟩ := hz; simp at hz2; omega)
        | trace_state
end Go.Proofs.YtchobeakieljpaaGreatDoor
namespace Go.Proofs.YtchobeakieljpaaGreatDoor
open Go.ChangeShapes Go.WideShapes Go.ChangeAt Go.RowKit

set_option maxRecDepth 10000 in
set_option maxHeartbeats 8000000 in
theorem rFields_2 (w : World) (nd : Nd) (hk : nd.kind = 2) (ka : Option Addr) (kl kc : Nat) (s : ByteArray) (hs : s = bs nd.name) (hsl : nd.name.length ≤ 1000000000000000) (R : Bool) (hR : ffit nd = R) :
    Calls Tryz.prog 33 #[.agg #[.int .i64 nd.kind, .int .i64 nd.at_, .int .i64 nd.wh, .int .i64 nd.close, .int .i64 nd.decl, .int .i64 nd.typ, .int .i64 nd.op, .int .i64 nd.val, .string s, .slice ka kl kc]] w fun e w' => e = .returned (.bool R) ∧ Below w.heap.size w w' := by
  have HR : Hid (ffit nd = R) := hR
  have HM : Hid (mayOf nd.kind = ⟨true, false, false, true, 1, 3, 0, 0, 0, 0⟩) := by show _ = _; rw [hk]; rfl
  rw [hk]
  have NAMED : ∀ w, Calls Tryz.prog 54 #[.int .i64 2] w fun e w' => e = .returned (.bool true) ∧ w = w' := fun w => rNm_any 2 w
  have EX : ∀ w, Calls Tryz.prog 56 #[.int .i64 2] w fun e w' => e = .returned (.bool false) ∧ w = w' := fun w => rEx_any 2 w
  clear hk
  obtain ⟨P, hP⟩ : ∃ P, nmOk nd.name = P := ⟨_, rfl⟩
  have NM : ∀ w, Calls Tryz.prog 55 #[.string s] w fun e w' => e = .returned (.bool P) ∧ Below w.heap.size w w' := fun w => rIsName_any w nd.name s hs hsl P hP
  have HP : Hid (nmOk nd.name = P) := hP
  clear hR hP hs hsl
  cases P
  · go_enter Tryz.func33, Tryz.ntmps33
    go_wp2_with (first
      | (go_at_call 54; refine (NAMED _).mono ?_; rintro e w' ⟨rfl, rfl⟩)
      | (go_at_call 55; refine (NM _).mono ?_; rintro e w1 ⟨rfl, hb1⟩))
    go_ret
    exact ⟨ret_b (ff_no HR.out fun h => by rw [ff_iff, HM.out] at h; simp [nmFits, HP.out] at h), ((Below.refl _ _).alloc (Nat.le_refl _) _).trans (hb1.mono (by simp))⟩
  · go_enter Tryz.func33, Tryz.ntmps33
    go_wp2_with (first
      | (go_at_call 54; refine (NAMED _).mono ?_; rintro e w' ⟨rfl, rfl⟩)
      | (go_at_call 55; refine (NM _).mono ?_; rintro e w1 ⟨rfl, hb1⟩; have d0 := ndc hb1 0 _ rfl; have d3 := ndc hb1 3 _ rfl; have d4 := ndc hb1 4 _ rfl; have d5 := ndc hb1 5 _ rfl; have d6 := ndc hb1 6 _ rfl; have d7 := ndc hb1 7 _ rfl; clear NM)
      | (go_at_call 56; refine (EX _).mono ?_; rintro e w' ⟨rfl, rfl⟩))
    all_goals
      go_ret
      first
        | exact ⟨ret_b (ff_no HR.out fun h => by rw [ff_iff, HM.out] at h; simp at h; omega), ((Below.refl _ _).alloc (Nat.le_refl _) _).trans (hb1.mono (by simp))⟩
        | exact ⟨ret_b (ff_op HR.out (by rw [ff_iff, HM.out]; simp [nmFits, HP.out]; omega)), ((Below.refl _ _).alloc (Nat.le_refl _) _).trans (hb1.mono (by simp))⟩
        | (rename_i hz; exfalso; obtain ⟨_, hz2⟩ := hz; simp at hz2; omega)
        | trace_state
set_option maxRecDepth 10000 in
set_option maxHeartbeats 8000000 in
theorem rFields_24 (w : World) (nd : Nd) (hk : nd.kind = 24) (ka : Option Addr) (kl kc : Nat) (s : ByteArray) (hs : s = bs nd.name) (hsl : nd.name.length ≤ 1000000000000000) (R : Bool) (hR : ffit nd = R) :
    Calls Tryz.prog 33 #[.agg #[.int .i64 nd.kind, .int .i64 nd.at_, .int .i64 nd.wh, .int .i64 nd.close, .int .i64 nd.decl, .int .i64 nd.typ, .int .i64 nd.op, .int .i64 nd.val, .string s, .slice ka kl kc]] w fun e w' => e = .returned (.bool R) ∧ Below w.heap.size w w' := by
  have HR : Hid (ffit nd = R) := hR
  have HM : Hid (mayOf nd.kind = ⟨true, false, false, true, 0, 0, 0, 3, 0, 0⟩) := by show _ = _; rw [hk]; rfl
  rw [hk]
  have NAMED : ∀ w, Calls Tryz.prog 54 #[.int .i64 24] w fun e w' => e = .returned (.bool true) ∧ w = w' := fun w => rNm_any 24 w
  have EX : ∀ w, Calls Tryz.prog 56 #[.int .i64 24] w fun e w' => e = .returned (.bool true) ∧ w = w' := fun w => rEx_any 24 w
  clear hk
  obtain ⟨P, hP⟩ : ∃ P, nmOk nd.name = P := ⟨_, rfl⟩
  have NM : ∀ w, Calls Tryz.prog 55 #[.string s] w fun e w' => e = .returned (.bool P) ∧ Below w.heap.size w w' := fun w => rIsName_any w nd.name s hs hsl P hP
  have HP : Hid (nmOk nd.name = P) := hP
  clear hR hP hs hsl
  cases P
  · go_enter Tryz.func33, Tryz.ntmps33
    go_wp2_with (first
      | (go_at_call 54; refine (NAMED _).mono ?_; rintro e w' ⟨rfl, rfl⟩)
      | (go_at_call 55; refine (NM _).mono ?_; rintro e w1 ⟨rfl, hb1⟩))
    go_ret
    exact ⟨ret_b (ff_no HR.out fun h => by rw [ff_iff, HM.out] at h; simp [nmFits, HP.out] at h), ((Below.refl _ _).alloc (Nat.le_refl _) _).trans (hb1.mono (by simp))⟩
  · go_enter Tryz.func33, Tryz.ntmps33
    go_wp2_with (first
      | (go_at_call 54; refine (NAMED _).mono ?_; rintro e w' ⟨rfl, rfl⟩)
      | (go_at_call 55; refine (NM _).mono ?_; rintro e w1 ⟨rfl, hb1⟩; have d0 := ndc hb1 0 _ rfl; have d3 := ndc hb1 3 _ rfl; have d4 := ndc hb1 4 _ rfl; have d5 := ndc hb1 5 _ rfl; have d6 := ndc hb1 6 _ rfl; have d7 := ndc hb1 7 _ rfl; clear NM)
      | (go_at_call 56; refine (EX _).mono ?_; rintro e w' ⟨rfl, rfl⟩))
    all_goals
      go_ret
      first
        | exact ⟨ret_b (ff_no HR.out fun h => by rw [ff_iff, HM.out] at h; simp at h; omega), ((Below.refl _ _).alloc (Nat.le_refl _) _).trans (hb1.mono (by simp))⟩
        | exact ⟨ret_b (ff_op HR.out (by rw [ff_iff, HM.out]; simp [nmFits, HP.out]; omega)), ((Below.refl _ _).alloc (Nat.le_refl _) _).trans (hb1.mono (by simp))⟩
        | (rename_i hz; exfalso; obtain ⟨_, hz2⟩ := hz; simp at hz2; omega)
        | trace_state
set_option maxRecDepth 10000 in
set_option maxHeartbeats 8000000 in
theorem rFields_30 (w : World) (nd : Nd) (hk : nd.kind = 30) (ka : Option Addr) (kl kc : Nat) (s : ByteArray) (hs : s = bs nd.name) (hsl : nd.name.length ≤ 1000000000000000) (R : Bool) (hR : ffit nd = R) :
    Calls Tryz.prog 33 #[.agg #[.int .i64 nd.kind, .int .i64 nd.at_, .int .i64 nd.wh, .int .i64 nd.close, .int .i64 nd.decl, .int .i64 nd.typ, .int .i64 nd.op, .int .i64 nd.val, .string s, .slice ka kl kc]] w fun e w' => e = .returned (.bool R) ∧ Below w.heap.size w w' := by
  have HR : Hid (ffit nd = R) := hR
  have HM : Hid (mayOf nd.kind = ⟨false, false, false, false, 0, 0, 0, 3, 20, 22⟩) := by show _ = _; rw [hk]; rfl
  rw [hk]
  have NAMED : ∀ w, Calls Tryz.prog 54 #[.int .i64 30] w fun e w' => e = .returned (.bool false) ∧ w = w' := fun w => rNm_any 30 w
  have EX : ∀ w, Calls Tryz.prog 56 #[.int .i64 30] w fun e w' => e = .returned (.bool true) ∧ w = w' := fun w => rEx_any 30 w
  clear hk
  by_cases hnm : nd.name = []
  · have hs2 : s = ⟨#[]⟩ := by rw [hs, hnm]; rfl
    subst hs2
    have HNM : Hid (nd.name = []) := hnm
    clear hR hs hsl hnm
    go_enter Tryz.func33, Tryz.ntmps33
    go_wp2_with (first
      | (go_at_call 54; refine (NAMED _).mono ?_; rintro e w' ⟨rfl, rfl⟩)
      | (go_at_call 56; refine (EX _).mono ?_; rintro e w' ⟨rfl, rfl⟩))
    all_goals
      go_ret
      first
        | exact ⟨ret_b (ff_no HR.out fun h => by rw [ff_iff, HM.out] at h; simp at h; omega), (Below.refl _ _).alloc (Nat.le_refl _) _⟩
        | exact ⟨ret_b (ff_op HR.out (by rw [ff_iff, HM.out]; simp [nmFits, HNM.out]; omega)), (Below.refl _ _).alloc (Nat.le_refl _) _⟩
        | (rename_i hz; exfalso; obtain ⟨_, hz2⟩ := hz; simp at hz2; omega)
        | trace_state
  · have hne : ¬ s = ⟨#[]⟩ := fun e => hnm (by rw [hs] at e; exact bs_inj.1 (e.trans bs_e.symm))
    have hne2 : (s.toList == []) = false := by rw [hs, bs_toList]; simpa using hnm
    have HNM : Hid (¬ nd.name = []) := hnm
    clear hR hs hsl hnm
    go_enter Tryz.func33, Tryz.ntmps33
    go_wp2_with (first
      | (go_at_call 54; refine (NAMED _).mono ?_; rintro e w' ⟨rfl, rfl⟩))
    go_ret
    exact ⟨ret_b (ff_no HR.out fun h => by rw [ff_iff, HM.out] at h; simp [nmFits, HNM.out] at h), (Below.refl _ _).alloc (Nat.le_refl _) _⟩
end Go.Proofs.YtchobeakieljpaaGreatDoor
namespace Go.Proofs.YtchobeakieljpaaGreatDoor
open Go.ChangeShapes Go.WideShapes Go.ChangeAt Go.RowKit

set_option maxRecDepth 10000 in
set_option maxHeartbeats 8000000 in
theorem rFields_4 (w : World) (nd : Nd) (hk : nd.kind = 4) (ka : Option Addr) (kl kc : Nat) (s : ByteArray) (hs : s = bs nd.name) (hsl : nd.name.length ≤ 1000000000000000) (R : Bool) (hR : ffit nd = R) :
    Calls Tryz.prog 33 #[.agg #[.int .i64 nd.kind, .int .i64 nd.at_, .int .i64 nd.wh, .int .i64 nd.close, .int .i64 nd.decl, .int .i64 nd.typ, .int .i64 nd.op, .int .i64 nd.val, .string s, .slice ka kl kc]] w fun e w' => e = .returned (.bool R) ∧ Below w.heap.size w w' := by
  have HR : Hid (ffit nd = R) := hR
  have HM : Hid (mayOf nd.kind = ⟨true, false, false, true, 1, 3, 0, 0, 0, 0⟩) := by show _ = _; rw [hk]; rfl
  rw [hk]
  have NAMED : ∀ w, Calls Tryz.prog 54 #[.int .i64 4] w fun e w' => e = .returned (.bool true) ∧ w = w' := fun w => rNm_any 4 w
  have EX : ∀ w, Calls Tryz.prog 56 #[.int .i64 4] w fun e w' => e = .returned (.bool false) ∧ w = w' := fun w => rEx_any 4 w
  clear hk
  obtain ⟨P, hP⟩ : ∃ P, nmOk nd.name = P := ⟨_, rfl⟩
  have NM : ∀ w, Calls Tryz.prog 55 #[.string s] w fun e w' => e = .returned (.bool P) ∧ Below w.heap.size w w' := fun w => rIsName_any w nd.name s hs hsl P hP
  have HP : Hid (nmOk nd.name = P) := hP
  clear hR hP hs hsl
  cases P
  · go_enter Tryz.func33, Tryz.ntmps33
    go_wp2_with (first
      | (go_at_call 54; refine (NAMED _).mono ?_; rintro e w' ⟨rfl, rfl⟩)
      | (go_at_call 55; refine (NM _).mono ?_; rintro e w1 ⟨rfl, hb1⟩))
    go_ret
    exact ⟨ret_b (ff_no HR.out fun h => by rw [ff_iff, HM.out] at h; simp [nmFits, HP.out] at h), ((Below.refl _ _).alloc (Nat.le_refl _) _).trans (hb1.mono (by simp))⟩
  · go_enter Tryz.func33, Tryz.ntmps33
    go_wp2_with (first
      | (go_at_call 54; refine (NAMED _).mono ?_; rintro e w' ⟨rfl, rfl⟩)
      | (go_at_call 55; refine (NM _).mono ?_; rintro e w1 ⟨rfl, hb1⟩; have d0 := ndc hb1 0 _ rfl; have d3 := ndc hb1 3 _ rfl; have d4 := ndc hb1 4 _ rfl; have d5 := ndc hb1 5 _ rfl; have d6 := ndc hb1 6 _ rfl; have d7 := ndc hb1 7 _ rfl; clear NM)
      | (go_at_call 56; refine (EX _).mono ?_; rintro e w' ⟨rfl, rfl⟩))
    all_goals
      go_ret
      first
        | exact ⟨ret_b (ff_no HR.out fun h => by rw [ff_iff, HM.out] at h; simp at h; omega), ((Below.refl _ _).alloc (Nat.le_refl _) _).trans (hb1.mono (by simp))⟩
        | exact ⟨ret_b (ff_op HR.out (by rw [ff_iff, HM.out]; simp [nmFits, HP.out]; omega)), ((Below.refl _ _).alloc (Nat.le_refl _) _).trans (hb1.mono (by simp))⟩
        | (rename_i hz; exfalso; obtain ⟨_, hz2⟩ := hz; simp at hz2; omega)
        | trace_state
set_option maxRecDepth 10000 in
set_option maxHeartbeats 8000000 in
theorem rFields_20 (w : World) (nd : Nd) (hk : nd.kind = 20) (ka : Option Addr) (kl kc : Nat) (s : ByteArray) (hs : s = bs nd.name) (hsl : nd.name.length ≤ 1000000000000000) (R : Bool) (hR : ffit nd = R) :
    Calls Tryz.prog 33 #[.agg #[.int .i64 nd.kind, .int .i64 nd.at_, .int .i64 nd.wh, .int .i64 nd.close, .int .i64 nd.decl, .int .i64 nd.typ, .int .i64 nd.op, .int .i64 nd.val, .string s, .slice ka kl kc]] w fun e w' => e = .returned (.bool R) ∧ Below w.heap.size w w' := by
  have HR : Hid (ffit nd = R) := hR
  have HM : Hid (mayOf nd.kind = ⟨false, false, true, false, 0, 0, 0, 3, 0, 0⟩) := by show _ = _; rw [hk]; rfl
  rw [hk]
  have NAMED : ∀ w, Calls Tryz.prog 54 #[.int .i64 20] w fun e w' => e = .returned (.bool false) ∧ w = w' := fun w => rNm_any 20 w
  have EX : ∀ w, Calls Tryz.prog 56 #[.int .i64 20] w fun e w' => e = .returned (.bool true) ∧ w = w' := fun w => rEx_any 20 w
  clear hk
  by_cases hnm : nd.name = []
  · have hs2 : s = ⟨#[]⟩ := by rw [hs, hnm]; rfl
    subst hs2
    have HNM : Hid (nd.name = []) := hnm
    clear hR hs hsl hnm
    go_enter Tryz.func33, Tryz.ntmps33
    go_wp2_with (first
      | (go_at_call 54; refine (NAMED _).mono ?_; rintro e w' ⟨rfl, rfl⟩)
      | (go_at_call 56; refine (EX _).mono ?_; rintro e w' ⟨rfl, rfl⟩))
    all_goals
      go_ret
      first
        | exact ⟨ret_b (ff_no HR.out fun h => by rw [ff_iff, HM.out] at h; simp at h; omega), (Below.refl _ _).alloc (Nat.le_refl _) _⟩
        | exact ⟨ret_b (ff_op HR.out (by rw [ff_iff, HM.out]; simp [nmFits, HNM.out]; omega)), (Below.refl _ _).alloc (Nat.le_refl _) _⟩
        | (rename_i hz; exfalso; obtain ⟨_, hz2⟩ := hz; simp at hz2; omega)
        | trace_state
  · have hne : ¬ s = ⟨#[]⟩ := fun e => hnm (by rw [hs] at e; exact bs_inj.1 (e.trans bs_e.symm))
    have hne2 : (s.toList == []) = false := by rw [hs, bs_toList]; simpa using hnm
    have HNM : Hid (¬ nd.name = []) := hnm
    clear hR hs hsl hnm
    go_enter Tryz.func33, Tryz.ntmps33
    go_wp2_with (first
      | (go_at_call 54; refine (NAMED _).mono ?_; rintro e w' ⟨rfl, rfl⟩))
    go_ret
    exact ⟨ret_b (ff_no HR.out fun h => by rw [ff_iff, HM.out] at h; simp [nmFits, HNM.out] at h), (Below.refl _ _).alloc (Nat.le_refl _) _⟩
set_option maxRecDepth 10000 in
set_option maxHeartbeats 8000000 in
theorem rFields_6 (w : World) (nd : Nd) (hk : nd.kind = 6) (ka : Option Addr) (kl kc : Nat) (s : ByteArray) (hs : s = bs nd.name) (hsl : nd.name.length ≤ 1000000000000000) (R : Bool) (hR : ffit nd = R) :
    Calls Tryz.prog 33 #[.agg #[.int .i64 nd.kind, .int .i64 nd.at_, .int .i64 nd.wh, .int .i64 nd.close, .int .i64 nd.decl, .int .i64 nd.typ, .int .i64 nd.op, .int .i64 nd.val, .string s, .slice ka kl kc]] w fun e w' => e = .returned (.bool R) ∧ Below w.heap.size w w' := by
  have HR : Hid (ffit nd = R) := hR
  have HM : Hid (mayOf nd.kind = ⟨true, false, false, true, 0, 0, 0, 0, 0, 0⟩) := by show _ = _; rw [hk]; rfl
  rw [hk]
  have NAMED : ∀ w, Calls Tryz.prog 54 #[.int .i64 6] w fun e w' => e = .returned (.bool true) ∧ w = w' := fun w => rNm_any 6 w
  have EX : ∀ w, Calls Tryz.prog 56 #[.int .i64 6] w fun e w' => e = .returned (.bool false) ∧ w = w' := fun w => rEx_any 6 w
  clear hk
  obtain ⟨P, hP⟩ : ∃ P, nmOk nd.name = P := ⟨_, rfl⟩
  have NM : ∀ w, Calls Tryz.prog 55 #[.string s] w fun e w' => e = .returned (.bool P) ∧ Below w.heap.size w w' := fun w => rIsName_any w nd.name s hs hsl P hP
  have HP : Hid (nmOk nd.name = P) := hP
  clear hR hP hs hsl
  cases P
  · go_enter Tryz.func33, Tryz.ntmps33
    go_wp2_with (first
      | (go_at_call 54; refine (NAMED _).mono ?_; rintro e w' ⟨rfl, rfl⟩)
      | (go_at_call 55; refine (NM _).mono ?_; rintro e w1 ⟨rfl, hb1⟩))
    go_ret
    exact ⟨ret_b (ff_no HR.out fun h => by rw [ff_iff, HM.out] at h; simp [nmFits, HP.out] at h), ((Below.refl _ _).alloc (Nat.le_refl _) _).trans (hb1.mono (by simp))⟩
  · go_enter Tryz.func33, Tryz.ntmps33
    go_wp2_with (first
      | (go_at_call 54; refine (NAMED _).mono ?_; rintro e w' ⟨rfl, rfl⟩)
      | (go_at_call 55; refine (NM _).mono ?_; rintro e w1 ⟨rfl, hb1⟩; have d0 := ndc hb1 0 _ rfl; have d3 := ndc hb1 3 _ rfl; have d4 := ndc hb1 4 _ rfl; have d5 := ndc hb1 5 _ rfl; have d6 := ndc hb1 6 _ rfl; have d7 := ndc hb1 7 _ rfl; clear NM)
      | (go_at_call 56; refine (EX _).mono ?_; rintro e w' ⟨rfl, rfl⟩))
    all_goals
      go_ret
      first
        | exact ⟨ret_b (ff_no HR.out fun h => by rw [ff_iff, HM.out] at h; simp at h; omega), ((Below.refl _ _).alloc (Nat.le_refl _) _).trans (hb1.mono (by simp))⟩
        | exact ⟨ret_b (ff_op HR.out (by rw [ff_iff, HM.out]; simp [nmFits, HP.out]; omega)), ((Below.refl _ _).alloc (Nat.le_refl _) _).trans (hb1.mono (by simp))⟩
        | (rename_i hz; exfalso; obtain ⟨_, hz2⟩ := hz; simp at hz2; omega)
        | trace_state
end Go.Proofs.YtchobeakieljpaaGreatDoor
namespace Go.Proofs.YtchobeakieljpaaGreatDoor
open Go.ChangeShapes Go.WideShapes Go.ChangeAt Go.RowKit

set_option maxRecDepth 10000 in
set_option maxHeartbeats 8000000 in
theorem rFields_31 (w : World) (nd : Nd) (hk : nd.kind = 31) (ka : Option Addr) (kl kc : Nat) (s : ByteArray) (hs : s = bs nd.name) (hsl : nd.name.length ≤ 1000000000000000) (R : Bool) (hR : ffit nd = R) :
    Calls Tryz.prog 33 #[.agg #[.int .i64 nd.kind, .int .i64 nd.at_, .int .i64 nd.wh, .int .i64 nd.close, .int .i64 nd.decl, .int .i64 nd.typ, .int .i64 nd.op, .int .i64 nd.val, .string s, .slice ka kl kc]] w fun e w' => e = .returned (.bool R) ∧ Below w.heap.size w w' := by
  have HR : Hid (ffit nd = R) := hR
  have HM : Hid (mayOf nd.kind = ⟨true, false, false, false, 0, 0, 0, 3, 1, 19⟩) := by show _ = _; rw [hk]; rfl
  rw [hk]
  have NAMED : ∀ w, Calls Tryz.prog 54 #[.int .i64 31] w fun e w' => e = .returned (.bool false) ∧ w = w' := fun w => rNm_any 31 w
  have EX : ∀ w, Calls Tryz.prog 56 #[.int .i64 31] w fun e w' => e = .returned (.bool true) ∧ w = w' := fun w => rEx_any 31 w
  clear hk
  by_cases hnm : nd.name = []
  · have hs2 : s = ⟨#[]⟩ := by rw [hs, hnm]; rfl
    subst hs2
    have HNM : Hid (nd.name = []) := hnm
    clear hR hs hsl hnm
    go_enter Tryz.func33, Tryz.ntmps33
    go_wp2_with (first
      | (go_at_call 54; refine (NAMED _).mono ?_; rintro e w' ⟨rfl, rfl⟩)
      | (go_at_call 56; refine (EX _).mono ?_; rintro e w' ⟨rfl, rfl⟩))
    all_goals
      go_ret
      first
        | exact ⟨ret_b (ff_no HR.out fun h => by rw [ff_iff, HM.out] at h; simp at h; omega), (Below.refl _ _).alloc (Nat.le_refl _) _⟩
        | exact ⟨ret_b (ff_op HR.out (by rw [ff_iff, HM.out]; simp [nmFits, HNM.out]; omega)), (Below.refl _ _).alloc (Nat.le_refl _) _⟩
        | (rename_i hz; exfalso; obtain ⟨_, hz2⟩ := hz; simp at hz2; omega)
        | trace_state
  · have hne : ¬ s = ⟨#[]⟩ := fun e => hnm (by rw [hs] at e; exact bs_inj.1 (e.trans bs_e.symm))
    have hne2 : (s.toList == []) = false := by rw [hs, bs_toList]; simpa using hnm
    have HNM : Hid (¬ nd.name = []) := hnm
    clear hR hs hsl hnm
    go_enter Tryz.func33, Tryz.ntmps33
    go_wp2_with (first
      | (go_at_call 54; refine (NAMED _).mono ?_; rintro e w' ⟨rfl, rfl⟩))
    go_ret
    exact ⟨ret_b (ff_no HR.out fun h => by rw [ff_iff, HM.out] at h; simp [nmFits, HNM.out] at h), (Below.refl _ _).alloc (Nat.le_refl _) _⟩
set_option maxRecDepth 10000 in
set_option maxHeartbeats 8000000 in
theorem rFields_25 (w : World) (nd : Nd) (hk : nd.kind = 25) (ka : Option Addr) (kl kc : Nat) (s : ByteArray) (hs : s = bs nd.name) (hsl : nd.name.length ≤ 1000000000000000) (R : Bool) (hR : ffit nd = R) :
    Calls Tryz.prog 33 #[.agg #[.int .i64 nd.kind, .int .i64 nd.at_, .int .i64 nd.wh, .int .i64 nd.close, .int .i64 nd.decl, .int .i64 nd.typ, .int .i64 nd.op, .int .i64 nd.val, .string s, .slice ka kl kc]] w fun e w' => e = .returned (.bool R) ∧ Below w.heap.size w w' := by
  have HR : Hid (ffit nd = R) := hR
  have HM : Hid (mayOf nd.kind = ⟨true, false, false, true, 0, 0, 0, 3, 0, 0⟩) := by show _ = _; rw [hk]; rfl
  rw [hk]
  have NAMED : ∀ w, Calls Tryz.prog 54 #[.int .i64 25] w fun e w' => e = .returned (.bool true) ∧ w = w' := fun w => rNm_any 25 w
  have EX : ∀ w, Calls Tryz.prog 56 #[.int .i64 25] w fun e w' => e = .returned (.bool true) ∧ w = w' := fun w => rEx_any 25 w
  clear hk
  obtain ⟨P, hP⟩ : ∃ P, nmOk nd.name = P := ⟨_, rfl⟩
  have NM : ∀ w, Calls Tryz.prog 55 #[.string s] w fun e w' => e = .returned (.bool P) ∧ Below w.heap.size w w' := fun w => rIsName_any w nd.name s hs hsl P hP
  have HP : Hid (nmOk nd.name = P) := hP
  clear hR hP hs hsl
  cases P
  · go_enter Tryz.func33, Tryz.ntmps33
    go_wp2_with (first
      | (go_at_call 54; refine (NAMED _).mono ?_; rintro e w' ⟨rfl, rfl⟩)
      | (go_at_call 55; refine (NM _).mono ?_; rintro e w1 ⟨rfl, hb1⟩))
    go_ret
    exact ⟨ret_b (ff_no HR.out fun h => by rw [ff_iff, HM.out] at h; simp [nmFits, HP.out] at h), ((Below.refl _ _).alloc (Nat.le_refl _) _).trans (hb1.mono (by simp))⟩
  · go_enter Tryz.func33, Tryz.ntmps33
    go_wp2_with (first
      | (go_at_call 54; refine (NAMED _).mono ?_; rintro e w' ⟨rfl, rfl⟩)
      | (go_at_call 55; refine (NM _).mono ?_; rintro e w1 ⟨rfl, hb1⟩; have d0 := ndc hb1 0 _ rfl; have d3 := ndc hb1 3 _ rfl; have d4 := ndc hb1 4 _ rfl; have d5 := ndc hb1 5 _ rfl; have d6 := ndc hb1 6 _ rfl; have d7 := ndc hb1 7 _ rfl; clear NM)
      | (go_at_call 56; refine (EX _).mono ?_; rintro e w' ⟨rfl, rfl⟩))
    all_goals
      go_ret
      first
        | exact ⟨ret_b (ff_no HR.out fun h => by rw [ff_iff, HM.out] at h; simp at h; omega), ((Below.refl _ _).alloc (Nat.le_refl _) _).trans (hb1.mono (by simp))⟩
        | exact ⟨ret_b (ff_op HR.out (by rw [ff_iff, HM.out]; simp [nmFits, HP.out]; omega)), ((Below.refl _ _).alloc (Nat.le_refl _) _).trans (hb1.mono (by simp))⟩
        | (rename_i hz; exfalso; obtain ⟨_, hz2⟩ := hz; simp at hz2; omega)
        | trace_state
end Go.Proofs.YtchobeakieljpaaGreatDoor
