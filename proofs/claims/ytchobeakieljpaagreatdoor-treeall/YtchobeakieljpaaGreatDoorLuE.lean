import Derived.Test.YtchobeakieljpaaGreatDoorLuC
import Derived.Test.YtchobeakieljpaaGreatDoorLuD
set_option linter.unusedVariables false
set_option linter.unusedSimpArgs false
namespace Go.Proofs.YtchobeakieljpaaGreatDoor
open Go.ChangeShapes Go.WideShapes Go.ChangeAt Go.RowKit

theorem res_no {R : Bool} {p : Prop} (h : R = true ↔ p) (hp : ¬ p) : false = R := by
  cases R
  · rfl
  · exact absurd (h.1 rfl) hp
theorem res_b {R b : Bool} {p : Prop} (h : R = true ↔ p) (hb : p ↔ b = true) : b = R := by
  rw [Bool.eq_iff_iff]
  exact (h.trans hb).symm
set_option maxRecDepth 10000 in
set_option maxHeartbeats 8000000 in
theorem rFieldsP (w : World) (k at_ wh cl de ty op va : Int) (X R : Bool) (h1 : ¬ k = 1) (h2 : ¬ k = 2) (h4 : ¬ k = 4) (h20 : ¬ k = 20) (h30 : ¬ k = 30) (h31 : ¬ k = 31) (hrn : rNm k = false) (hx : isEx k = X) (ka : Option Addr) (kl kc : Nat)
    (hR : R = true ↔ (wh = 0 ∧ cl = 0 ∧ de = 0 ∧ 0 ≤ ty ∧ ty ≤ (if X = true then 3 else 0) ∧ op = 0 ∧ va = 0)) :
    Calls Tryz.prog 33 #[.agg #[.int .i64 k, .int .i64 at_, .int .i64 wh, .int .i64 cl, .int .i64 de, .int .i64 ty, .int .i64 op, .int .i64 va, .string ⟨#[]⟩, .slice ka kl kc]] w fun e w' => e = .returned (.bool R) ∧ Below w.heap.size w w' := by
  have NAMED : ∀ w, Calls Tryz.prog 54 #[.int .i64 k] w fun e w' => e = .returned (.bool false) ∧ w = w' := fun w => by rw [← hrn]; exact rNm_any k w
  have EX : ∀ w, Calls Tryz.prog 56 #[.int .i64 k] w fun e w' => e = .returned (.bool X) ∧ w = w' := fun w => by rw [← hx]; exact rEx_any k w
  have HR : Hid (R = true ↔ (wh = 0 ∧ cl = 0 ∧ de = 0 ∧ 0 ≤ ty ∧ ty ≤ (if X = true then 3 else 0) ∧ op = 0 ∧ va = 0)) := hR
  have b1 : (k == 1) = false := by simpa using h1
  have b2 : (k == 2) = false := by simpa using h2
  have b4 : (k == 4) = false := by simpa using h4
  have b20 : (k == 20) = false := by simpa using h20
  have b30 : (k == 30) = false := by simpa using h30
  have b31 : (k == 31) = false := by simpa using h31
  have n1 : (k != 1) = true := by simpa using h1
  have n20 : (k != 20) = true := by simpa using h20
  have n31 : (k != 31) = true := by simpa using h31
  have hB : Below w.heap.size w (w.alloc (.cells #[.int .i64 k, .int .i64 at_, .int .i64 wh, .int .i64 cl, .int .i64 de, .int .i64 ty, .int .i64 op, .int .i64 va, .string ⟨#[]⟩, .slice ka kl kc] 39)) := (Below.refl _ _).alloc (Nat.le_refl _) _
  have HB : Hid _ := hB
  clear hR hrn hx hB
  by_cases cwh : wh = 0
  case neg =>
    have dwh : (wh == 0) = false := by simpa using cwh
    have fwh : (wh != 0) = true := by simpa using cwh
    go_enter Tryz.func33, Tryz.ntmps33
    go_wp2_with (first
      | (go_at_call 54; refine (NAMED _).mono ?_; rintro e w' ⟨rfl, rfl⟩)
      | (go_at_call 56; refine (EX _).mono ?_; rintro e w' ⟨rfl, rfl⟩))
    go_ret
    exact ⟨ret_b (res_no HR.out (by simp; omega)), HB.out⟩
  subst cwh
  by_cases ccl : cl = 0
  case neg =>
    have dcl : (cl == 0) = false := by simpa using ccl
    have fcl : (cl != 0) = true := by simpa using ccl
    go_enter Tryz.func33, Tryz.ntmps33
    go_wp2_with (first
      | (go_at_call 54; refine (NAMED _).mono ?_; rintro e w' ⟨rfl, rfl⟩)
      | (go_at_call 56; refine (EX _).mono ?_; rintro e w' ⟨rfl, rfl⟩))
    go_ret
    exact ⟨ret_b (res_no HR.out (by simp; omega)), HB.out⟩
  subst ccl
  by_cases cva : va = 0
  case neg =>
    have dva : (va == 0) = false := by simpa using cva
    have fva : (va != 0) = true := by simpa using cva
    go_enter Tryz.func33, Tryz.ntmps33
    go_wp2_with (first
      | (go_at_call 54; refine (NAMED _).mono ?_; rintro e w' ⟨rfl, rfl⟩)
      | (go_at_call 56; refine (EX _).mono ?_; rintro e w' ⟨rfl, rfl⟩))
    go_ret
    exact ⟨ret_b (res_no HR.out (by simp; omega)), HB.out⟩
  subst cva
  by_cases cde : de = 0
  case neg =>
    by_cases e1 : de < 0
    · go_enter Tryz.func33, Tryz.ntmps33
      go_wp2_with (first
        | (go_at_call 54; refine (NAMED _).mono ?_; rintro e w' ⟨rfl, rfl⟩)
        | (go_at_call 56; refine (EX _).mono ?_; rintro e w' ⟨rfl, rfl⟩))
      go_ret
      exact ⟨ret_b (res_no HR.out (by simp; omega)), HB.out⟩
    · have e2 : 0 < de := by omega
      have e3 : ¬ de < 0 := e1
      go_enter Tryz.func33, Tryz.ntmps33
      go_wp2_with (first
        | (go_at_call 54; refine (NAMED _).mono ?_; rintro e w' ⟨rfl, rfl⟩)
        | (go_at_call 56; refine (EX _).mono ?_; rintro e w' ⟨rfl, rfl⟩))
      go_ret
      exact ⟨ret_b (res_no HR.out (by simp; omega)), HB.out⟩
  subst cde
  by_cases t1 : ty < 0
  · go_enter Tryz.func33, Tryz.ntmps33
    go_wp2_with (first
      | (go_at_call 54; refine (NAMED _).mono ?_; rintro e w' ⟨rfl, rfl⟩)
      | (go_at_call 56; refine (EX _).mono ?_; rintro e w' ⟨rfl, rfl⟩))
    go_ret
    exact ⟨ret_b (res_no HR.out (by simp; omega)), HB.out⟩
  by_cases t2 : 3 < ty
  · go_enter Tryz.func33, Tryz.ntmps33
    go_wp2_with (first
      | (go_at_call 54; refine (NAMED _).mono ?_; rintro e w' ⟨rfl, rfl⟩)
      | (go_at_call 56; refine (EX _).mono ?_; rintro e w' ⟨rfl, rfl⟩))
    go_ret
    exact ⟨ret_b (res_no HR.out (by cases X <;> simp <;> omega)), HB.out⟩
  by_cases t3 : ty = 0
  · subst t3
    go_enter Tryz.func33, Tryz.ntmps33
    go_wp2_with (first
      | (go_at_call 54; refine (NAMED _).mono ?_; rintro e w' ⟨rfl, rfl⟩)
      | (go_at_call 56; refine (EX _).mono ?_; rintro e w' ⟨rfl, rfl⟩))
    go_ret
    exact ⟨ret_b (res_b HR.out (by cases X <;> simp)), HB.out⟩
  have d3 : (ty == 0) = false := by simpa using t3
  have f3 : (ty != 0) = true := by simpa using t3
  cases X
  · go_enter Tryz.func33, Tryz.ntmps33
    go_wp2_with (first
      | (go_at_call 54; refine (NAMED _).mono ?_; rintro e w' ⟨rfl, rfl⟩)
      | (go_at_call 56; refine (EX _).mono ?_; rintro e w' ⟨rfl, rfl⟩))
    go_ret
    exact ⟨ret_b (res_no HR.out (by simp; omega)), HB.out⟩
  · go_enter Tryz.func33, Tryz.ntmps33
    go_wp2_with (first
      | (go_at_call 54; refine (NAMED _).mono ?_; rintro e w' ⟨rfl, rfl⟩)
      | (go_at_call 56; refine (EX _).mono ?_; rintro e w' ⟨rfl, rfl⟩))
    go_ret
    exact ⟨ret_b (res_b HR.out (by simp; omega)), HB.out⟩
theorem rFields_o (w : World) (nd : Nd) (hk : ¬ nd.kind = 1 ∧ ¬ nd.kind = 2 ∧ ¬ nd.kind = 4 ∧ ¬ nd.kind = 5 ∧ ¬ nd.kind = 6 ∧ ¬ nd.kind = 24 ∧ ¬ nd.kind = 25 ∧ ¬ nd.kind = 20 ∧ ¬ nd.kind = 30 ∧ ¬ nd.kind = 31) (ka : Option Addr) (kl kc : Nat) (s : ByteArray) (hs : s = bs nd.name) (R : Bool) (hR : ffit nd = R) :
    Calls Tryz.prog 33 #[.agg #[.int .i64 nd.kind, .int .i64 nd.at_, .int .i64 nd.wh, .int .i64 nd.close, .int .i64 nd.decl, .int .i64 nd.typ, .int .i64 nd.op, .int .i64 nd.val, .string s, .slice ka kl kc]] w fun e w' => e = .returned (.bool R) ∧ Below w.heap.size w w' := by
  obtain ⟨h1, h2, h4, h5, h6, h24, h25, h20, h30, h31⟩ := hk
  have hrn : rNm nd.kind = false := by simp [rNm, h1, h2, h4, h5, h6, h24, h25]
  have hM : mayOf nd.kind = ⟨false, false, false, false, 0, 0, 0, if isEx nd.kind = true then 3 else 0, 0, 0⟩ := by
    unfold mayOf
    simp [h1, h2, h4, h5, h6, h24, h25, h20, h30, h31]
  by_cases hnm : nd.name = []
  · have hs2 : s = ⟨#[]⟩ := by rw [hs, hnm]; rfl
    subst hs2
    refine rFieldsP w _ _ _ _ _ _ _ _ (isEx nd.kind) R h1 h2 h4 h20 h30 h31 hrn rfl ka kl kc ?_
    rw [← hR, ff_iff, hM]
    simp [nmFits, hnm]
    cases isEx nd.kind <;> simp <;> omega
  · have hne : ¬ s = ⟨#[]⟩ := fun e => hnm (by rw [hs] at e; exact bs_inj.1 (e.trans bs_e.symm))
    have hne2 : (s.toList == []) = false := by rw [hs, bs_toList]; simpa using hnm
    have hF : false = R := ff_no hR fun h => by rw [ff_iff, hM] at h; simp [nmFits, hnm] at h
    have HF : Hid (false = R) := hF
    obtain ⟨k, hkk⟩ : ∃ k, nd.kind = k := ⟨_, rfl⟩
    rw [hkk] at hrn
    rw [hkk]
    have NAMED : ∀ w, Calls Tryz.prog 54 #[.int .i64 k] w fun e w' => e = .returned (.bool false) ∧ w = w' := fun w => by rw [← hrn]; exact rNm_any k w
    clear hR hs hnm hM h1 h2 h4 h5 h6 h24 h25 h20 h30 h31 hrn hkk hF
    go_enter Tryz.func33, Tryz.ntmps33
    go_wp2_with (first
      | (go_at_call 54; refine (NAMED _).mono ?_; rintro e w' ⟨rfl, rfl⟩))
    go_ret
    exact ⟨ret_b HF.out, (Below.refl _ _).alloc (Nat.le_refl _) _⟩
end Go.Proofs.YtchobeakieljpaaGreatDoor
namespace Go.Proofs.YtchobeakieljpaaGreatDoor
open Go.ChangeShapes Go.WideShapes Go.ChangeAt Go.RowKit

/-- The document's columns but Kids are what the code asks. -/
theorem rFields_any (w : World) (nd : Nd) (ka : Option Addr) (kl kc : Nat) (s : ByteArray) (hs : s = bs nd.name) (hsl : nd.name.length ≤ 1000000000000000) (R : Bool) (hR : ffit nd = R) :
    Calls Tryz.prog 33 #[.agg #[.int .i64 nd.kind, .int .i64 nd.at_, .int .i64 nd.wh, .int .i64 nd.close, .int .i64 nd.decl, .int .i64 nd.typ, .int .i64 nd.op, .int .i64 nd.val, .string s, .slice ka kl kc]] w fun e w' => e = .returned (.bool R) ∧ Below w.heap.size w w' := by
  by_cases h1 : nd.kind = 1
  · exact rFields_1 w nd h1 ka kl kc s hs hsl R hR
  by_cases h2 : nd.kind = 2
  · exact rFields_2 w nd h2 ka kl kc s hs hsl R hR
  by_cases h4 : nd.kind = 4
  · exact rFields_4 w nd h4 ka kl kc s hs hsl R hR
  by_cases h5 : nd.kind = 5
  · exact rFields_5 w nd h5 ka kl kc s hs hsl R hR
  by_cases h6 : nd.kind = 6
  · exact rFields_6 w nd h6 ka kl kc s hs hsl R hR
  by_cases h24 : nd.kind = 24
  · exact rFields_24 w nd h24 ka kl kc s hs hsl R hR
  by_cases h25 : nd.kind = 25
  · exact rFields_25 w nd h25 ka kl kc s hs hsl R hR
  by_cases h20 : nd.kind = 20
  · exact rFields_20 w nd h20 ka kl kc s hs hsl R hR
  by_cases h30 : nd.kind = 30
  · exact rFields_30 w nd h30 ka kl kc s hs hsl R hR
  by_cases h31 : nd.kind = 31
  · exact rFields_31 w nd h31 ka kl kc s hs hsl R hR
  exact rFields_o w nd ⟨h1, h2, h4, h5, h6, h24, h25, h20, h30, h31⟩ ka kl kc s hs R hR
end Go.Proofs.YtchobeakieljpaaGreatDoor
