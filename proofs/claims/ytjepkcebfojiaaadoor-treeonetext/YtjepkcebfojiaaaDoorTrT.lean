import Derived.Test.YtjepkcebfojiaaaDoorTrL
import Derived.Test.YtjepkcebfojiaaaDoorLyH
set_option linter.unusedVariables false
set_option linter.unusedSimpArgs false
namespace Go.Proofs.YtjepkcebfojiaaaDoor
open Go.ChangeShapes Go.WideShapes Go.ChangeAt Go.RowKit

set_option maxHeartbeats 2000000 in
theorem lvOp_any (op : Int) (w : World) : Calls Tryd.prog 63 #[.int .i64 op] w fun e w' => e = .returned (.int .i64 (lvOp op)) ∧ w = w' := by
  have hc : op = 19 ∨ op = 18 ∨ op = 12 ∨ op = 13 ∨ op = 14 ∨ op = 15 ∨ op = 16 ∨ op = 17 ∨ op = 1 ∨ op = 2 ∨ op = 7 ∨ op = 8 ∨ (¬ op = 19 ∧ ¬ op = 18 ∧ ¬ op = 12 ∧ ¬ op = 13 ∧ ¬ op = 14 ∧ ¬ op = 15 ∧ ¬ op = 16 ∧ ¬ op = 17 ∧ ¬ op = 1 ∧ ¬ op = 2 ∧ ¬ op = 7 ∧ ¬ op = 8) := by omega
  rcases hc with rfl | rfl | rfl | rfl | rfl | rfl | rfl | rfl | rfl | rfl | rfl | rfl | ⟨h1, h2, h3, h4, h5, h6, h7, h8, h9, h10, h11, h12⟩
  case inr.inr.inr.inr.inr.inr.inr.inr.inr.inr.inr.inr =>
    have hM : lvOp op = 5 := by simp [lvOp, h1, h2, h3, h4, h5, h6, h7, h8, h9, h10, h11, h12]
    rw [hM]
    clear hM
    go_enter Tryd.func63, Tryd.ntmps63
    go_wp2
    go_ret
    exact ⟨rfl, rfl⟩
  all_goals
    go_enter Tryd.func63, Tryd.ntmps63
    go_wp2
    go_ret
    exact ⟨rfl, rfl⟩

set_option maxHeartbeats 2000000 in
theorem lv_any (w : World) (n : Nd) (s : ByteArray) (ka : Option Addr) (kl kc : Nat) :
    Calls Tryd.prog 60 #[.agg #[.int .i64 n.kind, .int .i64 n.at_, .int .i64 n.wh, .int .i64 n.close, .int .i64 n.decl, .int .i64 n.typ, .int .i64 n.op, .int .i64 n.val, .string s, .slice ka kl kc]] w fun e w' => e = .returned (.int .i64 (lv n)) ∧ w' = w.alloc (.cells #[.int .i64 n.kind, .int .i64 n.at_, .int .i64 n.wh, .int .i64 n.close, .int .i64 n.decl, .int .i64 n.typ, .int .i64 n.op, .int .i64 n.val, .string s, .slice ka kl kc] 39) := by
  obtain ⟨k, at_, wh, close, decl, typ, op, val, name, kids⟩ := n
  simp only
  by_cases h30 : k = 30
  · subst h30
    go_enter Tryd.func60, Tryd.ntmps60
    go_wp2_with fail
    go_ret
    exact ⟨rfl, rfl⟩
  · by_cases h31 : k = 31
    · subst h31
      go_enter Tryd.func60, Tryd.ntmps60
      go_wp2_with fail
      refine (lvOp_any _ _).mono ?_
      rintro e w' ⟨rfl, rfl⟩
      go_wp2_with fail
      go_ret
      exact ⟨rfl, rfl⟩
    · have hM : lv ⟨k, at_, wh, close, decl, typ, op, val, name, kids⟩ = 7 := by simp [lv, h30, h31]
      rw [hM]
      clear hM
      go_enter Tryd.func60, Tryd.ntmps60
      go_wp2_with fail
      go_ret
      exact ⟨rfl, rfl⟩

/-- value(node, least), its part. -/
def pv (p : Pt) : Value := .agg #[.int .i64 p.form, .string (bs p.text), .int .i64 p.node]
set_option maxRecDepth 10000 in
set_option maxHeartbeats 2000000 in
theorem value_any (w : World) (pb : Nat) (nv tv dv : Value) (o : Int) (no : Option Addr) (nn nc : Nat) (N : List Nd) (hP : PRv w pb (.slice no nn nc) tv dv o) (hN : Nodes w no nc N) (hnn : nn = N.length) (j : Nat) (hj : j < N.length) (least : Int) :
    Calls Tryd.prog 57 #[.pointer (some ⟨pb, 0, none⟩), .int .i64 j, .int .i64 least] w fun e w' => e = .returned (pv (vp N j least)) ∧ ∃ o1 o2 o3 : Obj, w' = ((w.alloc o1).alloc o2).alloc o3 := by
  obtain ⟨q0, q1, q2, q3⟩ := hP.cells
  have hpl := hP.lt
  obtain ⟨b, o2, rfl, hbl, hAt⟩ := hN.out (by intro e; simp [e] at hj)
  obtain ⟨ka, kc, c0, c1, c2, c3, c4, c5, c6, c7, c8, c9, hK⟩ := (hAt j hj).out
  have hjn : j < nn := by omega
  have hnx : nn ≤ 9223372036854775807 := by have := hN.le; have := hN.mx; omega
  have HV : Hid (vp N j least = if lv N[j] < least then xp j else wp j) := by
    show _ = _
    have : ndOf N (j : Int) = N[j] := by simp [ndOf, List.getD, hj]
    rw [vp, this]
  obtain ⟨nd, hnd⟩ : ∃ nd, nd = N[j] := ⟨_, rfl⟩
  rw [← hnd] at c0 c1 c2 c3 c4 c5 c6 c7 c8 c9
  have HND : Hid (nd = N[j]) := hnd
  obtain ⟨s, hs⟩ : ∃ s, s = bs nd.name := ⟨_, rfl⟩
  rw [← hs] at c8
  obtain ⟨kl, hkl⟩ : ∃ kl, kl = nd.kids.length := ⟨_, rfl⟩
  rw [← hkl] at c9
  clear hnd hs hkl hAt hnn hK
  by_cases hlt : lv nd < least
  · have HE : Hid (vp N j least = xp j) := by show _ = _; rw [HV.out, ← HND.out, if_pos hlt]
    go_enter Tryd.func57, Tryd.ntmps57
    go_wp2_with (first
      | (go_at_call 60; refine (lv_any _ nd s ka kl kc).mono ?_; rintro e w' ⟨rfl, rfl⟩)
      | (go_at_call 61; refine (wrapped_any _ _).mono ?_; rintro e w' ⟨rfl, rfl⟩)
      | (go_at_call 18; refine (whole_any _ _).mono ?_; rintro e w' ⟨rfl, rfl⟩))
    refine bodyPost_ret (v := pv (xp j)) (by simp [results, Tryd.results57, go_sem]; rfl) rfl ⟨by rw [HE.out], _, _, _, rfl⟩
  · have HE : Hid (vp N j least = wp j) := by show _ = _; rw [HV.out, ← HND.out, if_neg hlt]
    go_enter Tryd.func57, Tryd.ntmps57
    go_wp2_with (first
      | (go_at_call 60; refine (lv_any _ nd s ka kl kc).mono ?_; rintro e w' ⟨rfl, rfl⟩)
      | (go_at_call 61; refine (wrapped_any _ _).mono ?_; rintro e w' ⟨rfl, rfl⟩)
      | (go_at_call 18; refine (whole_any _ _).mono ?_; rintro e w' ⟨rfl, rfl⟩))
    refine bodyPost_ret (v := pv (wp j)) (by simp [results, Tryd.results57, go_sem]; rfl) rfl ⟨by rw [HE.out], _, _, _, rfl⟩
end Go.Proofs.YtjepkcebfojiaaaDoor
