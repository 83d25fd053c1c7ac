import Derived.Test.YteiambniddddpaaDoorLxG
set_option linter.unusedVariables false
namespace Go.Proofs.YteiambniddddpaaDoor
open Go.ChangeShapes Go.WideShapes Go.ChangeAt Go.RowKit

structure TR (l : List UInt8) (r : Except Nat (Tk × Nat)) : Prop where
  out : tk l = r

theorem TokRes.form {r k e} (h : TokRes r k e) : ∃ (K A V : Int) (S : ByteArray) (Z E : Int), e = .returned (.tuple #[.agg #[.int .i64 K, .int .i64 A, .int .i64 V, .string S], .int .i64 Z, .int .i64 E]) := by
  cases r with
  | error er => obtain ⟨z, h⟩ := h; exact ⟨0, 0, 0, .empty, z, er, h⟩
  | ok p => exact ⟨p.1.kind, k, p.1.val, bs p.1.name, _, _, h⟩

theorem tr_num {x : UInt8} {l r} (hc : cl x = 7) (h : TR (x :: l) r) : numS false 0 (x :: l) 0 = r := by
  rw [← h.out]
  simp only [tk, hc, if_true, numS, ns_eq]
  cases numVal (List.takeWhile isDg (x :: l)) <;> simp
theorem tr_name {x : UInt8} {l r} (hc : cl x = 6) (h : TR (x :: l) r) : nameR (x :: l) = r := by
  rw [← h.out]
  simp [tk, hc, nameR]
theorem tr_sign {x : UInt8} {l r} (hc : cl x ≠ 7) (hd : cl x ≠ 6) (h : TR (x :: l) r) : signR (x :: l) = r := by
  rw [← h.out]
  unfold signR
  simp only [tk, hc, hd, if_false]

structure Name3 (L : List UInt8) (k : Nat) (r : Except Nat (Tk × Nat)) : Prop where
  name : cl (L.getD k 0) = 6 → nameR (L.drop k) = r
  num : cl (L.getD k 0) = 7 → numS false 0 (L.drop k) 0 = r
  sign : cl (L.getD k 0) ≠ 7 → cl (L.getD k 0) ≠ 6 → signR (L.drop k) = r

theorem name_at {w : World} (hT : Tab w) {b o cap n : Nat} {L : List UInt8} (hA : At w b o L) (hn : n = L.length) (hc : n ≤ cap) (hm : cap ≤ 9223372036854775807) {k : Nat} (hk : k < n) {r} (hr : nameR (L.drop k) = r) :
    Calls Tryd.prog 43 #[.slice (some ⟨b, o, none⟩) n cap, .int .i64 k] w fun e w' => TokRes r k e ∧ Below w.heap.size w w' := by
  subst hr hn; exact name_any w hT b o cap L hA hc hm k hk
theorem num_at {w : World} {b o cap n : Nat} {L : List UInt8} (hA : At w b o L) (hn : n = L.length) (hc : n ≤ cap) (hm : cap ≤ 9223372036854775807) {k : Nat} (hk : k < n) {r} (hr : numS false 0 (L.drop k) 0 = r) :
    Calls Tryd.prog 42 #[.slice (some ⟨b, o, none⟩) n cap, .int .i64 k] w fun e w' => TokRes r k e ∧ Below w.heap.size w w' := by
  subst hn; exact number_any w b o cap L hA (by omega) k (by omega) r hr
theorem sign_at {w : World} (hT : Tab w) {b o cap n : Nat} {L : List UInt8} (hA : At w b o L) (hn : n = L.length) (hc : n ≤ cap) (hm : cap ≤ 9223372036854775807) {k : Nat} (hk : k < n) {r} (hr : signR (L.drop k) = r) :
    Calls Tryd.prog 44 #[.slice (some ⟨b, o, none⟩) n cap, .int .i64 k] w fun e w' => TokRes r k e ∧ Below w.heap.size w w' := by
  subst hr hn; exact sign_any w hT b o cap L hA hc hm k hk

set_option maxHeartbeats 1000000 in
theorem token_any (w : World) (hT : Tab w) (b o cap n : Nat) (L : List UInt8) (hA : At w b o L) (hn : n = L.length) (hc : n ≤ cap) (hm : cap ≤ 9223372036854775807) (k : Nat) (hk : k < n) (r : Except Nat (Tk × Nat)) (hr : TR (L.drop k) r) :
    Calls Tryd.prog 25 #[.slice (some ⟨b, o, none⟩) n cap, .int .i64 k] w fun e w' => TokRes r k e ∧ Below w.heap.size w w' := by
  have HN : Hid (n = L.length) := hn
  clear hn
  obtain ⟨x, hx⟩ : ∃ x, x = L[k]'(HN.out ▸ hk) := ⟨_, rfl⟩
  have hcell := hA.2 k (HN.out ▸ hk)
  rw [← hx] at hcell
  have HD : Hid (L.drop k = x :: L.drop (k + 1)) := by rw [hx]; exact List.drop_eq_getElem_cons _
  clear hx
  have hb := hA.1
  have hcl : cl x = 7 ∨ cl x = 6 ∨ cl x = 4 ∨ cl x = 12 ∨ cl x = 8 ∨ cl x = 0 := by have := cl_cases x; omega
  rcases hcl with hcl | hcl | hcl | hcl | hcl | hcl
  all_goals
    go_enter Tryd.func25, Tryd.ntmps25
    go_wp2_with (first
      | (go_at_call 39; refine (cls_any _ _).mono ?_; rintro e w' ⟨rfl, rfl⟩)
      | (go_at_call 42; refine (num_at (r := r) (hA.alloc _) HN.out hc hm hk (by rw [HD.out] at hr ⊢; exact tr_num hcl hr)).mono ?_; rintro e u ⟨hR, hb2⟩; obtain ⟨K, A, V, S, Z, E, rfl⟩ := hR.form; have hg := (hb2.block w.heap.size (by simp)).trans (heap_alloc_last _ _))
      | (go_at_call 43; refine (name_at (r := r) (hT.alloc _) (hA.alloc _) HN.out hc hm hk (by rw [HD.out] at hr ⊢; exact tr_name hcl hr)).mono ?_; rintro e u ⟨hR, hb2⟩; obtain ⟨K, A, V, S, Z, E, rfl⟩ := hR.form; have hg := (hb2.block w.heap.size (by simp)).trans (heap_alloc_last _ _))
      | (go_at_call 44; refine (sign_at (r := r) (hT.alloc _) (hA.alloc _) HN.out hc hm hk (by rw [HD.out] at hr ⊢; exact tr_sign (by omega) (by omega) hr)).mono ?_; rintro e u ⟨hR, hb2⟩; obtain ⟨K, A, V, S, Z, E, rfl⟩ := hR.form; have hg := (hb2.block w.heap.size (by simp)).trans (heap_alloc_last _ _))
      | (refine wpList_store_tok rfl _ _ rfl w.heap.size K A V S rfl rfl _ hg rfl ?_))
    refine bodyPost_ret (v := .tuple #[.agg #[.int .i64 K, .int .i64 A, .int .i64 V, .string S], .int .i64 Z, .int .i64 E]) ?_ rfl ?_
    · exact results_tok Tryd.results25 _ _ w.heap.size 31 _ (0, 0) _ _ rfl rfl rfl (setRow_heap _ _ _ _ _ _ hg) rfl
    exact ⟨hR, below_setRow (((Below.refl _ _).alloc (Nat.le_refl _) _).trans (hb2.mono (by simp))) (Nat.le_refl _) _⟩
end Go.Proofs.YteiambniddddpaaDoor
