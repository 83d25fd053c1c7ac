import Derived.Test.YtdbkjjelaipcfaaDoorLsL
set_option linter.unusedVariables false
namespace Go.Proofs.YtdbkjjelaipcfaaDoor
open Go.ChangeShapes Go.WideShapes Go.ChangeAt Go.RowKit

/-- A number read digit by digit. -/
def ns : Bool → Nat → List UInt8 → Option (Nat × Nat)
  | _, v, [] => some (v, 0)
  | s, v, c :: l => if cl c = 7 then (if (s = true ∧ v = 0) ∨ (9223372036854775807 - (c.toNat - 48)) / 10 < v then none else (ns true (10 * v + (c.toNat - 48)) l).map fun p => (p.1, p.2 + 1)) else some (v, 0)

theorem valOf_ge (l : List UInt8) : ∀ v : Nat, v ≤ valOf v l := by
  induction l with
  | nil => intro v; simp [valOf]
  | cons c l ih =>
    intro v
    have := ih (10 * v + (c.toNat - 48))
    simp only [valOf, List.foldl_cons] at this ⊢
    omega

theorem ns_pos (l : List UInt8) : ∀ v : Nat, 0 < v → v ≤ 9223372036854775807 → ns true v l = if 9223372036854775807 < valOf v (l.takeWhile isDg) then none else some (valOf v (l.takeWhile isDg), (l.takeWhile isDg).length) := by
  induction l with
  | nil => intro v h0 h1; show some (v, 0) = if 9223372036854775807 < v then none else some (v, 0); rw [if_neg (by omega)]
  | cons c l ih =>
    intro v h0 h1
    by_cases hc : cl c = 7
    · have hr : 48 ≤ c.toNat ∧ c.toNat ≤ 57 := by have := cl_cases c; omega
      have hd : isDg c = true := by simp [isDg, hc]
      have hv : v ≠ 0 := by omega
      simp only [ns, hc, if_true, List.takeWhile_cons, hd, List.length_cons]
      have e : valOf v (c :: List.takeWhile isDg l) = valOf (10 * v + (c.toNat - 48)) (l.takeWhile isDg) := rfl
      rw [e]
      by_cases hq : (9223372036854775807 - (c.toNat - 48)) / 10 < v
      · have := valOf_ge (l.takeWhile isDg) (10 * v + (c.toNat - 48))
        rw [if_pos (.inr hq), if_pos (by omega)]
      · rw [if_neg (by omega), ih _ (by omega) (by omega)]
        split <;> simp
    · have hd : isDg c = false := by simp [isDg, hc]
      simp only [ns, hc, if_false, List.takeWhile_cons, hd, Bool.false_eq_true]
      show some (v, 0) = if 9223372036854775807 < v then none else some (v, 0)
      rw [if_neg (by omega)]

theorem ns_eq (l : List UInt8) : ns false 0 l = (numVal (l.takeWhile isDg)).map fun v => (v, (l.takeWhile isDg).length) := by
  cases l with
  | nil => simp [ns, numVal, valOf]
  | cons c l =>
    by_cases hc : cl c = 7
    · have hr : 48 ≤ c.toNat ∧ c.toNat ≤ 57 := by have := cl_cases c; omega
      have hd : isDg c = true := by simp [isDg, hc]
      simp only [ns, hc, if_true, List.takeWhile_cons, hd, List.length_cons]
      rw [if_neg (by simp)]
      have e : valOf 0 (c :: List.takeWhile isDg l) = valOf (c.toNat - 48) (l.takeWhile isDg) := by simp [valOf]
      rw [show 10 * 0 + (c.toNat - 48) = c.toNat - 48 by omega]
      by_cases h0 : c = 48
      · subst h0
        cases l with
        | nil => simp [ns, numVal, valOf]
        | cons d l =>
          by_cases hd' : cl d = 7
          · have hd2 : isDg d = true := by simp [isDg, hd']
            simp [ns, numVal, hd', hd2]
          · have hd2 : isDg d = false := by simp [isDg, hd']
            simp [ns, numVal, hd', hd2, valOf]
      · have h1 : c.toNat ≠ 48 := fun e => h0 (UInt8.toNat_inj.1 e)
        rw [ns_pos l _ (by omega) (by omega)]
        simp only [numVal, e, List.head?_cons]
        have h2 : ¬ (some c = some (48 : UInt8)) := fun e => h0 (Option.some.inj e)
        simp only [h2, and_false, false_or]
        split <;> simp
    · have hd : isDg c = false := by simp [isDg, hc]
      simp [ns, hc, hd, numVal, valOf]

/-- What a call that reads a token answers. -/
def TokRes (r : Except Nat (Tk × Nat)) (k : Nat) (e : Ending) : Prop :=
  match r with
  | .error er => ∃ z : Int, e = .returned (.tuple #[tz, .int .i64 z, .int .i64 (er : Int)])
  | .ok p => e = .returned (.tuple #[tv p.1 k, .int .i64 ((k + p.2 : Nat) : Int), .int .i64 0])

def numS (s : Bool) (v : Nat) (l : List UInt8) (d : Nat) : Except Nat (Tk × Nat) := match ns s v l with | none => .error 22 | some p => .ok (⟨2, p.1, []⟩, d + p.2)

theorem numS_next {L : List UInt8} {j k v : Nat} {x : UInt8} {r : Except Nat (Tk × Nat)} (H : numS (decide (k < j)) v (L.drop j) (j - k) = r) (hk : k ≤ j) (HD : L.drop j = x :: L.drop (j + 1)) (hc : cl x = 7)
    (h1 : ¬ (k < j ∧ v = 0)) (h2 : ¬ (9223372036854775807 - (x.toNat - 48)) / 10 < v) : numS (decide (k < j + 1)) (10 * v + (x.toNat - 48)) (L.drop (j + 1)) (j + 1 - k) = r := by
  rw [← H, HD]
  have e : decide (k < j + 1) = true := by simp; omega
  rw [e]
  simp only [numS, ns, hc, if_true]
  rw [if_neg (by simp only [decide_eq_true_eq]; intro h; rcases h with h | h; exact h1 h; exact h2 h)]
  cases ns true (10 * v + (x.toNat - 48)) (L.drop (j + 1)) with
  | none => rfl
  | some p => simp; omega
theorem numS_stop {L : List UInt8} {j k v : Nat} {x : UInt8} {r : Except Nat (Tk × Nat)} (H : numS (decide (k < j)) v (L.drop j) (j - k) = r) (HD : L.drop j = x :: L.drop (j + 1)) (hc : cl x ≠ 7) : r = .ok (⟨2, v, []⟩, j - k) := by
  rw [← H, HD]; simp [numS, ns, hc]
theorem numS_end {L : List UInt8} {j k v : Nat} {r : Except Nat (Tk × Nat)} (H : numS (decide (k < j)) v (L.drop j) (j - k) = r) (hj : L.length ≤ j) : r = .ok (⟨2, v, []⟩, j - k) := by
  rw [← H, List.drop_of_length_le hj]; simp [numS, ns]
theorem numS_bad {L : List UInt8} {j k v : Nat} {x : UInt8} {r : Except Nat (Tk × Nat)} (H : numS (decide (k < j)) v (L.drop j) (j - k) = r) (HD : L.drop j = x :: L.drop (j + 1)) (hc : cl x = 7)
    (h : (k < j ∧ v = 0) ∨ (9223372036854775807 - (x.toNat - 48)) / 10 < v) : r = .error 22 := by
  rw [← H, HD]; simp only [numS, ns, hc, if_true]; rw [if_pos (by simpa using h)]

theorem ret_three {a b : Value} {c d : Int} {e f : Int} (h1 : a = b) (h2 : c = d) (h3 : e = f) : Ending.returned (.tuple #[a, .int .i64 c, .int .i64 e]) = .returned (.tuple #[b, .int .i64 d, .int .i64 f]) := by rw [h1, h2, h3]

set_option maxHeartbeats 1000000 in
theorem number_any (w : World) (b o cap : Nat) (L : List UInt8) (hA : At w b o L) (hm : L.length ≤ 9223372036854775807) (k : Nat) (hk : k ≤ L.length) (r : Except Nat (Tk × Nat)) (hr : numS false 0 (L.drop k) 0 = r) :
    Calls Tryd.prog 92 #[.slice (some ⟨b, o, none⟩) L.length cap, .int .i64 k] w fun e w' => TokRes r k e ∧ Below w.heap.size w w' := by
  have HR : Hid (numS (decide (k < k)) 0 (L.drop k) (k - k) = r) := by
    have e0 : decide (k < k) = false := by simp
    rw [e0, Nat.sub_self]; exact hr
  clear hr
  obtain ⟨n, hn⟩ : ∃ n, n = L.length := ⟨_, rfl⟩
  rw [← hn] at hm hk ⊢
  have HN : Hid (n = L.length) := hn
  clear hn
  have hb := hA.1
  have HA : Hid (At w b o L) := hA
  clear hA
  go_enter Tryd.func92, Tryd.ntmps92
  go_wp2
  go_step3
  go_wp2
  go_step3
  go_wp2
  go_loop [7, 8] (fun z v => ∃ j y : Nat, k ≤ j ∧ j ≤ n ∧ y ≤ 9223372036854775807 ∧ z = .int .i64 y ∧ v = .int .i64 j ∧ Hid (numS (decide (k < j)) y (L.drop j) (j - k) = r)) (fun _ v => n - (intOf v).toNat)
  case atStart => exact ⟨k, 0, by omega, hk, by omega, rfl, rfl, HR⟩
  case round =>
    obtain ⟨j, y, hkj, hj, hy, rfl, rfl, HJ⟩ := hrel
    by_cases hlt : j < n
    · obtain ⟨x, hx⟩ : ∃ x, x = L[j]'(HN.out ▸ hlt) := ⟨_, rfl⟩
      have hcell := HA.out.2 j (HN.out ▸ hlt)
      rw [← hx] at hcell
      have HD : Hid (L.drop j = x :: L.drop (j + 1)) := by rw [hx]; exact List.drop_eq_getElem_cons _
      clear hx
      by_cases hcl : cl x = 7
      · have hr : 48 ≤ x.toNat ∧ x.toNat ≤ 57 := by have := cl_cases x; omega
        obtain ⟨hr1, hr2⟩ := hr
        by_cases h1 : k < j ∧ y = 0
        · have HB : Hid ((k < j ∧ y = 0) ∨ (9223372036854775807 - (x.toNat - 48)) / 10 < y) := .inl h1
          obtain ⟨h1, rfl⟩ := h1
          go_wp2_with (go_at_call 89; refine (cls_any _ _).mono ?_; rintro e w' ⟨rfl, rfl⟩)
          (try rw [Exit.noGoto_ret])
          refine bodyPost_ret (v := .tuple #[tz, .int .i64 0, .int .i64 22]) (by simp [results, Tryd.results92, go_sem, tz]; rfl) rfl ⟨?_, (Below.refl _ _).alloc (Nat.le_refl _) _⟩
          rw [numS_bad HJ.out HD.out hcl (by first | exact HB.out | exact .inl ⟨by omega, rfl⟩)]
          exact ⟨0, rfl⟩
        · have H1 : Hid (¬ (k < j ∧ y = 0)) := h1
          have h5 : ¬ k < j ∨ (k < j ∧ ¬ y = 0) := by omega
          clear h1
          by_cases h2 : (9223372036854775807 - (x.toNat - 48)) / 10 < y
          · have HB : Hid ((k < j ∧ y = 0) ∨ (9223372036854775807 - (x.toNat - 48)) / 10 < y) := .inr h2
            rcases h5 with h3 | ⟨h3, h4⟩
            all_goals
              go_wp2_with (go_at_call 89; refine (cls_any _ _).mono ?_; rintro e w' ⟨rfl, rfl⟩)
              (try rw [Exit.noGoto_ret])
              refine bodyPost_ret (v := .tuple #[tz, .int .i64 0, .int .i64 22]) (by simp [results, Tryd.results92, go_sem, tz]; rfl) rfl ⟨?_, (Below.refl _ _).alloc (Nat.le_refl _) _⟩
              rw [numS_bad HJ.out HD.out hcl (by first | exact HB.out | exact .inl ⟨by omega, rfl⟩)]
              exact ⟨0, rfl⟩
          · have H3 : Hid (numS (decide (k < j + 1)) (10 * y + (x.toNat - 48)) (L.drop (j + 1)) (j + 1 - k) = r) := numS_next HJ.out hkj HD.out hcl H1.out h2
            rcases h5 with h3 | ⟨h3, h4⟩
            all_goals
              go_wp2_with (go_at_call 89; refine (cls_any _ _).mono ?_; rintro e w' ⟨rfl, rfl⟩)
              go_round
              case rel => exact ⟨j + 1, 10 * y + (x.toNat - 48), by omega, by omega, by omega, by go_num, by go_num, H3⟩
              case measure => simp [intOf]; omega
      · have hcl2 : cl x = 6 ∨ cl x = 4 ∨ cl x = 12 ∨ cl x = 8 ∨ cl x = 0 := by have := cl_cases x; omega
        have HC : Hid (cl x ≠ 7) := hcl
        clear hcl
        rcases hcl2 with hcl | hcl | hcl | hcl | hcl
        all_goals
          go_wp2_with (go_at_call 89; refine (cls_any _ _).mono ?_; rintro e w' ⟨rfl, rfl⟩)
          (try rw [Exit.noGoto_ret])
          refine bodyPost_ret (v := .tuple #[.agg #[.int .i64 2, .int .i64 k, .int .i64 y, .string .empty], .int .i64 j, .int .i64 0]) (by simp [results, Tryd.results92, go_sem]; rfl) rfl ⟨?_, (Below.refl _ _).alloc (Nat.le_refl _) _⟩
          rw [numS_stop HJ.out HD.out HC.out]
          exact ret_three rfl (by omega) rfl
    · go_wp2
      (try rw [Exit.noGoto_ret])
      refine bodyPost_ret (v := .tuple #[.agg #[.int .i64 2, .int .i64 k, .int .i64 y, .string .empty], .int .i64 j, .int .i64 0]) (by simp [results, Tryd.results92, go_sem]; rfl) rfl ⟨?_, (Below.refl _ _).alloc (Nat.le_refl _) _⟩
      rw [numS_end HJ.out (by have := HN.out; omega)]
      exact ret_three rfl (by omega) rfl
end Go.Proofs.YtdbkjjelaipcfaaDoor
