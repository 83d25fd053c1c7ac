import Derived.Test.YtchobeakieljpaaGreatDoorTrA
import Derived.Test.YtchobeakieljpaaGreatDoorTrO
set_option linter.unusedVariables false
set_option linter.unusedSimpArgs false
namespace Go.Proofs.YtchobeakieljpaaGreatDoor
open Go.ChangeShapes Go.WideShapes Go.ChangeAt Go.RowKit

theorem rEx_any (k : Int) (w : World) : Calls Tryz.prog 56 #[.int .i64 k] w fun e w' => e = .returned (.bool (isEx k)) ∧ w = w' := by
  by_cases h1 : 20 ≤ k
  · by_cases h2 : k ≤ 31
    · have h : isEx k = true := by simp [isEx, h1, h2]
      rw [h]
      clear h
      go_enter Tryz.func56, Tryz.ntmps56
      go_wp2
      go_ret
      simp [h2]
    · have h : isEx k = false := by simp [isEx]; omega
      rw [h]
      clear h
      go_enter Tryz.func56, Tryz.ntmps56
      go_wp2
      go_ret
      first | (simp; done) | (simp; omega)
  · have h : isEx k = false := by simp [isEx]; omega
    rw [h]
    clear h
    go_enter Tryz.func56, Tryz.ntmps56
    go_wp2
    go_ret
    first | (simp; done) | (simp; omega)
theorem rSt_any (k : Int) (w : World) : Calls Tryz.prog 61 #[.int .i64 k] w fun e w' => e = .returned (.bool (isSt k)) ∧ w = w' := by
  by_cases h1 : 3 ≤ k
  · by_cases h2 : k ≤ 14
    · have h : isSt k = true := by simp [isSt, h1, h2]
      rw [h]
      clear h
      go_enter Tryz.func61, Tryz.ntmps61
      go_wp2
      go_ret
      simp [h2]
    · have h : isSt k = false := by simp [isSt]; omega
      rw [h]
      clear h
      go_enter Tryz.func61, Tryz.ntmps61
      go_wp2
      go_ret
      first | (simp; done) | (simp; omega)
  · have h : isSt k = false := by simp [isSt]; omega
    rw [h]
    clear h
    go_enter Tryz.func61, Tryz.ntmps61
    go_wp2
    go_ret
    simp
def rNm (k : Int) : Bool := decide (k = 1 ∨ k = 2 ∨ k = 4 ∨ k = 5 ∨ k = 6 ∨ k = 24 ∨ k = 25)
theorem rNm_any (k : Int) (w : World) : Calls Tryz.prog 54 #[.int .i64 k] w fun e w' => e = .returned (.bool (rNm k)) ∧ w = w' := by
  have hc : k = 1 ∨ k = 2 ∨ k = 4 ∨ k = 5 ∨ k = 6 ∨ k = 24 ∨ k = 25 ∨ (¬ k = 1 ∧ ¬ k = 2 ∧ ¬ k = 4 ∧ ¬ k = 5 ∧ ¬ k = 6 ∧ ¬ k = 24 ∧ ¬ k = 25) := by omega
  rcases hc with rfl | rfl | rfl | rfl | rfl | rfl | rfl | ⟨h1, h2, h3, h4, h5, h6, h7⟩
  case inr.inr.inr.inr.inr.inr.inr =>
    have hM : rNm k = false := by unfold rNm; rw [decide_eq_false_iff_not]; omega
    rw [hM]
    clear hM
    go_enter Tryz.func54, Tryz.ntmps54
    go_wp2
    go_ret
    first | (simp; done) | (simp; omega)
  all_goals
    go_enter Tryz.func54, Tryz.ntmps54
    go_wp2
    go_ret
    exact ⟨rfl, rfl⟩
/-- How many kids a kind has: at least, at most (-1: any number; -2: no kind). -/
def rMany (k : Int) : Int × Int :=
  if k = 1 then (1, -1) else if k = 3 ∨ k = 25 then (0, -1) else if k = 4 ∨ k = 12 then (0, 1)
  else if k = 5 ∨ k = 7 ∨ k = 8 ∨ k = 9 ∨ k = 27 ∨ k = 28 ∨ k = 30 then (1, 1) else if k = 6 ∨ k = 29 ∨ k = 31 then (2, 2)
  else if k = 10 then (2, 3) else if k = 11 then (1, 2) else if k = 2 ∨ k = 13 ∨ k = 14 ∨ k = 20 ∨ k = 21 ∨ k = 22 ∨ k = 23 ∨ k = 24 ∨ k = 26 then (0, 0) else (0, -2)
set_option maxHeartbeats 2000000 in
theorem rMany_any (k : Int) (w : World) : Calls Tryz.prog 52 #[.int .i64 k] w fun e w' => e = .returned (.tuple #[.int .i64 (rMany k).1, .int .i64 (rMany k).2]) ∧ w = w' := by
  have hc : k = 1 ∨ k = 2 ∨ k = 3 ∨ k = 4 ∨ k = 5 ∨ k = 6 ∨ k = 7 ∨ k = 8 ∨ k = 9 ∨ k = 10 ∨ k = 11 ∨ k = 12 ∨ k = 13 ∨ k = 14 ∨ k = 20 ∨ k = 21 ∨ k = 22 ∨ k = 23 ∨ k = 24 ∨ k = 25 ∨ k = 26 ∨ k = 27 ∨ k = 28 ∨ k = 29 ∨ k = 30 ∨ k = 31 ∨ (k < 1 ∨ 31 < k ∨ (14 < k ∧ k < 20)) := by omega
  rcases hc with rfl | rfl | rfl | rfl | rfl | rfl | rfl | rfl | rfl | rfl | rfl | rfl | rfl | rfl | rfl | rfl | rfl | rfl | rfl | rfl | rfl | rfl | rfl | rfl | rfl | rfl | h
  case inr.inr.inr.inr.inr.inr.inr.inr.inr.inr.inr.inr.inr.inr.inr.inr.inr.inr.inr.inr.inr.inr.inr.inr.inr.inr =>
    have n1 : ¬ k = 1 := by omega
    have n2 : ¬ k = 2 := by omega
    have n3 : ¬ k = 3 := by omega
    have n4 : ¬ k = 4 := by omega
    have n5 : ¬ k = 5 := by omega
    have n6 : ¬ k = 6 := by omega
    have n7 : ¬ k = 7 := by omega
    have n8 : ¬ k = 8 := by omega
    have n9 : ¬ k = 9 := by omega
    have n10 : ¬ k = 10 := by omega
    have n11 : ¬ k = 11 := by omega
    have n12 : ¬ k = 12 := by omega
    have n13 : ¬ k = 13 := by omega
    have n14 : ¬ k = 14 := by omega
    have n20 : ¬ k = 20 := by omega
    have n21 : ¬ k = 21 := by omega
    have n22 : ¬ k = 22 := by omega
    have n23 : ¬ k = 23 := by omega
    have n24 : ¬ k = 24 := by omega
    have n25 : ¬ k = 25 := by omega
    have n26 : ¬ k = 26 := by omega
    have n27 : ¬ k = 27 := by omega
    have n28 : ¬ k = 28 := by omega
    have n29 : ¬ k = 29 := by omega
    have n30 : ¬ k = 30 := by omega
    have n31 : ¬ k = 31 := by omega
    have hM : rMany k = (0, -2) := by simp [rMany, n1, n2, n3, n4, n5, n6, n7, n8, n9, n10, n11, n12, n13, n14, n20, n21, n22, n23, n24, n25, n26, n27, n28, n29, n30, n31]
    rw [hM]
    clear hM h
    go_enter Tryz.func52, Tryz.ntmps52
    go_wp2
    go_ret2
    exact ⟨rfl, rfl⟩
  all_goals
    go_enter Tryz.func52, Tryz.ntmps52
    go_wp2
    go_ret2
    exact ⟨rfl, rfl⟩
end Go.Proofs.YtchobeakieljpaaGreatDoor
namespace Go.Proofs.YtchobeakieljpaaGreatDoor
open Go.ChangeShapes Go.WideShapes Go.ChangeAt Go.RowKit

/-- Of a node of n kids: is a kid of that kind right in the i-th place? -/
def rWant (k : Int) (n i : Nat) (kid : Int) : Bool :=
  if k = 1 then (if i + 1 = n then isK 3 kid else isK 2 kid)
  else if k = 3 then isSt kid
  else if k = 7 then isK 25 kid
  else if k = 10 then (if i = 0 then isEx kid else if i = 1 then isK 3 kid else isEl kid)
  else if k = 11 ∧ i + 1 = n then isK 3 kid
  else isEx kid

set_option maxHeartbeats 2000000 in
theorem rWant_any (k : Int) (n i : Nat) (kid : Int) (hi : i < n) (hn : n ≤ 1000000000) (w : World) : Calls Tryz.prog 53 #[.int .i64 k, .int .i64 n, .int .i64 i, .int .i64 kid] w fun e w' => e = .returned (.bool (rWant k n i kid)) ∧ w = w' := by
  have hsub : (n : Int) - 1 = ((n - 1 : Nat) : Int) := by omega
  obtain ⟨n1, hn1⟩ : ∃ n1, n1 = n - 1 := ⟨_, rfl⟩
  rw [← hn1] at hsub
  have HN : Hid (n1 + 1 = n) := by show _ = _; omega
  clear hn1
  have EX : ∀ w, Calls Tryz.prog 56 #[.int .i64 kid] w fun e w' => e = .returned (.bool (isEx kid)) ∧ w = w' := rEx_any kid
  by_cases h1 : k = 1
  · subst h1
    by_cases hl : i = n1
    · subst hl
      have hM : rWant 1 n i kid = isK 3 kid := by simp [rWant, HN.out]
      rw [hM]
      clear hM
      go_enter Tryz.func53, Tryz.ntmps53
      go_wp2_with fail
      go_ret
      exact ⟨rfl, rfl⟩
    · have hM : rWant 1 n i kid = isK 2 kid := by simp [rWant]; intro h; have := HN.out; omega
      rw [hM]
      clear hM
      have hlI : ¬ (i : Int) = (n1 : Int) := by omega
      go_enter Tryz.func53, Tryz.ntmps53
      go_wp2_with fail
      go_ret
      exact ⟨rfl, rfl⟩
  by_cases h3 : k = 3
  · subst h3
    have hM : rWant 3 n i kid = isSt kid := by simp [rWant]
    rw [hM]
    clear hM
    go_enter Tryz.func53, Tryz.ntmps53
    go_wp2_with (first | (go_at_call 61; refine (rSt_any _ _).mono ?_; rintro e w' ⟨rfl, rfl⟩))
    go_ret
    exact ⟨rfl, rfl⟩
  by_cases h7 : k = 7
  · subst h7
    have hM : rWant 7 n i kid = isK 25 kid := by simp [rWant]
    rw [hM]
    clear hM
    go_enter Tryz.func53, Tryz.ntmps53
    go_wp2_with fail
    go_ret
    exact ⟨rfl, rfl⟩
  by_cases h10 : k = 10
  · subst h10
    by_cases i0 : i = 0
    · subst i0
      have hM : rWant 10 n 0 kid = isEx kid := by simp [rWant]
      rw [hM]
      clear hM
      go_enter Tryz.func53, Tryz.ntmps53
      go_wp2_with (first | (go_at_call 56; refine (EX _).mono ?_; rintro e w' ⟨rfl, rfl⟩))
      go_ret
      exact ⟨rfl, rfl⟩
    by_cases i1 : i = 1
    · subst i1
      have hM : rWant 10 n 1 kid = isK 3 kid := by simp [rWant]
      rw [hM]
      clear hM
      go_enter Tryz.func53, Tryz.ntmps53
      go_wp2_with fail
      go_ret
      exact ⟨rfl, rfl⟩
    have hM : rWant 10 n i kid = isEl kid := by simp [rWant, i0, i1]
    rw [hM]
    clear hM
    have i0I : ¬ (i : Int) = 0 := by omega
    have i1I : ¬ (i : Int) = 1 := by omega
    by_cases k3 : kid = 3
    · subst k3
      go_enter Tryz.func53, Tryz.ntmps53
      go_wp2_with fail
      go_ret
      exact ⟨rfl, rfl⟩
    · have hM : isEl kid = decide (kid = 10) := by simp [isEl, k3]
      rw [hM]
      clear hM
      go_enter Tryz.func53, Tryz.ntmps53
      go_wp2_with fail
      go_ret
      exact ⟨ret_b (by first | rfl | (simp; done) | (by_cases h : kid = 10 <;> simp [h, k3]) | (by_cases h : kid = 10 <;> simp_all)), rfl⟩
  by_cases h11 : k = 11
  · subst h11
    by_cases hl : i = n1
    · subst hl
      have hM : rWant 11 n i kid = isK 3 kid := by simp [rWant, HN.out]
      rw [hM]
      clear hM
      go_enter Tryz.func53, Tryz.ntmps53
      go_wp2_with fail
      go_ret
      exact ⟨rfl, rfl⟩
    · have hM : rWant 11 n i kid = isEx kid := by simp [rWant]; intro h; have := HN.out; omega
      rw [hM]
      clear hM
      have hlI : ¬ (i : Int) = (n1 : Int) := by omega
      go_enter Tryz.func53, Tryz.ntmps53
      go_wp2_with (first | (go_at_call 56; refine (EX _).mono ?_; rintro e w' ⟨rfl, rfl⟩))
      go_ret
      exact ⟨rfl, rfl⟩
  have hM : rWant k n i kid = isEx kid := by simp [rWant, h1, h3, h7, h10, h11]
  rw [hM]
  clear hM
  go_enter Tryz.func53, Tryz.ntmps53
  go_wp2_with (first | (go_at_call 56; refine (EX _).mono ?_; rintro e w' ⟨rfl, rfl⟩))
  go_ret
  exact ⟨rfl, rfl⟩
end Go.Proofs.YtchobeakieljpaaGreatDoor
namespace Go.Proofs.YtchobeakieljpaaGreatDoor
open Go.ChangeShapes Go.WideShapes Go.ChangeAt Go.RowKit

def VK (k : Int) : Prop := (1 ≤ k ∧ k ≤ 14) ∨ (20 ≤ k ∧ k ≤ 31)
theorem vk_st {k : Int} (h : isSt k = true) : VK k := by simp [isSt] at h; exact .inl ⟨by omega, by omega⟩
theorem vk_ex {k : Int} (h : isEx k = true) : VK k := by simp [isEx] at h; exact .inr ⟨by omega, by omega⟩
theorem vk_k {j k : Int} (h : isK j k = true) (hj : VK j) : VK k := by simp [isK] at h; rw [h]; exact hj
theorem vk_el {k : Int} (h : isEl k = true) : VK k := by simp [isEl] at h; rcases h with h | h <;> (rw [h]; exact .inl ⟨by omega, by omega⟩)
theorem allK_mem {N : List Nd} {p : Int → Bool} {l : List Int} (h : allK N p l = true) {x : Int} (hx : x ∈ l) : p (kd N x) = true := List.all_eq_true.1 h x hx
theorem split_mem {l : List Int} (k : Nat) {x : Int} (h : x ∈ l) : x ∈ l.take k ∨ x ∈ l.drop k := by
  rw [← List.take_append_drop k l] at h
  exact List.mem_append.1 h
theorem kfit_kid {N : List Nd} {n : Nd} (h : kfit N n = true) {x : Int} (hx : x ∈ n.kids) : VK (kd N x) := by
  have v2 : VK 2 := .inl ⟨by omega, by omega⟩
  have v3 : VK 3 := .inl ⟨by omega, by omega⟩
  have v25 : VK 25 := .inr ⟨by omega, by omega⟩
  unfold kfit at h
  simp only at h
  split at h
  · simp only [Bool.and_eq_true] at h
    rcases split_mem (n.kids.length - 1) hx with hx | hx
    · exact vk_k (allK_mem h.1.2 hx) v2
    · exact vk_k (allK_mem h.2 hx) v3
  split at h
  · exact vk_st (allK_mem h hx)
  split at h
  · simp only [Bool.and_eq_true] at h
    exact vk_k (allK_mem h.2 hx) v25
  split at h
  · simp only [Bool.and_eq_true] at h
    rcases split_mem 1 hx with hx | hx
    · exact vk_ex (allK_mem h.1.1.2 hx)
    · rcases split_mem 1 hx with hx | hx
      · exact vk_k (allK_mem h.1.2 hx) v3
      · exact vk_el (allK_mem h.2 (by simpa using hx))
  split at h
  · simp only [Bool.and_eq_true] at h
    rcases split_mem (n.kids.length - 1) hx with hx | hx
    · exact vk_ex (allK_mem h.1.2 hx)
    · exact vk_k (allK_mem h.2 hx) v3
  split at h
  · exact vk_ex (allK_mem h hx)
  split at h
  · simp only [Bool.and_eq_true] at h
    exact vk_ex (allK_mem h.2 hx)
  split at h
  · simp only [Bool.and_eq_true] at h
    exact vk_ex (allK_mem h.2 hx)
  split at h
  · simp only [Bool.and_eq_true] at h
    exact vk_ex (allK_mem h.2 hx)
  · have := of_decide_eq_true h
    rw [List.length_eq_zero_iff.1 this] at hx
    cases hx
theorem kd_at {N : List Nd} (i : Nat) (hi : i < N.length) : kd N (i : Int) = N[i].kind := by simp [kd, hi]
theorem sum_le {l : List Nat} {x : Nat} (h : x ∈ l) : x ≤ l.sum := by
  induction l with
  | nil => cases h
  | cons a l ih =>
    rcases List.mem_cons.1 h with rfl | h
    · simp
    · have := ih h; simp; omega
theorem total_le (K : List (List Int)) (i : Nat) (h : i < K.length) : (K[i]).length ≤ total K := sum_le (List.mem_map.2 ⟨K[i], List.getElem_mem h, rfl⟩)
theorem cloop_of {N : List Nd} : ∀ (r : List Nd) (l : List Int) (i : Nat) (F : List Int), stk l i (r.map Nd.kids) = some F → (∀ n ∈ r, ffit n = true ∧ kfit N n = true) → cloop N l i r = some F
  | [], l, i, F, h, _ => by simpa [stk, cloop] using h
  | n :: r, l, i, F, h, hf => by
    obtain ⟨h1, h2, h3⟩ := stk_cons h
    obtain ⟨f1, f2⟩ := hf n (by simp)
    rw [cloop, cstep, if_pos ⟨h1, h2, f1, f2⟩]
    exact cloop_of r _ (i + 1) F h3 (fun m hm => hf m (by simp [hm]))
end Go.Proofs.YtchobeakieljpaaGreatDoor
namespace Go.Proofs.YtchobeakieljpaaGreatDoor
open Go.ChangeShapes Go.WideShapes Go.ChangeAt Go.RowKit

/-- The document's column Kids. -/
def rKidsB (N : List Nd) (n : Nd) : Bool :=
  decide (¬ (rMany n.kind).2 = -2) && decide ((rMany n.kind).1 ≤ n.kids.length) && (decide ((rMany n.kind).2 < 0) || decide ((n.kids.length : Int) ≤ (rMany n.kind).2)) && (List.range n.kids.length).all fun i => rWant n.kind n.kids.length i (kd N (n.kids.getD i 0))
theorem all_range (N : List Nd) (p : Int → Bool) (l : List Int) : ((List.range l.length).all fun i => p (kd N (l.getD i 0))) = allK N p l := by
  rw [Bool.eq_iff_iff, List.all_eq_true, allK, List.all_eq_true]
  constructor
  · intro h x hx
    obtain ⟨i, hi, rfl⟩ := List.mem_iff_getElem.1 hx
    have := h i (by simpa using hi)
    simpa [List.getD, List.getElem?_eq_getElem hi] using this
  · intro h i hi
    have hi' : i < l.length := by simpa using hi
    have := h l[i] (List.getElem_mem hi')
    simpa [List.getD, List.getElem?_eq_getElem hi'] using this
theorem all_congr {l : List Nat} {p q : Nat → Bool} (h : ∀ i ∈ l, p i = q i) : l.all p = l.all q := by
  rw [Bool.eq_iff_iff, List.all_eq_true, List.all_eq_true]
  exact ⟨fun h1 i hi => by rw [← h i hi]; exact h1 i hi, fun h1 i hi => by rw [h i hi]; exact h1 i hi⟩
/-- All but the last one, and the last one. -/
theorem all_last (N : List Nd) (p q : Int → Bool) (l : List Int) (hl : 0 < l.length) : ((List.range l.length).all fun i => if i + 1 = l.length then q (kd N (l.getD i 0)) else p (kd N (l.getD i 0))) = (allK N p (l.take (l.length - 1)) && allK N q (l.drop (l.length - 1))) := by
  obtain ⟨ks, j, rfl⟩ : ∃ ks j, l = ks ++ [j] := ⟨l.dropLast, l.getLast (by intro e; rw [e] at hl; simp at hl), (List.dropLast_concat_getLast _).symm⟩
  have e1 : (ks ++ [j]).take ((ks ++ [j]).length - 1) = ks := by simp
  have e2 : (ks ++ [j]).drop ((ks ++ [j]).length - 1) = [j] := by simp
  rw [e1, e2, show (ks ++ [j]).length = ks.length + 1 by simp, List.range_succ, List.all_append, ← all_range N p ks]
  congr 1
  · refine all_congr fun i hi => ?_
    have hi' : i < ks.length := by simpa using hi
    rw [if_neg (by omega)]
    simp [List.getD, List.getElem?_append_left hi']
  · simp [allK, List.getD]
theorem rKids_kfit {N : List Nd} {n : Nd} (hv : VK n.kind) : rKidsB N n = kfit N n := by
  have hk : n.kind = 1 ∨ n.kind = 2 ∨ n.kind = 3 ∨ n.kind = 4 ∨ n.kind = 5 ∨ n.kind = 6 ∨ n.kind = 7 ∨ n.kind = 8 ∨ n.kind = 9 ∨ n.kind = 10 ∨ n.kind = 11 ∨ n.kind = 12 ∨ n.kind = 13 ∨ n.kind = 14 ∨ n.kind = 20 ∨ n.kind = 21 ∨ n.kind = 22 ∨ n.kind = 23 ∨ n.kind = 24 ∨ n.kind = 25 ∨ n.kind = 26 ∨ n.kind = 27 ∨ n.kind = 28 ∨ n.kind = 29 ∨ n.kind = 30 ∨ n.kind = 31 := by
    rcases hv with h | h <;> omega
  have zero : (rMany n.kind) = (0, 0) → kfit N n = decide (n.kids.length = 0) → rKidsB N n = kfit N n := by
    intro h1 h2
    rw [h2]
    unfold rKidsB
    rw [h1]
    by_cases h : n.kids = []
    · simp [h]
    · have hl : 0 < n.kids.length := List.length_pos_iff.2 h
      simp [h]
  rcases hk with hk | hk | hk | hk | hk | hk | hk | hk | hk | hk | hk | hk | hk | hk | hk | hk | hk | hk | hk | hk | hk | hk | hk | hk | hk | hk
  · by_cases hl : 0 < n.kids.length
    · have e : ((List.range n.kids.length).all fun i => rWant n.kind n.kids.length i (kd N (n.kids.getD i 0))) = (allK N (isK 2) (n.kids.take (n.kids.length - 1)) && allK N (isK 3) (n.kids.drop (n.kids.length - 1))) := by
        rw [← all_last N (isK 2) (isK 3) n.kids hl]
        exact all_congr fun i _ => by simp [rWant, hk]
      unfold rKidsB kfit
      rw [e, Bool.eq_iff_iff]
      simp [hk, rMany]
      constructor
      · rintro ⟨h1, h2, h3⟩
        exact ⟨⟨by omega, h2⟩, h3⟩
      · rintro ⟨⟨h1, h2⟩, h3⟩
        exact ⟨by omega, h2, h3⟩
    · have h0 : n.kids = [] := List.length_eq_zero_iff.1 (by omega)
      simp [rKidsB, kfit, hk, rMany, h0]
  · exact zero (by simp [rMany, hk]) (by simp [kfit, hk])
  · have e : ((List.range n.kids.length).all fun i => rWant n.kind n.kids.length i (kd N (n.kids.getD i 0))) = allK N isSt n.kids := by
      rw [← all_range]
      exact all_congr fun i _ => by simp [rWant, hk]
    unfold rKidsB kfit
    rw [e, Bool.eq_iff_iff]
    simp [hk, rMany]
  · have e : ((List.range n.kids.length).all fun i => rWant n.kind n.kids.length i (kd N (n.kids.getD i 0))) = allK N isEx n.kids := by
      rw [← all_range]
      exact all_congr fun i _ => by simp [rWant, hk]
    unfold rKidsB kfit
    rw [e, Bool.eq_iff_iff]
    simp [hk, rMany]
    try (intro _)
    try omega
  · have e : ((List.range n.kids.length).all fun i => rWant n.kind n.kids.length i (kd N (n.kids.getD i 0))) = allK N isEx n.kids := by
      rw [← all_range]
      exact all_congr fun i _ => by simp [rWant, hk]
    unfold rKidsB kfit
    rw [e, Bool.eq_iff_iff]
    simp [hk, rMany]
    try (intro _)
    try omega
  · have e : ((List.range n.kids.length).all fun i => rWant n.kind n.kids.length i (kd N (n.kids.getD i 0))) = allK N isEx n.kids := by
      rw [← all_range]
      exact all_congr fun i _ => by simp [rWant, hk]
    unfold rKidsB kfit
    rw [e, Bool.eq_iff_iff]
    simp [hk, rMany]
    try (intro _)
    try omega
  · have e : ((List.range n.kids.length).all fun i => rWant n.kind n.kids.length i (kd N (n.kids.getD i 0))) = allK N (isK 25) n.kids := by
      rw [← all_range]
      exact all_congr fun i _ => by simp [rWant, hk]
    unfold rKidsB kfit
    rw [e, Bool.eq_iff_iff]
    simp [hk, rMany]
    try (intro _)
    try omega
  · have e : ((List.range n.kids.length).all fun i => rWant n.kind n.kids.length i (kd N (n.kids.getD i 0))) = allK N isEx n.kids := by
      rw [← all_range]
      exact all_congr fun i _ => by simp [rWant, hk]
    unfold rKidsB kfit
    rw [e, Bool.eq_iff_iff]
    simp [hk, rMany]
    try (intro _)
    try omega
  · have e : ((List.range n.kids.length).all fun i => rWant n.kind n.kids.length i (kd N (n.kids.getD i 0))) = allK N isEx n.kids := by
      rw [← all_range]
      exact all_congr fun i _ => by simp [rWant, hk]
    unfold rKidsB kfit
    rw [e, Bool.eq_iff_iff]
    simp [hk, rMany]
    try (intro _)
    try omega
  · unfold rKidsB kfit
    match hkk : n.kids with
    | [] => simp [hk, rMany]
    | [x] => simp [hk, rMany]
    | [x, y] => simp [hk, rMany, rWant, List.range_succ, allK, List.getD]
    | [x, y, z] => simp [hk, rMany, rWant, List.range_succ, allK, List.getD, Bool.and_assoc]
    | x :: y :: z :: u :: r =>
      rw [Bool.eq_iff_iff]
      simp [hk, rMany]
      try omega
  · by_cases hl : 0 < n.kids.length
    · have e : ((List.range n.kids.length).all fun i => rWant n.kind n.kids.length i (kd N (n.kids.getD i 0))) = (allK N isEx (n.kids.take (n.kids.length - 1)) && allK N (isK 3) (n.kids.drop (n.kids.length - 1))) := by
        rw [← all_last N isEx (isK 3) n.kids hl]
        exact all_congr fun i _ => by simp [rWant, hk]
      unfold rKidsB kfit
      rw [e, Bool.eq_iff_iff]
      simp [hk, rMany]
      constructor
      · rintro ⟨h1, h2, h3⟩
        exact ⟨⟨by omega, h2⟩, h3⟩
      · rintro ⟨⟨h1, h2⟩, h3⟩
        exact ⟨by omega, h2, h3⟩
    · have h0 : n.kids = [] := List.length_eq_zero_iff.1 (by omega)
      simp [rKidsB, kfit, hk, rMany, h0]
  · have e : ((List.range n.kids.length).all fun i => rWant n.kind n.kids.length i (kd N (n.kids.getD i 0))) = allK N isEx n.kids := by
      rw [← all_range]
      exact all_congr fun i _ => by simp [rWant, hk]
    unfold rKidsB kfit
    rw [e, Bool.eq_iff_iff]
    simp [hk, rMany]
    try (intro _)
    try omega
  · exact zero (by simp [rMany, hk]) (by simp [kfit, hk])
  · exact zero (by simp [rMany, hk]) (by simp [kfit, hk])
  · exact zero (by simp [rMany, hk]) (by simp [kfit, hk])
  · exact zero (by simp [rMany, hk]) (by simp [kfit, hk])
  · exact zero (by simp [rMany, hk]) (by simp [kfit, hk])
  · exact zero (by simp [rMany, hk]) (by simp [kfit, hk])
  · exact zero (by simp [rMany, hk]) (by simp [kfit, hk])
  · have e : ((List.range n.kids.length).all fun i => rWant n.kind n.kids.length i (kd N (n.kids.getD i 0))) = allK N isEx n.kids := by
      rw [← all_range]
      exact all_congr fun i _ => by simp [rWant, hk]
    unfold rKidsB kfit
    rw [e, Bool.eq_iff_iff]
    simp [hk, rMany]
  · exact zero (by simp [rMany, hk]) (by simp [kfit, hk])
  · have e : ((List.range n.kids.length).all fun i => rWant n.kind n.kids.length i (kd N (n.kids.getD i 0))) = allK N isEx n.kids := by
      rw [← all_range]
      exact all_congr fun i _ => by simp [rWant, hk]
    unfold rKidsB kfit
    rw [e, Bool.eq_iff_iff]
    simp [hk, rMany]
    try (intro _)
    try omega
  · have e : ((List.range n.kids.length).all fun i => rWant n.kind n.kids.length i (kd N (n.kids.getD i 0))) = allK N isEx n.kids := by
      rw [← all_range]
      exact all_congr fun i _ => by simp [rWant, hk]
    unfold rKidsB kfit
    rw [e, Bool.eq_iff_iff]
    simp [hk, rMany]
    try (intro _)
    try omega
  · have e : ((List.range n.kids.length).all fun i => rWant n.kind n.kids.length i (kd N (n.kids.getD i 0))) = allK N isEx n.kids := by
      rw [← all_range]
      exact all_congr fun i _ => by simp [rWant, hk]
    unfold rKidsB kfit
    rw [e, Bool.eq_iff_iff]
    simp [hk, rMany]
    try (intro _)
    try omega
  · have e : ((List.range n.kids.length).all fun i => rWant n.kind n.kids.length i (kd N (n.kids.getD i 0))) = allK N isEx n.kids := by
      rw [← all_range]
      exact all_congr fun i _ => by simp [rWant, hk]
    unfold rKidsB kfit
    rw [e, Bool.eq_iff_iff]
    simp [hk, rMany]
    try (intro _)
    try omega
  · have e : ((List.range n.kids.length).all fun i => rWant n.kind n.kids.length i (kd N (n.kids.getD i 0))) = allK N isEx n.kids := by
      rw [← all_range]
      exact all_congr fun i _ => by simp [rWant, hk]
    unfold rKidsB kfit
    rw [e, Bool.eq_iff_iff]
    simp [hk, rMany]
    try (intro _)
    try omega
end Go.Proofs.YtchobeakieljpaaGreatDoor
