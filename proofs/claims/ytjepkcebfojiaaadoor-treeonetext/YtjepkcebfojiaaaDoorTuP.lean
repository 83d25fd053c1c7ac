import Derived.Test.YtjepkcebfojiaaaDoorTrO
set_option linter.unusedVariables false
set_option linter.unusedSimpArgs false
namespace Go.Proofs.YtjepkcebfojiaaaDoor
open Go.ChangeShapes Go.WideShapes Go.ChangeAt Go.RowKit

def VK (k : Int) : Prop := (1 ≤ k ∧ k ≤ 14) ∨ (20 ≤ k ∧ k ≤ 31)
theorem vk_st {k : Int} (h : isSt k = true) : VK k := by simp [isSt] at h; exact .inl ⟨by omega, by omega⟩
theorem vk_ex {k : Int} (h : isEx k = true) : VK k := by simp [isEx] at h; exact .inr ⟨by omega, by omega⟩
theorem vk_k {j k : Int} (h : isK j k = true) (hj : VK j) : VK k := by simp [isK] at h; rw [h]; exact hj
theorem vk_el {k : Int} (h : isEl k = true) : VK k := by simp [isEl] at h; rcases h with h | h <;> (rw [h]; exact .inl ⟨by omega, by omega⟩)
theorem allK_mem {N : List Nd} {p : Int → Bool} {l : List Int} (h : allK N p l = true) {x : Int} (hx : x ∈ l) : p (kd N x) = true := List.all_eq_true.1 h x hx
theorem split_mem {l : List Int} (k : Nat) {x : Int} (h : x ∈ l) : x ∈ l.take k ∨ x ∈ l.drop k := by
  rw [← List.take_append_drop k l] at h
  exact List.mem_append.1 h
theorem kfit_kid {N : List Nd} {n : Nd} (h : kfit N n = true) {x : Int} (hx : x ∈ n.kids) : VK (kd N x) := by
  have v2 : VK 2 := .inl ⟨by omega, by omega⟩
  have v3 : VK 3 := .inl ⟨by omega, by omega⟩
  have v25 : VK 25 := .inr ⟨by omega, by omega⟩
  unfold kfit at h
  simp only at h
  split at h
  · simp only [Bool.and_eq_true] at h
    rcases split_mem (n.kids.length - 1) hx with hx | hx
    · exact vk_k (allK_mem h.1.2 hx) v2
    · exact vk_k (allK_mem h.2 hx) v3
  split at h
  · exact vk_st (allK_mem h hx)
  split at h
  · simp only [Bool.and_eq_true] at h
    exact vk_k (allK_mem h.2 hx) v25
  split at h
  · simp only [Bool.and_eq_true] at h
    rcases split_mem 1 hx with hx | hx
    · exact vk_ex (allK_mem h.1.1.2 hx)
    · rcases split_mem 1 hx with hx | hx
      · exact vk_k (allK_mem h.1.2 hx) v3
      · exact vk_el (allK_mem h.2 (by simpa using hx))
  split at h
  · simp only [Bool.and_eq_true] at h
    rcases split_mem (n.kids.length - 1) hx with hx | hx
    · exact vk_ex (allK_mem h.1.2 hx)
    · exact vk_k (allK_mem h.2 hx) v3
  split at h
  · exact vk_ex (allK_mem h hx)
  split at h
  · simp only [Bool.and_eq_true] at h
    exact vk_ex (allK_mem h.2 hx)
  split at h
  · simp only [Bool.and_eq_true] at h
    exact vk_ex (allK_mem h.2 hx)
  split at h
  · simp only [Bool.and_eq_true] at h
    exact vk_ex (allK_mem h.2 hx)
  · have := of_decide_eq_true h
    rw [List.length_eq_zero_iff.1 this] at hx
    cases hx
theorem kd_at {N : List Nd} (i : Nat) (hi : i < N.length) : kd N (i : Int) = N[i].kind := by simp [kd, hi]
theorem sum_le {l : List Nat} {x : Nat} (h : x ∈ l) : x ≤ l.sum := by
  induction l with
  | nil => cases h
  | cons a l ih =>
    rcases List.mem_cons.1 h with rfl | h
    · simp
    · have := ih h; simp; omega
theorem total_le (K : List (List Int)) (i : Nat) (h : i < K.length) : (K[i]).length ≤ total K := sum_le (List.mem_map.2 ⟨K[i], List.getElem_mem h, rfl⟩)
theorem cloop_of {N : List Nd} : ∀ (r : List Nd) (l : List Int) (i : Nat) (F : List Int), stk l i (r.map Nd.kids) = some F → (∀ n ∈ r, ffit n = true ∧ kfit N n = true) → cloop N l i r = some F
  | [], l, i, F, h, _ => by simpa [stk, cloop] using h
  | n :: r, l, i, F, h, hf => by
    obtain ⟨h1, h2, h3⟩ := stk_cons h
    obtain ⟨f1, f2⟩ := hf n (by simp)
    rw [cloop, cstep, if_pos ⟨h1, h2, f1, f2⟩]
    exact cloop_of r _ (i + 1) F h3 (fun m hm => hf m (by simp [hm]))
end Go.Proofs.YtjepkcebfojiaaaDoor
