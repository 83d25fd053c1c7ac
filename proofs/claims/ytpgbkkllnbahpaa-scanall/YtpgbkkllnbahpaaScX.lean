import Derived.Test.YtpgbkkllnbahpaaScW
set_option linter.unusedVariables false
set_option linter.unusedSimpArgs false
namespace Go.Proofs.Ytpgbkkllnbahpaa
open Go.ChangeShapes Go.WideShapes Go.ChangeAt Go.RowKit Go.Maps

theorem up_iff {a b : Iv} : upI a b = true ↔ a.2.1 < b.2.1 ∨ (a.2.1 = b.2.1 ∧ a.1 < b.1) := by simp [upI]
theorem up_trans (a b c : Iv) (h1 : upI a b = true) (h2 : upI b c = true) : upI a c = true := by
  rw [up_iff] at *
  omega
theorem up_total {a b : Iv} (h : a.1 ≠ b.1) (hf : upI a b = false) : upI b a = true := by
  have : ¬ upI a b = true := by rw [hf]; simp
  rw [up_iff] at this ⊢
  omega
/-- A list that is put in order. -/
structure Srt (S : List Iv) : Prop where
  ok : ∀ x ∈ S, okI x = true
  up : S.Pairwise (fun a b => upI a b = true)
  once : (S.map (·.1)).Nodup
  fit : ∀ x ∈ S, FitV x
theorem Srt.good {S : List Iv} (h : Srt S) : gdB S = true := by
  have h1 : fmP S = true := List.all_eq_true.2 h.ok
  have h2 : rsP S = true := rsP_of fun i hi => List.pairwise_iff_getElem.1 h.up i (i + 1) (by omega) hi (by omega)
  have h3 : twP S = false := by simp [twP, h.once]
  simp [gdB, h1, h2, h3]
theorem gd_srt {S : List Iv} (h : gdB S = true) (hf : ∀ x ∈ S, FitV x) : Srt S := by
  simp [gdB] at h
  obtain ⟨⟨h1, h2⟩, h3⟩ := h
  refine ⟨fun x hx => List.all_eq_true.1 h1 x hx, ?_, by simpa [twP] using h3, hf⟩
  have hadj : ∀ i (hi : i + 1 < S.length), upI S[i] S[i + 1] = true := fun i hi => by
    unfold rsP at h2
    have := List.all_eq_true.1 h2 i (List.mem_range.2 (by omega))
    rwa [getD_at (by omega), getD_at hi] at this
  rw [List.pairwise_iff_getElem]
  intro i j hi hj hij
  obtain ⟨d, rfl⟩ : ∃ d, j = i + 1 + d := ⟨j - i - 1, by omega⟩
  clear hij
  induction d with
  | zero => exact hadj i hj
  | succ d ih => exact up_trans _ _ _ (ih (by omega)) (hadj (i + 1 + d) hj)
theorem Srt.g1 {S : List Iv} (h : Srt S) : G1 S (grt S + 1).toNat := by
  refine ⟨fun x hx => ?_, fun x hx => ?_, h.up.imp fun {a b} q => ?_, h.once⟩
  · have := grt_mem hx
    have h1 := h.ok x hx
    simp [okI] at h1
    omega
  · have h1 := h.ok x hx
    simp [okI] at h1
    exact h1.2
  · rw [up_iff] at q
    omega
/-- x into a list at place j. -/
def insJ (S : List Iv) (j : Nat) (x : Iv) : List Iv := S.take j ++ x :: S.drop j
theorem insJ_len {S : List Iv} {j : Nat} (h : j ≤ S.length) (x : Iv) : (insJ S j x).length = S.length + 1 := by simp [insJ]; omega
theorem insJ_mem {S : List Iv} {j : Nat} {x y : Iv} : y ∈ insJ S j x ↔ y = x ∨ y ∈ S := by
  unfold insJ
  rw [List.mem_append, List.mem_cons]
  constructor
  · rintro (h | h | h)
    · exact .inr (List.mem_of_mem_take h)
    · exact .inl h
    · exact .inr (List.mem_of_mem_drop h)
  · rintro (h | h)
    · exact .inr (.inl h)
    · rw [← List.take_append_drop j S] at h
      rcases List.mem_append.1 h with h | h
      · exact .inl h
      · exact .inr (.inr h)
theorem insJ_at {S : List Iv} {j : Nat} (h : j ≤ S.length) (x : Iv) : (insJ S j x)[j]'(by rw [insJ_len h]; omega) = x := by
  unfold insJ
  rw [List.getElem_append_right (by simp; omega)]
  simp [Nat.min_eq_left h]
theorem insJ_lt {S : List Iv} {j : Nat} (h : j + 1 ≤ S.length) (x : Iv) : (insJ S (j + 1) x)[j]'(by rw [insJ_len h]; omega) = S[j]'(by omega) := by
  unfold insJ
  rw [List.getElem_append_left (by simp; omega)]
  simp
theorem insJ_swap {S : List Iv} {j : Nat} (h : j + 1 ≤ S.length) (x : Iv) : ((insJ S (j + 1) x).set j x).set (j + 1) (S[j]'(by omega)) = insJ S j x := by
  have hl : (S.take j).length = j := by simp; omega
  have e : insJ S (j + 1) x = S.take j ++ S[j]'(by omega) :: x :: S.drop (j + 1) := by
    unfold insJ
    rw [← List.take_append_getElem (show j < S.length by omega), List.append_assoc]
    rfl
  have e2 : insJ S j x = S.take j ++ x :: S[j]'(by omega) :: S.drop (j + 1) := by
    unfold insJ
    rw [List.drop_eq_getElem_cons (show j < S.length by omega)]
  rw [e, e2, List.set_append_right _ _ (by omega), hl, Nat.sub_self, List.set_cons_zero, List.set_append_right _ _ (by omega), hl, show j + 1 - j = 1 by omega, List.set_cons_succ, List.set_cons_zero]
theorem Srt.ins {S : List Iv} (h : Srt S) {x : Iv} (hx : okI x = true) (hf : FitV x) (hn : x.1 ∉ S.map (·.1)) {j : Nat} (hj : j ≤ S.length) (h1 : ∀ i (hi : i < S.length), j ≤ i → upI x S[i] = true) (h2 : ∀ hp : 0 < j, upI x (S[j - 1]'(by omega)) = false) : Srt (insJ S j x) := by
  refine ⟨fun y hy => ?_, ?_, ?_, fun y hy => ?_⟩
  · rcases insJ_mem.1 hy with rfl | hy
    · exact hx
    · exact h.ok y hy
  · unfold insJ
    have hu := h.up
    rw [← List.take_append_drop j S, List.pairwise_append] at hu
    rw [List.pairwise_append]
    refine ⟨hu.1, List.pairwise_cons.2 ⟨fun y hy => ?_, hu.2.1⟩, fun y hy z hz => ?_⟩
    · obtain ⟨i, hi, rfl⟩ := List.getElem_of_mem hy
      rw [List.getElem_drop]
      exact h1 _ _ (by omega)
    · have hyx : upI y x = true := by
        obtain ⟨i, hi, rfl⟩ := List.getElem_of_mem hy
        simp at hi
        have hp : 0 < j := by omega
        have hne : x.1 ≠ (S[j - 1]'(by omega)).1 := fun e => hn (List.mem_map.2 ⟨_, List.getElem_mem _, e.symm⟩)
        have hl := up_total hne (h2 hp)
        rw [List.getElem_take]
        by_cases e : i = j - 1
        · subst e; exact hl
        · exact up_trans _ _ _ (List.pairwise_iff_getElem.1 h.up i (j - 1) (by omega) (by omega) (by omega)) hl
      rcases List.mem_cons.1 hz with rfl | hz
      · exact hyx
      · exact hu.2.2 y hy z hz
  · unfold insJ
    have ho := h.once
    rw [← List.take_append_drop j S, List.map_append] at ho hn
    rw [List.map_append, List.map_cons]
    obtain ⟨o1, o2, o3⟩ := List.nodup_append.1 ho
    rw [List.mem_append] at hn
    refine List.nodup_append.2 ⟨o1, List.nodup_cons.2 ⟨fun q => hn (.inr q), o2⟩, fun a ha b hb => ?_⟩
    rcases List.mem_cons.1 hb with rfl | hb
    · exact fun e => hn (.inl (e ▸ ha))
    · exact o3 a ha b hb
  · rcases insJ_mem.1 hy with rfl | hy
    · exact hf
    · exact h.fit y hy
end Go.Proofs.Ytpgbkkllnbahpaa
