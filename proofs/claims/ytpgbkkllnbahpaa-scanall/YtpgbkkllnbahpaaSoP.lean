import Derived.Test.YtpgbkkllnbahpaaSoO
import Derived.Test.YtpgbkkllnbahpaaSoK
import Derived.Test.YtpgbkkllnbahpaaSoL
set_option linter.unusedVariables false
set_option linter.unusedSimpArgs false
namespace Go.Proofs.Ytpgbkkllnbahpaa
open Go.ChangeShapes Go.WideShapes Go.ChangeAt Go.RowKit Go.Maps

theorem take_pl (s : SS) (x : Iv) : (s.take x).pl.length = s.pl.length := by
  unfold SS.take
  split <;> simp
theorem step_pl (s : SS) (x : Iv) : (s.step x).pl.length = s.pl.length := by
  unfold SS.step
  rw [take_pl]; rfl
theorem fold_pl (L : List Iv) : ∀ s : SS, (L.foldl SS.step s).pl.length = s.pl.length := by
  induction L with
  | nil => intro s; rfl
  | cons x L ih => intro s; rw [List.foldl_cons, ih, step_pl]
theorem scn_pl (L : List Iv) (r : Nat) : (scn L r).pl.length = (grt L + 1).toNat := by
  unfold scn scnN
  rw [fold_pl]; simp [SS.init]
theorem grt_le {L : List Iv} {m : Int} (h : ∀ x ∈ L, x.1 ≤ m) (hm : -1 ≤ m) : grt L ≤ m := by
  have : ∀ (L : List Iv) (a : Int), a ≤ m → (∀ x ∈ L, x.1 ≤ m) → L.foldl (fun m x => max m x.1) a ≤ m := by
    intro L
    induction L with
    | nil => intro a ha _; exact ha
    | cons x L ih =>
      intro a ha hx
      rw [List.foldl_cons]
      refine ih _ ?_ fun y hy => hx y (List.mem_cons_of_mem _ hy)
      have := hx x List.mem_cons_self
      omega
  exact this L _ hm h
theorem far_len {L : List Iv} (hf : farP L = false) (hg : gdB L = true) (r : Nat) : (scn L r).pl.length ≤ 6000 := by
  rw [scn_pl]
  have h1 : ∀ x ∈ L, x.1 ≤ 5000 := fun x hx => by
    have q1 : fmP L = true := by unfold gdB at hg; simp at hg; exact hg.1.1
    have q2 := List.all_eq_true.1 q1 x hx
    have q3 := List.any_eq_false.1 hf x hx
    simp [okI] at q2 q3
    omega
  have := grt_le h1 (by omega)
  omega
/-- Two answers of one list are the same, and short. -/
theorem ans_same6 {w1 w1' w2 w2' : World} {L : List Iv} {regs : Int} {v1 v2 : Value} {n1 n2 e1 e2 : Int} (hf : farP L = false) (h1 : ScAns w1 w1' L regs v1 n1 e1) (h2 : ScAns w2 w2' L regs v2 n2 e2) : n1 = n2 ∧ e1 = e2 ∧ ∃ P : List Lc, P.length ≤ 6000 ∧ Row w1' w1.heap.size 37 2 v1 (P.map lc) ∧ Row w2' w2.heap.size 37 2 v2 (P.map lc) := by
  by_cases hr : regs < 1 ∨ 8 < regs
  · obtain ⟨a1, a2, a3⟩ := h1.bad hr
    obtain ⟨b1, b2, b3⟩ := h2.bad hr
    refine ⟨by rw [a2, b2], by rw [a3, b3], [], by simp, ?_, ?_⟩
    · rw [a1]; exact Row.nil _ _ _ _
    · rw [b1]; exact Row.nil _ _ _ _
  · cases hg : gdB L with
    | false =>
      obtain ⟨a1, a2, a3⟩ := h1.wrong hr hg
      obtain ⟨b1, b2, b3⟩ := h2.wrong hr hg
      refine ⟨by rw [a2, b2], by rw [a3, b3], [], by simp, ?_, ?_⟩
      · rw [a1]; exact Row.nil _ _ _ _
      · rw [b1]; exact Row.nil _ _ _ _
    | true =>
      obtain ⟨a1, a2, a3⟩ := h1.good hr hg
      obtain ⟨b1, b2, b3⟩ := h2.good hr hg
      exact ⟨by rw [a2, b2], by rw [a3, b3], _, far_len hf hg _, a1, b1⟩
/-- The list with the last places of its first j entries turned round. -/
def tuL (L : List Iv) (j : Nat) : List Iv := (List.range L.length).map fun i => if i < j then ((L.getD i m71).1, (L.getD i m71).2.1, (L.getD (L.length - 1 - i) m71).2.2) else L.getD i m71
theorem tu_len (L : List Iv) (j : Nat) : (tuL L j).length = L.length := by simp [tuL]
theorem tu_zero (L : List Iv) : tuL L 0 = L := by
  refine List.ext_getElem (tu_len _ _) fun i h1 h2 => ?_
  simp [tuL, h2]
theorem tu_step {L : List Iv} {j : Nat} (h : j < L.length) : (tuL L j).set j ((L.getD j m71).1, (L.getD j m71).2.1, (L.getD (L.length - 1 - j) m71).2.2) = tuL L (j + 1) := by
  refine List.ext_getElem (by simp [tu_len]) fun i h1 h2 => ?_
  have hi : i < L.length := by rw [tu_len] at h2; exact h2
  rw [List.getElem_set]
  by_cases e : j = i
  · subst e
    simp [tuL]
  · rw [if_neg e]
    by_cases q : i < j
    · simp [tuL, q, show i < j + 1 by omega]
    · simp [tuL, q, show ¬ i < j + 1 by omega]
theorem tu_at {L : List Iv} {j : Nat} (h : j < L.length) : (tuL L j)[j]'(by rw [tu_len]; exact h) = L[j] := by simp [tuL, h]
theorem tu_far (L : List Iv) (j : Nat) : farP (tuL L j) = farP L := by
  have e : ∀ M : List Iv, farP M = (M.map (·.1)).any fun r => decide (5000 < r) && decide (r < 262144) := fun M => by simp [farP, List.any_map, Function.comp_def]
  rw [e, e]
  congr 1
  refine List.ext_getElem (by simp [tu_len]) fun i h1 h2 => ?_
  have hi : i < L.length := by simpa using h2
  simp only [List.getElem_map, tuL, List.getElem_range]
  split <;> simp [hi]
theorem tu_fit {L : List Iv} (h : ∀ x ∈ L, FitV x) (j : Nat) : ∀ x ∈ tuL L j, FitV x := by
  intro x hx
  obtain ⟨i, hi, rfl⟩ := List.mem_map.1 hx
  have hi : i < L.length := by simpa using hi
  have hl : L.length - 1 - i < L.length := by omega
  have h1 := h _ (List.getElem_mem hi)
  have h2 := h _ (List.getElem_mem hl)
  simp only [List.getD_eq_getElem?_getD, List.getElem?_eq_getElem hi, List.getElem?_eq_getElem hl, Option.getD_some]
  split
  · exact ⟨h1.r, h1.f, h2.t⟩
  · exact h1
end Go.Proofs.Ytpgbkkllnbahpaa
