import Derived.Test.YtfbkopjncmkbiaaGreatDoorSrZp
set_option linter.unusedVariables false
set_option linter.unusedSimpArgs false
namespace Go.Proofs.YtfbkopjncmkbiaaGreatDoor
open Go.ChangeShapes Go.WideShapes Go.ChangeAt Go.RowKit Go.Maps

def evl (L : List Int) : List (Int × Int) := L.map fun x => (1, x)
def lsN (l : List Int) (t : Nat) : List Int := if t = 0 then [] else [l.getD (t - 1) 0]
theorem lsN_len (l : List Int) (t : Nat) : (lsN l t).length ≤ 1 := by unfold lsN; split <;> simp
/-- SSARunInput's run, step by step. -/
def inQ (l : List Int) (k : Nat) : Ms :=
  if k = 0 then ⟨l, ⟨0, 0, 0, 0⟩, [], [], [], [], 0, 0, 0, 0, 0, 1, false, hp0⟩
  else if k = 2 + 3 * l.length then inp3 (lsN l l.length) (evl l) (k : Int)
  else if (k - 1) % 3 = 0 then inp0 (l.drop ((k - 1) / 3)) (lsN l ((k - 1) / 3)) (evl (l.take ((k - 1) / 3))) (k : Int)
  else if (k - 1) % 3 = 1 then inp1 (l.drop ((k - 1) / 3 + 1)) (l.getD ((k - 1) / 3) 0) (evl (l.take ((k - 1) / 3))) (k : Int)
  else inp2 (l.drop ((k - 1) / 3 + 1)) (l.getD ((k - 1) / 3) 0) (evl (l.take ((k - 1) / 3 + 1))) (k : Int)
theorem inQ_a (l : List Int) (t : Nat) (ht : t ≤ l.length) : inQ l (3 * t + 1) = inp0 (l.drop t) (lsN l t) (evl (l.take t)) (((3 * t + 1 : Nat) : Int)) := by
  unfold inQ
  rw [if_neg (by omega), if_neg (by omega), if_pos (by omega), show (3 * t + 1 - 1) / 3 = t by omega]
theorem inQ_b (l : List Int) (t : Nat) (ht : t < l.length) : inQ l (3 * t + 2) = inp1 (l.drop (t + 1)) (l.getD t 0) (evl (l.take t)) (((3 * t + 2 : Nat) : Int)) := by
  unfold inQ
  rw [if_neg (by omega), if_neg (by omega), if_neg (by omega), if_pos (by omega), show (3 * t + 2 - 1) / 3 = t by omega]
theorem inQ_c (l : List Int) (t : Nat) (ht : t < l.length) : inQ l (3 * t + 3) = inp2 (l.drop (t + 1)) (l.getD t 0) (evl (l.take (t + 1))) (((3 * t + 3 : Nat) : Int)) := by
  unfold inQ
  rw [if_neg (by omega), if_neg (by omega), if_neg (by omega), if_neg (by omega), show (3 * t + 3 - 1) / 3 = t by omega]
theorem inQ_e (l : List Int) : inQ l (2 + 3 * l.length) = inp3 (lsN l l.length) (evl l) (((2 + 3 * l.length : Nat) : Int)) := by
  unfold inQ
  rw [if_neg (by omega), if_pos rfl]
theorem evl_more {l : List Int} {t : Nat} (ht : t < l.length) : evl (l.take (t + 1)) = evl (l.take t) ++ [(1, l.getD t 0)] := by
  rw [← List.take_append_getElem ht]
  unfold evl
  rw [List.map_append]
  congr 1
  simp [ht]
theorem inQ_steps (l : List Int) (hl : l.length ≤ 1000) : ∀ k, k < 2 + 3 * l.length → StepsTo [inF] (inQ l k) true (inQ l (k + 1)) := by
  intro k hk
  by_cases h0 : k = 0
  · subst h0
    have := inQ_a l 0 (Nat.zero_le _)
    rw [show 3 * 0 + 1 = 0 + 1 by omega] at this
    rw [this]
    exact in_first l
  · have hc : ∃ t, k = 3 * t + 1 ∨ k = 3 * t + 2 ∨ k = 3 * t + 3 := ⟨(k - 1) / 3, by omega⟩
    obtain ⟨t, rfl | rfl | rfl⟩ := hc
    · by_cases ht : t < l.length
      · rw [inQ_a l t (by omega), show 3 * t + 1 + 1 = 3 * t + 2 by omega, inQ_b l t ht, show (((3 * t + 2 : Nat) : Int)) = ((3 * t + 1 : Nat) : Int) + 1 by omega, List.drop_eq_getElem_cons ht]
        have e : l[t] = l.getD t 0 := by simp [ht]
        rw [e]
        exact in_take _ _ _ _ _ (lsN_len l t) (by omega)
      · have e : t = l.length := by omega
        subst e
        rw [inQ_a l _ (Nat.le_refl _), show 3 * l.length + 1 + 1 = 2 + 3 * l.length by omega, inQ_e, show (((2 + 3 * l.length : Nat) : Int)) = ((3 * l.length + 1 : Nat) : Int) + 1 by omega, List.drop_eq_nil_of_le (Nat.le_refl _), List.take_of_length_le (Nat.le_refl _)]
        exact in_none _ _ _ (lsN_len l _) (by omega)
    · have ht : t < l.length := by omega
      rw [inQ_b l t ht, show 3 * t + 2 + 1 = 3 * t + 3 by omega, inQ_c l t ht, show (((3 * t + 3 : Nat) : Int)) = ((3 * t + 2 : Nat) : Int) + 1 by omega, evl_more ht]
      exact in_tell _ _ _ _ (by simp [evl]; omega) (by omega)
    · have ht : t < l.length := by omega
      rw [inQ_c l t ht, show 3 * t + 3 + 1 = 3 * (t + 1) + 1 by omega, inQ_a l (t + 1) (by omega), show (((3 * (t + 1) + 1 : Nat) : Int)) = ((3 * t + 3 : Nat) : Int) + 1 by omega]
      have e : lsN l (t + 1) = [l.getD t 0] := by simp [lsN]
      rw [e]
      exact in_jump _ _ _ _ (by omega)
theorem inQ_end (l : List Int) : StepsTo [inF] (inQ l (2 + 3 * l.length)) false (inQ l (2 + 3 * l.length)) := by
  rw [inQ_e]
  exact in_end _ _ _
end Go.Proofs.YtfbkopjncmkbiaaGreatDoor
