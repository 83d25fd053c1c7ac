import Derived.Test.YtfbkopjncmkbiaaGreatDoorSrZp
set_option linter.unusedVariables false
set_option linter.unusedSimpArgs false
namespace Go.Proofs.YtfbkopjncmkbiaaGreatDoor
open Go.ChangeShapes Go.WideShapes Go.ChangeAt Go.RowKit Go.Maps

/-- SSARunTurns' program. -/
def tuF (a b m : Int) : Fu := ⟨⟨#[109, 97, 105, 110]⟩, [], 0, [⟨1, 1, a, []⟩, ⟨1, 1, b, []⟩, ⟨1, 1, 0, []⟩, ⟨1, 1, 1, []⟩, ⟨1, 1, m, []⟩, ⟨32, 1, 0, [0, 6]⟩, ⟨32, 1, 0, [1, 5]⟩, ⟨32, 1, 0, [2, 10]⟩, ⟨15, 2, 0, [7, 4]⟩, ⟨26, 0, 0, [5]⟩, ⟨2, 1, 0, [7, 3]⟩], [⟨[], [0, 1, 2, 3, 4], 1, -1, [1], []⟩, ⟨[5, 6, 7], [8], 2, 8, [2, 3], [0, 2]⟩, ⟨[], [9, 10], 1, -1, [1], [1]⟩, ⟨[], [], 3, -1, [], [1]⟩]⟩
theorem tu_check (a b m : Int) : checkP [tuF a b m] 0 = 0 := by kernel_rfl
theorem tu_few (a b m : Int) : ∀ f ∈ [tuF a b m], FewF f := by
  intro f hf
  simp only [List.mem_cons, List.not_mem_nil, or_false] at hf
  subst hf
  exact ⟨Nat.le_of_ble_eq_true (by kernel_rfl), Nat.le_of_ble_eq_true (by kernel_rfl)⟩
theorem tu_fewC (a b m : Int) : ∀ f ∈ [tuF a b m], FewC f := by
  intro f hf
  simp only [List.mem_cons, List.not_mem_nil, or_false] at hf
  subst hf
  refine ⟨by simp [tuF], by simp [tuF], by simp [tuF], by simp [tuF], by simp [tuF]⟩
theorem tu_few10 (a b m : Int) : Few10 [tuF a b m] := by
  constructor <;> (intro f hf; simp only [List.mem_cons, List.not_mem_nil, or_false] at hf; subst hf; simp [tuF])
def tuM (bk bh : Nat) (N P : List Int) (E : List (Int × Int)) (s : Int) : Ms := ⟨[], ⟨0, bk, bh, 0⟩, [], N, P, E, 0, 0, 0, s, 0, 1, false, hp0⟩
def LN (a b m p q i c z e : Int) : List Int := [a, b, 0, 1, m, p, q, i, c, z, e]
theorem tu_begin (a b m : Int) : (Ms.fresh []).begin [tuF a b m] 0 [] = some (tuM 0 0 [] [] [] 0) := by rfl
theorem tu_i0 (a b m : Int) : StepsTo [tuF a b m] (tuM 0 0 [] [] [] 0) true (tuM 0 1 [a] [] [] 1) := StepsTo.at _ _ 0 rfl (by kernel_rfl) (by kernel_rfl) rfl rfl (by kernel_rfl) (by decide) rfl rfl
theorem tu_i1 (a b m : Int) : StepsTo [tuF a b m] (tuM 0 1 [a] [] [] 1) true (tuM 0 2 [a, b] [] [] 2) := StepsTo.at _ _ 1 rfl (by kernel_rfl) (by kernel_rfl) rfl rfl (by kernel_rfl) (by decide) rfl rfl
theorem tu_i2 (a b m : Int) : StepsTo [tuF a b m] (tuM 0 2 [a, b] [] [] 2) true (tuM 0 3 [a, b, 0] [] [] 3) := StepsTo.at _ _ 2 rfl (by kernel_rfl) (by kernel_rfl) rfl rfl (by kernel_rfl) (by decide) rfl rfl
theorem tu_i3 (a b m : Int) : StepsTo [tuF a b m] (tuM 0 3 [a, b, 0] [] [] 3) true (tuM 0 4 [a, b, 0, 1] [] [] 4) := StepsTo.at _ _ 3 rfl (by kernel_rfl) (by kernel_rfl) rfl rfl (by kernel_rfl) (by decide) rfl rfl
theorem tu_i4 (a b m : Int) : StepsTo [tuF a b m] (tuM 0 4 [a, b, 0, 1] [] [] 4) true (tuM 0 5 [a, b, 0, 1, m] [] [] 5) := StepsTo.at _ _ 4 rfl (by kernel_rfl) (by kernel_rfl) rfl rfl (by kernel_rfl) (by decide) rfl rfl
theorem tu_i5 (a b m : Int) : StepsTo [tuF a b m] (tuM 0 5 [a, b, 0, 1, m] [] [] 5) true (tuM 1 0 [a, b, 0, 1, m] [a, b, 0] [] 6) := StepsTo.at _ _ 5 rfl (by kernel_rfl) (by kernel_rfl) rfl rfl (by kernel_rfl) (by decide) rfl rfl
/-- The first turn. -/
theorem tu_s0 (a b m : Int) : StepsTo [tuF a b m] (tuM 1 0 [a, b, 0, 1, m] [a, b, 0] [] 6) true (tuM 1 1 [a, b, 0, 1, m, a] [a, b, 0] [] 7) := StepsTo.at _ _ 6 rfl (by kernel_rfl) (by kernel_rfl) rfl rfl (by kernel_rfl) (by decide) rfl rfl
theorem tu_s1 (a b m : Int) : StepsTo [tuF a b m] (tuM 1 1 [a, b, 0, 1, m, a] [a, b, 0] [] 7) true (tuM 1 2 [a, b, 0, 1, m, a, b] [a, b, 0] [] 8) := StepsTo.at _ _ 7 rfl (by kernel_rfl) (by kernel_rfl) rfl rfl (by kernel_rfl) (by decide) rfl rfl
theorem tu_s2 (a b m : Int) : StepsTo [tuF a b m] (tuM 1 2 [a, b, 0, 1, m, a, b] [a, b, 0] [] 8) true (tuM 1 3 [a, b, 0, 1, m, a, b, 0] [a, b, 0] [] 9) := StepsTo.at _ _ 8 rfl (by kernel_rfl) (by kernel_rfl) rfl rfl (by kernel_rfl) (by decide) rfl rfl
theorem tu_s3 (a b m : Int) : StepsTo [tuF a b m] (tuM 1 3 [a, b, 0, 1, m, a, b, 0] [a, b, 0] [] 9) true (tuM 1 4 [a, b, 0, 1, m, a, b, 0, doIW 15 0 m] [a, b, 0] [] 10) := StepsTo.at _ _ 9 rfl (by kernel_rfl) (by kernel_rfl) rfl rfl (by kernel_rfl) (by decide) rfl rfl
theorem tu_s4 (a b m : Int) : StepsTo [tuF a b m] (tuM 1 4 [a, b, 0, 1, m, a, b, 0, 1] [a, b, 0] [] 10) true (tuM 2 0 [a, b, 0, 1, m, a, b, 0, 1] [] [] 11) := StepsTo.at _ _ 10 rfl (by kernel_rfl) (by kernel_rfl) rfl rfl (by kernel_rfl) (by decide) rfl rfl
theorem tu_s4n (a b m : Int) : StepsTo [tuF a b m] (tuM 1 4 [a, b, 0, 1, m, a, b, 0, 0] [a, b, 0] [] 10) true (tuM 3 0 [a, b, 0, 1, m, a, b, 0, 0] [] [] 11) := StepsTo.at _ _ 10 rfl (by kernel_rfl) (by kernel_rfl) rfl rfl (by kernel_rfl) (by decide) rfl rfl
theorem tu_s5 (a b m : Int) : StepsTo [tuF a b m] (tuM 2 0 [a, b, 0, 1, m, a, b, 0, 1] [] [] 11) true (tuM 2 1 [a, b, 0, 1, m, a, b, 0, 1] [] [(1, a)] 12) := StepsTo.at _ _ 11 rfl (by kernel_rfl) (by kernel_rfl) rfl rfl (by kernel_rfl) (by decide) rfl rfl
theorem tu_s6 (a b m : Int) : StepsTo [tuF a b m] (tuM 2 1 [a, b, 0, 1, m, a, b, 0, 1] [] [(1, a)] 12) true (tuM 2 2 (LN a b m a b 0 1 0 1) [] [(1, a)] 13) := StepsTo.at _ _ 12 rfl (by kernel_rfl) (by kernel_rfl) rfl rfl (by kernel_rfl) (by decide) rfl rfl
/-- The others. -/
theorem tu_g0 (a b m p q i c z e p' q' t : Int) (E : List (Int × Int)) (s : Int) (hs : 0 ≤ s ∧ s ≤ 1000000) : StepsTo [tuF a b m] (tuM 1 0 (LN a b m p' q' i c z e) [p, q, t] E s) true (tuM 1 1 (LN a b m p q' i c z e) [p, q, t] E (s + 1)) := StepsTo.at _ _ s rfl (by kernel_rfl) (by kernel_rfl) rfl rfl (by kernel_rfl) (by omega) rfl rfl
theorem tu_g1 (a b m p q i c z e q' t : Int) (E : List (Int × Int)) (s : Int) (hs : 0 ≤ s ∧ s ≤ 1000000) : StepsTo [tuF a b m] (tuM 1 1 (LN a b m p q' i c z e) [p, q, t] E s) true (tuM 1 2 (LN a b m p q i c z e) [p, q, t] E (s + 1)) := StepsTo.at _ _ s rfl (by kernel_rfl) (by kernel_rfl) rfl rfl (by kernel_rfl) (by omega) rfl rfl
theorem tu_g2 (a b m p q i c z e t : Int) (E : List (Int × Int)) (s : Int) (hs : 0 ≤ s ∧ s ≤ 1000000) : StepsTo [tuF a b m] (tuM 1 2 (LN a b m p q i c z e) [p, q, t] E s) true (tuM 1 3 (LN a b m p q t c z e) [p, q, t] E (s + 1)) := StepsTo.at _ _ s rfl (by kernel_rfl) (by kernel_rfl) rfl rfl (by kernel_rfl) (by omega) rfl rfl
theorem tu_g3 (a b m p q c z e t : Int) (P : List Int) (E : List (Int × Int)) (s : Int) (hs : 0 ≤ s ∧ s ≤ 1000000) : StepsTo [tuF a b m] (tuM 1 3 (LN a b m p q t c z e) P E s) true (tuM 1 4 (LN a b m p q t (doIW 15 t m) z e) P E (s + 1)) := StepsTo.at _ _ s rfl (by kernel_rfl) (by kernel_rfl) rfl rfl (by kernel_rfl) (by omega) rfl rfl
theorem tu_g4 (a b m p q z e t : Int) (P : List Int) (E : List (Int × Int)) (s : Int) (hs : 0 ≤ s ∧ s ≤ 1000000) : StepsTo [tuF a b m] (tuM 1 4 (LN a b m p q t 1 z e) P E s) true (tuM 2 0 (LN a b m p q t 1 z e) [] E (s + 1)) := StepsTo.at _ _ s rfl (by kernel_rfl) (by kernel_rfl) rfl rfl (by kernel_rfl) (by omega) rfl rfl
theorem tu_g4n (a b m p q z e t : Int) (P : List Int) (E : List (Int × Int)) (s : Int) (hs : 0 ≤ s ∧ s ≤ 1000000) : StepsTo [tuF a b m] (tuM 1 4 (LN a b m p q t 0 z e) P E s) true (tuM 3 0 (LN a b m p q t 0 z e) [] E (s + 1)) := StepsTo.at _ _ s rfl (by kernel_rfl) (by kernel_rfl) rfl rfl (by kernel_rfl) (by omega) rfl rfl
theorem tu_g5 (a b m p q c z e t : Int) (E : List (Int × Int)) (s : Int) (hE : E.length ≤ 1000) (hs : 0 ≤ s ∧ s ≤ 1000000) : StepsTo [tuF a b m] (tuM 2 0 (LN a b m p q t c z e) [] E s) true (tuM 2 1 (LN a b m p q t c z e) [] (E ++ [(1, p)]) (s + 1)) := by
  refine StepsTo.at _ _ s rfl ?_ (by kernel_rfl) rfl rfl (by kernel_rfl) (by omega) rfl rfl
  have ht : ∀ M : Ms, M.ev = E → M.tell 1 p = { M with ev := E ++ [(1, p)] } := fun M hM => by
    unfold Ms.tell
    rw [if_neg (by rw [hM]; omega), hM]
  show some (((tuM 2 0 (LN a b m p q t c z e) [] E s).on.tell 1 p).after 9 none) = _
  rw [ht _ rfl]
  rfl
theorem tu_g6 (a b m p q c z e t : Int) (E : List (Int × Int)) (s : Int) (hs : 0 ≤ s ∧ s ≤ 1000000) : StepsTo [tuF a b m] (tuM 2 1 (LN a b m p q t c z e) [] E s) true (tuM 2 2 (LN a b m p q t c z (doIW 2 t 1)) [] E (s + 1)) := StepsTo.at _ _ s rfl (by kernel_rfl) (by kernel_rfl) rfl rfl (by kernel_rfl) (by omega) rfl rfl
theorem tu_g7 (a b m p q c z e t : Int) (E : List (Int × Int)) (s : Int) (hs : 0 ≤ s ∧ s ≤ 1000000) : StepsTo [tuF a b m] (tuM 2 2 (LN a b m p q t c z e) [] E s) true (tuM 1 0 (LN a b m p q t c z e) [q, p, e] E (s + 1)) := StepsTo.at _ _ s rfl (by kernel_rfl) (by kernel_rfl) rfl rfl (by kernel_rfl) (by omega) rfl rfl
/-- The end. -/
def tuE (N : List Int) (E : List (Int × Int)) (s : Int) : Ms := ⟨[], ⟨0, 3, 1, 0⟩, [], N, [], E, 1, 0, 0, s, 0, 1, false, hp0⟩
theorem tu_e (a b m : Int) (N : List Int) (E : List (Int × Int)) (s : Int) (hN : N.length ≤ 100) (hs : 0 ≤ s ∧ s ≤ 1000000) : StepsTo [tuF a b m] (tuM 3 0 N [] E s) true (tuE N E (s + 1)) := StepsTo.at _ _ s rfl (by kernel_rfl) (by show Nat.ble N.length _ = true; exact Nat.ble_eq_true_of_le (by omega)) rfl rfl (by kernel_rfl) (by omega) rfl rfl
theorem tu_over (a b m : Int) (N : List Int) (E : List (Int × Int)) (s : Int) : StepsTo [tuF a b m] (tuE N E s) false (tuE N E s) := .over rfl
end Go.Proofs.YtfbkopjncmkbiaaGreatDoor
