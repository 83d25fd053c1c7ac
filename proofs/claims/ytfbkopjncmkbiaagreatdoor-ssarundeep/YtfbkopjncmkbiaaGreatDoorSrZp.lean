import Derived.Test.YtfbkopjncmkbiaaGreatDoorJbk
set_option linter.unusedVariables false
set_option linter.unusedSimpArgs false
namespace Go.Proofs.YtfbkopjncmkbiaaGreatDoor
open Go.ChangeShapes Go.WideShapes Go.ChangeAt Go.RowKit Go.Maps

/-- SSARunInput's program: all of the input is told. -/
def inF : Fu := ⟨⟨#[109, 97, 105, 110]⟩, [], 0, [⟨24, 1, 0, []⟩, ⟨26, 0, 0, [0]⟩], [⟨[], [], 1, -1, [1], []⟩, ⟨[], [0, 1], 1, -1, [1], [0, 1]⟩]⟩
theorem in_check : checkP [inF] 0 = 0 := by decide +kernel
theorem in_few : ∀ f ∈ [inF], FewF f := by
  intro f hf
  simp only [List.mem_cons, List.not_mem_nil, or_false] at hf
  subst hf
  exact ⟨by decide, by decide⟩
theorem in_fewC : ∀ f ∈ [inF], FewC f := by
  intro f hf
  simp only [List.mem_cons, List.not_mem_nil, or_false] at hf
  subst hf
  exact ⟨by decide, by decide, by decide, by decide, by decide⟩
theorem in_few10 : Few10 [inF] := by
  constructor <;> (intro f hf; simp only [List.mem_cons, List.not_mem_nil, or_false] at hf; subst hf; decide)
def hp0 : Hpd := ⟨0, fun _ => none, fun _ => 0, 0⟩
/-- Ahead of a take, ahead of the telling, ahead of the jump. -/
def inp0 (I N : List Int) (E : List (Int × Int)) (s : Int) : Ms := ⟨I, ⟨0, 1, 0, 0⟩, [], N, [], E, 0, 0, 0, s, 0, 1, false, hp0⟩
def inp1 (I : List Int) (x : Int) (E : List (Int × Int)) (s : Int) : Ms := ⟨I, ⟨0, 1, 1, 0⟩, [], [x], [], E, 0, 0, 0, s, 0, 1, false, hp0⟩
def inp2 (I : List Int) (x : Int) (E : List (Int × Int)) (s : Int) : Ms := ⟨I, ⟨0, 1, 2, 0⟩, [], [x], [], E, 0, 0, 0, s, 0, 1, false, hp0⟩
def inp3 (N : List Int) (E : List (Int × Int)) (s : Int) : Ms := ⟨[], ⟨0, 1, 1, 0⟩, [], N, [], E, 2, 5, 0, s, 0, 1, false, hp0⟩
theorem in_begin (I : List Int) : (Ms.fresh I).begin [inF] 0 [] = some ⟨I, ⟨0, 0, 0, 0⟩, [], [], [], [], 0, 0, 0, 0, 0, 1, false, hp0⟩ := by rfl
theorem in_first (I : List Int) : StepsTo [inF] ⟨I, ⟨0, 0, 0, 0⟩, [], [], [], [], 0, 0, 0, 0, 0, 1, false, hp0⟩ true (inp0 I [] [] 1) :=
  StepsTo.at _ _ 0 rfl rfl rfl rfl rfl rfl (by decide) rfl rfl
theorem in_take (x : Int) (I N : List Int) (E : List (Int × Int)) (s : Int) (hN : N.length ≤ 1) (hs : 0 ≤ s ∧ s ≤ 1000000) : StepsTo [inF] (inp0 (x :: I) N E s) true (inp1 I x E (s + 1)) := by
  have : N = [] ∨ ∃ y, N = [y] := by
    match N, hN with
    | [], _ => exact .inl rfl
    | [y], _ => exact .inr ⟨y, rfl⟩
  rcases this with rfl | ⟨y, rfl⟩
  · exact StepsTo.at _ _ s rfl rfl rfl rfl rfl rfl (by omega) rfl rfl
  · exact StepsTo.at _ _ s rfl rfl rfl rfl rfl rfl (by omega) rfl rfl
theorem in_none (N : List Int) (E : List (Int × Int)) (s : Int) (hN : N.length ≤ 1) (hs : 0 ≤ s ∧ s ≤ 1000000) : StepsTo [inF] (inp0 [] N E s) true (inp3 N E (s + 1)) :=
  StepsTo.at _ _ s rfl rfl (by show Nat.ble N.length _ = true; exact Nat.ble_eq_true_of_le (by omega)) rfl rfl rfl (by omega) rfl rfl
theorem in_tell (x : Int) (I : List Int) (E : List (Int × Int)) (s : Int) (hE : E.length ≤ 1000) (hs : 0 ≤ s ∧ s ≤ 1000000) : StepsTo [inF] (inp1 I x E s) true (inp2 I x (E ++ [(1, x)]) (s + 1)) := by
  refine StepsTo.at _ _ s rfl ?_ rfl rfl rfl rfl (by omega) rfl rfl
  have ht : ∀ M : Ms, M.ev = E → M.tell 1 x = { M with ev := E ++ [(1, x)] } := fun M hM => by
    unfold Ms.tell
    rw [if_neg (by rw [hM]; omega), hM]
  show some (((inp1 I x E s).on.tell 1 x).after 1 none) = _
  rw [ht _ rfl]
  rfl
theorem in_jump (x : Int) (I : List Int) (E : List (Int × Int)) (s : Int) (hs : 0 ≤ s ∧ s ≤ 1000000) : StepsTo [inF] (inp2 I x E s) true (inp0 I [x] E (s + 1)) :=
  StepsTo.at _ _ s rfl rfl rfl rfl rfl rfl (by omega) rfl rfl
theorem in_end (N : List Int) (E : List (Int × Int)) (s : Int) : StepsTo [inF] (inp3 N E s) false (inp3 N E s) := .over rfl
end Go.Proofs.YtfbkopjncmkbiaaGreatDoor
