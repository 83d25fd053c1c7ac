import Derived.Test.YtfofmmkihhnfmaaGreatDoorVdL
set_option linter.unusedVariables false
set_option linter.unusedSimpArgs false
namespace Go.Proofs.YtfofmmkihhnfmaaGreatDoor
open Go.ChangeShapes Go.WideShapes Go.ChangeAt Go.RowKit Go.Maps

theorem call_grow {S S' : Int} (h : S ≤ S') (f : Rf) (R : Rv) (b : Int) : R.call S f b = R.call S' f b ∨ R.call S f b = R.panic 7 0 := by
  unfold Rv.call
  by_cases q : f.fr > S - R.top
  · exact Or.inr (if_pos q)
  · rw [if_neg q, if_neg (by omega)]
    exact Or.inl rfl
theorem alloc_grow {r r' : Int} (h : r ≤ r') (R : Rv) (a k : Int) : R.alloc r a k = R.alloc r' a k ∨ R.alloc r a k = R.panic 8 0 := by
  unfold Rv.alloc
  by_cases q : k ≥ r - R.tk
  · exact Or.inr (if_pos q)
  · rw [if_neg q, if_neg (by omega)]
    exact Or.inl rfl
theorem call_rests (S : Int) (f : Rf) (R : Rv) (b : Int) : (R.call S f b).rests = R.rests := by
  unfold Rv.call
  split <;> rfl
theorem alloc_rests (r : Int) (R : Rv) (a k : Int) : (R.alloc r a k).rests = R.rests := by
  unfold Rv.alloc
  split <;> rfl
/-- It ended for want of room. -/
structure Wants (R X : Rv) : Prop where
  fin : X.fin = 2
  kd : X.kd = 7 ∨ X.kd = 8
  ev : X.ev = R.ev
theorem wants_panic (R : Rv) {k : Int} (hk : k = 7 ∨ k = 8) : Wants R (R.panic k 0) := ⟨rfl, hk, rfl⟩
theorem does_grow {S S' r r' : Int} (h : S ≤ S') (hr : r ≤ r') (FS : List Rf) (R : Rv) (x : Ri) : R.does FS S r x = R.does FS S' r' x ∨ (Wants R (R.does FS S r x) ∧ (R.does FS S r x).rests = R.rests ∧ (R.does FS S' r' x).rests = R.rests) := by
  by_cases h26 : x.op = 26
  · have e : ∀ S r, R.does FS S r x = match FS[x.n.toNat]? with | none => R | some f => R.call S f R.nx := fun S r => by
      unfold Rv.does
      rw [if_neg (by omega), if_neg (by omega), if_neg (by omega), if_neg (by omega), if_neg (by omega), if_neg (by omega), if_neg (by omega), if_neg (by omega), if_neg (by omega), if_pos h26]
      cases FS[x.n.toNat]? <;> rfl
    rw [e, e]
    cases FS[x.n.toNat]? with
    | none => exact Or.inl rfl
    | some f =>
      rcases call_grow h f R R.nx with q | q
      · exact Or.inl q
      · exact Or.inr ⟨by show Wants R (R.call S f R.nx); rw [q]; exact wants_panic R (Or.inl rfl), call_rests S f R _, call_rests S' f R _⟩
  · by_cases h28 : x.op = 28
    · have e : ∀ S r, R.does FS S r x = R.alloc r x.a (R.reg x.b) := fun S r => by
        unfold Rv.does
        rw [if_neg (by omega), if_neg (by omega), if_neg (by omega), if_neg (by omega), if_neg (by omega), if_neg (by omega), if_neg (by omega), if_neg (by omega), if_neg (by omega), if_neg (by omega), if_neg (by omega), if_pos h28]
      rw [e, e]
      rcases alloc_grow hr R x.a (R.reg x.b) with q | q
      · exact Or.inl q
      · exact Or.inr ⟨by rw [q]; exact wants_panic R (Or.inr rfl), alloc_rests r R _ _, alloc_rests r' R _ _⟩
    · refine Or.inl ?_
      unfold Rv.does
      rw [if_neg h26, if_neg h28, if_neg h26, if_neg h28]
theorem ins_grow {S S' r r' : Int} (h : S ≤ S') (hr : r ≤ r') (FS : List Rf) (R : Rv) (x : Ri) : R.ins FS S r x = R.ins FS S' r' x ∨ (Wants R (R.ins FS S r x) ∧ (R.ins FS S r x).rests = R.rests ∧ (R.ins FS S' r' x).rests = R.rests) := by
  unfold Rv.ins
  cases R.why x with
  | some k => exact Or.inl rfl
  | none => exact does_grow h hr FS R x
/-- A step, with more room. -/
theorem stp_grow {S S' r r' : Int} (h : S ≤ S') (hr : r ≤ r') (C : List Ri) (FS : List Rf) (R : Rv) : R.stp C FS S r = R.stp C FS S' r' ∨ ((R.stp C FS S r).1 = true ∧ (R.stp C FS S' r').1 = true ∧ Wants R (R.stp C FS S r).2) := by
  unfold Rv.stp
  by_cases ho : R.over = true
  · exact Or.inl (by rw [if_pos ho, if_pos ho])
  · rw [if_neg ho, if_neg ho]
    have hR : R.on.rests = false := by
      unfold Rv.over at ho
      simp only [Bool.or_eq_true, not_or] at ho
      have q : R.rests = false := by simpa using ho.1
      exact q
    unfold Rv.adv
    rcases ins_grow h hr FS R.on (R.at C) with q | ⟨q1, q2, q3⟩
    · exact Or.inl (by rw [q])
    · refine Or.inr ?_
      simp only
      rw [hR] at q2 q3
      rw [if_neg (by rw [q2]; simp), if_neg (by rw [q3]; simp)]
      exact ⟨rfl, rfl, q1.fin, q1.kd, q1.ev⟩
/-- What is to hold between a run and one with more room. -/
structure Grow (X Y : Rv) : Prop where
  out : X = Y ∨ X.fin = 2 ∧ (X.kd = 7 ∨ X.kd = 8)
  ev : X.ev.length ≤ Y.ev.length
  steps : X.steps ≤ Y.steps
theorem Grow.refl (X : Rv) : Grow X X := ⟨Or.inl rfl, Nat.le_refl _, Int.le_refl _⟩
theorem smG_steps_le (C : List Ri) (FS : List Rf) (S r : Int) (n : Nat) (R : Rv) : R.steps ≤ (smG C FS S r n R).steps := by
  rw [steps_smG]
  omega
theorem smG_grow {S S' r r' : Int} (h : S ≤ S') (hr : r ≤ r') (C : List Ri) (FS : List Rf) : ∀ (n : Nat) (R : Rv), Grow (smG C FS S r n R) (smG C FS S' r' n R)
  | 0, R => Grow.refl R
  | n + 1, R => by
    show Grow (if _ then _ else _) (if _ then _ else _)
    rcases stp_grow h hr C FS R with q | ⟨q1, q2, q3⟩
    · rw [q]
      cases hb : (R.stp C FS S' r').1 with
      | true => rw [if_pos rfl, if_pos rfl]; exact smG_grow h hr C FS n _
      | false => rw [if_neg (by simp), if_neg (by simp)]; exact Grow.refl _
    · rw [if_pos q1, if_pos q2]
      have ho : (R.stp C FS S r).2.over = true := by
        unfold Rv.over
        rw [q3.fin]
        simp
      rw [smG_over n ho]
      refine ⟨Or.inr ⟨q3.fin, q3.kd⟩, ?_, ?_⟩
      · rw [q3.ev]
        exact ((pre_stp C FS S' r' R).trans (pre_smG n _)).length_le
      · have e1 := steps_stp C FS S r R
        have e2 := steps_stp C FS S' r' R
        rw [if_pos q1] at e1
        rw [if_pos q2] at e2
        have := smG_steps_le C FS S' r' n (R.stp C FS S' r').2
        omega
/-- A whole run, with more room. -/
theorem run_grow {S S' r r' : Int} (h : S ≤ S') (hr : r ≤ r') (C : List Ri) (FS : List Rf) (n : Nat) (I : List Int) (f : Rf) : Grow (smG C FS S r n ((Rv.zero I).call S f (-1))) (smG C FS S' r' n ((Rv.zero I).call S' f (-1))) := by
  rcases call_grow h f (Rv.zero I) (-1) with q | q
  · rw [q]
    exact smG_grow h hr C FS n _
  · rw [q]
    have ho : ((Rv.zero I).panic 7 0).over = true := rfl
    rw [smG_over n ho]
    refine ⟨Or.inr ⟨rfl, Or.inl rfl⟩, Nat.zero_le _, ?_⟩
    have := smG_steps_le C FS S' r' n ((Rv.zero I).call S' f (-1))
    rw [call_steps0] at this
    exact this
end Go.Proofs.YtfofmmkihhnfmaaGreatDoor
