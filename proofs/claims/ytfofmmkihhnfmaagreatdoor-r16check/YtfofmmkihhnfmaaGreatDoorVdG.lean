import Derived.Test.YtfofmmkihhnfmaaGreatDoorVdF
import Derived.Test.YtfofmmkihhnfmaaGreatDoorJbb
set_option linter.unusedVariables false
set_option linter.unusedSimpArgs false
namespace Go.Proofs.YtfofmmkihhnfmaaGreatDoor
open Go.ChangeShapes Go.WideShapes Go.ChangeAt Go.RowKit Go.Maps

/-- A step that is not made ends the run. -/
theorem stp_false {C FS S room} {R : Rv} (h : (R.stp C FS S room).1 = false) : (R.stp C FS S room).2.over = true := by
  unfold Rv.stp at h ⊢
  by_cases ho : R.over = true
  · rw [if_pos ho] at h ⊢
    exact ho
  · rw [if_neg ho] at h ⊢
    simp only at h ⊢
    by_cases hr : (R.adv C FS S room).rests = true
    · rw [if_pos hr]
      unfold Rv.over
      rw [hr]
      rfl
    · rw [if_neg hr] at h
      cases h
/-- A run in parts. -/
theorem smG_add {C FS S room} : ∀ (a b : Nat) (R : Rv), smG C FS S room (a + b) R = smG C FS S room b (smG C FS S room a R)
  | 0, b, R => by rw [Nat.zero_add]; rfl
  | a + 1, b, R => by
    rw [show a + 1 + b = (a + b) + 1 by omega]
    show (if _ then _ else _) = smG C FS S room b (if _ then _ else _)
    cases h : (R.stp C FS S room).1 with
    | true =>
      rw [if_pos rfl, if_pos rfl]
      exact smG_add a b _
    | false =>
      rw [if_neg (by simp), if_neg (by simp), smG_over b (stp_false h)]
theorem pre_ite {L : List (Int × Int)} {c : Prop} [Decidable c] {A B : Rv} (hA : L <+: A.ev) (hB : L <+: B.ev) : L <+: (if c then A else B).ev := by
  by_cases h : c
  · rw [if_pos h]; exact hA
  · rw [if_neg h]; exact hB
theorem pre_tell (R : Rv) (k x : Int) : R.ev <+: (R.tell k x).ev := by
  unfold Rv.tell
  exact pre_ite (List.prefix_refl _) (List.prefix_append _ _)
theorem pre_call (S : Int) (f : Rf) (R : Rv) (b : Int) : R.ev <+: (R.call S f b).ev := by
  unfold Rv.call
  exact pre_ite (List.prefix_refl _) (List.prefix_refl _)
theorem pre_take (R : Rv) (a : Int) : R.ev <+: (R.take a).ev := by
  unfold Rv.take
  split <;> exact List.prefix_refl _
/-- What was told stays told. -/
theorem pre_does (FS : List Rf) (S room : Int) (R : Rv) (x : Ri) : R.ev <+: (R.does FS S room x).ev := by
  have r : R.ev <+: R.ev := List.prefix_refl _
  unfold Rv.does
  refine pre_ite r (pre_ite r (pre_ite r (pre_ite r (pre_ite r (pre_ite (pre_ite r r) (pre_ite (pre_ite r r) (pre_ite r (pre_ite r (pre_ite ?_ (pre_ite r (pre_ite ?_ (pre_ite r (pre_ite r (pre_ite r (pre_ite (pre_ite r r) (pre_ite (pre_ite r r) (pre_ite (pre_ite r r) (pre_ite r (pre_ite (pre_take R _) (pre_ite (pre_tell R _ _) (pre_tell R _ _)))))))))))))))))))))
  · split
    · exact r
    · exact pre_call S _ R _
  · unfold Rv.alloc
    exact pre_ite r r
theorem pre_stp (C : List Ri) (FS : List Rf) (S room : Int) (R : Rv) : R.ev <+: (R.stp C FS S room).2.ev := by
  have r : R.ev <+: R.ev := List.prefix_refl _
  have h : R.ev <+: (R.adv C FS S room).ev := by
    unfold Rv.adv Rv.ins
    split
    · exact r
    · exact pre_does FS S room R.on _
  unfold Rv.stp
  by_cases ho : R.over = true
  · rw [if_pos ho]; exact r
  · rw [if_neg ho]
    simp only
    by_cases hr : (R.adv C FS S room).rests = true
    · rw [if_pos hr]; exact h
    · rw [if_neg hr]; exact h
theorem pre_smG {C FS S room} : ∀ (n : Nat) (R : Rv), R.ev <+: (smG C FS S room n R).ev
  | 0, R => List.prefix_refl _
  | n + 1, R => by
    show R.ev <+: (if _ then _ else _ : Rv).ev
    exact pre_ite ((pre_stp C FS S room R).trans (pre_smG n _)) (pre_stp C FS S room R)
/-- How many of so many steps are made, by the steps that are told. -/
def cntG (C : List Ri) (FS : List Rf) (S room : Int) : Nat → Rv → Nat
  | 0, _ => 0
  | n + 1, R => if (R.stp C FS S room).1 = true then cntG C FS S room n (R.stp C FS S room).2 + 1 else 0
theorem cntG_le {C FS S room} : ∀ (n : Nat) (R : Rv), cntG C FS S room n R ≤ n
  | 0, _ => Nat.le_refl _
  | n + 1, R => by
    unfold cntG
    split
    · exact Nat.succ_le_succ (cntG_le n _)
    · exact Nat.zero_le _
theorem steps_stp (C : List Ri) (FS : List Rf) (S room : Int) (R : Rv) : (R.stp C FS S room).2.steps = if (R.stp C FS S room).1 = true then R.steps + 1 else R.steps := by
  have h : (R.adv C FS S room).steps = R.steps := by
    unfold Rv.adv
    rw [ins_steps]
    rfl
  unfold Rv.stp
  by_cases ho : R.over = true
  · rw [if_pos ho]; simp
  · rw [if_neg ho]
    simp only
    by_cases hr : (R.adv C FS S room).rests = true
    · rw [if_pos hr]; simp [h]
    · rw [if_neg hr]; simp
theorem steps_smG {C FS S room} : ∀ (n : Nat) (R : Rv), (smG C FS S room n R).steps = R.steps + (cntG C FS S room n R : Nat)
  | 0, R => by show R.steps = R.steps + ((0 : Nat) : Int); simp
  | n + 1, R => by
    have e := steps_stp C FS S room R
    show (if _ then _ else _ : Rv).steps = R.steps + ((if _ then _ else _ : Nat) : Int)
    cases h : (R.stp C FS S room).1 with
    | true =>
      rw [if_pos rfl, if_pos rfl, steps_smG n, e, h, if_pos rfl]
      omega
    | false =>
      rw [if_neg (by simp), if_neg (by simp), e, h, if_neg (by simp)]
      simp
/-- A run that ended stays as it is. -/
theorem smG_ended {C FS S room} {a b : Nat} {R : Rv} (h : ¬ (smG C FS S room a R).fin = 0) : smG C FS S room (a + b) R = smG C FS S room a R := by
  rw [smG_add]
  refine smG_over b ?_
  unfold Rv.over
  simp [h]
theorem newErr_range (C : List Ri) (FS : List Rf) (m : Int) (n : Nat) (S r : Int) : newErr C FS m n S r = 0 ∨ newErr C FS m n S r = 210 ∨ newErr C FS m n S r = 4 ∨ newErr C FS m n S r = 5 := by
  unfold newErr
  split
  · simp
  · split
    · simp
    · split <;> simp
set_option maxRecDepth 20000 in
set_option maxHeartbeats 1000000 in
/-- A slice of numbers that came in, each of 64 bits. -/
theorem ints_viewF {H : Type} {enc : TypeId × Value → H} {W : World} {fuel : Nat} {cs : List Value} {x : DataW H × List MemPlace} (h : DataW.trod enc Tryz.prog W 0 (fun _ => true) true fuel 26 cs = some x) (hw : ∀ n ∈ x.1.weights Tryz.prog 26, n ≤ reachBytes) :
    ∃ (ao : Option Addr) (cap : Nat) (L : List Int), cs = [.slice ao L.length cap] ∧ Ints W ao cap L ∧ L.length ≤ 140737488351232 ∧ ∀ a ∈ L, Fits a := by
  obtain ⟨ao, cap, N, e, hL, hl, hp⟩ := lst_viewR (α := Int) 0 (En := fun _ cs x => cs = [.int .i64 x]) (P := Fits) (z := 1) (by_ := 8) Tryz.underlying26 (by decide) (by kernel_rfl) (by kernel_rfl) (by decide) (fun fuel cs y h _ _ => by
    obtain ⟨n, e, _, w⟩ := DataW.trod_int Tryz.underlying3 h
    exact ⟨n, e, fun u hu => by rw [e] at hu; rw [List.mem_singleton.1 hu]; rfl, wf_fitV w⟩) h hw
  refine ⟨ao, cap, N, e, ⟨hL.le.1, hL.le.2, fun hne => ?_⟩, hl, hp⟩
  have hp0 : 0 < N.length := List.length_pos_iff.2 hne
  obtain ⟨b, o, cs0, e0, hb, _, _⟩ := hL.at hp0
  refine ⟨b, o, e0, hb, fun i hi => ?_⟩
  obtain ⟨b', o', cs', e', _, hc, hE⟩ := hL.at hi
  rw [e0] at e'
  cases e'
  have hE' : cs' = [.int .i64 N[i]] := hE
  have := hc 0 (.int .i64 N[i]) (by rw [hE']; rfl)
  rw [Nat.mul_one] at this
  exact this
end Go.Proofs.YtfofmmkihhnfmaaGreatDoor
