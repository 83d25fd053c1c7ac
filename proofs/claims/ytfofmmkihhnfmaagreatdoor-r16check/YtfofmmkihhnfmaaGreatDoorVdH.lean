import Derived.Test.YtfofmmkihhnfmaaGreatDoorVdG
import Derived.Test.YtfofmmkihhnfmaaGreatDoorVcO
set_option linter.unusedVariables false
set_option linter.unusedSimpArgs false
namespace Go.Proofs.YtfofmmkihhnfmaaGreatDoor
open Go.ChangeShapes Go.WideShapes Go.ChangeAt Go.RowKit Go.Maps

/-- A machine whose blocks are among X. -/
structure MS (s : Rst) (w : World) (R : Rv) (X : Nat → Prop) : Prop where
  run : R.over = false → ∃ d, Rm s d w R ∧ OvR s d.ve w R ∧ (∀ k, footR s d k ∨ s.st k → X k)
  ov : ∃ ve, OvR s ve w R ∧ X s.mb ∧ ∀ k, ve.ownBlock = some k → X k
/-- Another's work leaves it alone. -/
theorem MS.apart {s w w' R X F} (h : MS s w R X) (ho : Only F w w') (hF : ∀ k, F k → ¬ X k) : MS s w' R X := by
  refine ⟨fun q => ?_, ?_⟩
  · obtain ⟨d, h1, h2, h3⟩ := h.run q
    refine ⟨d, h1.apart ho fun k hk => ⟨fun q => hF k hk (h3 k (Or.inl q)), fun q => hF k hk (h3 k (Or.inr q))⟩, h2.apart ho (fun q => hF _ q (h3 _ (Or.inl (Or.inl rfl)))) (fun k hk q => hF _ q (h3 _ (Or.inl (Or.inr (Or.inr (Or.inr hk)))))), h3⟩
  · obtain ⟨ve, h1, h2, h3⟩ := h.ov
    exact ⟨ve, h1.apart ho (fun q => hF _ q h2) (fun k hk q => hF _ q (h3 k hk)), h2, h3⟩
theorem MS.below {s w w' R X} (h : MS s w R X) (hb : Below w.heap.size w w') : MS s w' R X := h.apart (F := fun _ => False) (Only.of_below hb _) (fun _ q => q.elim)
theorem MS.mono {s w R} {X Y : Nat → Prop} (h : MS s w R X) (hXY : ∀ k, X k → Y k) : MS s w R Y :=
  ⟨fun q => by obtain ⟨d, h1, h2, h3⟩ := h.run q; exact ⟨d, h1, h2, fun k hk => hXY k (h3 k hk)⟩, by obtain ⟨ve, h1, h2, h3⟩ := h.ov; exact ⟨ve, h1, hXY _ h2, fun k hk => hXY k (h3 k hk)⟩⟩
theorem MS.lt {s w R X} (h : MS s w R X) : s.mb < w.heap.size := by
  obtain ⟨ve, h1, _⟩ := h.ov
  exact h1.lt
/-- Run. -/
theorem MS.goes {s w R X} {n K : Nat} (h : MS s w R X) (hP : PgR s) (hR : RI s n R) {fuel : Nat} (hn : n + K ≤ 100000000) (hK : K = fuel) {RF : Rv} (hRF : smG s.C s.FS s.S s.room K R = RF) :
    Calls Tryz.prog 11 #[.pointer (some ⟨s.mb, 0, none⟩), .int .i64 fuel] w fun e w' => ∃ ao c B, e = .returned (.tuple #[.agg #[.slice ao RF.ev.length c, .int .i64 RF.fin, .int .i64 RF.kd, .int .i64 RF.vl, .int .i64 RF.steps, .int .i64 RF.words, .int .i64 RF.deep], .int .i64 0]) ∧ MS s w' RF (fun k => X k ∨ w.heap.size ≤ k) ∧ RI s (n + K) RF ∧ Only X w w' ∧ w.heap.size ≤ B ∧ Row w' B 62 2 (.slice ao RF.ev.length c) (RF.ev.map evc) ∧ (∀ k, w.heap.size ≤ k → k < B → True) := by
  cases ho : R.over with
  | true =>
    have e : RF = R := by rw [← hRF]; exact smG_over K ho
    subst e
    obtain ⟨ve, h1, h2, h3⟩ := h.ov
    refine (mRunR_over h1 ho (fuel := fuel) (by omega)).mono ?_
    rintro e w' ⟨v, B, rfl, hRow, hB, hb⟩
    obtain ⟨ao, c, rfl, hE⟩ := evs_of hRow
    refine ⟨ao, c, B, rfl, (h.below hb).mono fun k hk => Or.inl hk, hR.mono (by omega), (Only.of_below hb X), hB, hRow, fun _ _ _ => trivial⟩
  | false =>
    obtain ⟨d, h1, h2, h3⟩ := h.run ho
    have hst : StR s d w w R := ⟨d, fun _ => h1, h2, FooR.refl _ _ _⟩
    refine (mRunR_st hst hP hR hn (by omega) (Or.inl hK) hRF).mono ?_
    rintro e w' ⟨ao, c, B, rfl, hs2, hRI, hB, hRow⟩
    obtain ⟨d2, m2, o2, f2⟩ := hs2.out
    have hX : ∀ k, footR s d2 k → X k ∨ w.heap.size ≤ k := fun k hk => (f2.new k hk).elim (fun q => Or.inl (h3 k (Or.inl q))) Or.inr
    exact ⟨ao, c, B, rfl, ⟨fun q => ⟨d2, m2 q, o2, fun k hk => hk.elim (hX k) (fun q => Or.inl (h3 k (Or.inr q)))⟩, d2.ve, o2, hX _ (Or.inl rfl), fun k hk => hX _ (Or.inr (Or.inr (Or.inr hk)))⟩, hRI, f2.only.mono fun k _ hk => h3 k (Or.inl hk), hB, hRow, fun _ _ _ => trivial⟩
/-- Step. -/
theorem MS.step {s w R X} {n : Nat} (h : MS s w R X) (hP : PgR s) (hR : RI s n R) (hn : n + 1 ≤ 100000000) :
    Calls Tryz.prog 32 #[.pointer (some ⟨s.mb, 0, none⟩)] w fun e w' => e = .returned (.bool (R.stp s.C s.FS s.S s.room).1) ∧ MS s w' (R.stp s.C s.FS s.S s.room).2 (fun k => X k ∨ w.heap.size ≤ k) ∧ RI s (n + 1) (R.stp s.C s.FS s.S s.room).2 ∧ Only X w w' := by
  have hrs := hR.rstp hP (by omega) (T := (R.stp s.C s.FS s.S s.room).1) rfl
  have hri : RI s (n + 1) (R.stp s.C s.FS s.S s.room).2 := hR.nxt hP (by omega)
  cases ho : R.over with
  | true =>
    have e : R.stp s.C s.FS s.S s.room = (false, R) := stpR_over ho
    rw [e] at hri ⊢
    obtain ⟨ve, h1, h2, h3⟩ := h.ov
    refine (mStepR_no h1 ho).mono ?_
    rintro e w' ⟨rfl, rfl⟩
    exact ⟨rfl, h.mono fun k hk => Or.inl hk, hri, Only.refl _ _⟩
  | false =>
    obtain ⟨d, h1, h2, h3⟩ := h.run ho
    have hst : StR s d w w R := ⟨d, fun _ => h1, h2, FooR.refl _ _ _⟩
    refine (hst.step hrs).mono ?_
    rintro e w' ⟨rfl, hs2⟩
    obtain ⟨d2, m2, o2, f2⟩ := hs2.out
    have hX : ∀ k, footR s d2 k → X k ∨ w.heap.size ≤ k := fun k hk => (f2.new k hk).elim (fun q => Or.inl (h3 k (Or.inl q))) Or.inr
    exact ⟨rfl, ⟨fun q => ⟨d2, m2 q, o2, fun k hk => hk.elim (hX k) (fun q => Or.inl (h3 k (Or.inr q)))⟩, d2.ve, o2, hX _ (Or.inl rfl), fun k hk => hX _ (Or.inr (Or.inr (Or.inr hk)))⟩, hri, f2.only.mono fun k _ hk => h3 k (Or.inl hk)⟩
/-- Outcome. -/
theorem MS.outcome {s w R X} (h : MS s w R X) : Calls Tryz.prog 40 #[.pointer (some ⟨s.mb, 0, none⟩)] w fun e w' => ∃ ao c, e = .returned (.agg #[.slice ao R.ev.length c, .int .i64 R.fin, .int .i64 R.kd, .int .i64 R.vl, .int .i64 R.steps, .int .i64 R.words, .int .i64 R.deep]) ∧ Row w' w.heap.size 62 2 (.slice ao R.ev.length c) (R.ev.map evc) ∧ Below w.heap.size w w' := by
  obtain ⟨ve, h1, _, _⟩ := h.ov
  refine (mOutcomeR_any h1).mono ?_
  rintro e w' ⟨v, rfl, hRow, hb⟩
  obtain ⟨ao, c, rfl, _⟩ := evs_of hRow
  exact ⟨ao, c, rfl, hRow, hb⟩
end Go.Proofs.YtfofmmkihhnfmaaGreatDoor
