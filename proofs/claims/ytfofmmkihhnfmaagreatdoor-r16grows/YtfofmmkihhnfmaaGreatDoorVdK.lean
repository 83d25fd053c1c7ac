import Derived.Test.YtfofmmkihhnfmaaGreatDoorVdJ
set_option linter.unusedVariables false
set_option linter.unusedSimpArgs false
namespace Go.Proofs.YtfofmmkihhnfmaaGreatDoor
open Go.ChangeShapes Go.WideShapes Go.ChangeAt Go.RowKit Go.Maps

theorem mRunR_stB {s d w0 w R} {n K : Nat} (h : StR s d w0 w R) (hP : PgR s) (hR : RI s n R) {fuel : Nat} (hn : n + K ≤ 100000000) (hf : fuel ≤ 1099511627776) (hK : K = fuel ∨ K ≤ fuel ∧ (smG s.C s.FS s.S s.room K R).over = true) {RF : Rv} (hRF : smG s.C s.FS s.S s.room K R = RF) :
    Calls Tryz.prog 11 #[.pointer (some ⟨s.mb, 0, none⟩), .int .i64 fuel] w fun e w' => ∃ ao c B, e = .returned (.tuple #[.agg #[.slice ao RF.ev.length c, .int .i64 RF.fin, .int .i64 RF.kd, .int .i64 RF.vl, .int .i64 RF.steps, .int .i64 RF.words, .int .i64 RF.deep], .int .i64 0]) ∧ (∃ d', (RF.over = false → Rm s d' w' RF ∧ ∀ k, footR s d' k → k < B) ∧ OvR s d'.ve w' RF ∧ FooR s d d' w0 w') ∧ RI s (n + K) RF ∧ w.heap.size ≤ B ∧ Row w' B 62 2 (.slice ao RF.ev.length c) (RF.ev.map evc) := by
  subst hRF
  obtain ⟨q1, q2, q3, q4⟩ := runR_path hP K n R hR hn
  have hm : (if Rv.cnt s K R < fuel then (Rv.its s (Rv.cnt s K R) R).nxt s else Rv.its s fuel R) = Rv.runN s K R := by
    rw [q3]
    by_cases hc : Rv.cnt s K R < K
    · rw [if_pos hc, if_pos (by omega)]
    · have hle := cntR_le s K R
      have ec : Rv.cnt s K R = K := by omega
      rw [if_neg hc, ec]
      rcases hK with rfl | ⟨hk, ho⟩
      · rw [if_neg (Nat.lt_irrefl _)]
      · rw [← runN_smG, q3, if_neg hc] at ho
        by_cases hkf : K < fuel
        · rw [if_pos hkf]
          unfold Rv.nxt
          rw [stpR_over ho]
        · rw [if_neg hkf, show fuel = K by omega]
  have T := mRunR_any h hf (fun i => Rv.its s i R) rfl q1 (MJ := (Rv.its s (Rv.cnt s K R) R).nxt s) (fun hl => by
    by_cases hc : Rv.cnt s K R < K
    · exact q2 hc
    · have hle := cntR_le s K R
      have ec : Rv.cnt s K R = K := by omega
      rw [ec] at hl ⊢
      rcases hK with rfl | ⟨hk, ho⟩
      · exact absurd hl (Nat.lt_irrefl _)
      · rw [← runN_smG, q3, if_neg hc] at ho
        exact Or.inl ⟨ho, rfl, by unfold Rv.nxt; rw [stpR_over ho]⟩) hm.symm
  rw [runN_smG] at T q4
  refine T.mono ?_
  rintro e w' ⟨v, d', B, rfl, k1, k2, k3, hB, hRow⟩
  obtain ⟨ao, c, rfl, hE⟩ := evs_of hRow
  exact ⟨ao, c, B, rfl, ⟨d', k1, k2, k3⟩, q4, hB, hRow⟩
/-- The memory of a machine that has made steps lies below what it then told. -/
structure MB (s : Rst) (w : World) (R : Rv) (X : Nat → Prop) (B0 B : Nat) : Prop where
  le : B0 ≤ w.heap.size
  all : MS s w R (fun k => X k ∨ B0 ≤ k)
  low : R.over = false → MS s w R (fun k => X k ∨ B0 ≤ k ∧ k < B)
theorem MB.apart {s w w' R X B0 B F} (h : MB s w R X B0 B) (ho : Only F w w') (hF : ∀ k, F k → ¬ X k ∧ ¬ B0 ≤ k) : MB s w' R X B0 B :=
  ⟨Nat.le_trans h.le ho.size, h.all.apart ho fun k hk q => q.elim (hF k hk).1 (hF k hk).2, fun q => (h.low q).apart ho fun k hk z => z.elim (hF k hk).1 fun z => (hF k hk).2 z.1⟩
/-- Run, and where the machine's memory lies. -/
theorem MS.goesB {s w R X} {n K : Nat} (h : MS s w R X) (hP : PgR s) (hR : RI s n R) {fuel : Nat} (hn : n + K ≤ 100000000) (hK : K = fuel) {RF : Rv} (hRF : smG s.C s.FS s.S s.room K R = RF) :
    Calls Tryz.prog 11 #[.pointer (some ⟨s.mb, 0, none⟩), .int .i64 fuel] w fun e w' => ∃ ao c B, e = .returned (.tuple #[.agg #[.slice ao RF.ev.length c, .int .i64 RF.fin, .int .i64 RF.kd, .int .i64 RF.vl, .int .i64 RF.steps, .int .i64 RF.words, .int .i64 RF.deep], .int .i64 0]) ∧ MB s w' RF X w.heap.size B ∧ RI s (n + K) RF ∧ Only X w w' ∧ w.heap.size ≤ B ∧ Row w' B 62 2 (.slice ao RF.ev.length c) (RF.ev.map evc) := by
  cases ho : R.over with
  | true =>
    have e : RF = R := by rw [← hRF]; exact smG_over K ho
    subst e
    obtain ⟨ve, h1, h2, h3⟩ := h.ov
    refine (mRunR_over h1 ho (fuel := fuel) (by omega)).mono ?_
    rintro e w' ⟨v, B, rfl, hRow, hB, hb⟩
    obtain ⟨ao, c, rfl, hE⟩ := evs_of hRow
    exact ⟨ao, c, B, rfl, ⟨hb.size, (h.below hb).mono fun k hk => Or.inl hk, fun q => by rw [ho] at q; cases q⟩, hR.mono (by omega), (Only.of_below hb X), hB, hRow⟩
  | false =>
    obtain ⟨d, h1, h2, h3⟩ := h.run ho
    have hst : StR s d w w R := ⟨d, fun _ => h1, h2, FooR.refl _ _ _⟩
    refine (mRunR_stB hst hP hR hn (by omega) (Or.inl hK) hRF).mono ?_
    rintro e w' ⟨ao, c, B, rfl, ⟨d2, m2, o2, f2⟩, hRI, hB, hRow⟩
    have hX : ∀ k, footR s d2 k → X k ∨ w.heap.size ≤ k := fun k hk => (f2.new k hk).elim (fun q => Or.inl (h3 k (Or.inl q))) Or.inr
    refine ⟨ao, c, B, rfl, ⟨f2.only.size, ⟨fun q => ⟨d2, (m2 q).1, o2, fun k hk => hk.elim (hX k) (fun q => Or.inl (h3 k (Or.inr q)))⟩, d2.ve, o2, hX _ (Or.inl rfl), fun k hk => hX _ (Or.inr (Or.inr (Or.inr hk)))⟩, fun q => ?_⟩, hRI, f2.only.mono fun k _ hk => h3 k (Or.inl hk), hB, hRow⟩
    have hY : ∀ k, footR s d2 k → X k ∨ w.heap.size ≤ k ∧ k < B := fun k hk => (hX k hk).elim Or.inl fun z => Or.inr ⟨z, (m2 q).2 k hk⟩
    exact ⟨fun q => ⟨d2, (m2 q).1, o2, fun k hk => hk.elim (hY k) (fun q => Or.inl (h3 k (Or.inr q)))⟩, d2.ve, o2, hY _ (Or.inl rfl), fun k hk => hY _ (Or.inr (Or.inr (Or.inr hk)))⟩
/-- Run again: what was told before stays. -/
theorem MB.again {s w R X B0 B} {n K : Nat} (h : MB s w R X B0 B) (hP : PgR s) (hR : RI s n R) {fuel : Nat} (hn : n + K ≤ 100000000) (hK : K = fuel) {RF : Rv} (hRF : smG s.C s.FS s.S s.room K R = RF) :
    Calls Tryz.prog 11 #[.pointer (some ⟨s.mb, 0, none⟩), .int .i64 fuel] w fun e w' => ∃ ao c B2, e = .returned (.tuple #[.agg #[.slice ao RF.ev.length c, .int .i64 RF.fin, .int .i64 RF.kd, .int .i64 RF.vl, .int .i64 RF.steps, .int .i64 RF.words, .int .i64 RF.deep], .int .i64 0]) ∧ MS s w' RF (fun k => X k ∨ B0 ≤ k) ∧ Only (fun k => X k ∨ B0 ≤ k ∧ k < B) w w' ∧ w.heap.size ≤ B2 ∧ Row w' B2 62 2 (.slice ao RF.ev.length c) (RF.ev.map evc) := by
  cases ho : R.over with
  | true =>
    have e : RF = R := by rw [← hRF]; exact smG_over K ho
    subst e
    obtain ⟨ve, h1, h2, h3⟩ := h.all.ov
    refine (mRunR_over h1 ho (fuel := fuel) (by omega)).mono ?_
    rintro e w' ⟨v, B2, rfl, hRow, hB, hb⟩
    obtain ⟨ao, c, rfl, hE⟩ := evs_of hRow
    exact ⟨ao, c, B2, rfl, h.all.below hb, Only.of_below hb _, hB, hRow⟩
  | false =>
    have hl := (h.low ho).cap
    refine (hl.goes hP hR hn hK hRF).mono ?_
    rintro e w' ⟨ao, c, B2, rfl, hM, _, hO, hB, hRow, _⟩
    exact ⟨ao, c, B2, rfl, hM.mono (fun k hk => hk.elim (fun q => q.1.elim Or.inl fun z => Or.inr z.1) fun q => Or.inr (Nat.le_trans h.le q)), hO.mono fun k _ hk => hk.1, hB, hRow⟩
end Go.Proofs.YtfofmmkihhnfmaaGreatDoor
