import Derived.Test.YtpgbkkllnbahpaaSoJ
set_option linter.unusedVariables false
set_option linter.unusedSimpArgs false
namespace Go.Proofs.Ytpgbkkllnbahpaa
open Go.ChangeShapes Go.WideShapes Go.ChangeAt Go.RowKit Go.Maps

theorem refG_any (w : World) (ao : Option Addr) (n c : Nat) (S : List Iv) (hn : n = S.length) (h : Ivs w ao c S) (hS : Srt S) (r : Nat) (h1 : 1 ≤ r) (h8 : r ≤ 8) (hl : n ≤ 90000000) : Calls Try.prog 13 #[.slice ao n c, .int .i64 (r : Int)] w fun e w' => ∃ po pk, e = .returned (.tuple #[.slice po (scn S r).pl.length pk, .int .i64 ((scn S r).sl : Int), .int .i64 0]) ∧ Row w' w.heap.size 37 2 (.slice po (scn S r).pl.length pk) ((scn S r).pl.map lc) ∧ Below w.heap.size w w' := by
  refine (refScan_any w ao n c S hn h r hl).mono ?_
  rintro e w' ⟨v, m, x, rfl, A⟩
  obtain ⟨q1, q2, q3⟩ := A.good (by omega) hS.good
  rw [Int.toNat_natCast] at q1 q2
  obtain ⟨po, pn, pk, rfl, e2, _, _⟩ := row_sl q1
  simp at e2
  subst e2 q2 q3
  exact ⟨po, pk, rfl, q1, A.bel⟩
set_option maxRecDepth 100000 in
set_option maxHeartbeats 8000000 in
theorem scanPlaces_any (w : World) (ao : Option Addr) (n c : Nat) (L : List Iv) (hn : n = L.length) (h : Ivs w ao c L) (regs : Int) : Calls Try.prog 4 #[.slice ao n c, .int .i64 regs] w fun e w' => e = .returned (.bool true) ∧ Below w.heap.size w w' := by
  have HN : Hid (n = L.length) := hn
  have HH : Hid (Ivs w ao c L) := h
  have HAL : Hid (Calls Try.prog 9 #[] w fun e w' => e = .returned (.bool true) ∧ Below w.heap.size w w') := alive_any w
  by_cases hr : regs < 1
  · clear h hn
    go_enter Try.func4, Try.ntmps4
    go_wp2_with (go_at_call 9; refine Calls.mono HAL.out ?_; rintro e w1 ⟨rfl, hb1⟩; have HB1 : Hid (Below w.heap.size w w1) := hb1; clear hb1)
    go_ret
    exact ⟨rfl, HB1.out⟩
  by_cases hr8 : 8 < regs
  · clear h hn
    go_enter Try.func4, Try.ntmps4
    go_wp2_with (go_at_call 9; refine Calls.mono HAL.out ?_; rintro e w1 ⟨rfl, hb1⟩; have HB1 : Hid (Below w.heap.size w w1) := hb1; clear hb1)
    go_ret
    exact ⟨rfl, HB1.out⟩
  obtain ⟨r, hrr⟩ : ∃ r : Nat, regs = (r : Int) := ⟨regs.toNat, by omega⟩
  subst hrr
  have hr1 : 1 ≤ r := by omega
  have hr9 : r ≤ 8 := by omega
  have t1 : decide ((r : Int) < 1) = false := by simp; omega
  have t2 : decide ((8 : Int) < (r : Int)) = false := by simp; omega
  have HSO : Hid (∀ W, Below w.heap.size w W → Calls Try.prog 15 #[.slice ao n c] W fun e w' => ∃ S v, e = .returned v ∧ Row w' W.heap.size 35 3 v (S.map vc) ∧ Srt S ∧ S.length ≤ 3000 ∧ Below W.heap.size W w') := fun W hW => sorted_any W ao n c L hn (h.below hW (Nat.le_refl _))
  clear h hn hr hr8
  go_enter Try.func4, Try.ntmps4
  go_wp2_with fail
  refine Calls.mono HAL.out ?_
  rintro e w1 ⟨rfl, hb1⟩
  have HB1 : Hid (Below w.heap.size w w1) := hb1
  clear hb1 HAL
  go_wp2_with fail
  refine Calls.mono (HSO.out w1 HB1.out) ?_
  rintro e w2 ⟨S, v2, rfl, R2, hS, hS3, hb2⟩
  have HB2 : Hid (Below w.heap.size w w2) := HB1.out.trans (hb2.mono HB1.out.size)
  have HS : Hid (Srt S) := hS
  obtain ⟨so, sc, rfl, hI⟩ := row_ivs R2 hS.fit
  have HI : Hid (Ivs w2 so sc S) := hI
  have hsc : S.length ≤ sc := hI.le
  have hscm : sc ≤ 9223372036854775807 := hI.mx
  obtain ⟨sn, hsn⟩ : ∃ sn, sn = S.length := ⟨_, rfl⟩
  have HSN : Hid (sn = S.length) := hsn
  rw [← hsn] at hS3 hsc ⊢
  clear hsn R2 hb2 hS hI HSO t1 t2 HB1
  go_wp2_with fail
  refine Calls.mono (ls_any w2 so sn sc S HSN.out HI.out HS.out hS3) ?_
  rintro e w3 ⟨g, q, rfl, hI3, hb3⟩
  have HB3 : Hid (Below w.heap.size w w3) := HB2.out.trans (hb3.mono HB2.out.size)
  have HI3 : Hid (Ivs w3 (some ⟨g, 0, none⟩) q S) := hI3
  have HIB : Hid (Ivs w3 so sc S) := HI.out.below hb3 (Nat.le_refl _)
  clear hb3 hI3
  go_wp2_with fail
  refine Calls.mono (scanG_any w3 _ _ _ S HSN.out HI3.out HS.out r hr1 hr9 (by omega)) ?_
  rintro e w4 ⟨po, pk, rfl, R4, hb4⟩
  have HB4 : Hid (Below w.heap.size w w4) := HB3.out.trans (hb4.mono HB3.out.size)
  have HI4 : Hid (Ivs w4 so sc S) := HIB.out.below hb4 (Nat.le_refl _)
  have HP4 : Hid (Row w4 w3.heap.size 37 2 (.slice po (scn S r).pl.length pk) ((scn S r).pl.map lc)) := R4
  clear R4 hb4
  have HRF : Hid (Calls Try.prog 13 #[.slice so sn sc, .int .i64 (r : Int)] w4 fun e w' => ∃ po pk, e = .returned (.tuple #[.slice po (scn S r).pl.length pk, .int .i64 ((scn S r).sl : Int), .int .i64 0]) ∧ Row w' w4.heap.size 37 2 (.slice po (scn S r).pl.length pk) ((scn S r).pl.map lc) ∧ Below w4.heap.size w4 w') := refG_any w4 so sn sc S HSN.out HI4.out HS.out r hr1 hr9 (by omega)
  obtain ⟨P, hP⟩ : ∃ P, P = (scn S r).pl := ⟨_, rfl⟩
  obtain ⟨sl, hsl⟩ : ∃ sl, sl = (scn S r).sl := ⟨_, rfl⟩
  obtain ⟨m, hm⟩ : ∃ m, m = P.length := ⟨_, rfl⟩
  have HM : Hid (m = P.length) := hm
  rw [← hP, ← hsl, ← hm] at HRF ⊢
  rw [← hP, ← hm] at HP4
  clear hP hsl hm
  go_wp2_with fail
  refine Calls.mono HRF.out ?_
  rintro e w5 ⟨po2, pk2, rfl, R5, hb5⟩
  have HB5 : Hid (Below w.heap.size w w5) := HB4.out.trans (hb5.mono HB4.out.size)
  have HSM : Hid (Calls Try.prog 14 #[.slice po m pk, .slice po2 m pk2] w5 fun e w' => e = .returned (.bool true) ∧ Below w5.heap.size w5 w') := by
    obtain ⟨a1, c1, e1, LA⟩ := row_lcs (HP4.out.keep hb5)
    obtain ⟨a2, c2, e2, LB⟩ := row_lcs R5
    simp only [Value.slice.injEq] at e1 e2
    obtain ⟨rfl, _, rfl⟩ := e1
    obtain ⟨rfl, _, rfl⟩ := e2
    refine (sameL_any w5 LA LB HM.out HM.out).mono ?_
    rintro e w' ⟨rfl, hb⟩
    exact ⟨by simp, hb⟩
  clear R5 hb5 HRF HP4
  go_wp2_with fail
  refine Calls.mono HSM.out ?_
  rintro e w6 ⟨rfl, hb6⟩
  have HB6 : Hid (Below w.heap.size w w6) := HB5.out.trans (hb6.mono HB5.out.size)
  clear hb6
  go_wp2_with fail
  go_ret
  exact ⟨rfl, HB6.out⟩
end Go.Proofs.Ytpgbkkllnbahpaa
