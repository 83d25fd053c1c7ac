import Derived.Test.YtpgbkkllnbahpaaSoI
import Derived.Test.YtpgbkkllnbahpaaSoC
set_option linter.unusedVariables false
set_option linter.unusedSimpArgs false
namespace Go.Proofs.Ytpgbkkllnbahpaa
open Go.ChangeShapes Go.WideShapes Go.ChangeAt Go.RowKit Go.Maps

/-- Two answers of one list are the same. -/
theorem ans_same {w1 w1' w2 w2' : World} {L : List Iv} {regs : Int} {v1 v2 : Value} {n1 n2 e1 e2 : Int} (h1 : ScAns w1 w1' L regs v1 n1 e1) (h2 : ScAns w2 w2' L regs v2 n2 e2) : n1 = n2 ∧ e1 = e2 ∧ ∃ P : List Lc, Row w1' w1.heap.size 37 2 v1 (P.map lc) ∧ Row w2' w2.heap.size 37 2 v2 (P.map lc) := by
  by_cases hr : regs < 1 ∨ 8 < regs
  · obtain ⟨a1, a2, a3⟩ := h1.bad hr
    obtain ⟨b1, b2, b3⟩ := h2.bad hr
    refine ⟨by rw [a2, b2], by rw [a3, b3], [], ?_, ?_⟩
    · rw [a1]; exact Row.nil _ _ _ _
    · rw [b1]; exact Row.nil _ _ _ _
  · cases hg : gdB L with
    | false =>
      obtain ⟨a1, a2, a3⟩ := h1.wrong hr hg
      obtain ⟨b1, b2, b3⟩ := h2.wrong hr hg
      refine ⟨by rw [a2, b2], by rw [a3, b3], [], ?_, ?_⟩
      · rw [a1]; exact Row.nil _ _ _ _
      · rw [b1]; exact Row.nil _ _ _ _
    | true =>
      obtain ⟨a1, a2, a3⟩ := h1.good hr hg
      obtain ⟨b1, b2, b3⟩ := h2.good hr hg
      exact ⟨by rw [a2, b2], by rw [a3, b3], _, a1, b1⟩
theorem Ivs.only2 {w w' : World} {ao cap L} {F : Nat → Prop} (h : Ivs w ao cap L) (ho : Only F w w') (hne : L ≠ [] → ∀ b o, ao = some ⟨b, o, none⟩ → ¬ F b) : Ivs w' ao cap L :=
  ⟨h.le, h.mx, h.fit, fun hn => by
    obtain ⟨b, o, e, hA⟩ := h.out hn
    have hk : w'.heap[b]? = w.heap[b]? := ho.block b hA.lt (hne hn b o e)
    refine ⟨b, o, e, by have := ho.size; have := hA.lt; omega, fun i hi => ?_⟩
    rw [World.cell?_of_block (a := ⟨b, o + i * 3, none⟩) hk, World.cell?_of_block (a := ⟨b, o + i * 3 + 1, none⟩) hk, World.cell?_of_block (a := ⟨b, o + i * 3 + 2, none⟩) hk]
    exact hA.cell i hi⟩
set_option maxRecDepth 100000 in
set_option maxHeartbeats 4000000 in
theorem stays_any2 (w : World) (ao : Option Addr) (n c : Nat) (L : List Iv) (hn : n = L.length) (h : Ivs w ao c L) (B g k2 : Nat) (hg : L ≠ [] → ∀ b o, ao = some ⟨b, o, none⟩ → b ≠ g) (hR : Row w B 35 3 (.slice (some ⟨g, 0, none⟩) (n + 2) k2) ((L ++ [m71, m72]).map vc)) (hl : n ≤ 90000000) :
    Calls Try.prog 12 #[.slice ao n c, .slice (some ⟨g, 0, none⟩) n k2] w fun e w' => e = .returned (.bool true) ∧ Only (fun k => k = g) w w' := by
  have HN : Hid (n = L.length) := hn
  have hnc : n ≤ c := by have := h.le; omega
  have hcm : c ≤ 9223372036854775807 := h.mx
  have HH : Hid (Ivs w ao c L) := h
  have HG : Hid (L ≠ [] → ∀ b o, ao = some ⟨b, o, none⟩ → b ≠ g) := hg
  have HR : Hid (Row w B 35 3 (.slice (some ⟨g, 0, none⟩) (n + 2) k2) ((stK L 0).map vc)) := by simpa [stK, Hid] using hR
  obtain ⟨_, _, _, e, q0, q1, q2⟩ := row_sl hR
  cases e
  clear q0
  have hlen : (L ++ [m71, m72]).length = n + 2 := by simp [hn]
  obtain ⟨a0, a1, a2⟩ := row_vc hR hlen.symm (k := n) (by omega)
  obtain ⟨b0, b1, b2⟩ := row_vc hR hlen.symm (k := n + 1) (by omega)
  have e1 : (L ++ [m71, m72])[n]'(by omega) = m71 := by rw [List.getElem_append_right (by omega)]; simp [hn]
  have e2 : (L ++ [m71, m72])[n + 1]'(by omega) = m72 := by rw [List.getElem_append_right (by omega)]; simp [hn]
  rw [e1] at a0 a1 a2
  rw [e2] at b0 b1 b2
  simp only [m71, m72] at a0 a1 a2 b0 b1 b2
  have hgl := (own_block hR.out (g := g) rfl).2
  clear h hn hg hR hlen e1 e2
  go_enter Try.func12, Try.ntmps12
  go_wp2_with fail
  clear a0 a1 a2 b0 b1 b2
  go_loopw [6, 7] (fun u v wr => ∃ k : Nat, k ≤ n ∧ v = .int .i64 k ∧ u = .bool true ∧ Hid (Row wr B 35 3 (.slice (some ⟨g, 0, none⟩) (n + 2) k2) ((stK L k).map vc)) ∧ Hid (Only (fun k => k = g) w wr)) (fun _ v _ => n - (intOf v).toNat)
  case atStart => exact ⟨0, by omega, rfl, rfl, HR.out, Only.refl _ _⟩
  case round =>
    obtain ⟨k, hk, rfl, rfl, HR, HO⟩ := hrel
    obtain ⟨wq, rfl⟩ : ∃ wq, wq = wr := ⟨_, rfl⟩
    by_cases hlt : k < n
    · have hk2 : k < L.length := by have := HN.out; omega
      obtain ⟨b, o, rfl, hbw, c0, c1, c2⟩ := (HH.out.only2 HO.out (fun hn b o e q => HG.out hn b o e q)).at hk2
      have hsl := stK_len (L := L) (k := k) (by omega)
      obtain ⟨d0, d1, d2⟩ := row_vc HR.out (by have := HN.out; omega) (k := k) (by omega)
      rw [stK_at hk2] at d0 d1 d2
      have fz := fun j => own_fz (g := g) (by have := HR.out.out; rw [show (List.map vc (stK L k)).length = n + 2 by rw [List.length_map, hsl, ← HN.out]] at this; exact this) j
      have fz0 := fz (k * 3)
      have fz1 := fz (k * 3 + 1)
      have fz2 := fz (k * 3 + 2)
      have hgq := (own_block HR.out.out (g := g) rfl).2
      have HST : Hid (∀ nq, Row ((((wq.drewN nq).setCell ⟨g, k * 3, none⟩ (.int .i64 (-73))).setCell ⟨g, k * 3 + 1, none⟩ (.int .i64 0)).setCell ⟨g, k * 3 + 2, none⟩ (.int .i64 0)) B 35 3 (.slice (some ⟨g, 0, none⟩) (n + 2) k2) ((stK L (k + 1)).map vc)) := fun nq => by
        have := row_vc_set (HR.out.keep (below_drewN0 wq nq)) (by have := HN.out; omega) (q := k) (by omega) m73
        rw [stK_step hk2] at this
        exact this
      have HO2 : Hid (∀ nq, Only (fun k => k = g) w ((((wq.drewN nq).setCell ⟨g, k * 3, none⟩ (.int .i64 (-73))).setCell ⟨g, k * 3 + 1, none⟩ (.int .i64 0)).setCell ⟨g, k * 3 + 2, none⟩ (.int .i64 0))) := fun nq =>
        (((only_drewN HO.out nq).trans (Only.of_set _ ⟨g, k * 3, none⟩ _) (fun _ _ q => q)).trans (Only.of_set _ ⟨g, k * 3 + 1, none⟩ _) (fun _ _ q => q)).trans (Only.of_set _ ⟨g, k * 3 + 2, none⟩ _) (fun _ _ q => q)
      generalize L[k] = y at c0 c1 c2 d0 d1 d2
      obtain ⟨y0, y1, y2⟩ := y
      simp only at c0 c1 c2 d0 d1 d2
      clear hsl fz hk2
      have hlt2 : (k : Int) < (n : Int) + 2 := by omega
      go_wp2_with fail
      go_quiet (fail)
      go_wp2_with fail
      go_roundw
      case rel => exact ⟨k + 1, by omega, by go_num, rfl, HST.out _, HO2.out _⟩
      case measure => simp [intOf]; omega
    · obtain rfl : k = n := by omega
      go_wp2_with fail
      go_ret
      exact ⟨rfl, HO.out⟩
theorem row_only {w w' : World} {B e z v xs} {F : Nat → Prop} (h : Row w B e z v xs) (ho : Only F w w') (hF : ∀ g, v.ownBlock = some g → ¬ F g) : Row w' B e z v xs := h.move fun g hg => ho.block g (own_block h.out hg).2 (hF g hg)
set_option maxRecDepth 100000 in
set_option maxHeartbeats 8000000 in
theorem scanExact_any (w : World) (ao : Option Addr) (n c : Nat) (L : List Iv) (hn : n = L.length) (h : Ivs w ao c L) (regs : Int) : Calls Try.prog 3 #[.slice ao n c, .int .i64 regs] w fun e w' => e = .returned (.bool true) ∧ Below w.heap.size w w' := by
  have HN : Hid (n = L.length) := hn
  have hnc : n ≤ c := by have := h.le; omega
  have hcm : c ≤ 9223372036854775807 := h.mx
  have HH : Hid (Ivs w ao c L) := h
  have HAL : Hid (Calls Try.prog 9 #[] w fun e w' => e = .returned (.bool true) ∧ Below w.heap.size w w') := alive_any w
  clear h hn
  by_cases hbig : 3000 < n
  · have q1 : decide ((3000 : Int) < (n : Int)) = true := by simp; omega
    go_enter Try.func3, Try.ntmps3
    go_wp2_with (go_at_call 9; refine Calls.mono HAL.out ?_; rintro e w1 ⟨rfl, hb1⟩; have HB1 : Hid (Below w.heap.size w w1) := hb1; clear hb1)
    go_ret
    exact ⟨rfl, HB1.out⟩
  have q1 : decide ((3000 : Int) < (n : Int)) = false := by simp; omega
  go_enter Try.func3, Try.ntmps3
  go_wp2_with fail
  refine Calls.mono HAL.out ?_
  rintro e w1 ⟨rfl, hb1⟩
  have HB1 : Hid (Below w.heap.size w w1) := hb1
  have HI1 : Hid (Ivs w1 ao c L) := HH.out.below hb1 (Nat.le_refl _)
  clear hb1 HAL
  go_wp2_with fail
  refine Calls.mono (lent_any w1 ao n c L HN.out HI1.out (by omega)) ?_
  rintro e w2 ⟨g, k, rfl, R2, hb2⟩
  have HR2 : Hid (Row w2 w1.heap.size 35 3 (.slice (some ⟨g, 0, none⟩) (n + 2) k) ((L ++ [m71, m72]).map vc)) := R2
  have HB2 : Hid (Below w1.heap.size w1 w2) := hb2
  have HI2 : Hid (Ivs w2 (some ⟨g, 0, none⟩) k L) := row_pre R2 (by simp [HN.out]) HI1.out.fit
  clear R2 hb2
  go_wp2_with fail
  refine Calls.mono (scan_any w2 _ n k L HN.out HI2.out regs (by omega)) ?_
  rintro e w3 ⟨va, na, ea, rfl, A⟩
  have HA : Hid (ScAns w2 w3 L regs va na ea) := A
  have HB3 : Hid (Below w2.heap.size w2 w3) := A.bel
  have HR3 : Hid (Row w3 w1.heap.size 35 3 (.slice (some ⟨g, 0, none⟩) (n + 2) k) ((L ++ [m71, m72]).map vc)) := HR2.out.keep A.bel
  have HI3 : Hid (Ivs w3 ao c L) := (HI1.out.below HB2.out (Nat.le_refl _)).below HB3.out (Nat.le_refl _)
  clear A
  have HGB : Hid (L ≠ [] → ∀ b o, ao = some ⟨b, o, none⟩ → b ≠ g) := fun hne b o e => by
    obtain ⟨b', o', e', hA⟩ := HI1.out.out hne
    rw [e] at e'
    cases e'
    have := (own_block HR2.out.out (g := g) rfl).1
    have := hA.lt
    omega
  obtain ⟨po, pn, pk, rfl, hpn, _, _⟩ : ∃ o n k, va = .slice o n k ∧ True ∧ n ≤ k ∧ k ≤ 9223372036854775807 := by
    obtain ⟨_, _, P, R, _⟩ := ans_same HA.out HA.out
    obtain ⟨o, n, k, e, _, h1, h2⟩ := row_sl R
    exact ⟨o, n, k, e, trivial, h1, h2⟩
  clear hpn
  go_wp2_with fail
  refine Calls.mono (stays_any2 w3 ao n c L HN.out HI3.out w1.heap.size g k HGB.out HR3.out (by omega)) ?_
  rintro e w4 ⟨rfl, ho⟩
  have HO4 : Hid (Only (fun k => k = g) w3 w4) := ho
  have HI4 : Hid (Ivs w4 ao c L) := HI3.out.only2 ho (fun hne b o e q => HGB.out hne b o e q)
  have HB4 : Hid (Below w.heap.size w w4) := by
    have hg1 := (own_block HR2.out.out (g := g) rfl).1
    have hs1 := HB1.out.size
    have h13 : Below w1.heap.size w1 w3 := HB2.out.trans (HB3.out.mono HB2.out.size)
    have hb34 : Below w.heap.size w3 w4 := ho.below (by have := h13.size; omega) (fun k e => by have e' : k = g := e; omega)
    exact (HB1.out.trans (h13.mono hs1)).trans hb34
  clear ho
  go_wp2_with fail
  refine Calls.mono (refScan_any w4 ao n c L HN.out HI4.out regs (by omega)) ?_
  rintro e w5 ⟨vb, nb, eb, rfl, B⟩
  obtain ⟨rfl, rfl, P, RA, RB⟩ := ans_same HA.out B
  have HB5 : Hid (Below w.heap.size w w5) := HB4.out.trans (B.bel.mono HB4.out.size)
  have RA4 : Row w4 w2.heap.size 37 2 (.slice po pn pk) (P.map lc) := row_only RA HO4.out (fun q hq e => by
    have h1 := (own_block RA.out hq).1
    have h2 := (own_block HR2.out.out (g := g) rfl).2
    have e' : q = g := e
    omega)
  obtain ⟨a1, c1, e1, LA⟩ := row_lcs (RA4.keep B.bel)
  obtain ⟨a2, c2, e2, LB⟩ := row_lcs RB
  simp only [Value.slice.injEq] at e1
  obtain ⟨rfl, hpn, rfl⟩ := e1
  subst e2
  have HSM : Hid (Calls Try.prog 14 #[.slice po pn pk, .slice a2 P.length c2] w5 fun e w' => e = .returned (.bool true) ∧ Below w5.heap.size w5 w') := by
    refine (sameL_any w5 LA LB hpn rfl).mono ?_
    rintro e w' ⟨rfl, hb⟩
    exact ⟨by simp, hb⟩
  clear LA LB RA RB RA4 B hpn
  generalize P.length = pl at HSM ⊢
  go_wp2_with fail
  refine Calls.mono HSM.out ?_
  rintro e w6 ⟨rfl, hb6⟩
  have HB6 : Hid (Below w.heap.size w w6) := HB5.out.trans (hb6.mono HB5.out.size)
  clear hb6
  go_wp2_with fail
  go_ret
  exact ⟨rfl, HB6.out⟩
end Go.Proofs.Ytpgbkkllnbahpaa
