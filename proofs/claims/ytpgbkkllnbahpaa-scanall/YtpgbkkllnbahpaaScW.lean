import Derived.Test.YtpgbkkllnbahpaaScV
set_option linter.unusedVariables false
set_option linter.unusedSimpArgs false
namespace Go.Proofs.Ytpgbkkllnbahpaa
open Go.ChangeShapes Go.WideShapes Go.ChangeAt Go.RowKit Go.Maps

theorem vc_set : ∀ (P : List Iv) (q : Nat) (p : Iv), q < P.length → (((P.map vc).flatten.set (q * 3) (.int .i64 p.1)).set (q * 3 + 1) (.int .i64 p.2.1)).set (q * 3 + 2) (.int .i64 p.2.2) = ((P.set q p).map vc).flatten
  | [], q, p, h => by simp at h
  | x :: P, 0, p, _ => by simp [vc]
  | x :: P, q + 1, p, h => by
    have := vc_set P q p (by simpa using h)
    have e : ((x :: P).map vc).flatten = .int .i64 x.1 :: .int .i64 x.2.1 :: .int .i64 x.2.2 :: (P.map vc).flatten := rfl
    rw [e, show (q + 1) * 3 = q * 3 + 1 + 1 + 1 by omega]
    simp only [List.set_cons_succ, this, List.map_cons, List.flatten_cons]
    rfl
theorem row_vc_set {w : World} {B b n c : Nat} {P : List Iv} (h : Row w B 35 3 (.slice (some ⟨b, 0, none⟩) n c) (P.map vc)) (hn : n = P.length) {q : Nat} (hq : q < P.length) (p : Iv) : Row (((w.setCell ⟨b, q * 3, none⟩ (.int .i64 p.1)).setCell ⟨b, q * 3 + 1, none⟩ (.int .i64 p.2.1)).setCell ⟨b, q * 3 + 2, none⟩ (.int .i64 p.2.2)) B 35 3 (.slice (some ⟨b, 0, none⟩) n c) ((P.set q p).map vc) := by
  have e1 : (P.map vc).length = n := by simp [hn]
  have e2 : ((P.set q p).map vc).length = n := by simp [hn]
  have h0 := h.out
  rw [e1] at h0
  have h1 := own_set (own_set (own_set h0 (q * 3) (by omega) (.int .i64 p.1)) (q * 3 + 1) (by omega) (.int .i64 p.2.1)) (q * 3 + 2) (by omega) (.int .i64 p.2.2)
  rw [vc_set P q p hq] at h1
  refine ⟨by rw [e2]; exact h1, fun y hy => ?_⟩
  obtain ⟨z, _, rfl⟩ := List.mem_map.1 hy
  rfl
theorem Ivs.only {w w' : World} {ao cap L} {F : Nat → Prop} (h : Ivs w ao cap L) (ho : Only F w w') (hne : ∀ b o, ao = some ⟨b, o, none⟩ → ¬ F b) : Ivs w' ao cap L :=
  ⟨h.le, h.mx, h.fit, fun hn => by
    obtain ⟨b, o, e, hA⟩ := h.out hn
    have hk : w'.heap[b]? = w.heap[b]? := ho.block b hA.lt (hne b o e)
    refine ⟨b, o, e, by have := ho.size; have := hA.lt; omega, fun i hi => ?_⟩
    rw [World.cell?_of_block (a := ⟨b, o + i * 3, none⟩) hk, World.cell?_of_block (a := ⟨b, o + i * 3 + 1, none⟩) hk, World.cell?_of_block (a := ⟨b, o + i * 3 + 2, none⟩) hk]
    exact hA.cell i hi⟩
theorem only_drewN {F : Nat → Prop} {a w : World} (h : Only F a w) (n : Nat) : Only F a (w.drewN n) := ⟨h.os, h.tape, h.output, h.size, h.block⟩
def stK (L : List Iv) (k : Nat) : List Iv := List.replicate k m73 ++ L.drop k ++ [m71, m72]
theorem stK_len {L : List Iv} {k : Nat} (h : k ≤ L.length) : (stK L k).length = L.length + 2 := by simp [stK]; omega
theorem stK_at {L : List Iv} {k : Nat} (h : k < L.length) : (stK L k)[k]'(by rw [stK_len (by omega)]; omega) = L[k] := by
  unfold stK
  rw [List.getElem_append_left (by simp; omega), List.getElem_append_right (by simp)]
  simp
theorem stK_step {L : List Iv} {k : Nat} (h : k < L.length) : (stK L k).set k m73 = stK L (k + 1) := by
  unfold stK
  rw [List.drop_eq_getElem_cons h, List.replicate_succ', List.append_assoc, List.set_append_right _ _ (by simp), List.length_replicate, Nat.sub_self, List.cons_append, List.set_cons_zero, List.append_assoc, List.append_assoc]
  rfl
set_option maxRecDepth 100000 in
set_option maxHeartbeats 4000000 in
theorem stays_any (w : World) (ao : Option Addr) (n c : Nat) (L : List Iv) (hn : n = L.length) (h : Ivs w ao c L) (B g k2 : Nat) (hg : ∀ b o, ao = some ⟨b, o, none⟩ → b ≠ g) (hR : Row w B 35 3 (.slice (some ⟨g, 0, none⟩) (n + 2) k2) ((L ++ [m71, m72]).map vc)) (hl : n ≤ 90000000) :
    Calls Try.prog 12 #[.slice ao n c, .slice (some ⟨g, 0, none⟩) n k2] w fun e w' => e = .returned (.bool true) ∧ Only (fun k => k = g) w w' := by
  have HN : Hid (n = L.length) := hn
  have hnc : n ≤ c := by have := h.le; omega
  have hcm : c ≤ 9223372036854775807 := h.mx
  have HH : Hid (Ivs w ao c L) := h
  have HG : Hid (∀ b o, ao = some ⟨b, o, none⟩ → b ≠ g) := hg
  have HR : Hid (Row w B 35 3 (.slice (some ⟨g, 0, none⟩) (n + 2) k2) ((stK L 0).map vc)) := by simpa [stK, Hid] using hR
  obtain ⟨_, _, _, e, q0, q1, q2⟩ := row_sl hR
  cases e
  clear q0
  have hlen : (L ++ [m71, m72]).length = n + 2 := by simp [hn]
  obtain ⟨a0, a1, a2⟩ := row_vc hR hlen.symm (k := n) (by omega)
  obtain ⟨b0, b1, b2⟩ := row_vc hR hlen.symm (k := n + 1) (by omega)
  have e1 : (L ++ [m71, m72])[n]'(by omega) = m71 := by rw [List.getElem_append_right (by omega)]; simp [hn]
  have e2 : (L ++ [m71, m72])[n + 1]'(by omega) = m72 := by rw [List.getElem_append_right (by omega)]; simp [hn]
  rw [e1] at a0 a1 a2
  rw [e2] at b0 b1 b2
  simp only [m71, m72] at a0 a1 a2 b0 b1 b2
  have hgl := (own_block hR.out (g := g) rfl).2
  clear h hn hg hR hlen e1 e2
  go_enter Try.func12, Try.ntmps12
  go_wp2_with fail
  clear a0 a1 a2 b0 b1 b2
  go_loopw [6, 7] (fun u v wr => ∃ k : Nat, k ≤ n ∧ v = .int .i64 k ∧ u = .bool true ∧ Hid (Row wr B 35 3 (.slice (some ⟨g, 0, none⟩) (n + 2) k2) ((stK L k).map vc)) ∧ Hid (Only (fun k => k = g) w wr)) (fun _ v _ => n - (intOf v).toNat)
  case atStart => exact ⟨0, by omega, rfl, rfl, HR.out, Only.refl _ _⟩
  case round =>
    obtain ⟨k, hk, rfl, rfl, HR, HO⟩ := hrel
    obtain ⟨wq, rfl⟩ : ∃ wq, wq = wr := ⟨_, rfl⟩
    by_cases hlt : k < n
    · have hk2 : k < L.length := by have := HN.out; omega
      obtain ⟨b, o, rfl, hbw, c0, c1, c2⟩ := (HH.out.only HO.out (fun b o e q => HG.out b o e q)).at hk2
      have hsl := stK_len (L := L) (k := k) (by omega)
      obtain ⟨d0, d1, d2⟩ := row_vc HR.out (by have := HN.out; omega) (k := k) (by omega)
      rw [stK_at hk2] at d0 d1 d2
      have fz := fun j => own_fz (g := g) (by have := HR.out.out; rw [show (List.map vc (stK L k)).length = n + 2 by rw [List.length_map, hsl, ← HN.out]] at this; exact this) j
      have fz0 := fz (k * 3)
      have fz1 := fz (k * 3 + 1)
      have fz2 := fz (k * 3 + 2)
      have hgq := (own_block HR.out.out (g := g) rfl).2
      have HST : Hid (∀ nq, Row ((((wq.drewN nq).setCell ⟨g, k * 3, none⟩ (.int .i64 (-73))).setCell ⟨g, k * 3 + 1, none⟩ (.int .i64 0)).setCell ⟨g, k * 3 + 2, none⟩ (.int .i64 0)) B 35 3 (.slice (some ⟨g, 0, none⟩) (n + 2) k2) ((stK L (k + 1)).map vc)) := fun nq => by
        have := row_vc_set (HR.out.keep (below_drewN0 wq nq)) (by have := HN.out; omega) (q := k) (by omega) m73
        rw [stK_step hk2] at this
        exact this
      have HO2 : Hid (∀ nq, Only (fun k => k = g) w ((((wq.drewN nq).setCell ⟨g, k * 3, none⟩ (.int .i64 (-73))).setCell ⟨g, k * 3 + 1, none⟩ (.int .i64 0)).setCell ⟨g, k * 3 + 2, none⟩ (.int .i64 0))) := fun nq =>
        (((only_drewN HO.out nq).trans (Only.of_set _ ⟨g, k * 3, none⟩ _) (fun _ _ q => q)).trans (Only.of_set _ ⟨g, k * 3 + 1, none⟩ _) (fun _ _ q => q)).trans (Only.of_set _ ⟨g, k * 3 + 2, none⟩ _) (fun _ _ q => q)
      generalize L[k] = y at c0 c1 c2 d0 d1 d2
      obtain ⟨y0, y1, y2⟩ := y
      simp only at c0 c1 c2 d0 d1 d2
      clear hsl fz hk2
      have hlt2 : (k : Int) < (n : Int) + 2 := by omega
      go_wp2_with fail
      go_quiet (fail)
      go_wp2_with fail
      go_roundw
      case rel => exact ⟨k + 1, by omega, by go_num, rfl, HST.out _, HO2.out _⟩
      case measure => simp [intOf]; omega
    · obtain rfl : k = n := by omega
      go_wp2_with fail
      go_ret
      exact ⟨rfl, HO.out⟩
theorem alv_good : gdB [(0, 0, 4), (1, 4, 6)] = true := by decide
theorem alv_scan : (scn [(0, 0, 4), (1, 4, 6)] 1).pl = [(1, 0), (2, 0)] ∧ (scn [(0, 0, 4), (1, 4, 6)] 1).sl = 1 := by decide
set_option maxRecDepth 100000 in
set_option maxHeartbeats 4000000 in
theorem alive_any (w : World) : Calls Try.prog 9 #[] w fun e w' => e = .returned (.bool true) ∧ Below w.heap.size w w' := by
  obtain ⟨w1, hw1⟩ : ∃ w1, w1 = w.alloc (.cells #[.int .i64 0, .int .i64 0, .int .i64 4, .int .i64 1, .int .i64 4, .int .i64 6] 35) := ⟨_, rfl⟩
  have hh := heap_alloc_new w (.cells #[.int .i64 0, .int .i64 0, .int .i64 4, .int .i64 1, .int .i64 4, .int .i64 6] 35)
  rw [← hw1] at hh
  have hI : Ivs w1 (some ⟨w.heap.size, 0, none⟩) 2 [(0, 0, 4), (1, 4, 6)] := by
    refine ⟨by simp, by omega, fun x hx => by simp at hx; rcases hx with rfl | rfl <;> exact ⟨by simp only; omega, by simp only; omega, by simp only; omega⟩, fun _ => ⟨_, 0, rfl, (Array.getElem?_eq_some_iff.1 hh).1, fun i hi => ?_⟩⟩
    simp only [List.length_cons, List.length_nil] at hi
    have hi2 : i = 0 ∨ i = 1 := by omega
    rcases hi2 with rfl | rfl
    · exact ⟨cell_arr hh rfl, cell_arr hh rfl, cell_arr hh rfl⟩
    · exact ⟨cell_arr hh rfl, cell_arr hh rfl, cell_arr hh rfl⟩
  have hb1 : Below w.heap.size w w1 := by rw [hw1]; exact (Below.refl _ _).alloc (Nat.le_refl _) _
  have HS : Hid (Calls Try.prog 11 #[.slice (some ⟨w.heap.size, 0, none⟩) 2 2, .int .i64 1] w1 fun e w' => ∃ v, e = .returned (.tuple #[v, .int .i64 1, .int .i64 0]) ∧ Row w' w1.heap.size 37 2 v ([(1, 0), (2, 0)].map lc) ∧ Below w1.heap.size w1 w') := by
    refine (scan_any w1 _ 2 2 _ rfl hI 1 (by omega)).mono ?_
    rintro e w' ⟨v, m, x, rfl, A⟩
    obtain ⟨h1, h2, h3⟩ := A.good (by omega) alv_good
    have e1 := alv_scan
    rw [show (1 : Int).toNat = 1 from rfl] at h1 h2
    rw [e1.1] at h1
    rw [e1.2] at h2
    subst h2 h3
    exact ⟨v, rfl, h1, A.bel⟩
  have HB1 : Hid (Below w.heap.size w w1) := hb1
  have HSM : Hid (∀ w2 v, Row w2 w1.heap.size 37 2 v ([(1, 0), (2, 0)].map lc) → Below w1.heap.size w1 w2 → Calls Try.prog 14 #[v, .slice (some ⟨w2.heap.size, 0, none⟩) 2 2] (w2.alloc (.cells #[.int .i64 1, .int .i64 0, .int .i64 2, .int .i64 0] 37)) fun e w' => e = .returned (.bool true) ∧ Below w.heap.size w w') := fun w2 v R hb => by
    obtain ⟨ao, c, rfl, hL⟩ := row_lcs R
    have h2 := heap_alloc_new w2 (.cells #[.int .i64 1, .int .i64 0, .int .i64 2, .int .i64 0] 37)
    have hM : Lcs (w2.alloc (.cells #[.int .i64 1, .int .i64 0, .int .i64 2, .int .i64 0] 37)) (some ⟨w2.heap.size, 0, none⟩) 2 [(1, 0), (2, 0)] := by
      refine ⟨by simp, by omega, fun _ => ⟨_, 0, rfl, (Array.getElem?_eq_some_iff.1 h2).1, fun i hi => ?_⟩⟩
      simp only [List.length_cons, List.length_nil] at hi
      have hi2 : i = 0 ∨ i = 1 := by omega
      rcases hi2 with rfl | rfl
      · exact ⟨cell_arr h2 rfl, cell_arr h2 rfl⟩
      · exact ⟨cell_arr h2 rfl, cell_arr h2 rfl⟩
    have ha : Below w2.heap.size w2 (w2.alloc (.cells #[.int .i64 1, .int .i64 0, .int .i64 2, .int .i64 0] 37)) := (Below.refl _ _).alloc (Nat.le_refl _) _
    refine (sameL_any _ (hL.below ha) hM rfl rfl).mono ?_
    rintro e w' ⟨rfl, hb'⟩
    have hs := hb1.size
    have hs2 := hb.size
    have hs3 := ha.size
    exact ⟨by simp, (hb1.trans (hb.mono hs)).trans ((ha.mono (by omega)).trans (hb'.mono (by omega)))⟩
  clear hI hh hb1
  go_enter Try.func9, Try.ntmps9
  go_wp2_with (first
    | (go_at_call 14; refine Calls.mono (HSM.out w2 _ HR.out HB2.out) ?_; rintro e w3 ⟨rfl, hb3⟩; have HB3 : Hid (Below w.heap.size w w3) := hb3; clear hb3)
    | (go_at_call 11; rw [← hw1]; refine Calls.mono HS.out ?_; rintro e w2 ⟨v2, rfl, R2, hb2⟩; obtain ⟨o2, n2, k2, rfl, hn2, _, _⟩ := row_sl R2; have HR : Hid (Row w2 w1.heap.size 37 2 (.slice o2 n2 k2) ([(1, 0), (2, 0)].map lc)) := R2; have HB2 : Hid (Below w1.heap.size w1 w2) := hb2; clear R2 hb2 hn2))
  go_ret
  exact ⟨rfl, HB3.out⟩
end Go.Proofs.Ytpgbkkllnbahpaa
