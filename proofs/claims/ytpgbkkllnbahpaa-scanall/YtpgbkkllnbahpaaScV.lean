import Derived.Test.YtpgbkkllnbahpaaScU
import Derived.Test.YtpgbkkllnbahpaaRwB
set_option linter.unusedVariables false
set_option linter.unusedSimpArgs false
namespace Go.Proofs.Ytpgbkkllnbahpaa
open Go.ChangeShapes Go.WideShapes Go.ChangeAt Go.RowKit Go.Maps

/-- A slice of places that holds P. -/
structure Lcs (w : World) (ao : Option Addr) (cap : Nat) (P : List Lc) : Prop where
  le : P.length ≤ cap
  mx : cap ≤ 9223372036854775807
  out : P ≠ [] → ∃ b o, ao = some ⟨b, o, none⟩ ∧ b < w.heap.size ∧ ∀ i (h : i < P.length), w.cell? ⟨b, o + i * 2, none⟩ = some (.int .i64 P[i].1) ∧ w.cell? ⟨b, o + i * 2 + 1, none⟩ = some (.int .i64 P[i].2)
theorem Lcs.below {w w' ao cap P} (h : Lcs w ao cap P) (hb : Below w.heap.size w w') : Lcs w' ao cap P :=
  ⟨h.le, h.mx, fun hn => by
    obtain ⟨b, o, e, hl, hc⟩ := h.out hn
    refine ⟨b, o, e, by have := hb.size; omega, fun i hi => ?_⟩
    rw [hb.cell (p := ⟨b, o + i * 2, none⟩) hl, hb.cell (p := ⟨b, o + i * 2 + 1, none⟩) hl]
    exact hc i hi⟩
theorem Lcs.at {w ao cap P} (h : Lcs w ao cap P) {i : Nat} (hi : i < P.length) : ∃ b o, ao = some ⟨b, o, none⟩ ∧ b < w.heap.size ∧ w.cell? ⟨b, o + i * 2, none⟩ = some (.int .i64 P[i].1) ∧ w.cell? ⟨b, o + i * 2 + 1, none⟩ = some (.int .i64 P[i].2) := by
  obtain ⟨b, o, e, hl, hc⟩ := h.out (by rintro rfl; simp at hi)
  exact ⟨b, o, e, hl, hc i hi⟩
theorem row_lcs {w : World} {B : Nat} {v : Value} {P : List Lc} (h : Row w B 37 2 v (P.map lc)) : ∃ ao c, v = .slice ao P.length c ∧ Lcs w ao c P := by
  obtain ⟨ao, n, c, e, hn, h1, h2⟩ := row_sl h
  simp at hn
  subst hn
  subst e
  refine ⟨ao, c, rfl, h1, h2, fun hne => ?_⟩
  obtain ⟨g, c', e, _, _, _, hg⟩ := own_some h.out (by simp; exact List.length_pos_iff.2 hne)
  simp only [Value.slice.injEq] at e
  obtain ⟨rfl, _, _⟩ := e
  exact ⟨g, 0, rfl, hg, fun i hi => by simpa using row_lc h rfl hi⟩
theorem below_drewN0 (w : World) (n : Nat) : Below w.heap.size w (w.drewN n) := below_dn (Below.refl _ _) n
set_option maxRecDepth 100000 in
set_option maxHeartbeats 4000000 in
theorem sameL_any (w : World) {aa ba : Option Addr} {n m ac bc : Nat} {P Q : List Lc} (hA : Lcs w aa ac P) (hB : Lcs w ba bc Q) (hn : n = P.length) (hm : m = Q.length) :
    Calls Try.prog 14 #[.slice aa n ac, .slice ba m bc] w fun e w' => e = .returned (.bool (decide (P = Q))) ∧ Below w.heap.size w w' := by
  have hmx : n ≤ 9223372036854775807 := by have := hA.le; have := hA.mx; omega
  have hmx2 : m ≤ 9223372036854775807 := by have := hB.le; have := hB.mx; omega
  have HA : Hid (Lcs w aa ac P) := hA
  have HB : Hid (Lcs w ba bc Q) := hB
  have HN : Hid (n = P.length) := hn
  have HM : Hid (m = Q.length) := hm
  by_cases hnm : n = m
  · subst hnm
    clear hA hB hn hm
    go_enter Try.func14, Try.ntmps14
    go_wp2_with fail
    go_loopw [5] (fun v wr => ∃ k : Nat, k ≤ n ∧ v = .int .i64 k ∧ Hid (P.take k = Q.take k) ∧ Hid (Below w.heap.size w wr)) (fun v _ => n - (intOf v).toNat)
    case atStart => exact ⟨0, by omega, rfl, rfl, Below.refl _ _⟩
    case round =>
      obtain ⟨k, hk, rfl, HE, HW⟩ := hrel
      obtain ⟨wq, rfl⟩ : ∃ wq, wq = wr := ⟨_, rfl⟩
      by_cases hlt : k < n
      · have hkf : k < P.length := by have := HN.out; omega
        have hkg : k < Q.length := by have := HM.out; omega
        obtain ⟨b, o, rfl, hbl, c0, c1⟩ := (HA.out.below HW.out).at hkf
        obtain ⟨b2, o2, rfl, hbl2, d0, d1⟩ := (HB.out.below HW.out).at hkg
        have HT : Hid (P[k] = Q[k] → P.take (k + 1) = Q.take (k + 1)) := fun q => by
          rw [← List.take_append_getElem hkf, ← List.take_append_getElem hkg, HE.out, q]
        have HF : Hid (P[k] ≠ Q[k] → decide (P = Q) = false) := fun q => decide_eq_false fun e => q (by subst e; rfl)
        clear HE
        generalize P[k] = x at c0 c1 HT HF
        generalize Q[k] = y at d0 d1 HT HF
        obtain ⟨x1, x2⟩ := x
        obtain ⟨y1, y2⟩ := y
        simp only at c0 c1 d0 d1
        clear hkf hkg
        by_cases h1 : x1 = y1
        · subst h1
          by_cases h2 : x2 = y2
          · subst h2
            have HE2 := show Hid _ from HT.out rfl
            clear HT HF
            go_wp2_with fail
            go_quiet (fail)
            go_wp2_with fail
            go_roundw
            case rel => exact ⟨k + 1, by omega, by go_num, HE2.out, HW.out.trans ((below_drewN0 _ _).mono HW.out.size)⟩
            case measure => simp [intOf]; omega
          · have HX := show Hid _ from HF.out (by simp [h2])
            have e2 : (x2 == y2) = false := by simpa using h2
            clear HT HF
            go_wp2_with fail
            go_quiet (fail)
            go_wp2_with fail
            go_ret
            exact ⟨by first | (rw [HX.out]; done) | (rw [HX.out]; rfl), HW.out.trans ((below_drewN0 _ _).mono HW.out.size)⟩
        · have HX := show Hid _ from HF.out (by simp [h1])
          have e2 : (x1 == y1) = false := by simpa using h1
          clear HT HF
          go_wp2_with fail
          go_quiet (fail)
          go_wp2_with fail
          go_ret
          exact ⟨by first | (rw [HX.out]; done) | (rw [HX.out]; rfl), HW.out.trans ((below_drewN0 _ _).mono HW.out.size)⟩
      · obtain rfl : k = n := by omega
        have HX : Hid (decide (P = Q) = true) := decide_eq_true (by
          have := HE.out
          rwa [List.take_of_length_le (by have := HN.out; omega), List.take_of_length_le (by have := HM.out; omega)] at this)
        go_wp2_with fail
        go_ret
        exact ⟨by first | (rw [HX.out]; done) | (rw [HX.out]; rfl), HW.out⟩
  · have HX : Hid (decide (P = Q) = false) := decide_eq_false fun e => hnm (by rw [hn, hm, e])
    have e1 : ((n : Int) == (m : Int)) = false := by simp; omega
    clear hA hB hn hm
    go_enter Try.func14, Try.ntmps14
    go_wp2_with fail
    go_ret
    exact ⟨by first | (rw [HX.out]; done) | (rw [HX.out]; rfl), Below.refl _ _⟩
/-- append(v, l...) of intervals. -/
theorem run_append_ivs {w : World} {B : Nat} {v : Value} {A l : List Iv} (h : Row w B 35 3 v (A.map vc)) {xo : Option Addr} {m c : Nat} (hm : m = l.length) (hl : Ivs w xo c l) (hs : A.length + m ≤ 1000000000) (hB : B ≤ w.heap.size) :
    ∃ v' w', (Builtin.append_ #[22, 22] 22 #[v, .slice xo m c]).run Try.prog w = .ok v' w' ∧ Row w' B 35 3 v' ((A ++ l).map vc) ∧ GI B w w' v v' := by
  obtain ⟨i0, hi, hz0, hz1, hz2⟩ := info_parts info_iv
  by_cases h0 : l = []
  · subst h0
    simp at hm
    subst hm
    have hr := run_append_zeroR (P := Try.prog) (w := w) B 22 22 35 i0 3 Try.underlying22 hi v _ _ h.out xo c
    exact ⟨v, w, hr, by simpa using h, Below.refl _ _, fun _ _ _ => rfl, fun g hg => .inl hg⟩
  · obtain ⟨b, o, rfl, hA⟩ := hl.out h0
    have hlen : ∀ y ∈ l.map vc, y.length = 3 := fun y hy => by obtain ⟨_, _, rfl⟩ := List.mem_map.1 hy; rfl
    have hp : 0 < m := by rw [hm]; exact List.length_pos_iff.2 h0
    obtain ⟨v', w', hr, h2, h3, h4⟩ := run_append_where (P := Try.prog) (w := w) B 22 22 35 i0 _ 3 24 Try.underlying22 hi hz0 hz1 hz2 rfl (by decide) v _ _ h.out ⟨b, o, none⟩ m c hp (l.map vc).flatten (by rw [flat_len _ hlen]; simp [hm]) (fun j u hu => by
      have hj : j < l.length * 3 := by have := (List.getElem?_eq_some_iff.1 hu).1; rw [flat_len _ hlen] at this; simpa using this
      have hq := flat_at (l.map vc) hlen (j / 3) (by simp; omega) (j % 3) (by omega)
      rw [show j / 3 * 3 + j % 3 = j by omega, hu] at hq
      obtain ⟨k0, k1, k2⟩ := hA.cell (j / 3) (by omega)
      rw [add_none, show o + j = o + j / 3 * 3 + j % 3 by omega]
      simp only [List.getElem_map, vc] at hq
      have h3 : j % 3 = 0 ∨ j % 3 = 1 ∨ j % 3 = 2 := by omega
      rcases h3 with e | e | e <;> rw [e] at hq ⊢ <;> simp at hq <;> rw [hq]
      · exact k0
      · exact k1
      · exact k2) (flat_at_mem one_vc) (by simp; unfold maxLen; omega) (by simp; omega) hB
    refine ⟨v', w', hr, ⟨by simpa [hm] using h2, fun y hy => by obtain ⟨_, _, rfl⟩ := List.mem_map.1 hy; rfl⟩, (Below.refl _ _).grown h3 hB (fun k hk => (own_block h.out hk).1), fun b h5 h6 => grown_at h3 h5 h6, fun b hb => ?_⟩
    rcases h4.out with ⟨g', cap, e1, e2⟩ | ⟨e1, _⟩
    · rw [e2] at hb; rw [e1]; exact .inl hb
    · rw [e1] at hb; cases hb; right; exact Nat.le_refl _
def m71 : Iv := (-71, 0, 0)
def m72 : Iv := (-72, 0, 0)
def m73 : Iv := (-73, 0, 0)
theorem fit_m {x : Int} (h : -100 ≤ x ∧ x ≤ 0) : FitV (x, 0, 0) := ⟨by simp only; omega, by simp only; omega, by simp only; omega⟩
theorem gi_nil {B : Nat} {w w' : World} {v' : Value} (g : GI B w w' (.slice none 0 0) v') : Below w.heap.size w w' := ⟨g.bel.os, g.bel.tape, g.bel.output, g.bel.size, fun k hk => g.blk k hk (by simp [Value.ownBlock])⟩
set_option maxRecDepth 100000 in
set_option maxHeartbeats 4000000 in
theorem lent_any (w : World) (ao : Option Addr) (n c : Nat) (L : List Iv) (hn : n = L.length) (h : Ivs w ao c L) (hl : n ≤ 90000000) :
    Calls Try.prog 10 #[.slice ao n c] w fun e w' => ∃ g k, e = .returned (.slice (some ⟨g, 0, none⟩) n k) ∧ Row w' w.heap.size 35 3 (.slice (some ⟨g, 0, none⟩) (n + 2) k) ((L ++ [m71, m72]).map vc) ∧ Below w.heap.size w w' := by
  obtain ⟨v1, w1, hr1, R1, G1⟩ := run_append_ivs (A := []) (Row.nil w w.heap.size 35 3) hn h (by simp; omega) (Nat.le_refl _)
  have hb1 := gi_nil G1
  have hM : Ivs (w1.alloc (.cells #[.int .i64 (-71), .int .i64 0, .int .i64 0, .int .i64 (-72), .int .i64 0, .int .i64 0] 35)) (some ⟨w1.heap.size, 0, none⟩) 2 [m71, m72] := by
    have hh := heap_alloc_new w1 (.cells #[.int .i64 (-71), .int .i64 0, .int .i64 0, .int .i64 (-72), .int .i64 0, .int .i64 0] 35)
    refine ⟨by simp, by omega, fun x hx => by simp at hx; rcases hx with rfl | rfl <;> exact fit_m (by omega), fun _ => ⟨_, 0, rfl, (Array.getElem?_eq_some_iff.1 hh).1, fun i hi => ?_⟩⟩
    simp only [List.length_cons, List.length_nil] at hi
    have hi2 : i = 0 ∨ i = 1 := by omega
    rcases hi2 with rfl | rfl
    · exact ⟨cell_arr hh rfl, cell_arr hh rfl, cell_arr hh rfl⟩
    · exact ⟨cell_arr hh rfl, cell_arr hh rfl, cell_arr hh rfl⟩
  rw [List.nil_append] at R1
  obtain ⟨v2, w2, hr2, R2, G2⟩ := run_append_ivs (R1.keep ((Below.refl _ _).alloc (Nat.le_refl _) _)) rfl hM (by simp; omega) (by have := hb1.size; simp; omega)
  have G3 := gi_alloc G2 hb1.size
  obtain ⟨g, k, e, _, _, _, hgl⟩ := own_some R2.out (by simp)
  have e9 : (List.map vc (L ++ [m71, m72])).length = n + 2 := by simp [hn]
  rw [e9] at e
  subst e
  have HR : Hid (Row w2 w.heap.size 35 3 (.slice (some ⟨g, 0, none⟩) (n + 2) k) ((L ++ [m71, m72]).map vc)) := R2
  have HB : Hid (Below w.heap.size w w2) := ⟨by rw [G3.bel.os, hb1.os], by rw [G3.bel.tape, hb1.tape], by rw [G3.bel.output, hb1.output], Nat.le_trans hb1.size G3.size, fun q hq => by
    rw [G3.blk q (Nat.lt_of_lt_of_le hq hb1.size) (fun e => by rcases G1.own q e with h | h; simp [Value.ownBlock] at h; omega), hb1.block q hq]⟩
  have hk2 : n + 2 ≤ k := by have := (row_sl R2); obtain ⟨_, _, _, e, _, h1, _⟩ := this; cases e; exact h1
  have hkm : k ≤ 9223372036854775807 := by have := (row_sl R2); obtain ⟨_, _, _, e, _, _, h1⟩ := this; cases e; exact h1
  clear R1 R2 G1 G2 G3 hM hb1 h hn e9
  go_enter Try.func10, Try.ntmps10
  go_wp2_with (first
    | (at_builtin; refine wpList_append_run rfl _ _ 22 22 rfl _ _ rfl rfl hr2 ?_)
    | (at_builtin; refine wpList_append_run rfl _ _ 22 22 rfl _ _ rfl rfl hr1 ?_))
  go_ret
  exact ⟨g, k, rfl, HR.out, HB.out⟩
end Go.Proofs.Ytpgbkkllnbahpaa
