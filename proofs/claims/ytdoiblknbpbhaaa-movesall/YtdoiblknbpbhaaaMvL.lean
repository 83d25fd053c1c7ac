import Derived.Test.YtdoiblknbpbhaaaMvK
set_option linter.unusedVariables false
set_option linter.unusedSimpArgs false
namespace Go.Proofs.Ytdoiblknbpbhaaa
open Go.ChangeShapes Go.WideShapes Go.ChangeAt Go.RowKit Go.Maps

set_option maxRecDepth 100000 in
set_option maxHeartbeats 4000000 in
theorem read_any (w : World) {la : Option Addr} {ln lc : Nat} {l : List Mv} (hL : Mvs w la lc l) (hn : ln = l.length) (p : Lc) :
    Calls Try.prog 28 #[.slice la ln lc, .agg #[.int .i64 p.1, .int .i64 p.2]] w fun e w' => e = .returned (.bool (rd l p)) ∧ Below w.heap.size w w' := by
  obtain ⟨p1, p2⟩ := p
  have hmx : ln ≤ 9223372036854775807 := by have := hL.le; have := hL.mx; omega
  have HL : Hid (Mvs w la lc l) := hL
  have HN : Hid (ln = l.length) := hn
  obtain ⟨R, hR⟩ : ∃ R, rd l (p1, p2) = R := ⟨_, rfl⟩
  have HR : Hid (rd l (p1, p2) = R) := hR
  rw [hR]
  obtain ⟨wt, hwt⟩ : ∃ W, W = w.alloc (.cells #[.int .i64 p1, .int .i64 p2] 24) := ⟨_, rfl⟩
  have HB0 : Hid (Below w.heap.size w wt) := by rw [hwt]; exact below_new _ _
  have HT0 : Hid (wt.heap[w.heap.size]? = some (.cells #[.int .i64 p1, .int .i64 p2] 24 (0, 0))) := by rw [hwt]; exact heap_alloc_new _ _
  clear hL hn hR
  simp only
  go_enter Try.func28, Try.ntmps28
  go_wp2_with fail
  rw [← hwt]
  clear hwt
  go_loopw [5] (fun v wr => ∃ k : Nat, k ≤ ln ∧ v = .int .i64 k ∧ Hid (∀ i, ∀ h : i < l.length, i < k → ¬ l[i].2 = (p1, p2)) ∧ Hid (Below w.heap.size w wr) ∧ Hid (wr.heap[w.heap.size]? = some (.cells #[.int .i64 p1, .int .i64 p2] 24 (0, 0)))) (fun v _ => ln - (intOf v).toNat)
  case atStart => exact ⟨0, by omega, rfl, fun i h hi => by omega, HB0, HT0⟩
  case round =>
    clear HB0 HT0
    obtain ⟨k, hk, rfl, HP, HB, HT⟩ := hrel
    have x0 : wr.cell? ⟨w.heap.size, 0, none⟩ = some (.int .i64 p1) := cell_arr HT.out rfl
    have x1 : wr.cell? ⟨w.heap.size, 1, none⟩ = some (.int .i64 p2) := cell_arr HT.out rfl
    have xs : w.heap.size < wr.heap.size := (Array.getElem?_eq_some_iff.1 HT.out).1
    by_cases hlt : k < ln
    · have hkf : k < l.length := by have := HN.out; omega
      obtain ⟨b, o, rfl, hbl, c0, c1, c2, c3⟩ := (HL.out.below HB.out (Nat.le_refl _)).at hkf
      obtain ⟨m, hmi⟩ : ∃ m, l[k] = m := ⟨_, rfl⟩
      have HLK : Hid (l[k] = m) := hmi
      rw [hmi] at c0 c1 c2 c3
      clear hmi
      obtain ⟨⟨m1, m2⟩, ⟨m3, m4⟩⟩ := m
      simp only at c0 c1 c2 c3
      have S0 : (fun w' : World => Below wr.heap.size wr w' ∧ w'.cell? ⟨b, o + k * 4 + 2, none⟩ = some (.int .i64 m3) ∧ w'.cell? ⟨b, o + k * 4 + 3, none⟩ = some (.int .i64 m4) ∧ w'.cell? ⟨w.heap.size, 0, none⟩ = some (.int .i64 p1) ∧ w'.cell? ⟨w.heap.size, 1, none⟩ = some (.int .i64 p2)) wr.drew := ⟨(Below.refl _ _).drew, c2, c3, x0, x1⟩
      have HSA : Hid (∀ w', (fun w' : World => Below wr.heap.size wr w' ∧ w'.cell? ⟨b, o + k * 4 + 2, none⟩ = some (.int .i64 m3) ∧ w'.cell? ⟨b, o + k * 4 + 3, none⟩ = some (.int .i64 m4) ∧ w'.cell? ⟨w.heap.size, 0, none⟩ = some (.int .i64 p1) ∧ w'.cell? ⟨w.heap.size, 1, none⟩ = some (.int .i64 p2)) w' → Calls Try.prog 27 #[.agg #[.int .i64 m3, .int .i64 m4], .agg #[.int .i64 p1, .int .i64 p2]] w' fun e w'' => e = .returned (.bool (decide (((m3, m4) : Lc) = (p1, p2)))) ∧ (fun w' : World => Below wr.heap.size wr w' ∧ w'.cell? ⟨b, o + k * 4 + 2, none⟩ = some (.int .i64 m3) ∧ w'.cell? ⟨b, o + k * 4 + 3, none⟩ = some (.int .i64 m4) ∧ w'.cell? ⟨w.heap.size, 0, none⟩ = some (.int .i64 p1) ∧ w'.cell? ⟨w.heap.size, 1, none⟩ = some (.int .i64 p2)) w'') := fun w' hs => by
        refine (same_any w' (m3, m4) (p1, p2)).mono ?_
        rintro e w'' ⟨rfl, hb⟩
        exact ⟨rfl, hs.1.trans (hb.mono hs.1.size), (hb.cell (p := ⟨b, o + k * 4 + 2, none⟩) (Nat.lt_of_lt_of_le hbl hs.1.size)).trans hs.2.1, (hb.cell (p := ⟨b, o + k * 4 + 3, none⟩) (Nat.lt_of_lt_of_le hbl hs.1.size)).trans hs.2.2.1, (hb.cell (p := ⟨w.heap.size, 0, none⟩) (Nat.lt_of_lt_of_le xs hs.1.size)).trans hs.2.2.2.1, (hb.cell (p := ⟨w.heap.size, 1, none⟩) (Nat.lt_of_lt_of_le xs hs.1.size)).trans hs.2.2.2.2⟩
      by_cases he : ((m3, m4) : Lc) = (p1, p2)
      · have HE : Hid (((m3, m4) : Lc) = (p1, p2)) := he
        have hd : decide (((m3, m4) : Lc) = (p1, p2)) = true := by simpa using he
        rw [hd] at HSA
        clear he hd c0 c1 c2 c3 x0 x1
        go_wp2_with fail
        go_region_held (fun w' : World => Below wr.heap.size wr w' ∧ w'.cell? ⟨b, o + k * 4 + 2, none⟩ = some (.int .i64 m3) ∧ w'.cell? ⟨b, o + k * 4 + 3, none⟩ = some (.int .i64 m4) ∧ w'.cell? ⟨w.heap.size, 0, none⟩ = some (.int .i64 p1) ∧ w'.cell? ⟨w.heap.size, 1, none⟩ = some (.int .i64 p2)) (first | exact S0 | exact S1) (first | (go_at_call 27; refine (HSA.out _ S0).mono ?_; rintro e w1 ⟨rfl, S1⟩))
        go_wp2_with fail
        go_ret
        refine ⟨by
          have : R = true := by
            rw [← HR.out]
            exact List.any_eq_true.2 ⟨l[k], List.getElem_mem hkf, by rw [HLK.out]; simpa using HE.out⟩
          rw [this]
          try rfl, HB.out.trans (S1.1.mono HB.out.size)⟩
      · have HE : Hid (¬ ((m3, m4) : Lc) = (p1, p2)) := he
        have hd : decide (((m3, m4) : Lc) = (p1, p2)) = false := by simpa using he
        rw [hd] at HSA
        clear he hd c0 c1 c2 c3 x0 x1
        go_wp2_with fail
        go_region_held (fun w' : World => Below wr.heap.size wr w' ∧ w'.cell? ⟨b, o + k * 4 + 2, none⟩ = some (.int .i64 m3) ∧ w'.cell? ⟨b, o + k * 4 + 3, none⟩ = some (.int .i64 m4) ∧ w'.cell? ⟨w.heap.size, 0, none⟩ = some (.int .i64 p1) ∧ w'.cell? ⟨w.heap.size, 1, none⟩ = some (.int .i64 p2)) (first | exact S0 | exact S1) (first | (go_at_call 27; refine (HSA.out _ S0).mono ?_; rintro e w1 ⟨rfl, S1⟩))
        go_wp2_with fail
        go_roundw
        case rel =>
          refine ⟨k + 1, by omega, by go_num, fun i h hi => ?_, HB.out.trans (S1.1.mono HB.out.size), (S1.1.block _ xs).trans HT.out⟩
          by_cases e : i = k
          · subst e; rw [HLK.out]; exact HE.out
          · exact HP.out i h (by omega)
        case measure => simp [intOf]; omega
    · have hR1 : R = false := by
        rw [← HR.out]
        unfold rd
        rw [List.any_eq_false]
        intro x hx
        obtain ⟨i, hi, rfl⟩ := List.getElem_of_mem hx
        have := HP.out i hi (by have := HN.out; omega)
        simpa using this
      obtain rfl : k = ln := by omega
      go_wp2_with fail
      go_ret
      exact ⟨by rw [hR1]; try rfl, HB.out⟩
/-- What P1301 asks of a move, in the document's order. -/
theorem mvOk_doc (t1 t2 m1 m2 m3 m4 : Int) : mvOk (t1, t2) ((m1, m2), (m3, m4)) = !(!plP (m1, m2) || (!plP (m3, m4) && !(m3 == 3)) || decide (((m1, m2) : Lc) = (t1, t2)) || decide (((m3, m4) : Lc) = (t1, t2))) := by
  have h1 : decide (((m1, m2) : Lc) = (t1, t2)) = ((m1 == t1) && (m2 == t2)) := by
    rw [Bool.eq_iff_iff]; simp
  have h2 : decide (((m3, m4) : Lc) = (t1, t2)) = ((m3 == t1) && (m4 == t2)) := by
    rw [Bool.eq_iff_iff]; simp
  rw [h1, h2]
  unfold mvOk
  simp only
  generalize plP (m1, m2) = a
  generalize plP (m3, m4) = b
  generalize ((m1 == t1) && (m2 == t2)) = c
  generalize ((m3 == t1) && (m4 == t2)) = d
  generalize (m3 == 3) = e
  cases a <;> cases b <;> cases c <;> cases d <;> cases e <;> rfl
end Go.Proofs.Ytdoiblknbpbhaaa
