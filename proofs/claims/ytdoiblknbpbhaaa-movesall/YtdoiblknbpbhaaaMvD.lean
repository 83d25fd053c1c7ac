import Derived.Test.YtdoiblknbpbhaaaMvC
set_option linter.unusedVariables false
set_option linter.unusedSimpArgs false
namespace Go.Proofs.Ytdoiblknbpbhaaa
open Go.ChangeShapes Go.WideShapes Go.ChangeAt Go.RowKit Go.Maps

/-- A move that may be, by the side of t. -/
def mvOk (t : Lc) (m : Mv) : Bool := (plP m.2 || (m.2.1 == 3)) && (plP m.1 && (!((m.1.1 == t.1) && (m.1.2 == t.2)) && !((m.2.1 == t.1) && (m.2.2 == t.2))))
def placedP (t : Lc) (l : List Mv) : Bool := plP t && l.all (mvOk t)
set_option maxRecDepth 100000 in
set_option maxHeartbeats 4000000 in
theorem placed_any (w : World) {la : Option Addr} {ln lc : Nat} {l : List Mv} (hL : Mvs w la lc l) (hn : ln = l.length) (t : Lc) :
    Calls Try.prog 21 #[.slice la ln lc, .agg #[.int .i64 t.1, .int .i64 t.2]] w fun e w' => e = .returned (.bool (placedP t l)) ∧ Below w.heap.size w w' := by
  have hmx : ln ≤ 9223372036854775807 := by have := hL.le; have := hL.mx; omega
  have HL : Hid (Mvs w la lc l) := hL
  have HN : Hid (ln = l.length) := hn
  unfold placedP
  obtain ⟨R, hR⟩ : ∃ R, l.all (mvOk t) = R := ⟨_, rfl⟩
  rw [hR]
  have HR : Hid (l.all (mvOk t) = R) := hR
  clear hL hn hR
  have HPT : Hid (Calls Try.prog 32 #[.agg #[.int .i64 t.1, .int .i64 t.2]] (w.alloc (.cells #[.int .i64 t.1, .int .i64 t.2] 24)) fun e w' => e = .returned (.bool (plP t)) ∧ w' = (w.alloc (.cells #[.int .i64 t.1, .int .i64 t.2] 24)).alloc (.cells #[.int .i64 t.1, .int .i64 t.2] 24)) := place_any _ t
  obtain ⟨b0, hb0⟩ : ∃ b, plP t = b := ⟨_, rfl⟩
  rw [hb0] at HPT ⊢
  clear hb0
  cases b0
  · go_enter Try.func21, Try.ntmps21
    go_wp2_with (first | (go_at_call 32; refine HPT.out.mono ?_; rintro e w1 ⟨rfl, rfl⟩))
    go_ret
    exact ⟨rfl, by repeat (first | refine Below.alloc ?_ (by first | omega | (simp; done) | (simp; omega)) _ | refine Below.drew ?_ | exact Below.refl _ _)⟩
  · go_enter Try.func21, Try.ntmps21
    go_wp2_with (first | (go_at_call 32; refine HPT.out.mono ?_; rintro e w1 ⟨rfl, rfl⟩))
    clear HPT
    obtain ⟨W, hW⟩ : ∃ W, W = (w.alloc (.cells #[.int .i64 t.1, .int .i64 t.2] 24)).alloc (.cells #[.int .i64 t.1, .int .i64 t.2] 24) := ⟨_, rfl⟩
    have HBW : Hid (Below w.heap.size w W) := by rw [hW]; repeat (first | refine Below.alloc ?_ (by first | omega | (simp; done) | (simp; omega)) _ | refine Below.drew ?_ | exact Below.refl _ _)
    have HT0 : Hid (W.heap[w.heap.size]? = some (.cells #[.int .i64 t.1, .int .i64 t.2] 24)) := by
      rw [hW]; exact (heap_alloc_old _ _ (by simp)).trans (heap_alloc_new _ _)
    rw [← hW]
    clear hW
    go_loopw [13] (fun v wr => ∃ k : Nat, k ≤ ln ∧ v = .int .i64 k ∧ Hid (∀ i, ∀ h : i < l.length, i < k → mvOk t l[i] = true) ∧ Hid (Below w.heap.size w wr) ∧ Hid (wr.heap[w.heap.size]? = some (.cells #[.int .i64 t.1, .int .i64 t.2] 24))) (fun v _ => ln - (intOf v).toNat)
    case atStart => exact ⟨0, by omega, rfl, fun i h hi => by omega, HBW, HT0⟩
    case round =>
      clear HBW HT0
      obtain ⟨k, hk, rfl, HP, HB, HT⟩ := hrel
      have x0 : wr.cell? ⟨w.heap.size, 0, none⟩ = some (.int .i64 t.1) := cell_arr HT.out rfl
      have x1 : wr.cell? ⟨w.heap.size, 1, none⟩ = some (.int .i64 t.2) := cell_arr HT.out rfl
      have xs : w.heap.size < wr.heap.size := (Array.getElem?_eq_some_iff.1 HT.out).1
      by_cases hlt : k < ln
      · have hkf : k < l.length := by have := HN.out; omega
        obtain ⟨b, o, rfl, hbl, c0, c1, c2, c3⟩ := (HL.out.below HB.out (Nat.le_refl _)).at hkf
        have HM : Hid (mvOk t l[k] = true → ∀ i, ∀ h : i < l.length, i < k + 1 → mvOk t l[i] = true) := fun hm i h hi => by
          by_cases e : i = k
          · subst e; exact hm
          · exact HP.out i h (by omega)
        have HF : Hid (mvOk t l[k] = false → R = false) := fun hm => by
          rw [← HR.out]
          exact List.all_eq_false.2 ⟨l[k], List.getElem_mem hkf, by rw [hm]; simp⟩
        generalize l[k] = m at c0 c1 c2 c3 HM HF
        obtain ⟨⟨m1, m2⟩, ⟨m3, m4⟩⟩ := m
        simp only at c0 c1 c2 c3
        obtain ⟨t1, t2⟩ := t
        simp only at x0 x1
        have HP1 : Hid (∀ w', Calls Try.prog 32 #[.agg #[.int .i64 m3, .int .i64 m4]] w' fun e w'' => e = .returned (.bool (plP (m3, m4))) ∧ w'' = w'.alloc (.cells #[.int .i64 m3, .int .i64 m4] 24)) := fun w' => place_any w' (m3, m4)
        have HP2 : Hid (∀ w', Calls Try.prog 32 #[.agg #[.int .i64 m1, .int .i64 m2]] w' fun e w'' => e = .returned (.bool (plP (m1, m2))) ∧ w'' = w'.alloc (.cells #[.int .i64 m1, .int .i64 m2] 24)) := fun w' => place_any w' (m1, m2)
        unfold mvOk at HM HF
        simp only at HM HF
        generalize plP (m3, m4) = b1 at HP1 HM HF
        generalize plP (m1, m2) = b2 at HP2 HM HF
        have xs1 : w.heap.size < wr.heap.size + 1 := by omega
        have xs2 : w.heap.size < wr.heap.size + 1 + 1 := by omega
        cases b1
        ·
          obtain ⟨e0, d0⟩ : ∃ e, (m3 == 3) = e := ⟨_, rfl⟩
          cases e0
          ·
            go_wp2_with (first | (go_at_call 32; with_reducible refine (HP2.out _).mono ?_; rintro e w2 ⟨rfl, rfl⟩) | (go_at_call 32; with_reducible refine (HP1.out _).mono ?_; rintro e w1 ⟨rfl, rfl⟩))
            go_ret
            exact ⟨by rw [HF.out (by first | rfl | (simp only [*]; rfl))]; rfl, by have hs := HB.out.size; repeat (first | exact HB.out | refine Below.alloc ?_ (by first | omega | (simp; done) | (simp; omega)) _ | refine Below.drew ?_)⟩
          ·
            cases b2
            ·
              go_wp2_with (first | (go_at_call 32; with_reducible refine (HP2.out _).mono ?_; rintro e w2 ⟨rfl, rfl⟩) | (go_at_call 32; with_reducible refine (HP1.out _).mono ?_; rintro e w1 ⟨rfl, rfl⟩))
              go_ret
              exact ⟨by rw [HF.out (by first | rfl | (simp only [*]; rfl))]; rfl, by have hs := HB.out.size; repeat (first | exact HB.out | refine Below.alloc ?_ (by first | omega | (simp; done) | (simp; omega)) _ | refine Below.drew ?_)⟩
            ·
              obtain ⟨e1, d1⟩ : ∃ e, (m1 == t1) = e := ⟨_, rfl⟩
              cases e1
              ·
                obtain ⟨e3, d3⟩ : ∃ e, (m3 == t1) = e := ⟨_, rfl⟩
                cases e3
                ·
                  go_wp2_with (first | (go_at_call 32; with_reducible refine (HP2.out _).mono ?_; rintro e w2 ⟨rfl, rfl⟩) | (go_at_call 32; with_reducible refine (HP1.out _).mono ?_; rintro e w1 ⟨rfl, rfl⟩))
                  go_roundw
                  case rel => exact ⟨k + 1, by omega, by go_num, HM.out (by first | rfl | (simp only [*]; rfl)), by have hs := HB.out.size; repeat (first | exact HB.out | refine Below.alloc ?_ (by first | omega | (simp; done) | (simp; omega)) _ | refine Below.drew ?_), by first | exact HT.out | exact (heap_alloc_old _ _ (by first | omega | (simp; omega))).trans ((heap_alloc_old _ _ (by first | omega | (simp; omega))).trans ((heap_alloc_old _ _ (by first | omega | (simp; omega))).trans HT.out))⟩
                  case measure => simp [intOf]; omega
                ·
                  obtain ⟨e4, d4⟩ : ∃ e, (m4 == t2) = e := ⟨_, rfl⟩
                  cases e4
                  ·
                    go_wp2_with (first | (go_at_call 32; with_reducible refine (HP2.out _).mono ?_; rintro e w2 ⟨rfl, rfl⟩) | (go_at_call 32; with_reducible refine (HP1.out _).mono ?_; rintro e w1 ⟨rfl, rfl⟩))
                    go_roundw
                    case rel => exact ⟨k + 1, by omega, by go_num, HM.out (by first | rfl | (simp only [*]; rfl)), by have hs := HB.out.size; repeat (first | exact HB.out | refine Below.alloc ?_ (by first | omega | (simp; done) | (simp; omega)) _ | refine Below.drew ?_), by first | exact HT.out | exact (heap_alloc_old _ _ (by first | omega | (simp; omega))).trans ((heap_alloc_old _ _ (by first | omega | (simp; omega))).trans ((heap_alloc_old _ _ (by first | omega | (simp; omega))).trans HT.out))⟩
                    case measure => simp [intOf]; omega
                  ·
                    go_wp2_with (first | (go_at_call 32; with_reducible refine (HP2.out _).mono ?_; rintro e w2 ⟨rfl, rfl⟩) | (go_at_call 32; with_reducible refine (HP1.out _).mono ?_; rintro e w1 ⟨rfl, rfl⟩))
                    go_ret
                    exact ⟨by rw [HF.out (by first | rfl | (simp only [*]; rfl))]; rfl, by have hs := HB.out.size; repeat (first | exact HB.out | refine Below.alloc ?_ (by first | omega | (simp; done) | (simp; omega)) _ | refine Below.drew ?_)⟩
              ·
                obtain ⟨e2, d2⟩ : ∃ e, (m2 == t2) = e := ⟨_, rfl⟩
                cases e2
                ·
                  obtain ⟨e3, d3⟩ : ∃ e, (m3 == t1) = e := ⟨_, rfl⟩
                  cases e3
                  ·
                    go_wp2_with (first | (go_at_call 32; with_reducible refine (HP2.out _).mono ?_; rintro e w2 ⟨rfl, rfl⟩) | (go_at_call 32; with_reducible refine (HP1.out _).mono ?_; rintro e w1 ⟨rfl, rfl⟩))
                    go_roundw
                    case rel => exact ⟨k + 1, by omega, by go_num, HM.out (by first | rfl | (simp only [*]; rfl)), by have hs := HB.out.size; repeat (first | exact HB.out | refine Below.alloc ?_ (by first | omega | (simp; done) | (simp; omega)) _ | refine Below.drew ?_), by first | exact HT.out | exact (heap_alloc_old _ _ (by first | omega | (simp; omega))).trans ((heap_alloc_old _ _ (by first | omega | (simp; omega))).trans ((heap_alloc_old _ _ (by first | omega | (simp; omega))).trans HT.out))⟩
                    case measure => simp [intOf]; omega
                  ·
                    obtain ⟨e4, d4⟩ : ∃ e, (m4 == t2) = e := ⟨_, rfl⟩
                    cases e4
                    ·
                      go_wp2_with (first | (go_at_call 32; with_reducible refine (HP2.out _).mono ?_; rintro e w2 ⟨rfl, rfl⟩) | (go_at_call 32; with_reducible refine (HP1.out _).mono ?_; rintro e w1 ⟨rfl, rfl⟩))
                      go_roundw
                      case rel => exact ⟨k + 1, by omega, by go_num, HM.out (by first | rfl | (simp only [*]; rfl)), by have hs := HB.out.size; repeat (first | exact HB.out | refine Below.alloc ?_ (by first | omega | (simp; done) | (simp; omega)) _ | refine Below.drew ?_), by first | exact HT.out | exact (heap_alloc_old _ _ (by first | omega | (simp; omega))).trans ((heap_alloc_old _ _ (by first | omega | (simp; omega))).trans ((heap_alloc_old _ _ (by first | omega | (simp; omega))).trans HT.out))⟩
                      case measure => simp [intOf]; omega
                    ·
                      go_wp2_with (first | (go_at_call 32; with_reducible refine (HP2.out _).mono ?_; rintro e w2 ⟨rfl, rfl⟩) | (go_at_call 32; with_reducible refine (HP1.out _).mono ?_; rintro e w1 ⟨rfl, rfl⟩))
                      go_ret
                      exact ⟨by rw [HF.out (by first | rfl | (simp only [*]; rfl))]; rfl, by have hs := HB.out.size; repeat (first | exact HB.out | refine Below.alloc ?_ (by first | omega | (simp; done) | (simp; omega)) _ | refine Below.drew ?_)⟩
                ·
                  go_wp2_with (first | (go_at_call 32; with_reducible refine (HP2.out _).mono ?_; rintro e w2 ⟨rfl, rfl⟩) | (go_at_call 32; with_reducible refine (HP1.out _).mono ?_; rintro e w1 ⟨rfl, rfl⟩))
                  go_ret
                  exact ⟨by rw [HF.out (by first | rfl | (simp only [*]; rfl))]; rfl, by have hs := HB.out.size; repeat (first | exact HB.out | refine Below.alloc ?_ (by first | omega | (simp; done) | (simp; omega)) _ | refine Below.drew ?_)⟩
        ·
          cases b2
          ·
            go_wp2_with (first | (go_at_call 32; with_reducible refine (HP2.out _).mono ?_; rintro e w2 ⟨rfl, rfl⟩) | (go_at_call 32; with_reducible refine (HP1.out _).mono ?_; rintro e w1 ⟨rfl, rfl⟩))
            go_ret
            exact ⟨by rw [HF.out (by first | rfl | (simp only [*]; rfl))]; rfl, by have hs := HB.out.size; repeat (first | exact HB.out | refine Below.alloc ?_ (by first | omega | (simp; done) | (simp; omega)) _ | refine Below.drew ?_)⟩
          ·
            obtain ⟨e1, d1⟩ : ∃ e, (m1 == t1) = e := ⟨_, rfl⟩
            cases e1
            ·
              obtain ⟨e3, d3⟩ : ∃ e, (m3 == t1) = e := ⟨_, rfl⟩
              cases e3
              ·
                go_wp2_with (first | (go_at_call 32; with_reducible refine (HP2.out _).mono ?_; rintro e w2 ⟨rfl, rfl⟩) | (go_at_call 32; with_reducible refine (HP1.out _).mono ?_; rintro e w1 ⟨rfl, rfl⟩))
                go_roundw
                case rel => exact ⟨k + 1, by omega, by go_num, HM.out (by first | rfl | (simp only [*]; rfl)), by have hs := HB.out.size; repeat (first | exact HB.out | refine Below.alloc ?_ (by first | omega | (simp; done) | (simp; omega)) _ | refine Below.drew ?_), by first | exact HT.out | exact (heap_alloc_old _ _ (by first | omega | (simp; omega))).trans ((heap_alloc_old _ _ (by first | omega | (simp; omega))).trans ((heap_alloc_old _ _ (by first | omega | (simp; omega))).trans HT.out))⟩
                case measure => simp [intOf]; omega
              ·
                obtain ⟨e4, d4⟩ : ∃ e, (m4 == t2) = e := ⟨_, rfl⟩
                cases e4
                ·
                  go_wp2_with (first | (go_at_call 32; with_reducible refine (HP2.out _).mono ?_; rintro e w2 ⟨rfl, rfl⟩) | (go_at_call 32; with_reducible refine (HP1.out _).mono ?_; rintro e w1 ⟨rfl, rfl⟩))
                  go_roundw
                  case rel => exact ⟨k + 1, by omega, by go_num, HM.out (by first | rfl | (simp only [*]; rfl)), by have hs := HB.out.size; repeat (first | exact HB.out | refine Below.alloc ?_ (by first | omega | (simp; done) | (simp; omega)) _ | refine Below.drew ?_), by first | exact HT.out | exact (heap_alloc_old _ _ (by first | omega | (simp; omega))).trans ((heap_alloc_old _ _ (by first | omega | (simp; omega))).trans ((heap_alloc_old _ _ (by first | omega | (simp; omega))).trans HT.out))⟩
                  case measure => simp [intOf]; omega
                ·
                  go_wp2_with (first | (go_at_call 32; with_reducible refine (HP2.out _).mono ?_; rintro e w2 ⟨rfl, rfl⟩) | (go_at_call 32; with_reducible refine (HP1.out _).mono ?_; rintro e w1 ⟨rfl, rfl⟩))
                  go_ret
                  exact ⟨by rw [HF.out (by first | rfl | (simp only [*]; rfl))]; rfl, by have hs := HB.out.size; repeat (first | exact HB.out | refine Below.alloc ?_ (by first | omega | (simp; done) | (simp; omega)) _ | refine Below.drew ?_)⟩
            ·
              obtain ⟨e2, d2⟩ : ∃ e, (m2 == t2) = e := ⟨_, rfl⟩
              cases e2
              ·
                obtain ⟨e3, d3⟩ : ∃ e, (m3 == t1) = e := ⟨_, rfl⟩
                cases e3
                ·
                  go_wp2_with (first | (go_at_call 32; with_reducible refine (HP2.out _).mono ?_; rintro e w2 ⟨rfl, rfl⟩) | (go_at_call 32; with_reducible refine (HP1.out _).mono ?_; rintro e w1 ⟨rfl, rfl⟩))
                  go_roundw
                  case rel => exact ⟨k + 1, by omega, by go_num, HM.out (by first | rfl | (simp only [*]; rfl)), by have hs := HB.out.size; repeat (first | exact HB.out | refine Below.alloc ?_ (by first | omega | (simp; done) | (simp; omega)) _ | refine Below.drew ?_), by first | exact HT.out | exact (heap_alloc_old _ _ (by first | omega | (simp; omega))).trans ((heap_alloc_old _ _ (by first | omega | (simp; omega))).trans ((heap_alloc_old _ _ (by first | omega | (simp; omega))).trans HT.out))⟩
                  case measure => simp [intOf]; omega
                ·
                  obtain ⟨e4, d4⟩ : ∃ e, (m4 == t2) = e := ⟨_, rfl⟩
                  cases e4
                  ·
                    go_wp2_with (first | (go_at_call 32; with_reducible refine (HP2.out _).mono ?_; rintro e w2 ⟨rfl, rfl⟩) | (go_at_call 32; with_reducible refine (HP1.out _).mono ?_; rintro e w1 ⟨rfl, rfl⟩))
                    go_roundw
                    case rel => exact ⟨k + 1, by omega, by go_num, HM.out (by first | rfl | (simp only [*]; rfl)), by have hs := HB.out.size; repeat (first | exact HB.out | refine Below.alloc ?_ (by first | omega | (simp; done) | (simp; omega)) _ | refine Below.drew ?_), by first | exact HT.out | exact (heap_alloc_old _ _ (by first | omega | (simp; omega))).trans ((heap_alloc_old _ _ (by first | omega | (simp; omega))).trans ((heap_alloc_old _ _ (by first | omega | (simp; omega))).trans HT.out))⟩
                    case measure => simp [intOf]; omega
                  ·
                    go_wp2_with (first | (go_at_call 32; with_reducible refine (HP2.out _).mono ?_; rintro e w2 ⟨rfl, rfl⟩) | (go_at_call 32; with_reducible refine (HP1.out _).mono ?_; rintro e w1 ⟨rfl, rfl⟩))
                    go_ret
                    exact ⟨by rw [HF.out (by first | rfl | (simp only [*]; rfl))]; rfl, by have hs := HB.out.size; repeat (first | exact HB.out | refine Below.alloc ?_ (by first | omega | (simp; done) | (simp; omega)) _ | refine Below.drew ?_)⟩
              ·
                go_wp2_with (first | (go_at_call 32; with_reducible refine (HP2.out _).mono ?_; rintro e w2 ⟨rfl, rfl⟩) | (go_at_call 32; with_reducible refine (HP1.out _).mono ?_; rintro e w1 ⟨rfl, rfl⟩))
                go_ret
                exact ⟨by rw [HF.out (by first | rfl | (simp only [*]; rfl))]; rfl, by have hs := HB.out.size; repeat (first | exact HB.out | refine Below.alloc ?_ (by first | omega | (simp; done) | (simp; omega)) _ | refine Below.drew ?_)⟩
      · have hkn : k = ln := by omega
        have hR1 : R = true := by
          rw [← HR.out, List.all_eq_true]
          intro x hx
          obtain ⟨i, hi, rfl⟩ := List.getElem_of_mem hx
          exact HP.out i hi (by have := HN.out; omega)
        subst hkn
        go_wp2_with fail
        go_ret
        exact ⟨by rw [hR1]; rfl, HB.out⟩
end Go.Proofs.Ytdoiblknbpbhaaa
