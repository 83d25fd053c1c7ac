import Derived.Test.YtdoiblknbpbhaaaMvV
import Derived.Deep.Cut
import Derived.Deep.CutRange
import Derived.Deep.DeepCutAuto
set_option linter.unusedVariables false
set_option linter.unusedSimpArgs false
namespace Go.Proofs.Ytdoiblknbpbhaaa
open Go.ChangeShapes Go.WideShapes Go.ChangeAt Go.RowKit Go.Maps

/-- What the statement's own test of a move asks. -/
def rgB (t1 t2 m1 m2 m3 m4 : Int) : Bool := (!(m1 == 1) && !(m1 == 2)) || (decide (m2 < 0) || (decide (m3 < 1) || (decide (3 < m3) || ((decide (m3 < 3) && decide (m4 < 0)) || (((m1 == t1) && (m2 == t2)) || ((m3 == t1) && (m4 == t2)))))))
theorem rgB_eq (t1 t2 m1 m2 m3 m4 : Int) : rgB t1 t2 m1 m2 m3 m4 = !mvOk (t1, t2) ((m1, m2), (m3, m4)) := by
  rw [Bool.eq_iff_iff]
  unfold rgB mvOk plP
  simp only [Bool.or_eq_true, Bool.and_eq_true, Bool.not_eq_true', decide_eq_true_eq, beq_eq_false_iff_ne, beq_iff_eq, Bool.and_eq_false_imp, Bool.or_eq_false_iff, decide_eq_false_iff_not]
  by_cases a1 : m1 = 1 <;> by_cases a2 : m1 = 2 <;> by_cases a3 : m1 = t1 <;> by_cases a4 : m2 = t2 <;> by_cases a5 : m3 = t1 <;> by_cases a6 : m4 = t2 <;> simp [a1, a2, a3, a4, a5, a6] <;> omega
set_option maxRecDepth 100000 in
set_option maxHeartbeats 16000000 in
theorem right_any (w : World) {la : Option Addr} {ln lc : Nat} {l : List Mv} (hL : Mvs w la lc l) (hn : ln = l.length) (t : Lc) :
    Calls Try.prog 14 #[.slice la ln lc, .agg #[.int .i64 t.1, .int .i64 t.2]] w fun e w' => e = .returned (.bool (placedP t l && decide ((l.map Prod.fst).Nodup))) ∧ Below w.heap.size w w' := by
  obtain ⟨t1, t2⟩ := t
  have hmx : ln ≤ 9223372036854775807 := by have := hL.le; have := hL.mx; omega
  have HL : Hid (Mvs w la lc l) := hL
  have HN : Hid (ln = l.length) := hn
  obtain ⟨V, hV⟩ : ∃ V, plP (t1, t2) = V := ⟨_, rfl⟩
  have HV : Hid (plP (t1, t2) = V) := hV
  obtain ⟨E, hE⟩ : ∃ E, (placedP (t1, t2) l && decide ((l.map Prod.fst).Nodup)) = E := ⟨_, rfl⟩
  have HE : Hid ((placedP (t1, t2) l && decide ((l.map Prod.fst).Nodup)) = E) := hE
  rw [hE]
  obtain ⟨wt, hwt⟩ : ∃ W, W = w.alloc (.cells #[.int .i64 t1, .int .i64 t2] 24) := ⟨_, rfl⟩
  have HB0 : Hid (Below w.heap.size w wt) := by rw [hwt]; exact below_new _ _
  have HT0 : Hid (wt.heap[w.heap.size]? = some (.cells #[.int .i64 t1, .int .i64 t2] 24 (0, 0))) := by rw [hwt]; exact heap_alloc_new _ _
  clear hL hn hE
  simp only
  go_enter Try.func14, Try.ntmps14
  go_upto_region 1 with fail
  go_cut [20] from 8 to 20 (fun v wc => v = .bool (!V) ∧ wc = w.alloc (.cells #[.int .i64 t1, .int .i64 t2] 24))
  case first =>
    obtain ⟨e0, d0⟩ : ∃ e, (t1 == 1) = e := ⟨_, rfl⟩
    obtain ⟨e1, d1⟩ : ∃ e, (t1 == 2) = e := ⟨_, rfl⟩
    obtain ⟨e2, d2⟩ : ∃ e, decide (t2 < 0) = e := ⟨_, rfl⟩
    have x0 : decide (t1 = 1) = e0 := by rw [← d0]; rfl
    have x1 : decide (t1 = 2) = e1 := by rw [← d1]; rfl
    have x2 : decide (0 ≤ t2) = !e2 := by rw [← d2]; by_cases h : t2 < 0 <;> simp [h] <;> omega
    have HX : Hid (V = ((e0 || e1) && !e2)) := by show V = _; rw [← hV]; unfold plP; simp only; rw [x0, x1, x2]
    clear x0 x1 x2 hV HV
    cases e0
    · cases e1
      ·
        cases e2
        ·
          try (have n0 : ¬ t1 = 1 := ne_of_beq_false d0)
          try (have n1 : ¬ t1 = 2 := ne_of_beq_false d1)
          first | (have h0 := eq_of_beq d0; clear d0; first | subst h0 | exact absurd h0 (by decide) | clear h0) | skip
          first | (have h0 := eq_of_beq d1; clear d1; first | subst h0 | exact absurd h0 (by decide) | clear h0) | skip
          go_wp2_with fail
          go_meet
          case rel => exact ⟨by rw [HX.out]; rfl, rfl⟩
        ·
          try (have n0 : ¬ t1 = 1 := ne_of_beq_false d0)
          try (have n1 : ¬ t1 = 2 := ne_of_beq_false d1)
          first | (have h0 := eq_of_beq d0; clear d0; first | subst h0 | exact absurd h0 (by decide) | clear h0) | skip
          first | (have h0 := eq_of_beq d1; clear d1; first | subst h0 | exact absurd h0 (by decide) | clear h0) | skip
          go_wp2_with fail
          go_meet
          case rel => exact ⟨by rw [HX.out]; rfl, rfl⟩
      ·
        cases e2
        ·
          try (have n0 : ¬ t1 = 1 := ne_of_beq_false d0)
          try (have n1 : ¬ t1 = 2 := ne_of_beq_false d1)
          first | (have h0 := eq_of_beq d0; clear d0; first | subst h0 | exact absurd h0 (by decide) | clear h0) | skip
          first | (have h0 := eq_of_beq d1; clear d1; first | subst h0 | exact absurd h0 (by decide) | clear h0) | skip
          go_wp2_with fail
          go_meet
          case rel => exact ⟨by rw [HX.out]; rfl, rfl⟩
        ·
          try (have n0 : ¬ t1 = 1 := ne_of_beq_false d0)
          try (have n1 : ¬ t1 = 2 := ne_of_beq_false d1)
          first | (have h0 := eq_of_beq d0; clear d0; first | subst h0 | exact absurd h0 (by decide) | clear h0) | skip
          first | (have h0 := eq_of_beq d1; clear d1; first | subst h0 | exact absurd h0 (by decide) | clear h0) | skip
          go_wp2_with fail
          go_meet
          case rel => exact ⟨by rw [HX.out]; rfl, rfl⟩
    · cases e1
      ·
        cases e2
        ·
          try (have n0 : ¬ t1 = 1 := ne_of_beq_false d0)
          try (have n1 : ¬ t1 = 2 := ne_of_beq_false d1)
          first | (have h0 := eq_of_beq d0; clear d0; first | subst h0 | exact absurd h0 (by decide) | clear h0) | skip
          first | (have h0 := eq_of_beq d1; clear d1; first | subst h0 | exact absurd h0 (by decide) | clear h0) | skip
          go_wp2_with fail
          go_meet
          case rel => exact ⟨by rw [HX.out]; rfl, rfl⟩
        ·
          try (have n0 : ¬ t1 = 1 := ne_of_beq_false d0)
          try (have n1 : ¬ t1 = 2 := ne_of_beq_false d1)
          first | (have h0 := eq_of_beq d0; clear d0; first | subst h0 | exact absurd h0 (by decide) | clear h0) | skip
          first | (have h0 := eq_of_beq d1; clear d1; first | subst h0 | exact absurd h0 (by decide) | clear h0) | skip
          go_wp2_with fail
          go_meet
          case rel => exact ⟨by rw [HX.out]; rfl, rfl⟩
      · have h0 := eq_of_beq d0
        subst h0
        exact absurd (eq_of_beq d1) (by decide)
  case rest =>
    obtain ⟨rfl, rfl⟩ := hcut
    clear hV
    cases V
    · go_wp2_with fail
      go_ret
      rw [← hwt]
      refine ⟨?_, HB0.out⟩
      rw [← HE.out]
      unfold placedP
      rw [HV.out]; rfl
    · go_wp2_with fail
      rw [← hwt]
      clear hwt
      go_loopw [5] (fun v wr => ∃ k : Nat, k ≤ ln ∧ v = .int .i64 k ∧ Hid ((∀ i, ∀ h : i < l.length, i < k → mvOk (t1, t2) l[i] = true) ∧ (tks l k).Nodup) ∧ Hid (Below w.heap.size w wr) ∧ Hid (wr.heap[w.heap.size]? = some (.cells #[.int .i64 t1, .int .i64 t2] 24 (0, 0)))) (fun v _ => ln - (intOf v).toNat)
      case atStart => exact ⟨0, by omega, rfl, ⟨fun i h hi => by omega, List.nodup_nil⟩, HB0, HT0⟩
      case round =>
        clear HB0 HT0
        obtain ⟨k, hk, rfl, HP, HB, HT⟩ := hrel
        by_cases hlt : k < ln
        · have hkf : k < l.length := by have := HN.out; omega
          obtain ⟨bb, o, rfl, hbl, c0, c1, c2, c3⟩ := (HL.out.below HB.out (Nat.le_refl _)).at hkf
          obtain ⟨m, hmi⟩ : ∃ m, l[k] = m := ⟨_, rfl⟩
          have HLK : Hid (l[k] = m) := hmi
          rw [hmi] at c0 c1 c2 c3
          clear hmi
          obtain ⟨⟨m1, m2⟩, ⟨m3, m4⟩⟩ := m
          simp only at c0 c1 c2 c3
          obtain ⟨b, hb⟩ : ∃ b, rgB t1 t2 m1 m2 m3 m4 = b := ⟨_, rfl⟩
          have HBB : Hid (mvOk (t1, t2) l[k] = !b) := by show mvOk _ _ = _; rw [HLK.out, ← hb, rgB_eq]; simp
          obtain ⟨W, hW⟩ : ∃ W, W = wr.alloc (.cells #[.int .i64 m1, .int .i64 m2, .int .i64 m3, .int .i64 m4] 36) := ⟨_, rfl⟩
          have HBW : Hid (Below wr.heap.size wr W) := by rw [hW]; exact below_new _ _
          have HMX : Hid (W.heap[wr.heap.size]? = some (.cells #[.int .i64 m1, .int .i64 m2, .int .i64 m3, .int .i64 m4] 36)) := by rw [hW]; exact heap_alloc_new _ _
          go_upto_region 7 with fail
          obtain ⟨mb, hmb⟩ : ∃ s, s = wr.heap.size := ⟨_, rfl⟩
          rw [← hW]
          rw [← hmb] at HMX ⊢
          have HMB : Hid (mb = wr.heap.size) := hmb
          have y0 : W.cell? ⟨mb, 0, none⟩ = some (.int .i64 m1) := cell_arr HMX.out rfl
          have y1 : W.cell? ⟨mb, 1, none⟩ = some (.int .i64 m2) := cell_arr HMX.out rfl
          have y2 : W.cell? ⟨mb, 2, none⟩ = some (.int .i64 m3) := cell_arr HMX.out rfl
          have y3 : W.cell? ⟨mb, 3, none⟩ = some (.int .i64 m4) := cell_arr HMX.out rfl
          have htb := (HBW.out.block _ (Array.getElem?_eq_some_iff.1 HT.out).1).trans HT.out
          have z0 : W.cell? ⟨w.heap.size, 0, none⟩ = some (.int .i64 t1) := cell_arr htb rfl
          have z1 : W.cell? ⟨w.heap.size, 1, none⟩ = some (.int .i64 t2) := cell_arr htb rfl
          clear hW hmb htb c0 c1 c2 c3
          go_cut [82] from 21 to 95 (fun v wc => v = .bool b ∧ wc = W)
          case first =>
            unfold rgB at hb
            obtain ⟨e0, d0⟩ : ∃ e, (m1 == 1) = e := ⟨_, rfl⟩
            obtain ⟨e1, d1⟩ : ∃ e, (m1 == 2) = e := ⟨_, rfl⟩
            obtain ⟨e2, d2⟩ : ∃ e, (decide (m2 < 0)) = e := ⟨_, rfl⟩
            obtain ⟨e3, d3⟩ : ∃ e, (decide (m3 < 1)) = e := ⟨_, rfl⟩
            obtain ⟨e4, d4⟩ : ∃ e, (decide (3 < m3)) = e := ⟨_, rfl⟩
            obtain ⟨e5, d5⟩ : ∃ e, (decide (m3 < 3)) = e := ⟨_, rfl⟩
            obtain ⟨e6, d6⟩ : ∃ e, (decide (m4 < 0)) = e := ⟨_, rfl⟩
            obtain ⟨e7, d7⟩ : ∃ e, (m1 == t1) = e := ⟨_, rfl⟩
            obtain ⟨e8, d8⟩ : ∃ e, (m2 == t2) = e := ⟨_, rfl⟩
            obtain ⟨e9, d9⟩ : ∃ e, (m3 == t1) = e := ⟨_, rfl⟩
            obtain ⟨e10, d10⟩ : ∃ e, (m4 == t2) = e := ⟨_, rfl⟩
            rw [d0, d1, d2, d3, d4, d5, d6, d7, d8, d9, d10] at hb
            cases e0
            ·
              cases e1
              ·
                have HZ : Hid (_ = b) := hb
                clear hb
                try (have n0 : ¬ m1 = 1 := ne_of_beq_false d0)
                try (have n1 : ¬ m1 = 2 := ne_of_beq_false d1)
                first | (have h0 := eq_of_beq d0; clear d0; first | subst h0 | exact absurd h0 (by decide) | clear h0) | skip
                first | (have h0 := eq_of_beq d1; clear d1; first | subst h0 | exact absurd h0 (by decide) | clear h0) | skip
                first | (have h0 := eq_of_beq d7; clear d7; first | subst h0 | exact absurd h0 (by decide) | clear h0) | skip
                first | (have h0 := eq_of_beq d8; clear d8; first | subst h0 | exact absurd h0 (by decide) | clear h0) | skip
                first | (have h0 := eq_of_beq d9; clear d9; first | subst h0 | exact absurd h0 (by decide) | clear h0) | skip
                first | (have h0 := eq_of_beq d10; clear d10; first | subst h0 | exact absurd h0 (by decide) | clear h0) | skip
                all_goals go_wp2_with fail
                all_goals go_meet
                all_goals exact ⟨by rw [← HZ.out]; try rfl, rfl⟩
              ·
                cases e2
                ·
                  cases e3
                  ·
                    cases e4
                    ·
                      cases e5
                      ·
                        cases e7
                        ·
                          cases e9
                          ·
                            have HZ : Hid (_ = b) := hb
                            clear hb
                            try (have n0 : ¬ m1 = 1 := ne_of_beq_false d0)
                            try (have n1 : ¬ m1 = 2 := ne_of_beq_false d1)
                            first | (have h0 := eq_of_beq d0; clear d0; first | subst h0 | exact absurd h0 (by decide) | clear h0) | skip
                            first | (have h0 := eq_of_beq d1; clear d1; first | subst h0 | exact absurd h0 (by decide) | clear h0) | skip
                            first | (have h0 := eq_of_beq d7; clear d7; first | subst h0 | exact absurd h0 (by decide) | clear h0) | skip
                            first | (have h0 := eq_of_beq d8; clear d8; first | subst h0 | exact absurd h0 (by decide) | clear h0) | skip
                            first | (have h0 := eq_of_beq d9; clear d9; first | subst h0 | exact absurd h0 (by decide) | clear h0) | skip
                            first | (have h0 := eq_of_beq d10; clear d10; first | subst h0 | exact absurd h0 (by decide) | clear h0) | skip
                            all_goals go_wp2_with fail
                            all_goals go_meet
                            all_goals exact ⟨by rw [← HZ.out]; try rfl, rfl⟩
                          ·
                            cases e10
                            ·
                              have HZ : Hid (_ = b) := hb
                              clear hb
                              try (have n0 : ¬ m1 = 1 := ne_of_beq_false d0)
                              try (have n1 : ¬ m1 = 2 := ne_of_beq_false d1)
                              first | (have h0 := eq_of_beq d0; clear d0; first | subst h0 | exact absurd h0 (by decide) | clear h0) | skip
                              first | (have h0 := eq_of_beq d1; clear d1; first | subst h0 | exact absurd h0 (by decide) | clear h0) | skip
                              first | (have h0 := eq_of_beq d7; clear d7; first | subst h0 | exact absurd h0 (by decide) | clear h0) | skip
                              first | (have h0 := eq_of_beq d8; clear d8; first | subst h0 | exact absurd h0 (by decide) | clear h0) | skip
                              first | (have h0 := eq_of_beq d9; clear d9; first | subst h0 | exact absurd h0 (by decide) | clear h0) | skip
                              first | (have h0 := eq_of_beq d10; clear d10; first | subst h0 | exact absurd h0 (by decide) | clear h0) | skip
                              all_goals go_wp2_with fail
                              all_goals go_meet
                              all_goals exact ⟨by rw [← HZ.out]; try rfl, rfl⟩
                            ·
                              have HZ : Hid (_ = b) := hb
                              clear hb
                              try (have n0 : ¬ m1 = 1 := ne_of_beq_false d0)
                              try (have n1 : ¬ m1 = 2 := ne_of_beq_false d1)
                              first | (have h0 := eq_of_beq d0; clear d0; first | subst h0 | exact absurd h0 (by decide) | clear h0) | skip
                              first | (have h0 := eq_of_beq d1; clear d1; first | subst h0 | exact absurd h0 (by decide) | clear h0) | skip
                              first | (have h0 := eq_of_beq d7; clear d7; first | subst h0 | exact absurd h0 (by decide) | clear h0) | skip
                              first | (have h0 := eq_of_beq d8; clear d8; first | subst h0 | exact absurd h0 (by decide) | clear h0) | skip
                              first | (have h0 := eq_of_beq d9; clear d9; first | subst h0 | exact absurd h0 (by decide) | clear h0) | skip
                              first | (have h0 := eq_of_beq d10; clear d10; first | subst h0 | exact absurd h0 (by decide) | clear h0) | skip
                              all_goals go_wp2_with fail
                              all_goals go_meet
                              all_goals exact ⟨by rw [← HZ.out]; try rfl, rfl⟩
                        ·
                          cases e8
                          ·
                            cases e9
                            ·
                              have HZ : Hid (_ = b) := hb
                              clear hb
                              try (have n0 : ¬ m1 = 1 := ne_of_beq_false d0)
                              try (have n1 : ¬ m1 = 2 := ne_of_beq_false d1)
                              first | (have h0 := eq_of_beq d0; clear d0; first | subst h0 | exact absurd h0 (by decide) | clear h0) | skip
                              first | (have h0 := eq_of_beq d1; clear d1; first | subst h0 | exact absurd h0 (by decide) | clear h0) | skip
                              first | (have h0 := eq_of_beq d7; clear d7; first | subst h0 | exact absurd h0 (by decide) | clear h0) | skip
                              first | (have h0 := eq_of_beq d8; clear d8; first | subst h0 | exact absurd h0 (by decide) | clear h0) | skip
                              first | (have h0 := eq_of_beq d9; clear d9; first | subst h0 | exact absurd h0 (by decide) | clear h0) | skip
                              first | (have h0 := eq_of_beq d10; clear d10; first | subst h0 | exact absurd h0 (by decide) | clear h0) | skip
                              all_goals go_wp2_with fail
                              all_goals go_meet
                              all_goals exact ⟨by rw [← HZ.out]; try rfl, rfl⟩
                            ·
                              cases e10
                              ·
                                have HZ : Hid (_ = b) := hb
                                clear hb
                                try (have n0 : ¬ m1 = 1 := ne_of_beq_false d0)
                                try (have n1 : ¬ m1 = 2 := ne_of_beq_false d1)
                                first | (have h0 := eq_of_beq d0; clear d0; first | subst h0 | exact absurd h0 (by decide) | clear h0) | skip
                                first | (have h0 := eq_of_beq d1; clear d1; first | subst h0 | exact absurd h0 (by decide) | clear h0) | skip
                                first | (have h0 := eq_of_beq d7; clear d7; first | subst h0 | exact absurd h0 (by decide) | clear h0) | skip
                                first | (have h0 := eq_of_beq d8; clear d8; first | subst h0 | exact absurd h0 (by decide) | clear h0) | skip
                                first | (have h0 := eq_of_beq d9; clear d9; first | subst h0 | exact absurd h0 (by decide) | clear h0) | skip
                                first | (have h0 := eq_of_beq d10; clear d10; first | subst h0 | exact absurd h0 (by decide) | clear h0) | skip
                                all_goals go_wp2_with fail
                                all_goals go_meet
                                all_goals exact ⟨by rw [← HZ.out]; try rfl, rfl⟩
                              ·
                                have HZ : Hid (_ = b) := hb
                                clear hb
                                try (have n0 : ¬ m1 = 1 := ne_of_beq_false d0)
                                try (have n1 : ¬ m1 = 2 := ne_of_beq_false d1)
                                first | (have h0 := eq_of_beq d0; clear d0; first | subst h0 | exact absurd h0 (by decide) | clear h0) | skip
                                first | (have h0 := eq_of_beq d1; clear d1; first | subst h0 | exact absurd h0 (by decide) | clear h0) | skip
                                first | (have h0 := eq_of_beq d7; clear d7; first | subst h0 | exact absurd h0 (by decide) | clear h0) | skip
                                first | (have h0 := eq_of_beq d8; clear d8; first | subst h0 | exact absurd h0 (by decide) | clear h0) | skip
                                first | (have h0 := eq_of_beq d9; clear d9; first | subst h0 | exact absurd h0 (by decide) | clear h0) | skip
                                first | (have h0 := eq_of_beq d10; clear d10; first | subst h0 | exact absurd h0 (by decide) | clear h0) | skip
                                all_goals go_wp2_with fail
                                all_goals go_meet
                                all_goals exact ⟨by rw [← HZ.out]; try rfl, rfl⟩
                          ·
                            have HZ : Hid (_ = b) := hb
                            clear hb
                            try (have n0 : ¬ m1 = 1 := ne_of_beq_false d0)
                            try (have n1 : ¬ m1 = 2 := ne_of_beq_false d1)
                            first | (have h0 := eq_of_beq d0; clear d0; first | subst h0 | exact absurd h0 (by decide) | clear h0) | skip
                            first | (have h0 := eq_of_beq d1; clear d1; first | subst h0 | exact absurd h0 (by decide) | clear h0) | skip
                            first | (have h0 := eq_of_beq d7; clear d7; first | subst h0 | exact absurd h0 (by decide) | clear h0) | skip
                            first | (have h0 := eq_of_beq d8; clear d8; first | subst h0 | exact absurd h0 (by decide) | clear h0) | skip
                            first | (have h0 := eq_of_beq d9; clear d9; first | subst h0 | exact absurd h0 (by decide) | clear h0) | skip
                            first | (have h0 := eq_of_beq d10; clear d10; first | subst h0 | exact absurd h0 (by decide) | clear h0) | skip
                            all_goals go_wp2_with fail
                            all_goals go_meet
                            all_goals exact ⟨by rw [← HZ.out]; try rfl, rfl⟩
                      ·
                        cases e6
                        ·
                          cases e7
                          ·
                            cases e9
                            ·
                              have HZ : Hid (_ = b) := hb
                              clear hb
                              try (have n0 : ¬ m1 = 1 := ne_of_beq_false d0)
                              try (have n1 : ¬ m1 = 2 := ne_of_beq_false d1)
                              first | (have h0 := eq_of_beq d0; clear d0; first | subst h0 | exact absurd h0 (by decide) | clear h0) | skip
                              first | (have h0 := eq_of_beq d1; clear d1; first | subst h0 | exact absurd h0 (by decide) | clear h0) | skip
                              first | (have h0 := eq_of_beq d7; clear d7; first | subst h0 | exact absurd h0 (by decide) | clear h0) | skip
                              first | (have h0 := eq_of_beq d8; clear d8; first | subst h0 | exact absurd h0 (by decide) | clear h0) | skip
                              first | (have h0 := eq_of_beq d9; clear d9; first | subst h0 | exact absurd h0 (by decide) | clear h0) | skip
                              first | (have h0 := eq_of_beq d10; clear d10; first | subst h0 | exact absurd h0 (by decide) | clear h0) | skip
                              all_goals go_wp2_with fail
                              all_goals go_meet
                              all_goals exact ⟨by rw [← HZ.out]; try rfl, rfl⟩
                            ·
                              cases e10
                              ·
                                have HZ : Hid (_ = b) := hb
                                clear hb
                                try (have n0 : ¬ m1 = 1 := ne_of_beq_false d0)
                                try (have n1 : ¬ m1 = 2 := ne_of_beq_false d1)
                                first | (have h0 := eq_of_beq d0; clear d0; first | subst h0 | exact absurd h0 (by decide) | clear h0) | skip
                                first | (have h0 := eq_of_beq d1; clear d1; first | subst h0 | exact absurd h0 (by decide) | clear h0) | skip
                                first | (have h0 := eq_of_beq d7; clear d7; first | subst h0 | exact absurd h0 (by decide) | clear h0) | skip
                                first | (have h0 := eq_of_beq d8; clear d8; first | subst h0 | exact absurd h0 (by decide) | clear h0) | skip
                                first | (have h0 := eq_of_beq d9; clear d9; first | subst h0 | exact absurd h0 (by decide) | clear h0) | skip
                                first | (have h0 := eq_of_beq d10; clear d10; first | subst h0 | exact absurd h0 (by decide) | clear h0) | skip
                                all_goals go_wp2_with fail
                                all_goals go_meet
                                all_goals exact ⟨by rw [← HZ.out]; try rfl, rfl⟩
                              ·
                                have HZ : Hid (_ = b) := hb
                                clear hb
                                try (have n0 : ¬ m1 = 1 := ne_of_beq_false d0)
                                try (have n1 : ¬ m1 = 2 := ne_of_beq_false d1)
                                first | (have h0 := eq_of_beq d0; clear d0; first | subst h0 | exact absurd h0 (by decide) | clear h0) | skip
                                first | (have h0 := eq_of_beq d1; clear d1; first | subst h0 | exact absurd h0 (by decide) | clear h0) | skip
                                first | (have h0 := eq_of_beq d7; clear d7; first | subst h0 | exact absurd h0 (by decide) | clear h0) | skip
                                first | (have h0 := eq_of_beq d8; clear d8; first | subst h0 | exact absurd h0 (by decide) | clear h0) | skip
                                first | (have h0 := eq_of_beq d9; clear d9; first | subst h0 | exact absurd h0 (by decide) | clear h0) | skip
                                first | (have h0 := eq_of_beq d10; clear d10; first | subst h0 | exact absurd h0 (by decide) | clear h0) | skip
                                all_goals go_wp2_with fail
                                all_goals go_meet
                                all_goals exact ⟨by rw [← HZ.out]; try rfl, rfl⟩
                          ·
                            cases e8
                            ·
                              cases e9
                              ·
                                have HZ : Hid (_ = b) := hb
                                clear hb
                                try (have n0 : ¬ m1 = 1 := ne_of_beq_false d0)
                                try (have n1 : ¬ m1 = 2 := ne_of_beq_false d1)
                                first | (have h0 := eq_of_beq d0; clear d0; first | subst h0 | exact absurd h0 (by decide) | clear h0) | skip
                                first | (have h0 := eq_of_beq d1; clear d1; first | subst h0 | exact absurd h0 (by decide) | clear h0) | skip
                                first | (have h0 := eq_of_beq d7; clear d7; first | subst h0 | exact absurd h0 (by decide) | clear h0) | skip
                                first | (have h0 := eq_of_beq d8; clear d8; first | subst h0 | exact absurd h0 (by decide) | clear h0) | skip
                                first | (have h0 := eq_of_beq d9; clear d9; first | subst h0 | exact absurd h0 (by decide) | clear h0) | skip
                                first | (have h0 := eq_of_beq d10; clear d10; first | subst h0 | exact absurd h0 (by decide) | clear h0) | skip
                                all_goals go_wp2_with fail
                                all_goals go_meet
                                all_goals exact ⟨by rw [← HZ.out]; try rfl, rfl⟩
                              ·
                                cases e10
                                ·
                                  have HZ : Hid (_ = b) := hb
                                  clear hb
                                  try (have n0 : ¬ m1 = 1 := ne_of_beq_false d0)
                                  try (have n1 : ¬ m1 = 2 := ne_of_beq_false d1)
                                  first | (have h0 := eq_of_beq d0; clear d0; first | subst h0 | exact absurd h0 (by decide) | clear h0) | skip
                                  first | (have h0 := eq_of_beq d1; clear d1; first | subst h0 | exact absurd h0 (by decide) | clear h0) | skip
                                  first | (have h0 := eq_of_beq d7; clear d7; first | subst h0 | exact absurd h0 (by decide) | clear h0) | skip
                                  first | (have h0 := eq_of_beq d8; clear d8; first | subst h0 | exact absurd h0 (by decide) | clear h0) | skip
                                  first | (have h0 := eq_of_beq d9; clear d9; first | subst h0 | exact absurd h0 (by decide) | clear h0) | skip
                                  first | (have h0 := eq_of_beq d10; clear d10; first | subst h0 | exact absurd h0 (by decide) | clear h0) | skip
                                  all_goals go_wp2_with fail
                                  all_goals go_meet
                                  all_goals exact ⟨by rw [← HZ.out]; try rfl, rfl⟩
                                ·
                                  have HZ : Hid (_ = b) := hb
                                  clear hb
                                  try (have n0 : ¬ m1 = 1 := ne_of_beq_false d0)
                                  try (have n1 : ¬ m1 = 2 := ne_of_beq_false d1)
                                  first | (have h0 := eq_of_beq d0; clear d0; first | subst h0 | exact absurd h0 (by decide) | clear h0) | skip
                                  first | (have h0 := eq_of_beq d1; clear d1; first | subst h0 | exact absurd h0 (by decide) | clear h0) | skip
                                  first | (have h0 := eq_of_beq d7; clear d7; first | subst h0 | exact absurd h0 (by decide) | clear h0) | skip
                                  first | (have h0 := eq_of_beq d8; clear d8; first | subst h0 | exact absurd h0 (by decide) | clear h0) | skip
                                  first | (have h0 := eq_of_beq d9; clear d9; first | subst h0 | exact absurd h0 (by decide) | clear h0) | skip
                                  first | (have h0 := eq_of_beq d10; clear d10; first | subst h0 | exact absurd h0 (by decide) | clear h0) | skip
                                  all_goals go_wp2_with fail
                                  all_goals go_meet
                                  all_goals exact ⟨by rw [← HZ.out]; try rfl, rfl⟩
                            ·
                              have HZ : Hid (_ = b) := hb
                              clear hb
                              try (have n0 : ¬ m1 = 1 := ne_of_beq_false d0)
                              try (have n1 : ¬ m1 = 2 := ne_of_beq_false d1)
                              first | (have h0 := eq_of_beq d0; clear d0; first | subst h0 | exact absurd h0 (by decide) | clear h0) | skip
                              first | (have h0 := eq_of_beq d1; clear d1; first | subst h0 | exact absurd h0 (by decide) | clear h0) | skip
                              first | (have h0 := eq_of_beq d7; clear d7; first | subst h0 | exact absurd h0 (by decide) | clear h0) | skip
                              first | (have h0 := eq_of_beq d8; clear d8; first | subst h0 | exact absurd h0 (by decide) | clear h0) | skip
                              first | (have h0 := eq_of_beq d9; clear d9; first | subst h0 | exact absurd h0 (by decide) | clear h0) | skip
                              first | (have h0 := eq_of_beq d10; clear d10; first | subst h0 | exact absurd h0 (by decide) | clear h0) | skip
                              all_goals go_wp2_with fail
                              all_goals go_meet
                              all_goals exact ⟨by rw [← HZ.out]; try rfl, rfl⟩
                        ·
                          have HZ : Hid (_ = b) := hb
                          clear hb
                          try (have n0 : ¬ m1 = 1 := ne_of_beq_false d0)
                          try (have n1 : ¬ m1 = 2 := ne_of_beq_false d1)
                          first | (have h0 := eq_of_beq d0; clear d0; first | subst h0 | exact absurd h0 (by decide) | clear h0) | skip
                          first | (have h0 := eq_of_beq d1; clear d1; first | subst h0 | exact absurd h0 (by decide) | clear h0) | skip
                          first | (have h0 := eq_of_beq d7; clear d7; first | subst h0 | exact absurd h0 (by decide) | clear h0) | skip
                          first | (have h0 := eq_of_beq d8; clear d8; first | subst h0 | exact absurd h0 (by decide) | clear h0) | skip
                          first | (have h0 := eq_of_beq d9; clear d9; first | subst h0 | exact absurd h0 (by decide) | clear h0) | skip
                          first | (have h0 := eq_of_beq d10; clear d10; first | subst h0 | exact absurd h0 (by decide) | clear h0) | skip
                          all_goals go_wp2_with fail
                          all_goals go_meet
                          all_goals exact ⟨by rw [← HZ.out]; try rfl, rfl⟩
                    ·
                      have HZ : Hid (_ = b) := hb
                      clear hb
                      try (have n0 : ¬ m1 = 1 := ne_of_beq_false d0)
                      try (have n1 : ¬ m1 = 2 := ne_of_beq_false d1)
                      first | (have h0 := eq_of_beq d0; clear d0; first | subst h0 | exact absurd h0 (by decide) | clear h0) | skip
                      first | (have h0 := eq_of_beq d1; clear d1; first | subst h0 | exact absurd h0 (by decide) | clear h0) | skip
                      first | (have h0 := eq_of_beq d7; clear d7; first | subst h0 | exact absurd h0 (by decide) | clear h0) | skip
                      first | (have h0 := eq_of_beq d8; clear d8; first | subst h0 | exact absurd h0 (by decide) | clear h0) | skip
                      first | (have h0 := eq_of_beq d9; clear d9; first | subst h0 | exact absurd h0 (by decide) | clear h0) | skip
                      first | (have h0 := eq_of_beq d10; clear d10; first | subst h0 | exact absurd h0 (by decide) | clear h0) | skip
                      all_goals go_wp2_with fail
                      all_goals go_meet
                      all_goals exact ⟨by rw [← HZ.out]; try rfl, rfl⟩
                  ·
                    have HZ : Hid (_ = b) := hb
                    clear hb
                    try (have n0 : ¬ m1 = 1 := ne_of_beq_false d0)
                    try (have n1 : ¬ m1 = 2 := ne_of_beq_false d1)
                    first | (have h0 := eq_of_beq d0; clear d0; first | subst h0 | exact absurd h0 (by decide) | clear h0) | skip
                    first | (have h0 := eq_of_beq d1; clear d1; first | subst h0 | exact absurd h0 (by decide) | clear h0) | skip
                    first | (have h0 := eq_of_beq d7; clear d7; first | subst h0 | exact absurd h0 (by decide) | clear h0) | skip
                    first | (have h0 := eq_of_beq d8; clear d8; first | subst h0 | exact absurd h0 (by decide) | clear h0) | skip
                    first | (have h0 := eq_of_beq d9; clear d9; first | subst h0 | exact absurd h0 (by decide) | clear h0) | skip
                    first | (have h0 := eq_of_beq d10; clear d10; first | subst h0 | exact absurd h0 (by decide) | clear h0) | skip
                    all_goals go_wp2_with fail
                    all_goals go_meet
                    all_goals exact ⟨by rw [← HZ.out]; try rfl, rfl⟩
                ·
                  have HZ : Hid (_ = b) := hb
                  clear hb
                  try (have n0 : ¬ m1 = 1 := ne_of_beq_false d0)
                  try (have n1 : ¬ m1 = 2 := ne_of_beq_false d1)
                  first | (have h0 := eq_of_beq d0; clear d0; first | subst h0 | exact absurd h0 (by decide) | clear h0) | skip
                  first | (have h0 := eq_of_beq d1; clear d1; first | subst h0 | exact absurd h0 (by decide) | clear h0) | skip
                  first | (have h0 := eq_of_beq d7; clear d7; first | subst h0 | exact absurd h0 (by decide) | clear h0) | skip
                  first | (have h0 := eq_of_beq d8; clear d8; first | subst h0 | exact absurd h0 (by decide) | clear h0) | skip
                  first | (have h0 := eq_of_beq d9; clear d9; first | subst h0 | exact absurd h0 (by decide) | clear h0) | skip
                  first | (have h0 := eq_of_beq d10; clear d10; first | subst h0 | exact absurd h0 (by decide) | clear h0) | skip
                  all_goals go_wp2_with fail
                  all_goals go_meet
                  all_goals exact ⟨by rw [← HZ.out]; try rfl, rfl⟩
            ·
              cases e2
              ·
                cases e3
                ·
                  cases e4
                  ·
                    cases e5
                    ·
                      cases e7
                      ·
                        cases e9
                        ·
                          have HZ : Hid (_ = b) := hb
                          clear hb
                          try (have n0 : ¬ m1 = 1 := ne_of_beq_false d0)
                          try (have n1 : ¬ m1 = 2 := ne_of_beq_false d1)
                          first | (have h0 := eq_of_beq d0; clear d0; first | subst h0 | exact absurd h0 (by decide) | clear h0) | skip
                          first | (have h0 := eq_of_beq d1; clear d1; first | subst h0 | exact absurd h0 (by decide) | clear h0) | skip
                          first | (have h0 := eq_of_beq d7; clear d7; first | subst h0 | exact absurd h0 (by decide) | clear h0) | skip
                          first | (have h0 := eq_of_beq d8; clear d8; first | subst h0 | exact absurd h0 (by decide) | clear h0) | skip
                          first | (have h0 := eq_of_beq d9; clear d9; first | subst h0 | exact absurd h0 (by decide) | clear h0) | skip
                          first | (have h0 := eq_of_beq d10; clear d10; first | subst h0 | exact absurd h0 (by decide) | clear h0) | skip
                          all_goals go_wp2_with fail
                          all_goals go_meet
                          all_goals exact ⟨by rw [← HZ.out]; try rfl, rfl⟩
                        ·
                          cases e10
                          ·
                            have HZ : Hid (_ = b) := hb
                            clear hb
                            try (have n0 : ¬ m1 = 1 := ne_of_beq_false d0)
                            try (have n1 : ¬ m1 = 2 := ne_of_beq_false d1)
                            first | (have h0 := eq_of_beq d0; clear d0; first | subst h0 | exact absurd h0 (by decide) | clear h0) | skip
                            first | (have h0 := eq_of_beq d1; clear d1; first | subst h0 | exact absurd h0 (by decide) | clear h0) | skip
                            first | (have h0 := eq_of_beq d7; clear d7; first | subst h0 | exact absurd h0 (by decide) | clear h0) | skip
                            first | (have h0 := eq_of_beq d8; clear d8; first | subst h0 | exact absurd h0 (by decide) | clear h0) | skip
                            first | (have h0 := eq_of_beq d9; clear d9; first | subst h0 | exact absurd h0 (by decide) | clear h0) | skip
                            first | (have h0 := eq_of_beq d10; clear d10; first | subst h0 | exact absurd h0 (by decide) | clear h0) | skip
                            all_goals go_wp2_with fail
                            all_goals go_meet
                            all_goals exact ⟨by rw [← HZ.out]; try rfl, rfl⟩
                          ·
                            have HZ : Hid (_ = b) := hb
                            clear hb
                            try (have n0 : ¬ m1 = 1 := ne_of_beq_false d0)
                            try (have n1 : ¬ m1 = 2 := ne_of_beq_false d1)
                            first | (have h0 := eq_of_beq d0; clear d0; first | subst h0 | exact absurd h0 (by decide) | clear h0) | skip
                            first | (have h0 := eq_of_beq d1; clear d1; first | subst h0 | exact absurd h0 (by decide) | clear h0) | skip
                            first | (have h0 := eq_of_beq d7; clear d7; first | subst h0 | exact absurd h0 (by decide) | clear h0) | skip
                            first | (have h0 := eq_of_beq d8; clear d8; first | subst h0 | exact absurd h0 (by decide) | clear h0) | skip
                            first | (have h0 := eq_of_beq d9; clear d9; first | subst h0 | exact absurd h0 (by decide) | clear h0) | skip
                            first | (have h0 := eq_of_beq d10; clear d10; first | subst h0 | exact absurd h0 (by decide) | clear h0) | skip
                            all_goals go_wp2_with fail
                            all_goals go_meet
                            all_goals exact ⟨by rw [← HZ.out]; try rfl, rfl⟩
                      ·
                        cases e8
                        ·
                          cases e9
                          ·
                            have HZ : Hid (_ = b) := hb
                            clear hb
                            try (have n0 : ¬ m1 = 1 := ne_of_beq_false d0)
                            try (have n1 : ¬ m1 = 2 := ne_of_beq_false d1)
                            first | (have h0 := eq_of_beq d0; clear d0; first | subst h0 | exact absurd h0 (by decide) | clear h0) | skip
                            first | (have h0 := eq_of_beq d1; clear d1; first | subst h0 | exact absurd h0 (by decide) | clear h0) | skip
                            first | (have h0 := eq_of_beq d7; clear d7; first | subst h0 | exact absurd h0 (by decide) | clear h0) | skip
                            first | (have h0 := eq_of_beq d8; clear d8; first | subst h0 | exact absurd h0 (by decide) | clear h0) | skip
                            first | (have h0 := eq_of_beq d9; clear d9; first | subst h0 | exact absurd h0 (by decide) | clear h0) | skip
                            first | (have h0 := eq_of_beq d10; clear d10; first | subst h0 | exact absurd h0 (by decide) | clear h0) | skip
                            all_goals go_wp2_with fail
                            all_goals go_meet
                            all_goals exact ⟨by rw [← HZ.out]; try rfl, rfl⟩
                          ·
                            cases e10
                            ·
                              have HZ : Hid (_ = b) := hb
                              clear hb
                              try (have n0 : ¬ m1 = 1 := ne_of_beq_false d0)
                              try (have n1 : ¬ m1 = 2 := ne_of_beq_false d1)
                              first | (have h0 := eq_of_beq d0; clear d0; first | subst h0 | exact absurd h0 (by decide) | clear h0) | skip
                              first | (have h0 := eq_of_beq d1; clear d1; first | subst h0 | exact absurd h0 (by decide) | clear h0) | skip
                              first | (have h0 := eq_of_beq d7; clear d7; first | subst h0 | exact absurd h0 (by decide) | clear h0) | skip
                              first | (have h0 := eq_of_beq d8; clear d8; first | subst h0 | exact absurd h0 (by decide) | clear h0) | skip
                              first | (have h0 := eq_of_beq d9; clear d9; first | subst h0 | exact absurd h0 (by decide) | clear h0) | skip
                              first | (have h0 := eq_of_beq d10; clear d10; first | subst h0 | exact absurd h0 (by decide) | clear h0) | skip
                              all_goals go_wp2_with fail
                              all_goals go_meet
                              all_goals exact ⟨by rw [← HZ.out]; try rfl, rfl⟩
                            ·
                              have HZ : Hid (_ = b) := hb
                              clear hb
                              try (have n0 : ¬ m1 = 1 := ne_of_beq_false d0)
                              try (have n1 : ¬ m1 = 2 := ne_of_beq_false d1)
                              first | (have h0 := eq_of_beq d0; clear d0; first | subst h0 | exact absurd h0 (by decide) | clear h0) | skip
                              first | (have h0 := eq_of_beq d1; clear d1; first | subst h0 | exact absurd h0 (by decide) | clear h0) | skip
                              first | (have h0 := eq_of_beq d7; clear d7; first | subst h0 | exact absurd h0 (by decide) | clear h0) | skip
                              first | (have h0 := eq_of_beq d8; clear d8; first | subst h0 | exact absurd h0 (by decide) | clear h0) | skip
                              first | (have h0 := eq_of_beq d9; clear d9; first | subst h0 | exact absurd h0 (by decide) | clear h0) | skip
                              first | (have h0 := eq_of_beq d10; clear d10; first | subst h0 | exact absurd h0 (by decide) | clear h0) | skip
                              all_goals go_wp2_with fail
                              all_goals go_meet
                              all_goals exact ⟨by rw [← HZ.out]; try rfl, rfl⟩
                        ·
                          have HZ : Hid (_ = b) := hb
                          clear hb
                          try (have n0 : ¬ m1 = 1 := ne_of_beq_false d0)
                          try (have n1 : ¬ m1 = 2 := ne_of_beq_false d1)
                          first | (have h0 := eq_of_beq d0; clear d0; first | subst h0 | exact absurd h0 (by decide) | clear h0) | skip
                          first | (have h0 := eq_of_beq d1; clear d1; first | subst h0 | exact absurd h0 (by decide) | clear h0) | skip
                          first | (have h0 := eq_of_beq d7; clear d7; first | subst h0 | exact absurd h0 (by decide) | clear h0) | skip
                          first | (have h0 := eq_of_beq d8; clear d8; first | subst h0 | exact absurd h0 (by decide) | clear h0) | skip
                          first | (have h0 := eq_of_beq d9; clear d9; first | subst h0 | exact absurd h0 (by decide) | clear h0) | skip
                          first | (have h0 := eq_of_beq d10; clear d10; first | subst h0 | exact absurd h0 (by decide) | clear h0) | skip
                          all_goals go_wp2_with fail
                          all_goals go_meet
                          all_goals exact ⟨by rw [← HZ.out]; try rfl, rfl⟩
                    ·
                      cases e6
                      ·
                        cases e7
                        ·
                          cases e9
                          ·
                            have HZ : Hid (_ = b) := hb
                            clear hb
                            try (have n0 : ¬ m1 = 1 := ne_of_beq_false d0)
                            try (have n1 : ¬ m1 = 2 := ne_of_beq_false d1)
                            first | (have h0 := eq_of_beq d0; clear d0; first | subst h0 | exact absurd h0 (by decide) | clear h0) | skip
                            first | (have h0 := eq_of_beq d1; clear d1; first | subst h0 | exact absurd h0 (by decide) | clear h0) | skip
                            first | (have h0 := eq_of_beq d7; clear d7; first | subst h0 | exact absurd h0 (by decide) | clear h0) | skip
                            first | (have h0 := eq_of_beq d8; clear d8; first | subst h0 | exact absurd h0 (by decide) | clear h0) | skip
                            first | (have h0 := eq_of_beq d9; clear d9; first | subst h0 | exact absurd h0 (by decide) | clear h0) | skip
                            first | (have h0 := eq_of_beq d10; clear d10; first | subst h0 | exact absurd h0 (by decide) | clear h0) | skip
                            all_goals go_wp2_with fail
                            all_goals go_meet
                            all_goals exact ⟨by rw [← HZ.out]; try rfl, rfl⟩
                          ·
                            cases e10
                            ·
                              have HZ : Hid (_ = b) := hb
                              clear hb
                              try (have n0 : ¬ m1 = 1 := ne_of_beq_false d0)
                              try (have n1 : ¬ m1 = 2 := ne_of_beq_false d1)
                              first | (have h0 := eq_of_beq d0; clear d0; first | subst h0 | exact absurd h0 (by decide) | clear h0) | skip
                              first | (have h0 := eq_of_beq d1; clear d1; first | subst h0 | exact absurd h0 (by decide) | clear h0) | skip
                              first | (have h0 := eq_of_beq d7; clear d7; first | subst h0 | exact absurd h0 (by decide) | clear h0) | skip
                              first | (have h0 := eq_of_beq d8; clear d8; first | subst h0 | exact absurd h0 (by decide) | clear h0) | skip
                              first | (have h0 := eq_of_beq d9; clear d9; first | subst h0 | exact absurd h0 (by decide) | clear h0) | skip
                              first | (have h0 := eq_of_beq d10; clear d10; first | subst h0 | exact absurd h0 (by decide) | clear h0) | skip
                              all_goals go_wp2_with fail
                              all_goals go_meet
                              all_goals exact ⟨by rw [← HZ.out]; try rfl, rfl⟩
                            ·
                              have HZ : Hid (_ = b) := hb
                              clear hb
                              try (have n0 : ¬ m1 = 1 := ne_of_beq_false d0)
                              try (have n1 : ¬ m1 = 2 := ne_of_beq_false d1)
                              first | (have h0 := eq_of_beq d0; clear d0; first | subst h0 | exact absurd h0 (by decide) | clear h0) | skip
                              first | (have h0 := eq_of_beq d1; clear d1; first | subst h0 | exact absurd h0 (by decide) | clear h0) | skip
                              first | (have h0 := eq_of_beq d7; clear d7; first | subst h0 | exact absurd h0 (by decide) | clear h0) | skip
                              first | (have h0 := eq_of_beq d8; clear d8; first | subst h0 | exact absurd h0 (by decide) | clear h0) | skip
                              first | (have h0 := eq_of_beq d9; clear d9; first | subst h0 | exact absurd h0 (by decide) | clear h0) | skip
                              first | (have h0 := eq_of_beq d10; clear d10; first | subst h0 | exact absurd h0 (by decide) | clear h0) | skip
                              all_goals go_wp2_with fail
                              all_goals go_meet
                              all_goals exact ⟨by rw [← HZ.out]; try rfl, rfl⟩
                        ·
                          cases e8
                          ·
                            cases e9
                            ·
                              have HZ : Hid (_ = b) := hb
                              clear hb
                              try (have n0 : ¬ m1 = 1 := ne_of_beq_false d0)
                              try (have n1 : ¬ m1 = 2 := ne_of_beq_false d1)
                              first | (have h0 := eq_of_beq d0; clear d0; first | subst h0 | exact absurd h0 (by decide) | clear h0) | skip
                              first | (have h0 := eq_of_beq d1; clear d1; first | subst h0 | exact absurd h0 (by decide) | clear h0) | skip
                              first | (have h0 := eq_of_beq d7; clear d7; first | subst h0 | exact absurd h0 (by decide) | clear h0) | skip
                              first | (have h0 := eq_of_beq d8; clear d8; first | subst h0 | exact absurd h0 (by decide) | clear h0) | skip
                              first | (have h0 := eq_of_beq d9; clear d9; first | subst h0 | exact absurd h0 (by decide) | clear h0) | skip
                              first | (have h0 := eq_of_beq d10; clear d10; first | subst h0 | exact absurd h0 (by decide) | clear h0) | skip
                              all_goals go_wp2_with fail
                              all_goals go_meet
                              all_goals exact ⟨by rw [← HZ.out]; try rfl, rfl⟩
                            ·
                              cases e10
                              ·
                                have HZ : Hid (_ = b) := hb
                                clear hb
                                try (have n0 : ¬ m1 = 1 := ne_of_beq_false d0)
                                try (have n1 : ¬ m1 = 2 := ne_of_beq_false d1)
                                first | (have h0 := eq_of_beq d0; clear d0; first | subst h0 | exact absurd h0 (by decide) | clear h0) | skip
                                first | (have h0 := eq_of_beq d1; clear d1; first | subst h0 | exact absurd h0 (by decide) | clear h0) | skip
                                first | (have h0 := eq_of_beq d7; clear d7; first | subst h0 | exact absurd h0 (by decide) | clear h0) | skip
                                first | (have h0 := eq_of_beq d8; clear d8; first | subst h0 | exact absurd h0 (by decide) | clear h0) | skip
                                first | (have h0 := eq_of_beq d9; clear d9; first | subst h0 | exact absurd h0 (by decide) | clear h0) | skip
                                first | (have h0 := eq_of_beq d10; clear d10; first | subst h0 | exact absurd h0 (by decide) | clear h0) | skip
                                all_goals go_wp2_with fail
                                all_goals go_meet
                                all_goals exact ⟨by rw [← HZ.out]; try rfl, rfl⟩
                              ·
                                have HZ : Hid (_ = b) := hb
                                clear hb
                                try (have n0 : ¬ m1 = 1 := ne_of_beq_false d0)
                                try (have n1 : ¬ m1 = 2 := ne_of_beq_false d1)
                                first | (have h0 := eq_of_beq d0; clear d0; first | subst h0 | exact absurd h0 (by decide) | clear h0) | skip
                                first | (have h0 := eq_of_beq d1; clear d1; first | subst h0 | exact absurd h0 (by decide) | clear h0) | skip
                                first | (have h0 := eq_of_beq d7; clear d7; first | subst h0 | exact absurd h0 (by decide) | clear h0) | skip
                                first | (have h0 := eq_of_beq d8; clear d8; first | subst h0 | exact absurd h0 (by decide) | clear h0) | skip
                                first | (have h0 := eq_of_beq d9; clear d9; first | subst h0 | exact absurd h0 (by decide) | clear h0) | skip
                                first | (have h0 := eq_of_beq d10; clear d10; first | subst h0 | exact absurd h0 (by decide) | clear h0) | skip
                                all_goals go_wp2_with fail
                                all_goals go_meet
                                all_goals exact ⟨by rw [← HZ.out]; try rfl, rfl⟩
                          ·
                            have HZ : Hid (_ = b) := hb
                            clear hb
                            try (have n0 : ¬ m1 = 1 := ne_of_beq_false d0)
                            try (have n1 : ¬ m1 = 2 := ne_of_beq_false d1)
                            first | (have h0 := eq_of_beq d0; clear d0; first | subst h0 | exact absurd h0 (by decide) | clear h0) | skip
                            first | (have h0 := eq_of_beq d1; clear d1; first | subst h0 | exact absurd h0 (by decide) | clear h0) | skip
                            first | (have h0 := eq_of_beq d7; clear d7; first | subst h0 | exact absurd h0 (by decide) | clear h0) | skip
                            first | (have h0 := eq_of_beq d8; clear d8; first | subst h0 | exact absurd h0 (by decide) | clear h0) | skip
                            first | (have h0 := eq_of_beq d9; clear d9; first | subst h0 | exact absurd h0 (by decide) | clear h0) | skip
                            first | (have h0 := eq_of_beq d10; clear d10; first | subst h0 | exact absurd h0 (by decide) | clear h0) | skip
                            all_goals go_wp2_with fail
                            all_goals go_meet
                            all_goals exact ⟨by rw [← HZ.out]; try rfl, rfl⟩
                      ·
                        have HZ : Hid (_ = b) := hb
                        clear hb
                        try (have n0 : ¬ m1 = 1 := ne_of_beq_false d0)
                        try (have n1 : ¬ m1 = 2 := ne_of_beq_false d1)
                        first | (have h0 := eq_of_beq d0; clear d0; first | subst h0 | exact absurd h0 (by decide) | clear h0) | skip
                        first | (have h0 := eq_of_beq d1; clear d1; first | subst h0 | exact absurd h0 (by decide) | clear h0) | skip
                        first | (have h0 := eq_of_beq d7; clear d7; first | subst h0 | exact absurd h0 (by decide) | clear h0) | skip
                        first | (have h0 := eq_of_beq d8; clear d8; first | subst h0 | exact absurd h0 (by decide) | clear h0) | skip
                        first | (have h0 := eq_of_beq d9; clear d9; first | subst h0 | exact absurd h0 (by decide) | clear h0) | skip
                        first | (have h0 := eq_of_beq d10; clear d10; first | subst h0 | exact absurd h0 (by decide) | clear h0) | skip
                        all_goals go_wp2_with fail
                        all_goals go_meet
                        all_goals exact ⟨by rw [← HZ.out]; try rfl, rfl⟩
                  ·
                    have HZ : Hid (_ = b) := hb
                    clear hb
                    try (have n0 : ¬ m1 = 1 := ne_of_beq_false d0)
                    try (have n1 : ¬ m1 = 2 := ne_of_beq_false d1)
                    first | (have h0 := eq_of_beq d0; clear d0; first | subst h0 | exact absurd h0 (by decide) | clear h0) | skip
                    first | (have h0 := eq_of_beq d1; clear d1; first | subst h0 | exact absurd h0 (by decide) | clear h0) | skip
                    first | (have h0 := eq_of_beq d7; clear d7; first | subst h0 | exact absurd h0 (by decide) | clear h0) | skip
                    first | (have h0 := eq_of_beq d8; clear d8; first | subst h0 | exact absurd h0 (by decide) | clear h0) | skip
                    first | (have h0 := eq_of_beq d9; clear d9; first | subst h0 | exact absurd h0 (by decide) | clear h0) | skip
                    first | (have h0 := eq_of_beq d10; clear d10; first | subst h0 | exact absurd h0 (by decide) | clear h0) | skip
                    all_goals go_wp2_with fail
                    all_goals go_meet
                    all_goals exact ⟨by rw [← HZ.out]; try rfl, rfl⟩
                ·
                  have HZ : Hid (_ = b) := hb
                  clear hb
                  try (have n0 : ¬ m1 = 1 := ne_of_beq_false d0)
                  try (have n1 : ¬ m1 = 2 := ne_of_beq_false d1)
                  first | (have h0 := eq_of_beq d0; clear d0; first | subst h0 | exact absurd h0 (by decide) | clear h0) | skip
                  first | (have h0 := eq_of_beq d1; clear d1; first | subst h0 | exact absurd h0 (by decide) | clear h0) | skip
                  first | (have h0 := eq_of_beq d7; clear d7; first | subst h0 | exact absurd h0 (by decide) | clear h0) | skip
                  first | (have h0 := eq_of_beq d8; clear d8; first | subst h0 | exact absurd h0 (by decide) | clear h0) | skip
                  first | (have h0 := eq_of_beq d9; clear d9; first | subst h0 | exact absurd h0 (by decide) | clear h0) | skip
                  first | (have h0 := eq_of_beq d10; clear d10; first | subst h0 | exact absurd h0 (by decide) | clear h0) | skip
                  all_goals go_wp2_with fail
                  all_goals go_meet
                  all_goals exact ⟨by rw [← HZ.out]; try rfl, rfl⟩
              ·
                have HZ : Hid (_ = b) := hb
                clear hb
                try (have n0 : ¬ m1 = 1 := ne_of_beq_false d0)
                try (have n1 : ¬ m1 = 2 := ne_of_beq_false d1)
                first | (have h0 := eq_of_beq d0; clear d0; first | subst h0 | exact absurd h0 (by decide) | clear h0) | skip
                first | (have h0 := eq_of_beq d1; clear d1; first | subst h0 | exact absurd h0 (by decide) | clear h0) | skip
                first | (have h0 := eq_of_beq d7; clear d7; first | subst h0 | exact absurd h0 (by decide) | clear h0) | skip
                first | (have h0 := eq_of_beq d8; clear d8; first | subst h0 | exact absurd h0 (by decide) | clear h0) | skip
                first | (have h0 := eq_of_beq d9; clear d9; first | subst h0 | exact absurd h0 (by decide) | clear h0) | skip
                first | (have h0 := eq_of_beq d10; clear d10; first | subst h0 | exact absurd h0 (by decide) | clear h0) | skip
                all_goals go_wp2_with fail
                all_goals go_meet
                all_goals exact ⟨by rw [← HZ.out]; try rfl, rfl⟩
          case rest =>
            obtain ⟨rfl, rfl⟩ := hcut
            clear y0 y1 y2 y3 z0 z1 hb
            cases b
            · have HBW2 : Hid (Below w.heap.size w wc) := HB.out.trans (HBW.out.mono HB.out.size)
              have HT2 : Hid (wc.heap[w.heap.size]? = some (.cells #[.int .i64 t1, .int .i64 t2] 24 (0, 0))) := (HBW.out.block _ (Array.getElem?_eq_some_iff.1 HT.out).1).trans HT.out
              have HML : Hid (mb < wc.heap.size) := (Array.getElem?_eq_some_iff.1 HMX.out).1
              clear HBW
              go_wp2_with fail
              go_loopw [7] (fun v wr => ∃ j : Nat, j ≤ k ∧ v = .int .i64 j ∧ Hid (∀ j', ∀ h : j' < l.length, j' < j → ¬ l[j'].1 = (m1, m2)) ∧ Hid (Below w.heap.size w wr) ∧ Hid (Below wc.heap.size wc wr)) (fun v _ => k - (intOf v).toNat)
              case atStart => exact ⟨0, by omega, rfl, fun j' h hj => by omega, HBW2, Below.refl _ _⟩
              case round =>
                clear HB HT
                obtain ⟨j, hj, rfl, HJ, HB, HC⟩ := hrel
                by_cases hjk : j < k
                · have hjf : j < l.length := by omega
                  have hjl : j < ln := by omega
                  obtain ⟨bb2, o2, e2, hbl2, d0, d1, _, _⟩ := (HL.out.below HB.out (Nat.le_refl _)).at hjf
                  cases e2
                  have hmx2 := (HC.out.block _ HML.out).trans HMX.out
                  have y0 := cell_arr (i := 0) hmx2 rfl
                  have y1 := cell_arr (i := 1) hmx2 rfl
                  simp only [List.getElem_toArray, List.getElem_cons_zero, List.getElem_cons_succ] at y0 y1
                  obtain ⟨y, hy⟩ : ∃ y, l[j] = y := ⟨_, rfl⟩
                  have HLJ : Hid (l[j] = y) := hy
                  rw [hy] at d0 d1
                  clear hy hmx2
                  obtain ⟨⟨n1, n2⟩, n34⟩ := y
                  simp only at d0 d1
                  have HNX : Hid (¬ ((n1, n2) : Lc) = (m1, m2) → ∀ j', ∀ h : j' < l.length, j' < j + 1 → ¬ l[j'].1 = (m1, m2)) := fun hne j' h hj' => by
                    by_cases e : j' = j
                    · subst e; rw [HLJ.out]; exact hne
                    · exact HJ.out j' h (by omega)
                  obtain ⟨e1, q1⟩ : ∃ e, (n1 == m1) = e := ⟨_, rfl⟩
                  obtain ⟨e2, q2⟩ : ∃ e, (n2 == m2) = e := ⟨_, rfl⟩
                  have HQ : Hid ((e1 && e2) = decide (((n1, n2) : Lc) = (m1, m2))) := by
                    show _ = _
                    rw [← q1, ← q2, Bool.eq_iff_iff]; simp
                  cases e1
                  · go_wp2_with fail
                    go_quiet (fail)
                    go_wp2_with fail
                    go_roundw
                    case rel => exact ⟨j + 1, by omega, by go_num, HNX.out (by simpa using HQ.out), HB.out.trans ((below_drewN0 _ _).mono HB.out.size), HC.out.trans ((below_drewN0 _ _).mono HC.out.size)⟩
                    case measure => simp [intOf]; omega
                  · cases e2
                    · go_wp2_with fail
                      go_quiet (fail)
                      go_wp2_with fail
                      go_roundw
                      case rel => exact ⟨j + 1, by omega, by go_num, HNX.out (by simpa using HQ.out), HB.out.trans ((below_drewN0 _ _).mono HB.out.size), HC.out.trans ((below_drewN0 _ _).mono HC.out.size)⟩
                      case measure => simp [intOf]; omega
                    · go_wp2_with fail
                      go_quiet (fail)
                      go_wp2_with fail
                      go_ret
                      refine ⟨?_, HB.out.trans ((below_drewN0 _ _).mono HB.out.size)⟩
                      have hnn : ¬ (l.map Prod.fst).Nodup := fun hd => by
                        have h1 := List.pairwise_iff_getElem.1 hd j k (by simpa using hjf) (by simpa using hkf) hjk
                        simp only [List.getElem_map, HLK.out, HLJ.out] at h1
                        exact h1 (by simpa using HQ.out)
                      rw [← HE.out]
                      simp [hnn]
                · obtain rfl : j = k := by omega
                  go_wp2_with fail
                  go_roundw
                  case rel =>
                    refine ⟨j + 1, by omega, by go_num, ⟨fun i h hi => ?_, ?_⟩, HB.out, (HC.out.block _ (Array.getElem?_eq_some_iff.1 HT2.out).1).trans HT2.out⟩
                    · by_cases e : i = j
                      · subst e; rw [HBB.out]; rfl
                      · exact HP.out.1 i h (by omega)
                    · rw [tos_take hkf, HLK.out, List.nodup_append]
                      refine ⟨HP.out.2, by simp, fun a ha c hc e => ?_⟩
                      simp only [List.mem_singleton] at hc
                      obtain ⟨q, hq, e2⟩ := List.getElem_of_mem ha
                      have hqj : q < j := by have := tks_len (l := l) (k := j) (by omega); omega
                      refine HJ.out q (by omega) hqj ?_
                      rw [← hc, ← e, ← e2]
                      simp [tks]
                  case measure => simp [intOf]; omega
            · go_wp2_with fail
              go_ret
              refine ⟨?_, HB.out.trans (HBW.out.mono HB.out.size)⟩
              have hpl : placedP (t1, t2) l = false := by
                unfold placedP
                have : l.all (mvOk (t1, t2)) = false := List.all_eq_false.2 ⟨l[k], List.getElem_mem hkf, by rw [HBB.out]; simp⟩
                rw [this]; simp
              rw [← HE.out, hpl]
              try rfl
        · obtain rfl : k = ln := by omega
          have hpl : placedP (t1, t2) l = true := by
            unfold placedP
            rw [HV.out]
            have : l.all (mvOk (t1, t2)) = true := by
              rw [List.all_eq_true]
              intro x hx
              obtain ⟨i, hi, rfl⟩ := List.getElem_of_mem hx
              exact HP.out.1 i hi (by have := HN.out; omega)
            rw [this]; rfl
          have hnd := HP.out.2
          rw [HN.out, tks_all] at hnd
          have HF : Hid (E = true) := by
            show E = true
            rw [← HE.out, hpl, decide_eq_true hnd]; rfl
          clear hpl hnd
          go_wp2_with fail
          go_ret
          exact ⟨by rw [HF.out]; try rfl, HB.out⟩
end Go.Proofs.Ytdoiblknbpbhaaa
