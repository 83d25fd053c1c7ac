import Derived.Test.YtdeplodfpgnpgaaDoorLyN
import Derived.Test.YtdeplodfpgnpgaaDoorOwB
set_option linter.unusedVariables false
set_option linter.unusedSimpArgs false
namespace Go.Proofs.YtdeplodfpgnpgaaDoor
open Go.ChangeShapes Go.WideShapes Go.ChangeAt Go.RowKit

/-- All tables. -/
structure AllTab (w : World) : Prop where
  tab : Tab w
  lo : 0 < w.heap.size ∧ 1 < w.heap.size
  t1 : ∀ i, i < 4 → w.cell? ⟨0, i, none⟩ = some (.string (bs (TYPES.getD i [])))
  t2 : ∀ i, i < 23 → w.cell? ⟨1, i, none⟩ = some (.string (bs (OPS.getD i [])))
  tp : ∀ w', Below w.heap.size w w' → TabP w'
theorem AllTab.below {w w'} (h : AllTab w) (hb : Below w.heap.size w w') : AllTab w' :=
  ⟨h.tab.below hb h.tab.1, ⟨by have := h.lo.1; have := hb.size; omega, by have := h.lo.2; have := hb.size; omega⟩, fun i hi => cell_below hb h.lo.1 (h.t1 i hi), fun i hi => cell_below hb h.lo.2 (h.t2 i hi), fun w2 hb2 => h.tp w2 (hb.trans (hb2.mono hb.size))⟩

theorem num3_any (z : Int) (w : World) : Calls Tryd.prog 13 #[.int .i64 z] w fun e w' => e = .returned (.int .i64 z) ∧ w = w' := by
  go_enter Tryd.func13, Tryd.ntmps13
  go_wp2
  go_ret
  exact ⟨rfl, rfl⟩

theorem SmpAt.set {w h} (s : SmpAt w h 0) : SmpAt (w.setCell ⟨h + 1 + 1 + 1 + 1 + 1, 6, none⟩ (.int .i64 1)) h 1 :=
  ⟨by rw [heap_set_other (by omega)]; exact s.b1, by rw [heap_set_other (by omega)]; exact s.b2, by rw [heap_set_other (by omega)]; exact s.b3, by rw [heap_set_other (by omega)]; exact s.b4, by rw [heap_set_at s.b5]; rfl, by rw [heap_set_other (by omega)]; exact s.b6⟩

set_option maxRecDepth 20000 in
set_option maxHeartbeats 4000000 in
theorem alive3_any (w : World) (hA : AllTab w) : Calls Tryd.prog 7 #[] w fun e w' => e = .returned (.bool true) ∧ Below w.heap.size w w' := by
  have HA : Hid (AllTab w) := hA
  clear hA
  go_enter Tryd.func7, Tryd.ntmps7
  go_wp2_with fail
  refine (sample_any w).mono ?_
  rintro e w1 ⟨rfl, hs, hz, hb1⟩
  obtain ⟨h, hh⟩ : ∃ h, h = w.heap.size := ⟨_, rfl⟩
  rw [← hh] at hs hz ⊢
  have HHH : Hid (h = w.heap.size) := hh
  have hz1 : h + 7 ≤ w1.heap.size := by omega
  clear hz
  have hhl : w.heap.size ≤ w1.heap.size := hb1.size
  clear hh
  go_wp2_with fail
  have hbA : Below w.heap.size w (w1.alloc (.cells #[.slice (some ⟨h + 1 + 1 + 1 + 1 + 1, 0, none⟩) 6 6, .slice (some ⟨h + 1 + 1 + 1 + 1 + 1 + 1, 0, none⟩) 1 1] 25)) := hb1.alloc (by omega) _
  have hbw1 : Below w1.heap.size w1 (w1.alloc (.cells #[.slice (some ⟨h + 1 + 1 + 1 + 1 + 1, 0, none⟩) 6 6, .slice (some ⟨h + 1 + 1 + 1 + 1 + 1 + 1, 0, none⟩) 1 1] 25)) := (Below.refl _ _).alloc (Nat.le_refl _) _
  have AA := HA.out.below hbA
  have sA := hs.below hbw1 (by omega)
  refine (print_yes _ AA.tab AA.lo AA.t1 AA.t2 AA.tp _ 6 6 _ 1 1 SMP rfl rfl sA.nodes (ints_one sA.b6) (by omega) smp_chk ⟨STX, [], 0⟩ smp_prints).mono ?_
  rintro e w2 ⟨⟨v, n, rfl, hO⟩, hb2⟩
  have hs2 := hb2.size
  simp at hs2
  have f0 : w2.cell? ⟨w1.heap.size, 0, none⟩ = some (.slice (some ⟨h + 1 + 1 + 1 + 1 + 1, 0, none⟩) 6 6) := cell_below hb2 (by simp) (by simp)
  have f1 : w2.cell? ⟨w1.heap.size, 1, none⟩ = some (.slice (some ⟨h + 1 + 1 + 1 + 1 + 1 + 1, 0, none⟩) 1 1) := cell_below hb2 (by simp) (by simp)
  have hbA2 : Below w.heap.size w w2 := hbA.trans (hb2.mono (by simp; omega))
  have s2 := sA.below hb2 (by simp; omega)
  clear AA sA hs
  go_wp2_with fail
  refine (check_any w2 (HA.out.below hbA2).tab _ 6 6 _ 1 1 SMP rfl rfl s2.nodes (ints_one s2.b6) (by omega)).mono ?_
  rintro e w3 ⟨rfl, hb3⟩
  rw [smp_chk]
  have hs3 := hb3.size
  have g0 : w3.cell? ⟨w1.heap.size, 0, none⟩ = some (.slice (some ⟨h + 1 + 1 + 1 + 1 + 1, 0, none⟩) 6 6) := cell_below hb3 (by omega) f0
  have g1 : w3.cell? ⟨w1.heap.size, 1, none⟩ = some (.slice (some ⟨h + 1 + 1 + 1 + 1 + 1 + 1, 0, none⟩) 1 1) := cell_below hb3 (by omega) f1
  have hbA3 : Below w.heap.size w w3 := hbA2.trans (hb3.mono (by omega))
  have s3 := s2.below hb3 (by omega)
  have hO3 := hO.keep hb3
  have c6 : w3.cell? ⟨h + 1 + 1 + 1 + 1 + 1, 6, none⟩ = some (.int .i64 0) := cell_arr s3.b5 rfl
  have hfz : w3.frozen? ⟨h + 1 + 1 + 1 + 1 + 1, 6, none⟩ = false := fz_of s3.b5
  have hne : ¬ w1.heap.size = h + 1 + 1 + 1 + 1 + 1 := by omega
  have hne2 : ¬ h + 1 + 1 + 1 + 1 + 1 = w1.heap.size := by omega
  simp only [if_true]
  clear f0 f1 s2 hO
  go_wp2_with fail
  have s4 := s3.set
  have hbA4 : Below w.heap.size w (w3.setCell ⟨h + 1 + 1 + 1 + 1 + 1, 6, none⟩ (.int .i64 1)) := hbA3.setCell (p := ⟨h + 1 + 1 + 1 + 1 + 1, 6, none⟩) (by show w.heap.size ≤ h + 1 + 1 + 1 + 1 + 1; have := HHH.out; omega) _
  have hO4 : OwnB (w3.setCell ⟨h + 1 + 1 + 1 + 1 + 1, 6, none⟩ (.int .i64 1)) _ v n STX := ⟨hO3.len, own_move hO3.out fun g hg => heap_set_other (fun e => by have := (own_block hO3.out hg).1; simp at this; omega)⟩
  refine (check_any _ (HA.out.below hbA4).tab _ 6 6 _ 1 1 SMP2 rfl rfl s4.nodes (ints_one s4.b6) (by omega)).mono ?_
  rintro e w5 ⟨rfl, hb5⟩
  rw [smp2_chk]
  simp only [Bool.false_eq_true, if_false]
  have hO5 := hO4.keep hb5
  have hbA5 : Below w.heap.size w w5 := hbA4.trans (hb5.mono hbA4.size)
  obtain ⟨va, vc, rfl, _, hTx⟩ := hO5.view
  have hcv := hTx.conv n hO5.len
  obtain ⟨st, hst⟩ : ∃ st, st = bs STX := ⟨_, rfl⟩
  rw [← hst] at hcv
  have hstl : st.toList = STX := by rw [hst, bs_toList]
  unfold STX at hstl
  clear hst hO3 hO4 hO5 hTx s3 s4 c6 hfz g0 g1
  go_wp2_with (first | (go_at_call 13; refine (num3_any _ _).mono ?_; rintro e w' ⟨rfl, rfl⟩))
  go_ret
  exact ⟨rfl, hbA5⟩
end Go.Proofs.YtdeplodfpgnpgaaDoor
