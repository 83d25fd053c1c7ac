import Derived.Test.YthjjdfiaikibaaaDoM
import Derived.Test.YthjjdfiaikibaaaDoK
set_option linter.unusedVariables false
set_option linter.unusedSimpArgs false
namespace Go.Proofs.Ythjjdfiaikibaaa
open Go.ChangeShapes Go.WideShapes Go.ChangeAt Go.RowKit Go.Maps

set_option maxRecDepth 100000 in
set_option maxHeartbeats 8000000 in
theorem domChain_any (w : World) (many : Int) :
    Calls Try.prog 8 #[.int .i64 many] w fun e w' => e = .returned (.bool true) ∧ Below w.heap.size w w' := by
  have hal := alive_any w
  go_enter Try.func8, Try.ntmps8
  go_wp2_with fail
  refine hal.mono ?_
  rintro e w1 ⟨rfl, b1⟩
  have HB1 : Hid (Below w.heap.size w w1) := b1
  have hsz1 := b1.size
  clear hal b1
  by_cases h4 : many < 4
  · go_wp2_with fail
    go_ret
    exact ⟨rfl, HB1.out⟩
  by_cases h5 : 1000 < many
  · go_wp2_with fail
    go_ret
    exact ⟨rfl, HB1.out⟩
  obtain ⟨m, rfl⟩ : ∃ m : Nat, many = m := ⟨many.toNat, by omega⟩
  have hm : 4 ≤ m := by omega
  have hm2 : m ≤ 1000 := by omega
  clear h4 h5
  have m1 := (run_make_row' (P := Try.prog) 22 31 (.slice none 0 0) 24 Try.underlying22 infoSl rfl .i64 .i64 m (by omega) (by omega)) w1
  obtain ⟨w2, hw2⟩ : ∃ w2, w2 = w1.alloc (.cells (madeCells #[.slice none 0 0] m) 31) := ⟨_, rfl⟩
  rw [← hw2] at m1
  obtain ⟨go, hgo⟩ : ∃ go, go = w1.heap.size := ⟨_, rfl⟩
  have HC0 : Hid (CT w w2 w.heap.size m go 0 (fun _ => 0)) := by
    refine ⟨?_, fun i hi => by omega, ?_, by omega⟩
    · rw [hw2, hgo]
      exact (CW.made w1 m 31 (.slice none 0 0)).congr fun i _ => by simp
    · rw [hw2]; exact HB1.out.alloc hsz1 _
  rw [← hgo] at m1
  clear hw2 hgo HB1
  go_wp2_with fail
  go_loopg [5] m (fun q iv wr => ∃ (k : Nat) (gs : Nat → Nat), k + 2 ≤ m ∧ q = m - k ∧ iv = .int .i64 k ∧ Hid (CT w wr w.heap.size m go k gs))
  case atStart => exact ⟨0, fun _ => 0, by omega, by omega, rfl, HC0.out⟩
  case round =>
    clear HC0 m1
    obtain ⟨k, gs, hk, rfl, rfl, HC⟩ := hrel
    have hB : w.heap.size ≤ wr.heap.size := by have := HC.out.bel.size; omega
    obtain ⟨z, kz⟩ : ∃ z, wr.cell? ⟨go, k, none⟩ = some z := ⟨_, HC.out.o.cell (by omega)⟩
    have fz := HC.out.o.fz k
    have hgl := HC.out.o.lt
    by_cases hlt : k + 2 < m
    · have HNX : Hid _ := HC.out.step hB (a := (k : Int) + 1) (b := (m : Int) - 1) (by unfold chRow; rw [if_pos hlt])
      go_wp2_with fail
      go_roundg (m - (k + 1))
      case rel => exact ⟨k + 1, _, by omega, rfl, by go_num, HNX.out⟩
      case measure => omega
    · have hkm : k + 2 = m := by omega
      have hki : (m : Int) - 2 = (k : Int) := by omega
      obtain ⟨w3, hw3⟩ : ∃ w3, w3 = (wr.setCell ⟨go, k, none⟩ (.slice (some ⟨wr.heap.size, 0, none⟩) 2 2)).alloc (.cells #[.int .i64 0, .int .i64 (k : Int)] 3) := ⟨_, rfl⟩
      have HNX : Hid (CT w w3 w.heap.size m go (m - 1) (fun i => if i = k then wr.heap.size else gs i)) := by
        have := HC.out.step hB (a := 0) (b := (k : Int)) (by unfold chRow; rw [if_neg hlt, if_pos hkm, hki])
        rw [← hw3, show k + 1 = m - 1 by omega] at this
        exact this
      have HW3 : Hid _ := hw3
      have HKM : Hid (k + 2 = m) := hkm
      clear HC hkm hw3
      go_wp2_with fail
      try rw [← HW3.out]
      clear HW3
      have hT := tree_any w3 (some ⟨go, 0, none⟩) m m (chLs m) (chLs_len m).symm (HNX.out.irow hm hm2) (by omega) (fun l hl => by
        simp only [chLs, List.mem_map, List.mem_range] at hl
        obtain ⟨i, _, rfl⟩ := hl
        unfold chRow
        split
        · simp
        · split <;> simp)
      refine hT.mono ?_
      rintro e w4 ⟨v, rfl, OT, b4⟩
      have hlt4 : (treeP (chLs m)).length = m := by rw [treeP_len (chLs_good hm), chLs_len]
      rw [hlt4] at OT
      obtain ⟨gt, ct, rfl, hct, hct', _, _⟩ := own_some OT.out (by omega)
      have HB4 : Hid (Below w.heap.size w w4) := HNX.out.bel.trans (b4.mono (by have := HNX.out.bel.size; omega))
      have HOT : Hid (OwnI w4 w3.heap.size (.slice (some ⟨gt, 0, none⟩) m ct) m (treeP (chLs m))) := OT
      have k0 := OT.cellI (i := 0) (by omega)
      rw [treeP_none (chLs_good hm) (by rw [chLs_len]; omega) (.inr rfl)] at k0
      have k1 := OT.cellI (i := m - 1) (by omega)
      rw [ch_last hm] at k1
      have hIT : Hid (Ints w4 (some ⟨gt, 0, none⟩) ct (treeP (chLs m))) := by
        obtain ⟨_, _, e', hI'⟩ := OT.ints
        cases e'; exact hI'
      have HLT : Hid (m = (treeP (chLs m)).length) := hlt4.symm
      have hm1 : (m : Int) - 1 = ((m - 1 : Nat) : Int) := by omega
      clear OT b4 hT HNX hlt4 kz fz hgl
      have o1 : Hid (overP (treeP (chLs m)) 0 (k : Int) = true) := by show _ = _; rw [← hki]; exact ch_o1 hm
      have o2 : Hid (overP (treeP (chLs m)) 1 ((m - 1 : Nat) : Int) = false) := by show _ = _; rw [← hm1]; exact ch_o2 hm
      have o3 : Hid (overP (treeP (chLs m)) (k : Int) 1 = false) := by show _ = _; rw [← hki]; exact ch_o3 hm
      go_wp2_with fail
      go_loopg [7] m (fun q iv wr => ∃ i : Nat, 1 ≤ i ∧ i + 1 ≤ m ∧ q = m - i + 1 ∧ iv = .int .i64 i ∧ wr = w4)
      case atStart => exact ⟨1, by omega, by omega, by omega, rfl, rfl⟩
      case round =>
        clear k0 k1
        obtain ⟨i, hi1, hi2, rfl, rfl, rfl⟩ := hrel
        by_cases hi : i + 1 < m
        · have kt := HOT.out.cellI (i := i) (by omega)
          rw [ch_tree hm hi1 hi] at kt
          go_wp2_with fail
          go_roundg (m - (i + 1) + 1)
          case rel => exact ⟨i + 1, by omega, by omega, rfl, by go_num, rfl⟩
          case measure => omega
        · go_wp2_with fail
          refine (over_any _ (some ⟨gt, 0, none⟩) m ct (treeP (chLs m)) HLT.out hIT.out 0 (k : Int)).mono ?_
          rintro e w5 ⟨rfl, rfl⟩
          rw [o1.out]
          go_wp2_with fail
          refine (over_any _ (some ⟨gt, 0, none⟩) m ct (treeP (chLs m)) HLT.out hIT.out 1 ((m - 1 : Nat) : Int)).mono ?_
          rintro e w6 ⟨rfl, rfl⟩
          rw [o2.out]
          go_wp2_with fail
          refine (over_any _ (some ⟨gt, 0, none⟩) m ct (treeP (chLs m)) HLT.out hIT.out (k : Int) 1).mono ?_
          rintro e w7 ⟨rfl, rfl⟩
          rw [o3.out]
          go_wp2_with fail
          go_ret
          exact ⟨rfl, HB4.out⟩
end Go.Proofs.Ythjjdfiaikibaaa
