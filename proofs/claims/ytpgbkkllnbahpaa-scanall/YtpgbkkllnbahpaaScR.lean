import Derived.Test.YtpgbkkllnbahpaaScO
set_option linter.unusedVariables false
set_option linter.unusedSimpArgs false
namespace Go.Proofs.Ytpgbkkllnbahpaa
open Go.ChangeShapes Go.WideShapes Go.ChangeAt Go.RowKit Go.Maps

theorem ic_flat (L : List Int) : (L.map ic).flatten = ivs L := by
  induction L with
  | nil => rfl
  | cons a L ih => simp [ic, ivs] at ih ⊢; exact ih
theorem own_ic {w B v} {L : List Int} (h : Row w B 3 1 v (L.map ic)) : OwnI w B v L.length L := ⟨rfl, by have := h.out; rw [ic_flat] at this; simpa using this⟩
theorem ic_own {w B v n} {L : List Int} (h : OwnI w B v n L) : Row w B 3 1 v (L.map ic) := ⟨by have := h.out; rw [ic_flat, List.length_map, ← h.len]; exact this, fun x hx => by obtain ⟨_, _, rfl⟩ := List.mem_map.1 hx; rfl⟩
theorem info_lc : (Try.prog.info? 37).map (fun i => (i.zero, i.size, i.bytes)) = some (some (.agg #[.int .i64 0, .int .i64 0]), 2, 16) := by kernel_rfl
theorem lc_zero (n : Nat) : ((List.replicate n ((0, 0) : Lc)).map lc).flatten = List.replicate (n * 2) (.int .i64 0) := by
  induction n with
  | zero => rfl
  | succ n ih =>
    rw [List.replicate_succ, List.map_cons, List.flatten_cons, ih, Nat.succ_mul]
    rfl
theorem made_lc (n : Nat) : madeCells #[.int .i64 0, .int .i64 0] (n * 2) = ((List.replicate n ((0, 0) : Lc)).map lc).flatten.toArray := by
  rw [lc_zero]
  apply Array.ext
  · rw [size_madeCells]; simp
  · intro i h1 h2
    rw [size_madeCells] at h1
    have e1 : (madeCells #[.int .i64 0, .int .i64 0] (n * 2))[i] = .int .i64 0 := by
      simp only [madeCells, Array.getElem_map, Array.getElem_range]
      have hz : i % 2 = 0 ∨ i % 2 = 1 := by omega
      rcases hz with e | e
      · show #[Value.int .i64 0, Value.int .i64 0][i % 2]! = _; rw [e]; rfl
      · show #[Value.int .i64 0, Value.int .i64 0][i % 2]! = _; rw [e]; rfl
    rw [e1]
    simp
theorem run_locs (n : Nat) (h : n ≤ 100000000) (w : World) : (Instr.makeSlice 25 (.int .i64 (n : Int)) (.int .i64 (n : Int))).run Try.prog w = .ok (.slice (some ⟨w.heap.size, 0, none⟩) n n) (w.alloc (.cells ((List.replicate n ((0, 0) : Lc)).map lc).flatten.toArray 37)) := by
  obtain ⟨i0, hi, hz0, hz1, hz2⟩ := info_parts info_lc
  have hr := run_make (P := Try.prog) w 25 37 i0 (.agg #[.int .i64 0, .int .i64 0]) Try.underlying25 hi hz0 .i64 .i64 n n (by omega) (by omega) (by rw [hz2]; omega) (by omega)
  simp only [Int.toNat_natCast, hz1] at hr
  rw [← made_lc]
  exact hr
theorem row_made {w : World} {B n : Nat} (hB : B ≤ w.heap.size) (hn : n ≤ 100000000) : Row (w.alloc (.cells ((List.replicate n ((0, 0) : Lc)).map lc).flatten.toArray 37)) B 37 2 (.slice (some ⟨w.heap.size, 0, none⟩) n n) ((List.replicate n ((0, 0) : Lc)).map lc) := by
  have hl : ∀ x ∈ (List.replicate n ((0, 0) : Lc)).map lc, x.length = 2 := fun x hx => by obtain ⟨_, _, rfl⟩ := List.mem_map.1 hx; rfl
  have e : ((List.replicate n ((0, 0) : Lc)).map lc).length = n := by simp
  have := row_mk (B := B) (z := 2) (c := n) hl (heap_alloc_new w (.cells ((List.replicate n ((0, 0) : Lc)).map lc).flatten.toArray 37)) (by rw [lc_zero]; simp) (by rw [e]; omega) (by omega) hB (by rw [e, lc_zero]; simp)
  rwa [e] at this
set_option maxRecDepth 100000 in
set_option maxHeartbeats 2000000 in
theorem allocationFor_any (w : World) (n regs : Nat) (hn : n ≤ 100000000) (hr : regs ≤ 8) : Calls Try.prog 22 #[.int .i64 (n : Int), .int .i64 (regs : Int)] w fun e w' => ∃ ab av sv pv, e = .returned (.pointer (some ⟨ab, 0, none⟩)) ∧ AL w' w.heap.size ab av sv pv (SS.init n regs) ∧ Below w.heap.size w w' := by
  have hmk := run_locs n hn
  have HM : Hid (n ≤ 100000000) := hn
  obtain ⟨cs, hcs⟩ : ∃ cs, cs = ((List.replicate n ((0, 0) : Lc)).map lc).flatten.toArray := ⟨_, rfl⟩
  rw [← hcs] at hmk
  have HC : Hid (cs = ((List.replicate n ((0, 0) : Lc)).map lc).flatten.toArray) := hcs
  clear hcs
  go_enter Try.func22, Try.ntmps22
  go_wp2_with fail
  obtain ⟨w1, hw1⟩ : ∃ w1, w1 = (w.alloc (.cells cs 37)).alloc (.cells #[.slice none 0 0, .slice none 0 0, .slice (some ⟨w.heap.size, 0, none⟩) n n, .int .i64 0] 53) := ⟨_, rfl⟩
  rw [← hw1]
  have HA : Hid (AL w1 w.heap.size (w.heap.size + 1) (.slice none 0 0) (.slice none 0 0) (.slice (some ⟨w.heap.size, 0, none⟩) n n) ⟨[], [], List.replicate n (0, 0), 0⟩) := by
    rw [hw1, HC.out]
    refine ⟨by omega, ?_, Row.nil _ _ _ _, Row.nil _ _ _ _, (row_made (Nat.le_refl _) HM.out).keep ((Below.refl _ _).alloc (Nat.le_refl _) _)⟩
    have := heap_alloc_new (w.alloc (.cells ((List.replicate n ((0, 0) : Lc)).map lc).flatten.toArray 37)) (.cells #[.slice none 0 0, .slice none 0 0, .slice (some ⟨w.heap.size, 0, none⟩) n n, .int .i64 0] 53)
    simpa using this
  have HB : Hid (Below w.heap.size w w1) := by rw [hw1]; exact ((Below.refl _ _).alloc (Nat.le_refl _) _).alloc (by simp) _
  generalize w.heap.size + 1 = ab at *
  clear hw1 hmk HC
  go_loopw [12] (fun v wr => ∃ (k : Nat) (sv : Value), k ≤ regs ∧ v = .int .i64 k ∧ Hid (AL wr w.heap.size ab (.slice none 0 0) sv (.slice (some ⟨w.heap.size, 0, none⟩) n n) ⟨[], (List.range k).map fun r : Nat => (r : Int), List.replicate n (0, 0), 0⟩) ∧ Hid (Below w.heap.size w wr)) (fun v _ => regs - (intOf v).toNat)
  case atStart => exact ⟨0, _, by omega, rfl, HA.out, HB.out⟩
  case round =>
    obtain ⟨k, sv, hk, rfl, HA, HB⟩ := hrel
    obtain ⟨wq, rfl⟩ : ∃ wq, wq = wr := ⟨_, rfl⟩
    by_cases hlt : k < regs
    · obtain ⟨c0, c1, c2, c3⟩ := HA.out.cells
      have hl := HA.out.lt
      have fz := HA.out.fz 1
      have HO : Hid (OwnI wq w.heap.size sv k ((List.range k).map fun r : Nat => (r : Int))) := by
        have := own_ic HA.out.rs
        simp only [List.length_map, List.length_range] at this
        exact this
      have HSB : Hid (w.heap.size ≤ wq.heap.size) := HB.out.size
      have hne : ab ≠ wq.heap.size := by omega
      obtain ⟨o1, n1, k1, rfl, hn1, _, _⟩ := row_sl HA.out.rs
      clear hn1
      go_wp2_with (at_builtin; refine wpList_append_intG rfl _ _ rfl w.heap.size (.slice o1 n1 k1) k _ (k : Int) rfl HO.out rfl (by omega) HSB.out ?_; intro v2 w2 hO2 hG2; obtain ⟨o2, k2, rfl, _, _⟩ := own_slice hO2.out; have HO2 : Hid (OwnI w2 w.heap.size (.slice o2 (k + 1) k2) (k + 1) (((List.range k).map fun r : Nat => (r : Int)) ++ [(k : Int)])) := hO2; have HG2 : Hid (GI w.heap.size wq w2 (.slice o1 n1 k1) (.slice o2 (k + 1) k2)) := hG2; have e2 := hG2.blk ab hl (own_not HA.out.rs.out HA.out.box (by decide)); have c5 : w2.cell? ⟨ab, 1, none⟩ = some (.slice o1 n1 k1) := (World.cell?_of_block (a := ⟨ab, 1, none⟩) e2).trans c1; have f5 : w2.frozen? ⟨ab, 1, none⟩ = false := (World.frozen?_of_block (a := ⟨ab, 1, none⟩) e2).trans fz; have hl5 : ab < w2.heap.size := Nat.lt_of_lt_of_le hl hG2.size; clear hO2 hG2 e2)
      have HA2 := show Hid _ from HA.out.setS (ic_own HO2.out) HG2.out
      have HB2 : Hid (Below w.heap.size w (w2.setCell ⟨ab, 1, none⟩ (.slice o2 (k + 1) k2))) := (HB.out.trans HG2.out.bel).setCell (p := ⟨ab, 1, none⟩) HA.out.lo _
      go_roundw
      case rel =>
        refine ⟨k + 1, .slice o2 (k + 1) k2, by omega, by go_num, ?_, HB2.out⟩
        rw [List.range_succ, List.map_append]
        exact HA2.out
      case measure => simp [intOf]; omega
    · obtain rfl : k = regs := by omega
      go_wp2_with fail
      go_ret
      exact ⟨ab, _, _, _, rfl, HA.out, HB.out⟩
end Go.Proofs.Ytpgbkkllnbahpaa
