import Derived.Test.YtdoiblknbpbhaaaMvP
set_option linter.unusedVariables false
set_option linter.unusedSimpArgs false
namespace Go.Proofs.Ytdoiblknbpbhaaa
open Go.ChangeShapes Go.WideShapes Go.ChangeAt Go.RowKit Go.Maps

/-- A row of so many moves that may be written. -/
structure RowK (w : World) (g n : Nat) : Prop where
  out : ∃ cs : Array Value, w.heap[g]? = some (.cells cs 36 (0, 0)) ∧ n * 4 ≤ cs.size
theorem RowK.cell {w g n} (h : RowK w g n) {i : Nat} (hi : i < n * 4) : ∃ v, w.cell? ⟨g, i, none⟩ = some v ∧ w.frozen? ⟨g, i, none⟩ = false := by
  obtain ⟨cs, h1, h2⟩ := h.out
  exact ⟨cs[i]'(by omega), cell_arr h1 (by simp [show i < cs.size by omega]), fz_of h1⟩
theorem RowK.set {w g n} (h : RowK w g n) (i : Nat) (v : Value) : RowK (w.setCell ⟨g, i, none⟩ v) g n := by
  obtain ⟨cs, h1, h2⟩ := h.out
  exact ⟨_, heap_set_at h1, by simpa using h2⟩
theorem OwnM.rowK {w B g n c L} (h : OwnM w B (.slice (some ⟨g, 0, none⟩) n c) n L) : RowK w g n := by
  rcases h.out.2 with ⟨e, _⟩ | ⟨g', cap, cur, e, e2, e3, e4, e5, e6, e7⟩
  · cases e
  · cases e
    exact ⟨cur, e3, by rw [e6]; exact Nat.mul_le_mul_right _ e4⟩
set_option maxRecDepth 100000 in
set_option maxHeartbeats 8000000 in
theorem stays_any (w : World) {X : Nat} {xv : Value} {la : Option Addr} {ln lc : Nat} {l : List Mv} (hX : OwnM w X xv (ln + 2) (l ++ [mk71, mk71])) (hL : Mvs w la lc l) (hn : ln = l.length) (hsz : ln ≤ 1000000) :
    Calls Try.prog 11 #[xv, .slice la ln lc] w fun e w' => e = .returned (.bool true) ∧ Only (fun k => xv.ownBlock = some k) w w' := by
  obtain ⟨g, xc, rfl, hxc1, hxc2, hgX, hgl⟩ := own_some hX.out (by omega)
  have hob : (fun k => (Value.slice (some ⟨g, 0, none⟩) (ln + 2) xc).ownBlock = some k) = fun k => k = g := by
    funext k
    simp [Value.ownBlock, eq_comm]
  rw [hob]
  obtain ⟨W, hW⟩ : ∃ W, W = w.alloc (.cells #[.int .i64 (-71), .int .i64 0, .int .i64 0, .int .i64 0] 36) := ⟨_, rfl⟩
  have hb0 : Below w.heap.size w W := by rw [hW]; exact below_new _ _
  have HBX : Hid (W.heap[w.heap.size]? = some (.cells #[.int .i64 (-71), .int .i64 0, .int .i64 0, .int .i64 0] 36)) := by rw [hW]; exact heap_alloc_new _ _
  have HS : Hid (∀ w', Below W.heap.size W w' → (fun w' : World => w'.cell? ⟨w.heap.size, 0, none⟩ = some (.int .i64 (-71)) ∧ w'.cell? ⟨w.heap.size, 1, none⟩ = some (.int .i64 0) ∧ w'.cell? ⟨w.heap.size, 2, none⟩ = some (.int .i64 0) ∧ w'.cell? ⟨w.heap.size, 3, none⟩ = some (.int .i64 0)) w') := fun w' hb => by
    have := (hb.block _ (Array.getElem?_eq_some_iff.1 HBX.out).1).trans HBX.out
    exact ⟨cell_arr this rfl, cell_arr this rfl, cell_arr this rfl, cell_arr this rfl⟩
  have HL : Hid (Mvs W la lc l) := hL.below hb0 (Nat.le_refl _)
  have HN : Hid (ln = l.length) := hn
  have HSZ : Hid (w.heap.size ≤ W.heap.size) := hb0.size
  have HXM : Hid (Mvs W (some ⟨g, 0, none⟩) xc (l ++ [mk71, mk71])) := by
    obtain ⟨a, c, e, h⟩ := (hX.keep hb0).mvs
    cases e
    exact h
  have HGN : Hid (w.heap.size ≠ g) := by show _ ≠ _; omega
  have FIN : ∀ w4, Below W.heap.size W w4 → RowK w4 g (ln + 2) ∧ Only (fun k => k = g) w w4 ∧ w4.heap[w.heap.size]? = some (.cells #[.int .i64 (-71), .int .i64 0, .int .i64 0, .int .i64 0] 36) := fun w4 hb => by
    have hbw := hb0.trans (hb.mono hb0.size)
    exact ⟨(hX.keep hbw).rowK, Only.of_below hbw _, (hb.block _ (Array.getElem?_eq_some_iff.1 HBX.out).1).trans HBX.out⟩
  have S0 : (fun w' : World => w'.cell? ⟨w.heap.size, 0, none⟩ = some (.int .i64 (-71)) ∧ w'.cell? ⟨w.heap.size, 1, none⟩ = some (.int .i64 0) ∧ w'.cell? ⟨w.heap.size, 2, none⟩ = some (.int .i64 0) ∧ w'.cell? ⟨w.heap.size, 3, none⟩ = some (.int .i64 0)) W.drew := HS.out _ (Below.refl _ _).drew
  clear hX hL hn hb0 hob
  go_enter Try.func11, Try.ntmps11
  go_wp2_with fail
  rw [← hW]
  clear hW
  refine led_start (S := fun w' : World => w'.cell? ⟨w.heap.size, 0, none⟩ = some (.int .i64 (-71)) ∧ w'.cell? ⟨w.heap.size, 1, none⟩ = some (.int .i64 0) ∧ w'.cell? ⟨w.heap.size, 2, none⟩ = some (.int .i64 0) ∧ w'.cell? ⟨w.heap.size, 3, none⟩ = some (.int .i64 0)) (z := 100) (by kernel_rfl) ?_
  show led _ _ _ _ _ 9 _ _ _
  refine led_takeF (i := 0) (v := ?v0) rfl (by kernel_rfl) (by kernel_rfl) (by kernel_rfl) (by kernel_rfl) (fun _ _ _ h => h) (.inl ⟨by rfl, ?hy0⟩) S0 ?rest0
  case hy0 =>
    rintro w' ⟨h1, h2, h3, h4⟩
    go_simp
    all_goals with_reducible rfl
  try simp only [Act.put, List.setIfInBounds_toArray, List.set_cons_zero, List.set_cons_succ]
  refine led_takeF (i := 1) (v := ?v1) rfl (by kernel_rfl) (by kernel_rfl) (by kernel_rfl) (by kernel_rfl) (fun _ _ _ h => h) (.inl ⟨by rfl, ?hy1⟩) S0 ?rest1
  case hy1 =>
    rintro w' ⟨h1, h2, h3, h4⟩
    go_simp
    all_goals with_reducible rfl
  try simp only [Act.put, List.setIfInBounds_toArray, List.set_cons_zero, List.set_cons_succ]
  refine led_takeF (i := 3) (v := ?v3) rfl (by kernel_rfl) (by kernel_rfl) (by kernel_rfl) (by kernel_rfl) (fun _ _ _ h => h) (.inl ⟨by rfl, ?hy3⟩) S0 ?rest3
  case hy3 =>
    rintro w' ⟨h1, h2, h3, h4⟩
    go_simp
    all_goals with_reducible rfl
  try simp only [Act.put, List.setIfInBounds_toArray, List.set_cons_zero, List.set_cons_succ]
  refine led_takeF (i := 4) (v := ?v4) rfl (by kernel_rfl) (by kernel_rfl) (by kernel_rfl) (by kernel_rfl) (fun _ _ _ h => h) (.inl ⟨by rfl, ?hy4⟩) S0 ?rest4
  case hy4 =>
    rintro w' ⟨h1, h2, h3, h4⟩
    go_simp
    all_goals with_reducible rfl
  try simp only [Act.put, List.setIfInBounds_toArray, List.set_cons_zero, List.set_cons_succ]
  refine led_two (i := 2) (j := 5) rfl rfl (by kernel_rfl) ?_ ?_
  · intro K1 hK1
    refine step_append_mvs rfl _ _ rfl w.heap.size (.slice none 0 0) 0 [] (by simp [Act.eval]) (OwnM.nil _ _) la ln lc l (by simp [Act.eval]) HN.out (HL.out.below (w' := W.drew) (Below.refl _ _).drew (Nat.le_refl _)) (by omega) HSZ.out ?_
    intro v1 w1 h1 g1
    rw [Nat.zero_add, List.nil_append] at h1
    have hb1 : Below W.heap.size W w1 := ((Below.refl W.heap.size W).drew).trans g1.nil
    refine hK1 _ _ (fun _ => HS.out w1 hb1) ?_
    clear hK1
    try simp only [Act.put, List.setIfInBounds_toArray, List.set_cons_zero, List.set_cons_succ]
    refine led_one (i := 5) rfl (by kernel_rfl) ?_
    intro K2 hK2
    rw [if_pos (by rfl)]
    go_simp
    have hb2 : Below W.heap.size W (w1.alloc (.cells #[.int .i64 (-71), .int .i64 0, .int .i64 0, .int .i64 0, .int .i64 (-71), .int .i64 0, .int .i64 0, .int .i64 0] 36)) := hb1.alloc hb1.size _
    refine hK2 _ _ (fun _ => HS.out _ hb2) ?_
    clear hK2
    try simp only [Act.put, List.setIfInBounds_toArray, List.set_cons_zero, List.set_cons_succ]
    refine led_one (i := 6) rfl (by kernel_rfl) ?_
    intro K3 hK3
    refine step_append_mvs rfl _ _ rfl w.heap.size v1 ln l (by simp [Act.eval]) (h1.keep (below_new _ _)) (some ⟨w1.heap.size, 0, none⟩) 2 2 [mk71, mk71] (by simp [Act.eval]) rfl (marks_at _ (heap_alloc_new _ _)) (by omega) (Nat.le_trans HSZ.out hb2.size) ?_
    intro v3 w3 h3 g3
    have hb3 : Below W.heap.size W w3 := ⟨by rw [g3.bel.os, hb2.os], by rw [g3.bel.tape, hb2.tape], by rw [g3.bel.output, hb2.output], Nat.le_trans hb2.size g3.size, fun k hk => (g3.blk k (Nat.lt_of_lt_of_le hk hb2.size) (fun e => by
      rcases g1.own k e with h | h
      · simp [Value.ownBlock] at h
      · exact absurd hk (Nat.not_lt.2 h))).trans (hb2.block k hk)⟩
    refine hK3 _ _ (fun _ => HS.out _ hb3) ?_
    clear hK3
    try simp only [Act.put, List.setIfInBounds_toArray, List.set_cons_zero, List.set_cons_succ]
    obtain ⟨ya, yc, ey, hY⟩ := h3.mvs
    subst ey
    refine led_one (i := 7) rfl (by kernel_rfl) ?_
    intro K4 hK4
    rw [if_pos (by rfl)]
    go_simp
    refine (sameM_any w3 (HXM.out.below (w' := w3) hb3 (Nat.le_refl _)) hY (by simp; have := HN.out; omega)).mono ?_
    rintro e w4 ⟨rfl, hb4⟩
    have hb5 : Below W.heap.size W w4 := hb3.trans (hb4.mono hb3.size)
    refine hK4 _ _ (fun _ => HS.out _ hb5) ?_
    clear hK4
    try simp only [Act.put, List.setIfInBounds_toArray, List.set_cons_zero, List.set_cons_succ]
    refine led_one (i := 8) rfl (by kernel_rfl) ?_
    intro K5 hK5
    rw [if_pos (by rfl)]
    go_simp
    refine hK5 _ _ (fun _ => HS.out _ hb5) ?_
    clear hK5
    refine led_done (by kernel_rfl) ?_
    have HI0 : Hid (RowK w4 g (ln + 2) ∧ Only (fun k => k = g) w w4 ∧ w4.heap[w.heap.size]? = some (.cells #[.int .i64 (-71), .int .i64 0, .int .i64 0, .int .i64 0] 36)) := FIN w4 hb5
    clear hb1 hb2 hb3 hb4 hb5 h1 h3 g1 g3 hY S0 FIN
    go_wp2_with fail
    go_loopw [7] (fun v wr => ∃ i : Nat, i ≤ ln + 2 ∧ v = .int .i64 i ∧ Hid (RowK wr g (ln + 2) ∧ Only (fun k => k = g) w wr ∧ wr.heap[w.heap.size]? = some (.cells #[.int .i64 (-71), .int .i64 0, .int .i64 0, .int .i64 0] 36))) (fun v _ => ln + 2 - (intOf v).toNat)
    case atStart => exact ⟨0, by omega, rfl, HI0⟩
    case round =>
      clear HI0
      obtain ⟨i, hi, rfl, HI⟩ := hrel
      by_cases hlt : i < ln + 2
      · obtain ⟨v0, q0, z0⟩ := HI.out.1.cell (i := i * 4) (by omega)
        obtain ⟨v1, q1, z1⟩ := HI.out.1.cell (i := i * 4 + 1) (by omega)
        obtain ⟨v2, q2, z2⟩ := HI.out.1.cell (i := i * 4 + 2) (by omega)
        obtain ⟨v3, q3, z3⟩ := HI.out.1.cell (i := i * 4 + 3) (by omega)
        have x0 : wr.cell? ⟨w.heap.size, 0, none⟩ = some (.int .i64 (-71)) := cell_arr HI.out.2.2 rfl
        have x1 : wr.cell? ⟨w.heap.size, 1, none⟩ = some (.int .i64 0) := cell_arr HI.out.2.2 rfl
        have x2 : wr.cell? ⟨w.heap.size, 2, none⟩ = some (.int .i64 0) := cell_arr HI.out.2.2 rfl
        have x3 : wr.cell? ⟨w.heap.size, 3, none⟩ = some (.int .i64 0) := cell_arr HI.out.2.2 rfl
        go_wp2_with fail
        go_roundw
        case rel =>
          refine ⟨i + 1, by omega, by go_num, (((HI.out.1.set _ _).set _ _).set _ _).set _ _, ?_, ?_⟩
          · refine (((HI.out.2.1.trans (Only.of_set _ _ _) (fun k _ h => h)).trans (Only.of_set _ _ _) (fun k _ h => h)).trans (Only.of_set _ _ _) (fun k _ h => h)).trans (Only.of_set _ _ _) (fun k _ h => h)
          · exact (heap_set_other HGN.out).trans ((heap_set_other HGN.out).trans ((heap_set_other HGN.out).trans ((heap_set_other HGN.out).trans HI.out.2.2)))
        case measure => simp [intOf]; omega
      · obtain rfl : i = ln + 2 := by omega
        go_wp2_with fail
        go_ret
        exact ⟨rfl, HI.out.2.1⟩
  · intro K2 hK2
    rw [if_pos (by rfl)]
    go_simp
    have hb2 : Below W.heap.size W (W.drew.alloc (.cells #[.int .i64 (-71), .int .i64 0, .int .i64 0, .int .i64 0, .int .i64 (-71), .int .i64 0, .int .i64 0, .int .i64 0] 36)) := (Below.refl _ _).drew.alloc (by simp) _
    refine hK2 _ _ (fun _ => HS.out _ hb2) ?_
    clear hK2
    try simp only [Act.put, List.setIfInBounds_toArray, List.set_cons_zero, List.set_cons_succ]
    refine led_one (i := 2) rfl (by kernel_rfl) ?_
    intro K1 hK1
    refine step_append_mvs rfl _ _ rfl w.heap.size (.slice none 0 0) 0 [] (by simp [Act.eval]) (OwnM.nil _ _) la ln lc l (by simp [Act.eval]) HN.out (HL.out.below hb2 (Nat.le_refl _)) (by omega) (Nat.le_trans HSZ.out hb2.size) ?_
    intro v1 w1 h1 g1
    rw [Nat.zero_add, List.nil_append] at h1
    have hb1 : Below W.heap.size W w1 := hb2.trans (g1.nil.mono hb2.size)
    have hmk : w1.heap[W.heap.size]? = some (.cells #[.int .i64 (-71), .int .i64 0, .int .i64 0, .int .i64 0, .int .i64 (-71), .int .i64 0, .int .i64 0, .int .i64 0] 36 (0, 0)) := (g1.nil.block _ (by simp)).trans (heap_alloc_new W.drew _)
    refine hK1 _ _ (fun _ => HS.out _ hb1) ?_
    clear hK1
    try simp only [Act.put, List.setIfInBounds_toArray, List.set_cons_zero, List.set_cons_succ]
    refine led_one (i := 6) rfl (by kernel_rfl) ?_
    intro K3 hK3
    refine step_append_mvs rfl _ _ rfl w.heap.size v1 ln l (by simp [Act.eval]) h1 (some ⟨W.heap.size, 0, none⟩) 2 2 [mk71, mk71] (by simp [Act.eval]) rfl (marks_at _ hmk) (by omega) (Nat.le_trans HSZ.out hb1.size) ?_
    intro v3 w3 h3 g3
    have hb3 : Below W.heap.size W w3 := ⟨by rw [g3.bel.os, hb1.os], by rw [g3.bel.tape, hb1.tape], by rw [g3.bel.output, hb1.output], Nat.le_trans hb1.size g3.size, fun k hk => (g3.blk k (Nat.lt_of_lt_of_le hk hb1.size) (fun e => by
      rcases g1.own k e with h | h
      · simp [Value.ownBlock] at h
      · exact absurd hk (Nat.not_lt.2 (Nat.le_trans hb2.size h)))).trans (hb1.block k hk)⟩
    refine hK3 _ _ (fun _ => HS.out _ hb3) ?_
    clear hK3
    try simp only [Act.put, List.setIfInBounds_toArray, List.set_cons_zero, List.set_cons_succ]
    obtain ⟨ya, yc, ey, hY⟩ := h3.mvs
    subst ey
    refine led_one (i := 7) rfl (by kernel_rfl) ?_
    intro K4 hK4
    rw [if_pos (by rfl)]
    go_simp
    refine (sameM_any w3 (HXM.out.below (w' := w3) hb3 (Nat.le_refl _)) hY (by simp; have := HN.out; omega)).mono ?_
    rintro e w4 ⟨rfl, hb4⟩
    have hb5 : Below W.heap.size W w4 := hb3.trans (hb4.mono hb3.size)
    refine hK4 _ _ (fun _ => HS.out _ hb5) ?_
    clear hK4
    try simp only [Act.put, List.setIfInBounds_toArray, List.set_cons_zero, List.set_cons_succ]
    refine led_one (i := 8) rfl (by kernel_rfl) ?_
    intro K5 hK5
    rw [if_pos (by rfl)]
    go_simp
    refine hK5 _ _ (fun _ => HS.out _ hb5) ?_
    clear hK5
    refine led_done (by kernel_rfl) ?_
    have HI0 : Hid (RowK w4 g (ln + 2) ∧ Only (fun k => k = g) w w4 ∧ w4.heap[w.heap.size]? = some (.cells #[.int .i64 (-71), .int .i64 0, .int .i64 0, .int .i64 0] 36)) := FIN w4 hb5
    clear hb1 hb2 hb3 hb4 hb5 h1 h3 g1 g3 hY S0 FIN
    go_wp2_with fail
    go_loopw [7] (fun v wr => ∃ i : Nat, i ≤ ln + 2 ∧ v = .int .i64 i ∧ Hid (RowK wr g (ln + 2) ∧ Only (fun k => k = g) w wr ∧ wr.heap[w.heap.size]? = some (.cells #[.int .i64 (-71), .int .i64 0, .int .i64 0, .int .i64 0] 36))) (fun v _ => ln + 2 - (intOf v).toNat)
    case atStart => exact ⟨0, by omega, rfl, HI0⟩
    case round =>
      clear HI0
      obtain ⟨i, hi, rfl, HI⟩ := hrel
      by_cases hlt : i < ln + 2
      · obtain ⟨v0, q0, z0⟩ := HI.out.1.cell (i := i * 4) (by omega)
        obtain ⟨v1, q1, z1⟩ := HI.out.1.cell (i := i * 4 + 1) (by omega)
        obtain ⟨v2, q2, z2⟩ := HI.out.1.cell (i := i * 4 + 2) (by omega)
        obtain ⟨v3, q3, z3⟩ := HI.out.1.cell (i := i * 4 + 3) (by omega)
        have x0 : wr.cell? ⟨w.heap.size, 0, none⟩ = some (.int .i64 (-71)) := cell_arr HI.out.2.2 rfl
        have x1 : wr.cell? ⟨w.heap.size, 1, none⟩ = some (.int .i64 0) := cell_arr HI.out.2.2 rfl
        have x2 : wr.cell? ⟨w.heap.size, 2, none⟩ = some (.int .i64 0) := cell_arr HI.out.2.2 rfl
        have x3 : wr.cell? ⟨w.heap.size, 3, none⟩ = some (.int .i64 0) := cell_arr HI.out.2.2 rfl
        go_wp2_with fail
        go_roundw
        case rel =>
          refine ⟨i + 1, by omega, by go_num, (((HI.out.1.set _ _).set _ _).set _ _).set _ _, ?_, ?_⟩
          · refine (((HI.out.2.1.trans (Only.of_set _ _ _) (fun k _ h => h)).trans (Only.of_set _ _ _) (fun k _ h => h)).trans (Only.of_set _ _ _) (fun k _ h => h)).trans (Only.of_set _ _ _) (fun k _ h => h)
          · exact (heap_set_other HGN.out).trans ((heap_set_other HGN.out).trans ((heap_set_other HGN.out).trans ((heap_set_other HGN.out).trans HI.out.2.2)))
        case measure => simp [intOf]; omega
      · obtain rfl : i = ln + 2 := by omega
        go_wp2_with fail
        go_ret
        exact ⟨rfl, HI.out.2.1⟩
end Go.Proofs.Ytdoiblknbpbhaaa
