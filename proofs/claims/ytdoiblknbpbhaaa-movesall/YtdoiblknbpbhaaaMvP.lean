import Derived.Test.YtdoiblknbpbhaaaMvO
set_option linter.unusedVariables false
set_option linter.unusedSimpArgs false
namespace Go.Proofs.Ytdoiblknbpbhaaa
open Go.ChangeShapes Go.WideShapes Go.ChangeAt Go.RowKit Go.Maps

set_option maxRecDepth 100000 in
set_option maxHeartbeats 4000000 in
theorem sameM_any (w : World) {aa ba : Option Addr} {n ac bc : Nat} {L : List Mv} (hA : Mvs w aa ac L) (hB : Mvs w ba bc L) (hn : n = L.length) :
    Calls Try.prog 13 #[.slice aa n ac, .slice ba n bc] w fun e w' => e = .returned (.bool true) ∧ Below w.heap.size w w' := by
  have hmx : n ≤ 9223372036854775807 := by have := hA.le; have := hA.mx; omega
  have HA : Hid (Mvs w aa ac L) := hA
  have HB : Hid (Mvs w ba bc L) := hB
  have HN : Hid (n = L.length) := hn
  clear hA hB hn
  go_enter Try.func13, Try.ntmps13
  go_wp2_with fail
  go_loopw [5] (fun v wr => ∃ k : Nat, k ≤ n ∧ v = .int .i64 k ∧ Hid (Below w.heap.size w wr)) (fun v _ => n - (intOf v).toNat)
  case atStart => exact ⟨0, by omega, rfl, Below.refl _ _⟩
  case round =>
    obtain ⟨k, hk, rfl, HW⟩ := hrel
    by_cases hlt : k < n
    · have hkf : k < L.length := by have := HN.out; omega
      obtain ⟨b, o, rfl, hbl, c0, c1, c2, c3⟩ := (HA.out.below HW.out (Nat.le_refl _)).at hkf
      obtain ⟨b2, o2, rfl, hbl2, d0, d1, d2, d3⟩ := (HB.out.below HW.out (Nat.le_refl _)).at hkf
      generalize L[k] = m at c0 c1 c2 c3 d0 d1 d2 d3
      obtain ⟨⟨m1, m2⟩, ⟨m3, m4⟩⟩ := m
      simp only at c0 c1 c2 c3 d0 d1 d2 d3
      go_wp2_with fail
      go_quiet (fail)
      go_wp2_with fail
      go_roundw
      case rel => exact ⟨k + 1, by omega, by go_num, HW.out.trans ((below_drewN0 _ _).mono HW.out.size)⟩
      case measure => simp [intOf]; omega
    · obtain rfl : k = n := by omega
      go_wp2_with fail
      go_ret
      exact ⟨rfl, HW.out⟩
/-- The mark. -/
def mk71 : Mv := ((-71, 0), (0, 0))
theorem fit71 : FitM mk71 := ⟨⟨by simp [Fits, mk71], by simp [Fits, mk71]⟩, ⟨by simp [Fits, mk71], by simp [Fits, mk71]⟩⟩
theorem marks_at (w : World) {gb : Nat} (h : w.heap[gb]? = some (.cells #[.int .i64 (-71), .int .i64 0, .int .i64 0, .int .i64 0, .int .i64 (-71), .int .i64 0, .int .i64 0, .int .i64 0] 36 (0, 0))) : Mvs w (some ⟨gb, 0, none⟩) 2 [mk71, mk71] := by
  refine ⟨by simp, by omega, fun m hm => by simp at hm; subst hm; exact fit71, fun _ => ⟨gb, 0, rfl, (Array.getElem?_eq_some_iff.1 h).1, fun i hi => ?_⟩⟩
  simp only [List.length_cons, List.length_nil] at hi
  have hi2 : i = 0 ∨ i = 1 := by omega
  rcases hi2 with rfl | rfl
  · exact ⟨cell_arr h rfl, cell_arr h rfl, cell_arr h rfl, cell_arr h rfl⟩
  · exact ⟨cell_arr h rfl, cell_arr h rfl, cell_arr h rfl, cell_arr h rfl⟩
theorem GI.nil {B : Nat} {w w' : World} {v' : Value} (g : GI B w w' (.slice none 0 0) v') : Below w.heap.size w w' := ⟨g.bel.os, g.bel.tape, g.bel.output, g.bel.size, fun k hk => g.blk k hk (by simp [Value.ownBlock])⟩
set_option maxRecDepth 100000 in
set_option maxHeartbeats 4000000 in
theorem lent_any (w : World) {la : Option Addr} {ln lc : Nat} {l : List Mv} (hL : Mvs w la lc l) (hn : ln = l.length) (hsz : ln ≤ 1000000) :
    Calls Try.prog 9 #[.slice la ln lc] w fun e w' => ∃ v, e = .returned v ∧ OwnM w' w.heap.size v (ln + 2) (l ++ [mk71, mk71]) ∧ Below w.heap.size w w' := by
  obtain ⟨W, hW⟩ : ∃ W, W = w.alloc (.cells #[.int .i64 (-71), .int .i64 0, .int .i64 0, .int .i64 0] 36) := ⟨_, rfl⟩
  have hb0 : Below w.heap.size w W := by rw [hW]; exact below_new _ _
  have HB0 : Hid (Below w.heap.size w W) := hb0
  have HBX : Hid (W.heap[w.heap.size]? = some (.cells #[.int .i64 (-71), .int .i64 0, .int .i64 0, .int .i64 0] 36)) := by rw [hW]; exact heap_alloc_new _ _
  have HS : Hid (∀ w', Below W.heap.size W w' → (fun w' : World => w'.cell? ⟨w.heap.size, 0, none⟩ = some (.int .i64 (-71)) ∧ w'.cell? ⟨w.heap.size, 1, none⟩ = some (.int .i64 0) ∧ w'.cell? ⟨w.heap.size, 2, none⟩ = some (.int .i64 0) ∧ w'.cell? ⟨w.heap.size, 3, none⟩ = some (.int .i64 0)) w') := fun w' hb => by
    have := (hb.block _ (Array.getElem?_eq_some_iff.1 HBX.out).1).trans HBX.out
    exact ⟨cell_arr this rfl, cell_arr this rfl, cell_arr this rfl, cell_arr this rfl⟩
  have HL : Hid (Mvs W la lc l) := hL.below hb0 (Nat.le_refl _)
  have HN : Hid (ln = l.length) := hn
  have HSZ : Hid (w.heap.size ≤ W.heap.size) := hb0.size
  have S0 : (fun w' : World => w'.cell? ⟨w.heap.size, 0, none⟩ = some (.int .i64 (-71)) ∧ w'.cell? ⟨w.heap.size, 1, none⟩ = some (.int .i64 0) ∧ w'.cell? ⟨w.heap.size, 2, none⟩ = some (.int .i64 0) ∧ w'.cell? ⟨w.heap.size, 3, none⟩ = some (.int .i64 0)) W.drew := HS.out _ (Below.refl _ _).drew
  clear hL hn hb0
  go_enter Try.func9, Try.ntmps9
  go_wp2_with fail
  rw [← hW]
  clear hW
  refine led_start (S := fun w' : World => w'.cell? ⟨w.heap.size, 0, none⟩ = some (.int .i64 (-71)) ∧ w'.cell? ⟨w.heap.size, 1, none⟩ = some (.int .i64 0) ∧ w'.cell? ⟨w.heap.size, 2, none⟩ = some (.int .i64 0) ∧ w'.cell? ⟨w.heap.size, 3, none⟩ = some (.int .i64 0)) (z := 100) (by kernel_rfl) ?_
  show led _ _ _ _ _ 7 _ _ _
  refine led_takeF (i := 0) (v := ?v0) rfl (by kernel_rfl) (by kernel_rfl) (by kernel_rfl) (by kernel_rfl) (fun _ _ _ h => h) (.inl ⟨by rfl, ?hy0⟩) S0 ?rest0
  case hy0 =>
    rintro w' ⟨h1, h2, h3, h4⟩
    go_simp
    all_goals with_reducible rfl
  try simp only [Act.put, List.setIfInBounds_toArray, List.set_cons_zero, List.set_cons_succ]
  refine led_takeF (i := 2) (v := ?v2) rfl (by kernel_rfl) (by kernel_rfl) (by kernel_rfl) (by kernel_rfl) (fun _ _ _ h => h) (.inl ⟨by rfl, ?hy2⟩) S0 ?rest2
  case hy2 =>
    rintro w' ⟨h1, h2, h3, h4⟩
    go_simp
    all_goals with_reducible rfl
  try simp only [Act.put, List.setIfInBounds_toArray, List.set_cons_zero, List.set_cons_succ]
  refine led_takeF (i := 3) (v := ?v3) rfl (by kernel_rfl) (by kernel_rfl) (by kernel_rfl) (by kernel_rfl) (fun _ _ _ h => h) (.inl ⟨by rfl, ?hy3⟩) S0 ?rest3
  case hy3 =>
    rintro w' ⟨h1, h2, h3, h4⟩
    go_simp
    all_goals with_reducible rfl
  try simp only [Act.put, List.setIfInBounds_toArray, List.set_cons_zero, List.set_cons_succ]
  have FIN : ∀ (v : Value) (w' : World), OwnM w' w.heap.size v (ln + 2) (l ++ [mk71, mk71]) → Below W.heap.size W w' → (∃ v', Ending.returned v = .returned v' ∧ OwnM w' w.heap.size v' (ln + 2) (l ++ [mk71, mk71]) ∧ Below w.heap.size w w') := fun v w' h1 h2 => ⟨v, rfl, h1, HB0.out.trans (h2.mono HSZ.out)⟩
  refine led_two (i := 1) (j := 4) rfl rfl (by kernel_rfl) ?_ ?_
  · intro K1 hK1
    refine step_append_mvs rfl _ _ rfl w.heap.size (.slice none 0 0) 0 [] (by simp [Act.eval]) (OwnM.nil _ _) la ln lc l (by simp [Act.eval]) HN.out (HL.out.below (w' := W.drew) (Below.refl _ _).drew (Nat.le_refl _)) (by omega) HSZ.out ?_
    intro v1 w1 h1 g1
    rw [Nat.zero_add, List.nil_append] at h1
    have hb1 : Below W.heap.size W w1 := ((Below.refl W.heap.size W).drew).trans g1.nil
    have SA := HS.out w1 hb1
    refine hK1 _ _ (fun _ => SA) ?_
    clear hK1
    try simp only [Act.put, List.setIfInBounds_toArray, List.set_cons_zero, List.set_cons_succ]
    refine led_one (i := 4) rfl (by kernel_rfl) ?_
    intro K2 hK2
    rw [if_pos (by rfl)]
    go_simp
    have hb2 : Below W.heap.size W (w1.alloc (.cells #[.int .i64 (-71), .int .i64 0, .int .i64 0, .int .i64 0, .int .i64 (-71), .int .i64 0, .int .i64 0, .int .i64 0] 36)) := hb1.alloc hb1.size _
    refine hK2 _ _ (fun _ => HS.out _ hb2) ?_
    clear hK2
    try simp only [Act.put, List.setIfInBounds_toArray, List.set_cons_zero, List.set_cons_succ]
    refine led_one (i := 5) rfl (by kernel_rfl) ?_
    intro K3 hK3
    refine step_append_mvs rfl _ _ rfl w.heap.size v1 ln l (by simp [Act.eval]) (h1.keep (below_new _ _)) (some ⟨w1.heap.size, 0, none⟩) 2 2 [mk71, mk71] (by simp [Act.eval]) rfl (marks_at _ (heap_alloc_new _ _)) (by omega) (by have := hb2.size; have := HSZ.out; omega) ?_
    intro v3 w3 h3 g3
    have hb3 : Below W.heap.size W w3 := ⟨by rw [g3.bel.os, hb2.os], by rw [g3.bel.tape, hb2.tape], by rw [g3.bel.output, hb2.output], Nat.le_trans hb2.size g3.size, fun k hk => (g3.blk k (Nat.lt_of_lt_of_le hk hb2.size) (fun e => by
      rcases g1.own k e with h | h
      · simp [Value.ownBlock] at h
      · exact absurd hk (Nat.not_lt.2 h))).trans (hb2.block k hk)⟩
    refine hK3 _ _ (fun _ => HS.out _ hb3) ?_
    clear hK3
    try simp only [Act.put, List.setIfInBounds_toArray, List.set_cons_zero, List.set_cons_succ]
    refine led_one (i := 6) rfl (by kernel_rfl) ?_
    intro K4 hK4
    rw [if_pos (by rfl)]
    go_simp
    refine hK4 _ _ (fun _ => HS.out _ hb3) ?_
    clear hK4
    refine led_done (by kernel_rfl) ?_
    go_wp2_with fail
    go_ret
    exact FIN v3 w3 h3 hb3
  · intro K2 hK2
    rw [if_pos (by rfl)]
    go_simp
    have hb2 : Below W.heap.size W (W.drew.alloc (.cells #[.int .i64 (-71), .int .i64 0, .int .i64 0, .int .i64 0, .int .i64 (-71), .int .i64 0, .int .i64 0, .int .i64 0] 36)) := (Below.refl _ _).drew.alloc (by simp) _
    refine hK2 _ _ (fun _ => HS.out _ hb2) ?_
    clear hK2
    try simp only [Act.put, List.setIfInBounds_toArray, List.set_cons_zero, List.set_cons_succ]
    refine led_one (i := 1) rfl (by kernel_rfl) ?_
    intro K1 hK1
    refine step_append_mvs rfl _ _ rfl w.heap.size (.slice none 0 0) 0 [] (by simp [Act.eval]) (OwnM.nil _ _) la ln lc l (by simp [Act.eval]) HN.out (HL.out.below hb2 (Nat.le_refl _)) (by omega) (Nat.le_trans HSZ.out hb2.size) ?_
    intro v1 w1 h1 g1
    rw [Nat.zero_add, List.nil_append] at h1
    have hb1 : Below W.heap.size W w1 := hb2.trans (g1.nil.mono hb2.size)
    have hmk : w1.heap[W.heap.size]? = some (.cells #[.int .i64 (-71), .int .i64 0, .int .i64 0, .int .i64 0, .int .i64 (-71), .int .i64 0, .int .i64 0, .int .i64 0] 36 (0, 0)) := (g1.nil.block _ (by simp)).trans (heap_alloc_new W.drew _)
    refine hK1 _ _ (fun _ => HS.out _ hb1) ?_
    clear hK1
    try simp only [Act.put, List.setIfInBounds_toArray, List.set_cons_zero, List.set_cons_succ]
    refine led_one (i := 5) rfl (by kernel_rfl) ?_
    intro K3 hK3
    refine step_append_mvs rfl _ _ rfl w.heap.size v1 ln l (by simp [Act.eval]) h1 (some ⟨W.heap.size, 0, none⟩) 2 2 [mk71, mk71] (by simp [Act.eval]) rfl (marks_at _ hmk) (by omega) (by have := hb1.size; have := HSZ.out; omega) ?_
    intro v3 w3 h3 g3
    have hb3 : Below W.heap.size W w3 := ⟨by rw [g3.bel.os, hb1.os], by rw [g3.bel.tape, hb1.tape], by rw [g3.bel.output, hb1.output], Nat.le_trans hb1.size g3.size, fun k hk => (g3.blk k (Nat.lt_of_lt_of_le hk hb1.size) (fun e => by
      rcases g1.own k e with h | h
      · simp [Value.ownBlock] at h
      · exact absurd hk (Nat.not_lt.2 (Nat.le_trans hb2.size h)))).trans (hb1.block k hk)⟩
    refine hK3 _ _ (fun _ => HS.out _ hb3) ?_
    clear hK3
    try simp only [Act.put, List.setIfInBounds_toArray, List.set_cons_zero, List.set_cons_succ]
    refine led_one (i := 6) rfl (by kernel_rfl) ?_
    intro K4 hK4
    rw [if_pos (by rfl)]
    go_simp
    refine hK4 _ _ (fun _ => HS.out _ hb3) ?_
    clear hK4
    refine led_done (by kernel_rfl) ?_
    go_wp2_with fail
    go_ret
    exact FIN v3 w3 h3 hb3
end Go.Proofs.Ytdoiblknbpbhaaa
