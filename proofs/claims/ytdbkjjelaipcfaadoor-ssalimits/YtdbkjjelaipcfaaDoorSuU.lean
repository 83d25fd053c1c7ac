import Derived.Test.YtdbkjjelaipcfaaDoorSuT
set_option linter.unusedVariables false
set_option linter.unusedSimpArgs false
namespace Go.Proofs.YtdbkjjelaipcfaaDoor
open Go.ChangeShapes Go.WideShapes Go.ChangeAt Go.RowKit Go.Maps

/-- Blocks made one behind the other. -/
def al (w : World) (X : List Obj) : World := X.foldl World.alloc w
theorem al_size (X : List Obj) : ∀ w : World, (al w X).heap.size = w.heap.size + X.length := by
  induction X with
  | nil => intro w; rfl
  | cons x xs ih => intro w; show (al (w.alloc x) xs).heap.size = _; rw [ih]; simp; omega
theorem al_below (X : List Obj) : ∀ w : World, Below w.heap.size w (al w X) := by
  induction X with
  | nil => intro w; exact Below.refl _ _
  | cons x xs ih => intro w; exact (below_new w x).trans ((ih (w.alloc x)).mono (by simp))
theorem al_at (X : List Obj) : ∀ (w : World) (i : Nat) (h : i < X.length), (al w X).heap[w.heap.size + i]? = some X[i] := by
  induction X with
  | nil => intro w i h; simp at h
  | cons x xs ih =>
    intro w i h
    cases i with
    | zero =>
      show (al (w.alloc x) xs).heap[w.heap.size]? = _
      rw [(al_below xs (w.alloc x)).block _ (by simp)]
      exact heap_alloc_new w x
    | succ i =>
      have := ih (w.alloc x) i (by simpa using h)
      rw [show (w.alloc x).heap.size + i = w.heap.size + (i + 1) by simp; omega] at this
      exact this
theorem ints_none (w : World) : Ints w none 0 [] := ⟨Nat.le_refl _, by decide, fun h => absurd rfl h⟩
def loopX (B : Nat) : List Obj := [.cells #[.slice (some ⟨B + 17, 0, none⟩) 1 1, .int .i64 0] 36, .cells #[.int .i64 0, .int .i64 6] 3, .cells #[.int .i64 1, .int .i64 2] 3, .cells #[.int .i64 1] 3, .cells #[.int .i64 1, .int .i64 5] 3, .cells #[.int .i64 1, .int .i64 1, .int .i64 0, .slice none 0 0, .int .i64 32, .int .i64 1, .int .i64 0, .slice (some ⟨B + 1, 0, none⟩) 2 2, .int .i64 1, .int .i64 1, .int .i64 3, .slice none 0 0, .int .i64 15, .int .i64 2, .int .i64 0, .slice (some ⟨B + 2, 0, none⟩) 2 2, .int .i64 26, .int .i64 0, .int .i64 0, .slice (some ⟨B + 3, 0, none⟩) 1 1, .int .i64 1, .int .i64 1, .int .i64 1, .slice none 0 0, .int .i64 2, .int .i64 1, .int .i64 0, .slice (some ⟨B + 4, 0, none⟩) 2 2] 25, .cells #[.int .i64 0] 3, .cells #[.int .i64 1] 3, .cells #[.int .i64 1] 3, .cells #[.int .i64 2, .int .i64 3] 3, .cells #[.int .i64 2, .int .i64 3] 3, .cells #[.int .i64 0, .int .i64 2] 3, .cells #[.int .i64 4, .int .i64 5, .int .i64 6] 3, .cells #[.int .i64 1] 3, .cells #[.int .i64 1] 3, .cells #[.int .i64 1] 3, .cells #[.slice none 0 0, .slice (some ⟨B + 6, 0, none⟩) 1 1, .int .i64 1, .int .i64 (-1), .slice (some ⟨B + 7, 0, none⟩) 1 1, .slice none 0 0, .slice (some ⟨B + 8, 0, none⟩) 1 1, .slice (some ⟨B + 9, 0, none⟩) 2 2, .int .i64 2, .int .i64 3, .slice (some ⟨B + 10, 0, none⟩) 2 2, .slice (some ⟨B + 11, 0, none⟩) 2 2, .slice none 0 0, .slice (some ⟨B + 12, 0, none⟩) 3 3, .int .i64 1, .int .i64 (-1), .slice (some ⟨B + 13, 0, none⟩) 1 1, .slice (some ⟨B + 14, 0, none⟩) 1 1, .slice none 0 0, .slice none 0 0, .int .i64 3, .int .i64 (-1), .slice none 0 0, .slice (some ⟨B + 15, 0, none⟩) 1 1] 33, .cells #[.string ⟨#[109, 97, 105, 110]⟩, .slice none 0 0, .int .i64 0, .slice (some ⟨B + 5, 0, none⟩) 7 7, .slice (some ⟨B + 16, 0, none⟩) 4 4] 29]
def loopF : Fu := ⟨⟨#[109, 97, 105, 110]⟩, [], 0, [⟨1, 1, 0, []⟩, ⟨32, 1, 0, [0, 6]⟩, ⟨1, 1, 3, []⟩, ⟨15, 2, 0, [1, 2]⟩, ⟨26, 0, 0, [1]⟩, ⟨1, 1, 1, []⟩, ⟨2, 1, 0, [1, 5]⟩], [⟨[], [0], 1, -1, [1], []⟩, ⟨[1], [2, 3], 2, 3, [2, 3], [0, 2]⟩, ⟨[], [4, 5, 6], 1, -1, [1], [1]⟩, ⟨[], [], 3, -1, [], [1]⟩]⟩
set_option maxRecDepth 100000 in
set_option maxHeartbeats 4000000 in
theorem loop_any (w : World) : Calls Tryd.prog 7 #[] w fun e w' => e = .returned (.agg #[.slice (some ⟨w.heap.size + 17, 0, none⟩) 1 1, .int .i64 0]) ∧ w' = al w (loopX w.heap.size) := by
  have hb := al_at (loopX w.heap.size) w 0 (by simp [loopX])
  go_enter Tryd.func7, Tryd.ntmps7
  go_wp2_with fail
  refine bodyPost_ret (v := .agg #[.slice (some ⟨w.heap.size + 17, 0, none⟩) 1 1, .int .i64 0]) ?_ rfl ⟨rfl, rfl⟩
  exact results_cell_row Tryd.results7 _ _ w.heap.size 36 _ (0, 0) _ rfl hb Tryd.underlying36 rfl (by kernel_rfl)
theorem loop_fus (w : World) : Fus (al w (loopX w.heap.size)) (some ⟨w.heap.size + 17, 0, none⟩) 1 [loopF] := by
  have hx : ∀ i (h : i < (loopX w.heap.size).length), (al w (loopX w.heap.size)).heap[w.heap.size + i]? = some (loopX w.heap.size)[i] := fun i h => al_at _ w i h
  obtain ⟨B, hB⟩ : ∃ B, B = w.heap.size := ⟨_, rfl⟩
  obtain ⟨W, hW⟩ : ∃ W, W = al w (loopX w.heap.size) := ⟨_, rfl⟩
  rw [← hW] at hx ⊢
  rw [← hB] at hx ⊢
  clear hW hB
  have h1 := hx 1 (by simp [loopX])
  have h2 := hx 2 (by simp [loopX])
  have h3 := hx 3 (by simp [loopX])
  have h4 := hx 4 (by simp [loopX])
  have h5 := hx 5 (by simp [loopX])
  have h6 := hx 6 (by simp [loopX])
  have h7 := hx 7 (by simp [loopX])
  have h8 := hx 8 (by simp [loopX])
  have h9 := hx 9 (by simp [loopX])
  have h10 := hx 10 (by simp [loopX])
  have h11 := hx 11 (by simp [loopX])
  have h12 := hx 12 (by simp [loopX])
  have h13 := hx 13 (by simp [loopX])
  have h14 := hx 14 (by simp [loopX])
  have h15 := hx 15 (by simp [loopX])
  have h16 := hx 16 (by simp [loopX])
  have h17 := hx 17 (by simp [loopX])
  have hl : ∀ j : Nat, j < 18 → B + j < W.heap.size := fun j hj => (Array.getElem?_eq_some_iff.1 (hx j (by simpa [loopX] using hj))).1
  clear hx
  have i1 : Ints W (some ⟨B + 1, 0, none⟩) 2 [0, 6] := ints_exact (L := [0, 6]) h1 (by decide)
  have i2 : Ints W (some ⟨B + 2, 0, none⟩) 2 [1, 2] := ints_exact (L := [1, 2]) h2 (by decide)
  have i3 : Ints W (some ⟨B + 3, 0, none⟩) 1 [1] := ints_exact (L := [1]) h3 (by decide)
  have i4 : Ints W (some ⟨B + 4, 0, none⟩) 2 [1, 5] := ints_exact (L := [1, 5]) h4 (by decide)
  have i6 : Ints W (some ⟨B + 6, 0, none⟩) 1 [0] := ints_exact (L := [0]) h6 (by decide)
  have i7 : Ints W (some ⟨B + 7, 0, none⟩) 1 [1] := ints_exact (L := [1]) h7 (by decide)
  have i8 : Ints W (some ⟨B + 8, 0, none⟩) 1 [1] := ints_exact (L := [1]) h8 (by decide)
  have i9 : Ints W (some ⟨B + 9, 0, none⟩) 2 [2, 3] := ints_exact (L := [2, 3]) h9 (by decide)
  have i10 : Ints W (some ⟨B + 10, 0, none⟩) 2 [2, 3] := ints_exact (L := [2, 3]) h10 (by decide)
  have i11 : Ints W (some ⟨B + 11, 0, none⟩) 2 [0, 2] := ints_exact (L := [0, 2]) h11 (by decide)
  have i12 : Ints W (some ⟨B + 12, 0, none⟩) 3 [4, 5, 6] := ints_exact (L := [4, 5, 6]) h12 (by decide)
  have i13 : Ints W (some ⟨B + 13, 0, none⟩) 1 [1] := ints_exact (L := [1]) h13 (by decide)
  have i14 : Ints W (some ⟨B + 14, 0, none⟩) 1 [1] := ints_exact (L := [1]) h14 (by decide)
  have i15 : Ints W (some ⟨B + 15, 0, none⟩) 1 [1] := ints_exact (L := [1]) h15 (by decide)
  have hv : Vls W (some ⟨B + 5, 0, none⟩) 7 loopF.vals := by
    refine ⟨by decide, by decide, fun _ => ⟨B + 5, 0, rfl, hl 5 (by omega), fun i hi => ?_⟩⟩
    match i, hi with
    | 0, _ => exact ⟨none, 0, cell_arr (i := 0) h5 rfl, cell_arr (i := 1) h5 rfl, cell_arr (i := 2) h5 rfl, cell_arr (i := 3) h5 rfl, (ints_none W)⟩
    | 1, _ => exact ⟨some ⟨B + 1, 0, none⟩, 2, cell_arr (i := 4) h5 rfl, cell_arr (i := 5) h5 rfl, cell_arr (i := 6) h5 rfl, cell_arr (i := 7) h5 rfl, i1⟩
    | 2, _ => exact ⟨none, 0, cell_arr (i := 8) h5 rfl, cell_arr (i := 9) h5 rfl, cell_arr (i := 10) h5 rfl, cell_arr (i := 11) h5 rfl, (ints_none W)⟩
    | 3, _ => exact ⟨some ⟨B + 2, 0, none⟩, 2, cell_arr (i := 12) h5 rfl, cell_arr (i := 13) h5 rfl, cell_arr (i := 14) h5 rfl, cell_arr (i := 15) h5 rfl, i2⟩
    | 4, _ => exact ⟨some ⟨B + 3, 0, none⟩, 1, cell_arr (i := 16) h5 rfl, cell_arr (i := 17) h5 rfl, cell_arr (i := 18) h5 rfl, cell_arr (i := 19) h5 rfl, i3⟩
    | 5, _ => exact ⟨none, 0, cell_arr (i := 20) h5 rfl, cell_arr (i := 21) h5 rfl, cell_arr (i := 22) h5 rfl, cell_arr (i := 23) h5 rfl, (ints_none W)⟩
    | 6, _ => exact ⟨some ⟨B + 4, 0, none⟩, 2, cell_arr (i := 24) h5 rfl, cell_arr (i := 25) h5 rfl, cell_arr (i := 26) h5 rfl, cell_arr (i := 27) h5 rfl, i4⟩
  have hk : Bks W (some ⟨B + 16, 0, none⟩) 4 loopF.blks := by
    refine ⟨by decide, by decide, fun _ => ⟨B + 16, 0, rfl, hl 16 (by omega), fun i hi => ?_⟩⟩
    match i, hi with
    | 0, _ => exact ⟨none, 0, some ⟨B + 6, 0, none⟩, 1, some ⟨B + 7, 0, none⟩, 1, none, 0, cell_arr (i := 0) h16 rfl, cell_arr (i := 1) h16 rfl, cell_arr (i := 2) h16 rfl, cell_arr (i := 3) h16 rfl, cell_arr (i := 4) h16 rfl, cell_arr (i := 5) h16 rfl, (ints_none W), i6, i7, (ints_none W)⟩
    | 1, _ => exact ⟨some ⟨B + 8, 0, none⟩, 1, some ⟨B + 9, 0, none⟩, 2, some ⟨B + 10, 0, none⟩, 2, some ⟨B + 11, 0, none⟩, 2, cell_arr (i := 6) h16 rfl, cell_arr (i := 7) h16 rfl, cell_arr (i := 8) h16 rfl, cell_arr (i := 9) h16 rfl, cell_arr (i := 10) h16 rfl, cell_arr (i := 11) h16 rfl, i8, i9, i10, i11⟩
    | 2, _ => exact ⟨none, 0, some ⟨B + 12, 0, none⟩, 3, some ⟨B + 13, 0, none⟩, 1, some ⟨B + 14, 0, none⟩, 1, cell_arr (i := 12) h16 rfl, cell_arr (i := 13) h16 rfl, cell_arr (i := 14) h16 rfl, cell_arr (i := 15) h16 rfl, cell_arr (i := 16) h16 rfl, cell_arr (i := 17) h16 rfl, (ints_none W), i12, i13, i14⟩
    | 3, _ => exact ⟨none, 0, none, 0, none, 0, some ⟨B + 15, 0, none⟩, 1, cell_arr (i := 18) h16 rfl, cell_arr (i := 19) h16 rfl, cell_arr (i := 20) h16 rfl, cell_arr (i := 21) h16 rfl, cell_arr (i := 22) h16 rfl, cell_arr (i := 23) h16 rfl, (ints_none W), (ints_none W), (ints_none W), i15⟩
  refine ⟨by decide, by decide, fun _ => ⟨B + 17, 0, rfl, hl 17 (by omega), fun i hi => ?_⟩⟩
  match i, hi with
  | 0, _ => exact ⟨none, 0, some ⟨B + 5, 0, none⟩, 7, some ⟨B + 16, 0, none⟩, 4, cell_arr (i := 0) h17 rfl, cell_arr (i := 1) h17 rfl, cell_arr (i := 2) h17 rfl, cell_arr (i := 3) h17 rfl, cell_arr (i := 4) h17 rfl, ints_none W, hv, hk⟩
theorem loop_yes : checkP [loopF] 0 = 0 := by decide +kernel
theorem loop_no : checkP [loopF] 1 = 90 := by decide +kernel
theorem loop_few : ∀ f ∈ [loopF], FewF f := by
  intro f hf
  simp at hf
  subst hf
  exact ⟨by decide, by decide⟩
set_option maxRecDepth 100000 in
set_option maxHeartbeats 4000000 in
theorem alive9_any (w : World) (hTab : Tab w) : Calls Tryd.prog 5 #[] w fun e w' => e = .returned (.bool true) ∧ Below w.heap.size w w' := by
  have HT : Hid (Tab w) := hTab
  have hb1 := al_below (loopX w.heap.size) w
  have hF := loop_fus w
  obtain ⟨W, hW⟩ : ∃ W, W = al w (loopX w.heap.size) := ⟨_, rfl⟩
  rw [← hW] at hF hb1
  have HW : Hid (W = al w (loopX w.heap.size)) := hW
  have HB : Hid (Below w.heap.size w W) := hb1
  have HC : Hid (∀ (m R : Int) (W' : World), checkP [loopF] m = R → Below W.heap.size W W' → Calls Tryd.prog 6 #[.agg #[.slice (some ⟨w.heap.size + 17, 0, none⟩) 1 1, .int .i64 m]] W' fun e w' => e = .returned (.int .i64 R) ∧ Below W'.heap.size W' w') := fun m R W' hR h =>
    check_any W' (HT.out.below (HB.out.trans (h.mono HB.out.size)) HT.out.1) _ 1 1 [loopF] rfl (hF.below h (Nat.le_refl _)) (by omega) loop_few m R hR
  have B5 := below_new W (.cells #[.slice (some ⟨w.heap.size + 17, 0, none⟩) 1 1, .int .i64 0] 36)
  have h5 := heap_alloc_new W (.cells #[.slice (some ⟨w.heap.size + 17, 0, none⟩) 1 1, .int .i64 0] 36)
  have HB5 : Hid _ := B5
  have H5 : Hid _ := h5
  have HK : Hid (∀ w7, Below (W.alloc (.cells #[.slice (some ⟨w.heap.size + 17, 0, none⟩) 1 1, .int .i64 0] 36)).heap.size (W.alloc (.cells #[.slice (some ⟨w.heap.size + 17, 0, none⟩) 1 1, .int .i64 0] 36)) w7 → w7.cell? ⟨W.heap.size, 0, none⟩ = some (.slice (some ⟨w.heap.size + 17, 0, none⟩) 1 1) ∧ w7.cell? ⟨W.heap.size, 1, none⟩ = some (.int .i64 0) ∧ w7.frozen? ⟨W.heap.size, 1, none⟩ = false ∧ Below W.heap.size W (w7.setCell ⟨W.heap.size, 1, none⟩ (.int .i64 1)) ∧ W.heap.size < w7.heap.size) := by
    intro w7 h
    have e := (h.block _ (by simp)).trans H5.out
    exact ⟨cell_arr e rfl, cell_arr e rfl, fz_of e, (HB5.out.trans (h.mono HB5.out.size)).setCell (Nat.le_refl _) _, (Array.getElem?_eq_some_iff.1 e).1⟩
  clear hTab hb1 hF B5 h5 hW
  go_enter Tryd.func5, Tryd.ntmps5
  go_wp2_with (first
    | (go_at_call 6; refine (HC.out 1 90 _ loop_no k4).mono ?_; rintro e w8 ⟨rfl, hb8⟩)
    | (go_at_call 6; refine (HC.out 0 0 _ loop_yes HB5.out).mono ?_; rintro e w7 ⟨rfl, hb7⟩; obtain ⟨k1, k2, k3, k4, k5⟩ := HK.out w7 hb7)
    | (go_at_call 7; refine (loop_any w).mono ?_; rintro e w1 ⟨rfl, hw1⟩; have e1 := hw1.trans HW.out.symm; subst e1; clear hw1))
  go_ret
  exact ⟨rfl, HB.out.trans ((k4.trans (hb8.mono k4.size)).mono HB.out.size)⟩
end Go.Proofs.YtdbkjjelaipcfaaDoor
