import Derived.Test.YtdbkjjelaipcfaaDoorLsH
set_option linter.unusedVariables false
set_option linter.unusedSimpArgs false
namespace Go.Proofs.YtdbkjjelaipcfaaDoor
open Go.ChangeShapes Go.WideShapes Go.ChangeAt Go.RowKit Go.Maps

/-- What an operation alone tells: how many, of which types, its own. -/
structure Shp where
  count : Int
  a0 : Int
  a1 : Int
  a2 : Int
  gives : Int
def shp (op : Int) : Shp :=
  if 2 ≤ op ∧ op ≤ 12 then ⟨2, 1, 1, 0, 1⟩ else if op = 13 ∨ op = 14 then ⟨2, 0, 0, 0, 2⟩ else if op = 15 ∨ op = 16 then ⟨2, 1, 1, 0, 2⟩
  else if op = 17 ∨ op = 18 then ⟨1, 1, 0, 0, 1⟩ else if op = 19 then ⟨1, 2, 0, 0, 2⟩ else if op = 20 then ⟨1, 3, 0, 0, 1⟩ else if op = 21 then ⟨2, 3, 1, 0, 1⟩
  else if op = 22 then ⟨3, 3, 1, 1, 0⟩ else if op = 23 then ⟨1, 1, 0, 0, 3⟩ else if op = 24 then ⟨0, 0, 0, 0, 1⟩ else if op = 26 ∨ op = 28 ∨ op = 29 then ⟨1, 1, 0, 0, 0⟩
  else if op = 27 then ⟨1, 2, 0, 0, 0⟩ else if op = 30 then ⟨2, 1, 1, 0, 0⟩ else ⟨0, 0, 0, 0, 0⟩
def shv (h : Shp) : Value := .agg #[.int .i64 h.count, .int .i64 h.a0, .int .i64 h.a1, .int .i64 h.a2, .int .i64 h.gives]
theorem shapeOf_2 (w : World) : Calls Tryd.prog 72 #[.int .i64 2] w fun e w' => e = .returned (shv (shp 2)) ∧ Below w.heap.size w w' := by
  go_enter Tryd.func72, Tryd.ntmps72
  go_wp2
  refine bodyPost_ret (v := shv (shp 2)) ?_ rfl ⟨rfl, (Below.refl _ _).alloc (Nat.le_refl _) _⟩
  exact results_cell_row Tryd.results72 _ _ w.heap.size 96 _ (0, 0) _ rfl (heap_alloc_new _ _) Tryd.underlying96 rfl (by kernel_rfl)
theorem shapeOf_3 (w : World) : Calls Tryd.prog 72 #[.int .i64 3] w fun e w' => e = .returned (shv (shp 3)) ∧ Below w.heap.size w w' := by
  go_enter Tryd.func72, Tryd.ntmps72
  go_wp2
  refine bodyPost_ret (v := shv (shp 3)) ?_ rfl ⟨rfl, (Below.refl _ _).alloc (Nat.le_refl _) _⟩
  exact results_cell_row Tryd.results72 _ _ w.heap.size 96 _ (0, 0) _ rfl (heap_alloc_new _ _) Tryd.underlying96 rfl (by kernel_rfl)
theorem shapeOf_4 (w : World) : Calls Tryd.prog 72 #[.int .i64 4] w fun e w' => e = .returned (shv (shp 4)) ∧ Below w.heap.size w w' := by
  go_enter Tryd.func72, Tryd.ntmps72
  go_wp2
  refine bodyPost_ret (v := shv (shp 4)) ?_ rfl ⟨rfl, (Below.refl _ _).alloc (Nat.le_refl _) _⟩
  exact results_cell_row Tryd.results72 _ _ w.heap.size 96 _ (0, 0) _ rfl (heap_alloc_new _ _) Tryd.underlying96 rfl (by kernel_rfl)
theorem shapeOf_5 (w : World) : Calls Tryd.prog 72 #[.int .i64 5] w fun e w' => e = .returned (shv (shp 5)) ∧ Below w.heap.size w w' := by
  go_enter Tryd.func72, Tryd.ntmps72
  go_wp2
  refine bodyPost_ret (v := shv (shp 5)) ?_ rfl ⟨rfl, (Below.refl _ _).alloc (Nat.le_refl _) _⟩
  exact results_cell_row Tryd.results72 _ _ w.heap.size 96 _ (0, 0) _ rfl (heap_alloc_new _ _) Tryd.underlying96 rfl (by kernel_rfl)
theorem shapeOf_6 (w : World) : Calls Tryd.prog 72 #[.int .i64 6] w fun e w' => e = .returned (shv (shp 6)) ∧ Below w.heap.size w w' := by
  go_enter Tryd.func72, Tryd.ntmps72
  go_wp2
  refine bodyPost_ret (v := shv (shp 6)) ?_ rfl ⟨rfl, (Below.refl _ _).alloc (Nat.le_refl _) _⟩
  exact results_cell_row Tryd.results72 _ _ w.heap.size 96 _ (0, 0) _ rfl (heap_alloc_new _ _) Tryd.underlying96 rfl (by kernel_rfl)
theorem shapeOf_7 (w : World) : Calls Tryd.prog 72 #[.int .i64 7] w fun e w' => e = .returned (shv (shp 7)) ∧ Below w.heap.size w w' := by
  go_enter Tryd.func72, Tryd.ntmps72
  go_wp2
  refine bodyPost_ret (v := shv (shp 7)) ?_ rfl ⟨rfl, (Below.refl _ _).alloc (Nat.le_refl _) _⟩
  exact results_cell_row Tryd.results72 _ _ w.heap.size 96 _ (0, 0) _ rfl (heap_alloc_new _ _) Tryd.underlying96 rfl (by kernel_rfl)
theorem shapeOf_8 (w : World) : Calls Tryd.prog 72 #[.int .i64 8] w fun e w' => e = .returned (shv (shp 8)) ∧ Below w.heap.size w w' := by
  go_enter Tryd.func72, Tryd.ntmps72
  go_wp2
  refine bodyPost_ret (v := shv (shp 8)) ?_ rfl ⟨rfl, (Below.refl _ _).alloc (Nat.le_refl _) _⟩
  exact results_cell_row Tryd.results72 _ _ w.heap.size 96 _ (0, 0) _ rfl (heap_alloc_new _ _) Tryd.underlying96 rfl (by kernel_rfl)
theorem shapeOf_9 (w : World) : Calls Tryd.prog 72 #[.int .i64 9] w fun e w' => e = .returned (shv (shp 9)) ∧ Below w.heap.size w w' := by
  go_enter Tryd.func72, Tryd.ntmps72
  go_wp2
  refine bodyPost_ret (v := shv (shp 9)) ?_ rfl ⟨rfl, (Below.refl _ _).alloc (Nat.le_refl _) _⟩
  exact results_cell_row Tryd.results72 _ _ w.heap.size 96 _ (0, 0) _ rfl (heap_alloc_new _ _) Tryd.underlying96 rfl (by kernel_rfl)
theorem shapeOf_10 (w : World) : Calls Tryd.prog 72 #[.int .i64 10] w fun e w' => e = .returned (shv (shp 10)) ∧ Below w.heap.size w w' := by
  go_enter Tryd.func72, Tryd.ntmps72
  go_wp2
  refine bodyPost_ret (v := shv (shp 10)) ?_ rfl ⟨rfl, (Below.refl _ _).alloc (Nat.le_refl _) _⟩
  exact results_cell_row Tryd.results72 _ _ w.heap.size 96 _ (0, 0) _ rfl (heap_alloc_new _ _) Tryd.underlying96 rfl (by kernel_rfl)
theorem shapeOf_11 (w : World) : Calls Tryd.prog 72 #[.int .i64 11] w fun e w' => e = .returned (shv (shp 11)) ∧ Below w.heap.size w w' := by
  go_enter Tryd.func72, Tryd.ntmps72
  go_wp2
  refine bodyPost_ret (v := shv (shp 11)) ?_ rfl ⟨rfl, (Below.refl _ _).alloc (Nat.le_refl _) _⟩
  exact results_cell_row Tryd.results72 _ _ w.heap.size 96 _ (0, 0) _ rfl (heap_alloc_new _ _) Tryd.underlying96 rfl (by kernel_rfl)
theorem shapeOf_12 (w : World) : Calls Tryd.prog 72 #[.int .i64 12] w fun e w' => e = .returned (shv (shp 12)) ∧ Below w.heap.size w w' := by
  go_enter Tryd.func72, Tryd.ntmps72
  go_wp2
  refine bodyPost_ret (v := shv (shp 12)) ?_ rfl ⟨rfl, (Below.refl _ _).alloc (Nat.le_refl _) _⟩
  exact results_cell_row Tryd.results72 _ _ w.heap.size 96 _ (0, 0) _ rfl (heap_alloc_new _ _) Tryd.underlying96 rfl (by kernel_rfl)
theorem shapeOf_13 (w : World) : Calls Tryd.prog 72 #[.int .i64 13] w fun e w' => e = .returned (shv (shp 13)) ∧ Below w.heap.size w w' := by
  go_enter Tryd.func72, Tryd.ntmps72
  go_wp2
  refine bodyPost_ret (v := shv (shp 13)) ?_ rfl ⟨rfl, (Below.refl _ _).alloc (Nat.le_refl _) _⟩
  exact results_cell_row Tryd.results72 _ _ w.heap.size 96 _ (0, 0) _ rfl (heap_alloc_new _ _) Tryd.underlying96 rfl (by kernel_rfl)
theorem shapeOf_14 (w : World) : Calls Tryd.prog 72 #[.int .i64 14] w fun e w' => e = .returned (shv (shp 14)) ∧ Below w.heap.size w w' := by
  go_enter Tryd.func72, Tryd.ntmps72
  go_wp2
  refine bodyPost_ret (v := shv (shp 14)) ?_ rfl ⟨rfl, (Below.refl _ _).alloc (Nat.le_refl _) _⟩
  exact results_cell_row Tryd.results72 _ _ w.heap.size 96 _ (0, 0) _ rfl (heap_alloc_new _ _) Tryd.underlying96 rfl (by kernel_rfl)
theorem shapeOf_15 (w : World) : Calls Tryd.prog 72 #[.int .i64 15] w fun e w' => e = .returned (shv (shp 15)) ∧ Below w.heap.size w w' := by
  go_enter Tryd.func72, Tryd.ntmps72
  go_wp2
  refine bodyPost_ret (v := shv (shp 15)) ?_ rfl ⟨rfl, (Below.refl _ _).alloc (Nat.le_refl _) _⟩
  exact results_cell_row Tryd.results72 _ _ w.heap.size 96 _ (0, 0) _ rfl (heap_alloc_new _ _) Tryd.underlying96 rfl (by kernel_rfl)
theorem shapeOf_16 (w : World) : Calls Tryd.prog 72 #[.int .i64 16] w fun e w' => e = .returned (shv (shp 16)) ∧ Below w.heap.size w w' := by
  go_enter Tryd.func72, Tryd.ntmps72
  go_wp2
  refine bodyPost_ret (v := shv (shp 16)) ?_ rfl ⟨rfl, (Below.refl _ _).alloc (Nat.le_refl _) _⟩
  exact results_cell_row Tryd.results72 _ _ w.heap.size 96 _ (0, 0) _ rfl (heap_alloc_new _ _) Tryd.underlying96 rfl (by kernel_rfl)
theorem shapeOf_17 (w : World) : Calls Tryd.prog 72 #[.int .i64 17] w fun e w' => e = .returned (shv (shp 17)) ∧ Below w.heap.size w w' := by
  go_enter Tryd.func72, Tryd.ntmps72
  go_wp2
  refine bodyPost_ret (v := shv (shp 17)) ?_ rfl ⟨rfl, (Below.refl _ _).alloc (Nat.le_refl _) _⟩
  exact results_cell_row Tryd.results72 _ _ w.heap.size 96 _ (0, 0) _ rfl (heap_alloc_new _ _) Tryd.underlying96 rfl (by kernel_rfl)
theorem shapeOf_18 (w : World) : Calls Tryd.prog 72 #[.int .i64 18] w fun e w' => e = .returned (shv (shp 18)) ∧ Below w.heap.size w w' := by
  go_enter Tryd.func72, Tryd.ntmps72
  go_wp2
  refine bodyPost_ret (v := shv (shp 18)) ?_ rfl ⟨rfl, (Below.refl _ _).alloc (Nat.le_refl _) _⟩
  exact results_cell_row Tryd.results72 _ _ w.heap.size 96 _ (0, 0) _ rfl (heap_alloc_new _ _) Tryd.underlying96 rfl (by kernel_rfl)
theorem shapeOf_19 (w : World) : Calls Tryd.prog 72 #[.int .i64 19] w fun e w' => e = .returned (shv (shp 19)) ∧ Below w.heap.size w w' := by
  go_enter Tryd.func72, Tryd.ntmps72
  go_wp2
  refine bodyPost_ret (v := shv (shp 19)) ?_ rfl ⟨rfl, (Below.refl _ _).alloc (Nat.le_refl _) _⟩
  exact results_cell_row Tryd.results72 _ _ w.heap.size 96 _ (0, 0) _ rfl (heap_alloc_new _ _) Tryd.underlying96 rfl (by kernel_rfl)
theorem shapeOf_20 (w : World) : Calls Tryd.prog 72 #[.int .i64 20] w fun e w' => e = .returned (shv (shp 20)) ∧ Below w.heap.size w w' := by
  go_enter Tryd.func72, Tryd.ntmps72
  go_wp2
  refine bodyPost_ret (v := shv (shp 20)) ?_ rfl ⟨rfl, (Below.refl _ _).alloc (Nat.le_refl _) _⟩
  exact results_cell_row Tryd.results72 _ _ w.heap.size 96 _ (0, 0) _ rfl (heap_alloc_new _ _) Tryd.underlying96 rfl (by kernel_rfl)
theorem shapeOf_21 (w : World) : Calls Tryd.prog 72 #[.int .i64 21] w fun e w' => e = .returned (shv (shp 21)) ∧ Below w.heap.size w w' := by
  go_enter Tryd.func72, Tryd.ntmps72
  go_wp2
  refine bodyPost_ret (v := shv (shp 21)) ?_ rfl ⟨rfl, (Below.refl _ _).alloc (Nat.le_refl _) _⟩
  exact results_cell_row Tryd.results72 _ _ w.heap.size 96 _ (0, 0) _ rfl (heap_alloc_new _ _) Tryd.underlying96 rfl (by kernel_rfl)
theorem shapeOf_22 (w : World) : Calls Tryd.prog 72 #[.int .i64 22] w fun e w' => e = .returned (shv (shp 22)) ∧ Below w.heap.size w w' := by
  go_enter Tryd.func72, Tryd.ntmps72
  go_wp2
  refine bodyPost_ret (v := shv (shp 22)) ?_ rfl ⟨rfl, (Below.refl _ _).alloc (Nat.le_refl _) _⟩
  exact results_cell_row Tryd.results72 _ _ w.heap.size 96 _ (0, 0) _ rfl (heap_alloc_new _ _) Tryd.underlying96 rfl (by kernel_rfl)
theorem shapeOf_23 (w : World) : Calls Tryd.prog 72 #[.int .i64 23] w fun e w' => e = .returned (shv (shp 23)) ∧ Below w.heap.size w w' := by
  go_enter Tryd.func72, Tryd.ntmps72
  go_wp2
  refine bodyPost_ret (v := shv (shp 23)) ?_ rfl ⟨rfl, (Below.refl _ _).alloc (Nat.le_refl _) _⟩
  exact results_cell_row Tryd.results72 _ _ w.heap.size 96 _ (0, 0) _ rfl (heap_alloc_new _ _) Tryd.underlying96 rfl (by kernel_rfl)
theorem shapeOf_24 (w : World) : Calls Tryd.prog 72 #[.int .i64 24] w fun e w' => e = .returned (shv (shp 24)) ∧ Below w.heap.size w w' := by
  go_enter Tryd.func72, Tryd.ntmps72
  go_wp2
  refine bodyPost_ret (v := shv (shp 24)) ?_ rfl ⟨rfl, (Below.refl _ _).alloc (Nat.le_refl _) _⟩
  exact results_cell_row Tryd.results72 _ _ w.heap.size 96 _ (0, 0) _ rfl (heap_alloc_new _ _) Tryd.underlying96 rfl (by kernel_rfl)
theorem shapeOf_26 (w : World) : Calls Tryd.prog 72 #[.int .i64 26] w fun e w' => e = .returned (shv (shp 26)) ∧ Below w.heap.size w w' := by
  go_enter Tryd.func72, Tryd.ntmps72
  go_wp2
  refine bodyPost_ret (v := shv (shp 26)) ?_ rfl ⟨rfl, (Below.refl _ _).alloc (Nat.le_refl _) _⟩
  exact results_cell_row Tryd.results72 _ _ w.heap.size 96 _ (0, 0) _ rfl (heap_alloc_new _ _) Tryd.underlying96 rfl (by kernel_rfl)
theorem shapeOf_27 (w : World) : Calls Tryd.prog 72 #[.int .i64 27] w fun e w' => e = .returned (shv (shp 27)) ∧ Below w.heap.size w w' := by
  go_enter Tryd.func72, Tryd.ntmps72
  go_wp2
  refine bodyPost_ret (v := shv (shp 27)) ?_ rfl ⟨rfl, (Below.refl _ _).alloc (Nat.le_refl _) _⟩
  exact results_cell_row Tryd.results72 _ _ w.heap.size 96 _ (0, 0) _ rfl (heap_alloc_new _ _) Tryd.underlying96 rfl (by kernel_rfl)
theorem shapeOf_28 (w : World) : Calls Tryd.prog 72 #[.int .i64 28] w fun e w' => e = .returned (shv (shp 28)) ∧ Below w.heap.size w w' := by
  go_enter Tryd.func72, Tryd.ntmps72
  go_wp2
  refine bodyPost_ret (v := shv (shp 28)) ?_ rfl ⟨rfl, (Below.refl _ _).alloc (Nat.le_refl _) _⟩
  exact results_cell_row Tryd.results72 _ _ w.heap.size 96 _ (0, 0) _ rfl (heap_alloc_new _ _) Tryd.underlying96 rfl (by kernel_rfl)
theorem shapeOf_29 (w : World) : Calls Tryd.prog 72 #[.int .i64 29] w fun e w' => e = .returned (shv (shp 29)) ∧ Below w.heap.size w w' := by
  go_enter Tryd.func72, Tryd.ntmps72
  go_wp2
  refine bodyPost_ret (v := shv (shp 29)) ?_ rfl ⟨rfl, (Below.refl _ _).alloc (Nat.le_refl _) _⟩
  exact results_cell_row Tryd.results72 _ _ w.heap.size 96 _ (0, 0) _ rfl (heap_alloc_new _ _) Tryd.underlying96 rfl (by kernel_rfl)
theorem shapeOf_30 (w : World) : Calls Tryd.prog 72 #[.int .i64 30] w fun e w' => e = .returned (shv (shp 30)) ∧ Below w.heap.size w w' := by
  go_enter Tryd.func72, Tryd.ntmps72
  go_wp2
  refine bodyPost_ret (v := shv (shp 30)) ?_ rfl ⟨rfl, (Below.refl _ _).alloc (Nat.le_refl _) _⟩
  exact results_cell_row Tryd.results72 _ _ w.heap.size 96 _ (0, 0) _ rfl (heap_alloc_new _ _) Tryd.underlying96 rfl (by kernel_rfl)
theorem shapeOf_no (w : World) (op : Int) (h2 : ¬ op = 2) (h3 : ¬ op = 3) (h4 : ¬ op = 4) (h5 : ¬ op = 5) (h6 : ¬ op = 6) (h7 : ¬ op = 7) (h8 : ¬ op = 8) (h9 : ¬ op = 9) (h10 : ¬ op = 10) (h11 : ¬ op = 11) (h12 : ¬ op = 12) (h13 : ¬ op = 13) (h14 : ¬ op = 14) (h15 : ¬ op = 15) (h16 : ¬ op = 16) (h17 : ¬ op = 17) (h18 : ¬ op = 18) (h19 : ¬ op = 19) (h20 : ¬ op = 20) (h21 : ¬ op = 21) (h22 : ¬ op = 22) (h23 : ¬ op = 23) (h24 : ¬ op = 24) (h26 : ¬ op = 26) (h27 : ¬ op = 27) (h28 : ¬ op = 28) (h29 : ¬ op = 29) (h30 : ¬ op = 30) : Calls Tryd.prog 72 #[.int .i64 op] w fun e w' => e = .returned (shv ⟨0, 0, 0, 0, 0⟩) ∧ Below w.heap.size w w' := by
  go_enter Tryd.func72, Tryd.ntmps72
  go_wp2
  refine bodyPost_ret (v := shv ⟨0, 0, 0, 0, 0⟩) ?_ rfl ⟨rfl, (Below.refl _ _).alloc (Nat.le_refl _) _⟩
  exact results_cell_row Tryd.results72 _ _ w.heap.size 96 _ (0, 0) _ rfl (heap_alloc_new _ _) Tryd.underlying96 rfl (by kernel_rfl)
theorem shp_no (op : Int) (h2 : ¬ op = 2) (h3 : ¬ op = 3) (h4 : ¬ op = 4) (h5 : ¬ op = 5) (h6 : ¬ op = 6) (h7 : ¬ op = 7) (h8 : ¬ op = 8) (h9 : ¬ op = 9) (h10 : ¬ op = 10) (h11 : ¬ op = 11) (h12 : ¬ op = 12) (h13 : ¬ op = 13) (h14 : ¬ op = 14) (h15 : ¬ op = 15) (h16 : ¬ op = 16) (h17 : ¬ op = 17) (h18 : ¬ op = 18) (h19 : ¬ op = 19) (h20 : ¬ op = 20) (h21 : ¬ op = 21) (h22 : ¬ op = 22) (h23 : ¬ op = 23) (h24 : ¬ op = 24) (h26 : ¬ op = 26) (h27 : ¬ op = 27) (h28 : ¬ op = 28) (h29 : ¬ op = 29) (h30 : ¬ op = 30) : shp op = ⟨0, 0, 0, 0, 0⟩ := by
  unfold shp
  rw [if_neg (by omega), if_neg (by omega), if_neg (by omega), if_neg (by omega), if_neg (by omega), if_neg (by omega), if_neg (by omega), if_neg (by omega), if_neg (by omega), if_neg (by omega), if_neg (by omega), if_neg (by omega), if_neg (by omega)]
theorem shapeOf_any (w : World) (op : Int) : Calls Tryd.prog 72 #[.int .i64 op] w fun e w' => e = .returned (shv (shp op)) ∧ Below w.heap.size w w' := by
  by_cases h2 : op = 2
  · subst h2; exact shapeOf_2 w
  by_cases h3 : op = 3
  · subst h3; exact shapeOf_3 w
  by_cases h4 : op = 4
  · subst h4; exact shapeOf_4 w
  by_cases h5 : op = 5
  · subst h5; exact shapeOf_5 w
  by_cases h6 : op = 6
  · subst h6; exact shapeOf_6 w
  by_cases h7 : op = 7
  · subst h7; exact shapeOf_7 w
  by_cases h8 : op = 8
  · subst h8; exact shapeOf_8 w
  by_cases h9 : op = 9
  · subst h9; exact shapeOf_9 w
  by_cases h10 : op = 10
  · subst h10; exact shapeOf_10 w
  by_cases h11 : op = 11
  · subst h11; exact shapeOf_11 w
  by_cases h12 : op = 12
  · subst h12; exact shapeOf_12 w
  by_cases h13 : op = 13
  · subst h13; exact shapeOf_13 w
  by_cases h14 : op = 14
  · subst h14; exact shapeOf_14 w
  by_cases h15 : op = 15
  · subst h15; exact shapeOf_15 w
  by_cases h16 : op = 16
  · subst h16; exact shapeOf_16 w
  by_cases h17 : op = 17
  · subst h17; exact shapeOf_17 w
  by_cases h18 : op = 18
  · subst h18; exact shapeOf_18 w
  by_cases h19 : op = 19
  · subst h19; exact shapeOf_19 w
  by_cases h20 : op = 20
  · subst h20; exact shapeOf_20 w
  by_cases h21 : op = 21
  · subst h21; exact shapeOf_21 w
  by_cases h22 : op = 22
  · subst h22; exact shapeOf_22 w
  by_cases h23 : op = 23
  · subst h23; exact shapeOf_23 w
  by_cases h24 : op = 24
  · subst h24; exact shapeOf_24 w
  by_cases h26 : op = 26
  · subst h26; exact shapeOf_26 w
  by_cases h27 : op = 27
  · subst h27; exact shapeOf_27 w
  by_cases h28 : op = 28
  · subst h28; exact shapeOf_28 w
  by_cases h29 : op = 29
  · subst h29; exact shapeOf_29 w
  by_cases h30 : op = 30
  · subst h30; exact shapeOf_30 w
  rw [shp_no op h2 h3 h4 h5 h6 h7 h8 h9 h10 h11 h12 h13 h14 h15 h16 h17 h18 h19 h20 h21 h22 h23 h24 h26 h27 h28 h29 h30]
  exact shapeOf_no w op h2 h3 h4 h5 h6 h7 h8 h9 h10 h11 h12 h13 h14 h15 h16 h17 h18 h19 h20 h21 h22 h23 h24 h26 h27 h28 h29 h30
end Go.Proofs.YtdbkjjelaipcfaaDoor
