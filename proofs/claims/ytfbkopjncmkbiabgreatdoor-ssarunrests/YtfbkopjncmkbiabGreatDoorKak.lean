import Derived.Deep.RegionWith
import Derived.Test.YtfbkopjncmkbiabGreatDoorKaj
set_option linter.unusedVariables false
set_option linter.unusedSimpArgs false
namespace Go.Proofs.YtfbkopjncmkbiabGreatDoor
open Go.ChangeShapes Go.WideShapes Go.ChangeAt Go.RowKit Go.Maps
structure Shp where
 count : Int
 a0 : Int
 a1 : Int
 a2 : Int
 gives : Int
def shp (op : Int) : Shp :=
 if 2 <= op /\ op <= 12 then ⟨2, 1, 1, 0, 1⟩ else if op = 13 \/ op = 14 then ⟨2, 0, 0, 0, 2⟩ else if op = 15 \/ op = 16 then ⟨2, 1, 1, 0, 2⟩
 else if op = 17 \/ op = 18 then ⟨1, 1, 0, 0, 1⟩ else if op = 19 then ⟨1, 2, 0, 0, 2⟩ else if op = 20 then ⟨1, 3, 0, 0, 1⟩ else if op = 21 then ⟨2, 3, 1, 0, 1⟩
 else if op = 22 then ⟨3, 3, 1, 1, 0⟩ else if op = 23 then ⟨1, 1, 0, 0, 3⟩ else if op = 24 then ⟨0, 0, 0, 0, 1⟩ else if op = 26 \/ op = 28 \/ op = 29 then ⟨1, 1, 0, 0, 0⟩
 else if op = 27 then ⟨1, 2, 0, 0, 0⟩ else if op = 30 then ⟨2, 1, 1, 0, 0⟩ else ⟨0, 0, 0, 0, 0⟩
def shv (h : Shp) : Value := .agg #[.int .i64 h.count, .int .i64 h.a0, .int .i64 h.a1, .int .i64 h.a2, .int .i64 h.gives]
theorem shapeOf_2 (w : World) : Calls Tryz.prog 133 #[.int .i64 2] w fun e w' => e = .returned (shv (shp 2)) /\ Below w.heap.size w w' := by
 go_enter Tryz.func133, Tryz.ntmps133
 go_wp2
 refine bodyPost_ret (v := shv (shp 2)) ?_ rfl ⟨rfl, (Below.refl _ _).alloc (Nat.le_refl _) _⟩
 exact results_cell_row Tryz.results133 _ _ w.heap.size 157 _ (0, 0) _ rfl (heap_alloc_new _ _) Tryz.underlying157 rfl (by kernel_rfl)
theorem shapeOf_3 (w : World) : Calls Tryz.prog 133 #[.int .i64 3] w fun e w' => e = .returned (shv (shp 3)) /\ Below w.heap.size w w' := by
 go_enter Tryz.func133, Tryz.ntmps133
 go_wp2
 refine bodyPost_ret (v := shv (shp 3)) ?_ rfl ⟨rfl, (Below.refl _ _).alloc (Nat.le_refl _) _⟩
 exact results_cell_row Tryz.results133 _ _ w.heap.size 157 _ (0, 0) _ rfl (heap_alloc_new _ _) Tryz.underlying157 rfl (by kernel_rfl)
theorem shapeOf_4 (w : World) : Calls Tryz.prog 133 #[.int .i64 4] w fun e w' => e = .returned (shv (shp 4)) /\ Below w.heap.size w w' := by
 go_enter Tryz.func133, Tryz.ntmps133
 go_wp2
 refine bodyPost_ret (v := shv (shp 4)) ?_ rfl ⟨rfl, (Below.refl _ _).alloc (Nat.le_refl _) _⟩
 exact results_cell_row Tryz.results133 _ _ w.heap.size 157 _ (0, 0) _ rfl (heap_alloc_new _ _) Tryz.underlying157 rfl (by kernel_rfl)
theorem shapeOf_5 (w : World) : Calls Tryz.prog 133 #[.int .i64 5] w fun e w' => e = .returned (shv (shp 5)) /\ Below w.heap.size w w' := by
 go_enter Tryz.func133, Tryz.ntmps133
 go_wp2
 refine bodyPost_ret (v := shv (shp 5)) ?_ rfl ⟨rfl, (Below.refl _ _).alloc (Nat.le_refl _) _⟩
 exact results_cell_row Tryz.results133 _ _ w.heap.size 157 _ (0, 0) _ rfl (heap_alloc_new _ _) Tryz.underlying157 rfl (by kernel_rfl)
theorem shapeOf_6 (w : World) : Calls Tryz.prog 133 #[.int .i64 6] w fun e w' => e = .returned (shv (shp 6)) /\ Below w.heap.size w w' := by
 go_enter Tryz.func133, Tryz.ntmps133
 go_wp2
 refine bodyPost_ret (v := shv (shp 6)) ?_ rfl ⟨rfl, (Below.refl _ _).alloc (Nat.le_refl _) _⟩
 exact results_cell_row Tryz.results133 _ _ w.heap.size 157 _ (0, 0) _ rfl (heap_alloc_new _ _) Tryz.underlying157 rfl (by kernel_rfl)
theorem shapeOf_7 (w : World) : Calls Tryz.prog 133 #[.int .i64 7] w fun e w' => e = .returned (shv (shp 7)) /\ Below w.heap.size w w' := by
 go_enter Tryz.func133, Tryz.ntmps133
 go_wp2
 refine bodyPost_ret (v := shv (shp 7)) ?_ rfl ⟨rfl, (Below.refl _ _).alloc (Nat.le_refl _) _⟩
 exact results_cell_row Tryz.results133 _ _ w.heap.size 157 _ (0, 0) _ rfl (heap_alloc_new _ _) Tryz.underlying157 rfl (by kernel_rfl)
theorem shapeOf_8 (w : World) : Calls Tryz.prog 133 #[.int .i64 8] w fun e w' => e = .returned (shv (shp 8)) /\ Below w.heap.size w w' := by
 go_enter Tryz.func133, Tryz.ntmps133
 go_wp2
 refine bodyPost_ret (v := shv (shp 8)) ?_ rfl ⟨rfl, (Below.refl _ _).alloc (Nat.le_refl _) _⟩
 exact results_cell_row Tryz.results133 _ _ w.heap.size 157 _ (0, 0) _ rfl (heap_alloc_new _ _) Tryz.underlying157 rfl (by kernel_rfl)
theorem shapeOf_9 (w : World) : Calls Tryz.prog 133 #[.int .i64 9] w fun e w' => e = .returned (shv (shp 9)) /\ Below w.heap.size w w' := by
 go_enter Tryz.func133, Tryz.ntmps133
 go_wp2
 refine bodyPost_ret (v := shv (shp 9)) ?_ rfl ⟨rfl, (Below.refl _ _).alloc (Nat.le_refl _) _⟩
 exact results_cell_row Tryz.results133 _ _ w.heap.size 157 _ (0, 0) _ rfl (heap_alloc_new _ _) Tryz.underlying157 rfl (by kernel_rfl)
theorem shapeOf_10 (w : World) : Calls Tryz.prog 133 #[.int .i64 10] w fun e w' => e = .returned (shv (shp 10)) /\ Below w.heap.size w w' := by
 go_enter Tryz.func133, Tryz.ntmps133
 go_wp2
 refine bodyPost_ret (v := shv (shp 10)) ?_ rfl ⟨rfl, (Below.refl _ _).alloc (Nat.le_refl _) _⟩
 exact results_cell_row Tryz.results133 _ _ w.heap.size 157 _ (0, 0) _ rfl (heap_alloc_new _ _) Tryz.underlying157 rfl (by kernel_rfl)
theorem shapeOf_11 (w : World) : Calls Tryz.prog 133 #[.int .i64 11] w fun e w' => e = .returned (shv (shp 11)) /\ Below w.heap.size w w' := by
 go_enter Tryz.func133, Tryz.ntmps133
 go_wp2
 refine bodyPost_ret (v := shv (shp 11)) ?_ rfl ⟨rfl, (Below.refl _ _).alloc (Nat.le_refl _) _⟩
 exact results_cell_row Tryz.results133 _ _ w.heap.size 157 _ (0, 0) _ rfl (heap_alloc_new _ _) Tryz.underlying157 rfl (by kernel_rfl)
theorem shapeOf_12 (w : World) : Calls Tryz.prog 133 #[.int .i64 12] w fun e w' => e = .returned (shv (shp 12)) /\ Below w.heap.size w w' := by
 go_enter Tryz.func133, Tryz.ntmps133
 go_wp2
 refine bodyPost_ret (v := shv (shp 12)) ?_ rfl ⟨rfl, (Below.refl _ _).alloc (Nat.le_refl _) _⟩
 exact results_cell_row Tryz.results133 _ _ w.heap.size 157 _ (0, 0) _ rfl (heap_alloc_new _ _) Tryz.underlying157 rfl (by kernel_rfl)
theorem shapeOf_13 (w : World) : Calls Tryz.prog 133 #[.int .i64 13] w fun e w' => e = .returned (shv (shp 13)) /\ Below w.heap.size w w' := by
 go_enter Tryz.func133, Tryz.ntmps133
 go_wp2
 refine bodyPost_ret (v := shv (shp 13)) ?_ rfl ⟨rfl, (Below.refl _ _).alloc (Nat.le_refl _) _⟩
 exact results_cell_row Tryz.results133 _ _ w.heap.size 157 _ (0, 0) _ rfl (heap_alloc_new _ _) Tryz.underlying157 rfl (by kernel_rfl)
theorem shapeOf_14 (w : World) : Calls Tryz.prog 133 #[.int .i64 14] w fun e w' => e = .returned (shv (shp 14)) /\ Below w.heap.size w w' := by
 go_enter Tryz.func133, Tryz.ntmps133
 go_wp2
 refine bodyPost_ret (v := shv (shp 14)) ?_ rfl ⟨rfl, (Below.refl _ _).alloc (Nat.le_refl _) _⟩
 exact results_cell_row Tryz.results133 _ _ w.heap.size 157 _ (0, 0) _ rfl (heap_alloc_new _ _) Tryz.underlying157 rfl (by kernel_rfl)
theorem shapeOf_15 (w : World) : Calls Tryz.prog 133 #[.int .i64 15] w fun e w' => e = .returned (shv (shp 15)) /\ Below w.heap.size w w' := by
 go_enter Tryz.func133, Tryz.ntmps133
 go_wp2
 refine bodyPost_ret (v := shv (shp 15)) ?_ rfl ⟨rfl, (Below.refl _ _).alloc (Nat.le_refl _) _⟩
 exact results_cell_row Tryz.results133 _ _ w.heap.size 157 _ (0, 0) _ rfl (heap_alloc_new _ _) Tryz.underlying157 rfl (by kernel_rfl)
theorem shapeOf_16 (w : World) : Calls Tryz.prog 133 #[.int .i64 16] w fun e w' => e = .returned (shv (shp 16)) /\ Below w.heap.size w w' := by
 go_enter Tryz.func133, Tryz.ntmps133
 go_wp2
 refine bodyPost_ret (v := shv (shp 16)) ?_ rfl ⟨rfl, (Below.refl _ _).alloc (Nat.le_refl _) _⟩
 exact results_cell_row Tryz.results133 _ _ w.heap.size 157 _ (0, 0) _ rfl (heap_alloc_new _ _) Tryz.underlying157 rfl (by kernel_rfl)
theorem shapeOf_17 (w : World) : Calls Tryz.prog 133 #[.int .i64 17] w fun e w' => e = .returned (shv (shp 17)) /\ Below w.heap.size w w' := by
 go_enter Tryz.func133, Tryz.ntmps133
 go_wp2
 refine bodyPost_ret (v := shv (shp 17)) ?_ rfl ⟨rfl, (Below.refl _ _).alloc (Nat.le_refl _) _⟩
 exact results_cell_row Tryz.results133 _ _ w.heap.size 157 _ (0, 0) _ rfl (heap_alloc_new _ _) Tryz.underlying157 rfl (by kernel_rfl)
theorem shapeOf_18 (w : World) : Calls Tryz.prog 133 #[.int .i64 18] w fun e w' => e = .returned (shv (shp 18)) /\ Below w.heap.size w w' := by
 go_enter Tryz.func133, Tryz.ntmps133
 go_wp2
 refine bodyPost_ret (v := shv (shp 18)) ?_ rfl ⟨rfl, (Below.refl _ _).alloc (Nat.le_refl _) _⟩
 exact results_cell_row Tryz.results133 _ _ w.heap.size 157 _ (0, 0) _ rfl (heap_alloc_new _ _) Tryz.underlying157 rfl (by kernel_rfl)
theorem shapeOf_19 (w : World) : Calls Tryz.prog 133 #[.int .i64 19] w fun e w' => e = .returned (shv (shp 19)) /\ Below w.heap.size w w' := by
 go_enter Tryz.func133, Tryz.ntmps133
 go_wp2
 refine bodyPost_ret (v := shv (shp 19)) ?_ rfl ⟨rfl, (Below.refl _ _).alloc (Nat.le_refl _) _⟩
 exact results_cell_row Tryz.results133 _ _ w.heap.size 157 _ (0, 0) _ rfl (heap_alloc_new _ _) Tryz.underlying157 rfl (by kernel_rfl)
theorem shapeOf_20 (w : World) : Calls Tryz.prog 133 #[.int .i64 20] w fun e w' => e = .returned (shv (shp 20)) /\ Below w.heap.size w w' := by
 go_enter Tryz.func133, Tryz.ntmps133
 go_wp2
 refine bodyPost_ret (v := shv (shp 20)) ?_ rfl ⟨rfl, (Below.refl _ _).alloc (Nat.le_refl _) _⟩
 exact results_cell_row Tryz.results133 _ _ w.heap.size 157 _ (0, 0) _ rfl (heap_alloc_new _ _) Tryz.underlying157 rfl (by kernel_rfl)
theorem shapeOf_21 (w : World) : Calls Tryz.prog 133 #[.int .i64 21] w fun e w' => e = .returned (shv (shp 21)) /\ Below w.heap.size w w' := by
 go_enter Tryz.func133, Tryz.ntmps133
 go_wp2
 refine bodyPost_ret (v := shv (shp 21)) ?_ rfl ⟨rfl, (Below.refl _ _).alloc (Nat.le_refl _) _⟩
 exact results_cell_row Tryz.results133 _ _ w.heap.size 157 _ (0, 0) _ rfl (heap_alloc_new _ _) Tryz.underlying157 rfl (by kernel_rfl)
theorem shapeOf_22 (w : World) : Calls Tryz.prog 133 #[.int .i64 22] w fun e w' => e = .returned (shv (shp 22)) /\ Below w.heap.size w w' := by
 go_enter Tryz.func133, Tryz.ntmps133
 go_wp2
 refine bodyPost_ret (v := shv (shp 22)) ?_ rfl ⟨rfl, (Below.refl _ _).alloc (Nat.le_refl _) _⟩
 exact results_cell_row Tryz.results133 _ _ w.heap.size 157 _ (0, 0) _ rfl (heap_alloc_new _ _) Tryz.underlying157 rfl (by kernel_rfl)
theorem shapeOf_23 (w : World) : Calls Tryz.prog 133 #[.int .i64 23] w fun e w' => e = .returned (shv (shp 23)) /\ Below w.heap.size w w' := by
 go_enter Tryz.func133, Tryz.ntmps133
 go_wp2
 refine bodyPost_ret (v := shv (shp 23)) ?_ rfl ⟨rfl, (Below.refl _ _).alloc (Nat.le_refl _) _⟩
 exact results_cell_row Tryz.results133 _ _ w.heap.size 157 _ (0, 0) _ rfl (heap_alloc_new _ _) Tryz.underlying157 rfl (by kernel_rfl)
theorem shapeOf_24 (w : World) : Calls Tryz.prog 133 #[.int .i64 24] w fun e w' => e = .returned (shv (shp 24)) /\ Below w.heap.size w w' := by
 go_enter Tryz.func133, Tryz.ntmps133
 go_wp2
 refine bodyPost_ret (v := shv (shp 24)) ?_ rfl ⟨rfl, (Below.refl _ _).alloc (Nat.le_refl _) _⟩
 exact results_cell_row Tryz.results133 _ _ w.heap.size 157 _ (0, 0) _ rfl (heap_alloc_new _ _) Tryz.underlying157 rfl (by kernel_rfl)
theorem shapeOf_26 (w : World) : Calls Tryz.prog 133 #[.int .i64 26] w fun e w' => e = .returned (shv (shp 26)) /\ Below w.heap.size w w' := by
 go_enter Tryz.func133, Tryz.ntmps133
 go_wp2
 refine bodyPost_ret (v := shv (shp 26)) ?_ rfl ⟨rfl, (Below.refl _ _).alloc (Nat.le_refl _) _⟩
 exact results_cell_row Tryz.results133 _ _ w.heap.size 157 _ (0, 0) _ rfl (heap_alloc_new _ _) Tryz.underlying157 rfl (by kernel_rfl)
theorem shapeOf_27 (w : World) : Calls Tryz.prog 133 #[.int .i64 27] w fun e w' => e = .returned (shv (shp 27)) /\ Below w.heap.size w w' := by
 go_enter Tryz.func133, Tryz.ntmps133
 go_wp2
 refine bodyPost_ret (v := shv (shp 27)) ?_ rfl ⟨rfl, (Below.refl _ _).alloc (Nat.le_refl _) _⟩
 exact results_cell_row Tryz.results133 _ _ w.heap.size 157 _ (0, 0) _ rfl (heap_alloc_new _ _) Tryz.underlying157 rfl (by kernel_rfl)
theorem shapeOf_28 (w : World) : Calls Tryz.prog 133 #[.int .i64 28] w fun e w' => e = .returned (shv (shp 28)) /\ Below w.heap.size w w' := by
 go_enter Tryz.func133, Tryz.ntmps133
 go_wp2
 refine bodyPost_ret (v := shv (shp 28)) ?_ rfl ⟨rfl, (Below.refl _ _).alloc (Nat.le_refl _) _⟩
 exact results_cell_row Tryz.results133 _ _ w.heap.size 157 _ (0, 0) _ rfl (heap_alloc_new _ _) Tryz.underlying157 rfl (by kernel_rfl)
theorem shapeOf_29 (w : World) : Calls Tryz.prog 133 #[.int .i64 29] w fun e w' => e = .returned (shv (shp 29)) /\ Below w.heap.size w w' := by
 go_enter Tryz.func133, Tryz.ntmps133
 go_wp2
 refine bodyPost_ret (v := shv (shp 29)) ?_ rfl ⟨rfl, (Below.refl _ _).alloc (Nat.le_refl _) _⟩
 exact results_cell_row Tryz.results133 _ _ w.heap.size 157 _ (0, 0) _ rfl (heap_alloc_new _ _) Tryz.underlying157 rfl (by kernel_rfl)
theorem shapeOf_30 (w : World) : Calls Tryz.prog 133 #[.int .i64 30] w fun e w' => e = .returned (shv (shp 30)) /\ Below w.heap.size w w' := by
 go_enter Tryz.func133, Tryz.ntmps133
 go_wp2
 refine bodyPost_ret (v := shv (shp 30)) ?_ rfl ⟨rfl, (Below.refl _ _).alloc (Nat.le_refl _) _⟩
 exact results_cell_row Tryz.results133 _ _ w.heap.size 157 _ (0, 0) _ rfl (heap_alloc_new _ _) Tryz.underlying157 rfl (by kernel_rfl)
theorem shapeOf_no (w : World) (op : Int) (h2 : ¬ op = 2) (h3 : ¬ op = 3) (h4 : ¬ op = 4) (h5 : ¬ op = 5) (h6 : ¬ op = 6) (h7 : ¬ op = 7) (h8 : ¬ op = 8) (h9 : ¬ op = 9) (h10 : ¬ op = 10) (h11 : ¬ op = 11) (h12 : ¬ op = 12) (h13 : ¬ op = 13) (h14 : ¬ op = 14) (h15 : ¬ op = 15) (h16 : ¬ op = 16) (h17 : ¬ op = 17) (h18 : ¬ op = 18) (h19 : ¬ op = 19) (h20 : ¬ op = 20) (h21 : ¬ op = 21) (h22 : ¬ op = 22) (h23 : ¬ op = 23) (h24 : ¬ op = 24) (h26 : ¬ op = 26) (h27 : ¬ op = 27) (h28 : ¬ op = 28) (h29 : ¬ op = 29) (h30 : ¬ op = 30) : Calls Tryz.prog 133 #[.int .i64 op] w fun e w' => e = .returned (shv ⟨0, 0, 0, 0, 0⟩) /\ Below w.heap.size w w' := by
 go_enter Tryz.func133, Tryz.ntmps133
 go_wp2
 refine bodyPost_ret (v := shv ⟨0, 0, 0, 0, 0⟩) ?_ rfl ⟨rfl, (Below.refl _ _).alloc (Nat.le_refl _) _⟩
 exact results_cell_row Tryz.results133 _ _ w.heap.size 157 _ (0, 0) _ rfl (heap_alloc_new _ _) Tryz.underlying157 rfl (by kernel_rfl)
theorem shp_no (op : Int) (h2 : ¬ op = 2) (h3 : ¬ op = 3) (h4 : ¬ op = 4) (h5 : ¬ op = 5) (h6 : ¬ op = 6) (h7 : ¬ op = 7) (h8 : ¬ op = 8) (h9 : ¬ op = 9) (h10 : ¬ op = 10) (h11 : ¬ op = 11) (h12 : ¬ op = 12) (h13 : ¬ op = 13) (h14 : ¬ op = 14) (h15 : ¬ op = 15) (h16 : ¬ op = 16) (h17 : ¬ op = 17) (h18 : ¬ op = 18) (h19 : ¬ op = 19) (h20 : ¬ op = 20) (h21 : ¬ op = 21) (h22 : ¬ op = 22) (h23 : ¬ op = 23) (h24 : ¬ op = 24) (h26 : ¬ op = 26) (h27 : ¬ op = 27) (h28 : ¬ op = 28) (h29 : ¬ op = 29) (h30 : ¬ op = 30) : shp op = ⟨0, 0, 0, 0, 0⟩ := by
 unfold shp
 rw [if_neg (by omega), if_neg (by omega), if_neg (by omega), if_neg (by omega), if_neg (by omega), if_neg (by omega), if_neg (by omega), if_neg (by omega), if_neg (by omega), if_neg (by omega), if_neg (by omega), if_neg (by omega), if_neg (by omega)]
theorem shapeOf_any (w : World) (op : Int) : Calls Tryz.prog 133 #[.int .i64 op] w fun e w' => e = .returned (shv (shp op)) /\ Below w.heap.size w w' := by
 by_cases h2 : op = 2
 ·subst h2; exact shapeOf_2 w
 by_cases h3 : op = 3
 ·subst h3; exact shapeOf_3 w
 by_cases h4 : op = 4
 ·subst h4; exact shapeOf_4 w
 by_cases h5 : op = 5
 ·subst h5; exact shapeOf_5 w
 by_cases h6 : op = 6
 ·subst h6; exact shapeOf_6 w
 by_cases h7 : op = 7
 ·subst h7; exact shapeOf_7 w
 by_cases h8 : op = 8
 ·subst h8; exact shapeOf_8 w
 by_cases h9 : op = 9
 ·subst h9; exact shapeOf_9 w
 by_cases h10 : op = 10
 ·subst h10; exact shapeOf_10 w
 by_cases h11 : op = 11
 ·subst h11; exact shapeOf_11 w
 by_cases h12 : op = 12
 ·subst h12; exact shapeOf_12 w
 by_cases h13 : op = 13
 ·subst h13; exact shapeOf_13 w
 by_cases h14 : op = 14
 ·subst h14; exact shapeOf_14 w
 by_cases h15 : op = 15
 ·subst h15; exact shapeOf_15 w
 by_cases h16 : op = 16
 ·subst h16; exact shapeOf_16 w
 by_cases h17 : op = 17
 ·subst h17; exact shapeOf_17 w
 by_cases h18 : op = 18
 ·subst h18; exact shapeOf_18 w
 by_cases h19 : op = 19
 ·subst h19; exact shapeOf_19 w
 by_cases h20 : op = 20
 ·subst h20; exact shapeOf_20 w
 by_cases h21 : op = 21
 ·subst h21; exact shapeOf_21 w
 by_cases h22 : op = 22
 ·subst h22; exact shapeOf_22 w
 by_cases h23 : op = 23
 ·subst h23; exact shapeOf_23 w
 by_cases h24 : op = 24
 ·subst h24; exact shapeOf_24 w
 by_cases h26 : op = 26
 ·subst h26; exact shapeOf_26 w
 by_cases h27 : op = 27
 ·subst h27; exact shapeOf_27 w
 by_cases h28 : op = 28
 ·subst h28; exact shapeOf_28 w
 by_cases h29 : op = 29
 ·subst h29; exact shapeOf_29 w
 by_cases h30 : op = 30
 ·subst h30; exact shapeOf_30 w
 rw [shp_no op h2 h3 h4 h5 h6 h7 h8 h9 h10 h11 h12 h13 h14 h15 h16 h17 h18 h19 h20 h21 h22 h23 h24 h26 h27 h28 h29 h30]
 exact shapeOf_no w op h2 h3 h4 h5 h6 h7 h8 h9 h10 h11 h12 h13 h14 h15 h16 h17 h18 h19 h20 h21 h22 h23 h24 h26 h27 h28 h29 h30
def immP (n : Nat) (op imm : Int) : Bool :=
 if op = 1 \/ op = 33 then true else if op = 25 then wi n imm else if op = 28 \/ op = 29 \/ op = 30 then decide (1 <= imm /\ imm <= 5) else decide (imm = 0)
def countP (FS : List Fu) (op imm : Int) (k : Nat) : Bool :=
 if op = 32 then true else if op = 25 then decide (k = (FS.getD imm.toNat noF).params.length) else decide ((k : Int) = (shp op).count)
def valueP (f : Fu) (FS : List Fu) (v : Vl) : Bool := isOpn v.op && (immP FS.length v.op v.imm && (countP FS v.op v.imm v.args.length && (v.args.all (wi f.vals.length) && isTn v.ty)))
theorem immFits_any (w : World) {s : ByteArray} {pa : Option Addr} {pn pc : Nat} {r : Int} {va : Option Addr} {vn vc : Nat} {ba : Option Addr} {bn bc : Nat} {fa : Option Addr} {fn fc : Nat} (op ty imm : Int) (ka : Option Addr) (kl kc : Nat) :
 Calls Tryz.prog 121 #[.agg #[.string s, .slice pa pn pc, .int .i64 r, .slice va vn vc, .slice ba bn bc, .slice fa fn fc], .agg #[.int .i64 op, .int .i64 ty, .int .i64 imm, .slice ka kl kc]] w fun e w' => e = .returned (.bool (immP fn op imm)) /\ Below w.heap.size w w' := by
 have hnew : Below w.heap.size w ((w.alloc (.cells #[.string s, .slice pa pn pc, .int .i64 r, .slice va vn vc, .slice ba bn bc, .slice fa fn fc] 77)).alloc (.cells #[.int .i64 op, .int .i64 ty, .int .i64 imm, .slice ka kl kc] 25)) := ((Below.refl _ _).alloc (Nat.le_refl _) _).alloc (by simp) _
 unfold immP
 by_cases h1 : op = 1
 ·subst h1
  rw [if_pos (.inl rfl)]
  go_enter Tryz.func121, Tryz.ntmps121
  go_wp2_with fail
  go_ret
  exact ⟨rfl, hnew⟩
 by_cases h33 : op = 33
 ·subst h33
  rw [if_pos (.inr rfl)]
  go_enter Tryz.func121, Tryz.ntmps121
  go_wp2_with fail
  go_ret
  exact ⟨rfl, hnew⟩
 rw [if_neg (by omega)]
 by_cases h25 : op = 25
 ·subst h25
  rw [if_pos rfl]
  generalize hR : wi fn imm = R
  go_enter Tryz.func121, Tryz.ntmps121
  go_wp2_with (go_at_call 76; refine (withinF_at _ _ _ _ _ _ hR).mono ?_; rintro e w' ⟨rfl, rfl⟩)
  go_ret
  exact ⟨rfl, hnew⟩
 rw [if_neg h25]
 by_cases h3 : op = 28 \/ op = 29 \/ op = 30
 ·rw [if_pos h3]
  by_cases i1 : 1 <= imm
  ·rcases h3 with rfl | rfl | rfl
   all_goals
    go_enter Tryz.func121, Tryz.ntmps121
    go_wp2_with fail
    go_ret
    exact ⟨by simp [i1], hnew⟩
  ·rcases h3 with rfl | rfl | rfl
   all_goals
    go_enter Tryz.func121, Tryz.ntmps121
    go_wp2_with fail
    go_ret
    exact ⟨by simp; omega, hnew⟩
 ·rw [if_neg h3]
  have h28 : ¬ op = 28 := by omega
  have h29 : ¬ op = 29 := by omega
  have h30 : ¬ op = 30 := by omega
  go_enter Tryz.func121, Tryz.ntmps121
  go_wp2_with fail
  go_ret
  exact ⟨by first | rfl | (simp; done) | (simp; omega), hnew⟩
theorem fld_count (a b c d e : Int) (w : World) : (Instr.field 157 (.agg #[.int .i64 a, .int .i64 b, .int .i64 c, .int .i64 d, .int .i64 e]) 0).run Tryz.prog w = .ok (.int .i64 a) w := by kernel_rfl
theorem Fus.at {w ao cap} {FS : List Fu} (h : Fus w ao cap FS) {j : Nat} (hj : j < FS.length) : ∃ (b o : Nat) (ka : Option Addr) (kc : Nat) (la : Option Addr) (lc : Nat) (ma : Option Addr) (mc : Nat), ao = some ⟨b, o, none⟩ /\ b < w.heap.size /\ w.cell? ⟨b, o + j * 5, none⟩ = some (.string FS[j].name) /\ w.cell? ⟨b, o + j * 5 + 1, none⟩ = some (.slice ka FS[j].params.length kc) /\ w.cell? ⟨b, o + j * 5 + 2, none⟩ = some (.int .i64 FS[j].result)
 /\ w.cell? ⟨b, o + j * 5 + 3, none⟩ = some (.slice la FS[j].vals.length lc) /\ w.cell? ⟨b, o + j * 5 + 4, none⟩ = some (.slice ma FS[j].blks.length mc) /\ Ints w ka kc FS[j].params /\ Vls w la lc FS[j].vals /\ Bks w ma mc FS[j].blks := by
 obtain ⟨b, o, e, hlt, hA⟩ := h.out (by intro e; rw [e] at hj; simp at hj)
 obtain ⟨ka, kc, la, lc, ma, mc, c0, c1, c2, c3, c4, h1, h2, h3⟩ := (hA j hj).out
 exact ⟨b, o, ka, kc, la, lc, ma, mc, e, hlt, c0, c1, c2, c3, c4, h1, h2, h3⟩
set_option maxRecDepth 100000 in
set_option maxHeartbeats 4000000 in
theorem countFits_any (w : World) {s : ByteArray} {pa : Option Addr} {pn pc : Nat} {r : Int} {va : Option Addr} {vn vc : Nat} {ba : Option Addr} {bn bc : Nat} {fa : Option Addr} {fn fc : Nat} {f : Fu} {FS : List Fu} (C : Ctx w s pa pn pc r va vn vc ba bn bc fa fn fc f FS) (op ty imm : Int) (ka : Option Addr) (kl kc : Nat) (hi : op = 25 -> wi fn imm = true) :
 Calls Tryz.prog 122 #[.agg #[.string s, .slice pa pn pc, .int .i64 r, .slice va vn vc, .slice ba bn bc, .slice fa fn fc], .agg #[.int .i64 op, .int .i64 ty, .int .i64 imm, .slice ka kl kc]] w fun e w' => e = .returned (.bool (countP FS op imm kl)) /\ Below w.heap.size w w' := by
 have hnew : Below w.heap.size w ((w.alloc (.cells #[.string s, .slice pa pn pc, .int .i64 r, .slice va vn vc, .slice ba bn bc, .slice fa fn fc] 77)).alloc (.cells #[.int .i64 op, .int .i64 ty, .int .i64 imm, .slice ka kl kc] 25)) := ((Below.refl _ _).alloc (Nat.le_refl _) _).alloc (by simp) _
 have C2 := C.below hnew (Nat.le_refl _)
 unfold countP
 by_cases h32 : op = 32
 ·subst h32
  rw [if_pos rfl]
  clear C C2 hi
  go_enter Tryz.func122, Tryz.ntmps122
  go_wp2_with fail
  go_ret
  exact ⟨rfl, hnew⟩
 rw [if_neg h32]
 by_cases h25 : op = 25
 ·subst h25
  rw [if_pos rfl]
  have hw := hi rfl
  simp only [wi, decide_eq_true_eq] at hw
  obtain ⟨j, rfl⟩ : ∃ j : Nat, imm = j := ⟨imm.toNat, by omega⟩
  have hj : j < FS.length := by have := C.ef; omega
  have hjn : j < fn := by omega
  have hfn : fn <= 9223372036854775807 := by have := C.hf.le; have := C.hf.mx; have := C.ef; omega
  obtain ⟨b, o, xa, xc, la, lc, ma, mc, rfl, hlt, c0, c1, c2, c3, c4, g1, g2, g3⟩ := C2.hf.at hj
  have hx : (FS.getD (j : Int).toNat noF).params.length = FS[j].params.length := by simp [hj]
  rw [hx]
  generalize FS[j].params.length = n at c1
  clear C C2 hi c0 c2 c3 c4 g1 g2 g3 hx hw hj
  go_enter Tryz.func122, Tryz.ntmps122
  go_wp2_with fail
  go_quiet (fail)
  go_wp2_with fail
  go_ret
  refine ⟨?_, below_drawn hnew _⟩
  ·by_cases e : kl = n
   ·subst e; simp
   ·have : ¬ (kl : Int) = n := by omega
    simp [e, this]
 ·rw [if_neg h25]
  generalize hH : shp op = H
  clear C C2 hi
  have hsh : ∀ w, Calls Tryz.prog 133 #[.int .i64 op] w fun e w' => e = .returned (.agg #[.int .i64 H.count, .int .i64 H.a0, .int .i64 H.a1, .int .i64 H.a2, .int .i64 H.gives]) /\ Below w.heap.size w w' := fun w => by
   have := shapeOf_any w op
   rw [hH] at this
   exact this
  have HS : Hid _ := hsh
  clear hsh
  have hfl := fld_count H.count H.a0 H.a1 H.a2 H.gives
  go_enter Tryz.func122, Tryz.ntmps122
  go_wp2_with fail
  go_region_with (go_at_call 133; refine (HS.out _).mono ?_; rintro e w' ⟨rfl, hb'⟩; have d3 : w'.cell? ⟨w.heap.size + 1, 3, none⟩ = some (.slice ka kl kc) := by (rw [hb'.cell (p := ⟨w.heap.size + 1, 3, none⟩) (by simp)]; simp))
  all_goals go_wp2_with fail
  all_goals go_ret
  all_goals first
   | exact ⟨rfl, hnew.trans (hb'.mono (by simp; omega))⟩
   | exact ⟨rfl, below_drawn (hnew.trans (hb'.mono (by simp; omega))) _⟩
   | exact ⟨rfl, (hnew.drew.trans (hb'.mono (by simp; omega)))⟩
   | exact ⟨rfl, (below_drawn hnew _).trans (hb'.mono (by simp; omega))⟩
theorem fcells {w : World} {g : Nat} {s : ByteArray} {pa : Option Addr} {pn pc : Nat} {r : Int} {va : Option Addr} {vn vc : Nat} {ba : Option Addr} {bn bc : Nat} {fa : Option Addr} {fn fc : Nat} (h : w.heap[g]? = some (.cells #[.string s, .slice pa pn pc, .int .i64 r, .slice va vn vc, .slice ba bn bc, .slice fa fn fc] 77 (0, 0))) : w.cell? ⟨g, 0, none⟩ = some (.string s) /\ w.cell? ⟨g, 1, none⟩ = some (.slice pa pn pc) /\ w.cell? ⟨g, 2, none⟩ = some (.int .i64 r) /\ w.cell? ⟨g, 3, none⟩ = some (.slice va vn vc) /\ w.cell? ⟨g, 4, none⟩ = some (.slice ba bn bc) /\ w.cell? ⟨g, 5, none⟩ = some (.slice fa fn fc) :=
 ⟨cell_arr h rfl, cell_arr h rfl, cell_arr h rfl, cell_arr h rfl, cell_arr h rfl, cell_arr h rfl⟩
theorem vcells {w : World} {g : Nat} {op ty imm : Int} {ka : Option Addr} {kl kc : Nat} (h : w.heap[g]? = some (.cells #[.int .i64 op, .int .i64 ty, .int .i64 imm, .slice ka kl kc] 25 (0, 0))) : w.cell? ⟨g, 0, none⟩ = some (.int .i64 op) /\ w.cell? ⟨g, 1, none⟩ = some (.int .i64 ty) /\ w.cell? ⟨g, 2, none⟩ = some (.int .i64 imm) /\ w.cell? ⟨g, 3, none⟩ = some (.slice ka kl kc) :=
 ⟨cell_arr h rfl, cell_arr h rfl, cell_arr h rfl, cell_arr h rfl⟩
theorem bcells {w : World} {g : Nat} {ka : Option Addr} {kl kc : Nat} {la : Option Addr} {ll lc : Nat} {kd vl : Int} {ma : Option Addr} {ml mc : Nat} {na : Option Addr} {nl nc : Nat} (h : w.heap[g]? = some (.cells #[.slice ka kl kc, .slice la ll lc, .int .i64 kd, .int .i64 vl, .slice ma ml mc, .slice na nl nc] 30 (0, 0))) : w.cell? ⟨g, 0, none⟩ = some (.slice ka kl kc) /\ w.cell? ⟨g, 1, none⟩ = some (.slice la ll lc) /\ w.cell? ⟨g, 2, none⟩ = some (.int .i64 kd) /\ w.cell? ⟨g, 3, none⟩ = some (.int .i64 vl) /\ w.cell? ⟨g, 4, none⟩ = some (.slice ma ml mc) /\ w.cell? ⟨g, 5, none⟩ = some (.slice na nl nc) :=
 ⟨cell_arr h rfl, cell_arr h rfl, cell_arr h rfl, cell_arr h rfl, cell_arr h rfl, cell_arr h rfl⟩
theorem tcells {w : World} {g : Nat} {kd vl : Int} {ma : Option Addr} {ml mc : Nat} (h : w.heap[g]? = some (.cells #[.int .i64 kd, .int .i64 vl, .slice ma ml mc] 28 (0, 0))) : w.cell? ⟨g, 0, none⟩ = some (.int .i64 kd) /\ w.cell? ⟨g, 1, none⟩ = some (.int .i64 vl) /\ w.cell? ⟨g, 2, none⟩ = some (.slice ma ml mc) :=
 ⟨cell_arr h rfl, cell_arr h rfl, cell_arr h rfl⟩
structure Aft (w : World) (A B : Obj) (w' : World) : Prop where
 b : Below (w.heap.size + 1 + 1) ((w.alloc A).alloc B) w'
theorem Aft.refl (w : World) (A B : Obj) : Aft w A B ((w.alloc A).alloc B) := ⟨Below.refl _ _⟩
theorem Aft.low {w A B w'} (h : Aft w A B w') : Below w.heap.size w w' := (((Below.refl _ _).alloc (Nat.le_refl _) _).alloc (by simp) _).trans (h.b.mono (by omega))
theorem Aft.size {w A B w'} (h : Aft w A B w') : w.heap.size + 1 + 1 <= w'.heap.size := by have := h.b.size; simpa using this
theorem Aft.next {w A B w' w''} (h : Aft w A B w') (hb : Below w'.heap.size w' w'') : Aft w A B w'' := ⟨h.b.trans (hb.mono h.size)⟩
theorem Aft.drawn {w A B w'} (h : Aft w A B w') (q : Nat) : Aft w A B (w'.drewN q) := ⟨below_drawn h.b q⟩
theorem Aft.one {w A B w'} (h : Aft w A B w') : w'.heap[w.heap.size]? = some A := by rw [h.b.block _ (by omega), heap_alloc_old _ _ (by simp)]; exact heap_alloc_new w A
theorem Aft.two {w A B w'} (h : Aft w A B w') : w'.heap[w.heap.size + 1]? = some B := by rw [h.b.block _ (by omega)]; simpa using heap_alloc_new (w.alloc A) B
theorem isOp_at (w : World) (t : Int) (R : Bool) (h : isOpn t = R) : Calls Tryz.prog 120 #[.int .i64 t] w fun e w' => e = .returned (.bool R) /\ w' = w := by subst h; exact isOp_any w t
theorem isTn_at (w : World) (t : Int) (R : Bool) (h : isTn t = R) : Calls Tryz.prog 77 #[.int .i64 t] w fun e w' => e = .returned (.bool R) /\ w' = w := by subst h; exact isTypeOrNone_any w t
theorem immFits_at (w : World) {s : ByteArray} {pa : Option Addr} {pn pc : Nat} {r : Int} {va : Option Addr} {vn vc : Nat} {ba : Option Addr} {bn bc : Nat} {fa : Option Addr} {fn fc : Nat} (op ty imm : Int) (ka : Option Addr) (kl kc : Nat) (R : Bool) (h : immP fn op imm = R) :
 Calls Tryz.prog 121 #[.agg #[.string s, .slice pa pn pc, .int .i64 r, .slice va vn vc, .slice ba bn bc, .slice fa fn fc], .agg #[.int .i64 op, .int .i64 ty, .int .i64 imm, .slice ka kl kc]] w fun e w' => e = .returned (.bool R) /\ Below w.heap.size w w' := by subst h; exact immFits_any w op ty imm ka kl kc
theorem countFits_at (w : World) {s : ByteArray} {pa : Option Addr} {pn pc : Nat} {r : Int} {va : Option Addr} {vn vc : Nat} {ba : Option Addr} {bn bc : Nat} {fa : Option Addr} {fn fc : Nat} {f : Fu} {FS : List Fu} (C : Ctx w s pa pn pc r va vn vc ba bn bc fa fn fc f FS) (op ty imm : Int) (ka : Option Addr) (kl kc : Nat) (hi : op = 25 -> wi fn imm = true) (R : Bool) (h : countP FS op imm kl = R) :
 Calls Tryz.prog 122 #[.agg #[.string s, .slice pa pn pc, .int .i64 r, .slice va vn vc, .slice ba bn bc, .slice fa fn fc], .agg #[.int .i64 op, .int .i64 ty, .int .i64 imm, .slice ka kl kc]] w fun e w' => e = .returned (.bool R) /\ Below w.heap.size w w' := by subst h; exact countFits_any w C op ty imm ka kl kc hi
theorem allWithinV_at (w : World) (ao : Option Addr) (c n : Nat) (L : List Int) (hn : n = L.length) (hL : Ints w ao c L) (la : Option Addr) (ln lc : Nat) (R : Bool) (h : L.all (wi ln) = R) :
 Calls Tryz.prog 123 #[.slice ao n c, .slice la ln lc] w fun e w' => e = .returned (.bool R) /\ Below w.heap.size w w' := by subst h; exact allWithinV_any w ao c n L hn hL la ln lc
theorem allWithinB_at (w : World) (ao : Option Addr) (c n : Nat) (L : List Int) (hn : n = L.length) (hL : Ints w ao c L) (la : Option Addr) (ln lc : Nat) (R : Bool) (h : L.all (wi ln) = R) :
 Calls Tryz.prog 125 #[.slice ao n c, .slice la ln lc] w fun e w' => e = .returned (.bool R) /\ Below w.heap.size w w' := by subst h; exact allWithinB_any w ao c n L hn hL la ln lc
set_option maxRecDepth 100000 in
set_option maxHeartbeats 4000000 in
theorem valueFits_any (w : World) {s : ByteArray} {pa : Option Addr} {pn pc : Nat} {r : Int} {va : Option Addr} {vn vc : Nat} {ba : Option Addr} {bn bc : Nat} {fa : Option Addr} {fn fc : Nat} {f : Fu} {FS : List Fu} (C : Ctx w s pa pn pc r va vn vc ba bn bc fa fn fc f FS) (i : Nat) (op ty imm : Int) (ka : Option Addr) (kl kc : Nat) (A : List Int) (hkl : kl = A.length) (hA : Ints w ka kc A) :
 Calls Tryz.prog 81 #[.agg #[.string s, .slice pa pn pc, .int .i64 r, .slice va vn vc, .slice ba bn bc, .slice fa fn fc], .int .i64 i, .agg #[.int .i64 op, .int .i64 ty, .int .i64 imm, .slice ka kl kc]] w fun e w' => e = .returned (.bool (valueP f FS ⟨op, ty, imm, A⟩)) /\ Below w.heap.size w w' := by
 have HC : Hid (∀ w', Aft w (.cells #[.string s, .slice pa pn pc, .int .i64 r, .slice va vn vc, .slice ba bn bc, .slice fa fn fc] 77) (.cells #[.int .i64 op, .int .i64 ty, .int .i64 imm, .slice ka kl kc] 25) w' -> Ctx w' s pa pn pc r va vn vc ba bn bc fa fn fc f FS) := fun w' h => C.below h.low (Nat.le_refl _)
 have HI : Hid (∀ w', Aft w (.cells #[.string s, .slice pa pn pc, .int .i64 r, .slice va vn vc, .slice ba bn bc, .slice fa fn fc] 77) (.cells #[.int .i64 op, .int .i64 ty, .int .i64 imm, .slice ka kl kc] 25) w' -> Ints w' ka kc A) := fun w' h => hA.below h.low (Nat.le_refl _)
 have HL : Hid (kl = A.length) := hkl
 have A0 : Aft w (.cells #[.string s, .slice pa pn pc, .int .i64 r, .slice va vn vc, .slice ba bn bc, .slice fa fn fc] 77) (.cells #[.int .i64 op, .int .i64 ty, .int .i64 imm, .slice ka kl kc] 25) ((w.alloc (.cells #[.string s, .slice pa pn pc, .int .i64 r, .slice va vn vc, .slice ba bn bc, .slice fa fn fc] 77)).alloc (.cells #[.int .i64 op, .int .i64 ty, .int .i64 imm, .slice ka kl kc] 25)) := Aft.refl _ _ _
 have imp : immP fn op imm = true -> op = 25 -> wi fn imm = true := by
  intro h e; subst e; unfold immP at h; rw [if_neg (by omega), if_pos rfl] at h; exact h
 have HM : Hid (immP fn op imm = true -> op = 25 -> wi fn imm = true) := imp
 clear imp
 unfold valueP
 simp only
 rw [<- C.ef, <- C.ev, <- hkl]
 clear C hA hkl
 cases h1 : isOpn op with
 | false =>
   go_enter Tryz.func81, Tryz.ntmps81
   go_wp2_with (go_at_call 120; refine (isOp_at _ _ _ h1).mono ?_; rintro e w' ⟨rfl, rfl⟩)
   go_ret
   exact ⟨rfl, A0.low⟩
 | true =>
 cases h2 : immP fn op imm with
 | false =>
   go_enter Tryz.func81, Tryz.ntmps81
   go_wp2_with (first
    | (go_at_call 120; refine (isOp_at _ _ _ h1).mono ?_; rintro e w' ⟨rfl, rfl⟩)
    | (go_at_call 121; refine (immFits_at _ _ _ _ _ _ _ _ h2).mono ?_; rintro e w1 ⟨rfl, hb1⟩))
   go_ret
   exact ⟨rfl, (A0.next hb1).low⟩
 | true =>
 have HX := HM.out h2
 cases h3 : countP FS op imm kl with
 | false =>
   go_enter Tryz.func81, Tryz.ntmps81
   go_wp2_with (first
    | (go_at_call 120; refine (isOp_at _ _ _ h1).mono ?_; rintro e w' ⟨rfl, rfl⟩)
    | (go_at_call 121; refine (immFits_at _ _ _ _ _ _ _ _ h2).mono ?_; rintro e w1 ⟨rfl, hb1⟩; have A1 := A0.next hb1; obtain ⟨f0, f1, f2, f3, f4, f5⟩ := fcells A1.one; obtain ⟨v0, v1, v2, v3⟩ := vcells A1.two)
    | (go_at_call 122; refine (countFits_at w1 (HC.out w1 A1) _ _ _ _ _ _ HX _ h3).mono ?_; rintro e w2 ⟨rfl, hb2⟩))
   go_ret
   exact ⟨rfl, (A1.next hb2).low⟩
 | true =>
 cases h4 : A.all (wi vn) with
 | false =>
   go_enter Tryz.func81, Tryz.ntmps81
   go_wp2_with (first
    | (go_at_call 120; refine (isOp_at _ _ _ h1).mono ?_; rintro e w' ⟨rfl, rfl⟩)
    | (go_at_call 121; refine (immFits_at _ _ _ _ _ _ _ _ h2).mono ?_; rintro e w1 ⟨rfl, hb1⟩; have A1 := A0.next hb1; obtain ⟨f0, f1, f2, f3, f4, f5⟩ := fcells A1.one; obtain ⟨v0, v1, v2, v3⟩ := vcells A1.two)
    | (go_at_call 122; refine (countFits_at w1 (HC.out w1 A1) _ _ _ _ _ _ HX _ h3).mono ?_; rintro e w2 ⟨rfl, hb2⟩; have A2 := A1.next hb2; obtain ⟨f0', f1', f2', f3', f4', f5'⟩ := fcells A2.one; obtain ⟨v0', v1', v2', v3'⟩ := vcells A2.two)
    | (go_at_call 123; refine (allWithinV_at w2 _ _ _ A HL.out (HI.out w2 A2) _ _ _ _ h4).mono ?_; rintro e w3 ⟨rfl, hb3⟩))
   go_ret
   exact ⟨rfl, (A2.next hb3).low⟩
 | true =>
   generalize h5 : isTn ty = R
   go_enter Tryz.func81, Tryz.ntmps81
   go_wp2_with (first
    | (go_at_call 120; refine (isOp_at _ _ _ h1).mono ?_; rintro e w' ⟨rfl, rfl⟩)
    | (go_at_call 121; refine (immFits_at _ _ _ _ _ _ _ _ h2).mono ?_; rintro e w1 ⟨rfl, hb1⟩; have A1 := A0.next hb1; obtain ⟨f0, f1, f2, f3, f4, f5⟩ := fcells A1.one; obtain ⟨v0, v1, v2, v3⟩ := vcells A1.two)
    | (go_at_call 122; refine (countFits_at w1 (HC.out w1 A1) _ _ _ _ _ _ HX _ h3).mono ?_; rintro e w2 ⟨rfl, hb2⟩; have A2 := A1.next hb2; obtain ⟨f0', f1', f2', f3', f4', f5'⟩ := fcells A2.one; obtain ⟨v0', v1', v2', v3'⟩ := vcells A2.two)
    | (go_at_call 123; refine (allWithinV_at w2 _ _ _ A HL.out (HI.out w2 A2) _ _ _ _ h4).mono ?_; rintro e w3 ⟨rfl, hb3⟩; have A3 := A2.next hb3; obtain ⟨v0'', v1'', v2'', v3''⟩ := vcells A3.two)
    | (go_at_call 77; refine (isTn_at _ _ _ h5).mono ?_; rintro e w' ⟨rfl, rfl⟩))
   go_ret
   exact ⟨by simp, A3.low⟩
end Go.Proofs.YtfbkopjncmkbiabGreatDoor
