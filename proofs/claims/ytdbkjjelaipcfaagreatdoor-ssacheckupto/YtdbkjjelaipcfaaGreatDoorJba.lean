import Derived.Laws.ResultCell
import Derived.Test.YtdbkjjelaipcfaaGreatDoorJaz
set_option linter.unusedVariables false
set_option linter.unusedSimpArgs false
namespace Go.Proofs.YtdbkjjelaipcfaaGreatDoor
open Go.ChangeShapes Go.WideShapes Go.ChangeAt Go.RowKit Go.Maps
def row9 (op : Int) : Shp :=
 if op = 1 then ⟨0, 0, 0, 0, -2⟩ else if op = 25 then ⟨-1, 0, 0, 0, -2⟩ else if op = 32 then ⟨-1, 0, 0, 0, -1⟩ else if op = 33 then ⟨0, 0, 0, 0, -1⟩ else shp op
theorem results_row_tmp {P : Program} {fn : Func} {p u : Tmp} {ty : TypeId} (h : fn.results = #[.cell p ty, .tmp u]) (tmps : Array Value) (w : World) (g : Nat) (t : TypeId) (cs : Array Value) (fr : Nat × Nat) (d : TypeDesc)
 (hp : tmps.getD p undef = .pointer (some ⟨g, 0, none⟩)) (hg : w.heap[g]? = some (.cells cs t fr))
 (hu : P.underlying ty = some d) (hd : (match d with | .struct _ | .array _ _ => true | _ => false) = true) (hi : (P.info? ty).map (·.size) = some cs.size) :
 (results fn tmps).run P w = .ok (.tuple #[.agg cs, tmps.getD u undef]) w := by
 rw [results_cell_tmp h, hp]
 simp [asAddr, run_loadVar_row w g t ty cs fr d hg hu hd hi, Result.andThen]
theorem rowOf_1 (w : World) : Calls Tryz.prog 115 #[.int .i64 1] w fun e w' => e = .returned (.tuple #[shv (row9 1), .bool (isOpn 1)]) /\ Below w.heap.size w w' := by
 rw [show row9 1 = ⟨0, 0, 0, 0, -2⟩ from rfl, show isOpn 1 = true by decide]
 go_enter Tryz.func115, Tryz.ntmps115
 go_wp2
 refine bodyPost_ret (v := .tuple #[shv ⟨0, 0, 0, 0, -2⟩, .bool true]) ?_ rfl ⟨rfl, (Below.refl _ _).alloc (Nat.le_refl _) _⟩
 exact results_row_tmp Tryz.results115 _ _ w.heap.size 139 _ (0, 0) _ rfl (heap_alloc_last _ _) Tryz.underlying139 rfl (by kernel_rfl)
theorem rowOf_2 (w : World) : Calls Tryz.prog 115 #[.int .i64 2] w fun e w' => e = .returned (.tuple #[shv (row9 2), .bool (isOpn 2)]) /\ Below w.heap.size w w' := by
 rw [show row9 2 = ⟨2, 1, 1, 0, 1⟩ from rfl, show isOpn 2 = true by decide]
 go_enter Tryz.func115, Tryz.ntmps115
 go_wp2
 refine bodyPost_ret (v := .tuple #[shv ⟨2, 1, 1, 0, 1⟩, .bool true]) ?_ rfl ⟨rfl, (Below.refl _ _).alloc (Nat.le_refl _) _⟩
 exact results_row_tmp Tryz.results115 _ _ w.heap.size 139 _ (0, 0) _ rfl (heap_alloc_last _ _) Tryz.underlying139 rfl (by kernel_rfl)
theorem rowOf_3 (w : World) : Calls Tryz.prog 115 #[.int .i64 3] w fun e w' => e = .returned (.tuple #[shv (row9 3), .bool (isOpn 3)]) /\ Below w.heap.size w w' := by
 rw [show row9 3 = ⟨2, 1, 1, 0, 1⟩ from rfl, show isOpn 3 = true by decide]
 go_enter Tryz.func115, Tryz.ntmps115
 go_wp2
 refine bodyPost_ret (v := .tuple #[shv ⟨2, 1, 1, 0, 1⟩, .bool true]) ?_ rfl ⟨rfl, (Below.refl _ _).alloc (Nat.le_refl _) _⟩
 exact results_row_tmp Tryz.results115 _ _ w.heap.size 139 _ (0, 0) _ rfl (heap_alloc_last _ _) Tryz.underlying139 rfl (by kernel_rfl)
theorem rowOf_4 (w : World) : Calls Tryz.prog 115 #[.int .i64 4] w fun e w' => e = .returned (.tuple #[shv (row9 4), .bool (isOpn 4)]) /\ Below w.heap.size w w' := by
 rw [show row9 4 = ⟨2, 1, 1, 0, 1⟩ from rfl, show isOpn 4 = true by decide]
 go_enter Tryz.func115, Tryz.ntmps115
 go_wp2
 refine bodyPost_ret (v := .tuple #[shv ⟨2, 1, 1, 0, 1⟩, .bool true]) ?_ rfl ⟨rfl, (Below.refl _ _).alloc (Nat.le_refl _) _⟩
 exact results_row_tmp Tryz.results115 _ _ w.heap.size 139 _ (0, 0) _ rfl (heap_alloc_last _ _) Tryz.underlying139 rfl (by kernel_rfl)
theorem rowOf_5 (w : World) : Calls Tryz.prog 115 #[.int .i64 5] w fun e w' => e = .returned (.tuple #[shv (row9 5), .bool (isOpn 5)]) /\ Below w.heap.size w w' := by
 rw [show row9 5 = ⟨2, 1, 1, 0, 1⟩ from rfl, show isOpn 5 = true by decide]
 go_enter Tryz.func115, Tryz.ntmps115
 go_wp2
 refine bodyPost_ret (v := .tuple #[shv ⟨2, 1, 1, 0, 1⟩, .bool true]) ?_ rfl ⟨rfl, (Below.refl _ _).alloc (Nat.le_refl _) _⟩
 exact results_row_tmp Tryz.results115 _ _ w.heap.size 139 _ (0, 0) _ rfl (heap_alloc_last _ _) Tryz.underlying139 rfl (by kernel_rfl)
theorem rowOf_6 (w : World) : Calls Tryz.prog 115 #[.int .i64 6] w fun e w' => e = .returned (.tuple #[shv (row9 6), .bool (isOpn 6)]) /\ Below w.heap.size w w' := by
 rw [show row9 6 = ⟨2, 1, 1, 0, 1⟩ from rfl, show isOpn 6 = true by decide]
 go_enter Tryz.func115, Tryz.ntmps115
 go_wp2
 refine bodyPost_ret (v := .tuple #[shv ⟨2, 1, 1, 0, 1⟩, .bool true]) ?_ rfl ⟨rfl, (Below.refl _ _).alloc (Nat.le_refl _) _⟩
 exact results_row_tmp Tryz.results115 _ _ w.heap.size 139 _ (0, 0) _ rfl (heap_alloc_last _ _) Tryz.underlying139 rfl (by kernel_rfl)
theorem rowOf_7 (w : World) : Calls Tryz.prog 115 #[.int .i64 7] w fun e w' => e = .returned (.tuple #[shv (row9 7), .bool (isOpn 7)]) /\ Below w.heap.size w w' := by
 rw [show row9 7 = ⟨2, 1, 1, 0, 1⟩ from rfl, show isOpn 7 = true by decide]
 go_enter Tryz.func115, Tryz.ntmps115
 go_wp2
 refine bodyPost_ret (v := .tuple #[shv ⟨2, 1, 1, 0, 1⟩, .bool true]) ?_ rfl ⟨rfl, (Below.refl _ _).alloc (Nat.le_refl _) _⟩
 exact results_row_tmp Tryz.results115 _ _ w.heap.size 139 _ (0, 0) _ rfl (heap_alloc_last _ _) Tryz.underlying139 rfl (by kernel_rfl)
theorem rowOf_8 (w : World) : Calls Tryz.prog 115 #[.int .i64 8] w fun e w' => e = .returned (.tuple #[shv (row9 8), .bool (isOpn 8)]) /\ Below w.heap.size w w' := by
 rw [show row9 8 = ⟨2, 1, 1, 0, 1⟩ from rfl, show isOpn 8 = true by decide]
 go_enter Tryz.func115, Tryz.ntmps115
 go_wp2
 refine bodyPost_ret (v := .tuple #[shv ⟨2, 1, 1, 0, 1⟩, .bool true]) ?_ rfl ⟨rfl, (Below.refl _ _).alloc (Nat.le_refl _) _⟩
 exact results_row_tmp Tryz.results115 _ _ w.heap.size 139 _ (0, 0) _ rfl (heap_alloc_last _ _) Tryz.underlying139 rfl (by kernel_rfl)
theorem rowOf_9 (w : World) : Calls Tryz.prog 115 #[.int .i64 9] w fun e w' => e = .returned (.tuple #[shv (row9 9), .bool (isOpn 9)]) /\ Below w.heap.size w w' := by
 rw [show row9 9 = ⟨2, 1, 1, 0, 1⟩ from rfl, show isOpn 9 = true by decide]
 go_enter Tryz.func115, Tryz.ntmps115
 go_wp2
 refine bodyPost_ret (v := .tuple #[shv ⟨2, 1, 1, 0, 1⟩, .bool true]) ?_ rfl ⟨rfl, (Below.refl _ _).alloc (Nat.le_refl _) _⟩
 exact results_row_tmp Tryz.results115 _ _ w.heap.size 139 _ (0, 0) _ rfl (heap_alloc_last _ _) Tryz.underlying139 rfl (by kernel_rfl)
theorem rowOf_10 (w : World) : Calls Tryz.prog 115 #[.int .i64 10] w fun e w' => e = .returned (.tuple #[shv (row9 10), .bool (isOpn 10)]) /\ Below w.heap.size w w' := by
 rw [show row9 10 = ⟨2, 1, 1, 0, 1⟩ from rfl, show isOpn 10 = true by decide]
 go_enter Tryz.func115, Tryz.ntmps115
 go_wp2
 refine bodyPost_ret (v := .tuple #[shv ⟨2, 1, 1, 0, 1⟩, .bool true]) ?_ rfl ⟨rfl, (Below.refl _ _).alloc (Nat.le_refl _) _⟩
 exact results_row_tmp Tryz.results115 _ _ w.heap.size 139 _ (0, 0) _ rfl (heap_alloc_last _ _) Tryz.underlying139 rfl (by kernel_rfl)
theorem rowOf_11 (w : World) : Calls Tryz.prog 115 #[.int .i64 11] w fun e w' => e = .returned (.tuple #[shv (row9 11), .bool (isOpn 11)]) /\ Below w.heap.size w w' := by
 rw [show row9 11 = ⟨2, 1, 1, 0, 1⟩ from rfl, show isOpn 11 = true by decide]
 go_enter Tryz.func115, Tryz.ntmps115
 go_wp2
 refine bodyPost_ret (v := .tuple #[shv ⟨2, 1, 1, 0, 1⟩, .bool true]) ?_ rfl ⟨rfl, (Below.refl _ _).alloc (Nat.le_refl _) _⟩
 exact results_row_tmp Tryz.results115 _ _ w.heap.size 139 _ (0, 0) _ rfl (heap_alloc_last _ _) Tryz.underlying139 rfl (by kernel_rfl)
theorem rowOf_12 (w : World) : Calls Tryz.prog 115 #[.int .i64 12] w fun e w' => e = .returned (.tuple #[shv (row9 12), .bool (isOpn 12)]) /\ Below w.heap.size w w' := by
 rw [show row9 12 = ⟨2, 1, 1, 0, 1⟩ from rfl, show isOpn 12 = true by decide]
 go_enter Tryz.func115, Tryz.ntmps115
 go_wp2
 refine bodyPost_ret (v := .tuple #[shv ⟨2, 1, 1, 0, 1⟩, .bool true]) ?_ rfl ⟨rfl, (Below.refl _ _).alloc (Nat.le_refl _) _⟩
 exact results_row_tmp Tryz.results115 _ _ w.heap.size 139 _ (0, 0) _ rfl (heap_alloc_last _ _) Tryz.underlying139 rfl (by kernel_rfl)
theorem rowOf_13 (w : World) : Calls Tryz.prog 115 #[.int .i64 13] w fun e w' => e = .returned (.tuple #[shv (row9 13), .bool (isOpn 13)]) /\ Below w.heap.size w w' := by
 rw [show row9 13 = ⟨2, 0, 0, 0, 2⟩ from rfl, show isOpn 13 = true by decide]
 go_enter Tryz.func115, Tryz.ntmps115
 go_wp2
 refine bodyPost_ret (v := .tuple #[shv ⟨2, 0, 0, 0, 2⟩, .bool true]) ?_ rfl ⟨rfl, (Below.refl _ _).alloc (Nat.le_refl _) _⟩
 exact results_row_tmp Tryz.results115 _ _ w.heap.size 139 _ (0, 0) _ rfl (heap_alloc_last _ _) Tryz.underlying139 rfl (by kernel_rfl)
theorem rowOf_14 (w : World) : Calls Tryz.prog 115 #[.int .i64 14] w fun e w' => e = .returned (.tuple #[shv (row9 14), .bool (isOpn 14)]) /\ Below w.heap.size w w' := by
 rw [show row9 14 = ⟨2, 0, 0, 0, 2⟩ from rfl, show isOpn 14 = true by decide]
 go_enter Tryz.func115, Tryz.ntmps115
 go_wp2
 refine bodyPost_ret (v := .tuple #[shv ⟨2, 0, 0, 0, 2⟩, .bool true]) ?_ rfl ⟨rfl, (Below.refl _ _).alloc (Nat.le_refl _) _⟩
 exact results_row_tmp Tryz.results115 _ _ w.heap.size 139 _ (0, 0) _ rfl (heap_alloc_last _ _) Tryz.underlying139 rfl (by kernel_rfl)
theorem rowOf_15 (w : World) : Calls Tryz.prog 115 #[.int .i64 15] w fun e w' => e = .returned (.tuple #[shv (row9 15), .bool (isOpn 15)]) /\ Below w.heap.size w w' := by
 rw [show row9 15 = ⟨2, 1, 1, 0, 2⟩ from rfl, show isOpn 15 = true by decide]
 go_enter Tryz.func115, Tryz.ntmps115
 go_wp2
 refine bodyPost_ret (v := .tuple #[shv ⟨2, 1, 1, 0, 2⟩, .bool true]) ?_ rfl ⟨rfl, (Below.refl _ _).alloc (Nat.le_refl _) _⟩
 exact results_row_tmp Tryz.results115 _ _ w.heap.size 139 _ (0, 0) _ rfl (heap_alloc_last _ _) Tryz.underlying139 rfl (by kernel_rfl)
theorem rowOf_16 (w : World) : Calls Tryz.prog 115 #[.int .i64 16] w fun e w' => e = .returned (.tuple #[shv (row9 16), .bool (isOpn 16)]) /\ Below w.heap.size w w' := by
 rw [show row9 16 = ⟨2, 1, 1, 0, 2⟩ from rfl, show isOpn 16 = true by decide]
 go_enter Tryz.func115, Tryz.ntmps115
 go_wp2
 refine bodyPost_ret (v := .tuple #[shv ⟨2, 1, 1, 0, 2⟩, .bool true]) ?_ rfl ⟨rfl, (Below.refl _ _).alloc (Nat.le_refl _) _⟩
 exact results_row_tmp Tryz.results115 _ _ w.heap.size 139 _ (0, 0) _ rfl (heap_alloc_last _ _) Tryz.underlying139 rfl (by kernel_rfl)
theorem rowOf_17 (w : World) : Calls Tryz.prog 115 #[.int .i64 17] w fun e w' => e = .returned (.tuple #[shv (row9 17), .bool (isOpn 17)]) /\ Below w.heap.size w w' := by
 rw [show row9 17 = ⟨1, 1, 0, 0, 1⟩ from rfl, show isOpn 17 = true by decide]
 go_enter Tryz.func115, Tryz.ntmps115
 go_wp2
 refine bodyPost_ret (v := .tuple #[shv ⟨1, 1, 0, 0, 1⟩, .bool true]) ?_ rfl ⟨rfl, (Below.refl _ _).alloc (Nat.le_refl _) _⟩
 exact results_row_tmp Tryz.results115 _ _ w.heap.size 139 _ (0, 0) _ rfl (heap_alloc_last _ _) Tryz.underlying139 rfl (by kernel_rfl)
theorem rowOf_18 (w : World) : Calls Tryz.prog 115 #[.int .i64 18] w fun e w' => e = .returned (.tuple #[shv (row9 18), .bool (isOpn 18)]) /\ Below w.heap.size w w' := by
 rw [show row9 18 = ⟨1, 1, 0, 0, 1⟩ from rfl, show isOpn 18 = true by decide]
 go_enter Tryz.func115, Tryz.ntmps115
 go_wp2
 refine bodyPost_ret (v := .tuple #[shv ⟨1, 1, 0, 0, 1⟩, .bool true]) ?_ rfl ⟨rfl, (Below.refl _ _).alloc (Nat.le_refl _) _⟩
 exact results_row_tmp Tryz.results115 _ _ w.heap.size 139 _ (0, 0) _ rfl (heap_alloc_last _ _) Tryz.underlying139 rfl (by kernel_rfl)
theorem rowOf_19 (w : World) : Calls Tryz.prog 115 #[.int .i64 19] w fun e w' => e = .returned (.tuple #[shv (row9 19), .bool (isOpn 19)]) /\ Below w.heap.size w w' := by
 rw [show row9 19 = ⟨1, 2, 0, 0, 2⟩ from rfl, show isOpn 19 = true by decide]
 go_enter Tryz.func115, Tryz.ntmps115
 go_wp2
 refine bodyPost_ret (v := .tuple #[shv ⟨1, 2, 0, 0, 2⟩, .bool true]) ?_ rfl ⟨rfl, (Below.refl _ _).alloc (Nat.le_refl _) _⟩
 exact results_row_tmp Tryz.results115 _ _ w.heap.size 139 _ (0, 0) _ rfl (heap_alloc_last _ _) Tryz.underlying139 rfl (by kernel_rfl)
theorem rowOf_20 (w : World) : Calls Tryz.prog 115 #[.int .i64 20] w fun e w' => e = .returned (.tuple #[shv (row9 20), .bool (isOpn 20)]) /\ Below w.heap.size w w' := by
 rw [show row9 20 = ⟨1, 3, 0, 0, 1⟩ from rfl, show isOpn 20 = true by decide]
 go_enter Tryz.func115, Tryz.ntmps115
 go_wp2
 refine bodyPost_ret (v := .tuple #[shv ⟨1, 3, 0, 0, 1⟩, .bool true]) ?_ rfl ⟨rfl, (Below.refl _ _).alloc (Nat.le_refl _) _⟩
 exact results_row_tmp Tryz.results115 _ _ w.heap.size 139 _ (0, 0) _ rfl (heap_alloc_last _ _) Tryz.underlying139 rfl (by kernel_rfl)
theorem rowOf_21 (w : World) : Calls Tryz.prog 115 #[.int .i64 21] w fun e w' => e = .returned (.tuple #[shv (row9 21), .bool (isOpn 21)]) /\ Below w.heap.size w w' := by
 rw [show row9 21 = ⟨2, 3, 1, 0, 1⟩ from rfl, show isOpn 21 = true by decide]
 go_enter Tryz.func115, Tryz.ntmps115
 go_wp2
 refine bodyPost_ret (v := .tuple #[shv ⟨2, 3, 1, 0, 1⟩, .bool true]) ?_ rfl ⟨rfl, (Below.refl _ _).alloc (Nat.le_refl _) _⟩
 exact results_row_tmp Tryz.results115 _ _ w.heap.size 139 _ (0, 0) _ rfl (heap_alloc_last _ _) Tryz.underlying139 rfl (by kernel_rfl)
theorem rowOf_22 (w : World) : Calls Tryz.prog 115 #[.int .i64 22] w fun e w' => e = .returned (.tuple #[shv (row9 22), .bool (isOpn 22)]) /\ Below w.heap.size w w' := by
 rw [show row9 22 = ⟨3, 3, 1, 1, 0⟩ from rfl, show isOpn 22 = true by decide]
 go_enter Tryz.func115, Tryz.ntmps115
 go_wp2
 refine bodyPost_ret (v := .tuple #[shv ⟨3, 3, 1, 1, 0⟩, .bool true]) ?_ rfl ⟨rfl, (Below.refl _ _).alloc (Nat.le_refl _) _⟩
 exact results_row_tmp Tryz.results115 _ _ w.heap.size 139 _ (0, 0) _ rfl (heap_alloc_last _ _) Tryz.underlying139 rfl (by kernel_rfl)
theorem rowOf_23 (w : World) : Calls Tryz.prog 115 #[.int .i64 23] w fun e w' => e = .returned (.tuple #[shv (row9 23), .bool (isOpn 23)]) /\ Below w.heap.size w w' := by
 rw [show row9 23 = ⟨1, 1, 0, 0, 3⟩ from rfl, show isOpn 23 = true by decide]
 go_enter Tryz.func115, Tryz.ntmps115
 go_wp2
 refine bodyPost_ret (v := .tuple #[shv ⟨1, 1, 0, 0, 3⟩, .bool true]) ?_ rfl ⟨rfl, (Below.refl _ _).alloc (Nat.le_refl _) _⟩
 exact results_row_tmp Tryz.results115 _ _ w.heap.size 139 _ (0, 0) _ rfl (heap_alloc_last _ _) Tryz.underlying139 rfl (by kernel_rfl)
theorem rowOf_24 (w : World) : Calls Tryz.prog 115 #[.int .i64 24] w fun e w' => e = .returned (.tuple #[shv (row9 24), .bool (isOpn 24)]) /\ Below w.heap.size w w' := by
 rw [show row9 24 = ⟨0, 0, 0, 0, 1⟩ from rfl, show isOpn 24 = true by decide]
 go_enter Tryz.func115, Tryz.ntmps115
 go_wp2
 refine bodyPost_ret (v := .tuple #[shv ⟨0, 0, 0, 0, 1⟩, .bool true]) ?_ rfl ⟨rfl, (Below.refl _ _).alloc (Nat.le_refl _) _⟩
 exact results_row_tmp Tryz.results115 _ _ w.heap.size 139 _ (0, 0) _ rfl (heap_alloc_last _ _) Tryz.underlying139 rfl (by kernel_rfl)
theorem rowOf_25 (w : World) : Calls Tryz.prog 115 #[.int .i64 25] w fun e w' => e = .returned (.tuple #[shv (row9 25), .bool (isOpn 25)]) /\ Below w.heap.size w w' := by
 rw [show row9 25 = ⟨-1, 0, 0, 0, -2⟩ from rfl, show isOpn 25 = true by decide]
 go_enter Tryz.func115, Tryz.ntmps115
 go_wp2
 refine bodyPost_ret (v := .tuple #[shv ⟨-1, 0, 0, 0, -2⟩, .bool true]) ?_ rfl ⟨rfl, (Below.refl _ _).alloc (Nat.le_refl _) _⟩
 exact results_row_tmp Tryz.results115 _ _ w.heap.size 139 _ (0, 0) _ rfl (heap_alloc_last _ _) Tryz.underlying139 rfl (by kernel_rfl)
theorem rowOf_26 (w : World) : Calls Tryz.prog 115 #[.int .i64 26] w fun e w' => e = .returned (.tuple #[shv (row9 26), .bool (isOpn 26)]) /\ Below w.heap.size w w' := by
 rw [show row9 26 = ⟨1, 1, 0, 0, 0⟩ from rfl, show isOpn 26 = true by decide]
 go_enter Tryz.func115, Tryz.ntmps115
 go_wp2
 refine bodyPost_ret (v := .tuple #[shv ⟨1, 1, 0, 0, 0⟩, .bool true]) ?_ rfl ⟨rfl, (Below.refl _ _).alloc (Nat.le_refl _) _⟩
 exact results_row_tmp Tryz.results115 _ _ w.heap.size 139 _ (0, 0) _ rfl (heap_alloc_last _ _) Tryz.underlying139 rfl (by kernel_rfl)
theorem rowOf_27 (w : World) : Calls Tryz.prog 115 #[.int .i64 27] w fun e w' => e = .returned (.tuple #[shv (row9 27), .bool (isOpn 27)]) /\ Below w.heap.size w w' := by
 rw [show row9 27 = ⟨1, 2, 0, 0, 0⟩ from rfl, show isOpn 27 = true by decide]
 go_enter Tryz.func115, Tryz.ntmps115
 go_wp2
 refine bodyPost_ret (v := .tuple #[shv ⟨1, 2, 0, 0, 0⟩, .bool true]) ?_ rfl ⟨rfl, (Below.refl _ _).alloc (Nat.le_refl _) _⟩
 exact results_row_tmp Tryz.results115 _ _ w.heap.size 139 _ (0, 0) _ rfl (heap_alloc_last _ _) Tryz.underlying139 rfl (by kernel_rfl)
theorem rowOf_28 (w : World) : Calls Tryz.prog 115 #[.int .i64 28] w fun e w' => e = .returned (.tuple #[shv (row9 28), .bool (isOpn 28)]) /\ Below w.heap.size w w' := by
 rw [show row9 28 = ⟨1, 1, 0, 0, 0⟩ from rfl, show isOpn 28 = true by decide]
 go_enter Tryz.func115, Tryz.ntmps115
 go_wp2
 refine bodyPost_ret (v := .tuple #[shv ⟨1, 1, 0, 0, 0⟩, .bool true]) ?_ rfl ⟨rfl, (Below.refl _ _).alloc (Nat.le_refl _) _⟩
 exact results_row_tmp Tryz.results115 _ _ w.heap.size 139 _ (0, 0) _ rfl (heap_alloc_last _ _) Tryz.underlying139 rfl (by kernel_rfl)
theorem rowOf_29 (w : World) : Calls Tryz.prog 115 #[.int .i64 29] w fun e w' => e = .returned (.tuple #[shv (row9 29), .bool (isOpn 29)]) /\ Below w.heap.size w w' := by
 rw [show row9 29 = ⟨1, 1, 0, 0, 0⟩ from rfl, show isOpn 29 = true by decide]
 go_enter Tryz.func115, Tryz.ntmps115
 go_wp2
 refine bodyPost_ret (v := .tuple #[shv ⟨1, 1, 0, 0, 0⟩, .bool true]) ?_ rfl ⟨rfl, (Below.refl _ _).alloc (Nat.le_refl _) _⟩
 exact results_row_tmp Tryz.results115 _ _ w.heap.size 139 _ (0, 0) _ rfl (heap_alloc_last _ _) Tryz.underlying139 rfl (by kernel_rfl)
theorem rowOf_30 (w : World) : Calls Tryz.prog 115 #[.int .i64 30] w fun e w' => e = .returned (.tuple #[shv (row9 30), .bool (isOpn 30)]) /\ Below w.heap.size w w' := by
 rw [show row9 30 = ⟨2, 1, 1, 0, 0⟩ from rfl, show isOpn 30 = true by decide]
 go_enter Tryz.func115, Tryz.ntmps115
 go_wp2
 refine bodyPost_ret (v := .tuple #[shv ⟨2, 1, 1, 0, 0⟩, .bool true]) ?_ rfl ⟨rfl, (Below.refl _ _).alloc (Nat.le_refl _) _⟩
 exact results_row_tmp Tryz.results115 _ _ w.heap.size 139 _ (0, 0) _ rfl (heap_alloc_last _ _) Tryz.underlying139 rfl (by kernel_rfl)
theorem rowOf_32 (w : World) : Calls Tryz.prog 115 #[.int .i64 32] w fun e w' => e = .returned (.tuple #[shv (row9 32), .bool (isOpn 32)]) /\ Below w.heap.size w w' := by
 rw [show row9 32 = ⟨-1, 0, 0, 0, -1⟩ from rfl, show isOpn 32 = true by decide]
 go_enter Tryz.func115, Tryz.ntmps115
 go_wp2
 refine bodyPost_ret (v := .tuple #[shv ⟨-1, 0, 0, 0, -1⟩, .bool true]) ?_ rfl ⟨rfl, (Below.refl _ _).alloc (Nat.le_refl _) _⟩
 exact results_row_tmp Tryz.results115 _ _ w.heap.size 139 _ (0, 0) _ rfl (heap_alloc_last _ _) Tryz.underlying139 rfl (by kernel_rfl)
theorem rowOf_33 (w : World) : Calls Tryz.prog 115 #[.int .i64 33] w fun e w' => e = .returned (.tuple #[shv (row9 33), .bool (isOpn 33)]) /\ Below w.heap.size w w' := by
 rw [show row9 33 = ⟨0, 0, 0, 0, -1⟩ from rfl, show isOpn 33 = true by decide]
 go_enter Tryz.func115, Tryz.ntmps115
 go_wp2
 refine bodyPost_ret (v := .tuple #[shv ⟨0, 0, 0, 0, -1⟩, .bool true]) ?_ rfl ⟨rfl, (Below.refl _ _).alloc (Nat.le_refl _) _⟩
 exact results_row_tmp Tryz.results115 _ _ w.heap.size 139 _ (0, 0) _ rfl (heap_alloc_last _ _) Tryz.underlying139 rfl (by kernel_rfl)
set_option maxHeartbeats 4000000 in
theorem rowOf_lo (w : World) (op : Int) (h : op < 1) : Calls Tryz.prog 115 #[.int .i64 op] w fun e w' => e = .returned (.tuple #[shv ⟨0, 0, 0, 0, 0⟩, .bool false]) /\ Below w.heap.size w w' := by
 have q13 : (op == 13) = false := by rw [beq_eq_false_iff_ne]; omega
 have q14 : (op == 14) = false := by rw [beq_eq_false_iff_ne]; omega
 have q15 : (op == 15) = false := by rw [beq_eq_false_iff_ne]; omega
 have q16 : (op == 16) = false := by rw [beq_eq_false_iff_ne]; omega
 have q17 : (op == 17) = false := by rw [beq_eq_false_iff_ne]; omega
 have q18 : (op == 18) = false := by rw [beq_eq_false_iff_ne]; omega
 go_enter Tryz.func115, Tryz.ntmps115
 go_wp2
 refine bodyPost_ret (v := .tuple #[shv ⟨0, 0, 0, 0, 0⟩, .bool false]) ?_ rfl ⟨rfl, (Below.refl _ _).alloc (Nat.le_refl _) _⟩
 exact results_row_tmp Tryz.results115 _ _ w.heap.size 139 _ (0, 0) _ rfl (heap_alloc_last _ _) Tryz.underlying139 rfl (by kernel_rfl)
set_option maxHeartbeats 4000000 in
theorem rowOf_hi (w : World) (op : Int) (h : 33 < op) : Calls Tryz.prog 115 #[.int .i64 op] w fun e w' => e = .returned (.tuple #[shv ⟨0, 0, 0, 0, 0⟩, .bool false]) /\ Below w.heap.size w w' := by
 have q13 : (op == 13) = false := by rw [beq_eq_false_iff_ne]; omega
 have q14 : (op == 14) = false := by rw [beq_eq_false_iff_ne]; omega
 have q15 : (op == 15) = false := by rw [beq_eq_false_iff_ne]; omega
 have q16 : (op == 16) = false := by rw [beq_eq_false_iff_ne]; omega
 have q17 : (op == 17) = false := by rw [beq_eq_false_iff_ne]; omega
 have q18 : (op == 18) = false := by rw [beq_eq_false_iff_ne]; omega
 go_enter Tryz.func115, Tryz.ntmps115
 go_wp2
 refine bodyPost_ret (v := .tuple #[shv ⟨0, 0, 0, 0, 0⟩, .bool false]) ?_ rfl ⟨rfl, (Below.refl _ _).alloc (Nat.le_refl _) _⟩
 exact results_row_tmp Tryz.results115 _ _ w.heap.size 139 _ (0, 0) _ rfl (heap_alloc_last _ _) Tryz.underlying139 rfl (by kernel_rfl)
theorem rowOf_31 (w : World) : Calls Tryz.prog 115 #[.int .i64 31] w fun e w' => e = .returned (.tuple #[shv ⟨0, 0, 0, 0, 0⟩, .bool false]) /\ Below w.heap.size w w' := by
 go_enter Tryz.func115, Tryz.ntmps115
 go_wp2
 refine bodyPost_ret (v := .tuple #[shv ⟨0, 0, 0, 0, 0⟩, .bool false]) ?_ rfl ⟨rfl, (Below.refl _ _).alloc (Nat.le_refl _) _⟩
 exact results_row_tmp Tryz.results115 _ _ w.heap.size 139 _ (0, 0) _ rfl (heap_alloc_last _ _) Tryz.underlying139 rfl (by kernel_rfl)
theorem row9_no (op : Int) (h1 : ¬ op = 1) (h2 : ¬ op = 2) (h3 : ¬ op = 3) (h4 : ¬ op = 4) (h5 : ¬ op = 5) (h6 : ¬ op = 6) (h7 : ¬ op = 7) (h8 : ¬ op = 8) (h9 : ¬ op = 9) (h10 : ¬ op = 10) (h11 : ¬ op = 11) (h12 : ¬ op = 12) (h13 : ¬ op = 13) (h14 : ¬ op = 14) (h15 : ¬ op = 15) (h16 : ¬ op = 16) (h17 : ¬ op = 17) (h18 : ¬ op = 18) (h19 : ¬ op = 19) (h20 : ¬ op = 20) (h21 : ¬ op = 21) (h22 : ¬ op = 22) (h23 : ¬ op = 23) (h24 : ¬ op = 24) (h25 : ¬ op = 25) (h26 : ¬ op = 26) (h27 : ¬ op = 27) (h28 : ¬ op = 28) (h29 : ¬ op = 29) (h30 : ¬ op = 30) (h32 : ¬ op = 32) (h33 : ¬ op = 33) : row9 op = ⟨0, 0, 0, 0, 0⟩ := by
 unfold row9
 rw [if_neg h1, if_neg h25, if_neg h32, if_neg h33]
 exact shp_no op h2 h3 h4 h5 h6 h7 h8 h9 h10 h11 h12 h13 h14 h15 h16 h17 h18 h19 h20 h21 h22 h23 h24 h26 h27 h28 h29 h30
theorem isOpn_no (op : Int) (h1 : ¬ op = 1) (h2 : ¬ op = 2) (h3 : ¬ op = 3) (h4 : ¬ op = 4) (h5 : ¬ op = 5) (h6 : ¬ op = 6) (h7 : ¬ op = 7) (h8 : ¬ op = 8) (h9 : ¬ op = 9) (h10 : ¬ op = 10) (h11 : ¬ op = 11) (h12 : ¬ op = 12) (h13 : ¬ op = 13) (h14 : ¬ op = 14) (h15 : ¬ op = 15) (h16 : ¬ op = 16) (h17 : ¬ op = 17) (h18 : ¬ op = 18) (h19 : ¬ op = 19) (h20 : ¬ op = 20) (h21 : ¬ op = 21) (h22 : ¬ op = 22) (h23 : ¬ op = 23) (h24 : ¬ op = 24) (h25 : ¬ op = 25) (h26 : ¬ op = 26) (h27 : ¬ op = 27) (h28 : ¬ op = 28) (h29 : ¬ op = 29) (h30 : ¬ op = 30) (h32 : ¬ op = 32) (h33 : ¬ op = 33) : isOpn op = false := by
 unfold isOpn
 rw [decide_eq_false_iff_not]
 omega
theorem rowOf_any (w : World) (op : Int) : Calls Tryz.prog 115 #[.int .i64 op] w fun e w' => e = .returned (.tuple #[shv (row9 op), .bool (isOpn op)]) /\ Below w.heap.size w w' := by
 by_cases h1 : op = 1
 ·subst h1; exact rowOf_1 w
 by_cases h2 : op = 2
 ·subst h2; exact rowOf_2 w
 by_cases h3 : op = 3
 ·subst h3; exact rowOf_3 w
 by_cases h4 : op = 4
 ·subst h4; exact rowOf_4 w
 by_cases h5 : op = 5
 ·subst h5; exact rowOf_5 w
 by_cases h6 : op = 6
 ·subst h6; exact rowOf_6 w
 by_cases h7 : op = 7
 ·subst h7; exact rowOf_7 w
 by_cases h8 : op = 8
 ·subst h8; exact rowOf_8 w
 by_cases h9 : op = 9
 ·subst h9; exact rowOf_9 w
 by_cases h10 : op = 10
 ·subst h10; exact rowOf_10 w
 by_cases h11 : op = 11
 ·subst h11; exact rowOf_11 w
 by_cases h12 : op = 12
 ·subst h12; exact rowOf_12 w
 by_cases h13 : op = 13
 ·subst h13; exact rowOf_13 w
 by_cases h14 : op = 14
 ·subst h14; exact rowOf_14 w
 by_cases h15 : op = 15
 ·subst h15; exact rowOf_15 w
 by_cases h16 : op = 16
 ·subst h16; exact rowOf_16 w
 by_cases h17 : op = 17
 ·subst h17; exact rowOf_17 w
 by_cases h18 : op = 18
 ·subst h18; exact rowOf_18 w
 by_cases h19 : op = 19
 ·subst h19; exact rowOf_19 w
 by_cases h20 : op = 20
 ·subst h20; exact rowOf_20 w
 by_cases h21 : op = 21
 ·subst h21; exact rowOf_21 w
 by_cases h22 : op = 22
 ·subst h22; exact rowOf_22 w
 by_cases h23 : op = 23
 ·subst h23; exact rowOf_23 w
 by_cases h24 : op = 24
 ·subst h24; exact rowOf_24 w
 by_cases h25 : op = 25
 ·subst h25; exact rowOf_25 w
 by_cases h26 : op = 26
 ·subst h26; exact rowOf_26 w
 by_cases h27 : op = 27
 ·subst h27; exact rowOf_27 w
 by_cases h28 : op = 28
 ·subst h28; exact rowOf_28 w
 by_cases h29 : op = 29
 ·subst h29; exact rowOf_29 w
 by_cases h30 : op = 30
 ·subst h30; exact rowOf_30 w
 by_cases h32 : op = 32
 ·subst h32; exact rowOf_32 w
 by_cases h33 : op = 33
 ·subst h33; exact rowOf_33 w
 rw [row9_no op h1 h2 h3 h4 h5 h6 h7 h8 h9 h10 h11 h12 h13 h14 h15 h16 h17 h18 h19 h20 h21 h22 h23 h24 h25 h26 h27 h28 h29 h30 h32 h33, isOpn_no op h1 h2 h3 h4 h5 h6 h7 h8 h9 h10 h11 h12 h13 h14 h15 h16 h17 h18 h19 h20 h21 h22 h23 h24 h25 h26 h27 h28 h29 h30 h32 h33]
 by_cases hlo : op < 1
 ·exact rowOf_lo w op hlo
 by_cases hhi : 33 < op
 ·exact rowOf_hi w op hhi
 obtain rfl : op = 31 := by omega
 exact rowOf_31 w
structure V3 (w : World) (A B C : Obj) (w' : World) : Prop where
 b : Below (w.heap.size + 1 + 1 + 1) (((w.alloc A).alloc B).alloc C) w'
theorem V3.low {w A B C w'} (h : V3 w A B C w') : Below w.heap.size w w' :=
 ((((Below.refl _ _).alloc (Nat.le_refl _) _).alloc (by simp) _).alloc (by simp; omega) _).trans (h.b.mono (by omega))
theorem V3.next {w A B C w' w''} (h : V3 w A B C w') (hb : Below w'.heap.size w' w'') : V3 w A B C w'' := ⟨h.b.trans (hb.mono (by have := h.b.size; simp at this; omega))⟩
theorem V3.size {w A B C w'} (h : V3 w A B C w') : w.heap.size + 2 < w'.heap.size := by have := h.b.size; simp at this; omega
theorem V3.one {w A B C w'} (h : V3 w A B C w') : w'.heap[w.heap.size]? = some A := by
 rw [h.b.block _ (by omega), heap_alloc_old _ _ (by simp; omega), heap_alloc_old _ _ (by simp)]
 exact heap_alloc_new w A
theorem V3.two {w A B C w'} (h : V3 w A B C w') : w'.heap[w.heap.size + 1]? = some B := by
 rw [h.b.block _ (by omega), heap_alloc_old _ _ (by simp)]
 simpa using heap_alloc_new (w.alloc A) B
theorem V3.three {w A B C w'} (h : V3 w A B C w') : w'.heap[w.heap.size + 1 + 1]? = some C := by
 rw [h.b.block _ (by omega)]
 simpa using heap_alloc_new ((w.alloc A).alloc B) C
abbrev VX (w : World) (fa : Option Addr) (fn fc : Nat) (mn : Int) (s : ByteArray) (pa : Option Addr) (pn pc : Nat) (r : Int) (va : Option Addr) (vn vc : Nat) (ba : Option Addr) (bn bc : Nat) (op ty imm : Int) (ka : Option Addr) (kl kc : Nat) (w' : World) : Prop :=
 V3 w (.cells #[.slice fa fn fc, .int .i64 mn] 24) (.cells #[.string s, .slice pa pn pc, .int .i64 r, .slice va vn vc, .slice ba bn bc] 38) (.cells #[.int .i64 op, .int .i64 ty, .int .i64 imm, .slice ka kl kc] 42) w'
theorem VX.cells {w w' : World} {fa : Option Addr} {fn fc : Nat} {mn : Int} {s : ByteArray} {pa : Option Addr} {pn pc : Nat} {r : Int} {va : Option Addr} {vn vc : Nat} {ba : Option Addr} {bn bc : Nat} {op ty imm : Int} {ka : Option Addr} {kl kc : Nat} (h : VX w fa fn fc mn s pa pn pc r va vn vc ba bn bc op ty imm ka kl kc w') :
 w'.cell? ⟨w.heap.size, 0, none⟩ = some (.slice fa fn fc) /\ w'.cell? ⟨w.heap.size + 1, 3, none⟩ = some (.slice va vn vc) /\ w'.cell? ⟨w.heap.size + 1 + 1, 0, none⟩ = some (.int .i64 op) /\ w'.cell? ⟨w.heap.size + 1 + 1, 1, none⟩ = some (.int .i64 ty) /\ w'.cell? ⟨w.heap.size + 1 + 1, 2, none⟩ = some (.int .i64 imm) /\ w'.cell? ⟨w.heap.size + 1 + 1, 3, none⟩ = some (.slice ka kl kc)
  /\ w.heap.size < w'.heap.size /\ w.heap.size + 1 < w'.heap.size /\ w.heap.size + 1 + 1 < w'.heap.size :=
 ⟨cell_arr h.one rfl, cell_arr h.two rfl, cell_arr h.three rfl, cell_arr h.three rfl, cell_arr h.three rfl, cell_arr h.three rfl, by have := h.size; omega, by have := h.size; omega, by have := h.size; omega⟩
def fstV (kl : Nat) (ty c : Int) (Bx Ax : Bool) : Bool := Bx && (Ax && (decide (0 <= ty) && (decide (ty <= 3) && (decide (c < 0) || decide ((kl : Int) = c)))))
set_option maxRecDepth 100000 in
set_option maxHeartbeats 4000000 in
theorem rValue_no (w : World) {fa : Option Addr} {fn fc : Nat} {mn : Int} {s : ByteArray} {pa : Option Addr} {pn pc : Nat} {r : Int} {va : Option Addr} {vn vc : Nat} {ba : Option Addr} {bn bc : Nat} {ka : Option Addr} {kl kc : Nat} (op ty imm : Int) (c a b d g : Int) (Bx Ax : Bool)
 (HR : Hid (∀ w, Calls Tryz.prog 115 #[.int .i64 op] w fun e w' => e = .returned (.tuple #[.agg #[.int .i64 c, .int .i64 a, .int .i64 b, .int .i64 d, .int .i64 g], .bool Bx]) /\ Below w.heap.size w w'))
 (HW : Hid (∀ w', VX w fa fn fc mn s pa pn pc r va vn vc ba bn bc op ty imm ka kl kc w' -> Calls Tryz.prog 83 #[.slice ka kl kc, .int .i64 vn] w' fun e w'' => e = .returned (.bool Ax) /\ w'' = w')) (hf : fstV kl ty c Bx Ax = false) :
 Calls Tryz.prog 84 #[.agg #[.slice fa fn fc, .int .i64 mn], .agg #[.string s, .slice pa pn pc, .int .i64 r, .slice va vn vc, .slice ba bn bc], .agg #[.int .i64 op, .int .i64 ty, .int .i64 imm, .slice ka kl kc]] w fun e w' => e = .returned (.bool false) /\ Below w.heap.size w w' := by
 have A0 : VX w fa fn fc mn s pa pn pc r va vn vc ba bn bc op ty imm ka kl kc (((w.alloc (.cells #[.slice fa fn fc, .int .i64 mn] 24)).alloc (.cells #[.string s, .slice pa pn pc, .int .i64 r, .slice va vn vc, .slice ba bn bc] 38)).alloc (.cells #[.int .i64 op, .int .i64 ty, .int .i64 imm, .slice ka kl kc] 42)) := ⟨Below.refl _ _⟩
 have HBx : Hid (∀ w1 o, VX w fa fn fc mn s pa pn pc r va vn vc ba bn bc op ty imm ka kl kc w1 -> Below w.heap.size w (w1.alloc o)) := fun w1 o h => h.low.alloc (by have := h.size; omega) _
 cases Bx
 case false =>
  clear hf
  go_enter Tryz.func84, Tryz.ntmps84
  go_wp2_with (go_at_call 115; refine (HR.out _).mono ?_; rintro e w1 ⟨rfl, hb1⟩; have A1 := A0.next hb1; obtain ⟨k0, k1, k2, k3, k4, k5, k6, k7, k8⟩ := VX.cells A1)
  go_ret
  exact ⟨rfl, HBx.out _ _ A1⟩
 cases Ax
 case false =>
  clear hf
  go_enter Tryz.func84, Tryz.ntmps84
  go_wp2_with (first | (go_at_call 115; refine (HR.out _).mono ?_; rintro e w1 ⟨rfl, hb1⟩; have A1 := A0.next hb1; obtain ⟨k0, k1, k2, k3, k4, k5, k6, k7, k8⟩ := VX.cells A1) | (go_at_call 83; refine (HW.out _ (A1.next ((Below.refl _ _).alloc (Nat.le_refl _) _))).mono ?_; rintro e w' ⟨rfl, rfl⟩))
  go_ret
  exact ⟨rfl, HBx.out _ _ A1⟩
 by_cases h0 : ty < 0
 ·clear hf
  go_enter Tryz.func84, Tryz.ntmps84
  go_wp2_with (first | (go_at_call 115; refine (HR.out _).mono ?_; rintro e w1 ⟨rfl, hb1⟩; have A1 := A0.next hb1; obtain ⟨k0, k1, k2, k3, k4, k5, k6, k7, k8⟩ := VX.cells A1) | (go_at_call 83; refine (HW.out _ (A1.next ((Below.refl _ _).alloc (Nat.le_refl _) _))).mono ?_; rintro e w' ⟨rfl, rfl⟩))
  go_ret
  exact ⟨rfl, HBx.out _ _ A1⟩
 by_cases h3 : 3 < ty
 ·clear hf
  go_enter Tryz.func84, Tryz.ntmps84
  go_wp2_with (first | (go_at_call 115; refine (HR.out _).mono ?_; rintro e w1 ⟨rfl, hb1⟩; have A1 := A0.next hb1; obtain ⟨k0, k1, k2, k3, k4, k5, k6, k7, k8⟩ := VX.cells A1) | (go_at_call 83; refine (HW.out _ (A1.next ((Below.refl _ _).alloc (Nat.le_refl _) _))).mono ?_; rintro e w' ⟨rfl, rfl⟩))
  go_ret
  exact ⟨rfl, HBx.out _ _ A1⟩
 have hc : 0 <= c /\ ¬ (kl : Int) = c := by
  simp [fstV] at hf
  have := hf (by omega) (by omega)
  exact ⟨by omega, this.2⟩
 obtain ⟨hc0, hc1⟩ := hc
 have hc2 : ((kl : Int) != c) = true := by simp; exact hc1
 clear hf hc1
 go_enter Tryz.func84, Tryz.ntmps84
 go_wp2_with (first | (go_at_call 115; refine (HR.out _).mono ?_; rintro e w1 ⟨rfl, hb1⟩; have A1 := A0.next hb1; obtain ⟨k0, k1, k2, k3, k4, k5, k6, k7, k8⟩ := VX.cells A1) | (go_at_call 83; refine (HW.out _ (A1.next ((Below.refl _ _).alloc (Nat.le_refl _) _))).mono ?_; rintro e w' ⟨rfl, rfl⟩))
 go_ret
 exact ⟨rfl, HBx.out _ _ A1⟩
end Go.Proofs.YtdbkjjelaipcfaaGreatDoor
