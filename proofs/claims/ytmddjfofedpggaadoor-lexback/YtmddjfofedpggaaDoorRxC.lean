import Derived.Test.YtmddjfofedpggaaDoorRxB
set_option linter.unusedVariables false
namespace Go.Proofs.YtmddjfofedpggaaDoor
open Go.ChangeShapes Go.WideShapes Go.ChangeAt Go.RowKit

def wArr : Array Value := (WORDS.map fun s => Value.string (bs s)).toArray
def sArr : Array Value := (SIGNS.map fun s => Value.string (bs s)).toArray

set_option maxRecDepth 20000 in
theorem words_any (w : World) : Calls Tryd.prog 37 #[] w fun e w' => e = .returned (.agg wArr) ∧ Below w.heap.size w w' := by
  go_enter Tryd.func37, Tryd.ntmps37
  go_wp2_with (first | (refine wpList_store_row rfl 63 _ _ rfl _ _ rfl rfl 63 _ (heap_alloc_last _ _) (by kernel_rfl) rfl (by kernel_rfl) ?_; rw [World.setRow_alloc_new]) | fail)
  refine bodyPost_ret (v := .agg wArr) ?_ rfl ⟨rfl, (Below.refl _ _).alloc (Nat.le_refl _) _⟩
  exact results_cell_row Tryd.results37 _ _ w.heap.size 63 _ (0, 0) _ rfl (heap_alloc_last _ _) Tryd.underlying63 rfl (by kernel_rfl)

set_option maxRecDepth 20000 in
theorem signs_any (w : World) : Calls Tryd.prog 40 #[] w fun e w' => e = .returned (.agg sArr) ∧ Below w.heap.size w w' := by
  go_enter Tryd.func40, Tryd.ntmps40
  go_wp2_with (first | (refine wpList_store_row rfl 64 _ _ rfl _ _ rfl rfl 64 _ (heap_alloc_last _ _) (by kernel_rfl) rfl (by kernel_rfl) ?_; rw [World.setRow_alloc_new]) | fail)
  refine bodyPost_ret (v := .agg sArr) ?_ rfl ⟨rfl, (Below.refl _ _).alloc (Nat.le_refl _) _⟩
  exact results_cell_row Tryd.results40 _ _ w.heap.size 64 _ (0, 0) _ rfl (heap_alloc_last _ _) Tryd.underlying64 rfl (by kernel_rfl)

end Go.Proofs.YtmddjfofedpggaaDoor
