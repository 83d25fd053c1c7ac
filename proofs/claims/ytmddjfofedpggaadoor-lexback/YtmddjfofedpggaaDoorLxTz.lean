import Derived.Test.YtmddjfofedpggaaDoorLxT
set_option linter.unusedVariables false
namespace Go.Proofs.YtmddjfofedpggaaDoor
open Go.ChangeShapes Go.WideShapes Go.ChangeAt Go.RowKit

theorem heap_two (w : World) (A B : Obj) : ((w.alloc A).alloc B).heap[w.heap.size + 1]? = some B := by
  have h := heap_alloc_last (w.alloc A) B
  have e : (w.alloc A).heap.size = w.heap.size + 1 := by simp
  rwa [e] at h
theorem setRow_two (w : World) (A : Obj) (c c' : Array Value) (t : TypeId) : ((w.alloc A).alloc (.cells c t)).setRow (w.heap.size + 1) c' = (w.alloc A).alloc (.cells c' t) := by
  have h := World.setRow_alloc_new (w.alloc A) c c' t
  have e : (w.alloc A).heap.size = w.heap.size + 1 := by simp
  rwa [e] at h

set_option maxRecDepth 20000 in
set_option maxHeartbeats 1000000 in
theorem spelled_word (w : World) (k : Nat) (hk : k < 18) : Calls Tryd.prog 25 #[.int .i64 (10 + (k : Int))] w fun e w' => e = .returned (.string (bs (WORDS.getD k []))) ∧ Below w.heap.size w w' := by
  obtain ⟨s, hs⟩ : ∃ s, s = bs (WORDS.getD k []) := ⟨_, rfl⟩
  have hcell := wArr_at k hk
  rw [← hs] at hcell ⊢
  clear hs
  go_enter Tryd.func25, Tryd.ntmps25
  go_wp2_with (first
    | (refine wpList_store_row rfl 63 _ _ rfl _ wArr rfl rfl 63 _ (heap_alloc_last _ _) (by kernel_rfl) rfl (by kernel_rfl) ?_; rw [World.setRow_alloc_new])
    | (refine wpList_store_row rfl 64 _ _ rfl _ sArr rfl rfl 64 _ (heap_two _ _ _) (by kernel_rfl) rfl (by kernel_rfl) ?_; rw [setRow_two])
    | fail)
  go_ret
  exact ⟨rfl, ((Below.refl _ _).alloc (Nat.le_refl _) _).alloc (by simp) _⟩
set_option maxRecDepth 20000 in
set_option maxHeartbeats 1000000 in
theorem spelled_sign (w : World) (k : Nat) (hk : k < 29) : Calls Tryd.prog 25 #[.int .i64 (40 + (k : Int))] w fun e w' => e = .returned (.string (bs (SIGNS.getD k []))) ∧ Below w.heap.size w w' := by
  obtain ⟨s, hs⟩ : ∃ s, s = bs (SIGNS.getD k []) := ⟨_, rfl⟩
  have hcell := sArr_at k hk
  rw [← hs] at hcell ⊢
  clear hs
  go_enter Tryd.func25, Tryd.ntmps25
  go_wp2_with (first
    | (refine wpList_store_row rfl 63 _ _ rfl _ wArr rfl rfl 63 _ (heap_alloc_last _ _) (by kernel_rfl) rfl (by kernel_rfl) ?_; rw [World.setRow_alloc_new])
    | (refine wpList_store_row rfl 64 _ _ rfl _ sArr rfl rfl 64 _ (heap_two _ _ _) (by kernel_rfl) rfl (by kernel_rfl) ?_; rw [setRow_two])
    | fail)
  go_ret
  exact ⟨rfl, ((Below.refl _ _).alloc (Nat.le_refl _) _).alloc (by simp) _⟩
end Go.Proofs.YtmddjfofedpggaaDoor
