import Derived.Test.YtfbkopjncmkbiabGreatDoorKbi
set_option linter.unusedVariables false
set_option linter.unusedSimpArgs false
namespace Go.Proofs.YtfbkopjncmkbiabGreatDoor
open Go.ChangeShapes Go.WideShapes Go.ChangeAt Go.RowKit Go.Maps
def tbl0 : List Value := [.nilFunc, .func (.func 23) #[] #[], .nilFunc, .nilFunc, .nilFunc, .func (.func 24) #[] #[], .func (.func 24) #[] #[], .nilFunc, .nilFunc, .nilFunc, .nilFunc, .func (.func 25) #[] #[], .func (.func 25) #[] #[], .nilFunc, .nilFunc, .nilFunc, .nilFunc, .nilFunc, .nilFunc, .nilFunc, .func (.func 26) #[] #[], .func (.func 27) #[] #[], .func (.func 28) #[] #[], .func (.func 29) #[] #[], .func (.func 30) #[] #[], .func (.func 31) #[] #[], .func (.func 32) #[] #[], .func (.func 33) #[] #[], .func (.func 34) #[] #[], .func (.func 35) #[] #[], .func (.func 36) #[] #[]]
def tK (k : Nat) : List Value := tblM.take k ++ tbl0.drop k
set_option maxRecDepth 100000 in
set_option maxHeartbeats 4000000 in
theorem operationsM_any (w : World) : Calls Tryz.prog 12 #[] w fun e w' => e = .returned (.agg tblM.toArray) /\ Below w.heap.size w w' := by
 obtain ⟨w1, hw1⟩ : ∃ w1, w1 = (w.alloc (.cells #[.nilFunc, .nilFunc, .nilFunc, .nilFunc, .nilFunc, .nilFunc, .nilFunc, .nilFunc, .nilFunc, .nilFunc, .nilFunc, .nilFunc, .nilFunc, .nilFunc, .nilFunc, .nilFunc, .nilFunc, .nilFunc, .nilFunc, .nilFunc, .nilFunc, .nilFunc, .nilFunc, .nilFunc, .nilFunc, .nilFunc, .nilFunc, .nilFunc, .nilFunc, .nilFunc, .nilFunc] 56)).alloc (.cells #[.nilFunc, .func (.func 23) #[] #[], .nilFunc, .nilFunc, .nilFunc, .func (.func 24) #[] #[], .func (.func 24) #[] #[], .nilFunc, .nilFunc, .nilFunc, .nilFunc, .func (.func 25) #[] #[], .func (.func 25) #[] #[], .nilFunc, .nilFunc, .nilFunc, .nilFunc, .nilFunc, .nilFunc, .nilFunc, .func (.func 26) #[] #[], .func (.func 27) #[] #[], .func (.func 28) #[] #[], .func (.func 29) #[] #[], .func (.func 30) #[] #[], .func (.func 31) #[] #[], .func (.func 32) #[] #[], .func (.func 33) #[] #[], .func (.func 34) #[] #[], .func (.func 35) #[] #[], .func (.func 36) #[] #[]] 56) := ⟨_, rfl⟩
 have HK0 : Hid (w1.heap[w.heap.size + 1]? = some (.cells (tK 2).toArray 56 (0, 0)) /\ Below w.heap.size w w1) := by
  rw [hw1]
  refine ⟨?_, ((Below.refl _ _).alloc (Nat.le_refl _) _).alloc (by simp) _⟩
  have := heap_alloc_new (w.alloc (.cells #[.nilFunc, .nilFunc, .nilFunc, .nilFunc, .nilFunc, .nilFunc, .nilFunc, .nilFunc, .nilFunc, .nilFunc, .nilFunc, .nilFunc, .nilFunc, .nilFunc, .nilFunc, .nilFunc, .nilFunc, .nilFunc, .nilFunc, .nilFunc, .nilFunc, .nilFunc, .nilFunc, .nilFunc, .nilFunc, .nilFunc, .nilFunc, .nilFunc, .nilFunc, .nilFunc, .nilFunc] 56)) (.cells tbl0.toArray 56)
  have e : (w.alloc (.cells #[.nilFunc, .nilFunc, .nilFunc, .nilFunc, .nilFunc, .nilFunc, .nilFunc, .nilFunc, .nilFunc, .nilFunc, .nilFunc, .nilFunc, .nilFunc, .nilFunc, .nilFunc, .nilFunc, .nilFunc, .nilFunc, .nilFunc, .nilFunc, .nilFunc, .nilFunc, .nilFunc, .nilFunc, .nilFunc, .nilFunc, .nilFunc, .nilFunc, .nilFunc, .nilFunc, .nilFunc] 56)).heap.size = w.heap.size + 1 := by simp
  rw [e] at this
  exact this
 go_enter Tryz.func12, Tryz.ntmps12
 go_upto_region 2 with (refine wpList_store_row rfl 56 _ _ rfl _ _ rfl rfl 56 _ (heap_alloc2_new _ _ _) (by kernel_rfl) rfl (by kernel_rfl) ?_; rw [setRow_alloc2W])
 simp only [Act.put]
 rw [<- hw1]
 have HZ0 : Hid (w1.heap[w.heap.size]? = some (.cells #[.nilFunc, .nilFunc, .nilFunc, .nilFunc, .nilFunc, .nilFunc, .nilFunc, .nilFunc, .nilFunc, .nilFunc, .nilFunc, .nilFunc, .nilFunc, .nilFunc, .nilFunc, .nilFunc, .nilFunc, .nilFunc, .nilFunc, .nilFunc, .nilFunc, .nilFunc, .nilFunc, .nilFunc, .nilFunc, .nilFunc, .nilFunc, .nilFunc, .nilFunc, .nilFunc, .nilFunc] 56 (0, 0))) := by rw [hw1, heap_alloc_old _ _ (by simp)]; exact heap_alloc_new _ _
 clear hw1
 go_wp2_with fail
 go_loopw [2] (fun u wr => ∃ k : Nat, 2 <= k /\ k <= 20 /\ u = .int .i64 (k : Int) /\ Hid (wr.heap[w.heap.size + 1]? = some (.cells (tK k).toArray 56 (0, 0)) /\ Below w.heap.size w wr /\ wr.heap[w.heap.size]? = some (.cells #[.nilFunc, .nilFunc, .nilFunc, .nilFunc, .nilFunc, .nilFunc, .nilFunc, .nilFunc, .nilFunc, .nilFunc, .nilFunc, .nilFunc, .nilFunc, .nilFunc, .nilFunc, .nilFunc, .nilFunc, .nilFunc, .nilFunc, .nilFunc, .nilFunc, .nilFunc, .nilFunc, .nilFunc, .nilFunc, .nilFunc, .nilFunc, .nilFunc, .nilFunc, .nilFunc, .nilFunc] 56 (0, 0)))) (fun u _ => 20 - (intOf u).toNat)
 case atStart => exact ⟨2, by omega, by omega, rfl, HK0.out.1, HK0.out.2, HZ0.out⟩
 case round =>
  clear HK0 HZ0
  obtain ⟨k, h2, h20, rfl, HK⟩ := hrel
  by_cases hlt : k <= 19
  ·have hc : k = 2 \/ k = 3 \/ k = 4 \/ k = 5 \/ k = 6 \/ k = 7 \/ k = 8 \/ k = 9 \/ k = 10 \/ k = 11 \/ k = 12 \/ k = 13 \/ k = 14 \/ k = 15 \/ k = 16 \/ k = 17 \/ k = 18 \/ k = 19 := by omega
   clear h2 h20 hlt
   rcases hc with rfl | rfl | rfl | rfl | rfl | rfl | rfl | rfl | rfl | rfl | rfl | rfl | rfl | rfl | rfl | rfl | rfl | rfl
   ·have eK : tK 2 = tK 2 := rfl
    have k0 : wr.cell? ⟨w.heap.size + 1, 2, none⟩ = some (.nilFunc) := cell_arr HK.out.1 rfl
    have z0 : wr.frozen? ⟨w.heap.size + 1, 2, none⟩ = false := fz_of HK.out.1
    have hl : w.heap.size + 1 < wr.heap.size := (gl HK.out.1)
    have HNX : Hid ((wr.setCell ⟨w.heap.size + 1, 2, none⟩ (.func (.func 37) #[] #[])).heap[w.heap.size + 1]? = some (.cells (tK 3).toArray 56 (0, 0)) /\ Below w.heap.size w (wr.setCell ⟨w.heap.size + 1, 2, none⟩ (.func (.func 37) #[] #[])) /\ (wr.setCell ⟨w.heap.size + 1, 2, none⟩ (.func (.func 37) #[] #[])).heap[w.heap.size]? = some (.cells #[.nilFunc, .nilFunc, .nilFunc, .nilFunc, .nilFunc, .nilFunc, .nilFunc, .nilFunc, .nilFunc, .nilFunc, .nilFunc, .nilFunc, .nilFunc, .nilFunc, .nilFunc, .nilFunc, .nilFunc, .nilFunc, .nilFunc, .nilFunc, .nilFunc, .nilFunc, .nilFunc, .nilFunc, .nilFunc, .nilFunc, .nilFunc, .nilFunc, .nilFunc, .nilFunc, .nilFunc] 56 (0, 0))) := ⟨box_at HK.out.1 rfl, HK.out.2.1.setCell (show w.heap.size <= w.heap.size + 1 by omega) _, (heap_set_other (by omega)).trans HK.out.2.2⟩
    have heq : ∀ w : World, (binOp .eql 54 (.nilFunc) .nilFunc).run Tryz.prog w = .ok (.bool true) w := fun _ => by kernel_rfl
    have hst : (store ⟨w.heap.size + 1, 2, none⟩ (.func (.func 37) #[] #[])).run Tryz.prog wr = .ok () (wr.setCell ⟨w.heap.size + 1, 2, none⟩ (.func (.func 37) #[] #[])) := (run_store Tryz.prog wr _ _ _ rfl).trans (by simp [stored, k0, z0])
    clear HK eK
    go_wp2_with fail
    go_roundw
    case rel => exact ⟨3, by omega, by omega, by first | rfl | go_num, HNX.out⟩
    case measure => simp [intOf]
   ·have eK : tK 3 = tK 3 := rfl
    have k0 : wr.cell? ⟨w.heap.size + 1, 3, none⟩ = some (.nilFunc) := cell_arr HK.out.1 rfl
    have z0 : wr.frozen? ⟨w.heap.size + 1, 3, none⟩ = false := fz_of HK.out.1
    have hl : w.heap.size + 1 < wr.heap.size := (gl HK.out.1)
    have HNX : Hid ((wr.setCell ⟨w.heap.size + 1, 3, none⟩ (.func (.func 37) #[] #[])).heap[w.heap.size + 1]? = some (.cells (tK 4).toArray 56 (0, 0)) /\ Below w.heap.size w (wr.setCell ⟨w.heap.size + 1, 3, none⟩ (.func (.func 37) #[] #[])) /\ (wr.setCell ⟨w.heap.size + 1, 3, none⟩ (.func (.func 37) #[] #[])).heap[w.heap.size]? = some (.cells #[.nilFunc, .nilFunc, .nilFunc, .nilFunc, .nilFunc, .nilFunc, .nilFunc, .nilFunc, .nilFunc, .nilFunc, .nilFunc, .nilFunc, .nilFunc, .nilFunc, .nilFunc, .nilFunc, .nilFunc, .nilFunc, .nilFunc, .nilFunc, .nilFunc, .nilFunc, .nilFunc, .nilFunc, .nilFunc, .nilFunc, .nilFunc, .nilFunc, .nilFunc, .nilFunc, .nilFunc] 56 (0, 0))) := ⟨box_at HK.out.1 rfl, HK.out.2.1.setCell (show w.heap.size <= w.heap.size + 1 by omega) _, (heap_set_other (by omega)).trans HK.out.2.2⟩
    have heq : ∀ w : World, (binOp .eql 54 (.nilFunc) .nilFunc).run Tryz.prog w = .ok (.bool true) w := fun _ => by kernel_rfl
    have hst : (store ⟨w.heap.size + 1, 3, none⟩ (.func (.func 37) #[] #[])).run Tryz.prog wr = .ok () (wr.setCell ⟨w.heap.size + 1, 3, none⟩ (.func (.func 37) #[] #[])) := (run_store Tryz.prog wr _ _ _ rfl).trans (by simp [stored, k0, z0])
    clear HK eK
    go_wp2_with fail
    go_roundw
    case rel => exact ⟨4, by omega, by omega, by first | rfl | go_num, HNX.out⟩
    case measure => simp [intOf]
   ·have eK : tK 4 = tK 4 := rfl
    have k0 : wr.cell? ⟨w.heap.size + 1, 4, none⟩ = some (.nilFunc) := cell_arr HK.out.1 rfl
    have z0 : wr.frozen? ⟨w.heap.size + 1, 4, none⟩ = false := fz_of HK.out.1
    have hl : w.heap.size + 1 < wr.heap.size := (gl HK.out.1)
    have HNX : Hid ((wr.setCell ⟨w.heap.size + 1, 4, none⟩ (.func (.func 37) #[] #[])).heap[w.heap.size + 1]? = some (.cells (tK 5).toArray 56 (0, 0)) /\ Below w.heap.size w (wr.setCell ⟨w.heap.size + 1, 4, none⟩ (.func (.func 37) #[] #[])) /\ (wr.setCell ⟨w.heap.size + 1, 4, none⟩ (.func (.func 37) #[] #[])).heap[w.heap.size]? = some (.cells #[.nilFunc, .nilFunc, .nilFunc, .nilFunc, .nilFunc, .nilFunc, .nilFunc, .nilFunc, .nilFunc, .nilFunc, .nilFunc, .nilFunc, .nilFunc, .nilFunc, .nilFunc, .nilFunc, .nilFunc, .nilFunc, .nilFunc, .nilFunc, .nilFunc, .nilFunc, .nilFunc, .nilFunc, .nilFunc, .nilFunc, .nilFunc, .nilFunc, .nilFunc, .nilFunc, .nilFunc] 56 (0, 0))) := ⟨box_at HK.out.1 rfl, HK.out.2.1.setCell (show w.heap.size <= w.heap.size + 1 by omega) _, (heap_set_other (by omega)).trans HK.out.2.2⟩
    have heq : ∀ w : World, (binOp .eql 54 (.nilFunc) .nilFunc).run Tryz.prog w = .ok (.bool true) w := fun _ => by kernel_rfl
    have hst : (store ⟨w.heap.size + 1, 4, none⟩ (.func (.func 37) #[] #[])).run Tryz.prog wr = .ok () (wr.setCell ⟨w.heap.size + 1, 4, none⟩ (.func (.func 37) #[] #[])) := (run_store Tryz.prog wr _ _ _ rfl).trans (by simp [stored, k0, z0])
    clear HK eK
    go_wp2_with fail
    go_roundw
    case rel => exact ⟨5, by omega, by omega, by first | rfl | go_num, HNX.out⟩
    case measure => simp [intOf]
   ·have eK : tK 5 = tK 5 := rfl
    have k0 : wr.cell? ⟨w.heap.size + 1, 5, none⟩ = some (.func (.func 24) #[] #[]) := cell_arr HK.out.1 rfl
    have z0 : wr.frozen? ⟨w.heap.size + 1, 5, none⟩ = false := fz_of HK.out.1
    have hl : w.heap.size + 1 < wr.heap.size := (gl HK.out.1)
    have HNX : Hid (wr.heap[w.heap.size + 1]? = some (.cells (tK 6).toArray 56 (0, 0)) /\ Below w.heap.size w wr /\ wr.heap[w.heap.size]? = some (.cells #[.nilFunc, .nilFunc, .nilFunc, .nilFunc, .nilFunc, .nilFunc, .nilFunc, .nilFunc, .nilFunc, .nilFunc, .nilFunc, .nilFunc, .nilFunc, .nilFunc, .nilFunc, .nilFunc, .nilFunc, .nilFunc, .nilFunc, .nilFunc, .nilFunc, .nilFunc, .nilFunc, .nilFunc, .nilFunc, .nilFunc, .nilFunc, .nilFunc, .nilFunc, .nilFunc, .nilFunc] 56 (0, 0))) := HK.out
    have heq : ∀ w : World, (binOp .eql 54 (.func (.func 24) #[] #[]) .nilFunc).run Tryz.prog w = .ok (.bool false) w := fun _ => by kernel_rfl
    clear HK eK
    go_wp2_with fail
    go_roundw
    case rel => exact ⟨6, by omega, by omega, by first | rfl | go_num, HNX.out⟩
    case measure => simp [intOf]
   ·have eK : tK 6 = tK 6 := rfl
    have k0 : wr.cell? ⟨w.heap.size + 1, 6, none⟩ = some (.func (.func 24) #[] #[]) := cell_arr HK.out.1 rfl
    have z0 : wr.frozen? ⟨w.heap.size + 1, 6, none⟩ = false := fz_of HK.out.1
    have hl : w.heap.size + 1 < wr.heap.size := (gl HK.out.1)
    have HNX : Hid (wr.heap[w.heap.size + 1]? = some (.cells (tK 7).toArray 56 (0, 0)) /\ Below w.heap.size w wr /\ wr.heap[w.heap.size]? = some (.cells #[.nilFunc, .nilFunc, .nilFunc, .nilFunc, .nilFunc, .nilFunc, .nilFunc, .nilFunc, .nilFunc, .nilFunc, .nilFunc, .nilFunc, .nilFunc, .nilFunc, .nilFunc, .nilFunc, .nilFunc, .nilFunc, .nilFunc, .nilFunc, .nilFunc, .nilFunc, .nilFunc, .nilFunc, .nilFunc, .nilFunc, .nilFunc, .nilFunc, .nilFunc, .nilFunc, .nilFunc] 56 (0, 0))) := HK.out
    have heq : ∀ w : World, (binOp .eql 54 (.func (.func 24) #[] #[]) .nilFunc).run Tryz.prog w = .ok (.bool false) w := fun _ => by kernel_rfl
    clear HK eK
    go_wp2_with fail
    go_roundw
    case rel => exact ⟨7, by omega, by omega, by first | rfl | go_num, HNX.out⟩
    case measure => simp [intOf]
   ·have eK : tK 7 = tK 7 := rfl
    have k0 : wr.cell? ⟨w.heap.size + 1, 7, none⟩ = some (.nilFunc) := cell_arr HK.out.1 rfl
    have z0 : wr.frozen? ⟨w.heap.size + 1, 7, none⟩ = false := fz_of HK.out.1
    have hl : w.heap.size + 1 < wr.heap.size := (gl HK.out.1)
    have HNX : Hid ((wr.setCell ⟨w.heap.size + 1, 7, none⟩ (.func (.func 37) #[] #[])).heap[w.heap.size + 1]? = some (.cells (tK 8).toArray 56 (0, 0)) /\ Below w.heap.size w (wr.setCell ⟨w.heap.size + 1, 7, none⟩ (.func (.func 37) #[] #[])) /\ (wr.setCell ⟨w.heap.size + 1, 7, none⟩ (.func (.func 37) #[] #[])).heap[w.heap.size]? = some (.cells #[.nilFunc, .nilFunc, .nilFunc, .nilFunc, .nilFunc, .nilFunc, .nilFunc, .nilFunc, .nilFunc, .nilFunc, .nilFunc, .nilFunc, .nilFunc, .nilFunc, .nilFunc, .nilFunc, .nilFunc, .nilFunc, .nilFunc, .nilFunc, .nilFunc, .nilFunc, .nilFunc, .nilFunc, .nilFunc, .nilFunc, .nilFunc, .nilFunc, .nilFunc, .nilFunc, .nilFunc] 56 (0, 0))) := ⟨box_at HK.out.1 rfl, HK.out.2.1.setCell (show w.heap.size <= w.heap.size + 1 by omega) _, (heap_set_other (by omega)).trans HK.out.2.2⟩
    have heq : ∀ w : World, (binOp .eql 54 (.nilFunc) .nilFunc).run Tryz.prog w = .ok (.bool true) w := fun _ => by kernel_rfl
    have hst : (store ⟨w.heap.size + 1, 7, none⟩ (.func (.func 37) #[] #[])).run Tryz.prog wr = .ok () (wr.setCell ⟨w.heap.size + 1, 7, none⟩ (.func (.func 37) #[] #[])) := (run_store Tryz.prog wr _ _ _ rfl).trans (by simp [stored, k0, z0])
    clear HK eK
    go_wp2_with fail
    go_roundw
    case rel => exact ⟨8, by omega, by omega, by first | rfl | go_num, HNX.out⟩
    case measure => simp [intOf]
   ·have eK : tK 8 = tK 8 := rfl
    have k0 : wr.cell? ⟨w.heap.size + 1, 8, none⟩ = some (.nilFunc) := cell_arr HK.out.1 rfl
    have z0 : wr.frozen? ⟨w.heap.size + 1, 8, none⟩ = false := fz_of HK.out.1
    have hl : w.heap.size + 1 < wr.heap.size := (gl HK.out.1)
    have HNX : Hid ((wr.setCell ⟨w.heap.size + 1, 8, none⟩ (.func (.func 37) #[] #[])).heap[w.heap.size + 1]? = some (.cells (tK 9).toArray 56 (0, 0)) /\ Below w.heap.size w (wr.setCell ⟨w.heap.size + 1, 8, none⟩ (.func (.func 37) #[] #[])) /\ (wr.setCell ⟨w.heap.size + 1, 8, none⟩ (.func (.func 37) #[] #[])).heap[w.heap.size]? = some (.cells #[.nilFunc, .nilFunc, .nilFunc, .nilFunc, .nilFunc, .nilFunc, .nilFunc, .nilFunc, .nilFunc, .nilFunc, .nilFunc, .nilFunc, .nilFunc, .nilFunc, .nilFunc, .nilFunc, .nilFunc, .nilFunc, .nilFunc, .nilFunc, .nilFunc, .nilFunc, .nilFunc, .nilFunc, .nilFunc, .nilFunc, .nilFunc, .nilFunc, .nilFunc, .nilFunc, .nilFunc] 56 (0, 0))) := ⟨box_at HK.out.1 rfl, HK.out.2.1.setCell (show w.heap.size <= w.heap.size + 1 by omega) _, (heap_set_other (by omega)).trans HK.out.2.2⟩
    have heq : ∀ w : World, (binOp .eql 54 (.nilFunc) .nilFunc).run Tryz.prog w = .ok (.bool true) w := fun _ => by kernel_rfl
    have hst : (store ⟨w.heap.size + 1, 8, none⟩ (.func (.func 37) #[] #[])).run Tryz.prog wr = .ok () (wr.setCell ⟨w.heap.size + 1, 8, none⟩ (.func (.func 37) #[] #[])) := (run_store Tryz.prog wr _ _ _ rfl).trans (by simp [stored, k0, z0])
    clear HK eK
    go_wp2_with fail
    go_roundw
    case rel => exact ⟨9, by omega, by omega, by first | rfl | go_num, HNX.out⟩
    case measure => simp [intOf]
   ·have eK : tK 9 = tK 9 := rfl
    have k0 : wr.cell? ⟨w.heap.size + 1, 9, none⟩ = some (.nilFunc) := cell_arr HK.out.1 rfl
    have z0 : wr.frozen? ⟨w.heap.size + 1, 9, none⟩ = false := fz_of HK.out.1
    have hl : w.heap.size + 1 < wr.heap.size := (gl HK.out.1)
    have HNX : Hid ((wr.setCell ⟨w.heap.size + 1, 9, none⟩ (.func (.func 37) #[] #[])).heap[w.heap.size + 1]? = some (.cells (tK 10).toArray 56 (0, 0)) /\ Below w.heap.size w (wr.setCell ⟨w.heap.size + 1, 9, none⟩ (.func (.func 37) #[] #[])) /\ (wr.setCell ⟨w.heap.size + 1, 9, none⟩ (.func (.func 37) #[] #[])).heap[w.heap.size]? = some (.cells #[.nilFunc, .nilFunc, .nilFunc, .nilFunc, .nilFunc, .nilFunc, .nilFunc, .nilFunc, .nilFunc, .nilFunc, .nilFunc, .nilFunc, .nilFunc, .nilFunc, .nilFunc, .nilFunc, .nilFunc, .nilFunc, .nilFunc, .nilFunc, .nilFunc, .nilFunc, .nilFunc, .nilFunc, .nilFunc, .nilFunc, .nilFunc, .nilFunc, .nilFunc, .nilFunc, .nilFunc] 56 (0, 0))) := ⟨box_at HK.out.1 rfl, HK.out.2.1.setCell (show w.heap.size <= w.heap.size + 1 by omega) _, (heap_set_other (by omega)).trans HK.out.2.2⟩
    have heq : ∀ w : World, (binOp .eql 54 (.nilFunc) .nilFunc).run Tryz.prog w = .ok (.bool true) w := fun _ => by kernel_rfl
    have hst : (store ⟨w.heap.size + 1, 9, none⟩ (.func (.func 37) #[] #[])).run Tryz.prog wr = .ok () (wr.setCell ⟨w.heap.size + 1, 9, none⟩ (.func (.func 37) #[] #[])) := (run_store Tryz.prog wr _ _ _ rfl).trans (by simp [stored, k0, z0])
    clear HK eK
    go_wp2_with fail
    go_roundw
    case rel => exact ⟨10, by omega, by omega, by first | rfl | go_num, HNX.out⟩
    case measure => simp [intOf]
   ·have eK : tK 10 = tK 10 := rfl
    have k0 : wr.cell? ⟨w.heap.size + 1, 10, none⟩ = some (.nilFunc) := cell_arr HK.out.1 rfl
    have z0 : wr.frozen? ⟨w.heap.size + 1, 10, none⟩ = false := fz_of HK.out.1
    have hl : w.heap.size + 1 < wr.heap.size := (gl HK.out.1)
    have HNX : Hid ((wr.setCell ⟨w.heap.size + 1, 10, none⟩ (.func (.func 37) #[] #[])).heap[w.heap.size + 1]? = some (.cells (tK 11).toArray 56 (0, 0)) /\ Below w.heap.size w (wr.setCell ⟨w.heap.size + 1, 10, none⟩ (.func (.func 37) #[] #[])) /\ (wr.setCell ⟨w.heap.size + 1, 10, none⟩ (.func (.func 37) #[] #[])).heap[w.heap.size]? = some (.cells #[.nilFunc, .nilFunc, .nilFunc, .nilFunc, .nilFunc, .nilFunc, .nilFunc, .nilFunc, .nilFunc, .nilFunc, .nilFunc, .nilFunc, .nilFunc, .nilFunc, .nilFunc, .nilFunc, .nilFunc, .nilFunc, .nilFunc, .nilFunc, .nilFunc, .nilFunc, .nilFunc, .nilFunc, .nilFunc, .nilFunc, .nilFunc, .nilFunc, .nilFunc, .nilFunc, .nilFunc] 56 (0, 0))) := ⟨box_at HK.out.1 rfl, HK.out.2.1.setCell (show w.heap.size <= w.heap.size + 1 by omega) _, (heap_set_other (by omega)).trans HK.out.2.2⟩
    have heq : ∀ w : World, (binOp .eql 54 (.nilFunc) .nilFunc).run Tryz.prog w = .ok (.bool true) w := fun _ => by kernel_rfl
    have hst : (store ⟨w.heap.size + 1, 10, none⟩ (.func (.func 37) #[] #[])).run Tryz.prog wr = .ok () (wr.setCell ⟨w.heap.size + 1, 10, none⟩ (.func (.func 37) #[] #[])) := (run_store Tryz.prog wr _ _ _ rfl).trans (by simp [stored, k0, z0])
    clear HK eK
    go_wp2_with fail
    go_roundw
    case rel => exact ⟨11, by omega, by omega, by first | rfl | go_num, HNX.out⟩
    case measure => simp [intOf]
   ·have eK : tK 11 = tK 11 := rfl
    have k0 : wr.cell? ⟨w.heap.size + 1, 11, none⟩ = some (.func (.func 25) #[] #[]) := cell_arr HK.out.1 rfl
    have z0 : wr.frozen? ⟨w.heap.size + 1, 11, none⟩ = false := fz_of HK.out.1
    have hl : w.heap.size + 1 < wr.heap.size := (gl HK.out.1)
    have HNX : Hid (wr.heap[w.heap.size + 1]? = some (.cells (tK 12).toArray 56 (0, 0)) /\ Below w.heap.size w wr /\ wr.heap[w.heap.size]? = some (.cells #[.nilFunc, .nilFunc, .nilFunc, .nilFunc, .nilFunc, .nilFunc, .nilFunc, .nilFunc, .nilFunc, .nilFunc, .nilFunc, .nilFunc, .nilFunc, .nilFunc, .nilFunc, .nilFunc, .nilFunc, .nilFunc, .nilFunc, .nilFunc, .nilFunc, .nilFunc, .nilFunc, .nilFunc, .nilFunc, .nilFunc, .nilFunc, .nilFunc, .nilFunc, .nilFunc, .nilFunc] 56 (0, 0))) := HK.out
    have heq : ∀ w : World, (binOp .eql 54 (.func (.func 25) #[] #[]) .nilFunc).run Tryz.prog w = .ok (.bool false) w := fun _ => by kernel_rfl
    clear HK eK
    go_wp2_with fail
    go_roundw
    case rel => exact ⟨12, by omega, by omega, by first | rfl | go_num, HNX.out⟩
    case measure => simp [intOf]
   ·have eK : tK 12 = tK 12 := rfl
    have k0 : wr.cell? ⟨w.heap.size + 1, 12, none⟩ = some (.func (.func 25) #[] #[]) := cell_arr HK.out.1 rfl
    have z0 : wr.frozen? ⟨w.heap.size + 1, 12, none⟩ = false := fz_of HK.out.1
    have hl : w.heap.size + 1 < wr.heap.size := (gl HK.out.1)
    have HNX : Hid (wr.heap[w.heap.size + 1]? = some (.cells (tK 13).toArray 56 (0, 0)) /\ Below w.heap.size w wr /\ wr.heap[w.heap.size]? = some (.cells #[.nilFunc, .nilFunc, .nilFunc, .nilFunc, .nilFunc, .nilFunc, .nilFunc, .nilFunc, .nilFunc, .nilFunc, .nilFunc, .nilFunc, .nilFunc, .nilFunc, .nilFunc, .nilFunc, .nilFunc, .nilFunc, .nilFunc, .nilFunc, .nilFunc, .nilFunc, .nilFunc, .nilFunc, .nilFunc, .nilFunc, .nilFunc, .nilFunc, .nilFunc, .nilFunc, .nilFunc] 56 (0, 0))) := HK.out
    have heq : ∀ w : World, (binOp .eql 54 (.func (.func 25) #[] #[]) .nilFunc).run Tryz.prog w = .ok (.bool false) w := fun _ => by kernel_rfl
    clear HK eK
    go_wp2_with fail
    go_roundw
    case rel => exact ⟨13, by omega, by omega, by first | rfl | go_num, HNX.out⟩
    case measure => simp [intOf]
   ·have eK : tK 13 = tK 13 := rfl
    have k0 : wr.cell? ⟨w.heap.size + 1, 13, none⟩ = some (.nilFunc) := cell_arr HK.out.1 rfl
    have z0 : wr.frozen? ⟨w.heap.size + 1, 13, none⟩ = false := fz_of HK.out.1
    have hl : w.heap.size + 1 < wr.heap.size := (gl HK.out.1)
    have HNX : Hid ((wr.setCell ⟨w.heap.size + 1, 13, none⟩ (.func (.func 37) #[] #[])).heap[w.heap.size + 1]? = some (.cells (tK 14).toArray 56 (0, 0)) /\ Below w.heap.size w (wr.setCell ⟨w.heap.size + 1, 13, none⟩ (.func (.func 37) #[] #[])) /\ (wr.setCell ⟨w.heap.size + 1, 13, none⟩ (.func (.func 37) #[] #[])).heap[w.heap.size]? = some (.cells #[.nilFunc, .nilFunc, .nilFunc, .nilFunc, .nilFunc, .nilFunc, .nilFunc, .nilFunc, .nilFunc, .nilFunc, .nilFunc, .nilFunc, .nilFunc, .nilFunc, .nilFunc, .nilFunc, .nilFunc, .nilFunc, .nilFunc, .nilFunc, .nilFunc, .nilFunc, .nilFunc, .nilFunc, .nilFunc, .nilFunc, .nilFunc, .nilFunc, .nilFunc, .nilFunc, .nilFunc] 56 (0, 0))) := ⟨box_at HK.out.1 rfl, HK.out.2.1.setCell (show w.heap.size <= w.heap.size + 1 by omega) _, (heap_set_other (by omega)).trans HK.out.2.2⟩
    have heq : ∀ w : World, (binOp .eql 54 (.nilFunc) .nilFunc).run Tryz.prog w = .ok (.bool true) w := fun _ => by kernel_rfl
    have hst : (store ⟨w.heap.size + 1, 13, none⟩ (.func (.func 37) #[] #[])).run Tryz.prog wr = .ok () (wr.setCell ⟨w.heap.size + 1, 13, none⟩ (.func (.func 37) #[] #[])) := (run_store Tryz.prog wr _ _ _ rfl).trans (by simp [stored, k0, z0])
    clear HK eK
    go_wp2_with fail
    go_roundw
    case rel => exact ⟨14, by omega, by omega, by first | rfl | go_num, HNX.out⟩
    case measure => simp [intOf]
   ·have eK : tK 14 = tK 14 := rfl
    have k0 : wr.cell? ⟨w.heap.size + 1, 14, none⟩ = some (.nilFunc) := cell_arr HK.out.1 rfl
    have z0 : wr.frozen? ⟨w.heap.size + 1, 14, none⟩ = false := fz_of HK.out.1
    have hl : w.heap.size + 1 < wr.heap.size := (gl HK.out.1)
    have HNX : Hid ((wr.setCell ⟨w.heap.size + 1, 14, none⟩ (.func (.func 37) #[] #[])).heap[w.heap.size + 1]? = some (.cells (tK 15).toArray 56 (0, 0)) /\ Below w.heap.size w (wr.setCell ⟨w.heap.size + 1, 14, none⟩ (.func (.func 37) #[] #[])) /\ (wr.setCell ⟨w.heap.size + 1, 14, none⟩ (.func (.func 37) #[] #[])).heap[w.heap.size]? = some (.cells #[.nilFunc, .nilFunc, .nilFunc, .nilFunc, .nilFunc, .nilFunc, .nilFunc, .nilFunc, .nilFunc, .nilFunc, .nilFunc, .nilFunc, .nilFunc, .nilFunc, .nilFunc, .nilFunc, .nilFunc, .nilFunc, .nilFunc, .nilFunc, .nilFunc, .nilFunc, .nilFunc, .nilFunc, .nilFunc, .nilFunc, .nilFunc, .nilFunc, .nilFunc, .nilFunc, .nilFunc] 56 (0, 0))) := ⟨box_at HK.out.1 rfl, HK.out.2.1.setCell (show w.heap.size <= w.heap.size + 1 by omega) _, (heap_set_other (by omega)).trans HK.out.2.2⟩
    have heq : ∀ w : World, (binOp .eql 54 (.nilFunc) .nilFunc).run Tryz.prog w = .ok (.bool true) w := fun _ => by kernel_rfl
    have hst : (store ⟨w.heap.size + 1, 14, none⟩ (.func (.func 37) #[] #[])).run Tryz.prog wr = .ok () (wr.setCell ⟨w.heap.size + 1, 14, none⟩ (.func (.func 37) #[] #[])) := (run_store Tryz.prog wr _ _ _ rfl).trans (by simp [stored, k0, z0])
    clear HK eK
    go_wp2_with fail
    go_roundw
    case rel => exact ⟨15, by omega, by omega, by first | rfl | go_num, HNX.out⟩
    case measure => simp [intOf]
   ·have eK : tK 15 = tK 15 := rfl
    have k0 : wr.cell? ⟨w.heap.size + 1, 15, none⟩ = some (.nilFunc) := cell_arr HK.out.1 rfl
    have z0 : wr.frozen? ⟨w.heap.size + 1, 15, none⟩ = false := fz_of HK.out.1
    have hl : w.heap.size + 1 < wr.heap.size := (gl HK.out.1)
    have HNX : Hid ((wr.setCell ⟨w.heap.size + 1, 15, none⟩ (.func (.func 37) #[] #[])).heap[w.heap.size + 1]? = some (.cells (tK 16).toArray 56 (0, 0)) /\ Below w.heap.size w (wr.setCell ⟨w.heap.size + 1, 15, none⟩ (.func (.func 37) #[] #[])) /\ (wr.setCell ⟨w.heap.size + 1, 15, none⟩ (.func (.func 37) #[] #[])).heap[w.heap.size]? = some (.cells #[.nilFunc, .nilFunc, .nilFunc, .nilFunc, .nilFunc, .nilFunc, .nilFunc, .nilFunc, .nilFunc, .nilFunc, .nilFunc, .nilFunc, .nilFunc, .nilFunc, .nilFunc, .nilFunc, .nilFunc, .nilFunc, .nilFunc, .nilFunc, .nilFunc, .nilFunc, .nilFunc, .nilFunc, .nilFunc, .nilFunc, .nilFunc, .nilFunc, .nilFunc, .nilFunc, .nilFunc] 56 (0, 0))) := ⟨box_at HK.out.1 rfl, HK.out.2.1.setCell (show w.heap.size <= w.heap.size + 1 by omega) _, (heap_set_other (by omega)).trans HK.out.2.2⟩
    have heq : ∀ w : World, (binOp .eql 54 (.nilFunc) .nilFunc).run Tryz.prog w = .ok (.bool true) w := fun _ => by kernel_rfl
    have hst : (store ⟨w.heap.size + 1, 15, none⟩ (.func (.func 37) #[] #[])).run Tryz.prog wr = .ok () (wr.setCell ⟨w.heap.size + 1, 15, none⟩ (.func (.func 37) #[] #[])) := (run_store Tryz.prog wr _ _ _ rfl).trans (by simp [stored, k0, z0])
    clear HK eK
    go_wp2_with fail
    go_roundw
    case rel => exact ⟨16, by omega, by omega, by first | rfl | go_num, HNX.out⟩
    case measure => simp [intOf]
   ·have eK : tK 16 = tK 16 := rfl
    have k0 : wr.cell? ⟨w.heap.size + 1, 16, none⟩ = some (.nilFunc) := cell_arr HK.out.1 rfl
    have z0 : wr.frozen? ⟨w.heap.size + 1, 16, none⟩ = false := fz_of HK.out.1
    have hl : w.heap.size + 1 < wr.heap.size := (gl HK.out.1)
    have HNX : Hid ((wr.setCell ⟨w.heap.size + 1, 16, none⟩ (.func (.func 37) #[] #[])).heap[w.heap.size + 1]? = some (.cells (tK 17).toArray 56 (0, 0)) /\ Below w.heap.size w (wr.setCell ⟨w.heap.size + 1, 16, none⟩ (.func (.func 37) #[] #[])) /\ (wr.setCell ⟨w.heap.size + 1, 16, none⟩ (.func (.func 37) #[] #[])).heap[w.heap.size]? = some (.cells #[.nilFunc, .nilFunc, .nilFunc, .nilFunc, .nilFunc, .nilFunc, .nilFunc, .nilFunc, .nilFunc, .nilFunc, .nilFunc, .nilFunc, .nilFunc, .nilFunc, .nilFunc, .nilFunc, .nilFunc, .nilFunc, .nilFunc, .nilFunc, .nilFunc, .nilFunc, .nilFunc, .nilFunc, .nilFunc, .nilFunc, .nilFunc, .nilFunc, .nilFunc, .nilFunc, .nilFunc] 56 (0, 0))) := ⟨box_at HK.out.1 rfl, HK.out.2.1.setCell (show w.heap.size <= w.heap.size + 1 by omega) _, (heap_set_other (by omega)).trans HK.out.2.2⟩
    have heq : ∀ w : World, (binOp .eql 54 (.nilFunc) .nilFunc).run Tryz.prog w = .ok (.bool true) w := fun _ => by kernel_rfl
    have hst : (store ⟨w.heap.size + 1, 16, none⟩ (.func (.func 37) #[] #[])).run Tryz.prog wr = .ok () (wr.setCell ⟨w.heap.size + 1, 16, none⟩ (.func (.func 37) #[] #[])) := (run_store Tryz.prog wr _ _ _ rfl).trans (by simp [stored, k0, z0])
    clear HK eK
    go_wp2_with fail
    go_roundw
    case rel => exact ⟨17, by omega, by omega, by first | rfl | go_num, HNX.out⟩
    case measure => simp [intOf]
   ·have eK : tK 17 = tK 17 := rfl
    have k0 : wr.cell? ⟨w.heap.size + 1, 17, none⟩ = some (.nilFunc) := cell_arr HK.out.1 rfl
    have z0 : wr.frozen? ⟨w.heap.size + 1, 17, none⟩ = false := fz_of HK.out.1
    have hl : w.heap.size + 1 < wr.heap.size := (gl HK.out.1)
    have HNX : Hid ((wr.setCell ⟨w.heap.size + 1, 17, none⟩ (.func (.func 37) #[] #[])).heap[w.heap.size + 1]? = some (.cells (tK 18).toArray 56 (0, 0)) /\ Below w.heap.size w (wr.setCell ⟨w.heap.size + 1, 17, none⟩ (.func (.func 37) #[] #[])) /\ (wr.setCell ⟨w.heap.size + 1, 17, none⟩ (.func (.func 37) #[] #[])).heap[w.heap.size]? = some (.cells #[.nilFunc, .nilFunc, .nilFunc, .nilFunc, .nilFunc, .nilFunc, .nilFunc, .nilFunc, .nilFunc, .nilFunc, .nilFunc, .nilFunc, .nilFunc, .nilFunc, .nilFunc, .nilFunc, .nilFunc, .nilFunc, .nilFunc, .nilFunc, .nilFunc, .nilFunc, .nilFunc, .nilFunc, .nilFunc, .nilFunc, .nilFunc, .nilFunc, .nilFunc, .nilFunc, .nilFunc] 56 (0, 0))) := ⟨box_at HK.out.1 rfl, HK.out.2.1.setCell (show w.heap.size <= w.heap.size + 1 by omega) _, (heap_set_other (by omega)).trans HK.out.2.2⟩
    have heq : ∀ w : World, (binOp .eql 54 (.nilFunc) .nilFunc).run Tryz.prog w = .ok (.bool true) w := fun _ => by kernel_rfl
    have hst : (store ⟨w.heap.size + 1, 17, none⟩ (.func (.func 37) #[] #[])).run Tryz.prog wr = .ok () (wr.setCell ⟨w.heap.size + 1, 17, none⟩ (.func (.func 37) #[] #[])) := (run_store Tryz.prog wr _ _ _ rfl).trans (by simp [stored, k0, z0])
    clear HK eK
    go_wp2_with fail
    go_roundw
    case rel => exact ⟨18, by omega, by omega, by first | rfl | go_num, HNX.out⟩
    case measure => simp [intOf]
   ·have eK : tK 18 = tK 18 := rfl
    have k0 : wr.cell? ⟨w.heap.size + 1, 18, none⟩ = some (.nilFunc) := cell_arr HK.out.1 rfl
    have z0 : wr.frozen? ⟨w.heap.size + 1, 18, none⟩ = false := fz_of HK.out.1
    have hl : w.heap.size + 1 < wr.heap.size := (gl HK.out.1)
    have HNX : Hid ((wr.setCell ⟨w.heap.size + 1, 18, none⟩ (.func (.func 37) #[] #[])).heap[w.heap.size + 1]? = some (.cells (tK 19).toArray 56 (0, 0)) /\ Below w.heap.size w (wr.setCell ⟨w.heap.size + 1, 18, none⟩ (.func (.func 37) #[] #[])) /\ (wr.setCell ⟨w.heap.size + 1, 18, none⟩ (.func (.func 37) #[] #[])).heap[w.heap.size]? = some (.cells #[.nilFunc, .nilFunc, .nilFunc, .nilFunc, .nilFunc, .nilFunc, .nilFunc, .nilFunc, .nilFunc, .nilFunc, .nilFunc, .nilFunc, .nilFunc, .nilFunc, .nilFunc, .nilFunc, .nilFunc, .nilFunc, .nilFunc, .nilFunc, .nilFunc, .nilFunc, .nilFunc, .nilFunc, .nilFunc, .nilFunc, .nilFunc, .nilFunc, .nilFunc, .nilFunc, .nilFunc] 56 (0, 0))) := ⟨box_at HK.out.1 rfl, HK.out.2.1.setCell (show w.heap.size <= w.heap.size + 1 by omega) _, (heap_set_other (by omega)).trans HK.out.2.2⟩
    have heq : ∀ w : World, (binOp .eql 54 (.nilFunc) .nilFunc).run Tryz.prog w = .ok (.bool true) w := fun _ => by kernel_rfl
    have hst : (store ⟨w.heap.size + 1, 18, none⟩ (.func (.func 37) #[] #[])).run Tryz.prog wr = .ok () (wr.setCell ⟨w.heap.size + 1, 18, none⟩ (.func (.func 37) #[] #[])) := (run_store Tryz.prog wr _ _ _ rfl).trans (by simp [stored, k0, z0])
    clear HK eK
    go_wp2_with fail
    go_roundw
    case rel => exact ⟨19, by omega, by omega, by first | rfl | go_num, HNX.out⟩
    case measure => simp [intOf]
   ·have eK : tK 19 = tK 19 := rfl
    have k0 : wr.cell? ⟨w.heap.size + 1, 19, none⟩ = some (.nilFunc) := cell_arr HK.out.1 rfl
    have z0 : wr.frozen? ⟨w.heap.size + 1, 19, none⟩ = false := fz_of HK.out.1
    have hl : w.heap.size + 1 < wr.heap.size := (gl HK.out.1)
    have HNX : Hid ((wr.setCell ⟨w.heap.size + 1, 19, none⟩ (.func (.func 37) #[] #[])).heap[w.heap.size + 1]? = some (.cells (tK 20).toArray 56 (0, 0)) /\ Below w.heap.size w (wr.setCell ⟨w.heap.size + 1, 19, none⟩ (.func (.func 37) #[] #[])) /\ (wr.setCell ⟨w.heap.size + 1, 19, none⟩ (.func (.func 37) #[] #[])).heap[w.heap.size]? = some (.cells #[.nilFunc, .nilFunc, .nilFunc, .nilFunc, .nilFunc, .nilFunc, .nilFunc, .nilFunc, .nilFunc, .nilFunc, .nilFunc, .nilFunc, .nilFunc, .nilFunc, .nilFunc, .nilFunc, .nilFunc, .nilFunc, .nilFunc, .nilFunc, .nilFunc, .nilFunc, .nilFunc, .nilFunc, .nilFunc, .nilFunc, .nilFunc, .nilFunc, .nilFunc, .nilFunc, .nilFunc] 56 (0, 0))) := ⟨box_at HK.out.1 rfl, HK.out.2.1.setCell (show w.heap.size <= w.heap.size + 1 by omega) _, (heap_set_other (by omega)).trans HK.out.2.2⟩
    have heq : ∀ w : World, (binOp .eql 54 (.nilFunc) .nilFunc).run Tryz.prog w = .ok (.bool true) w := fun _ => by kernel_rfl
    have hst : (store ⟨w.heap.size + 1, 19, none⟩ (.func (.func 37) #[] #[])).run Tryz.prog wr = .ok () (wr.setCell ⟨w.heap.size + 1, 19, none⟩ (.func (.func 37) #[] #[])) := (run_store Tryz.prog wr _ _ _ rfl).trans (by simp [stored, k0, z0])
    clear HK eK
    go_wp2_with fail
    go_roundw
    case rel => exact ⟨20, by omega, by omega, by first | rfl | go_num, HNX.out⟩
    case measure => simp [intOf]
  ·have hk : k = 20 := by omega
   subst hk
   clear h2 h20 hlt
   have HT : Hid _ := HK.out.1
   have HZ : Hid _ := HK.out.2.2
   obtain ⟨w5, hw5⟩ : ∃ w5, w5 = wr.setRow w.heap.size tblM.toArray := ⟨_, rfl⟩
   have HR : Hid (w5.heap[w.heap.size]? = some (.cells tblM.toArray 56 (0, 0)) /\ Below w.heap.size w w5) := by
    rw [hw5]
    refine ⟨setRow_heap wr w.heap.size _ _ _ _ HK.out.2.2, ?_⟩
    have hb := HK.out.2.1
    exact ⟨hb.os, hb.tape, hb.output, by simpa using hb.size, fun b h => (setRow_other wr w.heap.size b _ (by omega)).trans (hb.block b h)⟩
   clear HK
   go_wp2_with (first
    | (refine wpList_load_row rfl 56 _ rfl _ rfl 56 _ _ _ HT.out Tryz.underlying56 rfl (by kernel_rfl) ?_)
    | (refine wpList_store_row rfl 56 _ _ rfl _ tblM.toArray rfl rfl 56 _ HZ.out (by kernel_rfl) rfl (by kernel_rfl) ?_; rw [<- hw5]; clear hw5))
   refine bodyPost_ret (v := .agg tblM.toArray) ?_ rfl ⟨rfl, HR.out.2⟩
   exact results_cell_row Tryz.results12 _ _ w.heap.size 56 _ (0, 0) _ rfl HR.out.1 Tryz.underlying56 rfl (by kernel_rfl)
end Go.Proofs.YtfbkopjncmkbiabGreatDoor
