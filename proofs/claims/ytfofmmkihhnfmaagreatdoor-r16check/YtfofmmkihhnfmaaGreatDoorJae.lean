import Derived.Below
import Derived.Test.YtfofmmkihhnfmaaGreatDoorJac
import Derived.Test.YtfofmmkihhnfmaaGreatDoorJad
set_option linter.unusedVariables false
set_option linter.unusedSimpArgs false
namespace Go.Proofs.YtfofmmkihhnfmaaGreatDoor
open Go.ChangeShapes Go.WideShapes Go.ChangeAt Go.RowKit
theorem setRow_alloc2W (w : World) (A : Obj) (c c' : Array Value) (t : TypeId) : ((w.alloc A).alloc (.cells c t)).setRow (w.heap.size + 1) c' = (w.alloc A).alloc (.cells c' t) := by
 have h := World.setRow_alloc_new (w.alloc A) c c' t
 have e : (w.alloc A).heap.size = w.heap.size + 1 := by simp
 rw [e] at h
 exact h
theorem do_noneW (op a b : Int) (h : op < 2 \/ 19 < op) (w : World) : Calls Tryz.prog 93 #[.int .i64 op, .int .i64 a, .int .i64 b] w fun e w' => e = .returned (.tuple #[.int .i64 0, .bool false]) /\ Below w.heap.size w w' := by
 by_cases h1 : op < 2
 ·go_enter Tryz.func93, Tryz.ntmps93
  go_wp2
  go_ret2
  exact ⟨rfl, Below.refl _ _⟩
 ·have h2 : 19 < op := by omega
  clear h
  go_enter Tryz.func93, Tryz.ntmps93
  go_wp2
  go_ret2
  exact ⟨rfl, Below.refl _ _⟩
theorem do_2W (a b : Int) (w : World) : Calls Tryz.prog 93 #[.int .i64 2, .int .i64 a, .int .i64 b] w fun e w' => e = .returned (.tuple #[.int .i64 (wrap64 (a + b)), .bool true]) /\ Below w.heap.size w w' := by
 have hk : tblW[0]? = some (Value.func (Fn.func 144) #[] #[]) := rfl
 go_enter Tryz.func93, Tryz.ntmps93
 go_wp2_with (first | (go_at_call 124; refine (operations_anyW _).mono ?_; rintro e w' ⟨rfl, rfl⟩) | (go_at_call 144; refine (add_anyW _ _ _).mono ?_; rintro e w' ⟨rfl, rfl⟩) | (refine wpList_store_row rfl 149 _ _ rfl _ _ rfl rfl 149 _ (heap_alloc2_new _ _ _) (by kernel_rfl) rfl (by kernel_rfl) ?_; rw [setRow_alloc2W]))
 go_ret2
 exact ⟨rfl, ((Below.refl _ _).alloc (Nat.le_refl _) _).alloc (by simp) _⟩
theorem do_3W (a b : Int) (w : World) : Calls Tryz.prog 93 #[.int .i64 3, .int .i64 a, .int .i64 b] w fun e w' => e = .returned (.tuple #[.int .i64 (wrap64 (a - b)), .bool true]) /\ Below w.heap.size w w' := by
 have hk : tblW[1]? = some (Value.func (Fn.func 145) #[] #[]) := rfl
 go_enter Tryz.func93, Tryz.ntmps93
 go_wp2_with (first | (go_at_call 124; refine (operations_anyW _).mono ?_; rintro e w' ⟨rfl, rfl⟩) | (go_at_call 145; refine (sub_anyW _ _ _).mono ?_; rintro e w' ⟨rfl, rfl⟩) | (refine wpList_store_row rfl 149 _ _ rfl _ _ rfl rfl 149 _ (heap_alloc2_new _ _ _) (by kernel_rfl) rfl (by kernel_rfl) ?_; rw [setRow_alloc2W]))
 go_ret2
 exact ⟨rfl, ((Below.refl _ _).alloc (Nat.le_refl _) _).alloc (by simp) _⟩
theorem do_4W (a b : Int) (w : World) : Calls Tryz.prog 93 #[.int .i64 4, .int .i64 a, .int .i64 b] w fun e w' => e = .returned (.tuple #[.int .i64 (wrap64 (a * b)), .bool true]) /\ Below w.heap.size w w' := by
 have hk : tblW[2]? = some (Value.func (Fn.func 146) #[] #[]) := rfl
 go_enter Tryz.func93, Tryz.ntmps93
 go_wp2_with (first | (go_at_call 124; refine (operations_anyW _).mono ?_; rintro e w' ⟨rfl, rfl⟩) | (go_at_call 146; refine (mul_anyW _ _ _).mono ?_; rintro e w' ⟨rfl, rfl⟩) | (refine wpList_store_row rfl 149 _ _ rfl _ _ rfl rfl 149 _ (heap_alloc2_new _ _ _) (by kernel_rfl) rfl (by kernel_rfl) ?_; rw [setRow_alloc2W]))
 go_ret2
 exact ⟨rfl, ((Below.refl _ _).alloc (Nat.le_refl _) _).alloc (by simp) _⟩
theorem do_5W (a b : Int) (w : World) : Calls Tryz.prog 93 #[.int .i64 5, .int .i64 a, .int .i64 b] w fun e w' => e = .returned (.tuple #[.int .i64 (divIW a b), .bool true]) /\ Below w.heap.size w w' := by
 have hk : tblW[3]? = some (Value.func (Fn.func 147) #[] #[]) := rfl
 go_enter Tryz.func93, Tryz.ntmps93
 go_wp2_with (first | (go_at_call 124; refine (operations_anyW _).mono ?_; rintro e w' ⟨rfl, rfl⟩) | (go_at_call 147; refine (div_anyW _ _ _).mono ?_; rintro e w' ⟨rfl, rfl⟩) | (refine wpList_store_row rfl 149 _ _ rfl _ _ rfl rfl 149 _ (heap_alloc2_new _ _ _) (by kernel_rfl) rfl (by kernel_rfl) ?_; rw [setRow_alloc2W]))
 go_ret2
 exact ⟨rfl, ((Below.refl _ _).alloc (Nat.le_refl _) _).alloc (by simp) _⟩
theorem do_6W (a b : Int) (w : World) : Calls Tryz.prog 93 #[.int .i64 6, .int .i64 a, .int .i64 b] w fun e w' => e = .returned (.tuple #[.int .i64 (remIW a b), .bool true]) /\ Below w.heap.size w w' := by
 have hk : tblW[4]? = some (Value.func (Fn.func 148) #[] #[]) := rfl
 go_enter Tryz.func93, Tryz.ntmps93
 go_wp2_with (first | (go_at_call 124; refine (operations_anyW _).mono ?_; rintro e w' ⟨rfl, rfl⟩) | (go_at_call 148; refine (rem_anyW _ _ _).mono ?_; rintro e w' ⟨rfl, rfl⟩) | (refine wpList_store_row rfl 149 _ _ rfl _ _ rfl rfl 149 _ (heap_alloc2_new _ _ _) (by kernel_rfl) rfl (by kernel_rfl) ?_; rw [setRow_alloc2W]))
 go_ret2
 exact ⟨rfl, ((Below.refl _ _).alloc (Nat.le_refl _) _).alloc (by simp) _⟩
theorem do_7W (a b : Int) (w : World) : Calls Tryz.prog 93 #[.int .i64 7, .int .i64 a, .int .i64 b] w fun e w' => e = .returned (.tuple #[.int .i64 (bits .and .i64 a b), .bool true]) /\ Below w.heap.size w w' := by
 have hk : tblW[5]? = some (Value.func (Fn.func 149) #[] #[]) := rfl
 go_enter Tryz.func93, Tryz.ntmps93
 go_wp2_with (first | (go_at_call 124; refine (operations_anyW _).mono ?_; rintro e w' ⟨rfl, rfl⟩) | (go_at_call 149; refine (and_anyW _ _ _).mono ?_; rintro e w' ⟨rfl, rfl⟩) | (refine wpList_store_row rfl 149 _ _ rfl _ _ rfl rfl 149 _ (heap_alloc2_new _ _ _) (by kernel_rfl) rfl (by kernel_rfl) ?_; rw [setRow_alloc2W]))
 go_ret2
 exact ⟨rfl, ((Below.refl _ _).alloc (Nat.le_refl _) _).alloc (by simp) _⟩
theorem do_8W (a b : Int) (w : World) : Calls Tryz.prog 93 #[.int .i64 8, .int .i64 a, .int .i64 b] w fun e w' => e = .returned (.tuple #[.int .i64 (bits .or .i64 a b), .bool true]) /\ Below w.heap.size w w' := by
 have hk : tblW[6]? = some (Value.func (Fn.func 150) #[] #[]) := rfl
 go_enter Tryz.func93, Tryz.ntmps93
 go_wp2_with (first | (go_at_call 124; refine (operations_anyW _).mono ?_; rintro e w' ⟨rfl, rfl⟩) | (go_at_call 150; refine (or_anyW _ _ _).mono ?_; rintro e w' ⟨rfl, rfl⟩) | (refine wpList_store_row rfl 149 _ _ rfl _ _ rfl rfl 149 _ (heap_alloc2_new _ _ _) (by kernel_rfl) rfl (by kernel_rfl) ?_; rw [setRow_alloc2W]))
 go_ret2
 exact ⟨rfl, ((Below.refl _ _).alloc (Nat.le_refl _) _).alloc (by simp) _⟩
theorem do_9W (a b : Int) (w : World) : Calls Tryz.prog 93 #[.int .i64 9, .int .i64 a, .int .i64 b] w fun e w' => e = .returned (.tuple #[.int .i64 (bits .xor .i64 a b), .bool true]) /\ Below w.heap.size w w' := by
 have hk : tblW[7]? = some (Value.func (Fn.func 151) #[] #[]) := rfl
 go_enter Tryz.func93, Tryz.ntmps93
 go_wp2_with (first | (go_at_call 124; refine (operations_anyW _).mono ?_; rintro e w' ⟨rfl, rfl⟩) | (go_at_call 151; refine (xor_anyW _ _ _).mono ?_; rintro e w' ⟨rfl, rfl⟩) | (refine wpList_store_row rfl 149 _ _ rfl _ _ rfl rfl 149 _ (heap_alloc2_new _ _ _) (by kernel_rfl) rfl (by kernel_rfl) ?_; rw [setRow_alloc2W]))
 go_ret2
 exact ⟨rfl, ((Below.refl _ _).alloc (Nat.le_refl _) _).alloc (by simp) _⟩
theorem do_10W (a b : Int) (w : World) : Calls Tryz.prog 93 #[.int .i64 10, .int .i64 a, .int .i64 b] w fun e w' => e = .returned (.tuple #[.int .i64 (bits .andNot .i64 a b), .bool true]) /\ Below w.heap.size w w' := by
 have hk : tblW[8]? = some (Value.func (Fn.func 152) #[] #[]) := rfl
 go_enter Tryz.func93, Tryz.ntmps93
 go_wp2_with (first | (go_at_call 124; refine (operations_anyW _).mono ?_; rintro e w' ⟨rfl, rfl⟩) | (go_at_call 152; refine (bic_anyW _ _ _).mono ?_; rintro e w' ⟨rfl, rfl⟩) | (refine wpList_store_row rfl 149 _ _ rfl _ _ rfl rfl 149 _ (heap_alloc2_new _ _ _) (by kernel_rfl) rfl (by kernel_rfl) ?_; rw [setRow_alloc2W]))
 go_ret2
 exact ⟨rfl, ((Below.refl _ _).alloc (Nat.le_refl _) _).alloc (by simp) _⟩
theorem do_11W (a b : Int) (w : World) : Calls Tryz.prog 93 #[.int .i64 11, .int .i64 a, .int .i64 b] w fun e w' => e = .returned (.tuple #[.int .i64 (shlIW a b), .bool true]) /\ Below w.heap.size w w' := by
 have hk : tblW[9]? = some (Value.func (Fn.func 153) #[] #[]) := rfl
 go_enter Tryz.func93, Tryz.ntmps93
 go_wp2_with (first | (go_at_call 124; refine (operations_anyW _).mono ?_; rintro e w' ⟨rfl, rfl⟩) | (go_at_call 153; refine (shl_anyW _ _ _).mono ?_; rintro e w' ⟨rfl, rfl⟩) | (refine wpList_store_row rfl 149 _ _ rfl _ _ rfl rfl 149 _ (heap_alloc2_new _ _ _) (by kernel_rfl) rfl (by kernel_rfl) ?_; rw [setRow_alloc2W]))
 go_ret2
 exact ⟨rfl, ((Below.refl _ _).alloc (Nat.le_refl _) _).alloc (by simp) _⟩
theorem do_12W (a b : Int) (w : World) : Calls Tryz.prog 93 #[.int .i64 12, .int .i64 a, .int .i64 b] w fun e w' => e = .returned (.tuple #[.int .i64 (shrIW a b), .bool true]) /\ Below w.heap.size w w' := by
 have hk : tblW[10]? = some (Value.func (Fn.func 154) #[] #[]) := rfl
 go_enter Tryz.func93, Tryz.ntmps93
 go_wp2_with (first | (go_at_call 124; refine (operations_anyW _).mono ?_; rintro e w' ⟨rfl, rfl⟩) | (go_at_call 154; refine (shr_anyW _ _ _).mono ?_; rintro e w' ⟨rfl, rfl⟩) | (refine wpList_store_row rfl 149 _ _ rfl _ _ rfl rfl 149 _ (heap_alloc2_new _ _ _) (by kernel_rfl) rfl (by kernel_rfl) ?_; rw [setRow_alloc2W]))
 go_ret2
 exact ⟨rfl, ((Below.refl _ _).alloc (Nat.le_refl _) _).alloc (by simp) _⟩
theorem do_13W (a b : Int) (w : World) : Calls Tryz.prog 93 #[.int .i64 13, .int .i64 a, .int .i64 b] w fun e w' => e = .returned (.tuple #[.int .i64 (truthIW (a == b)), .bool true]) /\ Below w.heap.size w w' := by
 have hk : tblW[11]? = some (Value.func (Fn.func 155) #[] #[]) := rfl
 go_enter Tryz.func93, Tryz.ntmps93
 go_wp2_with (first | (go_at_call 124; refine (operations_anyW _).mono ?_; rintro e w' ⟨rfl, rfl⟩) | (go_at_call 155; refine (eq_anyW _ _ _).mono ?_; rintro e w' ⟨rfl, rfl⟩) | (refine wpList_store_row rfl 149 _ _ rfl _ _ rfl rfl 149 _ (heap_alloc2_new _ _ _) (by kernel_rfl) rfl (by kernel_rfl) ?_; rw [setRow_alloc2W]))
 go_ret2
 exact ⟨rfl, ((Below.refl _ _).alloc (Nat.le_refl _) _).alloc (by simp) _⟩
theorem do_14W (a b : Int) (w : World) : Calls Tryz.prog 93 #[.int .i64 14, .int .i64 a, .int .i64 b] w fun e w' => e = .returned (.tuple #[.int .i64 (truthIW (a != b)), .bool true]) /\ Below w.heap.size w w' := by
 have hk : tblW[12]? = some (Value.func (Fn.func 157) #[] #[]) := rfl
 go_enter Tryz.func93, Tryz.ntmps93
 go_wp2_with (first | (go_at_call 124; refine (operations_anyW _).mono ?_; rintro e w' ⟨rfl, rfl⟩) | (go_at_call 157; refine (ne_anyW _ _ _).mono ?_; rintro e w' ⟨rfl, rfl⟩) | (refine wpList_store_row rfl 149 _ _ rfl _ _ rfl rfl 149 _ (heap_alloc2_new _ _ _) (by kernel_rfl) rfl (by kernel_rfl) ?_; rw [setRow_alloc2W]))
 go_ret2
 exact ⟨rfl, ((Below.refl _ _).alloc (Nat.le_refl _) _).alloc (by simp) _⟩
theorem do_15W (a b : Int) (w : World) : Calls Tryz.prog 93 #[.int .i64 15, .int .i64 a, .int .i64 b] w fun e w' => e = .returned (.tuple #[.int .i64 (truthIW (decide (a < b))), .bool true]) /\ Below w.heap.size w w' := by
 have hk : tblW[13]? = some (Value.func (Fn.func 158) #[] #[]) := rfl
 go_enter Tryz.func93, Tryz.ntmps93
 go_wp2_with (first | (go_at_call 124; refine (operations_anyW _).mono ?_; rintro e w' ⟨rfl, rfl⟩) | (go_at_call 158; refine (lt_anyW _ _ _).mono ?_; rintro e w' ⟨rfl, rfl⟩) | (refine wpList_store_row rfl 149 _ _ rfl _ _ rfl rfl 149 _ (heap_alloc2_new _ _ _) (by kernel_rfl) rfl (by kernel_rfl) ?_; rw [setRow_alloc2W]))
 go_ret2
 exact ⟨rfl, ((Below.refl _ _).alloc (Nat.le_refl _) _).alloc (by simp) _⟩
theorem do_16W (a b : Int) (w : World) : Calls Tryz.prog 93 #[.int .i64 16, .int .i64 a, .int .i64 b] w fun e w' => e = .returned (.tuple #[.int .i64 (truthIW (decide (a <= b))), .bool true]) /\ Below w.heap.size w w' := by
 have hk : tblW[14]? = some (Value.func (Fn.func 159) #[] #[]) := rfl
 go_enter Tryz.func93, Tryz.ntmps93
 go_wp2_with (first | (go_at_call 124; refine (operations_anyW _).mono ?_; rintro e w' ⟨rfl, rfl⟩) | (go_at_call 159; refine (le_anyW _ _ _).mono ?_; rintro e w' ⟨rfl, rfl⟩) | (refine wpList_store_row rfl 149 _ _ rfl _ _ rfl rfl 149 _ (heap_alloc2_new _ _ _) (by kernel_rfl) rfl (by kernel_rfl) ?_; rw [setRow_alloc2W]))
 go_ret2
 exact ⟨rfl, ((Below.refl _ _).alloc (Nat.le_refl _) _).alloc (by simp) _⟩
theorem do_17W (a b : Int) (w : World) : Calls Tryz.prog 93 #[.int .i64 17, .int .i64 a, .int .i64 b] w fun e w' => e = .returned (.tuple #[.int .i64 (wrap64 (-a)), .bool true]) /\ Below w.heap.size w w' := by
 have hk : tblW[15]? = some (Value.func (Fn.func 160) #[] #[]) := rfl
 go_enter Tryz.func93, Tryz.ntmps93
 go_wp2_with (first | (go_at_call 124; refine (operations_anyW _).mono ?_; rintro e w' ⟨rfl, rfl⟩) | (go_at_call 160; refine (neg2_anyW _ _ _).mono ?_; rintro e w' ⟨rfl, rfl⟩) | (refine wpList_store_row rfl 149 _ _ rfl _ _ rfl rfl 149 _ (heap_alloc2_new _ _ _) (by kernel_rfl) rfl (by kernel_rfl) ?_; rw [setRow_alloc2W]))
 go_ret2
 exact ⟨rfl, ((Below.refl _ _).alloc (Nat.le_refl _) _).alloc (by simp) _⟩
theorem do_18W (a b : Int) (w : World) : Calls Tryz.prog 93 #[.int .i64 18, .int .i64 a, .int .i64 b] w fun e w' => e = .returned (.tuple #[.int .i64 (bits .xor .i64 (-1) a), .bool true]) /\ Below w.heap.size w w' := by
 have hk : tblW[16]? = some (Value.func (Fn.func 162) #[] #[]) := rfl
 go_enter Tryz.func93, Tryz.ntmps93
 go_wp2_with (first | (go_at_call 124; refine (operations_anyW _).mono ?_; rintro e w' ⟨rfl, rfl⟩) | (go_at_call 162; refine (inv2_anyW _ _ _).mono ?_; rintro e w' ⟨rfl, rfl⟩) | (refine wpList_store_row rfl 149 _ _ rfl _ _ rfl rfl 149 _ (heap_alloc2_new _ _ _) (by kernel_rfl) rfl (by kernel_rfl) ?_; rw [setRow_alloc2W]))
 go_ret2
 exact ⟨rfl, ((Below.refl _ _).alloc (Nat.le_refl _) _).alloc (by simp) _⟩
theorem do_19W (a b : Int) (w : World) : Calls Tryz.prog 93 #[.int .i64 19, .int .i64 a, .int .i64 b] w fun e w' => e = .returned (.tuple #[.int .i64 (wrap64 (1 - a)), .bool true]) /\ Below w.heap.size w w' := by
 have hk : tblW[17]? = some (Value.func (Fn.func 164) #[] #[]) := rfl
 go_enter Tryz.func93, Tryz.ntmps93
 go_wp2_with (first | (go_at_call 124; refine (operations_anyW _).mono ?_; rintro e w' ⟨rfl, rfl⟩) | (go_at_call 164; refine (not_anyW _ _ _).mono ?_; rintro e w' ⟨rfl, rfl⟩) | (refine wpList_store_row rfl 149 _ _ rfl _ _ rfl rfl 149 _ (heap_alloc2_new _ _ _) (by kernel_rfl) rfl (by kernel_rfl) ?_; rw [setRow_alloc2W]))
 go_ret2
 exact ⟨rfl, ((Below.refl _ _).alloc (Nat.le_refl _) _).alloc (by simp) _⟩
def doIW (op a b : Int) : Int :=
 if op = 2 then wrap64 (a + b) else
 if op = 3 then wrap64 (a - b) else
 if op = 4 then wrap64 (a * b) else
 if op = 5 then divIW a b else
 if op = 6 then remIW a b else
 if op = 7 then bits .and .i64 a b else
 if op = 8 then bits .or .i64 a b else
 if op = 9 then bits .xor .i64 a b else
 if op = 10 then bits .andNot .i64 a b else
 if op = 11 then shlIW a b else
 if op = 12 then shrIW a b else
 if op = 13 then truthIW (a == b) else
 if op = 14 then truthIW (a != b) else
 if op = 15 then truthIW (decide (a < b)) else
 if op = 16 then truthIW (decide (a <= b)) else
 if op = 17 then wrap64 (-a) else
 if op = 18 then bits .xor .i64 (-1) a else
 if op = 19 then wrap64 (1 - a) else 0
def isOpW (op : Int) : Bool := decide (2 <= op /\ op <= 19)
theorem do_anyW (op a b : Int) (w : World) : Calls Tryz.prog 93 #[.int .i64 op, .int .i64 a, .int .i64 b] w fun e w' => e = .returned (.tuple #[.int .i64 (doIW op a b), .bool (isOpW op)]) /\ Below w.heap.size w w' := by
 by_cases h : op < 2 \/ 19 < op
 ·have e1 : isOpW op = false := by unfold isOpW; exact decide_eq_false (by omega)
  have e2 : doIW op a b = 0 := by
   unfold doIW
   rw [if_neg (by omega), if_neg (by omega), if_neg (by omega), if_neg (by omega), if_neg (by omega), if_neg (by omega), if_neg (by omega), if_neg (by omega), if_neg (by omega), if_neg (by omega), if_neg (by omega), if_neg (by omega), if_neg (by omega), if_neg (by omega), if_neg (by omega), if_neg (by omega), if_neg (by omega), if_neg (by omega)]
  rw [e1, e2]
  exact do_noneW op a b h w
 ·have hk : op = 2 \/ op = 3 \/ op = 4 \/ op = 5 \/ op = 6 \/ op = 7 \/ op = 8 \/ op = 9 \/ op = 10 \/ op = 11 \/ op = 12 \/ op = 13 \/ op = 14 \/ op = 15 \/ op = 16 \/ op = 17 \/ op = 18 \/ op = 19 := by omega
  rcases hk with rfl | rfl | rfl | rfl | rfl | rfl | rfl | rfl | rfl | rfl | rfl | rfl | rfl | rfl | rfl | rfl | rfl | rfl
  ·exact do_2W a b w
  ·exact do_3W a b w
  ·exact do_4W a b w
  ·exact do_5W a b w
  ·exact do_6W a b w
  ·exact do_7W a b w
  ·exact do_8W a b w
  ·exact do_9W a b w
  ·exact do_10W a b w
  ·exact do_11W a b w
  ·exact do_12W a b w
  ·exact do_13W a b w
  ·exact do_14W a b w
  ·exact do_15W a b w
  ·exact do_16W a b w
  ·exact do_17W a b w
  ·exact do_18W a b w
  ·exact do_19W a b w
end Go.Proofs.YtfofmmkihhnfmaaGreatDoor
namespace Go.Proofs.YtfofmmkihhnfmaaGreatDoor
open Go.ChangeShapes Go.WideShapes Go.ChangeAt Go.RowKit Go.Maps
structure Ri where
 op : Int
 a : Int
 b : Int
 c : Int
 n : Int
structure Rf where
 name : ByteArray
 fr : Int
 fi : Int
 ct : Int
 pa : Int
def riv (x : Ri) : List Value := [.int .i64 x.op, .int .i64 x.a, .int .i64 x.b, .int .i64 x.c, .int .i64 x.n]
def rfv (f : Rf) : List Value := [.string f.name, .int .i64 f.fr, .int .i64 f.fi, .int .i64 f.ct, .int .i64 f.pa]
structure Rv where
 nx : Int
 rg : List Int
 sw : Int -> Int
 cs : Nat
 base : Int
 top : Int
 frames : Int
 tk : Int
 ln : Int -> Option Int
 mm : Int -> Int
 hc : Nat
 inp : List Int
 ev : List (Int × Int)
 fin : Int
 kd : Int
 vl : Int
 steps : Int
 words : Int
 deep : Int
 rests : Bool
def Rv.over (R : Rv) : Bool := R.rests || !decide (R.fin = 0)
def Rv.reg (R : Rv) (i : Int) : Int := R.rg.getD i.toNat 0
def Rv.set (R : Rv) (i x : Int) : Rv := { R with rg := R.rg.set i.toNat x }
def Rv.panic (R : Rv) (k x : Int) : Rv := { R with fin := 2, kd := k, vl := x }
def Rv.stuck (R : Rv) (k : Int) : Rv := { R with fin := 3, kd := k }
def Rv.tell (R : Rv) (k x : Int) : Rv := if R.ev.length = 1048576 then { R with rests := true } else { R with ev := R.ev ++ [(k, x)] }
def Rv.push (R : Rv) (f : Rf) (back : Int) : Rv := { R with base := R.top, top := R.top + f.fr, sw := upd (upd R.sw R.top back) (R.top + 1) R.base, cs := R.cs + 2, frames := R.frames + 1, deep := max R.deep (R.frames + 1), nx := f.fi }
def Rv.call (S : Int) (f : Rf) (R : Rv) (back : Int) : Rv := if f.fr > S - R.top then R.panic 7 0 else R.push f back
def Rv.back (R : Rv) : Rv := { R with base := R.sw (R.base + 1), top := R.base, frames := R.frames - 1, nx := R.sw R.base, fin := if R.sw (R.base + 1) = -1 then 1 else R.fin }
def Rv.alloc (room : Int) (R : Rv) (a k : Int) : Rv := if k ≥ room - R.tk then R.panic 8 0 else { R.set a (R.tk + 1) with tk := R.tk + k + 1, ln := upd R.ln (R.tk + 1) (some k), hc := R.hc + 1, words := R.tk + k + 1 }
def Rv.take (R : Rv) (a : Int) : Rv := match R.inp with | [] => R.panic 5 0 | y :: I => { R.set a y with inp := I }
def bad01 (a : Int) : Prop := ¬ (a = 0 \/ a = 1)
instance (a : Int) : Decidable (bad01 a) := inferInstanceAs (Decidable (¬ _))
def Rv.why (R : Rv) (x : Ri) : Option Int :=
 if x.op = 6 \/ x.op = 7 then (if R.reg x.c = 0 then some 3 else none)
 else if x.op = 12 \/ x.op = 13 then (if R.reg x.c < 0 then some 4 else none)
 else if x.op = 20 then (if bad01 (R.reg x.b) then some 5 else none)
 else if x.op = 28 then (if R.reg x.b < 0 then some 1 else none)
 else if x.op = 29 then (if R.reg x.b = 0 \/ (R.ln (R.reg x.b)).isSome then none else some 1)
 else if x.op = 30 \/ x.op = 31 then (if R.reg x.b = 0 then some 1 else match R.ln (R.reg x.b) with | none => some 1 | some k => if R.reg x.c < 0 \/ R.reg x.c ≥ k then some 2 else none)
 else if x.op = 38 then (if bad01 (R.reg x.a) then some 5 else none)
 else none
def Rv.does (FS : List Rf) (S room : Int) (R : Rv) (x : Ri) : Rv :=
 if x.op = 1 then R.set x.a x.n
 else if x.op = 2 then R.set x.a (R.reg x.b)
 else if x.op <= 17 then R.set x.a (doIW (x.op - 1) (R.reg x.b) (R.reg x.c))
 else if x.op <= 20 then R.set x.a (doIW (x.op - 1) (R.reg x.b) 0)
 else if x.op = 21 then { R with nx := x.n }
 else if x.op = 22 then (if R.reg x.a = 0 then { R with nx := x.n } else R)
 else if x.op = 23 then (if R.reg x.a = 0 then R else { R with nx := x.n })
 else if x.op = 24 then R.set x.a (R.sw (R.base + x.n))
 else if x.op = 25 then { R with sw := upd R.sw (R.base + x.n) (R.reg x.a), cs := R.cs + 1 }
 else if x.op = 26 then (match FS[x.n.toNat]? with | none => R | some f => R.call S f R.nx)
 else if x.op = 27 then R.back
 else if x.op = 28 then R.alloc room x.a (R.reg x.b)
 else if x.op = 29 then R.set x.a ((R.ln (R.reg x.b)).getD 0)
 else if x.op = 30 then R.set x.a (R.mm (R.reg x.b + 1 + R.reg x.c))
 else if x.op = 31 then { R with mm := upd R.mm (R.reg x.b + 1 + R.reg x.c) (R.reg x.a), hc := R.hc + 1 }
 else if x.op = 32 then (if R.reg x.a = 0 then R.panic x.n 0 else R)
 else if x.op = 33 then (if R.reg x.a < 0 then R.panic x.n 0 else R)
 else if x.op = 34 then (if R.reg x.a < 0 \/ R.reg x.a ≥ R.reg x.b then R.panic x.n 0 else R)
 else if x.op = 35 then R.panic x.n (if x.n = 6 then R.reg x.a else 0)
 else if x.op = 36 then R.take x.a
 else if x.op = 37 then R.tell 1 (R.reg x.a)
 else R.tell 2 (R.reg x.a)
def Rv.ins (FS : List Rf) (S room : Int) (R : Rv) (x : Ri) : Rv := match R.why x with | some k => R.stuck k | none => R.does FS S room x
def riZ : Ri := ⟨0, 0, 0, 0, 0⟩
def Rv.at (C : List Ri) (R : Rv) : Ri := C.getD R.nx.toNat riZ
def Rv.on (R : Rv) : Rv := { R with nx := R.nx + 1 }
def Rv.adv (C : List Ri) (FS : List Rf) (S room : Int) (R : Rv) : Rv := R.on.ins FS S room (R.at C)
def Rv.stp (C : List Ri) (FS : List Rf) (S room : Int) (R : Rv) : Bool × Rv :=
 if R.over then (false, R) else
 let R1 := R.adv C FS S room
 if R1.rests then (false, R1) else (true, { R1 with steps := R.steps + 1 })
def Rv.zero (I : List Int) : Rv := ⟨0, List.replicate 16 0, fun _ => 0, 0, -1, 0, 0, 0, fun _ => none, fun _ => 0, 0, I, [], 0, 0, 0, 0, 0, 0, false⟩
def Rv.start (FS : List Rf) (S : Int) (mn : Nat) (I : List Int) : Rv := match FS[mn]? with | none => Rv.zero I | some f => (Rv.zero I).call S f (-1)
theorem fitR_wrap (n : Int) : Fits (wrap64 n) := by unfold Fits wrap64; omega
theorem fitR_wrapK {x : Int} (h : ∃ n, x = IntKind.i64.wrap n) : Fits x := by
 obtain ⟨n, rfl⟩ := h
 rw [IntKind.wrap_i64]
 unfold Fits
 omega
theorem fitR_zero : Fits 0 := by unfold Fits; omega
theorem fitR_truth (p : Bool) : Fits (truthIW p) := by cases p <;> (unfold truthIW Fits; simp)
theorem fitR_rem {a b : Int} (ha : Fits a) : Fits (remIW a b) := by
 unfold remIW
 split
 ·exact fitR_zero
 ·have h := ha
  unfold Fits at h ⊢
  have hn : (a.tmod b).natAbs <= a.natAbs := by rw [Int.natAbs_tmod]; exact Nat.mod_le _ _
  rcases Int.le_total 0 a with q | q
  ·have := Int.tmod_nonneg b q
   omega
  ·have h2 := Int.tmod_nonneg b (a := -a) (by omega)
   rw [Int.neg_tmod] at h2
   omega
theorem fitR_shr {a b : Int} (ha : Fits a) : Fits (shrIW a b) := by
 unfold shrIW
 split
 ·exact fitR_zero
 ·have h := ha
  unfold Fits at h ⊢
  obtain ⟨d, hd⟩ : ∃ d : Int, d = 2 ^ min b.toNat 64 := ⟨_, rfl⟩
  have hp : 0 < d := by rw [hd]; exact Int.pow_pos (by decide)
  rw [<- hd]
  rcases Int.le_total 0 a with q | q
  ·have h1 := Int.ediv_nonneg q (Int.le_of_lt hp)
   have h2 := Int.ediv_le_self d q
   omega
  ·have h0 := Int.mul_nonneg (show 0 <= -a by omega) (show 0 <= d - 1 by omega)
   rw [Int.neg_mul, Int.mul_sub, Int.mul_one] at h0
   have h1 : a <= a / d := (Int.le_ediv_iff_mul_le hp).2 (by omega)
   have h2 : a / d < 1 := (Int.ediv_lt_iff_lt_mul hp).2 (by omega)
   omega
theorem fitR_ite {c : Prop} [Decidable c] {x y : Int} (hx : Fits x) (hy : Fits y) : Fits (if c then x else y) := by
 split
 ·exact hx
 ·exact hy
theorem fitR_do {op a b : Int} (ha : Fits a) (hb : Fits b) : Fits (doIW op a b) := by
 have hd : Fits (divIW a b) := by unfold divIW; exact fitR_ite fitR_zero (fitR_wrap _)
 have hl : Fits (shlIW a b) := by unfold shlIW; exact fitR_ite fitR_zero (fitR_wrap _)
 unfold doIW
 exact fitR_ite (fitR_wrap _) (fitR_ite (fitR_wrap _) (fitR_ite (fitR_wrap _) (fitR_ite hd (fitR_ite (fitR_rem ha) (fitR_ite (fitR_wrapK ⟨_, rfl⟩) (fitR_ite (fitR_wrapK ⟨_, rfl⟩) (fitR_ite (fitR_wrapK ⟨_, rfl⟩) (fitR_ite (fitR_wrapK ⟨_, rfl⟩) (fitR_ite hl (fitR_ite (fitR_shr ha) (fitR_ite (fitR_truth _) (fitR_ite (fitR_truth _) (fitR_ite (fitR_truth _) (fitR_ite (fitR_truth _) (fitR_ite (fitR_wrap _) (fitR_ite (fitR_wrapK ⟨_, rfl⟩) (fitR_ite (fitR_wrap _) fitR_zero)))))))))))))))))
def rcnt (op : Int) : Int :=
 if op = 21 \/ op = 26 \/ op = 27 then 0
 else if op = 1 \/ op = 22 \/ op = 23 \/ op = 24 \/ op = 25 \/ op = 32 \/ op = 33 \/ op = 35 \/ op = 36 \/ op = 37 \/ op = 38 then 1
 else if op = 2 \/ op = 18 \/ op = 19 \/ op = 20 \/ op = 28 \/ op = 29 \/ op = 34 then 2
 else if (3 <= op /\ op <= 17) \/ op = 30 \/ op = 31 then 3
 else -1
def okR (cnt i r : Int) : Bool := if i < cnt then decide (0 <= r /\ r <= 15) else decide (r = 0)
def regsF (x : Ri) : Bool := decide (0 <= rcnt x.op) && (okR (rcnt x.op) 0 x.a && (okR (rcnt x.op) 1 x.b && okR (rcnt x.op) 2 x.c))
def numF (n : Nat) (f : Rf) (x : Ri) : Bool :=
 if x.op = 1 then decide (-9223372036854775808 <= x.n /\ x.n <= 9223372036854775807)
 else if x.op = 21 \/ x.op = 22 \/ x.op = 23 then decide (f.fi <= x.n /\ x.n <= f.fi + f.ct - 1)
 else if x.op = 24 \/ x.op = 25 then decide (2 <= x.n /\ x.n <= f.fr - 1)
 else if x.op = 26 then decide (0 <= x.n /\ x.n <= (n : Int) - 1)
 else if x.op = 32 \/ x.op = 33 \/ x.op = 34 then decide (1 <= x.n /\ x.n <= 5)
 else if x.op = 35 then decide (1 <= x.n /\ x.n <= 6)
 else decide (x.n = 0)
def lastF (op : Int) : Bool := decide (op = 21 \/ op = 27 \/ op = 35)
def funF (C : List Ri) (n : Nat) (f : Rf) : Bool := decide (2 <= f.fr /\ f.fr <= 1099511627776) && (decide (0 <= f.pa /\ f.pa <= 8) && (((C.drop f.fi.toNat).take f.ct.toNat).all (fun x => regsF x && numF n f x) && lastF (C.getD (f.fi + f.ct - 1).toNat riZ).op))
def cutF (len : Int) : Int -> List Rf -> Bool
 | next, [] => decide (next = len)
 | next, f :: FS => decide (f.fi = next /\ 1 <= f.ct /\ f.ct <= len - next) && cutF len (next + f.ct) FS
def mainF (FS : List Rf) (mn : Int) : Bool := decide (0 <= mn /\ mn <= (FS.length : Int) - 1) && decide ((FS.getD mn.toNat ⟨ByteArray.empty, 0, 0, 0, 0⟩).pa = 0)
structure FoR (C : List Ri) (FS : List Rf) : Prop where
 cut : ∀ f ∈ FS, 0 <= f.fi /\ 1 <= f.ct /\ f.fi + f.ct <= (C.length : Int)
 fr : ∀ f ∈ FS, 2 <= f.fr /\ f.fr <= 1099511627776
 ins : ∀ f ∈ FS, ∀ i : Int, f.fi <= i -> i < f.fi + f.ct -> regsF (C.getD i.toNat riZ) = true /\ numF FS.length f (C.getD i.toNat riZ) = true
 last : ∀ f ∈ FS, lastF (C.getD (f.fi + f.ct - 1).toNat riZ).op = true
theorem cutF_all {len : Int} : ∀ (FS : List Rf) (next : Int), 0 <= next -> cutF len next FS = true -> ∀ f ∈ FS, 0 <= f.fi /\ 1 <= f.ct /\ f.fi + f.ct <= len
 | [], _, _, _, f, hf => by simp at hf
 | g :: FS, next, h0, h, f, hf => by
   unfold cutF at h
   simp only [Bool.and_eq_true, decide_eq_true_eq] at h
   obtain ⟨⟨h1, h2, h3⟩, h4⟩ := h
   rcases List.mem_cons.1 hf with rfl | q
   ·omega
   ·exact cutF_all FS (next + g.ct) (by omega) h4 f q
theorem foR_of {C : List Ri} {FS : List Rf} (h1 : cutF C.length 0 FS = true) (h2 : FS.all (funF C FS.length) = true) : FoR C FS := by
 have hc := cutF_all FS 0 (by omega) h1
 have hf : ∀ f ∈ FS, funF C FS.length f = true := by simpa using h2
 refine ⟨hc, fun f q => ?_, fun f q i h3 h4 => ?_, fun f q => ?_⟩
 ·have := hf f q
  unfold funF at this
  simp only [Bool.and_eq_true, decide_eq_true_eq] at this
  exact this.1
 ·have := hf f q
  have := hc f q
  unfold funF at *
  simp only [Bool.and_eq_true, decide_eq_true_eq, List.all_eq_true] at *
  obtain ⟨_, _, h5, _⟩ := hf f q
  have hi : i.toNat < C.length := by omega
  have e : C.getD i.toNat riZ = C[i.toNat] := by simp [List.getD, hi]
  rw [e]
  refine h5 _ ?_
  rw [List.mem_iff_getElem?]
  refine ⟨i.toNat - f.fi.toNat, ?_⟩
  rw [List.getElem?_take_of_lt (by omega), List.getElem?_drop, show f.fi.toNat + (i.toNat - f.fi.toNat) = i.toNat by omega]
  simp [hi]
 ·have := hf f q
  unfold funF at this
  simp only [Bool.and_eq_true] at this
  exact this.2.2.2
def ActR (FS : List Rf) (sw : Int -> Int) : List (Nat × Int) -> Prop
 | [] => False
 | [(_, b)] => b = 0 /\ sw 0 = -1 /\ sw 1 = -1
 | (_, b) :: (j, b') :: A => (∃ g, FS[j]? = some g /\ b = b' + g.fr /\ g.fi <= sw b /\ sw b < g.fi + g.ct) /\ sw (b + 1) = b' /\ ActR FS sw ((j, b') :: A)
theorem ActR.nonneg {FS sw} (hF : ∀ f ∈ FS, 2 <= Rf.fr f) : ∀ {A k b}, ActR FS sw ((k, b) :: A) -> 0 <= b /\ (A.length : Int) * 2 <= b
 | [], k, b, h => by
   obtain ⟨h1, _⟩ := h
   subst h1
   simp
 | (j, b') :: A, k, b, h => by
   obtain ⟨⟨g, h1, h2, _⟩, _, h4⟩ := h
   have := ActR.nonneg hF h4
   have := hF g (List.mem_of_getElem? h1)
   simp only [List.length_cons]
   omega
theorem ActR.keep {FS sw sw'} (hF : ∀ f ∈ FS, 2 <= Rf.fr f) : ∀ {A k b}, ActR FS sw ((k, b) :: A) -> (∀ i, 0 <= i -> i <= b + 1 -> sw' i = sw i) -> ActR FS sw' ((k, b) :: A)
 | [], k, b, h, hk => by
   obtain ⟨h1, h2, h3⟩ := h
   subst h1
   exact ⟨rfl, (hk 0 (by omega) (by omega)).trans h2, (hk 1 (by omega) (by omega)).trans h3⟩
 | (j, b') :: A, k, b, h, hk => by
   obtain ⟨⟨g, h1, h2, h3, h4⟩, h5, h6⟩ := h
   have hn := ActR.nonneg hF h6
   have hg := hF g (List.mem_of_getElem? h1)
   have e0 := hk b (by omega) (by omega)
   have e1 := hk (b + 1) (by omega) (by omega)
   exact ⟨⟨g, h1, h2, by rw [e0]; exact h3, by rw [e0]; exact h4⟩, e1.trans h5, ActR.keep hF h6 fun i hi1 hi2 => hk i hi1 (by omega)⟩
theorem ActR.upd_at {FS sw} (hF : ∀ f ∈ FS, 2 <= Rf.fr f) {A k b} (h : ActR FS sw ((k, b) :: A)) {i x : Int} (hi : b + 2 <= i) : ActR FS (upd sw i x) ((k, b) :: A) :=
 h.keep hF fun j _ h2 => by unfold upd; rw [if_neg (by omega)]
structure AtR (C : List Ri) (FS : List Rf) (S : Int) (R : Rv) (A : List (Nat × Int)) (f : Rf) : Prop where
 act : ActR FS R.sw A
 hd : ∃ k B, A = (k, R.base) :: B /\ FS[k]? = some f
 top : R.top = R.base + f.fr
 le : R.top <= S
 nx : f.fi <= R.nx /\ R.nx < f.fi + f.ct
 frames : R.frames = A.length
structure ValR (room : Int) (R : Rv) : Prop where
 rg : R.rg.length = 16
 fits : ∀ x ∈ R.rg, Fits x
 sw : ∀ i, Fits (R.sw i)
 mm : ∀ i, Fits (R.mm i)
 inp : ∀ x ∈ R.inp, Fits x
 tk : 0 <= R.tk /\ (R.tk <= room \/ R.tk = 0)
 ln : ∀ a k, R.ln a = some k -> 1 <= a /\ 0 <= k /\ a + k <= R.tk
 steps : 0 <= R.steps
theorem ValR.reg {room R} (h : ValR room R) (i : Int) : Fits (R.reg i) := by
 unfold Rv.reg
 rw [List.getD_eq_getElem?_getD]
 cases e : R.rg[i.toNat]? with
 | none => exact fitR_zero
 | some x => exact h.fits x (List.mem_of_getElem? e)
theorem ValR.set {room R} (h : ValR room R) (i : Int) {x : Int} (hx : Fits x) : ValR room (R.set i x) :=
 ⟨by simp [Rv.set, h.rg], fun y hy => by
  rcases List.mem_or_eq_of_mem_set hy with q | q
  ·exact h.fits y q
  ·rw [q]; exact hx, h.sw, h.mm, h.inp, h.tk, h.ln, h.steps⟩
theorem fit_upd {f : Int -> Int} (h : ∀ i, Fits (f i)) (a : Int) {x : Int} (hx : Fits x) : ∀ i, Fits (upd f a x i) := fun i => by
 unfold upd
 split
 ·exact hx
 ·exact h i
end Go.Proofs.YtfofmmkihhnfmaaGreatDoor
