import Derived.Below
import Derived.Test.YtfbkopjncmkbiabGreatDoorKba
set_option linter.unusedVariables false
set_option linter.unusedSimpArgs false
namespace Go.Proofs.YtfbkopjncmkbiabGreatDoor
open Go.ChangeShapes Go.WideShapes Go.ChangeAt Go.RowKit
theorem setRow_alloc2W (w : World) (A : Obj) (c c' : Array Value) (t : TypeId) : ((w.alloc A).alloc (.cells c t)).setRow (w.heap.size + 1) c' = (w.alloc A).alloc (.cells c' t) := by
 have h := World.setRow_alloc_new (w.alloc A) c c' t
 have e : (w.alloc A).heap.size = w.heap.size + 1 := by simp
 rw [e] at h
 exact h
theorem do_noneW (op a b : Int) (h : op < 2 \/ 19 < op) (w : World) : Calls Tryz.prog 70 #[.int .i64 op, .int .i64 a, .int .i64 b] w fun e w' => e = .returned (.tuple #[.int .i64 0, .bool false]) /\ Below w.heap.size w w' := by
 by_cases h1 : op < 2
 ·go_enter Tryz.func70, Tryz.ntmps70
  go_wp2
  go_ret2
  exact ⟨rfl, Below.refl _ _⟩
 ·have h2 : 19 < op := by omega
  clear h
  go_enter Tryz.func70, Tryz.ntmps70
  go_wp2
  go_ret2
  exact ⟨rfl, Below.refl _ _⟩
theorem do_2W (a b : Int) (w : World) : Calls Tryz.prog 70 #[.int .i64 2, .int .i64 a, .int .i64 b] w fun e w' => e = .returned (.tuple #[.int .i64 (wrap64 (a + b)), .bool true]) /\ Below w.heap.size w w' := by
 have hk : tblW[0]? = some (Value.func (Fn.func 139) #[] #[]) := rfl
 go_enter Tryz.func70, Tryz.ntmps70
 go_wp2_with (first | (go_at_call 113; refine (operations_anyW _).mono ?_; rintro e w' ⟨rfl, rfl⟩) | (go_at_call 139; refine (add_anyW _ _ _).mono ?_; rintro e w' ⟨rfl, rfl⟩) | (refine wpList_store_row rfl 137 _ _ rfl _ _ rfl rfl 137 _ (heap_alloc2_new _ _ _) (by kernel_rfl) rfl (by kernel_rfl) ?_; rw [setRow_alloc2W]))
 go_ret2
 exact ⟨rfl, ((Below.refl _ _).alloc (Nat.le_refl _) _).alloc (by simp) _⟩
theorem do_3W (a b : Int) (w : World) : Calls Tryz.prog 70 #[.int .i64 3, .int .i64 a, .int .i64 b] w fun e w' => e = .returned (.tuple #[.int .i64 (wrap64 (a - b)), .bool true]) /\ Below w.heap.size w w' := by
 have hk : tblW[1]? = some (Value.func (Fn.func 140) #[] #[]) := rfl
 go_enter Tryz.func70, Tryz.ntmps70
 go_wp2_with (first | (go_at_call 113; refine (operations_anyW _).mono ?_; rintro e w' ⟨rfl, rfl⟩) | (go_at_call 140; refine (sub_anyW _ _ _).mono ?_; rintro e w' ⟨rfl, rfl⟩) | (refine wpList_store_row rfl 137 _ _ rfl _ _ rfl rfl 137 _ (heap_alloc2_new _ _ _) (by kernel_rfl) rfl (by kernel_rfl) ?_; rw [setRow_alloc2W]))
 go_ret2
 exact ⟨rfl, ((Below.refl _ _).alloc (Nat.le_refl _) _).alloc (by simp) _⟩
theorem do_4W (a b : Int) (w : World) : Calls Tryz.prog 70 #[.int .i64 4, .int .i64 a, .int .i64 b] w fun e w' => e = .returned (.tuple #[.int .i64 (wrap64 (a * b)), .bool true]) /\ Below w.heap.size w w' := by
 have hk : tblW[2]? = some (Value.func (Fn.func 141) #[] #[]) := rfl
 go_enter Tryz.func70, Tryz.ntmps70
 go_wp2_with (first | (go_at_call 113; refine (operations_anyW _).mono ?_; rintro e w' ⟨rfl, rfl⟩) | (go_at_call 141; refine (mul_anyW _ _ _).mono ?_; rintro e w' ⟨rfl, rfl⟩) | (refine wpList_store_row rfl 137 _ _ rfl _ _ rfl rfl 137 _ (heap_alloc2_new _ _ _) (by kernel_rfl) rfl (by kernel_rfl) ?_; rw [setRow_alloc2W]))
 go_ret2
 exact ⟨rfl, ((Below.refl _ _).alloc (Nat.le_refl _) _).alloc (by simp) _⟩
theorem do_5W (a b : Int) (w : World) : Calls Tryz.prog 70 #[.int .i64 5, .int .i64 a, .int .i64 b] w fun e w' => e = .returned (.tuple #[.int .i64 (divIW a b), .bool true]) /\ Below w.heap.size w w' := by
 have hk : tblW[3]? = some (Value.func (Fn.func 142) #[] #[]) := rfl
 go_enter Tryz.func70, Tryz.ntmps70
 go_wp2_with (first | (go_at_call 113; refine (operations_anyW _).mono ?_; rintro e w' ⟨rfl, rfl⟩) | (go_at_call 142; refine (div_anyW _ _ _).mono ?_; rintro e w' ⟨rfl, rfl⟩) | (refine wpList_store_row rfl 137 _ _ rfl _ _ rfl rfl 137 _ (heap_alloc2_new _ _ _) (by kernel_rfl) rfl (by kernel_rfl) ?_; rw [setRow_alloc2W]))
 go_ret2
 exact ⟨rfl, ((Below.refl _ _).alloc (Nat.le_refl _) _).alloc (by simp) _⟩
theorem do_6W (a b : Int) (w : World) : Calls Tryz.prog 70 #[.int .i64 6, .int .i64 a, .int .i64 b] w fun e w' => e = .returned (.tuple #[.int .i64 (remIW a b), .bool true]) /\ Below w.heap.size w w' := by
 have hk : tblW[4]? = some (Value.func (Fn.func 143) #[] #[]) := rfl
 go_enter Tryz.func70, Tryz.ntmps70
 go_wp2_with (first | (go_at_call 113; refine (operations_anyW _).mono ?_; rintro e w' ⟨rfl, rfl⟩) | (go_at_call 143; refine (rem_anyW _ _ _).mono ?_; rintro e w' ⟨rfl, rfl⟩) | (refine wpList_store_row rfl 137 _ _ rfl _ _ rfl rfl 137 _ (heap_alloc2_new _ _ _) (by kernel_rfl) rfl (by kernel_rfl) ?_; rw [setRow_alloc2W]))
 go_ret2
 exact ⟨rfl, ((Below.refl _ _).alloc (Nat.le_refl _) _).alloc (by simp) _⟩
theorem do_7W (a b : Int) (w : World) : Calls Tryz.prog 70 #[.int .i64 7, .int .i64 a, .int .i64 b] w fun e w' => e = .returned (.tuple #[.int .i64 (bits .and .i64 a b), .bool true]) /\ Below w.heap.size w w' := by
 have hk : tblW[5]? = some (Value.func (Fn.func 144) #[] #[]) := rfl
 go_enter Tryz.func70, Tryz.ntmps70
 go_wp2_with (first | (go_at_call 113; refine (operations_anyW _).mono ?_; rintro e w' ⟨rfl, rfl⟩) | (go_at_call 144; refine (and_anyW _ _ _).mono ?_; rintro e w' ⟨rfl, rfl⟩) | (refine wpList_store_row rfl 137 _ _ rfl _ _ rfl rfl 137 _ (heap_alloc2_new _ _ _) (by kernel_rfl) rfl (by kernel_rfl) ?_; rw [setRow_alloc2W]))
 go_ret2
 exact ⟨rfl, ((Below.refl _ _).alloc (Nat.le_refl _) _).alloc (by simp) _⟩
theorem do_8W (a b : Int) (w : World) : Calls Tryz.prog 70 #[.int .i64 8, .int .i64 a, .int .i64 b] w fun e w' => e = .returned (.tuple #[.int .i64 (bits .or .i64 a b), .bool true]) /\ Below w.heap.size w w' := by
 have hk : tblW[6]? = some (Value.func (Fn.func 145) #[] #[]) := rfl
 go_enter Tryz.func70, Tryz.ntmps70
 go_wp2_with (first | (go_at_call 113; refine (operations_anyW _).mono ?_; rintro e w' ⟨rfl, rfl⟩) | (go_at_call 145; refine (or_anyW _ _ _).mono ?_; rintro e w' ⟨rfl, rfl⟩) | (refine wpList_store_row rfl 137 _ _ rfl _ _ rfl rfl 137 _ (heap_alloc2_new _ _ _) (by kernel_rfl) rfl (by kernel_rfl) ?_; rw [setRow_alloc2W]))
 go_ret2
 exact ⟨rfl, ((Below.refl _ _).alloc (Nat.le_refl _) _).alloc (by simp) _⟩
theorem do_9W (a b : Int) (w : World) : Calls Tryz.prog 70 #[.int .i64 9, .int .i64 a, .int .i64 b] w fun e w' => e = .returned (.tuple #[.int .i64 (bits .xor .i64 a b), .bool true]) /\ Below w.heap.size w w' := by
 have hk : tblW[7]? = some (Value.func (Fn.func 146) #[] #[]) := rfl
 go_enter Tryz.func70, Tryz.ntmps70
 go_wp2_with (first | (go_at_call 113; refine (operations_anyW _).mono ?_; rintro e w' ⟨rfl, rfl⟩) | (go_at_call 146; refine (xor_anyW _ _ _).mono ?_; rintro e w' ⟨rfl, rfl⟩) | (refine wpList_store_row rfl 137 _ _ rfl _ _ rfl rfl 137 _ (heap_alloc2_new _ _ _) (by kernel_rfl) rfl (by kernel_rfl) ?_; rw [setRow_alloc2W]))
 go_ret2
 exact ⟨rfl, ((Below.refl _ _).alloc (Nat.le_refl _) _).alloc (by simp) _⟩
theorem do_10W (a b : Int) (w : World) : Calls Tryz.prog 70 #[.int .i64 10, .int .i64 a, .int .i64 b] w fun e w' => e = .returned (.tuple #[.int .i64 (bits .andNot .i64 a b), .bool true]) /\ Below w.heap.size w w' := by
 have hk : tblW[8]? = some (Value.func (Fn.func 147) #[] #[]) := rfl
 go_enter Tryz.func70, Tryz.ntmps70
 go_wp2_with (first | (go_at_call 113; refine (operations_anyW _).mono ?_; rintro e w' ⟨rfl, rfl⟩) | (go_at_call 147; refine (bic_anyW _ _ _).mono ?_; rintro e w' ⟨rfl, rfl⟩) | (refine wpList_store_row rfl 137 _ _ rfl _ _ rfl rfl 137 _ (heap_alloc2_new _ _ _) (by kernel_rfl) rfl (by kernel_rfl) ?_; rw [setRow_alloc2W]))
 go_ret2
 exact ⟨rfl, ((Below.refl _ _).alloc (Nat.le_refl _) _).alloc (by simp) _⟩
theorem do_11W (a b : Int) (w : World) : Calls Tryz.prog 70 #[.int .i64 11, .int .i64 a, .int .i64 b] w fun e w' => e = .returned (.tuple #[.int .i64 (shlIW a b), .bool true]) /\ Below w.heap.size w w' := by
 have hk : tblW[9]? = some (Value.func (Fn.func 148) #[] #[]) := rfl
 go_enter Tryz.func70, Tryz.ntmps70
 go_wp2_with (first | (go_at_call 113; refine (operations_anyW _).mono ?_; rintro e w' ⟨rfl, rfl⟩) | (go_at_call 148; refine (shl_anyW _ _ _).mono ?_; rintro e w' ⟨rfl, rfl⟩) | (refine wpList_store_row rfl 137 _ _ rfl _ _ rfl rfl 137 _ (heap_alloc2_new _ _ _) (by kernel_rfl) rfl (by kernel_rfl) ?_; rw [setRow_alloc2W]))
 go_ret2
 exact ⟨rfl, ((Below.refl _ _).alloc (Nat.le_refl _) _).alloc (by simp) _⟩
theorem do_12W (a b : Int) (w : World) : Calls Tryz.prog 70 #[.int .i64 12, .int .i64 a, .int .i64 b] w fun e w' => e = .returned (.tuple #[.int .i64 (shrIW a b), .bool true]) /\ Below w.heap.size w w' := by
 have hk : tblW[10]? = some (Value.func (Fn.func 149) #[] #[]) := rfl
 go_enter Tryz.func70, Tryz.ntmps70
 go_wp2_with (first | (go_at_call 113; refine (operations_anyW _).mono ?_; rintro e w' ⟨rfl, rfl⟩) | (go_at_call 149; refine (shr_anyW _ _ _).mono ?_; rintro e w' ⟨rfl, rfl⟩) | (refine wpList_store_row rfl 137 _ _ rfl _ _ rfl rfl 137 _ (heap_alloc2_new _ _ _) (by kernel_rfl) rfl (by kernel_rfl) ?_; rw [setRow_alloc2W]))
 go_ret2
 exact ⟨rfl, ((Below.refl _ _).alloc (Nat.le_refl _) _).alloc (by simp) _⟩
theorem do_13W (a b : Int) (w : World) : Calls Tryz.prog 70 #[.int .i64 13, .int .i64 a, .int .i64 b] w fun e w' => e = .returned (.tuple #[.int .i64 (truthIW (a == b)), .bool true]) /\ Below w.heap.size w w' := by
 have hk : tblW[11]? = some (Value.func (Fn.func 150) #[] #[]) := rfl
 go_enter Tryz.func70, Tryz.ntmps70
 go_wp2_with (first | (go_at_call 113; refine (operations_anyW _).mono ?_; rintro e w' ⟨rfl, rfl⟩) | (go_at_call 150; refine (eq_anyW _ _ _).mono ?_; rintro e w' ⟨rfl, rfl⟩) | (refine wpList_store_row rfl 137 _ _ rfl _ _ rfl rfl 137 _ (heap_alloc2_new _ _ _) (by kernel_rfl) rfl (by kernel_rfl) ?_; rw [setRow_alloc2W]))
 go_ret2
 exact ⟨rfl, ((Below.refl _ _).alloc (Nat.le_refl _) _).alloc (by simp) _⟩
theorem do_14W (a b : Int) (w : World) : Calls Tryz.prog 70 #[.int .i64 14, .int .i64 a, .int .i64 b] w fun e w' => e = .returned (.tuple #[.int .i64 (truthIW (a != b)), .bool true]) /\ Below w.heap.size w w' := by
 have hk : tblW[12]? = some (Value.func (Fn.func 152) #[] #[]) := rfl
 go_enter Tryz.func70, Tryz.ntmps70
 go_wp2_with (first | (go_at_call 113; refine (operations_anyW _).mono ?_; rintro e w' ⟨rfl, rfl⟩) | (go_at_call 152; refine (ne_anyW _ _ _).mono ?_; rintro e w' ⟨rfl, rfl⟩) | (refine wpList_store_row rfl 137 _ _ rfl _ _ rfl rfl 137 _ (heap_alloc2_new _ _ _) (by kernel_rfl) rfl (by kernel_rfl) ?_; rw [setRow_alloc2W]))
 go_ret2
 exact ⟨rfl, ((Below.refl _ _).alloc (Nat.le_refl _) _).alloc (by simp) _⟩
theorem do_15W (a b : Int) (w : World) : Calls Tryz.prog 70 #[.int .i64 15, .int .i64 a, .int .i64 b] w fun e w' => e = .returned (.tuple #[.int .i64 (truthIW (decide (a < b))), .bool true]) /\ Below w.heap.size w w' := by
 have hk : tblW[13]? = some (Value.func (Fn.func 153) #[] #[]) := rfl
 go_enter Tryz.func70, Tryz.ntmps70
 go_wp2_with (first | (go_at_call 113; refine (operations_anyW _).mono ?_; rintro e w' ⟨rfl, rfl⟩) | (go_at_call 153; refine (lt_anyW _ _ _).mono ?_; rintro e w' ⟨rfl, rfl⟩) | (refine wpList_store_row rfl 137 _ _ rfl _ _ rfl rfl 137 _ (heap_alloc2_new _ _ _) (by kernel_rfl) rfl (by kernel_rfl) ?_; rw [setRow_alloc2W]))
 go_ret2
 exact ⟨rfl, ((Below.refl _ _).alloc (Nat.le_refl _) _).alloc (by simp) _⟩
theorem do_16W (a b : Int) (w : World) : Calls Tryz.prog 70 #[.int .i64 16, .int .i64 a, .int .i64 b] w fun e w' => e = .returned (.tuple #[.int .i64 (truthIW (decide (a <= b))), .bool true]) /\ Below w.heap.size w w' := by
 have hk : tblW[14]? = some (Value.func (Fn.func 154) #[] #[]) := rfl
 go_enter Tryz.func70, Tryz.ntmps70
 go_wp2_with (first | (go_at_call 113; refine (operations_anyW _).mono ?_; rintro e w' ⟨rfl, rfl⟩) | (go_at_call 154; refine (le_anyW _ _ _).mono ?_; rintro e w' ⟨rfl, rfl⟩) | (refine wpList_store_row rfl 137 _ _ rfl _ _ rfl rfl 137 _ (heap_alloc2_new _ _ _) (by kernel_rfl) rfl (by kernel_rfl) ?_; rw [setRow_alloc2W]))
 go_ret2
 exact ⟨rfl, ((Below.refl _ _).alloc (Nat.le_refl _) _).alloc (by simp) _⟩
theorem do_17W (a b : Int) (w : World) : Calls Tryz.prog 70 #[.int .i64 17, .int .i64 a, .int .i64 b] w fun e w' => e = .returned (.tuple #[.int .i64 (wrap64 (-a)), .bool true]) /\ Below w.heap.size w w' := by
 have hk : tblW[15]? = some (Value.func (Fn.func 155) #[] #[]) := rfl
 go_enter Tryz.func70, Tryz.ntmps70
 go_wp2_with (first | (go_at_call 113; refine (operations_anyW _).mono ?_; rintro e w' ⟨rfl, rfl⟩) | (go_at_call 155; refine (neg2_anyW _ _ _).mono ?_; rintro e w' ⟨rfl, rfl⟩) | (refine wpList_store_row rfl 137 _ _ rfl _ _ rfl rfl 137 _ (heap_alloc2_new _ _ _) (by kernel_rfl) rfl (by kernel_rfl) ?_; rw [setRow_alloc2W]))
 go_ret2
 exact ⟨rfl, ((Below.refl _ _).alloc (Nat.le_refl _) _).alloc (by simp) _⟩
theorem do_18W (a b : Int) (w : World) : Calls Tryz.prog 70 #[.int .i64 18, .int .i64 a, .int .i64 b] w fun e w' => e = .returned (.tuple #[.int .i64 (bits .xor .i64 (-1) a), .bool true]) /\ Below w.heap.size w w' := by
 have hk : tblW[16]? = some (Value.func (Fn.func 157) #[] #[]) := rfl
 go_enter Tryz.func70, Tryz.ntmps70
 go_wp2_with (first | (go_at_call 113; refine (operations_anyW _).mono ?_; rintro e w' ⟨rfl, rfl⟩) | (go_at_call 157; refine (inv2_anyW _ _ _).mono ?_; rintro e w' ⟨rfl, rfl⟩) | (refine wpList_store_row rfl 137 _ _ rfl _ _ rfl rfl 137 _ (heap_alloc2_new _ _ _) (by kernel_rfl) rfl (by kernel_rfl) ?_; rw [setRow_alloc2W]))
 go_ret2
 exact ⟨rfl, ((Below.refl _ _).alloc (Nat.le_refl _) _).alloc (by simp) _⟩
theorem do_19W (a b : Int) (w : World) : Calls Tryz.prog 70 #[.int .i64 19, .int .i64 a, .int .i64 b] w fun e w' => e = .returned (.tuple #[.int .i64 (wrap64 (1 - a)), .bool true]) /\ Below w.heap.size w w' := by
 have hk : tblW[17]? = some (Value.func (Fn.func 159) #[] #[]) := rfl
 go_enter Tryz.func70, Tryz.ntmps70
 go_wp2_with (first | (go_at_call 113; refine (operations_anyW _).mono ?_; rintro e w' ⟨rfl, rfl⟩) | (go_at_call 159; refine (not_anyW _ _ _).mono ?_; rintro e w' ⟨rfl, rfl⟩) | (refine wpList_store_row rfl 137 _ _ rfl _ _ rfl rfl 137 _ (heap_alloc2_new _ _ _) (by kernel_rfl) rfl (by kernel_rfl) ?_; rw [setRow_alloc2W]))
 go_ret2
 exact ⟨rfl, ((Below.refl _ _).alloc (Nat.le_refl _) _).alloc (by simp) _⟩
def doIW (op a b : Int) : Int :=
 if op = 2 then wrap64 (a + b) else
 if op = 3 then wrap64 (a - b) else
 if op = 4 then wrap64 (a * b) else
 if op = 5 then divIW a b else
 if op = 6 then remIW a b else
 if op = 7 then bits .and .i64 a b else
 if op = 8 then bits .or .i64 a b else
 if op = 9 then bits .xor .i64 a b else
 if op = 10 then bits .andNot .i64 a b else
 if op = 11 then shlIW a b else
 if op = 12 then shrIW a b else
 if op = 13 then truthIW (a == b) else
 if op = 14 then truthIW (a != b) else
 if op = 15 then truthIW (decide (a < b)) else
 if op = 16 then truthIW (decide (a <= b)) else
 if op = 17 then wrap64 (-a) else
 if op = 18 then bits .xor .i64 (-1) a else
 if op = 19 then wrap64 (1 - a) else 0
def isOpW (op : Int) : Bool := decide (2 <= op /\ op <= 19)
theorem do_anyW (op a b : Int) (w : World) : Calls Tryz.prog 70 #[.int .i64 op, .int .i64 a, .int .i64 b] w fun e w' => e = .returned (.tuple #[.int .i64 (doIW op a b), .bool (isOpW op)]) /\ Below w.heap.size w w' := by
 by_cases h : op < 2 \/ 19 < op
 ·have e1 : isOpW op = false := by unfold isOpW; exact decide_eq_false (by omega)
  have e2 : doIW op a b = 0 := by
   unfold doIW
   rw [if_neg (by omega), if_neg (by omega), if_neg (by omega), if_neg (by omega), if_neg (by omega), if_neg (by omega), if_neg (by omega), if_neg (by omega), if_neg (by omega), if_neg (by omega), if_neg (by omega), if_neg (by omega), if_neg (by omega), if_neg (by omega), if_neg (by omega), if_neg (by omega), if_neg (by omega), if_neg (by omega)]
  rw [e1, e2]
  exact do_noneW op a b h w
 ·have hk : op = 2 \/ op = 3 \/ op = 4 \/ op = 5 \/ op = 6 \/ op = 7 \/ op = 8 \/ op = 9 \/ op = 10 \/ op = 11 \/ op = 12 \/ op = 13 \/ op = 14 \/ op = 15 \/ op = 16 \/ op = 17 \/ op = 18 \/ op = 19 := by omega
  rcases hk with rfl | rfl | rfl | rfl | rfl | rfl | rfl | rfl | rfl | rfl | rfl | rfl | rfl | rfl | rfl | rfl | rfl | rfl
  ·exact do_2W a b w
  ·exact do_3W a b w
  ·exact do_4W a b w
  ·exact do_5W a b w
  ·exact do_6W a b w
  ·exact do_7W a b w
  ·exact do_8W a b w
  ·exact do_9W a b w
  ·exact do_10W a b w
  ·exact do_11W a b w
  ·exact do_12W a b w
  ·exact do_13W a b w
  ·exact do_14W a b w
  ·exact do_15W a b w
  ·exact do_16W a b w
  ·exact do_17W a b w
  ·exact do_18W a b w
  ·exact do_19W a b w
end Go.Proofs.YtfbkopjncmkbiabGreatDoor
namespace Go.Proofs.YtfbkopjncmkbiabGreatDoor
open Go.ChangeShapes Go.WideShapes Go.ChangeAt Go.RowKit Go.Maps
structure VBx (w : World) (g : Nat) (v : Vl) (ka : Option Addr) (kl kc : Nat) : Prop where
 c0 : w.cell? ⟨g, 0, none⟩ = some (.int .i64 v.op)
 c1 : w.cell? ⟨g, 1, none⟩ = some (.int .i64 v.ty)
 c2 : w.cell? ⟨g, 2, none⟩ = some (.int .i64 v.imm)
 c3 : w.cell? ⟨g, 3, none⟩ = some (.slice ka kl kc)
 lt : g < w.heap.size
theorem VBx.new (w : World) (v : Vl) (ka : Option Addr) (kl kc : Nat) : VBx (w.alloc (.cells #[.int .i64 v.op, .int .i64 v.ty, .int .i64 v.imm, .slice ka kl kc] 25)) w.heap.size v ka kl kc :=
 ⟨cell_arr (heap_alloc_new _ _) rfl, cell_arr (heap_alloc_new _ _) rfl, cell_arr (heap_alloc_new _ _) rfl, cell_arr (heap_alloc_new _ _) rfl, by simp⟩
theorem VBx.below {w w' g v ka kl kc} (h : VBx w g v ka kl kc) (hb : Below w.heap.size w w') : VBx w' g v ka kl kc := by
 have hc : ∀ q, w'.cell? ⟨g, q, none⟩ = w.cell? ⟨g, q, none⟩ := fun q => hb.cell (p := ⟨g, q, none⟩) h.lt
 exact ⟨by rw [hc]; exact h.c0, by rw [hc]; exact h.c1, by rw [hc]; exact h.c2, by rw [hc]; exact h.c3, by have := hb.size; have := h.lt; omega⟩
set_option maxRecDepth 100000 in
theorem mConst_any (w : World) (mb : Nat) (v : Vl) (ka : Option Addr) (kl kc : Nat) :
 Calls Tryz.prog 23 #[.pointer (some ⟨mb, 0, none⟩), .agg #[.int .i64 v.op, .int .i64 v.ty, .int .i64 v.imm, .slice ka kl kc]] w fun e w' => e = .returned (.tuple #[.int .i64 v.imm, .bool true]) /\ Below w.heap.size w w' := by
 have HA : Hid _ := below_new w (.cells #[.int .i64 v.op, .int .i64 v.ty, .int .i64 v.imm, .slice ka kl kc] 25)
 go_enter Tryz.func23, Tryz.ntmps23
 go_wp2_with fail
 go_ret2
 exact ⟨rfl, HA.out⟩
set_option maxRecDepth 100000 in
set_option maxHeartbeats 1000000 in
theorem mCalc_any {FS s d w M} (h : Mach FS s d w M) (v : Vl) (ka : Option Addr) (kl kc : Nat) (hkl : kl = v.args.length) (hI : Ints w ka kc v.args) (a b : Int) (ha : M.arg v 0 = some a) (hb : M.arg v 1 = some b) (hop : isOpW v.op = true) (hl : M.nums.length <= 1000000000000) :
 Calls Tryz.prog 37 #[.pointer (some ⟨s.mb, 0, none⟩), .agg #[.int .i64 v.op, .int .i64 v.ty, .int .i64 v.imm, .slice ka kl kc]] w fun e w' => e = .returned (.tuple #[.int .i64 (doIW v.op a b), .bool true]) /\ Below w.heap.size w w' := by
 obtain ⟨w1, hw1⟩ : ∃ w1, w1 = w.alloc (.cells #[.int .i64 v.op, .int .i64 v.ty, .int .i64 v.imm, .slice ka kl kc] 25) := ⟨_, rfl⟩
 have b1 : Below w.heap.size w w1 := by rw [hw1]; exact below_new w _
 have x1 : VBx w1 w.heap.size v ka kl kc := by rw [hw1]; exact VBx.new w v ka kl kc
 have HS : Hid (∀ W, Below w1.heap.size w1 W -> W.cell? ⟨w.heap.size, 0, none⟩ = some (.int .i64 v.op) /\ W.cell? ⟨w.heap.size, 1, none⟩ = some (.int .i64 v.ty) /\ W.cell? ⟨w.heap.size, 2, none⟩ = some (.int .i64 v.imm) /\ W.cell? ⟨w.heap.size, 3, none⟩ = some (.slice ka kl kc)) := fun W hW => ⟨(x1.below hW).c0, (x1.below hW).c1, (x1.below hW).c2, (x1.below hW).c3⟩
 have HA0 : Hid (∀ W, Below w1.heap.size w1 W -> Calls Tryz.prog 59 #[.pointer (some ⟨s.mb, 0, none⟩), .agg #[.int .i64 v.op, .int .i64 v.ty, .int .i64 v.imm, .slice ka kl kc], .int .i64 0] W fun e w' => e = .returned (.int .i64 a) /\ Below w1.heap.size w1 w') := fun W hW => (mArg_any ((h.below b1).below hW) v ka kl kc hkl ((hI.below b1 (Nat.le_refl _)).below hW (Nat.le_refl _)) 0 (by omega) a ha hl).mono fun e w' q => ⟨q.1, hW.trans (q.2.mono hW.size)⟩
 have HA1 : Hid (∀ W, Below w1.heap.size w1 W -> Calls Tryz.prog 59 #[.pointer (some ⟨s.mb, 0, none⟩), .agg #[.int .i64 v.op, .int .i64 v.ty, .int .i64 v.imm, .slice ka kl kc], .int .i64 1] W fun e w' => e = .returned (.int .i64 b) /\ Below w1.heap.size w1 w') := fun W hW => (mArg_any ((h.below b1).below hW) v ka kl kc hkl ((hI.below b1 (Nat.le_refl _)).below hW (Nat.le_refl _)) 1 (by omega) b hb hl).mono fun e w' q => ⟨q.1, hW.trans (q.2.mono hW.size)⟩
 have HD : Hid (∀ W, Below w1.heap.size w1 W -> Calls Tryz.prog 70 #[.int .i64 v.op, .int .i64 a, .int .i64 b] W fun e w' => e = .returned (.tuple #[.int .i64 (doIW v.op a b), .bool true]) /\ Below w1.heap.size w1 w') := fun W hW => (do_anyW v.op a b W).mono fun e w' q => ⟨by rw [q.1, hop], hW.trans (q.2.mono hW.size)⟩
 have HB : Hid (∀ W, Below w1.heap.size w1 W -> Below w.heap.size w W) := fun W hW => b1.trans (hW.mono b1.size)
 have Bd : Below w1.heap.size w1 w1.drew := (Below.refl _ _).drew
 have S0 := HS.out _ Bd
 obtain ⟨g, hg⟩ : ∃ g, g = w.heap.size := ⟨_, rfl⟩
 generalize doIW v.op a b = r at HD ⊢
 generalize s.mb = mb at *
 clear h hI hkl ha hb hop hl b1 x1
 go_enter Tryz.func37, Tryz.ntmps37
 go_wp2_with fail
 rw [<- hw1]
 clear hw1
 rw [<- hg] at HS S0 ⊢
 clear hg
 go_region_held (fun W => W.cell? ⟨g, 0, none⟩ = some (.int .i64 v.op) /\ W.cell? ⟨g, 1, none⟩ = some (.int .i64 v.ty) /\ W.cell? ⟨g, 2, none⟩ = some (.int .i64 v.imm) /\ W.cell? ⟨g, 3, none⟩ = some (.slice ka kl kc))
  (first | exact S0 | exact S2 | exact S3 | exact S4)
  (first
   | (go_at_call 70; refine (HD.out _ B3).mono ?_; rintro e w4 ⟨rfl, B4⟩; have S4 := HS.out _ B4)
   | (go_at_call 59; refine (HA1.out _ B2).mono ?_; rintro e w3 ⟨rfl, B3⟩; have S3 := HS.out _ B3)
   | (go_at_call 59; refine (HA0.out _ Bd).mono ?_; rintro e w2 ⟨rfl, B2⟩; have S2 := HS.out _ B2))
 all_goals
  go_wp2_with fail
  go_ret2
  exact ⟨rfl, HB.out _ B4⟩
theorem Mach.taken {FS s d w M} (h : Mach FS s d w M) {y : Int} {L : List Int} (hM : M.inp = y :: L) {b o : Nat} (hia : d.ia = some ⟨b, o, none⟩) (ia : Option Addr) (ic : Nat) (hi : L ≠ [] -> ia = some ⟨b, o + 1, none⟩) (hc : L.length <= ic /\ ic <= 9223372036854775807) :
 ∃ d', Mach FS s d' (w.setCell ⟨s.mb, 32, none⟩ (.slice ia L.length ic)) { M with inp := L } /\ Foo s d d' w (w.setCell ⟨s.mb, 32, none⟩ (.slice ia L.length ic)) := by
 have R := h.rest.set 32 (.slice ia L.length ic)
 refine ⟨{ d with ia := ia, ic := ic }, ⟨box_at h.box rfl, ?_⟩, ⟨(Only.of_set w _ _).mono fun k _ hk => .inl hk, fun k hk => .inl hk⟩⟩
 refine ⟨R.agr, R.fus, R.fn, fun w' hw' => ⟨hc.1, hc.2, fun hne => ?_⟩, R.ch, R.nums, R.phis, R.apart, R.wait, R.ev, R.evs, R.hi, R.out, R.box⟩
 have hI := h.rest.inp w' hw'
 rw [hM] at hI
 obtain ⟨b', o', e, hA⟩ := hI.out (by simp)
 rw [hia] at e
 cases e
 exact ⟨b, o + 1, hi hne, by simpa using hA.drop 1⟩
set_option maxRecDepth 100000 in
theorem mTake_no {FS s d w M} (h : Mach FS s d w M) (hM : M.inp = []) (v : Vl) (ka : Option Addr) (kl kc : Nat) :
 Calls Tryz.prog 30 #[.pointer (some ⟨s.mb, 0, none⟩), .agg #[.int .i64 v.op, .int .i64 v.ty, .int .i64 v.imm, .slice ka kl kc]] w fun e w' => e = .returned (.tuple #[.int .i64 0, .bool false]) /\ ∃ d', Mach FS s d' w' (M.panic 5 0) /\ Foo s d d' w w' := by
 obtain ⟨w1, hw1⟩ : ∃ w1, w1 = w.alloc (.cells #[.int .i64 v.op, .int .i64 v.ty, .int .i64 v.imm, .slice ka kl kc] 25) := ⟨_, rfl⟩
 have b1 : Below w.heap.size w w1 := by rw [hw1]; exact below_new w _
 have h1 := h.below b1
 have c32 := h1.cells.c32
 have hlt := h1.cells.lt
 rw [hM] at c32
 have HP : Hid _ := mPanics_any h1 5 0
 have HB : Hid (∀ w2, (∃ d', Mach FS s d' w2 (M.panic 5 0) /\ Foo s d d' w1 w2) -> ∃ d', Mach FS s d' w2 (M.panic 5 0) /\ Foo s d d' w w2) := fun w2 ⟨d', q1, q2⟩ => ⟨d', q1, (Foo.of_below b1).trans q2⟩
 generalize s.mb = mb at *
 generalize d.ia = ia at c32
 generalize d.ic = ic at c32
 clear h h1 b1 hM
 go_enter Tryz.func30, Tryz.ntmps30
 go_upto_region 1 with fail
 rw [<- hw1]
 clear hw1
 go_wp2_with (go_at_call 65; refine Calls.mono HP.out ?_; rintro e w2 ⟨rfl, h2⟩; have H2 : Hid _ := h2; clear h2)
 go_ret2
 exact ⟨rfl, HB.out _ H2.out⟩
set_option maxRecDepth 100000 in
theorem mTake_yes {FS s d w M} (h : Mach FS s d w M) {y : Int} {L : List Int} (hM : M.inp = y :: L) (v : Vl) (ka : Option Addr) (kl kc : Nat) :
 Calls Tryz.prog 30 #[.pointer (some ⟨s.mb, 0, none⟩), .agg #[.int .i64 v.op, .int .i64 v.ty, .int .i64 v.imm, .slice ka kl kc]] w fun e w' => e = .returned (.tuple #[.int .i64 y, .bool true]) /\ ∃ d', Mach FS s d' w' { M with inp := L } /\ Foo s d d' w w' := by
 obtain ⟨w1, hw1⟩ : ∃ w1, w1 = w.alloc (.cells #[.int .i64 v.op, .int .i64 v.ty, .int .i64 v.imm, .slice ka kl kc] 25) := ⟨_, rfl⟩
 have b1 : Below w.heap.size w w1 := by rw [hw1]; exact below_new w _
 have h1 := h.below b1
 have c32 := h1.cells.c32
 have hlt := h1.cells.lt
 have fz := h1.told.fz 32
 have hI := h1.rest.inp w1 h1.rest.agr
 rw [hM] at c32 hI
 obtain ⟨b, o, hia, k0⟩ := hI.at (j := 0) (by simp)
 simp at k0
 have hcl := hI.le
 have hcm := hI.mx
 simp at hcl
 obtain ⟨n, hn⟩ : ∃ n, n = L.length := ⟨_, rfl⟩
 rw [hia] at c32
 have HT : Hid (∀ ia ic, (L ≠ [] -> ia = some ⟨b, o + 1, none⟩) -> (L.length <= ic /\ ic <= 9223372036854775807) -> ∃ d', Mach FS s d' (w1.setCell ⟨s.mb, 32, none⟩ (.slice ia n ic)) { M with inp := L } /\ Foo s d d' w (w1.setCell ⟨s.mb, 32, none⟩ (.slice ia n ic))) := fun ia ic q1 q2 => by
  obtain ⟨d', r1, r2⟩ := h1.taken hM hia ia ic q1 q2
  rw [<- hn] at r1 r2
  exact ⟨d', r1, (Foo.of_below b1).trans r2⟩
 have hlen : (y :: L).length = n + 1 := by simp [hn]
 rw [hlen] at c32
 rw [<- hn] at hcl
 have HN : Hid (n = L.length) := hn
 obtain ⟨ic, hic⟩ : ∃ ic, ic = d.ic := ⟨_, rfl⟩
 rw [<- hic] at hcl hcm c32
 generalize s.mb = mb at *
 clear h h1 b1 hM hI hia hn hlen hic
 by_cases hc1 : ic = 1
 ·have hn0 : n = 0 := by omega
  have hL : L = [] := List.length_eq_zero_iff.1 (by rw [<- HN.out]; exact hn0)
  subst hL
  subst hn0
  subst hc1
  clear HN
  go_enter Tryz.func30, Tryz.ntmps30
  go_upto_region 1 with fail
  rw [<- hw1]
  clear hw1
  go_wp2_with fail
  go_ret2
  exact ⟨rfl, HT.out _ _ (fun q => absurd rfl q) (by simp)⟩
 ·have hc2 : 1 < ic := by omega
  have hcz : ((ic - 1 : Nat) : Int) ≠ 0 := by omega
  go_enter Tryz.func30, Tryz.ntmps30
  go_upto_region 1 with fail
  rw [<- hw1]
  clear hw1
  go_wp2_with fail
  go_ret2
  exact ⟨rfl, HT.out _ _ (fun _ => by first | rfl | simp) (by have := HN.out; omega)⟩
set_option maxRecDepth 100000 in
theorem mPrint_any {FS s d w M} (h : Mach FS s d w M) (v : Vl) (ka : Option Addr) (kl kc : Nat) (hkl : kl = v.args.length) (hI : Ints w ka kc v.args) (a : Int) (ha : M.arg v 0 = some a) (hl : M.nums.length <= 1000000000000) :
 Calls Tryz.prog 32 #[.pointer (some ⟨s.mb, 0, none⟩), .agg #[.int .i64 v.op, .int .i64 v.ty, .int .i64 v.imm, .slice ka kl kc]] w fun e w' => e = .returned (.tuple #[.int .i64 0, .bool false]) /\ ∃ d', Mach FS s d' w' (M.tell 1 a) /\ Foo s d d' w w' := by
 obtain ⟨w1, hw1⟩ : ∃ w1, w1 = w.alloc (.cells #[.int .i64 v.op, .int .i64 v.ty, .int .i64 v.imm, .slice ka kl kc] 25) := ⟨_, rfl⟩
 have b1 : Below w.heap.size w w1 := by rw [hw1]; exact below_new w _
 have x1 : VBx w1 w.heap.size v ka kl kc := by rw [hw1]; exact VBx.new w v ka kl kc
 have h1 := h.below b1
 obtain ⟨c0, c1, c2, c3, hx⟩ := x1
 have HA : Hid _ := mArg_any h1 v ka kl kc hkl (hI.below b1 (Nat.le_refl _)) 0 (by omega) a ha hl
 have HT : Hid (∀ w2, Below w1.heap.size w1 w2 -> Calls Tryz.prog 68 #[.pointer (some ⟨s.mb, 0, none⟩), .int .i64 1, .int .i64 a] w2 fun e w' => e = .returned (.tuple #[.int .i64 0, .bool false]) /\ ∃ d', Mach FS s d' w' (M.tell 1 a) /\ Foo s d d' w w') := fun w2 hb => (mTell_any (h1.below hb) 1 a).mono fun e w' ⟨q0, d', q1, q2⟩ => ⟨q0, d', q1, (Foo.of_below b1).trans ((Foo.of_below hb).trans q2)⟩
 generalize s.mb = mb at *
 obtain ⟨g, hg⟩ : ∃ g, g = w.heap.size := ⟨_, rfl⟩
 clear h h1 b1 hI hkl ha hl
 go_enter Tryz.func32, Tryz.ntmps32
 go_upto_region 1 with fail
 rw [<- hw1]
 clear hw1
 rw [<- hg] at c0 c1 c2 c3 hx ⊢
 clear hg
 go_wp2_with (first
  | (go_at_call 59; refine Calls.mono HA.out ?_; rintro e w2 ⟨rfl, b2⟩)
  | (go_at_call 68; refine (HT.out _ b2).mono ?_; rintro e w3 ⟨rfl, h3⟩; have H3 : Hid _ := h3; clear h3))
 go_ret2
 exact ⟨rfl, H3.out⟩
end Go.Proofs.YtfbkopjncmkbiabGreatDoor
