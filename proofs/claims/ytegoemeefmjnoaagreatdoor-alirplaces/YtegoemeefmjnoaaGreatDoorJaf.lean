import Derived.Below
import Derived.Test.YtegoemeefmjnoaaGreatDoorJad
import Derived.Test.YtegoemeefmjnoaaGreatDoorJae
set_option linter.unusedVariables false
set_option linter.unusedSimpArgs false
namespace Go.Proofs.YtegoemeefmjnoaaGreatDoor
open Go.ChangeShapes Go.WideShapes Go.ChangeAt Go.RowKit
theorem setRow_alloc2W (w : World) (A : Obj) (c c' : Array Value) (t : TypeId) : ((w.alloc A).alloc (.cells c t)).setRow (w.heap.size + 1) c' = (w.alloc A).alloc (.cells c' t) := by
 have h := World.setRow_alloc_new (w.alloc A) c c' t
 have e : (w.alloc A).heap.size = w.heap.size + 1 := by simp
 rw [e] at h
 exact h
theorem do_noneW (op a b : Int) (h : op < 2 \/ 19 < op) (w : World) : Calls Tryz.prog 93 #[.int .i64 op, .int .i64 a, .int .i64 b] w fun e w' => e = .returned (.tuple #[.int .i64 0, .bool false]) /\ Below w.heap.size w w' := by
 by_cases h1 : op < 2
 ·go_enter Tryz.func93, Tryz.ntmps93
  go_wp2
  go_ret2
  exact ⟨rfl, Below.refl _ _⟩
 ·have h2 : 19 < op := by omega
  clear h
  go_enter Tryz.func93, Tryz.ntmps93
  go_wp2
  go_ret2
  exact ⟨rfl, Below.refl _ _⟩
theorem do_2W (a b : Int) (w : World) : Calls Tryz.prog 93 #[.int .i64 2, .int .i64 a, .int .i64 b] w fun e w' => e = .returned (.tuple #[.int .i64 (wrap64 (a + b)), .bool true]) /\ Below w.heap.size w w' := by
 have hk : tblW[0]? = some (Value.func (Fn.func 108) #[] #[]) := rfl
 go_enter Tryz.func93, Tryz.ntmps93
 go_wp2_with (first | (go_at_call 101; refine (operations_anyW _).mono ?_; rintro e w' ⟨rfl, rfl⟩) | (go_at_call 108; refine (add_anyW _ _ _).mono ?_; rintro e w' ⟨rfl, rfl⟩) | (refine wpList_store_row rfl 175 _ _ rfl _ _ rfl rfl 175 _ (heap_alloc2_new _ _ _) (by kernel_rfl) rfl (by kernel_rfl) ?_; rw [setRow_alloc2W]))
 go_ret2
 exact ⟨rfl, ((Below.refl _ _).alloc (Nat.le_refl _) _).alloc (by simp) _⟩
theorem do_3W (a b : Int) (w : World) : Calls Tryz.prog 93 #[.int .i64 3, .int .i64 a, .int .i64 b] w fun e w' => e = .returned (.tuple #[.int .i64 (wrap64 (a - b)), .bool true]) /\ Below w.heap.size w w' := by
 have hk : tblW[1]? = some (Value.func (Fn.func 109) #[] #[]) := rfl
 go_enter Tryz.func93, Tryz.ntmps93
 go_wp2_with (first | (go_at_call 101; refine (operations_anyW _).mono ?_; rintro e w' ⟨rfl, rfl⟩) | (go_at_call 109; refine (sub_anyW _ _ _).mono ?_; rintro e w' ⟨rfl, rfl⟩) | (refine wpList_store_row rfl 175 _ _ rfl _ _ rfl rfl 175 _ (heap_alloc2_new _ _ _) (by kernel_rfl) rfl (by kernel_rfl) ?_; rw [setRow_alloc2W]))
 go_ret2
 exact ⟨rfl, ((Below.refl _ _).alloc (Nat.le_refl _) _).alloc (by simp) _⟩
theorem do_4W (a b : Int) (w : World) : Calls Tryz.prog 93 #[.int .i64 4, .int .i64 a, .int .i64 b] w fun e w' => e = .returned (.tuple #[.int .i64 (wrap64 (a * b)), .bool true]) /\ Below w.heap.size w w' := by
 have hk : tblW[2]? = some (Value.func (Fn.func 110) #[] #[]) := rfl
 go_enter Tryz.func93, Tryz.ntmps93
 go_wp2_with (first | (go_at_call 101; refine (operations_anyW _).mono ?_; rintro e w' ⟨rfl, rfl⟩) | (go_at_call 110; refine (mul_anyW _ _ _).mono ?_; rintro e w' ⟨rfl, rfl⟩) | (refine wpList_store_row rfl 175 _ _ rfl _ _ rfl rfl 175 _ (heap_alloc2_new _ _ _) (by kernel_rfl) rfl (by kernel_rfl) ?_; rw [setRow_alloc2W]))
 go_ret2
 exact ⟨rfl, ((Below.refl _ _).alloc (Nat.le_refl _) _).alloc (by simp) _⟩
theorem do_5W (a b : Int) (w : World) : Calls Tryz.prog 93 #[.int .i64 5, .int .i64 a, .int .i64 b] w fun e w' => e = .returned (.tuple #[.int .i64 (divIW a b), .bool true]) /\ Below w.heap.size w w' := by
 have hk : tblW[3]? = some (Value.func (Fn.func 111) #[] #[]) := rfl
 go_enter Tryz.func93, Tryz.ntmps93
 go_wp2_with (first | (go_at_call 101; refine (operations_anyW _).mono ?_; rintro e w' ⟨rfl, rfl⟩) | (go_at_call 111; refine (div_anyW _ _ _).mono ?_; rintro e w' ⟨rfl, rfl⟩) | (refine wpList_store_row rfl 175 _ _ rfl _ _ rfl rfl 175 _ (heap_alloc2_new _ _ _) (by kernel_rfl) rfl (by kernel_rfl) ?_; rw [setRow_alloc2W]))
 go_ret2
 exact ⟨rfl, ((Below.refl _ _).alloc (Nat.le_refl _) _).alloc (by simp) _⟩
theorem do_6W (a b : Int) (w : World) : Calls Tryz.prog 93 #[.int .i64 6, .int .i64 a, .int .i64 b] w fun e w' => e = .returned (.tuple #[.int .i64 (remIW a b), .bool true]) /\ Below w.heap.size w w' := by
 have hk : tblW[4]? = some (Value.func (Fn.func 112) #[] #[]) := rfl
 go_enter Tryz.func93, Tryz.ntmps93
 go_wp2_with (first | (go_at_call 101; refine (operations_anyW _).mono ?_; rintro e w' ⟨rfl, rfl⟩) | (go_at_call 112; refine (rem_anyW _ _ _).mono ?_; rintro e w' ⟨rfl, rfl⟩) | (refine wpList_store_row rfl 175 _ _ rfl _ _ rfl rfl 175 _ (heap_alloc2_new _ _ _) (by kernel_rfl) rfl (by kernel_rfl) ?_; rw [setRow_alloc2W]))
 go_ret2
 exact ⟨rfl, ((Below.refl _ _).alloc (Nat.le_refl _) _).alloc (by simp) _⟩
theorem do_7W (a b : Int) (w : World) : Calls Tryz.prog 93 #[.int .i64 7, .int .i64 a, .int .i64 b] w fun e w' => e = .returned (.tuple #[.int .i64 (bits .and .i64 a b), .bool true]) /\ Below w.heap.size w w' := by
 have hk : tblW[5]? = some (Value.func (Fn.func 113) #[] #[]) := rfl
 go_enter Tryz.func93, Tryz.ntmps93
 go_wp2_with (first | (go_at_call 101; refine (operations_anyW _).mono ?_; rintro e w' ⟨rfl, rfl⟩) | (go_at_call 113; refine (and_anyW _ _ _).mono ?_; rintro e w' ⟨rfl, rfl⟩) | (refine wpList_store_row rfl 175 _ _ rfl _ _ rfl rfl 175 _ (heap_alloc2_new _ _ _) (by kernel_rfl) rfl (by kernel_rfl) ?_; rw [setRow_alloc2W]))
 go_ret2
 exact ⟨rfl, ((Below.refl _ _).alloc (Nat.le_refl _) _).alloc (by simp) _⟩
theorem do_8W (a b : Int) (w : World) : Calls Tryz.prog 93 #[.int .i64 8, .int .i64 a, .int .i64 b] w fun e w' => e = .returned (.tuple #[.int .i64 (bits .or .i64 a b), .bool true]) /\ Below w.heap.size w w' := by
 have hk : tblW[6]? = some (Value.func (Fn.func 114) #[] #[]) := rfl
 go_enter Tryz.func93, Tryz.ntmps93
 go_wp2_with (first | (go_at_call 101; refine (operations_anyW _).mono ?_; rintro e w' ⟨rfl, rfl⟩) | (go_at_call 114; refine (or_anyW _ _ _).mono ?_; rintro e w' ⟨rfl, rfl⟩) | (refine wpList_store_row rfl 175 _ _ rfl _ _ rfl rfl 175 _ (heap_alloc2_new _ _ _) (by kernel_rfl) rfl (by kernel_rfl) ?_; rw [setRow_alloc2W]))
 go_ret2
 exact ⟨rfl, ((Below.refl _ _).alloc (Nat.le_refl _) _).alloc (by simp) _⟩
theorem do_9W (a b : Int) (w : World) : Calls Tryz.prog 93 #[.int .i64 9, .int .i64 a, .int .i64 b] w fun e w' => e = .returned (.tuple #[.int .i64 (bits .xor .i64 a b), .bool true]) /\ Below w.heap.size w w' := by
 have hk : tblW[7]? = some (Value.func (Fn.func 115) #[] #[]) := rfl
 go_enter Tryz.func93, Tryz.ntmps93
 go_wp2_with (first | (go_at_call 101; refine (operations_anyW _).mono ?_; rintro e w' ⟨rfl, rfl⟩) | (go_at_call 115; refine (xor_anyW _ _ _).mono ?_; rintro e w' ⟨rfl, rfl⟩) | (refine wpList_store_row rfl 175 _ _ rfl _ _ rfl rfl 175 _ (heap_alloc2_new _ _ _) (by kernel_rfl) rfl (by kernel_rfl) ?_; rw [setRow_alloc2W]))
 go_ret2
 exact ⟨rfl, ((Below.refl _ _).alloc (Nat.le_refl _) _).alloc (by simp) _⟩
theorem do_10W (a b : Int) (w : World) : Calls Tryz.prog 93 #[.int .i64 10, .int .i64 a, .int .i64 b] w fun e w' => e = .returned (.tuple #[.int .i64 (bits .andNot .i64 a b), .bool true]) /\ Below w.heap.size w w' := by
 have hk : tblW[8]? = some (Value.func (Fn.func 116) #[] #[]) := rfl
 go_enter Tryz.func93, Tryz.ntmps93
 go_wp2_with (first | (go_at_call 101; refine (operations_anyW _).mono ?_; rintro e w' ⟨rfl, rfl⟩) | (go_at_call 116; refine (bic_anyW _ _ _).mono ?_; rintro e w' ⟨rfl, rfl⟩) | (refine wpList_store_row rfl 175 _ _ rfl _ _ rfl rfl 175 _ (heap_alloc2_new _ _ _) (by kernel_rfl) rfl (by kernel_rfl) ?_; rw [setRow_alloc2W]))
 go_ret2
 exact ⟨rfl, ((Below.refl _ _).alloc (Nat.le_refl _) _).alloc (by simp) _⟩
theorem do_11W (a b : Int) (w : World) : Calls Tryz.prog 93 #[.int .i64 11, .int .i64 a, .int .i64 b] w fun e w' => e = .returned (.tuple #[.int .i64 (shlIW a b), .bool true]) /\ Below w.heap.size w w' := by
 have hk : tblW[9]? = some (Value.func (Fn.func 117) #[] #[]) := rfl
 go_enter Tryz.func93, Tryz.ntmps93
 go_wp2_with (first | (go_at_call 101; refine (operations_anyW _).mono ?_; rintro e w' ⟨rfl, rfl⟩) | (go_at_call 117; refine (shl_anyW _ _ _).mono ?_; rintro e w' ⟨rfl, rfl⟩) | (refine wpList_store_row rfl 175 _ _ rfl _ _ rfl rfl 175 _ (heap_alloc2_new _ _ _) (by kernel_rfl) rfl (by kernel_rfl) ?_; rw [setRow_alloc2W]))
 go_ret2
 exact ⟨rfl, ((Below.refl _ _).alloc (Nat.le_refl _) _).alloc (by simp) _⟩
theorem do_12W (a b : Int) (w : World) : Calls Tryz.prog 93 #[.int .i64 12, .int .i64 a, .int .i64 b] w fun e w' => e = .returned (.tuple #[.int .i64 (shrIW a b), .bool true]) /\ Below w.heap.size w w' := by
 have hk : tblW[10]? = some (Value.func (Fn.func 118) #[] #[]) := rfl
 go_enter Tryz.func93, Tryz.ntmps93
 go_wp2_with (first | (go_at_call 101; refine (operations_anyW _).mono ?_; rintro e w' ⟨rfl, rfl⟩) | (go_at_call 118; refine (shr_anyW _ _ _).mono ?_; rintro e w' ⟨rfl, rfl⟩) | (refine wpList_store_row rfl 175 _ _ rfl _ _ rfl rfl 175 _ (heap_alloc2_new _ _ _) (by kernel_rfl) rfl (by kernel_rfl) ?_; rw [setRow_alloc2W]))
 go_ret2
 exact ⟨rfl, ((Below.refl _ _).alloc (Nat.le_refl _) _).alloc (by simp) _⟩
theorem do_13W (a b : Int) (w : World) : Calls Tryz.prog 93 #[.int .i64 13, .int .i64 a, .int .i64 b] w fun e w' => e = .returned (.tuple #[.int .i64 (truthIW (a == b)), .bool true]) /\ Below w.heap.size w w' := by
 have hk : tblW[11]? = some (Value.func (Fn.func 119) #[] #[]) := rfl
 go_enter Tryz.func93, Tryz.ntmps93
 go_wp2_with (first | (go_at_call 101; refine (operations_anyW _).mono ?_; rintro e w' ⟨rfl, rfl⟩) | (go_at_call 119; refine (eq_anyW _ _ _).mono ?_; rintro e w' ⟨rfl, rfl⟩) | (refine wpList_store_row rfl 175 _ _ rfl _ _ rfl rfl 175 _ (heap_alloc2_new _ _ _) (by kernel_rfl) rfl (by kernel_rfl) ?_; rw [setRow_alloc2W]))
 go_ret2
 exact ⟨rfl, ((Below.refl _ _).alloc (Nat.le_refl _) _).alloc (by simp) _⟩
theorem do_14W (a b : Int) (w : World) : Calls Tryz.prog 93 #[.int .i64 14, .int .i64 a, .int .i64 b] w fun e w' => e = .returned (.tuple #[.int .i64 (truthIW (a != b)), .bool true]) /\ Below w.heap.size w w' := by
 have hk : tblW[12]? = some (Value.func (Fn.func 121) #[] #[]) := rfl
 go_enter Tryz.func93, Tryz.ntmps93
 go_wp2_with (first | (go_at_call 101; refine (operations_anyW _).mono ?_; rintro e w' ⟨rfl, rfl⟩) | (go_at_call 121; refine (ne_anyW _ _ _).mono ?_; rintro e w' ⟨rfl, rfl⟩) | (refine wpList_store_row rfl 175 _ _ rfl _ _ rfl rfl 175 _ (heap_alloc2_new _ _ _) (by kernel_rfl) rfl (by kernel_rfl) ?_; rw [setRow_alloc2W]))
 go_ret2
 exact ⟨rfl, ((Below.refl _ _).alloc (Nat.le_refl _) _).alloc (by simp) _⟩
theorem do_15W (a b : Int) (w : World) : Calls Tryz.prog 93 #[.int .i64 15, .int .i64 a, .int .i64 b] w fun e w' => e = .returned (.tuple #[.int .i64 (truthIW (decide (a < b))), .bool true]) /\ Below w.heap.size w w' := by
 have hk : tblW[13]? = some (Value.func (Fn.func 122) #[] #[]) := rfl
 go_enter Tryz.func93, Tryz.ntmps93
 go_wp2_with (first | (go_at_call 101; refine (operations_anyW _).mono ?_; rintro e w' ⟨rfl, rfl⟩) | (go_at_call 122; refine (lt_anyW _ _ _).mono ?_; rintro e w' ⟨rfl, rfl⟩) | (refine wpList_store_row rfl 175 _ _ rfl _ _ rfl rfl 175 _ (heap_alloc2_new _ _ _) (by kernel_rfl) rfl (by kernel_rfl) ?_; rw [setRow_alloc2W]))
 go_ret2
 exact ⟨rfl, ((Below.refl _ _).alloc (Nat.le_refl _) _).alloc (by simp) _⟩
theorem do_16W (a b : Int) (w : World) : Calls Tryz.prog 93 #[.int .i64 16, .int .i64 a, .int .i64 b] w fun e w' => e = .returned (.tuple #[.int .i64 (truthIW (decide (a <= b))), .bool true]) /\ Below w.heap.size w w' := by
 have hk : tblW[14]? = some (Value.func (Fn.func 123) #[] #[]) := rfl
 go_enter Tryz.func93, Tryz.ntmps93
 go_wp2_with (first | (go_at_call 101; refine (operations_anyW _).mono ?_; rintro e w' ⟨rfl, rfl⟩) | (go_at_call 123; refine (le_anyW _ _ _).mono ?_; rintro e w' ⟨rfl, rfl⟩) | (refine wpList_store_row rfl 175 _ _ rfl _ _ rfl rfl 175 _ (heap_alloc2_new _ _ _) (by kernel_rfl) rfl (by kernel_rfl) ?_; rw [setRow_alloc2W]))
 go_ret2
 exact ⟨rfl, ((Below.refl _ _).alloc (Nat.le_refl _) _).alloc (by simp) _⟩
theorem do_17W (a b : Int) (w : World) : Calls Tryz.prog 93 #[.int .i64 17, .int .i64 a, .int .i64 b] w fun e w' => e = .returned (.tuple #[.int .i64 (wrap64 (-a)), .bool true]) /\ Below w.heap.size w w' := by
 have hk : tblW[15]? = some (Value.func (Fn.func 124) #[] #[]) := rfl
 go_enter Tryz.func93, Tryz.ntmps93
 go_wp2_with (first | (go_at_call 101; refine (operations_anyW _).mono ?_; rintro e w' ⟨rfl, rfl⟩) | (go_at_call 124; refine (neg2_anyW _ _ _).mono ?_; rintro e w' ⟨rfl, rfl⟩) | (refine wpList_store_row rfl 175 _ _ rfl _ _ rfl rfl 175 _ (heap_alloc2_new _ _ _) (by kernel_rfl) rfl (by kernel_rfl) ?_; rw [setRow_alloc2W]))
 go_ret2
 exact ⟨rfl, ((Below.refl _ _).alloc (Nat.le_refl _) _).alloc (by simp) _⟩
theorem do_18W (a b : Int) (w : World) : Calls Tryz.prog 93 #[.int .i64 18, .int .i64 a, .int .i64 b] w fun e w' => e = .returned (.tuple #[.int .i64 (bits .xor .i64 (-1) a), .bool true]) /\ Below w.heap.size w w' := by
 have hk : tblW[16]? = some (Value.func (Fn.func 126) #[] #[]) := rfl
 go_enter Tryz.func93, Tryz.ntmps93
 go_wp2_with (first | (go_at_call 101; refine (operations_anyW _).mono ?_; rintro e w' ⟨rfl, rfl⟩) | (go_at_call 126; refine (inv2_anyW _ _ _).mono ?_; rintro e w' ⟨rfl, rfl⟩) | (refine wpList_store_row rfl 175 _ _ rfl _ _ rfl rfl 175 _ (heap_alloc2_new _ _ _) (by kernel_rfl) rfl (by kernel_rfl) ?_; rw [setRow_alloc2W]))
 go_ret2
 exact ⟨rfl, ((Below.refl _ _).alloc (Nat.le_refl _) _).alloc (by simp) _⟩
theorem do_19W (a b : Int) (w : World) : Calls Tryz.prog 93 #[.int .i64 19, .int .i64 a, .int .i64 b] w fun e w' => e = .returned (.tuple #[.int .i64 (wrap64 (1 - a)), .bool true]) /\ Below w.heap.size w w' := by
 have hk : tblW[17]? = some (Value.func (Fn.func 128) #[] #[]) := rfl
 go_enter Tryz.func93, Tryz.ntmps93
 go_wp2_with (first | (go_at_call 101; refine (operations_anyW _).mono ?_; rintro e w' ⟨rfl, rfl⟩) | (go_at_call 128; refine (not_anyW _ _ _).mono ?_; rintro e w' ⟨rfl, rfl⟩) | (refine wpList_store_row rfl 175 _ _ rfl _ _ rfl rfl 175 _ (heap_alloc2_new _ _ _) (by kernel_rfl) rfl (by kernel_rfl) ?_; rw [setRow_alloc2W]))
 go_ret2
 exact ⟨rfl, ((Below.refl _ _).alloc (Nat.le_refl _) _).alloc (by simp) _⟩
def doIW (op a b : Int) : Int :=
 if op = 2 then wrap64 (a + b) else
 if op = 3 then wrap64 (a - b) else
 if op = 4 then wrap64 (a * b) else
 if op = 5 then divIW a b else
 if op = 6 then remIW a b else
 if op = 7 then bits .and .i64 a b else
 if op = 8 then bits .or .i64 a b else
 if op = 9 then bits .xor .i64 a b else
 if op = 10 then bits .andNot .i64 a b else
 if op = 11 then shlIW a b else
 if op = 12 then shrIW a b else
 if op = 13 then truthIW (a == b) else
 if op = 14 then truthIW (a != b) else
 if op = 15 then truthIW (decide (a < b)) else
 if op = 16 then truthIW (decide (a <= b)) else
 if op = 17 then wrap64 (-a) else
 if op = 18 then bits .xor .i64 (-1) a else
 if op = 19 then wrap64 (1 - a) else 0
def isOpW (op : Int) : Bool := decide (2 <= op /\ op <= 19)
theorem do_anyW (op a b : Int) (w : World) : Calls Tryz.prog 93 #[.int .i64 op, .int .i64 a, .int .i64 b] w fun e w' => e = .returned (.tuple #[.int .i64 (doIW op a b), .bool (isOpW op)]) /\ Below w.heap.size w w' := by
 by_cases h : op < 2 \/ 19 < op
 ·have e1 : isOpW op = false := by unfold isOpW; exact decide_eq_false (by omega)
  have e2 : doIW op a b = 0 := by
   unfold doIW
   rw [if_neg (by omega), if_neg (by omega), if_neg (by omega), if_neg (by omega), if_neg (by omega), if_neg (by omega), if_neg (by omega), if_neg (by omega), if_neg (by omega), if_neg (by omega), if_neg (by omega), if_neg (by omega), if_neg (by omega), if_neg (by omega), if_neg (by omega), if_neg (by omega), if_neg (by omega), if_neg (by omega)]
  rw [e1, e2]
  exact do_noneW op a b h w
 ·have hk : op = 2 \/ op = 3 \/ op = 4 \/ op = 5 \/ op = 6 \/ op = 7 \/ op = 8 \/ op = 9 \/ op = 10 \/ op = 11 \/ op = 12 \/ op = 13 \/ op = 14 \/ op = 15 \/ op = 16 \/ op = 17 \/ op = 18 \/ op = 19 := by omega
  rcases hk with rfl | rfl | rfl | rfl | rfl | rfl | rfl | rfl | rfl | rfl | rfl | rfl | rfl | rfl | rfl | rfl | rfl | rfl
  ·exact do_2W a b w
  ·exact do_3W a b w
  ·exact do_4W a b w
  ·exact do_5W a b w
  ·exact do_6W a b w
  ·exact do_7W a b w
  ·exact do_8W a b w
  ·exact do_9W a b w
  ·exact do_10W a b w
  ·exact do_11W a b w
  ·exact do_12W a b w
  ·exact do_13W a b w
  ·exact do_14W a b w
  ·exact do_15W a b w
  ·exact do_16W a b w
  ·exact do_17W a b w
  ·exact do_18W a b w
  ·exact do_19W a b w
end Go.Proofs.YtegoemeefmjnoaaGreatDoor
namespace Go.Proofs.YtegoemeefmjnoaaGreatDoor
open Go.ChangeShapes Go.WideShapes Go.ChangeAt Go.RowKit Go.Maps
structure Hpw where
 tk : Int
 ln : Int -> Option Int
 mm : Int -> Int
 c : Nat
structure Wv where
 inp : List Int
 ev : List (Int × Int)
 fin : Int
 kd : Int
 vl : Int
 steps : Int
 words : Int
 deep : Int
 rests : Bool
 hp : Hpw
def fitsB (a : Int) : Bool := decide (-9223372036854775808 <= a) && decide (a <= 9223372036854775807)
theorem fitsB_iff {a : Int} : fitsB a = true ↔ Fits a := by unfold fitsB Fits; simp
def Wv.over (V : Wv) : Bool := V.rests || !decide (V.fin = 0)
def Wv.panic (V : Wv) (k x : Int) : Wv := { V with fin := 2, kd := k, vl := x }
def Wv.stuck (V : Wv) (k : Int) : Wv := { V with fin := 3, kd := k }
def Wv.tell (V : Wv) (k x : Int) : Wv := if V.ev.length = 1048576 then { V with rests := true } else { V with ev := V.ev ++ [(k, x)] }
def Wv.noEl (V : Wv) (a : Int) : Wv := if (V.hp.ln a).isSome /\ a ≠ 0 then V.stuck 2 else V.stuck 1
def Hpw.place (h : Hpw) (a i : Int) : Bool := decide (0 <= i) && decide (i < (h.ln a).getD 0)
def Wv.calc (V : Wv) (op a b : Int) : Wv :=
 if (op = 5 \/ op = 6) /\ b = 0 then V.stuck 3 else if (op = 11 \/ op = 12) /\ b < 0 then V.stuck 4 else if op = 19 /\ ¬ (a = 0 \/ a = 1) then V.stuck 5 else V
def Wv.mem (V : Wv) (op a b c : Int) : Wv × Int :=
 if op = 20 then (if a = 0 then (V, 0) else match V.hp.ln a with | some n => (V, n) | none => (V.stuck 1, 0))
 else if op = 21 then (if V.hp.place a b then (V, V.hp.mm (a + 1 + b)) else (V.noEl a, 0))
 else if op = 22 then (if V.hp.place a b then ({ V with hp := ⟨V.hp.tk, V.hp.ln, upd V.hp.mm (a + 1 + b) c, V.hp.c + 1⟩ }, 0) else (V.noEl a, 0))
 else (if a < 0 then (V.stuck 1, 0) else if V.hp.tk + a < 4611686018427387904 then ({ V with words := V.hp.tk + a + 1, hp := ⟨V.hp.tk + a + 1, upd V.hp.ln (V.hp.tk + 1) (some a), V.hp.mm, V.hp.c + 1⟩ }, V.hp.tk + 1) else ({ V.panic 8 0 with words := V.hp.tk }, 0))
def Wv.opr (V : Wv) (op imm a b c : Int) : Option (Wv × Int) :=
 if op = 1 then some (V, imm)
 else if op = 31 then some (V, a)
 else if 20 <= op /\ op <= 23 then (if (fitsB a && (fitsB b && (fitsB c && decide (V.hp.c < 1000000000)))) = true then some (V.mem op a b c) else none)
 else if op = 24 then some (match V.inp with | [] => (V.panic 5 0, 0) | y :: I => ({ V with inp := I }, y))
 else if op = 26 then some (V.tell 1 a, 0)
 else if op = 27 then some (if a = 0 \/ a = 1 then (V.tell 2 a, 0) else (V.stuck 5, 0))
 else if op = 28 then some (if a = 0 then (V.panic imm 0, 0) else (V, 0))
 else if op = 29 then some (if a < 0 then (V.panic imm 0, 0) else (V, 0))
 else if op = 30 then some (if a < 0 \/ b <= a then (V.panic imm 0, 0) else (V, 0))
 else some (V.calc op a b, doIW op a b)
structure Wst where
 mb : Nat
 o : Nat
 t : TypeId
 hb : Nat
 hm : Nat
 hn : Nat
 hi : Nat
 st : Nat -> Prop
 w0 : World
structure Wdy where
 ia : Option Addr
 ic : Nat
 ve : Value
def wcs (s : Wst) (d : Wdy) (V : Wv) : List Value := [.pointer (some ⟨s.hb, 0, none⟩), d.ve, .int .i64 V.fin, .int .i64 V.kd, .int .i64 V.vl, .int .i64 V.steps, .int .i64 V.words, .int .i64 V.deep, .bool V.rests, .slice d.ia V.inp.length d.ic]
def AgrW (s : Wst) (w : World) : Prop := ∀ k, s.st k -> w.heap[k]? = s.w0.heap[k]?
def footW (s : Wst) (d : Wdy) (k : Nat) : Prop := k = s.mb \/ CF s.hb s.hm s.hn k \/ d.ve.ownBlock = some k
structure WR (s : Wst) (d : Wdy) (w : World) (I : List Int) (E : List (Int × Int)) (hp : Hpw) : Prop where
 agr : AgrW s w
 inp : ∀ w', AgrW s w' -> Ints w' d.ia d.ic I
 ch : CH w s.hb s.hm s.hn hp.tk hp.ln hp.mm hp.c
 ev : Row w s.hi 52 2 d.ve (E.map evc)
 evs : E.length <= 1048576
 hi : s.hi <= w.heap.size /\ s.mb < s.hi /\ (∀ k, CF s.hb s.hm s.hn k -> k < s.hi) /\ ∀ k, s.st k -> k < s.hi
 out : ∀ k, s.st k -> k ≠ s.mb /\ ¬ CF s.hb s.hm s.hn k
 ne : s.t ≠ 52 /\ s.t ≠ 113
 box : ∃ A, w.heap[s.mb]? = some (.cells A s.t (0, 0))
theorem not_ownW {w : World} {B e z v n xs} (h : w.ownsRow B e z v n xs) {g : Nat} (hg : g < B) : v.ownBlock ≠ some g := fun e => by have := (own_block h e).1; omega
theorem WR.mb_ne {s d w I E hp} (h : WR s d w I E hp) : ¬ CF s.hb s.hm s.hn s.mb := by
 obtain ⟨A, hA⟩ := h.box
 obtain ⟨D, ⟨es, cl, d1, _⟩, _⟩ := h.ch.o1
 obtain ⟨E', ⟨es2, cl2, e1, _⟩, _⟩ := h.ch.o2
 have hb := h.ch.box
 rintro (e | e | e)
 ·rw [<- e, hA] at hb; injection (Option.some.inj hb) with _ q; exact h.ne.2 q
 ·rw [<- e, hA] at d1; cases d1
 ·rw [<- e, hA] at e1; cases e1
structure FooW (s : Wst) (d d' : Wdy) (w w' : World) : Prop where
 only : Only (footW s d) w w'
 new : ∀ k, footW s d' k -> footW s d k \/ w.heap.size <= k
theorem FooW.refl (s : Wst) (d : Wdy) (w : World) : FooW s d d w w := ⟨Only.refl _ _, fun k h => .inl h⟩
theorem FooW.trans {s d d' d'' w w' w''} (h : FooW s d d' w w') (k : FooW s d' d'' w' w'') : FooW s d d'' w w'' :=
 ⟨h.only.trans k.only fun i hi hf => (h.new i hf).elim id (fun q => by omega), fun i hf => (k.new i hf).elim (fun q => h.new i q) (fun q => .inr (Nat.le_trans h.only.size q))⟩
theorem FooW.of_below {s d w w'} (h : Below w.heap.size w w') : FooW s d d w w' := ⟨Only.of_below h _, fun k q => .inl q⟩
theorem FooW.set (s : Wst) (d : Wdy) (w : World) (i : Nat) (v : Value) : FooW s d d w (w.setCell ⟨s.mb, i, none⟩ v) := ⟨(Only.of_set w _ v).mono fun k _ hk => .inl hk, fun k hk => .inl hk⟩
theorem WR.move {s d w I E hp} (h : WR s d w I E hp) {w' : World} (hs : w.heap.size <= w'.heap.size) (h1 : ∀ k, s.st k -> w'.heap[k]? = w.heap[k]?) (h2 : ∀ k, CF s.hb s.hm s.hn k -> w'.heap[k]? = w.heap[k]?) (h3 : ∀ k, d.ve.ownBlock = some k -> w'.heap[k]? = w.heap[k]?) (hA : ∃ A, w'.heap[s.mb]? = some (.cells A s.t (0, 0))) : WR s d w' I E hp :=
 ⟨fun k hk => (h1 k hk).trans (h.agr k hk), h.inp, h.ch.move h2, h.ev.move h3, h.evs, ⟨Nat.le_trans h.hi.1 hs, h.hi.2⟩, h.out, h.ne, hA⟩
theorem WR.box_ne {s d w I E hp} (h : WR s d w I E hp) {w' : World} (hs : w.heap.size <= w'.heap.size) (hk : ∀ k, k < w.heap.size -> k ≠ s.mb -> w'.heap[k]? = w.heap[k]?) (hA : ∃ A, w'.heap[s.mb]? = some (.cells A s.t (0, 0))) : WR s d w' I E hp :=
 h.move hs (fun k q => hk k (Nat.lt_of_lt_of_le (h.hi.2.2.2 k q) h.hi.1) (h.out k q).1) (fun k q => hk k (h.ch.lt k q) (fun e => h.mb_ne (e ▸ q))) (fun k q => hk k (own_block h.ev.out q).2 (fun e => not_ownW h.ev.out h.hi.2.1 (e ▸ q))) hA
theorem WR.set {s d w I E hp} (h : WR s d w I E hp) (i : Nat) (v : Value) : WR s d (w.setCell ⟨s.mb, i, none⟩ v) I E hp := by
 obtain ⟨A, hA⟩ := h.box
 exact h.box_ne (by simp [World.setCell]) (fun k _ hk => heap_set_other hk) ⟨_, heap_set_at hA⟩
theorem WR.below {s d w w' I E hp} (h : WR s d w I E hp) (hb : Below w.heap.size w w') : WR s d w' I E hp := by
 obtain ⟨A, hA⟩ := h.box
 exact h.box_ne hb.size (fun k hk _ => hb.block k hk) ⟨A, (hb.block _ (gl hA)).trans hA⟩
theorem WR.setEv {s d w w' I E hp} (h : WR s d w I E hp) {v' : Value} {E' : List (Int × Int)} (g : GI s.hi w w' d.ve v') (ho : Row w' s.hi 52 2 v' (E'.map evc)) (hl : E'.length <= 1048576) : WR s { d with ve := v' } w' I E' hp /\ w'.heap[s.mb]? = w.heap[s.mb]? /\ FooW s d { d with ve := v' } w w' := by
 have hh := h.hi
 have lo : ∀ k, k < s.hi -> w'.heap[k]? = w.heap[k]? := fun k hk => g.bel.block k hk
 obtain ⟨A, hA⟩ := h.box
 refine ⟨⟨fun k hk => (lo k (hh.2.2.2 k hk)).trans (h.agr k hk), h.inp, h.ch.move fun b hb => lo b (hh.2.2.1 b hb), ho, hl, ⟨Nat.le_trans hh.1 g.size, hh.2⟩, h.out, h.ne, ⟨A, (lo _ hh.2.1).trans hA⟩⟩, lo _ hh.2.1, ⟨⟨g.bel.os, g.bel.tape, g.bel.output, g.size, fun k hk hn => g.blk k hk (fun e => hn (.inr (.inr e)))⟩, fun k hk => ?_⟩⟩
 rcases hk with q | q | q
 ·exact .inl (.inl q)
 ·exact .inl (.inr (.inl q))
 ·rcases g.own k q with e | e
  ·exact .inl (.inr (.inr e))
  ·exact .inr e
structure Wm (s : Wst) (P Q : List Value) (d : Wdy) (w : World) (V : Wv) : Prop where
 box : w.heap[s.mb]? = some (.cells (P ++ (wcs s d V ++ Q)).toArray s.t (0, 0))
 ol : P.length = s.o
 rest : WR s d w V.inp V.ev V.hp
theorem mid_at {P X Q : List Value} {o j : Nat} (h : P.length = o) {v : Value} (hv : X[j]? = some v) : (P ++ (X ++ Q))[o + j]? = some v := by
 subst h
 rw [List.getElem?_append_right (by omega)]
 have : P.length + j - P.length = j := by omega
 rw [this, List.getElem?_append_left (List.getElem?_eq_some_iff.1 hv).1]
 exact hv
theorem mid_set {P X Q : List Value} {o j : Nat} (h : P.length = o) (hj : j < X.length) (v : Value) : (P ++ (X ++ Q)).set (o + j) v = P ++ (X.set j v ++ Q) := by
 subst h
 rw [List.set_append_right _ _ (by omega)]
 have : P.length + j - P.length = j := by omega
 rw [this, List.set_append_left _ _ hj]
theorem Wm.cell {s P Q d w V} (h : Wm s P Q d w V) {j : Nat} {v : Value} (hv : (wcs s d V)[j]? = some v) : w.cell? ⟨s.mb, s.o + j, none⟩ = some v := cell_arr h.box (by rw [List.getElem?_toArray]; exact mid_at h.ol hv)
theorem box_mid {s : Wst} {w : World} {P X X' Q : List Value} (h : w.heap[s.mb]? = some (.cells (P ++ (X ++ Q)).toArray s.t (0, 0))) (hl : P.length = s.o) {j : Nat} {v : Value} (hj : j < X.length) (e : X.set j v = X') : (w.setCell ⟨s.mb, s.o + j, none⟩ v).heap[s.mb]? = some (.cells (P ++ (X' ++ Q)).toArray s.t (0, 0)) := by
 have := heap_set_at (i := s.o + j) (v := v) h
 rw [this, List.setIfInBounds_toArray, mid_set hl hj, e]
structure CW (s : Wst) (d : Wdy) (w : World) (V : Wv) : Prop where
 c0 : w.cell? ⟨s.mb, s.o, none⟩ = some (.pointer (some ⟨s.hb, 0, none⟩))
 c1 : w.cell? ⟨s.mb, s.o + 1, none⟩ = some d.ve
 c2 : w.cell? ⟨s.mb, s.o + 1 + 1, none⟩ = some (.int .i64 V.fin)
 c3 : w.cell? ⟨s.mb, s.o + 1 + 2, none⟩ = some (.int .i64 V.kd)
 c4 : w.cell? ⟨s.mb, s.o + 1 + 3, none⟩ = some (.int .i64 V.vl)
 c5 : w.cell? ⟨s.mb, s.o + 1 + 4, none⟩ = some (.int .i64 V.steps)
 c6 : w.cell? ⟨s.mb, s.o + 1 + 5, none⟩ = some (.int .i64 V.words)
 c7 : w.cell? ⟨s.mb, s.o + 1 + 6, none⟩ = some (.int .i64 V.deep)
 c8 : w.cell? ⟨s.mb, s.o + 1 + 7, none⟩ = some (.bool V.rests)
 c9 : w.cell? ⟨s.mb, s.o + 9, none⟩ = some (.slice d.ia V.inp.length d.ic)
 lt : s.mb < w.heap.size
 fz : ∀ i, w.frozen? ⟨s.mb, i, none⟩ = false
theorem Wm.cells {s P Q d w V} (h : Wm s P Q d w V) : CW s d w V :=
 ⟨h.cell (j := 0) rfl, h.cell (j := 1) rfl, h.cell (j := 2) rfl, h.cell (j := 3) rfl, h.cell (j := 4) rfl, h.cell (j := 5) rfl, h.cell (j := 6) rfl, h.cell (j := 7) rfl, h.cell (j := 8) rfl, h.cell (j := 9) rfl, (gl h.box), fun i => fz_of h.box⟩
theorem Wm.below {s P Q d w w' V} (h : Wm s P Q d w V) (hb : Below w.heap.size w w') : Wm s P Q d w' V := ⟨(hb.block _ (gl h.box)).trans h.box, h.ol, h.rest.below hb⟩
theorem Wm.put {s P Q d w V} (h : Wm s P Q d w V) (j : Nat) (hj : j < 10) (v : Value) {V' : Wv} (e : (wcs s d V).set j v = wcs s d V') (hi : V'.inp = V.inp) (he : V'.ev = V.ev) (hh : V'.hp = V.hp) : Wm s P Q d (w.setCell ⟨s.mb, s.o + j, none⟩ v) V' :=
 ⟨box_mid h.box h.ol hj e, h.ol, by rw [hi, he, hh]; exact h.rest.set _ v⟩
theorem Wm.panic {s P Q d w V} (h : Wm s P Q d w V) (k x : Int) : Wm s P Q d (((w.setCell ⟨s.mb, s.o + 1 + 1, none⟩ (.int .i64 2)).setCell ⟨s.mb, s.o + 1 + 2, none⟩ (.int .i64 k)).setCell ⟨s.mb, s.o + 1 + 3, none⟩ (.int .i64 x)) (V.panic k x) /\ FooW s d d w (((w.setCell ⟨s.mb, s.o + 1 + 1, none⟩ (.int .i64 2)).setCell ⟨s.mb, s.o + 1 + 2, none⟩ (.int .i64 k)).setCell ⟨s.mb, s.o + 1 + 3, none⟩ (.int .i64 x)) :=
 ⟨((h.put 2 (by decide) (.int .i64 2) (V' := { V with fin := 2 }) rfl rfl rfl rfl).put 3 (by decide) (.int .i64 k) (V' := { V with fin := 2, kd := k }) rfl rfl rfl rfl).put 4 (by decide) (.int .i64 x) rfl rfl rfl rfl, ((FooW.set s d w _ _).trans (FooW.set s d _ _ _)).trans (FooW.set s d _ _ _)⟩
theorem Wm.stuck {s P Q d w V} (h : Wm s P Q d w V) (k : Int) : Wm s P Q d ((w.setCell ⟨s.mb, s.o + 1 + 1, none⟩ (.int .i64 3)).setCell ⟨s.mb, s.o + 1 + 2, none⟩ (.int .i64 k)) (V.stuck k) /\ FooW s d d w ((w.setCell ⟨s.mb, s.o + 1 + 1, none⟩ (.int .i64 3)).setCell ⟨s.mb, s.o + 1 + 2, none⟩ (.int .i64 k)) :=
 ⟨(h.put 2 (by decide) (.int .i64 3) (V' := { V with fin := 3 }) rfl rfl rfl rfl).put 3 (by decide) (.int .i64 k) rfl rfl rfl rfl, (FooW.set s d w _ _).trans (FooW.set s d _ _ _)⟩
theorem Wm.exit {s P Q d w V} (h : Wm s P Q d w V) : Wm s P Q d (w.setCell ⟨s.mb, s.o + 1 + 1, none⟩ (.int .i64 1)) { V with fin := 1 } /\ FooW s d d w (w.setCell ⟨s.mb, s.o + 1 + 1, none⟩ (.int .i64 1)) :=
 ⟨h.put 2 (by decide) (.int .i64 1) rfl rfl rfl rfl, FooW.set s d w _ _⟩
theorem Wm.made {s P Q d w V} (h : Wm s P Q d w V) (k : Int) : Wm s P Q d (w.setCell ⟨s.mb, s.o + 1 + 4, none⟩ (.int .i64 k)) { V with steps := k } /\ FooW s d d w (w.setCell ⟨s.mb, s.o + 1 + 4, none⟩ (.int .i64 k)) :=
 ⟨h.put 5 (by decide) (.int .i64 k) rfl rfl rfl rfl, FooW.set s d w _ _⟩
theorem Wm.worded {s P Q d w V} (h : Wm s P Q d w V) (k : Int) : Wm s P Q d (w.setCell ⟨s.mb, s.o + 1 + 5, none⟩ (.int .i64 k)) { V with words := k } /\ FooW s d d w (w.setCell ⟨s.mb, s.o + 1 + 5, none⟩ (.int .i64 k)) :=
 ⟨h.put 6 (by decide) (.int .i64 k) rfl rfl rfl rfl, FooW.set s d w _ _⟩
theorem Wm.deeper {s P Q d w V} (h : Wm s P Q d w V) (k : Int) : Wm s P Q d (w.setCell ⟨s.mb, s.o + 1 + 6, none⟩ (.int .i64 k)) { V with deep := k } /\ FooW s d d w (w.setCell ⟨s.mb, s.o + 1 + 6, none⟩ (.int .i64 k)) :=
 ⟨h.put 7 (by decide) (.int .i64 k) rfl rfl rfl rfl, FooW.set s d w _ _⟩
theorem Wm.resting {s P Q d w V} (h : Wm s P Q d w V) : Wm s P Q d (w.setCell ⟨s.mb, s.o + 1 + 7, none⟩ (.bool true)) { V with rests := true } /\ FooW s d d w (w.setCell ⟨s.mb, s.o + 1 + 7, none⟩ (.bool true)) :=
 ⟨h.put 8 (by decide) (.bool true) rfl rfl rfl rfl, FooW.set s d w _ _⟩
theorem Wm.around {s P Q d w V} (h : Wm s P Q d w V) {w' : World} {P' Q' : List Value} (hb : w'.heap[s.mb]? = some (.cells (P' ++ (wcs s d V ++ Q')).toArray s.t (0, 0))) (hl : P'.length = s.o) (hs : w.heap.size <= w'.heap.size) (hk : ∀ k, k < w.heap.size -> k ≠ s.mb -> (s.st k \/ CF s.hb s.hm s.hn k \/ d.ve.ownBlock = some k) -> w'.heap[k]? = w.heap[k]?) : Wm s P' Q' d w' V :=
 ⟨hb, hl, h.rest.move hs (fun k q => hk k (Nat.lt_of_lt_of_le (h.rest.hi.2.2.2 k q) h.rest.hi.1) (h.rest.out k q).1 (.inl q)) (fun k q => hk k (h.rest.ch.lt k q) (fun e => h.rest.mb_ne (e ▸ q)) (.inr (.inl q))) (fun k q => hk k (own_block h.rest.ev.out q).2 (fun e => not_ownW h.rest.ev.out h.rest.hi.2.1 (e ▸ q)) (.inr (.inr q))) ⟨_, hb⟩⟩
end Go.Proofs.YtegoemeefmjnoaaGreatDoor
