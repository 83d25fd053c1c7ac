import Derived.Test.YtjegnmbidhpegaaOps
namespace Go.Proofs.Ytjegnmbidhpegaa
open Go.ChangeShapes Go.WideShapes Go.ChangeAt Go.RowKit

theorem setRow_alloc2 (w : World) (A : Obj) (c c' : Array Value) (t : TypeId) : ((w.alloc A).alloc (.cells c t)).setRow (w.heap.size + 1) c' = (w.alloc A).alloc (.cells c' t) := by
  have h := World.setRow_alloc_new (w.alloc A) c c' t
  have e : (w.alloc A).heap.size = w.heap.size + 1 := by simp
  rw [e] at h
  exact h

theorem do_none (op a b : Int) (h : op < 2 ∨ 19 < op) (w : World) : Calls Try.prog 22 #[.int .i64 op, .int .i64 a, .int .i64 b] w fun e w' => e = .returned (.tuple #[.int .i64 0, .bool false]) ∧ Grown w w' := by
  by_cases h1 : op < 2
  · go_enter Try.func22, Try.ntmps22
    go_wp2
    go_ret2
    exact ⟨rfl, Grown.refl _⟩
  · have h2 : 19 < op := by omega
    clear h
    go_enter Try.func22, Try.ntmps22
    go_wp2
    go_ret2
    exact ⟨rfl, Grown.refl _⟩

theorem do_2 (a b : Int) (w : World) : Calls Try.prog 22 #[.int .i64 2, .int .i64 a, .int .i64 b] w fun e w' => e = .returned (.tuple #[.int .i64 (wrap64 (a + b)), .bool true]) ∧ Grown w w' := by
  have hk : tbl[0]? = some (Value.func (Fn.func 11) #[] #[]) := rfl
  go_enter Try.func22, Try.ntmps22
  go_wp2_with (first | (go_at_call 39; refine (operations_any _).mono ?_; rintro e w' ⟨rfl, rfl⟩) | (go_at_call 11; refine (add_any _ _ _).mono ?_; rintro e w' ⟨rfl, rfl⟩) | (refine wpList_store_row rfl 35 _ _ rfl _ _ rfl rfl 35 _ (heap_alloc2_new _ _ _) (by kernel_rfl) rfl (by kernel_rfl) ?_; rw [setRow_alloc2]))
  go_ret2
  exact ⟨rfl, ((Grown.refl _).alloc _ _).alloc _ _⟩

theorem do_3 (a b : Int) (w : World) : Calls Try.prog 22 #[.int .i64 3, .int .i64 a, .int .i64 b] w fun e w' => e = .returned (.tuple #[.int .i64 (wrap64 (a - b)), .bool true]) ∧ Grown w w' := by
  have hk : tbl[1]? = some (Value.func (Fn.func 13) #[] #[]) := rfl
  go_enter Try.func22, Try.ntmps22
  go_wp2_with (first | (go_at_call 39; refine (operations_any _).mono ?_; rintro e w' ⟨rfl, rfl⟩) | (go_at_call 13; refine (sub_any _ _ _).mono ?_; rintro e w' ⟨rfl, rfl⟩) | (refine wpList_store_row rfl 35 _ _ rfl _ _ rfl rfl 35 _ (heap_alloc2_new _ _ _) (by kernel_rfl) rfl (by kernel_rfl) ?_; rw [setRow_alloc2]))
  go_ret2
  exact ⟨rfl, ((Grown.refl _).alloc _ _).alloc _ _⟩

theorem do_4 (a b : Int) (w : World) : Calls Try.prog 22 #[.int .i64 4, .int .i64 a, .int .i64 b] w fun e w' => e = .returned (.tuple #[.int .i64 (wrap64 (a * b)), .bool true]) ∧ Grown w w' := by
  have hk : tbl[2]? = some (Value.func (Fn.func 12) #[] #[]) := rfl
  go_enter Try.func22, Try.ntmps22
  go_wp2_with (first | (go_at_call 39; refine (operations_any _).mono ?_; rintro e w' ⟨rfl, rfl⟩) | (go_at_call 12; refine (mul_any _ _ _).mono ?_; rintro e w' ⟨rfl, rfl⟩) | (refine wpList_store_row rfl 35 _ _ rfl _ _ rfl rfl 35 _ (heap_alloc2_new _ _ _) (by kernel_rfl) rfl (by kernel_rfl) ?_; rw [setRow_alloc2]))
  go_ret2
  exact ⟨rfl, ((Grown.refl _).alloc _ _).alloc _ _⟩

theorem do_5 (a b : Int) (w : World) : Calls Try.prog 22 #[.int .i64 5, .int .i64 a, .int .i64 b] w fun e w' => e = .returned (.tuple #[.int .i64 (divI a b), .bool true]) ∧ Grown w w' := by
  have hk : tbl[3]? = some (Value.func (Fn.func 15) #[] #[]) := rfl
  go_enter Try.func22, Try.ntmps22
  go_wp2_with (first | (go_at_call 39; refine (operations_any _).mono ?_; rintro e w' ⟨rfl, rfl⟩) | (go_at_call 15; refine (div_any _ _ _).mono ?_; rintro e w' ⟨rfl, rfl⟩) | (refine wpList_store_row rfl 35 _ _ rfl _ _ rfl rfl 35 _ (heap_alloc2_new _ _ _) (by kernel_rfl) rfl (by kernel_rfl) ?_; rw [setRow_alloc2]))
  go_ret2
  exact ⟨rfl, ((Grown.refl _).alloc _ _).alloc _ _⟩

theorem do_6 (a b : Int) (w : World) : Calls Try.prog 22 #[.int .i64 6, .int .i64 a, .int .i64 b] w fun e w' => e = .returned (.tuple #[.int .i64 (remI a b), .bool true]) ∧ Grown w w' := by
  have hk : tbl[4]? = some (Value.func (Fn.func 16) #[] #[]) := rfl
  go_enter Try.func22, Try.ntmps22
  go_wp2_with (first | (go_at_call 39; refine (operations_any _).mono ?_; rintro e w' ⟨rfl, rfl⟩) | (go_at_call 16; refine (rem_any _ _ _).mono ?_; rintro e w' ⟨rfl, rfl⟩) | (refine wpList_store_row rfl 35 _ _ rfl _ _ rfl rfl 35 _ (heap_alloc2_new _ _ _) (by kernel_rfl) rfl (by kernel_rfl) ?_; rw [setRow_alloc2]))
  go_ret2
  exact ⟨rfl, ((Grown.refl _).alloc _ _).alloc _ _⟩

theorem do_7 (a b : Int) (w : World) : Calls Try.prog 22 #[.int .i64 7, .int .i64 a, .int .i64 b] w fun e w' => e = .returned (.tuple #[.int .i64 (bits .and .i64 a b), .bool true]) ∧ Grown w w' := by
  have hk : tbl[5]? = some (Value.func (Fn.func 17) #[] #[]) := rfl
  go_enter Try.func22, Try.ntmps22
  go_wp2_with (first | (go_at_call 39; refine (operations_any _).mono ?_; rintro e w' ⟨rfl, rfl⟩) | (go_at_call 17; refine (and_any _ _ _).mono ?_; rintro e w' ⟨rfl, rfl⟩) | (refine wpList_store_row rfl 35 _ _ rfl _ _ rfl rfl 35 _ (heap_alloc2_new _ _ _) (by kernel_rfl) rfl (by kernel_rfl) ?_; rw [setRow_alloc2]))
  go_ret2
  exact ⟨rfl, ((Grown.refl _).alloc _ _).alloc _ _⟩

theorem do_8 (a b : Int) (w : World) : Calls Try.prog 22 #[.int .i64 8, .int .i64 a, .int .i64 b] w fun e w' => e = .returned (.tuple #[.int .i64 (bits .or .i64 a b), .bool true]) ∧ Grown w w' := by
  have hk : tbl[6]? = some (Value.func (Fn.func 18) #[] #[]) := rfl
  go_enter Try.func22, Try.ntmps22
  go_wp2_with (first | (go_at_call 39; refine (operations_any _).mono ?_; rintro e w' ⟨rfl, rfl⟩) | (go_at_call 18; refine (or_any _ _ _).mono ?_; rintro e w' ⟨rfl, rfl⟩) | (refine wpList_store_row rfl 35 _ _ rfl _ _ rfl rfl 35 _ (heap_alloc2_new _ _ _) (by kernel_rfl) rfl (by kernel_rfl) ?_; rw [setRow_alloc2]))
  go_ret2
  exact ⟨rfl, ((Grown.refl _).alloc _ _).alloc _ _⟩

theorem do_9 (a b : Int) (w : World) : Calls Try.prog 22 #[.int .i64 9, .int .i64 a, .int .i64 b] w fun e w' => e = .returned (.tuple #[.int .i64 (bits .xor .i64 a b), .bool true]) ∧ Grown w w' := by
  have hk : tbl[7]? = some (Value.func (Fn.func 19) #[] #[]) := rfl
  go_enter Try.func22, Try.ntmps22
  go_wp2_with (first | (go_at_call 39; refine (operations_any _).mono ?_; rintro e w' ⟨rfl, rfl⟩) | (go_at_call 19; refine (xor_any _ _ _).mono ?_; rintro e w' ⟨rfl, rfl⟩) | (refine wpList_store_row rfl 35 _ _ rfl _ _ rfl rfl 35 _ (heap_alloc2_new _ _ _) (by kernel_rfl) rfl (by kernel_rfl) ?_; rw [setRow_alloc2]))
  go_ret2
  exact ⟨rfl, ((Grown.refl _).alloc _ _).alloc _ _⟩

theorem do_10 (a b : Int) (w : World) : Calls Try.prog 22 #[.int .i64 10, .int .i64 a, .int .i64 b] w fun e w' => e = .returned (.tuple #[.int .i64 (bits .andNot .i64 a b), .bool true]) ∧ Grown w w' := by
  have hk : tbl[8]? = some (Value.func (Fn.func 21) #[] #[]) := rfl
  go_enter Try.func22, Try.ntmps22
  go_wp2_with (first | (go_at_call 39; refine (operations_any _).mono ?_; rintro e w' ⟨rfl, rfl⟩) | (go_at_call 21; refine (bic_any _ _ _).mono ?_; rintro e w' ⟨rfl, rfl⟩) | (refine wpList_store_row rfl 35 _ _ rfl _ _ rfl rfl 35 _ (heap_alloc2_new _ _ _) (by kernel_rfl) rfl (by kernel_rfl) ?_; rw [setRow_alloc2]))
  go_ret2
  exact ⟨rfl, ((Grown.refl _).alloc _ _).alloc _ _⟩

theorem do_11 (a b : Int) (w : World) : Calls Try.prog 22 #[.int .i64 11, .int .i64 a, .int .i64 b] w fun e w' => e = .returned (.tuple #[.int .i64 (shlI a b), .bool true]) ∧ Grown w w' := by
  have hk : tbl[9]? = some (Value.func (Fn.func 32) #[] #[]) := rfl
  go_enter Try.func22, Try.ntmps22
  go_wp2_with (first | (go_at_call 39; refine (operations_any _).mono ?_; rintro e w' ⟨rfl, rfl⟩) | (go_at_call 32; refine (shl_any _ _ _).mono ?_; rintro e w' ⟨rfl, rfl⟩) | (refine wpList_store_row rfl 35 _ _ rfl _ _ rfl rfl 35 _ (heap_alloc2_new _ _ _) (by kernel_rfl) rfl (by kernel_rfl) ?_; rw [setRow_alloc2]))
  go_ret2
  exact ⟨rfl, ((Grown.refl _).alloc _ _).alloc _ _⟩

theorem do_12 (a b : Int) (w : World) : Calls Try.prog 22 #[.int .i64 12, .int .i64 a, .int .i64 b] w fun e w' => e = .returned (.tuple #[.int .i64 (shrI a b), .bool true]) ∧ Grown w w' := by
  have hk : tbl[10]? = some (Value.func (Fn.func 34) #[] #[]) := rfl
  go_enter Try.func22, Try.ntmps22
  go_wp2_with (first | (go_at_call 39; refine (operations_any _).mono ?_; rintro e w' ⟨rfl, rfl⟩) | (go_at_call 34; refine (shr_any _ _ _).mono ?_; rintro e w' ⟨rfl, rfl⟩) | (refine wpList_store_row rfl 35 _ _ rfl _ _ rfl rfl 35 _ (heap_alloc2_new _ _ _) (by kernel_rfl) rfl (by kernel_rfl) ?_; rw [setRow_alloc2]))
  go_ret2
  exact ⟨rfl, ((Grown.refl _).alloc _ _).alloc _ _⟩

theorem do_13 (a b : Int) (w : World) : Calls Try.prog 22 #[.int .i64 13, .int .i64 a, .int .i64 b] w fun e w' => e = .returned (.tuple #[.int .i64 (truthI (a == b)), .bool true]) ∧ Grown w w' := by
  have hk : tbl[11]? = some (Value.func (Fn.func 43) #[] #[]) := rfl
  go_enter Try.func22, Try.ntmps22
  go_wp2_with (first | (go_at_call 39; refine (operations_any _).mono ?_; rintro e w' ⟨rfl, rfl⟩) | (go_at_call 43; refine (eq_any _ _ _).mono ?_; rintro e w' ⟨rfl, rfl⟩) | (refine wpList_store_row rfl 35 _ _ rfl _ _ rfl rfl 35 _ (heap_alloc2_new _ _ _) (by kernel_rfl) rfl (by kernel_rfl) ?_; rw [setRow_alloc2]))
  go_ret2
  exact ⟨rfl, ((Grown.refl _).alloc _ _).alloc _ _⟩

theorem do_14 (a b : Int) (w : World) : Calls Try.prog 22 #[.int .i64 14, .int .i64 a, .int .i64 b] w fun e w' => e = .returned (.tuple #[.int .i64 (truthI (a != b)), .bool true]) ∧ Grown w w' := by
  have hk : tbl[12]? = some (Value.func (Fn.func 45) #[] #[]) := rfl
  go_enter Try.func22, Try.ntmps22
  go_wp2_with (first | (go_at_call 39; refine (operations_any _).mono ?_; rintro e w' ⟨rfl, rfl⟩) | (go_at_call 45; refine (ne_any _ _ _).mono ?_; rintro e w' ⟨rfl, rfl⟩) | (refine wpList_store_row rfl 35 _ _ rfl _ _ rfl rfl 35 _ (heap_alloc2_new _ _ _) (by kernel_rfl) rfl (by kernel_rfl) ?_; rw [setRow_alloc2]))
  go_ret2
  exact ⟨rfl, ((Grown.refl _).alloc _ _).alloc _ _⟩

theorem do_15 (a b : Int) (w : World) : Calls Try.prog 22 #[.int .i64 15, .int .i64 a, .int .i64 b] w fun e w' => e = .returned (.tuple #[.int .i64 (truthI (decide (a < b))), .bool true]) ∧ Grown w w' := by
  have hk : tbl[13]? = some (Value.func (Fn.func 46) #[] #[]) := rfl
  go_enter Try.func22, Try.ntmps22
  go_wp2_with (first | (go_at_call 39; refine (operations_any _).mono ?_; rintro e w' ⟨rfl, rfl⟩) | (go_at_call 46; refine (lt_any _ _ _).mono ?_; rintro e w' ⟨rfl, rfl⟩) | (refine wpList_store_row rfl 35 _ _ rfl _ _ rfl rfl 35 _ (heap_alloc2_new _ _ _) (by kernel_rfl) rfl (by kernel_rfl) ?_; rw [setRow_alloc2]))
  go_ret2
  exact ⟨rfl, ((Grown.refl _).alloc _ _).alloc _ _⟩

theorem do_16 (a b : Int) (w : World) : Calls Try.prog 22 #[.int .i64 16, .int .i64 a, .int .i64 b] w fun e w' => e = .returned (.tuple #[.int .i64 (truthI (decide (a ≤ b))), .bool true]) ∧ Grown w w' := by
  have hk : tbl[14]? = some (Value.func (Fn.func 47) #[] #[]) := rfl
  go_enter Try.func22, Try.ntmps22
  go_wp2_with (first | (go_at_call 39; refine (operations_any _).mono ?_; rintro e w' ⟨rfl, rfl⟩) | (go_at_call 47; refine (le_any _ _ _).mono ?_; rintro e w' ⟨rfl, rfl⟩) | (refine wpList_store_row rfl 35 _ _ rfl _ _ rfl rfl 35 _ (heap_alloc2_new _ _ _) (by kernel_rfl) rfl (by kernel_rfl) ?_; rw [setRow_alloc2]))
  go_ret2
  exact ⟨rfl, ((Grown.refl _).alloc _ _).alloc _ _⟩

theorem do_17 (a b : Int) (w : World) : Calls Try.prog 22 #[.int .i64 17, .int .i64 a, .int .i64 b] w fun e w' => e = .returned (.tuple #[.int .i64 (wrap64 (-a)), .bool true]) ∧ Grown w w' := by
  have hk : tbl[15]? = some (Value.func (Fn.func 48) #[] #[]) := rfl
  go_enter Try.func22, Try.ntmps22
  go_wp2_with (first | (go_at_call 39; refine (operations_any _).mono ?_; rintro e w' ⟨rfl, rfl⟩) | (go_at_call 48; refine (neg2_any _ _ _).mono ?_; rintro e w' ⟨rfl, rfl⟩) | (refine wpList_store_row rfl 35 _ _ rfl _ _ rfl rfl 35 _ (heap_alloc2_new _ _ _) (by kernel_rfl) rfl (by kernel_rfl) ?_; rw [setRow_alloc2]))
  go_ret2
  exact ⟨rfl, ((Grown.refl _).alloc _ _).alloc _ _⟩

theorem do_18 (a b : Int) (w : World) : Calls Try.prog 22 #[.int .i64 18, .int .i64 a, .int .i64 b] w fun e w' => e = .returned (.tuple #[.int .i64 (bits .xor .i64 (-1) a), .bool true]) ∧ Grown w w' := by
  have hk : tbl[16]? = some (Value.func (Fn.func 49) #[] #[]) := rfl
  go_enter Try.func22, Try.ntmps22
  go_wp2_with (first | (go_at_call 39; refine (operations_any _).mono ?_; rintro e w' ⟨rfl, rfl⟩) | (go_at_call 49; refine (inv2_any _ _ _).mono ?_; rintro e w' ⟨rfl, rfl⟩) | (refine wpList_store_row rfl 35 _ _ rfl _ _ rfl rfl 35 _ (heap_alloc2_new _ _ _) (by kernel_rfl) rfl (by kernel_rfl) ?_; rw [setRow_alloc2]))
  go_ret2
  exact ⟨rfl, ((Grown.refl _).alloc _ _).alloc _ _⟩

theorem do_19 (a b : Int) (w : World) : Calls Try.prog 22 #[.int .i64 19, .int .i64 a, .int .i64 b] w fun e w' => e = .returned (.tuple #[.int .i64 (wrap64 (1 - a)), .bool true]) ∧ Grown w w' := by
  have hk : tbl[17]? = some (Value.func (Fn.func 50) #[] #[]) := rfl
  go_enter Try.func22, Try.ntmps22
  go_wp2_with (first | (go_at_call 39; refine (operations_any _).mono ?_; rintro e w' ⟨rfl, rfl⟩) | (go_at_call 50; refine (not_any _ _ _).mono ?_; rintro e w' ⟨rfl, rfl⟩) | (refine wpList_store_row rfl 35 _ _ rfl _ _ rfl rfl 35 _ (heap_alloc2_new _ _ _) (by kernel_rfl) rfl (by kernel_rfl) ?_; rw [setRow_alloc2]))
  go_ret2
  exact ⟨rfl, ((Grown.refl _).alloc _ _).alloc _ _⟩

/-- Do of chapter 1, over the plain integers. -/
def doI (op a b : Int) : Int :=
  if op = 2 then wrap64 (a + b) else
  if op = 3 then wrap64 (a - b) else
  if op = 4 then wrap64 (a * b) else
  if op = 5 then divI a b else
  if op = 6 then remI a b else
  if op = 7 then bits .and .i64 a b else
  if op = 8 then bits .or .i64 a b else
  if op = 9 then bits .xor .i64 a b else
  if op = 10 then bits .andNot .i64 a b else
  if op = 11 then shlI a b else
  if op = 12 then shrI a b else
  if op = 13 then truthI (a == b) else
  if op = 14 then truthI (a != b) else
  if op = 15 then truthI (decide (a < b)) else
  if op = 16 then truthI (decide (a ≤ b)) else
  if op = 17 then wrap64 (-a) else
  if op = 18 then bits .xor .i64 (-1) a else
  if op = 19 then wrap64 (1 - a) else 0

def isOp (op : Int) : Bool := decide (2 ≤ op ∧ op ≤ 19)
theorem do_any (op a b : Int) (w : World) : Calls Try.prog 22 #[.int .i64 op, .int .i64 a, .int .i64 b] w fun e w' => e = .returned (.tuple #[.int .i64 (doI op a b), .bool (isOp op)]) ∧ Grown w w' := by
  by_cases h : op < 2 ∨ 19 < op
  · have e1 : isOp op = false := by unfold isOp; exact decide_eq_false (by omega)
    have e2 : doI op a b = 0 := by
      unfold doI
      rw [if_neg (by omega), if_neg (by omega), if_neg (by omega), if_neg (by omega), if_neg (by omega), if_neg (by omega), if_neg (by omega), if_neg (by omega), if_neg (by omega), if_neg (by omega), if_neg (by omega), if_neg (by omega), if_neg (by omega), if_neg (by omega), if_neg (by omega), if_neg (by omega), if_neg (by omega), if_neg (by omega)]
    rw [e1, e2]
    exact do_none op a b h w
  · have hk : op = 2 ∨ op = 3 ∨ op = 4 ∨ op = 5 ∨ op = 6 ∨ op = 7 ∨ op = 8 ∨ op = 9 ∨ op = 10 ∨ op = 11 ∨ op = 12 ∨ op = 13 ∨ op = 14 ∨ op = 15 ∨ op = 16 ∨ op = 17 ∨ op = 18 ∨ op = 19 := by omega
    rcases hk with rfl | rfl | rfl | rfl | rfl | rfl | rfl | rfl | rfl | rfl | rfl | rfl | rfl | rfl | rfl | rfl | rfl | rfl
    · exact do_2 a b w
    · exact do_3 a b w
    · exact do_4 a b w
    · exact do_5 a b w
    · exact do_6 a b w
    · exact do_7 a b w
    · exact do_8 a b w
    · exact do_9 a b w
    · exact do_10 a b w
    · exact do_11 a b w
    · exact do_12 a b w
    · exact do_13 a b w
    · exact do_14 a b w
    · exact do_15 a b w
    · exact do_16 a b w
    · exact do_17 a b w
    · exact do_18 a b w
    · exact do_19 a b w
end Go.Proofs.Ytjegnmbidhpegaa
