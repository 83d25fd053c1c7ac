import Derived.Test.YteiambniddddpaaDoorLxL
import Derived.Test.YteiambniddddpaaDoorLxQ
import Derived.Lib.AppendStr
set_option linter.unusedVariables false
namespace Go.Proofs.YteiambniddddpaaDoor
open Go.ChangeShapes Go.WideShapes Go.ChangeAt Go.RowKit

theorem toInt_wrap (x : BitVec 64) : IntKind.i64.wrap (x.toNat : Int) = x.toInt := by
  have h := x.isLt
  rw [IntKind.wrap_i64, BitVec.toInt_eq_toNat_cond]
  split <;> omega
theorem and_bv (a b : Int) : bits .and .i64 a b = (BitVec.ofInt 64 a &&& BitVec.ofInt 64 b).toInt := toInt_wrap _
theorem and_small (a : Int) (m : Nat) (hm : m < 9223372036854775808) : ∃ i : Nat, i ≤ m ∧ bits .and .i64 a (m : Int) = (i : Int) := by
  have h1 : (BitVec.ofInt 64 a &&& BitVec.ofInt 64 (m : Int)).toNat ≤ m := by
    rw [BitVec.toNat_and]
    refine Nat.le_trans Nat.and_le_right ?_
    rw [BitVec.toNat_ofInt]
    omega
  refine ⟨_, h1, ?_⟩
  rw [and_bv, BitVec.toInt_eq_toNat_cond, if_pos (by omega)]

def GAPS : List (List UInt8) := [[32], [10], [9], [13], [32, 47, 47, 10], [9, 47, 47, 32, 102, 117, 110, 99, 32, 49, 32, 9, 126, 10], [32, 10, 10, 32], [13, 47, 47, 47, 47, 47, 47, 13, 10]]
def gArr : Array Value := (GAPS.map fun s => Value.string (bs s)).toArray
theorem gArr_at (i : Nat) (hi : i < 8) : gArr[i]? = some (.string (bs (GAPS.getD i []))) := by
  have hl : i < GAPS.length := hi
  simp [gArr, List.getD, List.getElem?_eq_getElem hl]

theorem cls9 : cl 9 = 12 := by decide
theorem cls13 : cl 13 = 12 := by decide
theorem cls32 : cl 32 = 12 := by decide
theorem cls102 : cl 102 = 6 := by decide
theorem cls117 : cl 117 = 6 := by decide
theorem cls110 : cl 110 = 6 := by decide
theorem cls99 : cl 99 = 6 := by decide
theorem cls49 : cl 49 = 7 := by decide
theorem cls126 : cl 126 = 4 := by decide

theorem gap_ok : ∀ i, i < 8 → Gap (GAPS.getD i []) := by
  intro i hi
  match i, hi with
  | 0, _ => exact ⟨.cons (.inr cls32), by decide, fun Z => by show sk false (32 :: Z) = _; simp [sk, cls32, GAPS]; omega⟩
  | 1, _ => exact ⟨.cons (.inl cl10), by decide, fun Z => by show sk false (10 :: Z) = _; simp [sk, cl10, GAPS]; omega⟩
  | 2, _ => exact ⟨.cons (.inr cls9), by decide, fun Z => by show sk false (9 :: Z) = _; simp [sk, cls9, GAPS]; omega⟩
  | 3, _ => exact ⟨.cons (.inr cls13), by decide, fun Z => by show sk false (13 :: Z) = _; simp [sk, cls13, GAPS]; omega⟩
  | 4, _ => exact ⟨.cons (.inr cls32), by decide, fun Z => by show sk false (32 :: 47 :: 47 :: 10 :: Z) = _; simp [sk, cls32, cl47, cl10, GAPS]; omega⟩
  | 5, _ => exact ⟨.cons (.inr cls9), by decide, fun Z => by show sk false (9 :: 47 :: 47 :: 32 :: 102 :: 117 :: 110 :: 99 :: 32 :: 49 :: 32 :: 9 :: 126 :: 10 :: Z) = _; simp [sk, cls9, cls32, cl47, cl10, cls102, cls117, cls110, cls99, cls49, cls126, GAPS]; omega⟩
  | 6, _ => exact ⟨.cons (.inr cls32), by decide, fun Z => by show sk false (32 :: 10 :: 10 :: 32 :: Z) = _; simp [sk, cls32, cl10, GAPS]; omega⟩
  | 7, _ => exact ⟨.cons (.inr cls13), by decide, fun Z => by show sk false (13 :: 47 :: 47 :: 47 :: 47 :: 47 :: 47 :: 13 :: 10 :: Z) = _; simp [sk, cls13, cl47, cl10, GAPS]; omega⟩

theorem gaps_len : ∀ i, i < 8 → (GAPS.getD i []).length ≤ 16 := by decide

theorem cell_arr2 {w : World} {A B : Array Value} {s t : TypeId} {i : Nat} {v : Value} (hv : A[i]? = some v) : ((w.alloc (.cells A s)).alloc (.cells B t)).cell? ⟨w.heap.size, i, none⟩ = some v := by
  rw [World.cell?_alloc_past _ _ _ (by simp)]
  exact cell_arr (heap_alloc_last w _) hv
theorem cell_arr3 {w : World} {A B : Array Value} {s t : TypeId} {i : Nat} {v : Value} (hv : B[i]? = some v) : ((w.alloc (.cells A s)).alloc (.cells B t)).cell? ⟨w.heap.size + 1, i, none⟩ = some v := by
  have h := heap_alloc_last (w.alloc (.cells A s)) (.cells B t)
  have e : (w.alloc (.cells A s)).heap.size = w.heap.size + 1 := by simp
  rw [e] at h
  exact cell_arr h hv
end Go.Proofs.YteiambniddddpaaDoor
