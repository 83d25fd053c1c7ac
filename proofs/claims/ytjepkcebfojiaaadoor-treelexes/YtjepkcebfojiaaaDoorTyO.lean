import Derived.Test.YtjepkcebfojiaaaDoorTyD
import Derived.Test.YtjepkcebfojiaaaDoorLzO
set_option linter.unusedVariables false
set_option linter.unusedSimpArgs false
namespace Go.Proofs.YtjepkcebfojiaaaDoor
open Go.ChangeShapes Go.WideShapes Go.ChangeAt Go.RowKit

def OPA : Array Value := #[.int .i64 0, .int .i64 55, .int .i64 56, .int .i64 57, .int .i64 58, .int .i64 59, .int .i64 60, .int .i64 61, .int .i64 62, .int .i64 63, .int .i64 64, .int .i64 65, .int .i64 49, .int .i64 50, .int .i64 51, .int .i64 52, .int .i64 53, .int .i64 54, .int .i64 66, .int .i64 67]
def OPZ : Array Value := #[.int .i64 0, .int .i64 0, .int .i64 0, .int .i64 0, .int .i64 0, .int .i64 0, .int .i64 0, .int .i64 0, .int .i64 0, .int .i64 0, .int .i64 0, .int .i64 0, .int .i64 0, .int .i64 0, .int .i64 0, .int .i64 0, .int .i64 0, .int .i64 0, .int .i64 0, .int .i64 0]
theorem info20 : (Tryd.prog.info? 58).map (·.size) = some 20 := by kernel_rfl
theorem OPA_one : OPA.all (·.oneCell') = true := by simp [OPA, Value.oneCell']
theorem OPA_at : ∀ p, p < 20 → OPA[p]? = some (.int .i64 (opK (p : Int) : Int)) := by
  intro p hp
  have : p = 0 ∨ p = 1 ∨ p = 2 ∨ p = 3 ∨ p = 4 ∨ p = 5 ∨ p = 6 ∨ p = 7 ∨ p = 8 ∨ p = 9 ∨ p = 10 ∨ p = 11 ∨ p = 12 ∨ p = 13 ∨ p = 14 ∨ p = 15 ∨ p = 16 ∨ p = 17 ∨ p = 18 ∨ p = 19 := by omega
  rcases this with rfl | rfl | rfl | rfl | rfl | rfl | rfl | rfl | rfl | rfl | rfl | rfl | rfl | rfl | rfl | rfl | rfl | rfl | rfl | rfl <;> rfl
theorem wpList_store_opa {ops : Array Oper} {rest : List Oper} {op : Oper} {a : Act} {w : World} {Q : Exit → Act → World → Prop} (hgd : op.guard = none) (x y : Operand) (ho : op.op = .store 58 x y)
    (hx : a.eval x = .pointer (some ⟨w.heap.size, 0, none⟩)) (hy : a.eval y = .agg OPA)
    (h : ∀ w2, Below w.heap.size w w2 → (∀ p, p < 20 → w2.cell? ⟨w.heap.size, p, none⟩ = some (.int .i64 (opK (p : Int) : Int))) → wpList Tryd.prog ops Q rest (a.put op.dst undef) w2) : wpList Tryd.prog ops Q (op :: rest) a (w.alloc (.cells OPZ 58)) := by
  have hg := heap_alloc_last w (.cells OPZ 58)
  refine wpList_store_row hgd 58 x y ho w.heap.size OPA hx hy 58 OPZ hg info20 rfl OPA_one (h _ (below_setRow ((Below.refl _ _).alloc (Nat.le_refl _) _) (Nat.le_refl _) _) fun p hp => cell_arr (setRow_heap _ _ _ OPA _ _ hg) (OPA_at p hp))
set_option maxRecDepth 10000 in
set_option maxHeartbeats 1000000 in
theorem operator_any (k : Int) (h1 : 1 ≤ k) (h2 : k ≤ 19) (w : World) : Calls Tryd.prog 13 #[.int .i64 k] w fun e w' => e = .returned (.int .i64 (opK k : Int)) ∧ Below w.heap.size w w' := by
  obtain ⟨p, rfl⟩ : ∃ p : Nat, k = (p : Int) := ⟨k.toNat, by omega⟩
  have hp2 : p < 20 := by omega
  go_enter Tryd.func13, Tryd.ntmps13
  go_wp2_with (first
    | (refine wpList_store_opa rfl _ _ rfl ?_ ?_ ?_; (next => rfl); (next => rfl); intro w2 hb hcc; have hc := hcc p hp2; clear hcc))
  go_ret
  exact ⟨rfl, hb⟩
theorem ix20 (W : World) : (Instr.index 41 (.agg #[.int .i64 56, .int .i64 68, .int .i64 62]) (.int .i64 0)).run Tryd.prog W = .ok (.int .i64 56) W := by kernel_rfl
theorem ix21 (W : World) : (Instr.index 41 (.agg #[.int .i64 56, .int .i64 68, .int .i64 62]) (.int .i64 1)).run Tryd.prog W = .ok (.int .i64 68) W := by kernel_rfl
theorem ix22 (W : World) : (Instr.index 41 (.agg #[.int .i64 56, .int .i64 68, .int .i64 62]) (.int .i64 2)).run Tryd.prog W = .ok (.int .i64 62) W := by kernel_rfl
end Go.Proofs.YtjepkcebfojiaaaDoor
