import Derived.Test.YtfofmmkihhnfmaaGreatDoorVcK
import Derived.Test.YtfofmmkihhnfmaaGreatDoorJbb
set_option linter.unusedVariables false
set_option linter.unusedSimpArgs false
namespace Go.Proofs.YtfofmmkihhnfmaaGreatDoor
open Go.ChangeShapes Go.WideShapes Go.ChangeAt Go.RowKit Go.Maps

theorem toIntR_wrap (x : BitVec 64) : IntKind.i64.wrap (x.toNat : Int) = x.toInt := by
  have h := x.isLt
  rw [IntKind.wrap_i64, BitVec.toInt_eq_toNat_cond]
  split <;> omega
theorem andR_bv (a b : Int) : bits .and .i64 a b = (BitVec.ofInt 64 a &&& BitVec.ofInt 64 b).toInt := toIntR_wrap _
theorem andR_small (a : Int) (m : Nat) (hm : m < 9223372036854775808) : ∃ i : Nat, i ≤ m ∧ bits .and .i64 a (m : Int) = (i : Int) := by
  have h1 : (BitVec.ofInt 64 a &&& BitVec.ofInt 64 (m : Int)).toNat ≤ m := by
    rw [BitVec.toNat_and]
    refine Nat.le_trans Nat.and_le_right ?_
    rw [BitVec.toNat_ofInt]
    omega
  refine ⟨_, h1, ?_⟩
  rw [andR_bv, BitVec.toInt_eq_toNat_cond, if_pos (by omega)]
/-- The program of R16Words as it lies. -/
def wdX (op a b to c : Int) : Obj := .cells #[.int .i64 1, .int .i64 3, .int .i64 0, .int .i64 0, .int .i64 a, .int .i64 1, .int .i64 4, .int .i64 0, .int .i64 0, .int .i64 b, .int .i64 op, .int .i64 to, .int .i64 3, .int .i64 c, .int .i64 0, .int .i64 37, .int .i64 to, .int .i64 0, .int .i64 0, .int .i64 0, .int .i64 27, .int .i64 0, .int .i64 0, .int .i64 0, .int .i64 0] 71
/-- Its outcome. -/
def wdO (ao : Option Addr) (c : Nat) (op a b : Int) : Value := if wdS op a b = 0 then .agg #[.slice ao 1 c, .int .i64 1, .int .i64 0, .int .i64 0, .int .i64 5, .int .i64 0, .int .i64 1] else .agg #[.slice ao 0 c, .int .i64 3, .int .i64 (wdS op a b), .int .i64 0, .int .i64 3, .int .i64 0, .int .i64 1]
def wdE (op a b : Int) : List (Int × Int) := if wdS op a b = 0 then [(1, wdV op a b)] else []
end Go.Proofs.YtfofmmkihhnfmaaGreatDoor
