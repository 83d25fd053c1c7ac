import Derived.Test.YteplldbhfjfbpaaGreatDoorVcM
import Derived.Test.YteplldbhfjfbpaaGreatDoorVcK
set_option linter.unusedVariables false
set_option linter.unusedSimpArgs false
namespace Go.Proofs.YteplldbhfjfbpaaGreatDoor
open Go.ChangeShapes Go.WideShapes Go.ChangeAt Go.RowKit Go.Maps

/-- R16Depth: its program. -/
def dpC (n fr : Int) : List Ri := [⟨1, 5, 0, 0, 1⟩, ⟨1, 0, 0, 0, n⟩, ⟨26, 0, 0, 0, 1⟩, ⟨37, 0, 0, 0, 0⟩, ⟨27, 0, 0, 0, 0⟩, ⟨25, 0, 0, 0, fr - 1⟩, ⟨22, 0, 0, 0, 11⟩, ⟨4, 0, 0, 5, 0⟩, ⟨26, 0, 0, 0, 1⟩, ⟨24, 1, 0, 0, fr - 1⟩, ⟨3, 0, 0, 1, 0⟩, ⟨27, 0, 0, 0, 0⟩]
def dpM : Rf := ⟨⟨#[109, 97, 105, 110]⟩, 2, 0, 5, 0⟩
def dpf (fr : Int) : Rf := ⟨⟨#[102]⟩, fr, 5, 7, 1⟩
def dpF (fr : Int) : List Rf := [dpM, dpf fr]
def tri : Nat → Nat
  | 0 => 0
  | m + 1 => tri m + (m + 1)
theorem tri_eq : ∀ m : Nat, 2 * tri m = m * (m + 1)
  | 0 => rfl
  | m + 1 => by
    have h := tri_eq m
    show 2 * (tri m + (m + 1)) = (m + 1) * (m + 1 + 1)
    rw [Nat.mul_add, h, ← Nat.add_mul, Nat.mul_comm, Nat.add_comm m 2]
theorem tri_le (m : Nat) (h : m ≤ 4095) : tri m ≤ 8390000 := by
  have h2 := tri_eq m
  have h3 : m * (m + 1) ≤ 4095 * 4096 := Nat.mul_le_mul h (by omega)
  omega
/-- A run as it comes into f. -/
structure DpE (fr : Int) (m : Nat) (R : Rv) : Prop where
  nx : R.nx = 5
  r0 : R.reg 0 = (m : Int)
  r5 : R.reg 5 = 1
  rl : R.rg.length = 16
  top : R.top = R.base + fr
  deep : R.deep = R.frames
  fin : R.fin = 0
  rests : R.rests = false
  base : 0 ≤ R.base
  back : 0 ≤ R.sw (R.base + 1)
/-- .. and as it leaves it. -/
structure DpR (m k : Nat) (R R' : Rv) : Prop where
  nx : R'.nx = R.sw R.base
  base : R'.base = R.sw (R.base + 1)
  top : R'.top = R.base
  frames : R'.frames = R.frames - 1
  deep : R'.deep = R.frames + (m : Int)
  sw : ∀ i, i < R.base + 2 → R'.sw i = R.sw i
  r0 : R'.reg 0 = (tri m : Int)
  r5 : R'.reg 5 = 1
  rl : R'.rg.length = 16
  same : R'.ev = R.ev ∧ R'.kd = R.kd ∧ R'.vl = R.vl ∧ R'.words = R.words ∧ R'.fin = 0 ∧ R'.rests = false
  steps : R'.steps = R.steps + (k : Int)
theorem dp_over {R : Rv} (h1 : R.fin = 0) (h2 : R.rests = false) : R.over = false := by
  unfold Rv.over
  rw [h1, h2]
  rfl
theorem upd_self {f : Int → Int} {a v : Int} : upd f a v a = v := by unfold upd; simp
theorem upd_not {f : Int → Int} {a v i : Int} (h : i ≠ a) : upd f a v i = f i := by unfold upd; simp [h]
theorem reg_other {L : List Int} {i j : Nat} {v : Int} (h : i ≠ j) : (L.set i v).getD j 0 = L.getD j 0 := by simp [List.getD, List.getElem?_set, h]
theorem reg_here {L : List Int} {i : Nat} {v : Int} (h : i < L.length) : (L.set i v).getD i 0 = v := by simp [List.getD, h]
end Go.Proofs.YteplldbhfjfbpaaGreatDoor
