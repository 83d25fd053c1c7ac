import Derived.Test.YtjiaedckecfjbaaDoorRows
import Derived.WalkKit
import Derived.ProofKit
import Derived.WalkLawsBesides
import Derived.WalkSpells
import Derived.Deep.WholeRow
import Derived.Below
namespace Go.Proofs.YtjiaedckecfjbaaDoor
open Go.ChangeShapes Go.WideShapes Go.ChangeAt Go.RowKit

theorem grown_transW {a b c : World} (h : Grown a b) (k : Grown b c) : Grown a c :=
  ⟨World.keptBut_trans h.1 k.1, fun x => (k.2.1 x).trans (h.2.1 x), Nat.le_trans h.2.2 k.2.2⟩

/-- Shl and Shr of chapter 1, over the plain integers. -/
def shlIW (a b : Int) : Int := if b < 0 then 0 else wrap64 (a * 2 ^ min b.toNat 64)
def shrIW (a b : Int) : Int := if b < 0 then 0 else a / 2 ^ min b.toNat 64
/-- Div and Rem of chapter 1. -/
def divIW (a b : Int) : Int := if b = 0 then 0 else wrap64 (a.tdiv b)
def remIW (a b : Int) : Int := if b = 0 then 0 else a.tmod b
/-- What a comparison gives. -/
def truthIW (p : Bool) : Int := if p then 1 else 0
end Go.Proofs.YtjiaedckecfjbaaDoor
namespace Go.Proofs.YtjiaedckecfjbaaDoor
open Go.ChangeShapes Go.WideShapes Go.ChangeAt Go.RowKit

theorem setRow_alloc2W (w : World) (A : Obj) (c c' : Array Value) (t : TypeId) : ((w.alloc A).alloc (.cells c t)).setRow (w.heap.size + 1) c' = (w.alloc A).alloc (.cells c' t) := by
  have h := World.setRow_alloc_new (w.alloc A) c c' t
  have e : (w.alloc A).heap.size = w.heap.size + 1 := by simp
  rw [e] at h
  exact h

/-- Do of chapter 1, over the plain integers. -/
def doIW (op a b : Int) : Int :=
  if op = 2 then wrap64 (a + b) else
  if op = 3 then wrap64 (a - b) else
  if op = 4 then wrap64 (a * b) else
  if op = 5 then divIW a b else
  if op = 6 then remIW a b else
  if op = 7 then bits .and .i64 a b else
  if op = 8 then bits .or .i64 a b else
  if op = 9 then bits .xor .i64 a b else
  if op = 10 then bits .andNot .i64 a b else
  if op = 11 then shlIW a b else
  if op = 12 then shrIW a b else
  if op = 13 then truthIW (a == b) else
  if op = 14 then truthIW (a != b) else
  if op = 15 then truthIW (decide (a < b)) else
  if op = 16 then truthIW (decide (a ≤ b)) else
  if op = 17 then wrap64 (-a) else
  if op = 18 then bits .xor .i64 (-1) a else
  if op = 19 then wrap64 (1 - a) else 0

def isOpW (op : Int) : Bool := decide (2 ≤ op ∧ op ≤ 19)
end Go.Proofs.YtjiaedckecfjbaaDoor
