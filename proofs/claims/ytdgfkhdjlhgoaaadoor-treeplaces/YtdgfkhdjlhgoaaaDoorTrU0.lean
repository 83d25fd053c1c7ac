import Derived.Test.YtdgfkhdjlhgoaaaDoorTrM
import Derived.Test.YtdgfkhdjlhgoaaaDoorTrT
import Derived.Deep.RegionHeld
set_option linter.unusedVariables false
set_option linter.unusedSimpArgs false
namespace Go.Proofs.YtdgfkhdjlhgoaaaDoor
open Go.ChangeShapes Go.WideShapes Go.ChangeAt Go.RowKit

/-- The tables of the texts of types and of operators. -/
structure TabT (w : World) (B : Nat) : Prop where
  low : 0 < B ∧ 1 < B ∧ B ≤ w.heap.size
  typ : ∀ i, i < 4 → w.cell? ⟨0, i, none⟩ = some (.string (bs (TYPES.getD i [])))
  ops : ∀ i, i < 23 → w.cell? ⟨1, i, none⟩ = some (.string (bs (OPS.getD i [])))
theorem TabT.below {w w' B} (h : TabT w B) (hb : Below B w w') : TabT w' B :=
  ⟨⟨h.low.1, h.low.2.1, by have := h.low.2.2; have := hb.size; omega⟩, fun i hi => by rw [hb.cell (p := ⟨0, i, none⟩) h.low.1]; exact h.typ i hi, fun i hi => by rw [hb.cell (p := ⟨1, i, none⟩) h.low.2.1]; exact h.ops i hi⟩

theorem bs_app (a b : List UInt8) : bs (a ++ b) = bs a ++ bs b := by
  simp [bs]
  rfl

theorem lv_rng (n : Nd) : 1 ≤ lv n ∧ lv n ≤ 7 := by
  unfold lv lvOp
  repeat' split
  all_goals omega
theorem value_at (w : World) (pb : Nat) (tv dv : Value) (o : Int) (no : Option Addr) (nn nc : Nat) (N : List Nd) (hP : PRv w pb (.slice no nn nc) tv dv o) (hN : Nodes w no nc N) (hnn : nn = N.length) (j : Nat) (hj : j < N.length) (least : Int) (p : Pt) (hp : p = vp N j least) :
    Calls Tryd.prog 71 #[.pointer (some ⟨pb, 0, none⟩), .int .i64 j, .int .i64 least] w fun e w' => e = .returned (.agg #[.int .i64 p.form, .string (bs p.text), .int .i64 p.node]) ∧ ∃ o1 o2 o3 : Obj, w' = ((w.alloc o1).alloc o2).alloc o3 := by
  subst hp; exact value_any w pb (.slice no nn nc) tv dv o no nn nc N hP hN hnn j hj least

end Go.Proofs.YtdgfkhdjlhgoaaaDoor
