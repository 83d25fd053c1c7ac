import Derived.Test.YtdeplodfpgnpgaaDoorLyE
import Derived.Test.YtdeplodfpgnpgaaDoorLyQ
import Derived.Lib.SmallJoins
set_option linter.unusedVariables false
set_option linter.unusedSimpArgs false
namespace Go.Proofs.YtdeplodfpgnpgaaDoor
open Go.ChangeShapes Go.WideShapes Go.ChangeAt Go.RowKit

set_option maxRecDepth 20000 in
/-- A value of api.Tree, opened. -/
theorem tree_view {H : Type} {enc : TypeId × Value → H} {W : World} {r : Reach} {b0 : Nat} {v : Value} {d : DataW H} {p : List MemPlace} (hv : Value.okWide Tryd.prog W r b0 25 v) (h : DataW.Trod enc Tryd.prog W 0 (fun _ => true) true 25 v d p)
    (hw : ∀ n ∈ d.weights Tryd.prog 25, n ≤ reachBytes) : ∃ (no : Option Addr) (nc : Nat) (fo : Option Addr) (fc : Nat) (T : Tr), v = .agg #[.slice no T.nodes.length nc, .slice fo T.funcs.length fc] ∧ Nodes W no nc T.nodes ∧ Ints W fo fc T.funcs ∧ KNil W no T.nodes ∧ (fo = none → fc = 0) ∧ Rch T.nodes ∧ T.nodes.length ≤ 140737488351232 ∧ T.funcs.length ≤ 140737488351232 := by
  obtain ⟨v0, v1, y0, y1, n, rfl, rfl, rfl, h0, h1⟩ := Joins.open_agg2 Tryd.underlying25 (by kernel_rfl) (by kernel_rfl) hv h
  obtain ⟨no, nc, N, e0, hN⟩ := nodes_view h0
  obtain ⟨fo, fc, F, e1, hfz, hF⟩ := ints_view h1
  simp only [List.cons.injEq, and_true] at e0 e1
  subst e0 e1
  obtain ⟨l1, hR, hK⟩ := nodes_rch h0 (fun n hn => hw n (by simp only [DataW.weights, Tryd.underlying25, DataW.weightsEach, List.map, List.mem_append]; exact .inl hn)) hN
  obtain ⟨l2, _⟩ := ints_weight h1 (fun n hn => hw n (by simp only [DataW.weights, Tryd.underlying25, DataW.weightsEach, List.map, List.mem_append]; exact .inr (.inl hn)))
  exact ⟨no, nc, fo, fc, ⟨N, F⟩, rfl, hN, hF, ⟨hK⟩, hfz, hR, l1, l2⟩
end Go.Proofs.YtdeplodfpgnpgaaDoor
