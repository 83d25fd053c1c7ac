import Derived.Test.YteiambniddddpaaDoorLxM
set_option linter.unusedVariables false
namespace Go.Proofs.YteiambniddddpaaDoor
open Go.ChangeShapes Go.WideShapes Go.ChangeAt Go.RowKit

/-- A list of texts that came in: the cell of text i holds a slice that holds L i. -/
structure Txts (w : World) (b o m : Nat) (A : Nat → Option Addr) (C : Nat → Nat) (L : Nat → List UInt8) : Prop where
  lt : b < w.heap.size
  cell : ∀ i, i < m → w.cell? ⟨b, o + i, none⟩ = some (.slice (A i) (L i).length (C i))
  nil : ∀ i, i < m → A i = none → C i = 0
  txt : ∀ i, i < m → Txt w (A i) (C i) (L i)
  reach : ∀ i, i < m → (L i).length ≤ 140737488351232
theorem Txts.below {w w' b o m A C L B} (h : Txts w b o m A C L) (hb : Below B w w') (hB : w.heap.size ≤ B) : Txts w' b o m A C L :=
  ⟨by have := h.lt; have := hb.size; omega, fun i hi => by rw [hb.cell (p := ⟨b, o + i, none⟩) (by show b < B; have := h.lt; omega)]; exact h.cell i hi, h.nil, fun i hi => (h.txt i hi).below hb hB, h.reach⟩

end Go.Proofs.YteiambniddddpaaDoor
