import Derived.Test.YtpgbkkllnbahpaaHpC
set_option linter.unusedVariables false
set_option linter.unusedSimpArgs false
namespace Go.Proofs.Ytpgbkkllnbahpaa
open Go.ChangeShapes Go.WideShapes Go.ChangeAt Go.RowKit Go.Maps

/-- Numbers in block b from o on. -/
structure AtI (w : World) (b o : Nat) (M : List Int) : Prop where
  lt : b < w.heap.size
  cell : ∀ i (h : i < M.length), w.cell? ⟨b, o + i, none⟩ = some (.int .i64 M[i])
/-- A slice of numbers that holds L. -/
structure Ints (w : World) (ao : Option Addr) (cap : Nat) (L : List Int) : Prop where
  le : L.length ≤ cap
  mx : cap ≤ 9223372036854775807
  out : L ≠ [] → ∃ b o, ao = some ⟨b, o, none⟩ ∧ AtI w b o L
theorem AtI.below {w w' b o M K} (h : AtI w b o M) (hb : Below K w w') (hK : b < K) : AtI w' b o M :=
  ⟨by have := hb.size; have := h.lt; omega, fun i hi => by rw [hb.cell (p := ⟨b, o + i, none⟩) hK]; exact h.cell i hi⟩
theorem Ints.below {w w' ao cap L K} (h : Ints w ao cap L) (hb : Below K w w') (hK : w.heap.size ≤ K) : Ints w' ao cap L :=
  ⟨h.le, h.mx, fun hn => by
    obtain ⟨b, o, e, hA⟩ := h.out hn
    exact ⟨b, o, e, hA.below hb (Nat.lt_of_lt_of_le hA.lt hK)⟩⟩
theorem AtI.drop {w b o M} (h : AtI w b o M) (k : Nat) : AtI w b (o + k) (M.drop k) := by
  refine ⟨h.lt, fun i hi => ?_⟩
  have hi' : k + i < M.length := by simp at hi; omega
  have := h.cell (k + i) hi'
  rw [Nat.add_assoc, this]; simp
theorem OwnI.ints {w B v n L} (h : OwnI w B v n L) : ∃ ao c, v = .slice ao n c ∧ Ints w ao c L := by
  obtain ⟨ao, c, e, h1, h2⟩ := own_slice h.out
  subst e
  refine ⟨ao, c, rfl, by rw [← h.len]; exact h1, h2, fun hn => ?_⟩
  have hp : 0 < n := by rw [h.len]; exact List.length_pos_iff.2 hn
  obtain ⟨g, c', e, _, _, hB, hg⟩ := own_some h.out hp
  cases e
  refine ⟨g, 0, rfl, hg, fun i hi => ?_⟩
  have := own_cell h.out i (by rw [h.len]; omega)
  rw [Nat.zero_add, this]
  simp [ivs, hi]

/-- Along the way up: what Over tells. -/
def ovr (T : List Int) (a : Int) : Nat → Int → Bool → Bool
  | 0, _, _ => false
  | k + 1, b, m => if 0 ≤ T.getD b.toNat 0 ∧ T.getD b.toNat 0 < T.length then ovr T a k (T.getD b.toNat 0) (m || decide (a = b)) else (m || decide (a = b))
def overP (T : List Int) (a b : Int) : Bool := if (0 ≤ a ∧ a < T.length) ∧ (0 ≤ b ∧ b < T.length) then ovr T a T.length b false else false

end Go.Proofs.Ytpgbkkllnbahpaa
