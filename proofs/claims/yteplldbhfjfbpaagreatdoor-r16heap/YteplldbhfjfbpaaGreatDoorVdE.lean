import Derived.Test.YteplldbhfjfbpaaGreatDoorVdD
import Derived.SizedLaws
import Derived.Deep.Slices
import Derived.OpenShut
import Derived.ChangeOld
import Derived.ChangeSlices
set_option linter.unusedVariables false
set_option linter.unusedSimpArgs false
namespace Go.Proofs.YteplldbhfjfbpaaGreatDoor
open Go.ChangeShapes Go.WideShapes Go.ChangeAt Go.RowKit Go.Maps

/-- A slice of numbers that came in. -/
theorem ints_viewR {H : Type} {enc : TypeId × Value → H} {W : World} {fuel : Nat} {ao : Option Addr} {len cap : Nat} {x : DataW H × List MemPlace} (h : DataW.trod enc Tryz.prog W 0 (fun _ => true) true fuel 51 [.slice ao len cap] = some x) (hw : ∀ n ∈ x.1.weights Tryz.prog 51, n ≤ reachBytes) :
    ∃ T : List Int, len = T.length ∧ Ints W ao cap T ∧ (ao = none → cap = 0) ∧ len ≤ 17592186043904 := by
  have b5 : Tryz.prog.bytesOf 3 = 8 := by kernel_rfl
  rcases open_ints Tryz.underlying51 Tryz.underlying3 (by kernel_rfl) h with ⟨h0, _⟩ | ⟨a, l, c, zs, e, _, h2, h3, h4, rfl, h5, h6⟩
  · cases h0
    exact ⟨[], rfl, ⟨by simp, by omega, fun h => absurd rfl h⟩, fun _ => rfl, by omega⟩
  · cases e
    simp only [if_true] at h4
    have hl : (zs.take len).length = len := by simp; omega
    refine ⟨zs.take len, hl.symm, ⟨by omega, by have := h3; unfold maxLen at this; omega, fun hne => ?_⟩, fun h => (by cases h), ?_⟩
    · have hl0 : 0 < len := by
        rcases Nat.eq_zero_or_pos len with h | h
        · subst h; simp at hne
        · exact h
      obtain ⟨b, off, spot⟩ := a
      have hspot : spot = none := by simpa [Addr.add] using World.cell?_spot (h5 0 (by omega))
      subst hspot
      refine ⟨b, off, rfl, by have := block_lt_of_cell (h5 0 (by omega)); simpa [Addr.add] using this, fun i hi => ?_⟩
      have hi' : i < zs.length := by rw [hl] at hi; omega
      have := h5 i hi'
      rw [add_noneR] at this
      rw [this]
      simp [hi']
    · have := hw (len * 8 + (cap - len) * 8) (by simp [DataW.weights, Tryz.underlying51, b5, lits, h4, Nat.add_mul, Nat.min_eq_left h2])
      unfold reachBytes at this
      omega
theorem ints_sliceR {H : Type} {enc : TypeId × Value → H} {W : World} {fuel : Nat} {v : Value} {x : DataW H × List MemPlace} (h : DataW.trod enc Tryz.prog W 0 (fun _ => true) true fuel 51 [v] = some x) : ∃ (ao : Option Addr) (cap len : Nat), v = .slice ao len cap := by
  rcases open_ints Tryz.underlying51 Tryz.underlying3 (by kernel_rfl) h with ⟨h0, _⟩ | ⟨a, l, c, zs, e, _⟩
  · simp only [List.cons.injEq, and_true] at h0
    exact ⟨none, 0, 0, h0⟩
  · simp only [List.cons.injEq, and_true] at e
    exact ⟨some a, c, l, e⟩
end Go.Proofs.YteplldbhfjfbpaaGreatDoor
