import Derived.Test.YthjjdfiaikibaabDmU
import Derived.SizedLaws
import Derived.Deep.Slices
import Derived.OpenShut
import Derived.ChangeOld
import Derived.ChangeSlices
set_option linter.unusedVariables false
set_option linter.unusedSimpArgs false
namespace Go.Proofs.Ythjjdfiaikibaab
open Go.ChangeShapes Go.WideShapes Go.ChangeAt Go.RowKit Go.Maps

theorem wf_fits {a : Int} (h : (Lit.int .i64 a).wf = true) : Fits a := by
  have := bounds_i64 h
  exact this
/-- A slice of numbers that came in. -/
theorem ints_view {H : Type} {enc : TypeId × Value → H} {W : World} {fuel : Nat} {ao : Option Addr} {len cap : Nat} {x : DataW H × List MemPlace} (h : DataW.trod enc Try.prog W 0 (fun _ => true) true fuel 27 [.slice ao len cap] = some x) (hw : ∀ n ∈ x.1.weights Try.prog 27, n ≤ reachBytes) :
    ∃ T : List Int, len = T.length ∧ Ints W ao cap T ∧ (ao = none → cap = 0) ∧ len ≤ 17592186043904 := by
  have b5 : Try.prog.bytesOf 3 = 8 := by kernel_rfl
  rcases open_ints Try.underlying27 Try.underlying3 (by kernel_rfl) h with ⟨h0, _⟩ | ⟨a, l, c, zs, e, _, h2, h3, h4, rfl, h5, h6⟩
  · cases h0
    exact ⟨[], rfl, ⟨by simp, by omega, fun h => absurd rfl h⟩, fun _ => rfl, by omega⟩
  · cases e
    simp only [if_true] at h4
    have hl : (zs.take len).length = len := by simp; omega
    refine ⟨zs.take len, hl.symm, ⟨by omega, by have := h3; unfold maxLen at this; omega, fun hne => ?_⟩, fun h => (by cases h), ?_⟩
    · have hl0 : 0 < len := by
        rcases Nat.eq_zero_or_pos len with h | h
        · subst h; simp at hne
        · exact h
      obtain ⟨b, off, spot⟩ := a
      have hspot : spot = none := by simpa [Addr.add] using World.cell?_spot (h5 0 (by omega))
      subst hspot
      refine ⟨b, off, rfl, by have := block_lt_of_cell (h5 0 (by omega)); simpa [Addr.add] using this, fun i hi => ?_⟩
      have hi' : i < zs.length := by rw [hl] at hi; omega
      have := h5 i hi'
      rw [add_none] at this
      rw [this]
      simp [hi']
    · have := hw (len * 8 + (cap - len) * 8) (by simp [DataW.weights, Try.underlying27, b5, lits, h4, Nat.add_mul, Nat.min_eq_left h2])
      unfold reachBytes at this
      omega
theorem own : ownKnob Try.prog.godebug = none := by kernel_rfl
theorem laidOut : laidOutB Try.prog = true := by kernel_rfl
theorem below_same {W w' : World} (h : Below W.heap.size W w') {p : MemPlace} (hp : p.block < W.heap.size) : W.sameAt w' p := by
  cases p with
  | cell b o => exact World.cell?_of_block (w := W) (h.block _ hp)
  | map b => exact h.block _ hp
end Go.Proofs.Ythjjdfiaikibaab
