import Derived.Test.YteiambniddddpaaDoorLxK
set_option linter.unusedVariables false
namespace Go.Proofs.YteiambniddddpaaDoor
open Go.ChangeShapes Go.WideShapes Go.ChangeAt Go.RowKit

theorem Own.keep {w w' B v ts} (h : Own w B v ts) (hb : Below w.heap.size w w') : Own w' B v ts := ⟨own_keep h.out hb.block⟩
theorem Own.set {w B v ts} (h : Own w B v ts) {p : Addr} (hp : p.block < B) (u : Value) : Own (w.setCell p u) B v ts := by
  refine ⟨h.out.1, h.out.2.imp id ?_⟩
  rintro ⟨g, cap, cur, e1, e2, e3, e4⟩
  exact ⟨g, cap, cur, e1, e2, (Below.heap_setCell w p u g (by omega)).trans e3, e4⟩
theorem OwnB.view {w B v n M} (h : OwnB w B v n M) : ∃ ao cap, v = .slice ao n cap ∧ (ao = none → cap = 0) ∧ Txt w ao cap M := by
  have hn := h.len
  subst hn
  rcases h.out.2 with ⟨rfl, hn⟩ | ⟨g, cap, cur, rfl, e2, e3, e4, e5, e6, e7⟩
  · have : M = [] := List.length_eq_zero_iff.1 hn
    subst this
    exact ⟨none, 0, rfl, fun _ => rfl, by simp, by omega, fun h => absurd rfl h⟩
  · refine ⟨_, cap, rfl, (fun h => by cases h), e4, e5, fun _ => ⟨g, 0, rfl, (Array.getElem?_eq_some_iff.1 e3).1, fun i hi => ?_⟩⟩
    have h1 := bvs_at M i hi
    rw [← e7, List.getElem?_take, if_pos (by omega)] at h1
    exact cell_arr e3 (by rw [Nat.zero_add, ← h1]; simp)
theorem Lent.byte {w B g cap L} (h : Lent w B g cap L) {i : Nat} (hi : i < L.length) : w.cell? ⟨g, i, none⟩ = some (.int .u8 (L[i].toNat : Int)) ∧ w.frozen? ⟨g, i, none⟩ = false := by
  obtain ⟨f, hr, hf, _⟩ := h.row
  refine ⟨?_, hr.frozen i⟩
  have := hr.cell (i := i) (by have := h.room; omega)
  rw [this, hf i hi]
theorem Lent.set {w B g cap L} (h : Lent w B g cap L) {i : Nat} (hi : i < L.length) (x : UInt8) : Lent (w.setCell ⟨g, i, none⟩ (.int .u8 (x.toNat : Int))) B g cap (L.set i x) := by
  obtain ⟨f, hr, hf, hm⟩ := h.row
  refine ⟨h.base, by rw [List.length_set]; exact h.room, h.most, _, hr.set i _, fun k hk => ?_, fun k hk hc => ?_⟩
  · by_cases e : k = i
    · subst e; simp
    · rw [if_neg e, hf k (by simpa using hk), List.getElem_set_ne (Ne.symm e)]
  · rw [List.length_set] at hk
    rw [if_neg (by omega), hm k hk hc]

end Go.Proofs.YteiambniddddpaaDoor
