import Derived.Test.YthjjdfiaikibaaaDnA
set_option linter.unusedVariables false
set_option linter.unusedSimpArgs false
namespace Go.Proofs.Ythjjdfiaikibaaa
open Go.ChangeShapes Go.WideShapes Go.ChangeAt Go.RowKit Go.Maps

theorem OwnI.mono {w : World} {B B' : Nat} {v : Value} {n : Nat} {L : List Int} (h : OwnI w B v n L) (hB : B' ≤ B) : OwnI w B' v n L := by
  refine ⟨h.len, h.out.1, ?_⟩
  rcases h.out.2 with h1 | ⟨g, cap, cur, e1, e2, e3⟩
  · exact .inl h1
  · exact .inr ⟨g, cap, cur, e1, by omega, e3⟩
theorem LT.lt {w B gs cs Ls} (h : LT w B gs cs Ls) {i : Nat} (hi : i < Ls.length) : B ≤ gs.getD i 0 ∧ gs.getD i 0 < w.heap.size := own_block (h.row i hi).out rfl
/-- At the head of lent's loop. -/
structure LH (w wr : World) (B : Nat) (v : Value) (gs cs : List Nat) (Ls : List (List Int)) : Prop where
  out : OwnV wr B v (ltv gs cs Ls)
  lt : LT wr B gs cs Ls
  ap : ∀ i, i < Ls.length → v.ownBlock ≠ some (gs.getD i 0)
  bel : Below B w wr
/-- One list more. -/
theorem LH.more {w wr w2 w3 : World} {B : Nat} {v v' : Value} {gs cs : List Nat} {Ls : List (List Int)} (h : LH w wr B v gs cs Ls) (hB : B ≤ wr.heap.size) {g c : Nat} {L : List Int}
    (h1 : Below wr.heap.size wr w2) (h2 : OwnI w2 wr.heap.size (.slice (some ⟨g, 0, none⟩) (L.length + 2) c) (L.length + 2) (L ++ [-71, -72]))
    (h3 : OwnV w3 B v' (ltv gs cs Ls ++ [.slice (some ⟨g, 0, none⟩) L.length c])) (h4 : GI B w2 w3 v v') : LH w w3 B v' (gs ++ [g]) (cs ++ [c]) (Ls ++ [L]) := by
  have hg := own_block h2.out (g := g) rfl
  have l1 := h.lt.lg
  have hv : ∀ b, v.ownBlock = some b → b < wr.heap.size := fun b hb => (own_block h.out.out hb).2
  have hs := h1.size
  refine ⟨by rw [ltv_more h.lt.lg h.lt.lc]; exact h3, ?_, ?_, h.bel.trans ((h1.mono hB).trans h4.bel)⟩
  · refine LT.more (h.lt.move fun i hi => ?_) ?_ fun i hi e => ?_
    · have hl := h.lt.lt hi
      rw [h4.blk _ (by omega) (h.ap i hi), h1.block _ hl.2]
    · refine (h2.mono hB).gi h4 fun b hb e => ?_
      simp [Value.ownBlock] at hb
      subst hb
      have := hv _ e
      omega
    · have hl := h.lt.lt hi
      omega
  · intro i hi e
    simp only [List.length_append, List.length_singleton] at hi
    by_cases hl : i < Ls.length
    · rw [getD_app (by omega)] at e
      have hl2 := h.lt.lt hl
      rcases h4.own _ e with e1 | e1
      · exact h.ap i hl e1
      · omega
    · obtain rfl : i = Ls.length := by omega
      have e1 : (gs ++ [g]).getD Ls.length 0 = g := by rw [← l1]; exact getD_new
      rw [e1] at e
      rcases h4.own _ e with e2 | e2
      · have := hv _ e2; omega
      · omega
end Go.Proofs.Ythjjdfiaikibaaa
