import Derived.Test.YtjepkcebfojiaaaDoorTwE
import Derived.Test.YtjepkcebfojiaaaDoorLzO
set_option linter.unusedVariables false
set_option linter.unusedSimpArgs false
namespace Go.Proofs.YtjepkcebfojiaaaDoor
open Go.ChangeShapes Go.WideShapes Go.ChangeAt Go.RowKit

/-- What an append does to memory: its own row alone, or a new one. -/
structure GJ (B : Nat) (w0 w' : World) (v v' : Value) : Prop where
  bel : Below B w0 w'
  blk : ∀ g, g < w0.heap.size → v.ownBlock ≠ some g → w'.heap[g]? = w0.heap[g]?
  own : ∀ g, v'.ownBlock = some g → v.ownBlock = some g ∨ w0.heap.size ≤ g
theorem gj_of {w0 w' : World} {B : Nat} {v v' : Value} {n m : Nat} {e s xs} (hown : w0.ownsRow B e s v n xs) (hB : B ≤ w0.heap.size) (h2 : w0.grownBy w' v.ownBlock) (h3 : Grew w0 w' v v' n m) : GJ B w0 w' v v' := by
  refine ⟨(Below.refl _ _).grown h2 hB (fun k hk => (own_block hown hk).1), fun g h4 h5 => grown_at h2 h4 h5, fun g hg => ?_⟩
  cases h3 with
  | room g' cap e1 e2 => subst e1 e2; exact .inl hg
  | new e1 _ => rw [e1] at hg; cases hg; exact .inr (Nat.le_refl _)
/-- A row of numbers that was just built. -/
theorem OwnI.lit (w : World) (B : Nat) (hB : B ≤ w.heap.size) (l : List Int) (C : Array Value) (hC : C.toList = ivs l) (hl : l.length ≤ 1000) : OwnI (w.alloc (.cells C 3)) B (.slice (some ⟨w.heap.size, 0, none⟩) l.length l.length) l.length l := by
  have hs : C.size = l.length := by rw [← Array.length_toList, hC]; simp [ivs]
  refine ⟨rfl, by simp [ivs], .inr ⟨w.heap.size, l.length, C, rfl, hB, heap_alloc_last w _, Nat.le_refl _, by unfold maxLen; omega, by omega, ?_⟩⟩
  rw [hC, List.take_of_length_le (by simp [ivs])]
theorem OwnI.to {w w' : World} {B v n L} (h : OwnI w B v n L) (hb : Below w.heap.size w w') : OwnI w' B v n L := h.keep hb
/-- A list of nodes that grows. -/
structure NL (B : Nat) (w wr : World) (v : Value) (n : Nat) (L : List Nd) : Prop where
  out : ∃ P, CM wr B v n P ∧ P.map Prod.fst = L
  bel : Below B w wr
theorem CM.gj {B : Nat} {w0 w' : World} {v v' u : Value} {n : Nat} {P : List (Nd × Value)} (h : CM w0 B u n P) (g : GJ B w0 w' v v') (h1 : ∀ b, u.ownBlock = some b → v.ownBlock ≠ some b) (h2 : ∀ p ∈ P, ∀ b, p.2.ownBlock = some b → v.ownBlock ≠ some b) : CM w' B u n P :=
  ⟨h.len, own_move h.own fun b hb => g.blk b (own_block h.own hb).2 (h1 b hb), fun p hp => ⟨(h.kid p hp).len, own_move (h.kid p hp).out fun b hb => g.blk b (own_block (h.kid p hp).out hb).2 (h2 p hp b hb)⟩⟩
theorem ncs_one {Q : List (Nd × Value)} (h : ∀ q ∈ Q, ∃ a m c, q.2 = .slice a m c) : ∀ u ∈ ncs Q, u.oneCell' = true := by
  intro u hu
  obtain ⟨q, hq, hu⟩ := List.mem_flatMap.1 hu
  obtain ⟨a, m, c, e⟩ := h q hq
  rw [e] at hu
  exact nc_one q.1 a m c u hu
/-- append(nodes, ..): the new ones in a row behind all others. -/
theorem wpList_append_nodes {w0 : World} {ops : Array Oper} {rest : List Oper} {op : Oper} {a : Act} {Z : Exit → Act → World → Prop} {C : Array Value} (hgd : op.guard = none) (s x : Operand)
    (ho : op.op = .call { callee := .builtin .append, args := #[s, x], argTypes := #[22, 22] })
    (B : Nat) (v : Value) (n m g : Nat) (P Q : List (Nd × Value)) (hs : a.eval s = v) (hCM : CM w0 B v n P) (hx : a.eval x = .slice (some ⟨g, 0, none⟩) m m) (hg : g = w0.heap.size) (hm : m = Q.length) (hm0 : 0 < m) (hC : C.toList = ncs Q)
    (hQ : ∀ q ∈ Q, OwnI w0 B q.2 q.1.kids.length q.1.kids) (hl : n + m ≤ 1000000000) (hB : B ≤ w0.heap.size)
    (h : ∀ v' w', CM w' B v' (n + m) (P ++ Q) → GJ B w0 w' v v' → wpList Tryd.prog ops Z rest (a.put op.dst v') w') : wpList Tryd.prog ops Z (op :: rest) a (w0.alloc (.cells C 39)) := by
  subst hg
  obtain ⟨i0, hi, hz0, hz1, hz2⟩ := info_parts infoN
  have hba : Below w0.heap.size w0 (w0.alloc (.cells C 39)) := (Below.refl _ _).alloc (Nat.le_refl _) _
  have hCA := hCM.keep hba
  refine wpList_append_where hgd s x 22 ho B 39 i0 _ 10 104 Tryd.underlying22 hi hz0 hz1 hz2 rfl (by decide) v n (ncs P) hs hCA.own ⟨w0.heap.size, 0, none⟩ m m hm0 (ncs Q) hx (by rw [ncs_len, hm]) (fun j u hj => ?_) (ncs_one fun q hq => ⟨_, _, _, (own_slice (hQ q hq).out).choose_spec.choose_spec⟩) (by unfold maxLen; omega) (by omega) (by simp; omega) ?_
  · have e : (⟨w0.heap.size, 0, none⟩ : Addr).add j = ⟨w0.heap.size, j, none⟩ := by unfold Addr.add; split <;> simp_all
    rw [e, ← hC] at *
    simpa using hj
  · intro v' w' h1 h2 h3
    have hG := gj_of hCA.own (by simp; omega) h2 h3
    have hG0 : GJ B w0 w' v v' := ⟨(hba.mono hB).trans hG.bel, fun b h4 h5 => (hG.blk b (by simp; omega) h5).trans (hba.block b h4), fun b hb => by
      rcases hG.own b hb with h | h
      · exact .inl h
      · right; simp at h; omega⟩
    refine h v' w' ⟨by simp; rw [← hCM.len, ← hm], by rw [ncs_app]; exact h1, fun p hp => ?_⟩ hG0
    rcases List.mem_append.1 hp with hp | hp
    · exact ⟨(hCM.kid p hp).len, own_move (hCM.kid p hp).out fun b hb => hG0.blk b (own_block (hCM.kid p hp).out hb).2 (own_apart (hCM.kid p hp).out hCM.own (by decide) b hb)⟩
    · exact ⟨(hQ p hp).len, own_move (hQ p hp).out fun b hb => hG0.blk b (own_block (hQ p hp).out hb).2 (own_apart (hQ p hp).out hCM.own (by decide) b hb)⟩
/-- The same, of a list that grows. -/
theorem wpList_append_nl {w wr w0 : World} {ops : Array Oper} {rest : List Oper} {op : Oper} {a : Act} {Z : Exit → Act → World → Prop} {C : Array Value} (hgd : op.guard = none) (s x : Operand)
    (ho : op.op = .call { callee := .builtin .append, args := #[s, x], argTypes := #[22, 22] })
    (B : Nat) (v : Value) (n m g : Nat) (L : List Nd) (Q : List (Nd × Value)) (hs : a.eval s = v) (H : NL B w wr v n L) (hb : Below wr.heap.size wr w0) (hx : a.eval x = .slice (some ⟨g, 0, none⟩) m m) (hg : g = w0.heap.size) (hm : m = Q.length) (hm0 : 0 < m) (hC : C.toList = ncs Q)
    (hQ : ∀ q ∈ Q, OwnI w0 B q.2 q.1.kids.length q.1.kids) (hl : n + m ≤ 1000000000) (hB : B ≤ wr.heap.size)
    (h : ∀ v' w', NL B w w' v' (n + m) (L ++ Q.map Prod.fst) → wpList Tryd.prog ops Z rest (a.put op.dst v') w') : wpList Tryd.prog ops Z (op :: rest) a (w0.alloc (.cells C 39)) := by
  obtain ⟨P, hP, hL⟩ := H.out
  have hs0 := hb.size
  refine wpList_append_nodes hgd s x ho B v n m g P Q hs (hP.keep hb) hx hg hm hm0 hC hQ hl (by omega) fun v' w' h1 h2 => h v' w' ⟨⟨_, h1, by rw [List.map_append, hL]⟩, (H.bel.trans (hb.mono hB)).trans h2.bel⟩
theorem NL.slice {B w wr v n L} (H : NL B w wr v n L) : ∃ ao cap, v = .slice ao n cap := by
  obtain ⟨P, hP, _⟩ := H.out
  exact own_slice hP.own
theorem NL.le {B w wr v n L} (H : NL B w wr v n L) : n = L.length := by
  obtain ⟨P, hP, hL⟩ := H.out
  rw [hP.len, ← hL]; simp
theorem NL.nodes {B w wr ao cap n L} (H : NL B w wr (.slice ao n cap) n L) : Nodes wr ao cap L := by
  obtain ⟨P, hP, hL⟩ := H.out
  obtain ⟨ao', cap', e, h⟩ := hP.nodes
  cases e
  rw [← hL]; exact h
theorem NL.keep {B w wr w' v n L} (H : NL B w wr v n L) (hb : Below wr.heap.size wr w') (hB : B ≤ wr.heap.size) : NL B w w' v n L := by
  obtain ⟨P, hP, hL⟩ := H.out
  exact ⟨⟨P, hP.keep hb, hL⟩, H.bel.trans (hb.mono hB)⟩
end Go.Proofs.YtjepkcebfojiaaaDoor
