import Derived.Test.YthjjdfiaikibaabDnA
set_option linter.unusedVariables false
set_option linter.unusedSimpArgs false
namespace Go.Proofs.Ythjjdfiaikibaab
open Go.ChangeShapes Go.WideShapes Go.ChangeAt Go.RowKit Go.Maps

theorem OwnI.mono {w : World} {B B' : Nat} {v : Value} {n : Nat} {L : List Int} (h : OwnI w B v n L) (hB : B' ≤ B) : OwnI w B' v n L := by
  refine ⟨h.len, h.out.1, ?_⟩
  rcases h.out.2 with h1 | ⟨g, cap, cur, e1, e2, e3⟩
  · exact .inl h1
  · exact .inr ⟨g, cap, cur, e1, by omega, e3⟩
theorem LT.lt {w B gs cs Ls} (h : LT w B gs cs Ls) {i : Nat} (hi : i < Ls.length) : B ≤ gs.getD i 0 ∧ gs.getD i 0 < w.heap.size := own_block (h.row i hi).out rfl
/-- At the head of lent's loop. -/
structure LH (w wr : World) (B : Nat) (v : Value) (gs cs : List Nat) (Ls : List (List Int)) : Prop where
  out : OwnV wr B v (ltv gs cs Ls)
  lt : LT wr B gs cs Ls
  ap : ∀ i, i < Ls.length → v.ownBlock ≠ some (gs.getD i 0)
  bel : Below B w wr
/-- One list more. -/
theorem LH.more {w wr w2 w3 : World} {B : Nat} {v v' : Value} {gs cs : List Nat} {Ls : List (List Int)} (h : LH w wr B v gs cs Ls) (hB : B ≤ wr.heap.size) {g c : Nat} {L : List Int}
    (h1 : Below wr.heap.size wr w2) (h2 : OwnI w2 wr.heap.size (.slice (some ⟨g, 0, none⟩) (L.length + 2) c) (L.length + 2) (L ++ [-71, -72]))
    (h3 : OwnV w3 B v' (ltv gs cs Ls ++ [.slice (some ⟨g, 0, none⟩) L.length c])) (h4 : GI B w2 w3 v v') : LH w w3 B v' (gs ++ [g]) (cs ++ [c]) (Ls ++ [L]) := by
  have hg := own_block h2.out (g := g) rfl
  have l1 := h.lt.lg
  have hv : ∀ b, v.ownBlock = some b → b < wr.heap.size := fun b hb => (own_block h.out.out hb).2
  have hs := h1.size
  refine ⟨by rw [ltv_more h.lt.lg h.lt.lc]; exact h3, ?_, ?_, h.bel.trans ((h1.mono hB).trans h4.bel)⟩
  · refine LT.more (h.lt.move fun i hi => ?_) ?_ fun i hi e => ?_
    · have hl := h.lt.lt hi
      rw [h4.blk _ (by omega) (h.ap i hi), h1.block _ hl.2]
    · refine (h2.mono hB).gi h4 fun b hb e => ?_
      simp [Value.ownBlock] at hb
      subst hb
      have := hv _ e
      omega
    · have hl := h.lt.lt hi
      omega
  · intro i hi e
    simp only [List.length_append, List.length_singleton] at hi
    by_cases hl : i < Ls.length
    · rw [getD_app (by omega)] at e
      have hl2 := h.lt.lt hl
      rcases h4.own _ e with e1 | e1
      · exact h.ap i hl e1
      · omega
    · obtain rfl : i = Ls.length := by omega
      have e1 : (gs ++ [g]).getD Ls.length 0 = g := by rw [← l1]; exact getD_new
      rw [e1] at e
      rcases h4.own _ e with e2 | e2
      · have := hv _ e2; omega
      · omega
end Go.Proofs.Ythjjdfiaikibaab
namespace Go.Proofs.Ythjjdfiaikibaab
open Go.ChangeShapes Go.WideShapes Go.ChangeAt Go.RowKit Go.Maps

/-- The rows' slices: where one has no place it has no room. -/
def RZ (w : World) (ao : Option Addr) (n : Nat) : Prop := ∀ b o i m c, ao = some ⟨b, o, none⟩ → i < n → w.cell? ⟨b, o + i, none⟩ = some (.slice none m c) → c = 0
end Go.Proofs.Ythjjdfiaikibaab
namespace Go.Proofs.Ythjjdfiaikibaab
open Go.ChangeShapes Go.WideShapes Go.ChangeAt Go.RowKit Go.Maps

/-- The lists that were lent, as a list of lists. -/
theorem lent_irow {w : World} {B : Nat} {a4 : Option Addr} {c4 m : Nat} {gs cs : List Nat} {Ls : List (List Int)} {r : List Value} (h : OwnV w B (.slice a4 m c4) (ltv gs cs Ls ++ r)) (hl : LT w B gs cs Ls) (hm : m = (ltv gs cs Ls ++ r).length) : IRow w a4 c4 Ls := by
  have h2 := h.out
  rw [← hm] at h2
  have hlen := ltv_len gs cs Ls
  rcases h2.2 with ⟨e, e2⟩ | ⟨g, cap, cur, e, e2, e3, e4, e5, e6, e7⟩
  · cases e
    have e0 : Ls = [] := List.eq_nil_of_length_eq_zero (by simp at hm; omega)
    subst e0
    exact ⟨by simp, by omega, fun h => absurd rfl h⟩
  · cases e
    have hle : Ls.length ≤ m := by rw [hm, List.length_append]; omega
    refine ⟨by omega, by unfold maxLen at e5; omega, fun _ => ⟨g, 0, rfl, (Array.getElem?_eq_some_iff.1 e3).1, fun i hi => ?_⟩⟩
    have hr := hl.row i hi
    have hb : Ls.getD i [] = Ls[i] := by simp [hi]
    rw [hb] at hr
    obtain ⟨g', c', e9, q1, q2, _, _⟩ := own_some hr.out (by omega)
    cases e9
    refine ⟨some ⟨gs.getD i 0, 0, none⟩, cs.getD i 0, ?_, hr.prefix rfl q2 q1⟩
    rw [Nat.zero_add, own_cell h2 i (by omega), List.getElem?_append_left (by omega)]
    simp [ltv, hi]
end Go.Proofs.Ythjjdfiaikibaab
namespace Go.Proofs.Ythjjdfiaikibaab
open Go.ChangeShapes Go.WideShapes Go.ChangeAt Go.RowKit Go.Maps

/-- At the head of the loop of stays: what is lent from the k-th list on. -/
structure SH (w wr : World) (B g4 n k : Nat) (gs cs : List Nat) (Ls : List (List Int)) : Prop where
  box : ∃ cur, wr.heap[g4]? = some (.cells cur 27 (0, 0)) ∧ ∀ i, k ≤ i → i < n → cur[i]? = some (.slice (some ⟨gs.getD i 0, 0, none⟩) (Ls.getD i []).length (cs.getD i 0))
  row : ∀ i, k ≤ i → i < n → OwnI wr B (.slice (some ⟨gs.getD i 0, 0, none⟩) ((Ls.getD i []).length + 2) (cs.getD i 0)) ((Ls.getD i []).length + 2) (Ls.getD i [] ++ [-71, -72])
  bel : Below B w wr
  oth : ∀ b, b < w.heap.size → b ≠ g4 → (∀ i, i < n → b ≠ gs.getD i 0) → wr.heap[b]? = w.heap[b]?
theorem SH.start {w wr : World} {B g4 n c4 : Nat} {gs cs : List Nat} {Ls : List (List Int)} {r : List Value} (hn : n = Ls.length) (h : w.ownsRow B 27 1 (.slice (some ⟨g4, 0, none⟩) (n + 2) c4) (n + 2) (ltv gs cs Ls ++ r)) (hl : LT w B gs cs Ls) (hb : Below w.heap.size w wr) (hB : B ≤ w.heap.size) : SH w wr B g4 n 0 gs cs Ls := by
  have hlt := (own_block h (g := g4) rfl).2
  refine ⟨?_, fun i _ hi => (hl.row i (by omega)).keep hb, hb.mono hB, fun b h1 _ _ => hb.block b h1⟩
  rcases h.2 with ⟨e, _⟩ | ⟨g, cap, cur, e, _, e3, e4, _, e6, e7⟩
  · cases e
  · cases e
    refine ⟨cur, by rw [hb.block _ hlt]; exact e3, fun i _ hi => ?_⟩
    have h1 : (List.take ((n + 2) * 1) cur.toList)[i]? = (ltv gs cs Ls ++ r)[i]? := by rw [e7]
    rw [List.getElem?_take_of_lt (by omega), List.getElem?_append_left (by rw [ltv_len]; omega)] at h1
    rw [← Array.getElem?_toList, h1]
    simp [ltv, hn ▸ hi]
end Go.Proofs.Ythjjdfiaikibaab
namespace Go.Proofs.Ythjjdfiaikibaab
open Go.ChangeShapes Go.WideShapes Go.ChangeAt Go.RowKit Go.Maps

theorem le_sum {l : List Nat} {x : Nat} (h : x ∈ l) : x ≤ l.sum := by
  induction l with
  | nil => simp at h
  | cons a l ih => rcases List.mem_cons.1 h with rfl | h; simp; have := ih h; simp; omega
end Go.Proofs.Ythjjdfiaikibaab
namespace Go.Proofs.Ythjjdfiaikibaab
open Go.ChangeShapes Go.WideShapes Go.ChangeAt Go.RowKit Go.Maps

theorem bulk_pos {H : Type} (d : DataW H) : 1 ≤ Rows.uptoBulk d := by
  cases d with
  | lit l => cases l <;> simp [Rows.uptoBulk]
  | _ => simp [Rows.uptoBulk]
theorem bulkAll_len {H : Type} : ∀ l : List (DataW H), l.length ≤ Rows.uptoBulkAll l
  | [] => by simp [Rows.uptoBulkAll]
  | d :: l => by have := bulkAll_len l; have := bulk_pos d; simp [Rows.uptoBulkAll]; omega
theorem bulkAll_sum {H : Type} : ∀ l : List (DataW H), Rows.uptoBulkAll l = (l.map Rows.uptoBulk).sum
  | [] => by simp [Rows.uptoBulkAll]
  | d :: l => by simp [Rows.uptoBulkAll, bulkAll_sum l]
/-- A slice of numbers within what came in. -/
theorem ints_view2 {H : Type} {enc : TypeId × Value → H} {W : World} {fuel : Nat} {v : Value} {x : DataW H × List MemPlace} (h : DataW.trod enc Try.prog W 0 (fun _ => true) true fuel 27 [v] = some x) :
    ∃ (ao : Option Addr) (cap : Nat) (T : List Int), v = .slice ao T.length cap ∧ Ints W ao cap T ∧ (ao = none → cap = 0) ∧ T.length + 1 ≤ Rows.uptoBulk x.1 := by
  rcases open_ints Try.underlying27 Try.underlying3 (by kernel_rfl) h with ⟨h0, _⟩ | ⟨a, len, cap, zs, e, _, h2, h3, h4, rfl, h5, h6⟩
  · simp only [List.cons.injEq, and_true] at h0
    subst h0
    exact ⟨none, 0, [], rfl, ⟨by simp, by omega, fun h => absurd rfl h⟩, fun _ => rfl, by have := bulk_pos x.1; simpa using this⟩
  · simp only [List.cons.injEq, and_true] at e
    subst e
    simp only [if_true] at h4
    have hl : (zs.take len).length = len := by simp; omega
    refine ⟨some a, cap, zs.take len, by rw [hl], ⟨by omega, by have := h3; unfold maxLen at this; omega, fun hne => ?_⟩, fun h => (by cases h), ?_⟩
    · have hl0 : 0 < len := by
        rcases Nat.eq_zero_or_pos len with h | h
        · subst h; simp at hne
        · exact h
      obtain ⟨b, off, spot⟩ := a
      have hspot : spot = none := by simpa [Addr.add] using World.cell?_spot (h5 0 (by omega))
      subst hspot
      refine ⟨b, off, rfl, by have := block_lt_of_cell (h5 0 (by omega)); simpa [Addr.add] using this, fun i hi => ?_⟩
      have hi' : i < zs.length := by rw [hl] at hi; omega
      have := h5 i hi'
      rw [add_none] at this
      rw [this]
      simp [hi']
    · have h9 := bulkAll_len (H := H) (lits .i64 (zs.take len))
      simp only [Rows.uptoBulk]
      simp [lits] at h9 ⊢
      omega
/-- A list of lists of numbers that came in. -/
theorem irow_view {H : Type} {enc : TypeId × Value → H} {W : World} {fuel : Nat} {ao : Option Addr} {len cap : Nat} {x : DataW H × List MemPlace} (h : DataW.trod enc Try.prog W 0 (fun _ => true) true fuel 26 [.slice ao len cap] = some x) :
    ∃ Ls : List (List Int), len = Ls.length ∧ IRow W ao cap Ls ∧ RZ W ao len ∧ len + (Ls.map List.length).sum ≤ Rows.uptoBulk x.1 := by
  rcases Deep.open_slice1 Try.underlying26 (by kernel_rfl) h with ⟨h0, _⟩ | ⟨a, len', cap', m, n, V, D, Pl, e, _, hl, hm, hmm, rfl, hx⟩
  · cases h0
    exact ⟨[], rfl, ⟨by simp, by omega, fun h => absurd rfl h⟩, fun b o i m c e => (by cases e), by simp⟩
  · simp only [List.cons.injEq, Value.slice.injEq, and_true] at e
    obtain ⟨rfl, rfl, rfl⟩ := e
    have hml : len ≤ m := by rw [hmm]; simp; exact hl
    have each : ∀ i, i < len → ∃ q : Option Addr × Nat × List Int, W.cell? (a.add i) = some (.slice q.1 q.2.2.length q.2.1) ∧ Ints W q.1 q.2.1 q.2.2 ∧ (q.1 = none → q.2.1 = 0) ∧ q.2.2.length + 1 ≤ Rows.uptoBulk (D i) := by
      intro i hi
      obtain ⟨h1, h2⟩ := hx i (by omega)
      obtain ⟨b, c, T, rfl', h3, h4, h5⟩ := ints_view2 h2
      exact ⟨(b, c, T), by rw [h1, rfl'], h3, h4, h5⟩
    haveI : Inhabited (Option Addr × Nat × List Int) := ⟨(none, 0, [])⟩
    obtain ⟨q, hq⟩ := Deep.choose_lt each
    refine ⟨(List.range len).map fun i => (q i).2.2, by simp, ⟨by simpa using hl, by unfold maxLen at hm; omega, fun hne => ?_⟩, fun b o i m' c' e hi hc => ?_, ?_⟩
    · have h0 : 0 < len := by
        rcases Nat.eq_zero_or_pos len with h | h
        · subst h; simp at hne
        · exact h
      obtain ⟨b, off, spot⟩ := a
      have hspot : spot = none := by simpa [Addr.add] using World.cell?_spot (hq 0 h0).1
      subst hspot
      refine ⟨b, off, rfl, by have := block_lt_of_cell (hq 0 h0).1; simpa [Addr.add] using this, fun i hi => ?_⟩
      have hi' : i < len := by simpa using hi
      have h1 := (hq i hi').1
      rw [add_none] at h1
      refine ⟨(q i).1, (q i).2.1, by rw [h1]; simp, by simpa using (hq i hi').2.1⟩
    · cases e
      have h1 := hq i hi
      rw [add_none, hc] at h1
      have h2 := Option.some.inj h1.1
      injection h2 with e1 e2 e3
      rw [e3]
      exact h1.2.2.1 e1.symm
    · simp only [Rows.uptoBulk, bulkAll_sum, List.map_map]
      have key : ∀ l : List Nat, (∀ i ∈ l, i < len) → l.length + (l.map (List.length ∘ fun i => (q i).2.2)).sum ≤ (l.map (Rows.uptoBulk ∘ D)).sum := by
        intro l
        induction l with
        | nil => intro _; simp
        | cons i l ih =>
          intro hl
          have h1 := ih fun j hj => hl j (by simp [hj])
          have h2 := (hq i (hl i (by simp))).2.2.2
          simp only [List.length_cons, List.map_cons, List.sum_cons, Function.comp] at h1 ⊢
          omega
      have := key (List.range len) fun i hi => List.mem_range.1 hi
      simp only [List.length_range] at this
      omega
end Go.Proofs.Ythjjdfiaikibaab
