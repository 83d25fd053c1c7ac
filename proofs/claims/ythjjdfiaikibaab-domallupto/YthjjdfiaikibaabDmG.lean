import Derived.Test.YthjjdfiaikibaabDmF
set_option linter.unusedVariables false
set_option linter.unusedSimpArgs false
namespace Go.Proofs.Ythjjdfiaikibaab
open Go.ChangeShapes Go.WideShapes Go.ChangeAt Go.RowKit Go.Maps

def brs (op : List (Int × Nat)) : List Value := op.flatMap fun p => [.int .i64 p.1, .int .i64 (p.2 : Int)]
theorem brs_len (op : List (Int × Nat)) : (brs op).length = op.length * 2 := by
  induction op with
  | nil => rfl
  | cons p op ih => simp [brs] at ih ⊢; omega
theorem brs_app (a b : List (Int × Nat)) : brs (a ++ b) = brs a ++ brs b := by simp [brs]
/-- The way that is open, in a row of its own. -/
structure OwnS (w : World) (B : Nat) (v : Value) (op : List (Int × Nat)) : Prop where
  out : w.ownsRow B 55 2 v op.length (brs op)
theorem OwnS.top {w : World} {B : Nat} {v : Value} {st : List (Int × Nat)} {b : Int} {t : Nat} (h : OwnS w B v (st ++ [(b, t)])) : ∃ g c, v = .slice (some ⟨g, 0, none⟩) (st.length + 1) c ∧ st.length + 1 ≤ c ∧ c ≤ 9223372036854775807 ∧ g < w.heap.size ∧ w.cell? ⟨g, st.length * 2, none⟩ = some (.int .i64 b) ∧ w.cell? ⟨g, st.length * 2 + 1, none⟩ = some (.int .i64 (t : Int)) ∧ w.frozen? ⟨g, st.length * 2 + 1, none⟩ = false := by
  have hl : (st ++ [(b, t)]).length = st.length + 1 := by simp
  obtain ⟨g, c, e, h1, h2, h3, h4⟩ := own_some h.out (by simp)
  have ho := h.out
  rw [e, hl] at ho
  rw [hl] at e h1
  refine ⟨g, c, e, h1, h2, h4, ?_, ?_, own_fz ho _⟩
  · rw [own_cell ho _ (by omega), brs_app, List.getElem?_append_right (by rw [brs_len]; omega), brs_len]
    simp [brs]
  · rw [own_cell ho _ (by omega), brs_app, List.getElem?_append_right (by rw [brs_len]; omega), brs_len]
    simp [brs]
theorem OwnS.set {w : World} {B g c : Nat} {st : List (Int × Nat)} {b : Int} {t : Nat} (h : OwnS w B (.slice (some ⟨g, 0, none⟩) (st.length + 1) c) (st ++ [(b, t)])) (t' : Nat) : OwnS (w.setCell ⟨g, st.length * 2 + 1, none⟩ (.int .i64 (t' : Int))) B (.slice (some ⟨g, 0, none⟩) (st.length + 1) c) (st ++ [(b, t')]) := by
  have hl : ∀ t : Nat, (st ++ [(b, t)]).length = st.length + 1 := fun t => by simp
  have ho := h.out
  rw [hl] at ho
  have := own_set ho (st.length * 2 + 1) (by omega) (.int .i64 (t' : Int))
  refine ⟨?_⟩
  rw [hl]
  have e : (brs (st ++ [(b, t)])).set (st.length * 2 + 1) (.int .i64 (t' : Int)) = brs (st ++ [(b, t')]) := by
    rw [brs_app, brs_app, List.set_append_right _ _ (by rw [brs_len]; omega), brs_len, show st.length * 2 + 1 - st.length * 2 = 1 by omega]
    simp [brs]
  rw [e] at this
  exact this
theorem OwnS.cut {w : World} {B g c : Nat} {st : List (Int × Nat)} {b : Int} {t : Nat} (h : OwnS w B (.slice (some ⟨g, 0, none⟩) (st.length + 1) c) (st ++ [(b, t)])) : OwnS w B (.slice (some ⟨g, 0, none⟩) st.length c) st := by
  have ho := h.out
  rw [show (st ++ [(b, t)]).length = st.length + 1 by simp] at ho
  rcases ho.2 with ⟨e, _⟩ | ⟨g', cap, cur, e, e2, e3, e4, e5, e6, e7⟩
  · cases e
  · cases e
    refine ⟨⟨brs_len _, .inr ⟨g, c, cur, rfl, e2, e3, by omega, e5, e6, ?_⟩⟩⟩
    have := congrArg (List.take (st.length * 2)) e7
    rw [List.take_take, Nat.min_eq_left (by omega), brs_app, List.take_append_of_le_length (by rw [brs_len]; omega), List.take_of_length_le (l := brs st) (by rw [brs_len]; omega)] at this
    exact this
theorem OwnS.move {w w' : World} {B v op} (h : OwnS w B v op) (hk : ∀ g, v.ownBlock = some g → w'.heap[g]? = w.heap[g]?) : OwnS w' B v op := ⟨own_move h.out hk⟩
theorem info49 : (Try.prog.info? 55).map (fun i => (i.zero, i.size, i.bytes)) = some (some (.agg #[.int .i64 0, .int .i64 0]), 2, 16) := by kernel_rfl
theorem cell_two_newI (w : World) (a b : Value) (t : TypeId) : ∀ j u, [a, b][j]? = some u → (w.alloc (.cells #[a, b] t)).cell? ((⟨w.heap.size, 0, none⟩ : Addr).add j) = some u := by
  intro j u hj
  match j, hj with
  | 0, hj => simp at hj; subst hj; simp [Addr.add]
  | 1, hj => simp at hj; subst hj; simp [Addr.add]
  | j + 2, hj => simp at hj
/-- append(open, branch{block: x}). -/
theorem wpList_append_brG {w0 : World} {ops : Array Oper} {rest : List Oper} {op : Oper} {a : Act} {Q : Exit → Act → World → Prop} (hgd : op.guard = none) (s x : Operand)
    (ho : op.op = .call { callee := .builtin .append, args := #[s, x], argTypes := #[56, 56] })
    (B : Nat) (v : Value) (L : List (Int × Nat)) (y : Int) (hs : a.eval s = v) (hown : OwnS w0 B v L) (hx : a.eval x = .slice (some ⟨w0.heap.size, 0, none⟩) 1 1)
    (hl : L.length + 1 ≤ 1759218604441) (hB : B ≤ w0.heap.size)
    (h : ∀ v' w', OwnS w' B v' (L ++ [(y, 0)]) → GI B w0 w' v v' → wpList Try.prog ops Q rest (a.put op.dst v') w') : wpList Try.prog ops Q (op :: rest) a (w0.alloc (.cells #[.int .i64 y, .int .i64 0] 55)) := by
  obtain ⟨i0, hi, hz0, hz1, hz2⟩ := info_parts info49
  refine wpList_append_where hgd s x 56 ho B 55 i0 (.agg #[.int .i64 0, .int .i64 0]) 2 16 Try.underlying56 hi hz0 hz1 hz2 rfl (by decide) v L.length (brs L) hs (hown.out.alloc _) ⟨w0.heap.size, 0, none⟩ 1 1 (by omega) [.int .i64 y, .int .i64 0] hx rfl (cell_two_newI _ _ _ _) (fun u hu => by simp at hu; rcases hu with rfl | rfl <;> rfl) (by unfold maxLen; omega) (by omega) (by simp; omega) ?_
  intro v' w' h1 h2 h3
  refine h v' w' ⟨?_⟩ (gi_of hown.out hB h2 h3)
  have e : (L ++ [((y, 0) : Int × Nat)]).length = L.length + 1 := by simp
  rw [e, brs_app]
  exact h1
theorem OwnS.none {w B wb mb v1 v2 bl mt v op} (h : OwnS w B v op) (H : WKS w B wb mb v1 v2 bl mt) : ∀ g, v.ownBlock = some g → ¬ WF wb mb v1 v2 g := by
  obtain ⟨D, ⟨es, cl, h1, _⟩, _⟩ := H.map
  rcases h.out.2 with ⟨rfl, _⟩ | ⟨g', cap, cur, rfl, _, e3, _⟩
  · intro g hg; simp [Value.ownBlock] at hg
  · intro g hg
    simp [Value.ownBlock] at hg
    subst hg
    rintro (rfl | rfl | e | e)
    · rw [H.box] at e3; cases e3
    · rw [h1] at e3; cases e3
    · exact own_not H.o1.out e3 (by decide) e
    · exact own_not H.o2.out e3 (by decide) e
end Go.Proofs.Ythjjdfiaikibaab
