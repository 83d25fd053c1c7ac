import Derived.Test.YthjjdfiaikibaabDmZ
set_option linter.unusedVariables false
set_option linter.unusedSimpArgs false
namespace Go.Proofs.Ythjjdfiaikibaab
open Go.ChangeShapes Go.WideShapes Go.ChangeAt Go.RowKit Go.Maps

/-- A list of slices, in a row of its own. -/
structure OwnV (w : World) (B : Nat) (v : Value) (vs : List Value) : Prop where
  out : w.ownsRow B 27 1 v vs.length vs
theorem OwnV.nil (w : World) (B : Nat) : OwnV w B (.slice none 0 0) [] := ⟨World.ownsRow_nil _ _ _ _⟩
theorem OwnV.move {w w' : World} {B v vs} (h : OwnV w B v vs) (hk : ∀ g, v.ownBlock = some g → w'.heap[g]? = w.heap[g]?) : OwnV w' B v vs := ⟨own_move h.out hk⟩
theorem infoInts : (Try.prog.info? 27).map (fun i => (i.zero, i.size, i.bytes)) = some (some (.slice none 0 0), 1, 24) := by kernel_rfl
/-- append(l, x[:n]). -/
theorem wpList_append_slG {w0 : World} {ops : Array Oper} {rest : List Oper} {op : Oper} {a : Act} {Q : Exit → Act → World → Prop} (hgd : op.guard = none) (s x : Operand)
    (ho : op.op = .call { callee := .builtin .append, args := #[s, x], argTypes := #[26, 26] })
    (B : Nat) (v : Value) (vs : List Value) (ao : Option Addr) (m c : Nat) (hs : a.eval s = v) (hown : OwnV w0 B v vs) (hx : a.eval x = .slice (some ⟨w0.heap.size, 0, none⟩) 1 1)
    (hl : vs.length + 1 ≤ 1759218604441) (hB : B ≤ w0.heap.size)
    (h : ∀ v' w', OwnV w' B v' (vs ++ [.slice ao m c]) → GI B w0 w' v v' → wpList Try.prog ops Q rest (a.put op.dst v') w') : wpList Try.prog ops Q (op :: rest) a (w0.alloc (.cells #[.slice ao m c] 27)) := by
  obtain ⟨i0, hi, hz0, hz1, hz2⟩ := info_parts infoInts
  refine wpList_append_where hgd s x 26 ho B 27 i0 (.slice none 0 0) 1 24 Try.underlying26 hi hz0 hz1 hz2 rfl (by decide) v vs.length vs hs (hown.out.alloc _) ⟨w0.heap.size, 0, none⟩ 1 1 (by omega) [.slice ao m c] hx rfl (cell_one_newI _ _ _) (fun u hu => by simp at hu; subst hu; rfl) (by unfold maxLen; omega) (by omega) (by simp; omega) ?_
  intro v' w' h1 h2 h3
  refine h v' w' ⟨?_⟩ (gi_of hown.out hB h2 h3)
  simpa using h1
/-- append(l, y, z). -/
theorem wpList_append_slG2 {w0 : World} {ops : Array Oper} {rest : List Oper} {op : Oper} {a : Act} {Q : Exit → Act → World → Prop} (hgd : op.guard = none) (s x : Operand)
    (ho : op.op = .call { callee := .builtin .append, args := #[s, x], argTypes := #[26, 26] })
    (B : Nat) (v : Value) (vs : List Value) (ao ao' : Option Addr) (m c m' c' : Nat) (hs : a.eval s = v) (hown : OwnV w0 B v vs) (hx : a.eval x = .slice (some ⟨w0.heap.size, 0, none⟩) 2 2)
    (hl : vs.length + 2 ≤ 1759218604441) (hB : B ≤ w0.heap.size)
    (h : ∀ v' w', OwnV w' B v' (vs ++ [.slice ao m c, .slice ao' m' c']) → GI B w0 w' v v' → wpList Try.prog ops Q rest (a.put op.dst v') w') : wpList Try.prog ops Q (op :: rest) a (w0.alloc (.cells #[.slice ao m c, .slice ao' m' c'] 27)) := by
  obtain ⟨i0, hi, hz0, hz1, hz2⟩ := info_parts infoInts
  refine wpList_append_where hgd s x 26 ho B 27 i0 (.slice none 0 0) 1 24 Try.underlying26 hi hz0 hz1 hz2 rfl (by decide) v vs.length vs hs (hown.out.alloc _) ⟨w0.heap.size, 0, none⟩ 2 2 (by omega) [.slice ao m c, .slice ao' m' c'] hx rfl (cell_two_newI _ _ _ _) (fun u hu => by simp at hu; rcases hu with rfl | rfl <;> rfl) (by unfold maxLen; omega) (by omega) (by simp; omega) ?_
  intro v' w' h1 h2 h3
  refine h v' w' ⟨?_⟩ (gi_of hown.out hB h2 h3)
  simpa using h1
/-- What is lent: each list in a row of its own, with its two marks behind it. -/
def ltv (gs cs : List Nat) (Ls : List (List Int)) : List Value := (List.range Ls.length).map fun i => .slice (some ⟨gs.getD i 0, 0, none⟩) (Ls.getD i []).length (cs.getD i 0)
theorem ltv_len (gs cs : List Nat) (Ls : List (List Int)) : (ltv gs cs Ls).length = Ls.length := by simp [ltv]
theorem getD_app {α : Type} {l : List α} {x d : α} {i : Nat} (h : i < l.length) : (l ++ [x]).getD i d = l.getD i d := by
  rw [List.getD, List.getD, List.getElem?_append_left h]
theorem getD_new {α : Type} {l : List α} {x d : α} : (l ++ [x]).getD l.length d = x := by simp [List.getD]
structure LT (w : World) (B : Nat) (gs cs : List Nat) (Ls : List (List Int)) : Prop where
  lg : gs.length = Ls.length
  lc : cs.length = Ls.length
  row : ∀ i, i < Ls.length → OwnI w B (.slice (some ⟨gs.getD i 0, 0, none⟩) ((Ls.getD i []).length + 2) (cs.getD i 0)) ((Ls.getD i []).length + 2) (Ls.getD i [] ++ [-71, -72])
  nd : ∀ i j, i < Ls.length → j < Ls.length → gs.getD i 0 = gs.getD j 0 → i = j
theorem LT.nil (w : World) (B : Nat) : LT w B [] [] [] := ⟨rfl, rfl, fun i hi => by simp at hi, fun i j hi => by simp at hi⟩
theorem LT.move {w w' : World} {B gs cs Ls} (h : LT w B gs cs Ls) (hk : ∀ i, i < Ls.length → w'.heap[gs.getD i 0]? = w.heap[gs.getD i 0]?) : LT w' B gs cs Ls :=
  ⟨h.lg, h.lc, fun i hi => ⟨(h.row i hi).len, own_move (h.row i hi).out fun g hg => by simp [Value.ownBlock] at hg; subst hg; exact hk i hi⟩, h.nd⟩
theorem ltv_more {gs cs : List Nat} {Ls : List (List Int)} (hg : gs.length = Ls.length) (hc : cs.length = Ls.length) (g c : Nat) (L : List Int) : ltv (gs ++ [g]) (cs ++ [c]) (Ls ++ [L]) = ltv gs cs Ls ++ [.slice (some ⟨g, 0, none⟩) L.length c] := by
  unfold ltv
  rw [List.length_append, List.length_singleton, List.range_succ, List.map_append]
  congr 1
  · refine List.map_congr_left fun i hi => ?_
    have := List.mem_range.1 hi
    rw [getD_app (by omega), getD_app (by omega), getD_app (by omega)]
  · simp only [List.map_cons, List.map_nil]
    rw [getD_new]
    have e1 : (gs ++ [g]).getD Ls.length 0 = g := by rw [← hg]; exact getD_new
    have e2 : (cs ++ [c]).getD Ls.length 0 = c := by rw [← hc]; exact getD_new
    rw [e1, e2]
theorem LT.more {w : World} {B gs cs Ls} (h : LT w B gs cs Ls) {g c : Nat} {L : List Int} (hr : OwnI w B (.slice (some ⟨g, 0, none⟩) (L.length + 2) c) (L.length + 2) (L ++ [-71, -72])) (hn : ∀ i, i < Ls.length → gs.getD i 0 ≠ g) : LT w B (gs ++ [g]) (cs ++ [c]) (Ls ++ [L]) := by
  have e1 : (gs ++ [g]).getD Ls.length 0 = g := by rw [← h.lg]; exact getD_new
  have e2 : (cs ++ [c]).getD Ls.length 0 = c := by rw [← h.lc]; exact getD_new
  have l1 := h.lg
  have l2 := h.lc
  refine ⟨by simp [h.lg], by simp [h.lc], fun i hi => ?_, fun i j hi hj e => ?_⟩
  · simp only [List.length_append, List.length_singleton] at hi
    by_cases hl : i < Ls.length
    · rw [getD_app (by omega), getD_app (by omega), getD_app (by omega)]; exact h.row i hl
    · obtain rfl : i = Ls.length := by omega
      rw [e1, e2, getD_new]; exact hr
  · simp only [List.length_append, List.length_singleton] at hi hj
    by_cases hl : i < Ls.length
    · by_cases hl2 : j < Ls.length
      · rw [getD_app (by omega), getD_app (by omega)] at e; exact h.nd i j hl hl2 e
      · obtain rfl : j = Ls.length := by omega
        rw [e1, getD_app (by omega)] at e
        exact absurd e (hn i hl)
    · obtain rfl : i = Ls.length := by omega
      by_cases hl2 : j < Ls.length
      · rw [e1, getD_app (by omega)] at e
        exact absurd e.symm (hn j hl2)
      · omega
end Go.Proofs.Ythjjdfiaikibaab
