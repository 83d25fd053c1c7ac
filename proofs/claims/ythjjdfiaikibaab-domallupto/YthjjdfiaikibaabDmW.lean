import Derived.Test.YthjjdfiaikibaabDmV
import Derived.ArgAppend
set_option linter.unusedVariables false
set_option linter.unusedSimpArgs false
namespace Go.Proofs.Ythjjdfiaikibaab
open Go.ChangeShapes Go.WideShapes Go.ChangeAt Go.RowKit Go.Maps

/-- A list of numbers that is cut at its front, in a row of its own. -/
structure OwnQ (w : World) (B g o len cap : Nat) (L : List Int) : Prop where
  lo : B ≤ g
  ln : len = L.length
  lc : len ≤ cap
  row : ∃ cur, w.heap[g]? = some (.cells cur 3 (0, 0)) ∧ (0 < cap → o + cap ≤ cur.size) ∧ ∀ i (h : i < L.length), cur[o + i]? = some (.int .i64 L[i])
theorem OwnQ.lt {w B g o len cap L} (h : OwnQ w B g o len cap L) : g < w.heap.size := by
  obtain ⟨cur, h1, _⟩ := h.row
  exact (Array.getElem?_eq_some_iff.1 h1).1
theorem OwnQ.move {w w' : World} {B g o len cap L} (h : OwnQ w B g o len cap L) (hk : w'.heap[g]? = w.heap[g]?) : OwnQ w' B g o len cap L := by
  obtain ⟨cur, h1, h2⟩ := h.row
  exact ⟨h.lo, h.ln, h.lc, cur, hk.trans h1, h2⟩
theorem OwnQ.cell {w B g o len cap L} (h : OwnQ w B g o len cap L) {i : Nat} (hi : i < L.length) : w.cell? ⟨g, o + i, none⟩ = some (.int .i64 L[i]) := by
  obtain ⟨cur, h1, _, h3⟩ := h.row
  exact cell_arr h1 (h3 i hi)
/-- The first one is taken. -/
theorem OwnQ.pop {w B g o len cap y} {L : List Int} (h : OwnQ w B g o (len + 1) cap (y :: L)) : OwnQ w B g (o + 1) len (cap - 1) L := by
  obtain ⟨cur, h1, h2, h3⟩ := h.row
  have hl := h.ln
  have hc := h.lc
  simp at hl
  refine ⟨h.lo, hl, by omega, cur, h1, fun _ => by have := h2 (by omega); omega, fun i hi => ?_⟩
  have := h3 (i + 1) (by simp; omega)
  rw [show o + 1 + i = o + (i + 1) by omega, this]
  simp
/-- Where nothing is left its place is all one. -/
theorem OwnQ.zero {w B g o cap} (h : OwnQ w B g o 0 cap []) (o' : Nat) : OwnQ w B g o' 0 0 [] := by
  obtain ⟨cur, h1, h2, h3⟩ := h.row
  exact ⟨h.lo, rfl, Nat.le_refl _, cur, h1, fun h => absurd h (by omega), fun i hi => by simp at hi⟩
/-- append(work, c): in its own row, or in a new one. -/
theorem run_append_q {w0 : World} (B g o len cap : Nat) (L : List Int) (ty : TypeId) (y : Int) (h : OwnQ w0 B g o len cap L) (hl : len + 1 ≤ 17592186044416) (hB : B ≤ w0.heap.size) :
    ∃ g' o' cap' w', (Builtin.append_ #[27, 27] ty #[.slice (some ⟨g, o, none⟩) len cap, .slice (some ⟨w0.heap.size, 0, none⟩) 1 1]).run Try.prog (w0.alloc (.cells #[.int .i64 y] 3)) = .ok (.slice (some ⟨g', o', none⟩) (len + 1) cap') w' ∧ OwnQ w' B g' o' (len + 1) cap' (L ++ [y]) ∧ Only (fun k => k = g) w0 w' ∧ (g' = g ∨ w0.heap.size ≤ g') := by
  obtain ⟨i0, hi, hz0, hz1, hz2⟩ := info_parts info3i
  obtain ⟨cur, h1, h2, h3⟩ := h.row
  have hgl := h.lt
  have ha : (w0.alloc (.cells #[.int .i64 y] 3)).heap[g]? = some (.cells cur 3 (0, 0)) := (heap_alloc_old _ _ hgl).trans h1
  by_cases hroom : len + 1 ≤ cap
  · have hsz := h2 (by omega)
    have hr := run_append_room_cells (P := Try.prog) (w := w0.alloc (.cells #[.int .i64 y] 3)) 27 ty 3 i0 Try.underlying27 hi g o len cap ⟨w0.heap.size, 0, none⟩ 1 1 [.int .i64 y] (by rw [hz1]; rfl) (cell_one_newI _ _ _) (fun u hu => by simp at hu; subst hu; rfl) hroom (fun j hj => by
      simp at hj
      subst hj
      rw [hz1, Nat.mul_one, Nat.add_zero]
      have hlt : o + len < cur.size := by omega
      rw [cell_arr ha (Array.getElem?_eq_getElem hlt)]; rfl) (fun j hj => fz_of ha)
    rw [hz1, Nat.mul_one] at hr
    refine ⟨g, o, cap, _, hr, ?_, ?_, .inl rfl⟩
    · have e : (w0.alloc (.cells #[.int .i64 y] 3)).setCells g (o + len) [.int .i64 y] = (w0.alloc (.cells #[.int .i64 y] 3)).setCell ⟨g, o + len, none⟩ (.int .i64 y) := by rfl
      rw [e]
      refine ⟨h.lo, by simp [h.ln], hroom, _, heap_set_at ha, fun _ => by simpa using hsz, fun i hi' => ?_⟩
      have hln := h.ln
      by_cases hil : i < L.length
      · rw [Array.getElem?_setIfInBounds_ne (by omega), h3 i hil]
        simp [List.getElem_append_left hil]
      · have hie : i = L.length := by simp at hi'; omega
        subst hie
        rw [hln, Array.getElem?_setIfInBounds_self_of_lt (by omega)]
        simp
    · have e : (w0.alloc (.cells #[.int .i64 y] 3)).setCells g (o + len) [.int .i64 y] = (w0.alloc (.cells #[.int .i64 y] 3)).setCell ⟨g, o + len, none⟩ (.int .i64 y) := by rfl
      rw [e]
      exact only_set (Only.of_below ((Below.refl _ _).alloc (Nat.le_refl _) _) _) g (o + len) _ rfl
  · have hr := run_append_grow (P := Try.prog) (w0.alloc (.cells #[.int .i64 y] 3)) 27 ty 3 i0 (.int .i64 0) Try.underlying27 hi hz0 ⟨g, o, none⟩ len cap (ivs L) (by rw [hz1]; simp [ivs, h.ln]) (fun j u hj => by
        have hjl : j < L.length := by have := (List.getElem?_eq_some_iff.1 hj).1; simpa [ivs] using this
        rw [add_none, cell_arr ha (h3 j hjl)]
        simp [ivs, hjl] at hj
        rw [hj]) ⟨w0.heap.size, 0, none⟩ 1 1 [.int .i64 y] (by rw [hz1]; rfl) (cell_one_newI _ _ _) (by omega) (by omega) (by rw [hz2]; exact growslice_fits (by omega) (by omega))
    have hge := grownCap_ge (w0.alloc (.cells #[.int .i64 y] 3)) (len + 1) cap 3
    refine ⟨_, _, _, _, hr, ⟨by simp; omega, by simp [h.ln], hge, _, heap_alloc_new (w0.alloc (.cells #[.int .i64 y] 3)).drew _, fun _ => ?_, fun i hi' => ?_⟩, ?_, .inr (by simp)⟩
    · simp only [Array.size_append, List.size_toArray, size_zeroCells]
      simp [ivs, ← h.ln, Value.cells]
      omega
    · rw [Nat.zero_add, Array.getElem?_append_left (by simp [ivs]; simp at hi'; omega)]
      have e : (ivs L).toArray ++ #[Value.int .i64 y] = (ivs (L ++ [y])).toArray := by simp [ivs]
      rw [e, ivs_at hi', gn_at hi']
    · exact Only.of_below ((((Below.refl _ _).alloc (Nat.le_refl _) _).drew).alloc (by show w0.heap.size ≤ (w0.alloc (.cells #[.int .i64 y] 3)).heap.size; simp) _) _
end Go.Proofs.Ythjjdfiaikibaab
