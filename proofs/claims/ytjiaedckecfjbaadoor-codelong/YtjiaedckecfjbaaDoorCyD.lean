import Derived.Test.YtjiaedckecfjbaaDoorCyC
set_option linter.unusedVariables false
set_option linter.unusedSimpArgs false
namespace Go.Proofs.YtjiaedckecfjbaaDoor
open Go.ChangeShapes Go.WideShapes Go.ChangeAt Go.RowKit

/- What a run has told lies at mb, o: its events, End, Kind, Value, Steps, Words, Depth, and whether it rests. -/
end Go.Proofs.YtjiaedckecfjbaaDoor
namespace Go.Proofs.YtjiaedckecfjbaaDoor
open Go.ChangeShapes Go.WideShapes Go.ChangeAt Go.RowKit

theorem flat_len {α : Type} {z : Nat} : ∀ (xs : List (List α)), (∀ x ∈ xs, x.length = z) → xs.flatten.length = xs.length * z
  | [], _ => by simp
  | x :: xs, h => by
    have h1 := flat_len xs fun y hy => h y (by simp [hy])
    have h2 := h x (by simp)
    simp only [List.flatten_cons, List.length_append, List.length_cons, h1, h2, Nat.add_mul]
    omega
theorem flat_at {α : Type} {z : Nat} : ∀ (xs : List (List α)), (∀ x ∈ xs, x.length = z) → ∀ i (hi : i < xs.length) r, r < z → xs.flatten[i * z + r]? = (xs[i])[r]?
  | [], _, i, hi, _, _ => by simp at hi
  | x :: xs, h, i, hi, r, hr => by
    have h2 := h x (by simp)
    cases i with
    | zero =>
      rw [List.flatten_cons, Nat.zero_mul, Nat.zero_add, List.getElem?_append_left (by omega)]
      rfl
    | succ i =>
      have h1 := flat_at xs (fun y hy => h y (by simp [hy])) i (by simpa using hi) r hr
      rw [List.flatten_cons, List.getElem?_append_right (by rw [h2, Nat.add_mul]; omega), h2, show (i + 1) * z + r - z = i * z + r by rw [Nat.add_mul]; omega, h1]
      rfl
/-- A row of entries, each of z cells, that is the call's own. -/
structure Row (w : World) (B : Nat) (e : TypeId) (z : Nat) (v : Value) (xs : List (List Value)) : Prop where
  out : w.ownsRow B e z v xs.length xs.flatten
  len : ∀ x ∈ xs, x.length = z
theorem Row.nil (w : World) (B : Nat) (e : TypeId) (z : Nat) : Row w B e z (.slice none 0 0) [] := ⟨World.ownsRow_nil _ _ _ _, fun x hx => by simp at hx⟩
theorem Row.move {w w' : World} {B e z v xs} (h : Row w B e z v xs) (hk : ∀ g, v.ownBlock = some g → w'.heap[g]? = w.heap[g]?) : Row w' B e z v xs := ⟨own_move h.out hk, h.len⟩
theorem Row.keep {w w' : World} {B e z v xs} (h : Row w B e z v xs) (hb : Below w.heap.size w w') : Row w' B e z v xs := h.move fun g hg => hb.block g (own_block h.out hg).2
/-- append(l, x), x a struct, in a statement that draws its order. -/
theorem step_append_row {w : World} {ops : Array Oper} {op : Oper} {a : Act} {K : Act → World → Prop} {Q : Exit → Act → World → Prop} {E : Prop} (hgd : op.guard = none) (s x : Operand) (T e : TypeId) (z : Nat) (zv : Value) (by_ : Nat)
    (ho : op.op = .call { callee := .builtin .append, args := #[s, x], argTypes := #[T, T] }) (hT : Tryd.prog.underlying T = some (.slice e)) (hi0 : (Tryd.prog.info? e).map (fun i => (i.zero, i.size, i.bytes)) = some (some zv, z, by_)) (hzc : zv.cells.size = z) (hz : 0 < z) (hby : 0 < by_ ∧ by_ ≤ 1000)
    (B : Nat) (v : Value) (xs : List (List Value)) (hs : a.eval s = v) (hown : Row w B e z v xs) (g : Nat) (hx : a.eval x = .slice (some ⟨g, 0, none⟩) 1 1) (cs : List Value) (hcl : cs.length = z) (hc : ∀ j u, cs[j]? = some u → w.cell? ((⟨g, 0, none⟩ : Addr).add j) = some u) (h1 : ∀ u ∈ cs, u.oneCell' = true)
    (hl : xs.length + 1 ≤ 1000000000) (hB : B ≤ w.heap.size)
    (h : ∀ v' w', Row w' B e z v' (xs ++ [cs]) → GI B w w' v v' → K (a.put op.dst v') w') : if Region.wanted op (yielded ops a.tmps) = true then Oper.wp Tryd.prog op a w K Q else E := by
  have hw : Region.wanted op (yielded ops a.tmps) = true := by simp [Region.wanted, hgd]
  rw [if_pos hw]
  obtain ⟨i0, hi, hz0, hz1, hz2⟩ := info_parts hi0
  obtain ⟨v', w', hr, h2, h3, h4⟩ := run_append_where (P := Tryd.prog) (w := w) B T op.type e i0 zv z by_ hT hi hz0 hz1 hz2 hzc hz v xs.length xs.flatten hown.out ⟨g, 0, none⟩ 1 1 (by omega) cs (by omega) hc h1 (by unfold maxLen; omega) (by have := hby.2; have : (xs.length + 1) * by_ ≤ 1000000000 * 1000 := Nat.mul_le_mul hl (by omega); omega) hB
  unfold Oper.wp execOp
  simp only [ho, resolve, invoke, builtin, Sem.run_bind, Sem.run_pure, Result.andThen_ok, List.map_toArray, List.map_cons, List.map_nil, hs, hx, hr]
  refine h v' w' ⟨by simpa using h2, fun y hy => ?_⟩ ⟨?_, fun b h5 h6 => grown_at h3 h5 h6, fun b hb => ?_⟩
  · rcases List.mem_append.1 hy with q | q
    · exact hown.len y q
    · simp at q; rw [q]; exact hcl
  · exact (Below.refl _ _).grown h3 hB (fun k hk => (own_block hown.out hk).1)
  · rcases h4.out with ⟨g', cap, e1, e2⟩ | ⟨e1, _⟩
    · subst e1 e2; exact .inl hb
    · rw [e1] at hb; cases hb; right; exact Nat.le_refl _
/-- The row's cells, entry by entry. -/
theorem Row.cell {w : World} {B e z b n c xs} (h : Row w B e z (.slice (some ⟨b, 0, none⟩) n c) xs) (hn : n = xs.length) {i : Nat} (hi : i < xs.length) {r : Nat} (hr : r < z) {u : Value} (hu : (xs[i])[r]? = some u) : w.cell? ⟨b, i * z + r, none⟩ = some u := by
  subst hn
  have hlt : i * z + r < xs.length * z := by
    have : (i + 1) * z ≤ xs.length * z := Nat.mul_le_mul_right z hi
    rw [Nat.add_mul] at this
    omega
  rw [own_cell h.out (i * z + r) hlt, flat_at xs h.len i hi r hr, hu]
theorem Row.some {w : World} {B e z v xs} (h : Row w B e z v xs) (hne : 0 < xs.length) : ∃ b c cs, v = .slice (some ⟨b, 0, none⟩) xs.length c ∧ xs.length ≤ c ∧ c ≤ 9223372036854775807 ∧ B ≤ b ∧ w.heap[b]? = some (.cells cs e (0, 0)) := by
  obtain ⟨g, c, e1, h1, h2, h3, h4⟩ := own_some h.out hne
  rcases h.out.2 with ⟨q, _⟩ | ⟨g2, cap, cur, q, _, p3, _⟩
  · rw [e1] at q; cases q
  · rw [e1] at q; cases q
    exact ⟨g, c, cur, e1, h1, h2, h3, p3⟩
end Go.Proofs.YtjiaedckecfjbaaDoor
namespace Go.Proofs.YtjiaedckecfjbaaDoor
open Go.ChangeShapes Go.WideShapes Go.ChangeAt Go.RowKit

theorem cells_newR (w : World) (cs : List Value) (t : TypeId) : ∀ j u, cs[j]? = some u → (w.alloc (.cells cs.toArray t)).cell? ((⟨w.heap.size, 0, none⟩ : Addr).add j) = some u := by
  intro j u hj
  have e : (⟨w.heap.size, 0, none⟩ : Addr).add j = ⟨w.heap.size, j, none⟩ := by
    cases j with
    | zero => rfl
    | succ j => simp [Addr.add]
  rw [e]
  exact cell_arr (heap_alloc_new _ _) (by simpa using hj)
/-- An event as its cells. -/
def evc (e : Int × Int) : List Value := [.int .i64 e.1, .int .i64 e.2]
end Go.Proofs.YtjiaedckecfjbaaDoor
namespace Go.Proofs.YtjiaedckecfjbaaDoor
open Go.ChangeShapes Go.WideShapes Go.ChangeAt Go.RowKit

theorem run_append_zeroR {P : Program} {w : World} (base : Nat) (t ty e : TypeId) (i : TypeInfo) (size : Nat) (ht : P.underlying t = some (.slice e)) (hi : P.info? e = some i) (v : Value) (n : Nat) (xs : List Value) (hown : w.ownsRow base e size v n xs) (xo : Option Addr) (c : Nat) :
    (Builtin.append_ #[t, t] ty #[v, .slice xo 0 c]).run P w = .ok v w := by
  rcases hown.2 with ⟨rfl, rfl⟩ | ⟨g, cap, cur, rfl, _, _, hnc, _⟩
  · cases xo <;> simp [Builtin.append_, run_underlying ht, sizeOf, typeInfo, hi, Builtin.lenOf, Builtin.firstCells, loadCells, loadCellsFrom]
  · cases xo <;> simp [Builtin.append_, run_underlying ht, sizeOf, typeInfo, hi, Builtin.lenOf, Builtin.firstCells, hnc, storeCells, loadCells, loadCellsFrom]
/-- append(l, x...), x a slice of structs. -/
theorem step_append_rows {w : World} {ops : Array Oper} {op : Oper} {a : Act} {K : Act → World → Prop} {Q : Exit → Act → World → Prop} {E : Prop} (hgd : op.guard = none) (s x : Operand) (T e : TypeId) (z : Nat) (zv : Value) (by_ : Nat)
    (ho : op.op = .call { callee := .builtin .append, args := #[s, x], argTypes := #[T, T] }) (hT : Tryd.prog.underlying T = some (.slice e)) (hi0 : (Tryd.prog.info? e).map (fun i => (i.zero, i.size, i.bytes)) = some (some zv, z, by_)) (hzc : zv.cells.size = z) (hz : 0 < z) (hby : 0 < by_ ∧ by_ ≤ 1000)
    (B : Nat) (v : Value) (xs : List (List Value)) (hs : a.eval s = v) (hown : Row w B e z v xs) (ad : Addr) (m c : Nat) (hx : a.eval x = .slice (some ad) m c) (hm0 : 0 < m) (ys : List (List Value)) (hm : m = ys.length) (hyz : ∀ y ∈ ys, y.length = z) (hc : ∀ j u, ys.flatten[j]? = some u → w.cell? (ad.add j) = some u) (h1 : ∀ u ∈ ys.flatten, u.oneCell' = true)
    (hl : xs.length + m ≤ 1000000000) (hB : B ≤ w.heap.size)
    (h : ∀ v' w', Row w' B e z v' (xs ++ ys) → GI B w w' v v' → K (a.put op.dst v') w') : if Region.wanted op (yielded ops a.tmps) = true then Oper.wp Tryd.prog op a w K Q else E := by
  have hw : Region.wanted op (yielded ops a.tmps) = true := by simp [Region.wanted, hgd]
  rw [if_pos hw]
  obtain ⟨i0, hi, hz0, hz1, hz2⟩ := info_parts hi0
  obtain ⟨v', w', hr, h2, h3, h4⟩ := run_append_where (P := Tryd.prog) (w := w) B T op.type e i0 zv z by_ hT hi hz0 hz1 hz2 hzc hz v xs.length xs.flatten hown.out ad m c hm0 ys.flatten (by rw [flat_len ys hyz, hm]) hc h1 (by unfold maxLen; omega) (by have := hby.2; have : (xs.length + m) * by_ ≤ 1000000000 * 1000 := Nat.mul_le_mul hl (by omega); omega) hB
  unfold Oper.wp execOp
  simp only [ho, resolve, invoke, builtin, Sem.run_bind, Sem.run_pure, Result.andThen_ok, List.map_toArray, List.map_cons, List.map_nil, hs, hx, hr]
  refine h v' w' ⟨by simpa [hm] using h2, fun y hy => ?_⟩ ⟨?_, fun b h5 h6 => grown_at h3 h5 h6, fun b hb => ?_⟩
  · rcases List.mem_append.1 hy with q | q
    · exact hown.len y q
    · exact hyz y q
  · exact (Below.refl _ _).grown h3 hB (fun k hk => (own_block hown.out hk).1)
  · rcases h4.out with ⟨g', cap, e1, e2⟩ | ⟨e1, _⟩
    · subst e1 e2; exact .inl hb
    · rw [e1] at hb; cases hb; right; exact Nat.le_refl _
/-- The same, of a slice that may be empty. -/
theorem step_append_rowsG {w : World} {ops : Array Oper} {op : Oper} {a : Act} {K : Act → World → Prop} {Q : Exit → Act → World → Prop} {E : Prop} (hgd : op.guard = none) (s x : Operand) (T e : TypeId) (z : Nat) (zv : Value) (by_ : Nat)
    (ho : op.op = .call { callee := .builtin .append, args := #[s, x], argTypes := #[T, T] }) (hT : Tryd.prog.underlying T = some (.slice e)) (hi0 : (Tryd.prog.info? e).map (fun i => (i.zero, i.size, i.bytes)) = some (some zv, z, by_)) (hzc : zv.cells.size = z) (hz : 0 < z) (hby : 0 < by_ ∧ by_ ≤ 1000)
    (B : Nat) (v : Value) (xs : List (List Value)) (hs : a.eval s = v) (hown : Row w B e z v xs) (xo : Option Addr) (m c : Nat) (hx : a.eval x = .slice xo m c) (ys : List (List Value)) (hm : m = ys.length) (hyz : ∀ y ∈ ys, y.length = z) (hc : ys ≠ [] → ∃ ad, xo = some ad ∧ ∀ j u, ys.flatten[j]? = some u → w.cell? (ad.add j) = some u) (h1 : ∀ u ∈ ys.flatten, u.oneCell' = true)
    (hl : xs.length + m ≤ 1000000000) (hB : B ≤ w.heap.size)
    (h : ∀ v' w', Row w' B e z v' (xs ++ ys) → GI B w w' v v' → K (a.put op.dst v') w') : if Region.wanted op (yielded ops a.tmps) = true then Oper.wp Tryd.prog op a w K Q else E := by
  rcases Nat.eq_zero_or_pos m with h0 | h0
  · have hw : Region.wanted op (yielded ops a.tmps) = true := by simp [Region.wanted, hgd]
    have e0 : ys = [] := List.length_eq_zero_iff.1 (by omega)
    rw [if_pos hw]
    obtain ⟨i0, hi, hz0, hz1, hz2⟩ := info_parts hi0
    subst h0
    have hr := run_append_zeroR (P := Tryd.prog) (w := w) B T op.type e i0 z hT hi v xs.length xs.flatten hown.out xo c
    unfold Oper.wp execOp
    simp only [ho, resolve, invoke, builtin, Sem.run_bind, Sem.run_pure, Result.andThen_ok, List.map_toArray, List.map_cons, List.map_nil, hs, hx, hr]
    exact h v w (by rw [e0, List.append_nil]; exact hown) ⟨Below.refl _ _, fun _ _ _ => rfl, fun g hg => .inl hg⟩
  · obtain ⟨ad, rfl, hc'⟩ := hc (by intro q; rw [q] at hm; simp at hm; omega)
    exact step_append_rows hgd s x T e z zv by_ ho hT hi0 hzc hz hby B v xs hs hown ad m c hx h0 ys hm hyz hc' h1 hl hB h
end Go.Proofs.YtjiaedckecfjbaaDoor
