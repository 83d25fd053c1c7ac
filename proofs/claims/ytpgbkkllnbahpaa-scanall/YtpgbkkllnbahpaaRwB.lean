import Derived.Test.YtpgbkkllnbahpaaRwA
set_option linter.unusedVariables false
set_option linter.unusedSimpArgs false
namespace Go.Proofs.Ytpgbkkllnbahpaa
open Go.ChangeShapes Go.WideShapes Go.ChangeAt Go.RowKit

theorem run_append_zeroR {P : Program} {w : World} (base : Nat) (t ty e : TypeId) (i : TypeInfo) (size : Nat) (ht : P.underlying t = some (.slice e)) (hi : P.info? e = some i) (v : Value) (n : Nat) (xs : List Value) (hown : w.ownsRow base e size v n xs) (xo : Option Addr) (c : Nat) :
    (Builtin.append_ #[t, t] ty #[v, .slice xo 0 c]).run P w = .ok v w := by
  rcases hown.2 with ⟨rfl, rfl⟩ | ⟨g, cap, cur, rfl, _, _, hnc, _⟩
  · cases xo <;> simp [Builtin.append_, run_underlying ht, sizeOf, typeInfo, hi, Builtin.lenOf, Builtin.firstCells, loadCells, loadCellsFrom]
  · cases xo <;> simp [Builtin.append_, run_underlying ht, sizeOf, typeInfo, hi, Builtin.lenOf, Builtin.firstCells, hnc, storeCells, loadCells, loadCellsFrom]
/-- append(l, x...), x a slice of structs. -/
theorem step_append_rows {w : World} {ops : Array Oper} {op : Oper} {a : Act} {K : Act → World → Prop} {Q : Exit → Act → World → Prop} {E : Prop} (hgd : op.guard = none) (s x : Operand) (T e : TypeId) (z : Nat) (zv : Value) (by_ : Nat)
    (ho : op.op = .call { callee := .builtin .append, args := #[s, x], argTypes := #[T, T] }) (hT : Try.prog.underlying T = some (.slice e)) (hi0 : (Try.prog.info? e).map (fun i => (i.zero, i.size, i.bytes)) = some (some zv, z, by_)) (hzc : zv.cells.size = z) (hz : 0 < z) (hby : 0 < by_ ∧ by_ ≤ 1000)
    (B : Nat) (v : Value) (xs : List (List Value)) (hs : a.eval s = v) (hown : Row w B e z v xs) (ad : Addr) (m c : Nat) (hx : a.eval x = .slice (some ad) m c) (hm0 : 0 < m) (ys : List (List Value)) (hm : m = ys.length) (hyz : ∀ y ∈ ys, y.length = z) (hc : ∀ j u, ys.flatten[j]? = some u → w.cell? (ad.add j) = some u) (h1 : ∀ u ∈ ys.flatten, u.oneCell' = true)
    (hl : xs.length + m ≤ 1000000000) (hB : B ≤ w.heap.size)
    (h : ∀ v' w', Row w' B e z v' (xs ++ ys) → GI B w w' v v' → K (a.put op.dst v') w') : if Region.wanted op (yielded ops a.tmps) = true then Oper.wp Try.prog op a w K Q else E := by
  have hw : Region.wanted op (yielded ops a.tmps) = true := by simp [Region.wanted, hgd]
  rw [if_pos hw]
  obtain ⟨i0, hi, hz0, hz1, hz2⟩ := info_parts hi0
  obtain ⟨v', w', hr, h2, h3, h4⟩ := run_append_where (P := Try.prog) (w := w) B T op.type e i0 zv z by_ hT hi hz0 hz1 hz2 hzc hz v xs.length xs.flatten hown.out ad m c hm0 ys.flatten (by rw [flat_len ys hyz, hm]) hc h1 (by unfold maxLen; omega) (by have := hby.2; have : (xs.length + m) * by_ ≤ 1000000000 * 1000 := Nat.mul_le_mul hl (by omega); omega) hB
  unfold Oper.wp execOp
  simp only [ho, resolve, invoke, builtin, Sem.run_bind, Sem.run_pure, Result.andThen_ok, List.map_toArray, List.map_cons, List.map_nil, hs, hx, hr]
  refine h v' w' ⟨by simpa [hm] using h2, fun y hy => ?_⟩ ⟨?_, fun b h5 h6 => grown_at h3 h5 h6, fun b hb => ?_⟩
  · rcases List.mem_append.1 hy with q | q
    · exact hown.len y q
    · exact hyz y q
  · exact (Below.refl _ _).grown h3 hB (fun k hk => (own_block hown.out hk).1)
  · rcases h4.out with ⟨g', cap, e1, e2⟩ | ⟨e1, _⟩
    · subst e1 e2; exact .inl hb
    · rw [e1] at hb; cases hb; right; exact Nat.le_refl _
/-- The same, of a slice that may be empty. -/
theorem step_append_rowsG {w : World} {ops : Array Oper} {op : Oper} {a : Act} {K : Act → World → Prop} {Q : Exit → Act → World → Prop} {E : Prop} (hgd : op.guard = none) (s x : Operand) (T e : TypeId) (z : Nat) (zv : Value) (by_ : Nat)
    (ho : op.op = .call { callee := .builtin .append, args := #[s, x], argTypes := #[T, T] }) (hT : Try.prog.underlying T = some (.slice e)) (hi0 : (Try.prog.info? e).map (fun i => (i.zero, i.size, i.bytes)) = some (some zv, z, by_)) (hzc : zv.cells.size = z) (hz : 0 < z) (hby : 0 < by_ ∧ by_ ≤ 1000)
    (B : Nat) (v : Value) (xs : List (List Value)) (hs : a.eval s = v) (hown : Row w B e z v xs) (xo : Option Addr) (m c : Nat) (hx : a.eval x = .slice xo m c) (ys : List (List Value)) (hm : m = ys.length) (hyz : ∀ y ∈ ys, y.length = z) (hc : ys ≠ [] → ∃ ad, xo = some ad ∧ ∀ j u, ys.flatten[j]? = some u → w.cell? (ad.add j) = some u) (h1 : ∀ u ∈ ys.flatten, u.oneCell' = true)
    (hl : xs.length + m ≤ 1000000000) (hB : B ≤ w.heap.size)
    (h : ∀ v' w', Row w' B e z v' (xs ++ ys) → GI B w w' v v' → K (a.put op.dst v') w') : if Region.wanted op (yielded ops a.tmps) = true then Oper.wp Try.prog op a w K Q else E := by
  rcases Nat.eq_zero_or_pos m with h0 | h0
  · have hw : Region.wanted op (yielded ops a.tmps) = true := by simp [Region.wanted, hgd]
    have e0 : ys = [] := List.length_eq_zero_iff.1 (by omega)
    rw [if_pos hw]
    obtain ⟨i0, hi, hz0, hz1, hz2⟩ := info_parts hi0
    subst h0
    have hr := run_append_zeroR (P := Try.prog) (w := w) B T op.type e i0 z hT hi v xs.length xs.flatten hown.out xo c
    unfold Oper.wp execOp
    simp only [ho, resolve, invoke, builtin, Sem.run_bind, Sem.run_pure, Result.andThen_ok, List.map_toArray, List.map_cons, List.map_nil, hs, hx, hr]
    exact h v w (by rw [e0, List.append_nil]; exact hown) ⟨Below.refl _ _, fun _ _ _ => rfl, fun g hg => .inl hg⟩
  · obtain ⟨ad, rfl, hc'⟩ := hc (by intro q; rw [q] at hm; simp at hm; omega)
    exact step_append_rows hgd s x T e z zv by_ ho hT hi0 hzc hz hby B v xs hs hown ad m c hx h0 ys hm hyz hc' h1 hl hB h
end Go.Proofs.Ytpgbkkllnbahpaa
