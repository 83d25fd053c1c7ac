import Derived.Test.YtpgbkkllnbahpaaScQ
set_option linter.unusedVariables false
set_option linter.unusedSimpArgs false
namespace Go.Proofs.Ytpgbkkllnbahpaa
open Go.ChangeShapes Go.WideShapes Go.ChangeAt Go.RowKit Go.Maps

/-- A row of cells with others from place o on. -/
def seg (l : List Value) (o : Nat) (cs : List Value) : List Value := l.take o ++ cs ++ l.drop (o + cs.length)
theorem seg_len {l : List Value} {o : Nat} {cs : List Value} (h : o + cs.length ≤ l.length) : (seg l o cs).length = l.length := by
  unfold seg
  simp
  omega
theorem seg_take {l : List Value} {o : Nat} {cs : List Value} (h : o + cs.length ≤ l.length) {n : Nat} (hn : n ≤ o) : (seg l o cs).take n = l.take n := by
  unfold seg
  rw [List.append_assoc, List.take_append_of_le_length (by simp; omega), List.take_take, Nat.min_eq_left hn]
/-- copy(d, s), whatever an entry's size. -/
theorem run_copy_z {P : Program} {w : World} (T ty e : TypeId) (z : Nat) (hT : P.underlying T = some (.slice e)) (hs : (P.info? e).map (·.size) = some z) (g o dl dc : Nat) (a : Addr) (sl sc : Nat) (cur : Array Value) (cs : List Value)
    (hg : w.heap[g]? = some (.cells cur e (0, 0))) (hn : cs.length = Nat.min sl dl * z) (hsrc : ∀ j v, cs[j]? = some v → w.cell? (a.add j) = some v) (hfit : o + cs.length ≤ cur.size) (h1 : ∀ v ∈ cs, v.oneCell' = true) :
    (Builtin.copy_ #[T, T] ty #[.slice (some ⟨g, o, none⟩) dl dc, .slice (some a) sl sc]).run P w = .ok (goInt (Nat.min sl dl)) (w.setRow g (seg cur.toList o cs).toArray) := by
  have hl := run_loadCells_list (P := P) w a cs hsrc
  have hst := run_storeCells_at P g o e cs 0 cur w hg (by simpa using hfit) h1
  cases hq : P.info? e with
  | none => simp [hq] at hs
  | some i =>
    have hi : i.size = z := by simpa [hq] using hs
    rw [hn] at hl
    simp only [Nat.add_zero] at hst
    simp [Builtin.copy_, run_underlying hT, Builtin.lenOf, Builtin.firstCells, sizeOf, typeInfo, hq, hi, hl, hst, seg]
/-- clear of one entry. -/
theorem run_clear_z {P : Program} {w : World} (T ty e : TypeId) (zv : Value) (hT : P.underlying T = some (.slice e)) (hv : ∀ w, (zeroValue e).run P w = .ok zv w) (g o c : Nat) (cur : Array Value)
    (hg : w.heap[g]? = some (.cells cur e (0, 0))) (hfit : o + zv.cells.size ≤ cur.size) (hz : (Builtin.zeroCells zv.cells 1).toList = zv.cells.toList) (h1 : ∀ v ∈ zv.cells.toList, v.oneCell' = true) :
    (Builtin.clear_ #[T] ty #[.slice (some ⟨g, o, none⟩) 1 c]).run P w = .ok (.tuple #[]) (w.setRow g (seg cur.toList o zv.cells.toList).toArray) := by
  have hst := run_storeCells_at P g o e zv.cells.toList 0 cur w hg (by simpa using hfit) h1
  simp only [Nat.add_zero] at hst
  have hzz : (zeroValue e).run P w = .ok zv w := hv w
  simp [Builtin.clear_, run_underlying hT, hzz, hz, hst, seg]
/-- copy in a walk, where its run is known. -/
theorem wpList_copy_run {P : Program} {w : World} {ops : Array Oper} {rest : List Oper} {o : Oper} {a : Act} {Q : Exit → Act → World → Prop} (hgd : o.guard = none) (d s : Operand) (t t' : TypeId)
    (ho : o.op = .call { callee := .builtin .copy, args := #[d, s], argTypes := #[t, t'] }) (v u : Value) (hd : a.eval d = v) (hs : a.eval s = u) {v' : Value} {w' : World}
    (hr : (Builtin.copy_ #[t, t'] o.type #[v, u]).run P w = .ok v' w') (h : wpList P ops Q rest (a.put o.dst v') w') : wpList P ops Q (o :: rest) a w :=
  wpList_plain hgd fun _ hK => by
    unfold Oper.wp execOp
    simp only [ho, resolve, invoke, builtin, Sem.run_bind, Sem.run_pure, Result.andThen_ok, List.map_toArray, List.map_cons, List.map_nil, hd, hs, hr]
    exact hK _ _ h
theorem step_copy_run {P : Program} {w : World} {ops : Array Oper} {o : Oper} {a : Act} {K : Act → World → Prop} {Q : Exit → Act → World → Prop} {E : Prop} (hgd : o.guard = none) (d s : Operand) (t t' : TypeId)
    (ho : o.op = .call { callee := .builtin .copy, args := #[d, s], argTypes := #[t, t'] }) (v u : Value) (hd : a.eval d = v) (hs : a.eval s = u) {v' : Value} {w' : World}
    (hr : (Builtin.copy_ #[t, t'] o.type #[v, u]).run P w = .ok v' w') (h : K (a.put o.dst v') w') : if Region.wanted o (yielded ops a.tmps) = true then Oper.wp P o a w K Q else E := by
  have hw : Region.wanted o (yielded ops a.tmps) = true := by simp [Region.wanted, hgd]
  rw [if_pos hw]
  unfold Oper.wp execOp
  simp only [ho, resolve, invoke, builtin, Sem.run_bind, Sem.run_pure, Result.andThen_ok, List.map_toArray, List.map_cons, List.map_nil, hd, hs, hr]
  exact h
theorem wpList_append_run {P : Program} {w : World} {ops : Array Oper} {rest : List Oper} {o : Oper} {a : Act} {Q : Exit → Act → World → Prop} (hgd : o.guard = none) (d s : Operand) (t t' : TypeId)
    (ho : o.op = .call { callee := .builtin .append, args := #[d, s], argTypes := #[t, t'] }) (v u : Value) (hd : a.eval d = v) (hs : a.eval s = u) {v' : Value} {w' : World}
    (hr : (Builtin.append_ #[t, t'] o.type #[v, u]).run P w = .ok v' w') (h : wpList P ops Q rest (a.put o.dst v') w') : wpList P ops Q (o :: rest) a w :=
  wpList_plain hgd fun _ hK => by
    unfold Oper.wp execOp
    simp only [ho, resolve, invoke, builtin, Sem.run_bind, Sem.run_pure, Result.andThen_ok, List.map_toArray, List.map_cons, List.map_nil, hd, hs, hr]
    exact hK _ _ h
theorem step_append_run {P : Program} {w : World} {ops : Array Oper} {o : Oper} {a : Act} {K : Act → World → Prop} {Q : Exit → Act → World → Prop} {E : Prop} (hgd : o.guard = none) (d s : Operand) (t t' : TypeId)
    (ho : o.op = .call { callee := .builtin .append, args := #[d, s], argTypes := #[t, t'] }) (v u : Value) (hd : a.eval d = v) (hs : a.eval s = u) {v' : Value} {w' : World}
    (hr : (Builtin.append_ #[t, t'] o.type #[v, u]).run P w = .ok v' w') (h : K (a.put o.dst v') w') : if Region.wanted o (yielded ops a.tmps) = true then Oper.wp P o a w K Q else E := by
  have hw : Region.wanted o (yielded ops a.tmps) = true := by simp [Region.wanted, hgd]
  rw [if_pos hw]
  unfold Oper.wp execOp
  simp only [ho, resolve, invoke, builtin, Sem.run_bind, Sem.run_pure, Result.andThen_ok, List.map_toArray, List.map_cons, List.map_nil, hd, hs, hr]
  exact h
theorem wpList_clear_run {P : Program} {w : World} {ops : Array Oper} {rest : List Oper} {o : Oper} {a : Act} {Q : Exit → Act → World → Prop} (hgd : o.guard = none) (d : Operand) (t : TypeId)
    (ho : o.op = .call { callee := .builtin .clear, args := #[d], argTypes := #[t] }) (v : Value) (hd : a.eval d = v) {v' : Value} {w' : World}
    (hr : (Builtin.clear_ #[t] o.type #[v]).run P w = .ok v' w') (h : wpList P ops Q rest (a.put o.dst v') w') : wpList P ops Q (o :: rest) a w :=
  wpList_plain hgd fun _ hK => by
    unfold Oper.wp execOp
    simp only [ho, resolve, invoke, builtin, Sem.run_bind, Sem.run_pure, Result.andThen_ok, List.map_toArray, List.map_cons, List.map_nil, hd, hr]
    exact hK _ _ h
theorem step_clear_run {P : Program} {w : World} {ops : Array Oper} {o : Oper} {a : Act} {K : Act → World → Prop} {Q : Exit → Act → World → Prop} {E : Prop} (hgd : o.guard = none) (d : Operand) (t : TypeId)
    (ho : o.op = .call { callee := .builtin .clear, args := #[d], argTypes := #[t] }) (v : Value) (hd : a.eval d = v) {v' : Value} {w' : World}
    (hr : (Builtin.clear_ #[t] o.type #[v]).run P w = .ok v' w') (h : K (a.put o.dst v') w') : if Region.wanted o (yielded ops a.tmps) = true then Oper.wp P o a w K Q else E := by
  have hw : Region.wanted o (yielded ops a.tmps) = true := by simp [Region.wanted, hgd]
  rw [if_pos hw]
  unfold Oper.wp execOp
  simp only [ho, resolve, invoke, builtin, Sem.run_bind, Sem.run_pure, Result.andThen_ok, List.map_toArray, List.map_cons, List.map_nil, hd, hr]
  exact h
/-- The row whose cells are known whole. -/
theorem row_cur {w : World} {B e z b n c xs} (h : Row w B e z (.slice (some ⟨b, 0, none⟩) n c) xs) (hn : n = xs.length) : ∃ cur : Array Value, w.heap[b]? = some (.cells cur e (0, 0)) ∧ cur.size = c * z ∧ n ≤ c ∧ c ≤ 9223372036854775807 ∧ B ≤ b ∧ cur.toList.take (n * z) = xs.flatten := by
  subst hn
  rcases h.out.2 with ⟨q, _⟩ | ⟨g2, cap, cur, q, p1, p2, p3, p4, p5, p6⟩
  · cases q
  · cases q
    exact ⟨cur, p2, p5, p3, p4, p1, p6⟩
theorem row_mk {w : World} {B e z b c : Nat} {xs : List (List Value)} {cur : Array Value} (hl : ∀ x ∈ xs, x.length = z) (h1 : w.heap[b]? = some (.cells cur e (0, 0))) (h2 : cur.size = c * z) (h3 : xs.length ≤ c) (h4 : c ≤ 9223372036854775807) (h5 : B ≤ b) (h6 : cur.toList.take (xs.length * z) = xs.flatten) : Row w B e z (.slice (some ⟨b, 0, none⟩) xs.length c) xs :=
  ⟨⟨flat_len xs hl, .inr ⟨b, c, cur, rfl, h5, h1, h3, h4, h2, h6⟩⟩, hl⟩
/-- A row cut at its end. -/
theorem row_upto {w : World} {B e z b n c xs} (h : Row w B e z (.slice (some ⟨b, 0, none⟩) n c) xs) (hn : n = xs.length) {m : Nat} (hm : m ≤ n) : Row w B e z (.slice (some ⟨b, 0, none⟩) m c) (xs.take m) := by
  obtain ⟨cur, h1, h2, h3, h4, h5, h6⟩ := row_cur h hn
  have hl : (xs.take m).length = m := by simp; omega
  have := row_mk (xs := xs.take m) (z := z) (B := B) (c := c) (fun x hx => h.len x (List.mem_of_mem_take hx)) h1 h2 (by omega) h4 h5 (by
    rw [hl]
    have := congrArg (List.take (m * z)) h6
    rw [List.take_take, Nat.min_eq_left (Nat.mul_le_mul_right z hm)] at this
    rw [this]
    have e : xs.flatten = (xs.take m).flatten ++ (xs.drop m).flatten := by rw [← List.flatten_append, List.take_append_drop]
    rw [e, List.take_append_of_le_length (by rw [flat_len _ fun x hx => h.len x (List.mem_of_mem_take hx), hl]; omega), List.take_of_length_le (by rw [flat_len _ fun x hx => h.len x (List.mem_of_mem_take hx), hl]; omega)])
  rwa [hl] at this
theorem setRow_cell (w : World) (g k : Nat) (cs : Array Value) (q : Nat) (h : k ≠ g) : (w.setRow g cs).cell? ⟨k, q, none⟩ = w.cell? ⟨k, q, none⟩ := World.cell?_of_block (a := ⟨k, q, none⟩) (setRow_other w g k cs h)
end Go.Proofs.Ytpgbkkllnbahpaa
