import Derived.Test.YtdbkjjelaipcfaaDoorSvA
set_option linter.unusedVariables false
set_option linter.unusedSimpArgs false
namespace Go.Proofs.YtdbkjjelaipcfaaDoor
open Go.ChangeShapes Go.WideShapes Go.ChangeAt Go.RowKit Go.Maps

theorem info_bk : (Tryd.prog.info? 33).map (fun i => (i.zero, i.size, i.bytes)) = some (some (.agg #[.slice none 0 0, .slice none 0 0, .int .i64 0, .int .i64 0, .slice none 0 0, .slice none 0 0]), 6, 112) := by kernel_rfl
theorem info_vl : (Tryd.prog.info? 25).map (fun i => (i.zero, i.size, i.bytes)) = some (some (.agg #[.int .i64 0, .int .i64 0, .int .i64 0, .slice none 0 0]), 4, 48) := by kernel_rfl
theorem cell_list_new (w : World) (cs : List Value) (t : TypeId) : ∀ j u, cs[j]? = some u → (w.alloc (.cells cs.toArray t)).cell? ((⟨w.heap.size, 0, none⟩ : Addr).add j) = some u := by
  intro j u hj
  rw [add_none, Nat.zero_add]
  exact cell_arr (heap_alloc_new _ _) (by simpa using hj)
/-- append(blocks, b). -/
theorem wpList_append_bk {w0 : World} {ops : Array Oper} {rest : List Oper} {op : Oper} {a : Act} {Q : Exit → Act → World → Prop} (hgd : op.guard = none) (s x : Operand)
    (ho : op.op = .call { callee := .builtin .append, args := #[s, x], argTypes := #[27, 27] })
    (B : Nat) (v : Value) (n : Nat) (cs : List Value) (ds : List Value) (hs : a.eval s = v) (hown : w0.ownsRow B 33 6 v n cs) (hx : a.eval x = .slice (some ⟨w0.heap.size, 0, none⟩) 1 1) (hd : ds.length = 6) (h1 : ∀ u ∈ ds, u.oneCell' = true)
    (hl : n + 1 ≤ 100000000) (hB : B ≤ w0.heap.size)
    (h : ∀ v' w', w'.ownsRow B 33 6 v' (n + 1) (cs ++ ds) → GI B w0 w' v v' → wpList Tryd.prog ops Q rest (a.put op.dst v') w') : wpList Tryd.prog ops Q (op :: rest) a (w0.alloc (.cells ds.toArray 33)) := by
  obtain ⟨i0, hi, hz0, hz1, hz2⟩ := info_parts info_bk
  refine wpList_append_where hgd s x 27 ho B 33 i0 _ 6 112 Tryd.underlying27 hi hz0 hz1 hz2 rfl (by decide) v n cs hs (hown.alloc _) ⟨w0.heap.size, 0, none⟩ 1 1 (by omega) ds hx (by rw [hd]) (cell_list_new _ _ _) h1 (by unfold maxLen; omega) (by omega) (by simp; omega) ?_
  intro v' w' h2 h3 h4
  exact h v' w' h2 (gi_of hown hB h3 h4)
/-- append(values, v). -/
theorem wpList_append_vl {w0 : World} {ops : Array Oper} {rest : List Oper} {op : Oper} {a : Act} {Q : Exit → Act → World → Prop} (hgd : op.guard = none) (s x : Operand)
    (ho : op.op = .call { callee := .builtin .append, args := #[s, x], argTypes := #[26, 26] })
    (B : Nat) (v : Value) (n : Nat) (cs : List Value) (ds : List Value) (hs : a.eval s = v) (hown : w0.ownsRow B 25 4 v n cs) (hx : a.eval x = .slice (some ⟨w0.heap.size, 0, none⟩) 1 1) (hd : ds.length = 4) (h1 : ∀ u ∈ ds, u.oneCell' = true)
    (hl : n + 1 ≤ 100000000) (hB : B ≤ w0.heap.size)
    (h : ∀ v' w', w'.ownsRow B 25 4 v' (n + 1) (cs ++ ds) → GI B w0 w' v v' → wpList Tryd.prog ops Q rest (a.put op.dst v') w') : wpList Tryd.prog ops Q (op :: rest) a (w0.alloc (.cells ds.toArray 25)) := by
  obtain ⟨i0, hi, hz0, hz1, hz2⟩ := info_parts info_vl
  refine wpList_append_where hgd s x 26 ho B 25 i0 _ 4 48 Tryd.underlying26 hi hz0 hz1 hz2 rfl (by decide) v n cs hs (hown.alloc _) ⟨w0.heap.size, 0, none⟩ 1 1 (by omega) ds hx (by rw [hd]) (cell_list_new _ _ _) h1 (by unfold maxLen; omega) (by omega) (by simp; omega) ?_
  intro v' w' h2 h3 h4
  exact h v' w' h2 (gi_of hown hB h3 h4)
/-- The cells of block i while the chain is made. -/
def lgc (g h : Nat → Nat) (i : Nat) : List Value := [.slice none 0 0, .slice none 0 0, .int .i64 1, .int .i64 (-1), .slice (some ⟨g i, 0, none⟩) 1 1, if i = 0 then .slice none 0 0 else .slice (some ⟨h i, 0, none⟩) 1 1]
def lgcs (g h : Nat → Nat) : Nat → List Value
  | 0 => []
  | k + 1 => lgcs g h k ++ lgc g h k
theorem lgc_len (g h : Nat → Nat) (i : Nat) : (lgc g h i).length = 6 := rfl
theorem lgcs_len (g h : Nat → Nat) : ∀ k, (lgcs g h k).length = k * 6
  | 0 => rfl
  | k + 1 => by simp only [lgcs, List.length_append, lgcs_len g h k, lgc_len]; omega
theorem lgcs_at (g h : Nat → Nat) : ∀ k i r, i < k → r < 6 → (lgcs g h k)[i * 6 + r]? = (lgc g h i)[r]?
  | 0, i, r, hi, _ => by omega
  | k + 1, i, r, hi, hr => by
    simp only [lgcs]
    by_cases e : i = k
    · subst e
      rw [List.getElem?_append_right (by rw [lgcs_len]; omega), lgcs_len]
      congr 1; omega
    · rw [List.getElem?_append_left (by rw [lgcs_len]; omega)]
      exact lgcs_at g h k i r (by omega) hr
theorem lgcs_same {g h g' h' : Nat → Nat} : ∀ k, (∀ i, i < k → g' i = g i ∧ h' i = h i) → lgcs g' h' k = lgcs g h k
  | 0, _ => rfl
  | k + 1, e => by
    simp only [lgcs, lgc]
    rw [lgcs_same k fun i hi => e i (by omega), (e k (by omega)).1, (e k (by omega)).2]
/-- A row of blocks, cell by cell. -/
structure RC (w : World) (rb n : Nat) (c : Nat → Nat → Value) : Prop where
  out : ∃ cur : Array Value, w.heap[rb]? = some (.cells cur 33 (0, 0)) ∧ ∀ i r, i < n → r < 6 → cur[i * 6 + r]? = some (c i r)
theorem RC.set {w : World} {rb n c} (h : RC w rb n c) {i r : Nat} (hi : i < n) (hr : r < 6) (v : Value) : RC (w.setCell ⟨rb, i * 6 + r, none⟩ v) rb n (fun i' r' => if i' = i ∧ r' = r then v else c i' r') := by
  obtain ⟨cur, h1, h2⟩ := h.out
  refine ⟨cur.setIfInBounds (i * 6 + r) v, heap_set_at h1, fun i' r' hi' hr' => ?_⟩
  rw [Array.getElem?_setIfInBounds]
  by_cases e : i' = i ∧ r' = r
  · obtain ⟨rfl, rfl⟩ := e
    have := h2 i' r' hi hr
    rw [if_pos rfl, if_pos (Array.getElem?_eq_some_iff.1 this).1, if_pos ⟨rfl, rfl⟩]
  · rw [if_neg (by omega), if_neg e]
    exact h2 i' r' hi' hr'
theorem RC.cell {w : World} {rb n c} (h : RC w rb n c) {i r : Nat} (hi : i < n) (hr : r < 6) : w.cell? ⟨rb, i * 6 + r, none⟩ = some (c i r) ∧ w.frozen? ⟨rb, i * 6 + r, none⟩ = false ∧ rb < w.heap.size := by
  obtain ⟨cur, h1, h2⟩ := h.out
  exact ⟨cell_arr h1 (h2 i r hi hr), fz_of h1, (Array.getElem?_eq_some_iff.1 h1).1⟩
theorem RC.keep {w w' : World} {rb n c} (h : RC w rb n c) (hk : w'.heap[rb]? = w.heap[rb]?) : RC w' rb n c := by
  obtain ⟨cur, h1, h2⟩ := h.out
  exact ⟨cur, hk.trans h1, h2⟩
theorem RC.of_own {w : World} {B rb n cap : Nat} {g h : Nat → Nat} (ho : w.ownsRow B 33 6 (.slice (some ⟨rb, 0, none⟩) n cap) n (lgcs g h n)) (hn : 0 < n) : RC w rb n (fun i r => (lgc g h i).getD r undef) := by
  rcases ho.2 with ⟨e, _⟩ | ⟨g', cap', cur, e, e2, e3, e4, e5, e6, e7⟩
  · cases e
  · cases e
    refine ⟨cur, e3, fun i r hi hr => ?_⟩
    have hl : (lgcs g h n)[i * 6 + r]? = (lgc g h i)[r]? := lgcs_at g h n i r hi hr
    have hr2 : r < (lgc g h i).length := by rw [lgc_len]; exact hr
    have : i * 6 + r < n * 6 := by omega
    rw [← e7, List.getElem?_take_of_lt this] at hl
    rw [Array.getElem?_toList] at hl
    rw [hl]
    simp [List.getD, hr2]
/-- The cells of the chain as it is handed in. -/
def cnC (g h : Nat → Nat) (n : Nat) (ab zb : Value) (i r : Nat) : Value :=
  if r = 0 then .slice none 0 0 else if r = 1 then (if i + 1 = n then zb else if i = 0 then ab else .slice none 0 0) else if r = 2 then (if i + 1 = n then .int .i64 3 else .int .i64 1) else if r = 3 then .int .i64 (-1)
  else if r = 4 then (if i + 1 = n then .slice none 0 0 else .slice (some ⟨g i, 0, none⟩) 1 1) else (if i = 0 then .slice none 0 0 else .slice (some ⟨h i, 0, none⟩) 1 1)
theorem cn_bks {w : World} {rb n cap : Nat} {g h : Nat → Nat} {c : Nat → Nat → Value} (hR : RC w rb n c) {aa : Option Addr} {ac : Nat} {za : Option Addr} {zc : Nat} {a z : List Int} (hc : ∀ i r, i < n → r < 6 → c i r = cnC g h n (.slice aa a.length ac) (.slice za z.length zc) i r) (hn : n ≤ cap) (hcap : cap ≤ 9223372036854775807)
    (hg : ∀ i, i + 1 < n → w.heap[g i]? = some (.cells #[.int .i64 ((i : Int) + 1)] 3 (0, 0))) (hh : ∀ i, 0 < i → i < n → w.heap[h i]? = some (.cells #[.int .i64 ((i : Int) - 1)] 3 (0, 0))) (ha : Ints w aa ac a) (hz : Ints w za zc z) : Bks w (some ⟨rb, 0, none⟩) cap (cnF n a z).blks := by
  obtain ⟨cur, h1, h2⟩ := hR.out
  refine ⟨by rw [cn_len]; exact hn, hcap, fun _ => ⟨rb, 0, rfl, (Array.getElem?_eq_some_iff.1 h1).1, fun i hi => ?_⟩⟩
  rw [cn_at]
  have hi' : i < n := by rw [cn_len] at hi; exact hi
  have hcell : ∀ r, r < 6 → w.cell? ⟨rb, 0 + i * 6 + r, none⟩ = some (cnC g h n (.slice aa a.length ac) (.slice za z.length zc) i r) := fun r hr => by
    rw [Nat.zero_add, ← hc i r hi' hr]; exact cell_arr h1 (h2 i r hi' hr)
  have one : ∀ (b : Nat) (x : Int), w.heap[b]? = some (.cells #[.int .i64 x] 3 (0, 0)) → Ints w (some ⟨b, 0, none⟩) 1 [x] := fun b x hb => ints_exact (L := [x]) hb (by simp)
  have c0 : w.cell? ⟨rb, 0 + i * 6, none⟩ = some (.slice none 0 0) := hcell 0 (by omega)
  have c1 : w.cell? ⟨rb, 0 + i * 6 + 1, none⟩ = some (if i + 1 = n then .slice za z.length zc else if i = 0 then .slice aa a.length ac else .slice none 0 0) := hcell 1 (by omega)
  have c2 : w.cell? ⟨rb, 0 + i * 6 + 2, none⟩ = some (if i + 1 = n then .int .i64 3 else .int .i64 1) := hcell 2 (by omega)
  have c3 : w.cell? ⟨rb, 0 + i * 6 + 3, none⟩ = some (.int .i64 (-1)) := hcell 3 (by omega)
  have c4 : w.cell? ⟨rb, 0 + i * 6 + 4, none⟩ = some (if i + 1 = n then .slice none 0 0 else .slice (some ⟨g i, 0, none⟩) 1 1) := hcell 4 (by omega)
  have c5 : w.cell? ⟨rb, 0 + i * 6 + 5, none⟩ = some (if i = 0 then .slice none 0 0 else .slice (some ⟨h i, 0, none⟩) 1 1) := hcell 5 (by omega)
  have bo : ∃ la lc, w.cell? ⟨rb, 0 + i * 6 + 1, none⟩ = some (.slice la (cnB n a z i).body.length lc) ∧ Ints w la lc (cnB n a z i).body := by
    rw [c1]
    simp only [cnB]
    by_cases e1 : i + 1 = n
    · simp only [if_pos e1]; exact ⟨_, _, rfl, hz⟩
    · simp only [if_neg e1]
      by_cases e2 : i = 0
      · simp only [if_pos e2]; exact ⟨_, _, rfl, ha⟩
      · simp only [if_neg e2]; exact ⟨none, 0, rfl, ints_none w⟩
  have wa : ∃ la lc, w.cell? ⟨rb, 0 + i * 6 + 4, none⟩ = some (.slice la (cnB n a z i).ways.length lc) ∧ Ints w la lc (cnB n a z i).ways := by
    rw [c4]
    simp only [cnB]
    by_cases e1 : i + 1 = n
    · simp only [if_pos e1]; exact ⟨none, 0, rfl, ints_none w⟩
    · simp only [if_neg e1]; exact ⟨_, _, rfl, one _ _ (hg i (by omega))⟩
  have pr : ∃ la lc, w.cell? ⟨rb, 0 + i * 6 + 5, none⟩ = some (.slice la (cnB n a z i).preds.length lc) ∧ Ints w la lc (cnB n a z i).preds := by
    rw [c5]
    simp only [cnB]
    by_cases e1 : i = 0
    · simp only [if_pos e1]; exact ⟨none, 0, rfl, ints_none w⟩
    · simp only [if_neg e1]; exact ⟨_, _, rfl, one _ _ (hh i (by omega) hi')⟩
  have kd : w.cell? ⟨rb, 0 + i * 6 + 2, none⟩ = some (.int .i64 (cnB n a z i).kind) := by
    rw [c2]
    simp only [cnB]
    split <;> rfl
  obtain ⟨la, lc, b1, b2⟩ := bo
  obtain ⟨ma, mc, w1, w2⟩ := wa
  obtain ⟨na, nc, p1, p2⟩ := pr
  exact ⟨none, 0, la, lc, ma, mc, na, nc, c0, b1, kd, c3, w1, p1, ints_none w, b2, w2, p2⟩
end Go.Proofs.YtdbkjjelaipcfaaDoor
