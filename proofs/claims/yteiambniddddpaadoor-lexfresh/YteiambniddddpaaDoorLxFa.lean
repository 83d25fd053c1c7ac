import Derived.Test.YteiambniddddpaaDoorLxM
import Derived.Test.YteiambniddddpaaDoorLxBm
set_option linter.unusedVariables false
namespace Go.Proofs.YteiambniddddpaaDoor
open Go.ChangeShapes Go.WideShapes Go.ChangeAt Go.RowKit

/-- A row depends on its own block alone. -/
theorem own_move {w w' : World} {B e s n xs} {v : Value} (h : w.ownsRow B e s v n xs) (hk : ∀ g, v.ownBlock = some g → w'.heap[g]? = w.heap[g]?) : w'.ownsRow B e s v n xs := by
  refine ⟨h.1, h.2.imp id ?_⟩
  rintro ⟨g, cap, cur, e1, e2, e3, e4⟩
  exact ⟨g, cap, cur, e1, e2, (hk g (by rw [e1]; rfl)).trans e3, e4⟩

/-- What an append did to the row: in place, or a new row and all old ones as they were. -/
inductive Grew (w w' : World) (v v' : Value) (n m : Nat) : Prop
  | room (g cap : Nat) (h1 : v = .slice (some ⟨g, 0, none⟩) n cap) (h2 : v' = .slice (some ⟨g, 0, none⟩) (n + m) cap)
  | new (h1 : v'.ownBlock = some w.heap.size) (h2 : w.grownBy w' none)

theorem run_append_where {P : Program} {w : World} (base : Nat) (t ty e : TypeId) (i : TypeInfo) (z : Value) (size bytes : Nat) (ht : P.underlying t = some (.slice e)) (hi : P.info? e = some i) (hz : i.zero = some z)
    (hsize : i.size = size) (hby : i.bytes = bytes) (hzs : z.cells.size = size) (hsz : 0 < size)
    (v : Value) (n : Nat) (xs : List Value) (hown : w.ownsRow base e size v n xs)
    (a : Addr) (m c : Nat) (hm : 0 < m) (news : List Value) (hl : news.length = m * size) (hnews : ∀ j u, news[j]? = some u → w.cell? (a.add j) = some u) (h1 : ∀ u ∈ news, u.oneCell' = true)
    (h63 : n + m ≤ maxLen) (hbytes : (n + m) * bytes ≤ 140737488355328) (hbase : base ≤ w.heap.size) :
    ∃ v' w', (Builtin.append_ #[t, t] ty #[v, .slice (some a) m c]).run P w = .ok v' w' ∧ w'.ownsRow base e size v' (n + m) (xs ++ news) ∧ w.grownBy w' v.ownBlock ∧ Grew w w' v v' n m := by
  obtain ⟨v', w', hr, h2, h3, h4⟩ := run_append_own (P := P) w base t ty e i z size bytes ht hi hz hsize hby hzs hsz v n xs hown a m c news hl hnews h1 h63 hbytes hbase
  refine ⟨v', w', hr, h2, h3, ?_⟩
  have hsmall : n + m ≤ 9223372036854775807 := by simp only [maxLen] at h63; omega
  subst hsize hby
  rcases hown.2 with ⟨rfl, rfl⟩ | ⟨g, cap, cur, rfl, hbg, hg, hnc, hcm, hcs, htake⟩
  · have hr2 := run_append_nil (P := P) w t ty e i z ht hi hz a m c news hl hnews (by omega) (by omega) (by have hb := hbytes; simp only [Nat.zero_add] at hb; omega)
    rw [hr2] at hr
    cases hr
    exact .new rfl (by exact ⟨rfl, rfl, rfl, by simp, fun k hk _ => heap_alloc_old w.drew _ hk⟩)
  · by_cases hroom : n + m ≤ cap
    · have hfit : n * i.size + news.length ≤ cur.size := by rw [hl, hcs, ← Nat.add_mul]; exact Nat.mul_le_mul_right _ hroom
      have hr2 := run_append_room (P := P) w t ty e i ht hi g n cap cur hg a m c news hl hnews h1 hroom hfit
      rw [hr2] at hr
      cases hr
      exact .room g cap rfl rfl
    · have holds : ∀ j u, xs[j]? = some u → w.cell? ((⟨g, 0, none⟩ : Addr).add j) = some u := hown.cells (g := g) rfl
      have hr2 := run_append_grow (P := P) w t ty e i z ht hi hz ⟨g, 0, none⟩ n cap xs hown.1 holds a m c news hl hnews (by omega) (by omega) (growslice_fits (by omega) hbytes)
      rw [hr2] at hr
      cases hr
      exact .new rfl (by exact ⟨rfl, rfl, rfl, by simp, fun k hk _ => heap_alloc_old w.drew _ hk⟩)

theorem wpList_append_where {P : Program} {w : World} {ops : Array Oper} {rest : List Oper} {o : Oper} {a : Act} {Q : Exit → Act → World → Prop} (hgd : o.guard = none) (s x : Operand) (t : TypeId)
    (ho : o.op = .call { callee := .builtin .append, args := #[s, x], argTypes := #[t, t] })
    (base : Nat) (e : TypeId) (i : TypeInfo) (z : Value) (size bytes : Nat) (ht : P.underlying t = some (.slice e)) (hi : P.info? e = some i) (hz : i.zero = some z)
    (hsize : i.size = size) (hby : i.bytes = bytes) (hzs : z.cells.size = size) (hsz : 0 < size)
    (v : Value) (n : Nat) (xs : List Value) (hs : a.eval s = v) (hown : w.ownsRow base e size v n xs)
    (ad : Addr) (m c : Nat) (hm : 0 < m) (news : List Value) (hx : a.eval x = .slice (some ad) m c) (hl : news.length = m * size) (hnews : ∀ j u, news[j]? = some u → w.cell? (ad.add j) = some u) (h1 : ∀ u ∈ news, u.oneCell' = true)
    (h63 : n + m ≤ maxLen) (hbytes : (n + m) * bytes ≤ 140737488355328) (hbase : base ≤ w.heap.size)
    (h : ∀ v' w', w'.ownsRow base e size v' (n + m) (xs ++ news) → w.grownBy w' v.ownBlock → Grew w w' v v' n m → wpList P ops Q rest (a.put o.dst v') w') : wpList P ops Q (o :: rest) a w :=
  wpList_plain hgd fun _ hK => by
    obtain ⟨v', w', hr, h2, h3, h4⟩ := run_append_where (P := P) (w := w) base t o.type e i z size bytes ht hi hz hsize hby hzs hsz v n xs hown ad m c hm news hl hnews h1 h63 hbytes hbase
    unfold Oper.wp execOp
    simp only [ho, resolve, invoke, builtin, Sem.run_bind, Sem.run_pure, Result.andThen_ok, List.map_toArray, List.map_cons, List.map_nil, hs, hx, hr]
    exact hK _ _ (h v' w' h2 h3 h4)

theorem tcs_set (ts : List T) : ∀ (j : Nat), j < ts.length → ∀ (t : T), tcs (ts.set j t) = (tcs ts).take (j * 4) ++ tc t ++ (tcs ts).drop (j * 4 + 4) := by
  induction ts with
  | nil => intro j h; simp at h
  | cons u us ih =>
    intro j hj t
    have e : ∀ (x : T) l, tcs (x :: l) = tc x ++ tcs l := fun x l => by simp [tcs]
    cases j with
    | zero => simp [e, tc]
    | succ j =>
      have := ih j (by simpa using hj) t
      rw [List.set_cons_succ, e, this, e]
      have l4 : (tc u).length = 4 := by simp [tc]
      rw [List.take_append, List.drop_append, l4, List.take_of_length_le (l := tc u) (by rw [l4]; omega), List.drop_of_length_le (l := tc u) (by rw [l4]; omega)]
      rw [show (j + 1) * 4 - 4 = j * 4 by omega, show (j + 1) * 4 + 4 - 4 = j * 4 + 4 by omega]
      simp

theorem tcs_len (ts : List T) : (tcs ts).length = ts.length * 4 := by
  induction ts with
  | nil => simp [tcs]
  | cons u us ih => simp [tcs, tc] at ih ⊢; omega

theorem take_mid {α : Type} (l m : List α) (a n : Nat) (h : a + m.length ≤ n) (hn : n ≤ l.length) : (l.take a ++ m ++ l.drop (a + m.length)).take n = (l.take n).take a ++ m ++ (l.take n).drop (a + m.length) := by
  have e1 : (l.take a ++ m).length = a + m.length := by simp; omega
  rw [List.take_append (l₁ := l.take a ++ m), List.take_of_length_le (l := l.take a ++ m) (by omega), e1, List.take_take, Nat.min_eq_left (by omega), List.drop_take]

/-- A whole token is written over token j of a list. -/
theorem wpList_store_in {ops : Array Oper} {rest : List Oper} {o : Oper} {a : Act} {w : World} {Q : Exit → Act → World → Prop} (hgd : o.guard = none) (x y : Operand) (ho : o.op = .store 31 x y)
    (B : Nat) (v : Value) (ts : List T) (hown : Own w B v ts) (g : Nat) (hv : v.ownBlock = some g) (j : Nat) (hj : j < ts.length) (t : T)
    (hx : a.eval x = .pointer (some ⟨g, j * 4, none⟩)) (hy : a.eval y = .agg #[.int .i64 t.kind, .int .i64 t.pos, .int .i64 t.val, .string (bs t.name)])
    (h : ∀ w', Own w' B v (ts.set j t) → w.grownBy w' v.ownBlock → w'.heap.size = w.heap.size → wpList Tryd.prog ops Q rest (a.put o.dst undef) w') : wpList Tryd.prog ops Q (o :: rest) a w := by
  rcases hown.out.2 with ⟨rfl, hn⟩ | ⟨g', cap, cur, rfl, hbg, hg, hnc, hcm, hcs, htake⟩
  · simp [Value.ownBlock] at hv
  · simp [Value.ownBlock] at hv
    subst hv
    have hlen : j * 4 + 0 + (tc t).length ≤ cur.size := by simp [tc]; omega
    have hst := run_storeCells_at (P := Tryd.prog) g' (j * 4) 31 (tc t) 0 cur w hg hlen (by simp [tc, Value.oneCell'])
    refine wpList_plain hgd fun _ hK => ?_
    obtain ⟨i0, hi, hz⟩ := Option.map_eq_some_iff.1 info33
    unfold Oper.wp execOp
    have e4 : (tc t).length = 4 := by simp [tc]
    have hrun : (storeVar 31 ⟨g', j * 4, none⟩ (.agg #[.int .i64 t.kind, .int .i64 t.pos, .int .i64 t.val, .string (bs t.name)])).run Tryd.prog w = .ok () (w.setRow g' (cur.toList.take (j * 4) ++ tc t ++ cur.toList.drop (j * 4 + 4)).toArray) := by
      simp only [Nat.add_zero, e4] at hst
      rw [← hst]
      simp [storeVar, sizeOf, typeInfo, hi, Value.cells, hz, tc]
    simp only [ho, hx, hy, Instr.storeAt, Instr.sureAddr, Sem.run_bind, Sem.run_pure, Result.andThen_ok, hrun]
    refine hK _ _ (h _ ⟨?_, .inr ⟨g', cap, _, by simp, hbg, setRow_heap w g' cur _ _ _ hg, by simp; exact hnc, hcm, ?_, ?_⟩⟩ ⟨rfl, rfl, rfl, by simp, fun k _ hk => setRow_other w g' k _ (fun e => hk (by simp [Value.ownBlock, e]))⟩ (by simp))
    · rw [tcs_len]
    · simp only [List.size_toArray, List.length_append, List.length_take, List.length_drop, Array.length_toList, e4]
      omega
    · have hm := take_mid cur.toList (tc t) (j * 4) (ts.length * 4) (by rw [e4]; omega) (by simp; omega)
      rw [tcs_set ts j hj t, List.length_set, ← htake]
      rw [e4] at hm
      exact hm
end Go.Proofs.YteiambniddddpaaDoor
