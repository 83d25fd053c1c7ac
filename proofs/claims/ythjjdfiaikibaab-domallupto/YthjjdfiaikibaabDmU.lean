import Derived.Test.YthjjdfiaikibaabDmT
import Derived.Laws.AppendOwnNone
import Derived.Deep.Cut
set_option linter.unusedVariables false
set_option linter.unusedSimpArgs false
namespace Go.Proofs.Ythjjdfiaikibaab
open Go.ChangeShapes Go.WideShapes Go.ChangeAt Go.RowKit Go.Maps

theorem add_none (b o j : Nat) : (⟨b, o, none⟩ : Addr).add j = ⟨b, o + j, none⟩ := by
  cases j with
  | zero => simp [Addr.add]
  | succ j => simp [Addr.add]
/-- append([]int(nil), x...). -/
theorem wpList_copyG {w : World} {ops : Array Oper} {rest : List Oper} {op : Oper} {a : Act} {Q : Exit → Act → World → Prop} (hgd : op.guard = none) (s x : Operand)
    (ho : op.op = .call { callee := .builtin .append, args := #[s, x], argTypes := #[27, 27] })
    (B : Nat) (hs : a.eval s = .slice none 0 0) (xo : Option Addr) (m c : Nat) (M : List Int) (hm : m = M.length) (hI : Ints w xo c M) (hnz : xo = none → c = 0) (hx : a.eval x = .slice xo m c) (hl : m ≤ 17592186044416) (hB : B ≤ w.heap.size)
    (h : ∀ v' w', OwnI w' B v' m M → Below w.heap.size w w' → wpList Try.prog ops Q rest (a.put op.dst v') w') : wpList Try.prog ops Q (op :: rest) a w := by
  obtain ⟨i0, hi, hz0, hz1, hz2⟩ := info_parts info3i
  cases xo with
  | none =>
    have hM : M = [] := by
      cases M with
      | nil => rfl
      | cons y l => obtain ⟨b, o, e, _⟩ := hI.out (by simp); cases e
    subst hM
    simp at hm
    subst hm
    rw [hnz rfl] at hx
    exact wpList_append_own_none hgd s x 27 ho B 3 i0 1 Try.underlying27 hi (.slice none 0 0) 0 [] hs (World.ownsRow_nil _ _ _ _) hx (h _ _ (OwnI.nil _ _) (Below.refl _ _))
  | some ad =>
    refine wpList_plain hgd fun K hK => ?_
    have hc : ∀ j u, (ivs M)[j]? = some u → w.cell? (ad.add j) = some u := by
      intro j u hj
      have hjl : j < M.length := by
        have := (List.getElem?_eq_some_iff.1 hj).1
        simpa [ivs] using this
      obtain ⟨b, o, e, hA⟩ := hI.out (by intro e; rw [e] at hjl; simp at hjl)
      cases e
      have := hA.cell j hjl
      rw [add_none, this]
      simp [ivs, hjl] at hj
      rw [hj]
    obtain ⟨v', w', hr, h2, h3, h4⟩ := run_append_own (P := Try.prog) w B 27 op.type 3 i0 (.int .i64 0) 1 8 Try.underlying27 hi hz0 hz1 hz2 rfl (by decide) (.slice none 0 0) 0 [] (World.ownsRow_nil _ _ _ _) ad m c (ivs M) (by simp [ivs, hm]) hc (ivs_one M) (by unfold maxLen; omega) (by omega) hB
    unfold Oper.wp execOp
    simp only [ho, resolve, invoke, builtin, Sem.run_bind, Sem.run_pure, Result.andThen_ok, List.map_toArray, List.map_cons, List.map_nil, hs, hx, hr]
    exact hK _ _ (h v' w' ⟨hm, by simpa using h2⟩ ((Below.refl _ _).grown h3 (Nat.le_refl _) (fun k hk => by simp [Value.ownBlock] at hk)))
theorem run_copyI {w : World} (B : Nat) (ty : TypeId) (xo : Option Addr) (m c : Nat) (M : List Int) (hm : m = M.length) (hI : Ints w xo c M) (hnz : xo = none → c = 0) (hl : m ≤ 17592186044416) (hB : B ≤ w.heap.size) :
    ∃ v' w', (Builtin.append_ #[27, 27] ty #[.slice none 0 0, .slice xo m c]).run Try.prog w = .ok v' w' ∧ OwnI w' B v' m M ∧ Below w.heap.size w w' := by
  obtain ⟨i0, hi, hz0, hz1, hz2⟩ := info_parts info3i
  cases xo with
  | none =>
    have hM : M = [] := by
      cases M with
      | nil => rfl
      | cons y l => obtain ⟨b, o, e, _⟩ := hI.out (by simp); cases e
    subst hM
    simp at hm
    subst hm
    rw [hnz rfl]
    exact ⟨_, _, run_append_owned_none (P := Try.prog) (w := w) B 27 ty 3 i0 1 Try.underlying27 hi (.slice none 0 0) 0 [] (World.ownsRow_nil _ _ _ _), OwnI.nil _ _, Below.refl _ _⟩
  | some ad =>
    have hc : ∀ j u, (ivs M)[j]? = some u → w.cell? (ad.add j) = some u := by
      intro j u hj
      have hjl : j < M.length := by
        have := (List.getElem?_eq_some_iff.1 hj).1
        simpa [ivs] using this
      obtain ⟨b, o, e, hA⟩ := hI.out (by intro e; rw [e] at hjl; simp at hjl)
      cases e
      have := hA.cell j hjl
      rw [add_none, this]
      simp [ivs, hjl] at hj
      rw [hj]
    obtain ⟨v', w', hr, h2, h3, h4⟩ := run_append_own (P := Try.prog) w B 27 ty 3 i0 (.int .i64 0) 1 8 Try.underlying27 hi hz0 hz1 hz2 rfl (by decide) (.slice none 0 0) 0 [] (World.ownsRow_nil _ _ _ _) ad m c (ivs M) (by simp [ivs, hm]) hc (ivs_one M) (by unfold maxLen; omega) (by omega) hB
    exact ⟨v', w', hr, ⟨hm, by simpa using h2⟩, (Below.refl _ _).grown h3 (Nat.le_refl _) (fun k hk => by simp [Value.ownBlock] at hk)⟩
theorem run_append2I {w0 : World} (B : Nat) (ty : TypeId) (v : Value) (n : Nat) (L : List Int) (y z : Int) (hown : OwnI w0 B v n L) (hl : n + 2 ≤ 17592186044416) (hB : B ≤ w0.heap.size) :
    ∃ v' w', (Builtin.append_ #[27, 27] ty #[v, .slice (some ⟨w0.heap.size, 0, none⟩) 2 2]).run Try.prog (w0.alloc (.cells #[.int .i64 y, .int .i64 z] 3)) = .ok v' w' ∧ OwnI w' B v' (n + 2) (L ++ [y, z]) ∧ GI B w0 w' v v' := by
  obtain ⟨i0, hi, hz0, hz1, hz2⟩ := info_parts info3i
  obtain ⟨v', w', hr, h1, h2, h3⟩ := run_append_where (P := Try.prog) (w := w0.alloc (.cells #[.int .i64 y, .int .i64 z] 3)) B 27 ty 3 i0 (.int .i64 0) 1 8 Try.underlying27 hi hz0 hz1 hz2 rfl (by decide) v n (ivs L) (hown.out.alloc _) ⟨w0.heap.size, 0, none⟩ 2 2 (by omega) [.int .i64 y, .int .i64 z] rfl (cell_two_newI _ _ _ _) (fun u hu => by simp at hu; rcases hu with rfl | rfl <;> rfl) (by unfold maxLen; omega) (by omega) (by simp; omega)
  exact ⟨v', w', hr, ⟨by simp; exact hown.len, by simpa [ivs] using h1⟩, gi_of hown.out hB h2 h3⟩
/-- append(l, y, z). -/
theorem wpList_append_two {w0 : World} {ops : Array Oper} {rest : List Oper} {op : Oper} {a : Act} {Q : Exit → Act → World → Prop} (hgd : op.guard = none) (s x : Operand)
    (ho : op.op = .call { callee := .builtin .append, args := #[s, x], argTypes := #[27, 27] })
    (B : Nat) (v : Value) (n : Nat) (L : List Int) (y z : Int) (hs : a.eval s = v) (hown : OwnI w0 B v n L) (hx : a.eval x = .slice (some ⟨w0.heap.size, 0, none⟩) 2 2)
    (hl : n + 2 ≤ 17592186044416) (hB : B ≤ w0.heap.size)
    (h : ∀ v' w', OwnI w' B v' (n + 2) (L ++ [y, z]) → GI B w0 w' v v' → wpList Try.prog ops Q rest (a.put op.dst v') w') : wpList Try.prog ops Q (op :: rest) a (w0.alloc (.cells #[.int .i64 y, .int .i64 z] 3)) := by
  obtain ⟨i0, hi, hz0, hz1, hz2⟩ := info_parts info3i
  refine wpList_append_where hgd s x 27 ho B 3 i0 (.int .i64 0) 1 8 Try.underlying27 hi hz0 hz1 hz2 rfl (by decide) v n (ivs L) hs (hown.out.alloc _) ⟨w0.heap.size, 0, none⟩ 2 2 (by omega) [.int .i64 y, .int .i64 z] hx rfl (cell_two_newI _ _ _ _) (fun u hu => by simp at hu; rcases hu with rfl | rfl <;> rfl) (by unfold maxLen; omega) (by omega) (by simp; omega) ?_
  intro v' w' h1 h2 h3
  exact h v' w' ⟨by simp; exact hown.len, by simpa [ivs] using h1⟩ (gi_of hown.out hB h2 h3)
/-- The same two where they stand behind a guard. -/
theorem wpList_copyW {w : World} {ops : Array Oper} {rest : List Oper} {op : Oper} {a : Act} {Q : Exit → Act → World → Prop} (hw : Region.wanted op (yielded ops a.tmps) = true) (s x : Operand)
    (ho : op.op = .call { callee := .builtin .append, args := #[s, x], argTypes := #[27, 27] })
    (B : Nat) (hs : a.eval s = .slice none 0 0) (xo : Option Addr) (m c : Nat) (M : List Int) (hm : m = M.length) (hI : Ints w xo c M) (hnz : xo = none → c = 0) (hx : a.eval x = .slice xo m c) (hl : m ≤ 17592186044416) (hB : B ≤ w.heap.size)
    (h : ∀ v' w', OwnI w' B v' m M → Below w.heap.size w w' → wpList Try.prog ops Q rest (a.put op.dst v') w') : wpList Try.prog ops Q (op :: rest) a w := by
  obtain ⟨v', w', hr, h1, h2⟩ := run_copyI B op.type xo m c M hm hI hnz hl hB
  refine wpList_step fun K hK => ?_
  rw [if_pos hw]
  unfold Oper.wp execOp
  simp only [ho, resolve, invoke, builtin, Sem.run_bind, Sem.run_pure, Result.andThen_ok, List.map_toArray, List.map_cons, List.map_nil, hs, hx, hr]
  exact hK _ _ (h v' w' h1 h2)
theorem wpList_append_twoW {w0 : World} {ops : Array Oper} {rest : List Oper} {op : Oper} {a : Act} {Q : Exit → Act → World → Prop} (hw : Region.wanted op (yielded ops a.tmps) = true) (s x : Operand)
    (ho : op.op = .call { callee := .builtin .append, args := #[s, x], argTypes := #[27, 27] })
    (B : Nat) (v : Value) (n : Nat) (L : List Int) (y z : Int) (hs : a.eval s = v) (hown : OwnI w0 B v n L) (hx : a.eval x = .slice (some ⟨w0.heap.size, 0, none⟩) 2 2)
    (hl : n + 2 ≤ 17592186044416) (hB : B ≤ w0.heap.size)
    (h : ∀ v' w', OwnI w' B v' (n + 2) (L ++ [y, z]) → GI B w0 w' v v' → wpList Try.prog ops Q rest (a.put op.dst v') w') : wpList Try.prog ops Q (op :: rest) a (w0.alloc (.cells #[.int .i64 y, .int .i64 z] 3)) := by
  obtain ⟨v', w', hr, h1, h2⟩ := run_append2I B op.type v n L y z hown hl hB
  refine wpList_step fun K hK => ?_
  rw [if_pos hw]
  unfold Oper.wp execOp
  simp only [ho, resolve, invoke, builtin, Sem.run_bind, Sem.run_pure, Result.andThen_ok, List.map_toArray, List.map_cons, List.map_nil, hs, hx, hr]
  exact hK _ _ (h v' w' h1 h2)
/-- The first numbers of a row. -/
theorem OwnI.prefix {w : World} {B g n m c : Nat} {L R : List Int} (h : OwnI w B (.slice (some ⟨g, 0, none⟩) m c) m (L ++ R)) (hn : n = L.length) (hc : c ≤ 9223372036854775807) (hmc : m ≤ c) : Ints w (some ⟨g, 0, none⟩) c L := by
  obtain ⟨ao, c', e, hI⟩ := h.ints
  cases e
  refine ⟨by have := h.len; simp at this; omega, hc, fun hne => ?_⟩
  obtain ⟨b, o, e, hA⟩ := hI.out (by simp [hne])
  cases e
  exact ⟨g, 0, rfl, hA.lt, fun i hi => by have := hA.cell i (by simp; omega); rw [this]; simp [List.getElem_append_left hi]⟩

end Go.Proofs.Ythjjdfiaikibaab
