import Derived.Test.YtdoiblknbpbhaaaMvL
set_option linter.unusedVariables false
set_option linter.unusedSimpArgs false
namespace Go.Proofs.Ytdoiblknbpbhaaa
open Go.ChangeShapes Go.WideShapes Go.ChangeAt Go.RowKit Go.Maps

theorem mcs_take (L : List Mv) (k : Nat) : mcs (L.take k) = (mcs L).take (k * 4) := by
  induction k generalizing L with
  | zero => simp [mcs]
  | succ k ih =>
    cases L with
    | nil => simp [mcs]
    | cons m L =>
      have e : mcs (m :: L) = .int .i64 m.1.1 :: .int .i64 m.1.2 :: .int .i64 m.2.1 :: .int .i64 m.2.2 :: mcs L := rfl
      have e2 : mcs (m :: L.take k) = .int .i64 m.1.1 :: .int .i64 m.1.2 :: .int .i64 m.2.1 :: .int .i64 m.2.2 :: mcs (L.take k) := rfl
      rw [List.take_succ_cons, e, e2, ih, show (k + 1) * 4 = k * 4 + 1 + 1 + 1 + 1 by omega]
      rfl
theorem OwnM.cut {w : World} {B : Nat} {ao : Option Addr} {n c : Nat} {L : List Mv} (h : OwnM w B (.slice ao n c) n L) {k : Nat} (hk : k ≤ n) : OwnM w B (.slice ao k c) k (L.take k) := by
  have hn := h.len
  refine ⟨by simp; omega, fun m hm => h.fit m (List.mem_of_mem_take hm), ?_⟩
  rcases h.out.2 with ⟨e, h0⟩ | ⟨g', cap, cur, e, e2, e3, e4, e5, e6, e7⟩
  · cases e
    have : k = 0 := by omega
    subst this
    simpa [mcs] using World.ownsRow_nil w B 36 4
  · cases e
    refine ⟨by rw [mcs_len]; simp; omega, .inr ⟨g', c, cur, rfl, e2, e3, by omega, e5, e6, ?_⟩⟩
    rw [mcs_take, ← e7, List.take_take, Nat.min_eq_left (by omega)]
theorem GI.self (B : Nat) (w : World) (v : Value) : GI B w w v v := ⟨Below.refl _ _, fun g _ _ => rfl, fun g hg => .inl hg⟩
theorem run_append_zero {P : Program} {w : World} (base : Nat) (t ty e : TypeId) (i : TypeInfo) (size : Nat) (ht : P.underlying t = some (.slice e)) (hi : P.info? e = some i) (v : Value) (n : Nat) (xs : List Value) (hown : w.ownsRow base e size v n xs) (xo : Option Addr) (c : Nat) :
    (Builtin.append_ #[t, t] ty #[v, .slice xo 0 c]).run P w = .ok v w := by
  rcases hown.2 with ⟨rfl, rfl⟩ | ⟨g, cap, cur, rfl, _, _, hnc, _⟩
  · cases xo <;> simp [Builtin.append_, run_underlying ht, sizeOf, typeInfo, hi, Builtin.lenOf, Builtin.firstCells, loadCells, loadCellsFrom]
  · cases xo <;> simp [Builtin.append_, run_underlying ht, sizeOf, typeInfo, hi, Builtin.lenOf, Builtin.firstCells, hnc, storeCells, loadCells, loadCellsFrom]
theorem mcs_one_cell (L : List Mv) : ∀ u ∈ mcs L, u.oneCell' = true := by
  intro u hu
  unfold mcs at hu
  obtain ⟨m, _, hm⟩ := List.mem_flatMap.1 hu
  simp at hm
  rcases hm with rfl | rfl | rfl | rfl <;> rfl
theorem AtM.cells {w : World} {g o : Nat} {M : List Mv} (h : AtM w g o M) : ∀ j u, (mcs M)[j]? = some u → w.cell? ((⟨g, o, none⟩ : Addr).add j) = some u := by
  intro j u hj
  rw [add_none]
  have hjl : j < M.length * 4 := by
    have := (List.getElem?_eq_some_iff.1 hj).1
    rwa [mcs_len] at this
  have hq : j / 4 < M.length := by omega
  obtain ⟨a0, a1, a2, a3⟩ := mcs_at M (j / 4) hq
  obtain ⟨b0, b1, b2, b3⟩ := h.cell (j / 4) hq
  have hr : j % 4 = 0 ∨ j % 4 = 1 ∨ j % 4 = 2 ∨ j % 4 = 3 := by omega
  rcases hr with e | e | e | e
  · have ej : j = j / 4 * 4 := by omega
    rw [ej] at hj; rw [a0] at hj; rw [ej, ← hj]; exact b0
  · have ej : j = j / 4 * 4 + 1 := by omega
    rw [ej] at hj; rw [a1] at hj; rw [ej, ← hj]; exact b1
  · have ej : j = j / 4 * 4 + 2 := by omega
    rw [ej] at hj; rw [a2] at hj; rw [ej, ← hj]; exact b2
  · have ej : j = j / 4 * 4 + 3 := by omega
    rw [ej] at hj; rw [a3] at hj; rw [ej, ← hj]; exact b3
/-- append(l, x...) in a statement that draws its order. -/
theorem step_append_mvs {w : World} {ops : Array Oper} {op : Oper} {a : Act} {K : Act → World → Prop} {Q : Exit → Act → World → Prop} {E : Prop} (hgd : op.guard = none) (s x : Operand)
    (ho : op.op = .call { callee := .builtin .append, args := #[s, x], argTypes := #[22, 22] })
    (B : Nat) (v : Value) (n : Nat) (L : List Mv) (hs : a.eval s = v) (hown : OwnM w B v n L) (xo : Option Addr) (m c : Nat) (M : List Mv) (hx : a.eval x = .slice xo m c) (hm : m = M.length) (hM : Mvs w xo c M)
    (hl : n + m ≤ 100000000) (hB : B ≤ w.heap.size)
    (h : ∀ v' w', OwnM w' B v' (n + m) (L ++ M) → GI B w w' v v' → K (a.put op.dst v') w') : if Region.wanted op (yielded ops a.tmps) = true then Oper.wp Try.prog op a w K Q else E := by
  have hw : Region.wanted op (yielded ops a.tmps) = true := by simp [Region.wanted, hgd]
  rw [if_pos hw]
  obtain ⟨i0, hi, hz0, hz1, hz2⟩ := info_parts info_mv
  by_cases h0 : m = 0
  · have hM0 : M = [] := List.length_eq_zero_iff.1 (by omega)
    subst hM0
    subst h0
    have hr := run_append_zero (P := Try.prog) (w := w) B 22 op.type 36 i0 4 Try.underlying22 hi v n (mcs L) hown.out xo c
    unfold Oper.wp execOp
    simp only [ho, resolve, invoke, builtin, Sem.run_bind, Sem.run_pure, Result.andThen_ok, List.map_toArray, List.map_cons, List.map_nil, hs, hx, hr]
    exact h v w (by simpa using hown) (GI.self _ _ _)
  · obtain ⟨g, o, rfl, hA⟩ := hM.out (by intro e; rw [e] at hm; simp at hm; omega)
    obtain ⟨v', w', hr, h2, h3, h4⟩ := run_append_where (P := Try.prog) (w := w) B 22 op.type 36 i0 _ 4 32 Try.underlying22 hi hz0 hz1 hz2 rfl (by decide) v n (mcs L) hown.out ⟨g, o, none⟩ m c (by omega) (mcs M) (by rw [mcs_len, hm]) hA.cells (mcs_one_cell M) (by unfold maxLen; omega) (by omega) hB
    unfold Oper.wp execOp
    simp only [ho, resolve, invoke, builtin, Sem.run_bind, Sem.run_pure, Result.andThen_ok, List.map_toArray, List.map_cons, List.map_nil, hs, hx, hr]
    refine h v' w' ⟨by simp; have := hown.len; omega, fun y hy => by
      rcases List.mem_append.1 hy with hy | hy
      · exact hown.fit y hy
      · exact hM.fit y hy, by rw [mcs_app]; exact h2⟩ ⟨?_, fun b h5 h6 => grown_at h3 h5 h6, fun b hb => ?_⟩
    · exact (Below.refl _ _).grown h3 hB (fun k hk => (own_block hown.out hk).1)
    · rcases h4.out with ⟨g', cap, e1, e2⟩ | ⟨e1, _⟩
      · subst e1 e2; exact .inl hb
      · rw [e1] at hb; cases hb; right; exact Nat.le_refl _
theorem OwnM.setFrom {w : World} {B g c n : Nat} {m : Mv} {r : List Mv} (h : OwnM w B (.slice (some ⟨g, 0, none⟩) n c) n (m :: r)) {t : Lc} (ht : FitL t) :
    OwnM ((w.setCell ⟨g, 2, none⟩ (.int .i64 t.1)).setCell ⟨g, 3, none⟩ (.int .i64 t.2)) B (.slice (some ⟨g, 0, none⟩) n c) n ((m.1, t) :: r) := by
  have hn := h.len
  simp only [List.length_cons] at hn
  have h1 := own_set h.out 2 (by omega) (.int .i64 t.1)
  have h2 := own_set h1 3 (by omega) (.int .i64 t.2)
  exact ⟨hn, fun y hy => by
    rcases List.mem_cons.1 hy with rfl | hy
    · exact ⟨(h.fit m (by simp)).t, ht⟩
    · exact h.fit y (by simp [hy]), h2⟩
theorem Mvs.drop {w ao cap} {L : List Mv} (h : Mvs w ao cap L) (k : Nat) (hk : k ≤ L.length) : ∃ xo, (if cap = k then ao else ao.map (·.add (k * 4))) = xo ∧ Mvs w xo (cap - k) (L.drop k) := by
  refine ⟨_, rfl, by have := h.le; simp; omega, by have := h.mx; omega, fun m hm => h.fit m (List.mem_of_mem_drop hm), fun hn => ?_⟩
  have hlt : k < L.length := by
    rcases Nat.lt_or_ge k L.length with h | h
    · exact h
    · exact absurd (List.drop_eq_nil_of_le h) hn
  obtain ⟨b, o, rfl, hA⟩ := h.out (by rintro rfl; simp at hlt)
  have hne : ¬ cap = k := by have := h.le; omega
  rw [if_neg hne]
  refine ⟨b, o + k * 4, by simp [add_none], hA.lt, fun i hi => ?_⟩
  have hi' : k + i < L.length := by simp at hi; omega
  have := hA.cell (k + i) hi'
  rw [show o + k * 4 + i * 4 = o + (k + i) * 4 by omega, List.getElem_drop]
  exact this
end Go.Proofs.Ytdoiblknbpbhaaa
