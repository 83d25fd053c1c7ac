import Derived.Test.YthjjdfiaikibaabDpI
import Derived.Deep.RegionLawGrows
set_option linter.unusedVariables false
set_option linter.unusedSimpArgs false
namespace Go.Proofs.Ythjjdfiaikibaab
open Go.ChangeShapes Go.WideShapes Go.ChangeAt Go.RowKit Go.Maps

/-- A list of slices, in a row of its own. -/
structure OwnU (w : World) (B : Nat) (v : Value) (vs : List Value) : Prop where
  out : w.ownsRow B 36 1 v vs.length vs
theorem OwnU.nil (w : World) (B : Nat) : OwnU w B (.slice none 0 0) [] := ⟨World.ownsRow_nil _ _ _ _⟩
theorem OwnU.move {w w' : World} {B v vs} (h : OwnU w B v vs) (hk : ∀ g, v.ownBlock = some g → w'.heap[g]? = w.heap[g]?) : OwnU w' B v vs := ⟨own_move h.out hk⟩
/-- append(l, x[:n]). -/
theorem wpList_append_slB {w0 : World} {ops : Array Oper} {rest : List Oper} {op : Oper} {a : Act} {Q : Exit → Act → World → Prop} (hgd : op.guard = none) (s x : Operand)
    (ho : op.op = .call { callee := .builtin .append, args := #[s, x], argTypes := #[28, 28] })
    (B : Nat) (v : Value) (vs : List Value) (ao : Option Addr) (m c : Nat) (hs : a.eval s = v) (hown : OwnU w0 B v vs) (hx : a.eval x = .slice (some ⟨w0.heap.size, 0, none⟩) 1 1)
    (hl : vs.length + 1 ≤ 1759218604441) (hB : B ≤ w0.heap.size)
    (h : ∀ v' w', OwnU w' B v' (vs ++ [.slice ao m c]) → GI B w0 w' v v' → wpList Try.prog ops Q rest (a.put op.dst v') w') : wpList Try.prog ops Q (op :: rest) a (w0.alloc (.cells #[.slice ao m c] 36)) := by
  obtain ⟨i0, hi, hz0, hz1, hz2⟩ := info_parts infoSb
  refine wpList_append_where hgd s x 28 ho B 36 i0 (.slice none 0 0) 1 24 Try.underlying28 hi hz0 hz1 hz2 rfl (by decide) v vs.length vs hs (hown.out.alloc _) ⟨w0.heap.size, 0, none⟩ 1 1 (by omega) [.slice ao m c] hx rfl (cell_one_newI _ _ _) (fun u hu => by simp at hu; subst hu; rfl) (by unfold maxLen; omega) (by omega) (by simp; omega) ?_
  intro v' w' h1 h2 h3
  refine h v' w' ⟨?_⟩ (gi_of hown.out hB h2 h3)
  simpa using h1
theorem bools_one (M : List Bool) : ∀ u ∈ M.map Value.bool, u.oneCell' = true := by
  intro u hu
  simp at hu
  rcases hu with ⟨_, rfl⟩ | ⟨_, rfl⟩ <;> rfl
theorem run_copyB {w : World} (B : Nat) (ty : TypeId) (xo : Option Addr) (m c : Nat) (M : List Bool) (hm : m = M.length) (hI : Bls w xo c M) (hnz : xo = none → c = 0) (hl : m ≤ 17592186044416) (hB : B ≤ w.heap.size) :
    ∃ v' w', (Builtin.append_ #[36, 36] ty #[.slice none 0 0, .slice xo m c]).run Try.prog w = .ok v' w' ∧ OwnBl w' B v' m M ∧ Below w.heap.size w w' := by
  obtain ⟨i0, hi, hz0, hz1, hz2⟩ := info_parts infoBool
  cases xo with
  | none =>
    have hM : M = [] := by
      cases M with
      | nil => rfl
      | cons y l => obtain ⟨b, o, e, _⟩ := hI.out (by simp); cases e
    subst hM
    simp at hm
    subst hm
    rw [hnz rfl]
    exact ⟨_, _, run_append_owned_none (P := Try.prog) (w := w) B 36 ty 4 i0 1 Try.underlying36 hi (.slice none 0 0) 0 [] (World.ownsRow_nil _ _ _ _), OwnBl.nil _ _, Below.refl _ _⟩
  | some ad =>
    have hc : ∀ j u, (M.map Value.bool)[j]? = some u → w.cell? (ad.add j) = some u := by
      intro j u hj
      have hjl : j < M.length := by
        have := (List.getElem?_eq_some_iff.1 hj).1
        simpa using this
      obtain ⟨b, o, e, _, hA⟩ := hI.out (by intro e; rw [e] at hjl; simp at hjl)
      cases e
      have := hA j hjl
      rw [add_none, this]
      simp [hjl] at hj
      rw [hj]
    obtain ⟨v', w', hr, h2, h3, h4⟩ := run_append_own (P := Try.prog) w B 36 ty 4 i0 (.bool false) 1 1 Try.underlying36 hi hz0 hz1 hz2 rfl (by decide) (.slice none 0 0) 0 [] (World.ownsRow_nil _ _ _ _) ad m c (M.map Value.bool) (by simp [hm]) hc (bools_one M) (by unfold maxLen; omega) (by omega) hB
    exact ⟨v', w', hr, ⟨hm, by simpa using h2⟩, (Below.refl _ _).grown h3 (Nat.le_refl _) (fun k hk => by simp [Value.ownBlock] at hk)⟩
theorem step_copyB {w : World} {ops : Array Oper} {op : Oper} {a : Act} {K : Act → World → Prop} {Q : Exit → Act → World → Prop} {E : Prop} (hgd : op.guard = none) (s x : Operand)
    (ho : op.op = .call { callee := .builtin .append, args := #[s, x], argTypes := #[36, 36] })
    (B : Nat) (hs : a.eval s = .slice none 0 0) (xo : Option Addr) (m c : Nat) (M : List Bool) (hm : m = M.length) (hI : Bls w xo c M) (hnz : xo = none → c = 0) (hx : a.eval x = .slice xo m c) (hl : m ≤ 17592186044416) (hB : B ≤ w.heap.size)
    (h : ∀ v' w', OwnBl w' B v' m M → (∀ g, v'.ownBlock = some g → w.heap.size ≤ g) → Below w.heap.size w w' → K (a.put op.dst v') w') : if Region.wanted op (yielded ops a.tmps) = true then Oper.wp Try.prog op a w K Q else E := by
  have hw : Region.wanted op (yielded ops a.tmps) = true := by simp [Region.wanted, hgd]
  rw [if_pos hw]
  obtain ⟨v', w', hr, h2, h3⟩ := run_copyB (w := w) w.heap.size op.type xo m c M hm hI hnz hl (Nat.le_refl _)
  unfold Oper.wp execOp
  simp only [ho, resolve, invoke, builtin, Sem.run_bind, Sem.run_pure, Result.andThen_ok, List.map_toArray, List.map_cons, List.map_nil, hs, hx, hr]
  exact h v' w' ⟨h2.len, own_lower h2.out hB⟩ (fun g hg => (own_block h2.out hg).1) h3
theorem step_append_slB {w : World} {ops : Array Oper} {op : Oper} {a : Act} {K : Act → World → Prop} {Q : Exit → Act → World → Prop} {E : Prop} (hgd : op.guard = none) (s x : Operand)
    (ho : op.op = .call { callee := .builtin .append, args := #[s, x], argTypes := #[28, 28] })
    (B : Nat) (v : Value) (vs : List Value) (ao : Option Addr) (m c : Nat) (hs : a.eval s = v) (hown : OwnU w B v vs) (g : Nat) (hx : a.eval x = .slice (some ⟨g, 0, none⟩) 1 1) (hc : w.cell? ⟨g, 0, none⟩ = some (.slice ao m c))
    (hl : vs.length + 1 ≤ 1759218604441) (hB : B ≤ w.heap.size)
    (h : ∀ v' w', OwnU w' B v' (vs ++ [.slice ao m c]) → GI B w w' v v' → K (a.put op.dst v') w') : if Region.wanted op (yielded ops a.tmps) = true then Oper.wp Try.prog op a w K Q else E := by
  have hw : Region.wanted op (yielded ops a.tmps) = true := by simp [Region.wanted, hgd]
  rw [if_pos hw]
  obtain ⟨i0, hi, hz0, hz1, hz2⟩ := info_parts infoSb
  obtain ⟨v', w', hr, h2, h3, h4⟩ := run_append_where (P := Try.prog) (w := w) B 28 op.type 36 i0 (.slice none 0 0) 1 24 Try.underlying28 hi hz0 hz1 hz2 rfl (by decide) v vs.length vs hown.out ⟨g, 0, none⟩ 1 1 (by omega) [.slice ao m c] rfl (fun j u hj => by
    match j, hj with
    | 0, hj => simp at hj; subst hj; simpa [Addr.add] using hc
    | j + 1, hj => simp at hj) (fun u hu => by simp at hu; subst hu; rfl) (by unfold maxLen; omega) (by omega) hB
  unfold Oper.wp execOp
  simp only [ho, resolve, invoke, builtin, Sem.run_bind, Sem.run_pure, Result.andThen_ok, List.map_toArray, List.map_cons, List.map_nil, hs, hx, hr]
  refine h v' w' ⟨by simpa using h2⟩ ⟨?_, fun b h5 h6 => grown_at h3 h5 h6, fun b hb => ?_⟩
  · exact (Below.refl _ _).grown h3 hB (fun k hk => (own_block hown.out hk).1)
  · rcases h4.out with ⟨g', cap, e1, e2⟩ | ⟨e1, _⟩
    · subst e1 e2; exact .inl hb
    · rw [e1] at hb; cases hb; right; exact Nat.le_refl _
/-- What the late keep may write. -/
def WFb (kb : Nat) (lv wv : Value) (vs us : List Value) (k : Nat) : Prop := k = kb ∨ lv.ownBlock = some k ∨ wv.ownBlock = some k ∨ (∃ x ∈ vs, x.ownBlock = some k) ∨ ∃ x ∈ us, x.ownBlock = some k
/-- Lists that wait: each in a row of its own. -/
structure PB (w : World) (B : Nat) (vs : List Value) (Ts : List (List Bool)) : Prop where
  len : vs.length = Ts.length
  own : ∀ i, i < vs.length → OwnBl w B (vs.getD i vn0) (Ts.getD i []).length (Ts.getD i [])
  ne : ∀ i j, i < vs.length → j < vs.length → i ≠ j → ∀ g, (vs.getD i vn0).ownBlock = some g → (vs.getD j vn0).ownBlock ≠ some g
theorem PB.move {w w' : World} {B vs Ts} (h : PB w B vs Ts) (hk : ∀ i, i < vs.length → ∀ g, (vs.getD i vn0).ownBlock = some g → w'.heap[g]? = w.heap[g]?) : PB w' B vs Ts :=
  ⟨h.len, fun i hi => ⟨(h.own i hi).len, own_move (h.own i hi).out (hk i hi)⟩, h.ne⟩
theorem PB.nil (w : World) (B : Nat) : PB w B [] [] := ⟨rfl, fun i hi => by simp at hi, fun i j hi => by simp at hi⟩
/-- The late keep, in memory. -/
structure KV (w : World) (B kb : Nat) (lv wv : Value) (vs us : List Value) (Ts : List (List Bool)) : Prop where
  box : w.heap[kb]? = some (.cells #[.bool false, .slice none 0 0, .slice none 0 0, .slice none 0 0, lv, wv] 30 (0, 0))
  lo : B ≤ kb
  l : OwnU w B lv vs
  wl : OwnU w B wv us
  p : PB w B vs Ts
  lu : us.length = Ts.length
  u : ∀ i, i < us.length → OwnBl w B (us.getD i vn0) (Ts.getD i []).length (Ts.getD i [])
  lw : ∀ g, lv.ownBlock = some g → wv.ownBlock ≠ some g
theorem KV.keep {w w' : World} {B kb lv wv vs us Ts} (h : KV w B kb lv wv vs us Ts) (hb : Below w.heap.size w w') : KV w' B kb lv wv vs us Ts :=
  ⟨(hb.block kb (Array.getElem?_eq_some_iff.1 h.box).1).trans h.box, h.lo, h.l.move fun g hg => hb.block g (own_block h.l.out hg).2, h.wl.move fun g hg => hb.block g (own_block h.wl.out hg).2, h.p.move fun i hi g hg => hb.block g (own_block (h.p.own i hi).out hg).2, h.lu, fun i hi => (h.u i hi).keep hb, h.lw⟩
/-- One more list, and a copy of it. -/
theorem KV.add {w w6 w5 w8 w9 : World} {B kb lv wv vs us Ts v n T lv6 u wv8} {ob : Obj} (h : KV w B kb lv wv vs us Ts) (ho : OwnBl w B v n T) (hv : ∀ g, v.ownBlock = some g → ¬ WFb kb lv wv vs us g)
    (h6 : OwnU w6 B lv6 (vs ++ [v])) (g6 : GI B w w6 lv lv6) (hw : Below (w6.setCell ⟨kb, 4, none⟩ lv6).heap.size (w6.setCell ⟨kb, 4, none⟩ lv6) w5) (h5 : OwnBl w5 B u n T) (hu : ∀ g, u.ownBlock = some g → w6.heap.size ≤ g)
    (h8 : OwnU w8 B wv8 (us ++ [u])) (g8 : GI B (w5.alloc ob) w8 wv wv8) (hw9 : w9 = w8.setCell ⟨kb, 5, none⟩ wv8) :
    KV w9 B kb lv6 wv8 (vs ++ [v]) (us ++ [u]) (Ts ++ [T]) ∧ Only (fun k => WFb kb lv wv vs us k ∨ v.ownBlock = some k) w w9 ∧ ∀ k, k < w.heap.size → WFb kb lv6 wv8 (vs ++ [v]) (us ++ [u]) k → WFb kb lv wv vs us k ∨ v.ownBlock = some k := by
  have hkb : kb < w.heap.size := (Array.getElem?_eq_some_iff.1 h.box).1
  have nl : lv.ownBlock ≠ some kb := own_not h.l.out h.box (by decide)
  have nw : wv.ownBlock ≠ some kb := own_not h.wl.out h.box (by decide)
  have s6 : (w6.setCell ⟨kb, 4, none⟩ lv6).heap.size = w6.heap.size := by simp [World.setCell]
  have z6 := g6.size
  have z5 := hw.size
  rw [s6] at z5 hw
  have z8 := g8.size
  simp at z8
  have nl6 : ∀ g, lv6.ownBlock = some g → g ≠ kb ∧ wv.ownBlock ≠ some g := fun g hg => by
    rcases g6.own g hg with q | q
    · exact ⟨fun e => nl (e ▸ q), h.lw g q⟩
    · exact ⟨by omega, fun e => by have := (own_block h.wl.out e).2; omega⟩
  have nw8 : ∀ g, wv8.ownBlock = some g → g ≠ kb := fun g hg e => by
    rcases g8.own g hg with q | q
    · exact nw (e ▸ q)
    · simp at q; omega
  -- a block of w that is not of the three rows stays
  have st : ∀ g, g < w.heap.size → lv.ownBlock ≠ some g → wv.ownBlock ≠ some g → g ≠ kb → w9.heap[g]? = w.heap[g]? := fun g hl q1 q2 q3 => by
    rw [hw9, heap_set_other q3, g8.blk g (by simp; omega) q2, heap_alloc_old _ _ (by omega), hw.block g (by omega), heap_set_other q3, g6.blk g hl q1]
  have box5 : w5.heap[kb]? = some (.cells #[.bool false, .slice none 0 0, .slice none 0 0, .slice none 0 0, lv6, wv] 30 (0, 0)) := by
    rw [hw.block kb (by omega)]
    have := heap_set_at (i := 4) (v := lv6) ((g6.blk kb hkb nl).trans h.box)
    rw [this]; rfl
  have vne : ∀ i, i < vs.length → ∀ g, (vs.getD i vn0).ownBlock = some g → g < w.heap.size ∧ lv.ownBlock ≠ some g ∧ wv.ownBlock ≠ some g ∧ g ≠ kb := fun i hi g hg => by
    rcases (h.p.own i hi).out.2 with ⟨p, _⟩ | ⟨g2, cap, cur, p, _, p3, _⟩
    · rw [p] at hg; cases hg
    · rw [p] at hg; cases hg
      refine ⟨(Array.getElem?_eq_some_iff.1 p3).1, own_not h.l.out p3 (by decide), own_not h.wl.out p3 (by decide), ?_⟩
      rintro rfl
      rw [h.box] at p3
      simp only [Option.some.injEq, Obj.cells.injEq] at p3
      exact absurd p3.2.1 (by decide)
  have une : ∀ i, i < us.length → ∀ g, (us.getD i vn0).ownBlock = some g → g < w.heap.size ∧ lv.ownBlock ≠ some g ∧ wv.ownBlock ≠ some g ∧ g ≠ kb := fun i hi g hg => by
    rcases (h.u i hi).out.2 with ⟨p, _⟩ | ⟨g2, cap, cur, p, _, p3, _⟩
    · rw [p] at hg; cases hg
    · rw [p] at hg; cases hg
      refine ⟨(Array.getElem?_eq_some_iff.1 p3).1, own_not h.l.out p3 (by decide), own_not h.wl.out p3 (by decide), ?_⟩
      rintro rfl
      rw [h.box] at p3
      simp only [Option.some.injEq, Obj.cells.injEq] at p3
      exact absurd p3.2.1 (by decide)
  have lenv : vs.length = Ts.length := h.p.len
  have lenu : us.length = Ts.length := h.lu
  have ownv : OwnBl w9 B v n T := ⟨ho.len, own_move ho.out fun g hg => st g (own_block ho.out hg).2 (fun q => hv g hg (.inr (.inl q))) (fun q => hv g hg (.inr (.inr (.inl q)))) (fun q => hv g hg (.inl q))⟩
  have ownu : OwnBl w9 B u n T := ⟨h5.len, own_move h5.out fun g hg => by
    have h1 := hu g hg
    rw [hw9, heap_set_other (by omega), g8.blk g (by simp; have := (own_block h5.out hg).2; omega) (fun q => by have := (own_block h.wl.out q).2; omega), heap_alloc_old _ _ (own_block h5.out hg).2]⟩
  refine ⟨⟨?_, h.lo, h6.move fun g hg => ?_, h8.move fun g hg => by rw [hw9]; exact heap_set_other (nw8 g hg), ⟨by simp [lenv], fun i hi => ?_, fun i j hi hj hij g hg => ?_⟩, by simp [lenu], fun i hi => ?_, fun g hg q => ?_⟩, ?_, fun k hk hf => ?_⟩
  · have h1 : w8.heap[kb]? = w5.heap[kb]? := by rw [g8.blk kb (by simp; omega) nw, heap_alloc_old _ _ (by omega)]
    have := heap_set_at (i := 5) (v := wv8) (h1.trans box5)
    rw [hw9, this]; rfl
  · have hl := (own_block h6.out hg).2
    rw [hw9, heap_set_other (nl6 g hg).1, g8.blk g (by simp; omega) (nl6 g hg).2, heap_alloc_old _ _ (by omega), hw.block g (by omega), heap_set_other (nl6 g hg).1]
  · by_cases hl : i < vs.length
    · have h1 := h.p.own i hl
      rw [getD_app hl, getD_app (by omega)]
      exact ⟨h1.len, own_move h1.out fun g hg => by obtain ⟨a1, a2, a3, a4⟩ := vne i hl g hg; exact st g a1 a2 a3 a4⟩
    · have : i = vs.length := by simp at hi; omega
      subst this
      rw [getD_new]
      have e : (Ts ++ [T]).getD vs.length [] = T := by rw [lenv]; exact getD_new
      rw [e, ← ho.len]; exact ownv
  · have big : ∀ i, i < vs.length → ∀ g, (vs.getD i vn0).ownBlock = some g → v.ownBlock ≠ some g := fun i hi g hg q => hv g q (.inr (.inr (.inr (.inl ⟨_, getD_mem' hi, hg⟩))))
    simp at hi hj
    by_cases hl : i < vs.length
    · rw [getD_app hl] at hg
      by_cases hl2 : j < vs.length
      · rw [getD_app hl2]; exact h.p.ne i j hl hl2 hij g hg
      · have : j = vs.length := by omega
        subst this
        rw [getD_new]; exact big i hl g hg
    · have : i = vs.length := by omega
      subst this
      rw [getD_new] at hg
      rw [getD_app (by omega)]
      exact fun q => big j (by omega) g q hg
  · by_cases hl : i < us.length
    · have h1 := h.u i hl
      rw [getD_app hl, getD_app (by omega)]
      exact ⟨h1.len, own_move h1.out fun g hg => by obtain ⟨a1, a2, a3, a4⟩ := une i hl g hg; exact st g a1 a2 a3 a4⟩
    · have : i = us.length := by simp at hi; omega
      subst this
      rw [getD_new]
      have e : (Ts ++ [T]).getD us.length [] = T := by rw [lenu]; exact getD_new
      rw [e, ← ho.len]; exact ownu
  · rcases g8.own g q with q | q
    · exact (nl6 g hg).2 q
    · have := (own_block h6.out hg).2; simp at q; omega
  · refine ⟨?_, ?_, ?_, by rw [hw9]; simp [World.setCell]; omega, fun k hk hn => st k hk (fun q => hn (.inl (.inr (.inl q)))) (fun q => hn (.inl (.inr (.inr (.inl q))))) (fun q => hn (.inl (.inl q)))⟩
    · rw [hw9]; show w8.os = _; rw [g8.bel.os]; show w5.os = _; rw [hw.os]; exact g6.bel.os
    · rw [hw9]; show w8.tape = _; rw [g8.bel.tape]; show w5.tape = _; rw [hw.tape]; exact g6.bel.tape
    · rw [hw9]; show w8.output = _; rw [g8.bel.output]; show w5.output = _; rw [hw.output]; exact g6.bel.output
  · rcases hf with q | q | q | ⟨x, hx, q⟩ | ⟨x, hx, q⟩
    · exact .inl (.inl q)
    · rcases g6.own k q with q | q
      · exact .inl (.inr (.inl q))
      · omega
    · rcases g8.own k q with q | q
      · exact .inl (.inr (.inr (.inl q)))
      · simp at q; omega
    · simp at hx
      rcases hx with hx | rfl
      · exact .inl (.inr (.inr (.inr (.inl ⟨x, hx, q⟩))))
      · exact .inr q
    · simp at hx
      rcases hx with hx | rfl
      · exact .inl (.inr (.inr (.inr (.inr ⟨x, hx, q⟩))))
      · have := hu k q; omega
end Go.Proofs.Ythjjdfiaikibaab
