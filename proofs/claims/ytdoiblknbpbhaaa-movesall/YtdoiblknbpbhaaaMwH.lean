import Derived.Test.YtdoiblknbpbhaaaMwG
set_option linter.unusedVariables false
set_option linter.unusedSimpArgs false
namespace Go.Proofs.Ytdoiblknbpbhaaa
open Go.ChangeShapes Go.WideShapes Go.ChangeAt Go.RowKit Go.Maps

theorem step_append_slG {w : World} {ops : Array Oper} {op : Oper} {a : Act} {K : Act → World → Prop} {Q : Exit → Act → World → Prop} {E : Prop} (hgd : op.guard = none) (s x : Operand)
    (ho : op.op = .call { callee := .builtin .append, args := #[s, x], argTypes := #[45, 45] })
    (B : Nat) (v : Value) (vs : List Value) (ao : Option Addr) (m c : Nat) (hs : a.eval s = v) (hown : OwnV w B v vs) (g : Nat) (hx : a.eval x = .slice (some ⟨g, 0, none⟩) 1 1) (hc : w.cell? ⟨g, 0, none⟩ = some (.slice ao m c))
    (hl : vs.length + 1 ≤ 1759218604441) (hB : B ≤ w.heap.size)
    (h : ∀ v' w', OwnV w' B v' (vs ++ [.slice ao m c]) → GI B w w' v v' → K (a.put op.dst v') w') : if Region.wanted op (yielded ops a.tmps) = true then Oper.wp Try.prog op a w K Q else E := by
  have hw : Region.wanted op (yielded ops a.tmps) = true := by simp [Region.wanted, hgd]
  rw [if_pos hw]
  obtain ⟨i0, hi, hz0, hz1, hz2⟩ := info_parts infoMvs
  obtain ⟨v', w', hr, h2, h3, h4⟩ := run_append_where (P := Try.prog) (w := w) B 45 op.type 22 i0 (.slice none 0 0) 1 24 Try.underlying45 hi hz0 hz1 hz2 rfl (by decide) v vs.length vs hown.out ⟨g, 0, none⟩ 1 1 (by omega) [.slice ao m c] rfl (fun j u hj => by
    match j, hj with
    | 0, hj => simp at hj; subst hj; simpa [Addr.add] using hc
    | j + 1, hj => simp at hj) (fun u hu => by simp at hu; subst hu; rfl) (by unfold maxLen; omega) (by omega) hB
  unfold Oper.wp execOp
  simp only [ho, resolve, invoke, builtin, Sem.run_bind, Sem.run_pure, Result.andThen_ok, List.map_toArray, List.map_cons, List.map_nil, hs, hx, hr]
  refine h v' w' ⟨by simpa using h2⟩ ⟨?_, fun b h5 h6 => grown_at h3 h5 h6, fun b hb => ?_⟩
  · exact (Below.refl _ _).grown h3 hB (fun k hk => (own_block hown.out hk).1)
  · rcases h4.out with ⟨g', cap, e1, e2⟩ | ⟨e1, _⟩
    · subst e1 e2; exact .inl hb
    · rw [e1] at hb; cases hb; right; exact Nat.le_refl _
/-- What the late keep may write. -/
def WFp (kb : Nat) (lv wv : Value) (vs us : List Value) (k : Nat) : Prop := k = kb ∨ lv.ownBlock = some k ∨ wv.ownBlock = some k ∨ (∃ x ∈ vs, x.ownBlock = some k) ∨ ∃ x ∈ us, x.ownBlock = some k
theorem own_nz {w : World} {B e s n xs} {a : Option Addr} {c : Nat} (h : w.ownsRow B e s (.slice a n c) n xs) : a = none → c = 0 := by
  rintro rfl
  rcases h.2 with ⟨q, _⟩ | ⟨g, cap, cur, q, _⟩
  · cases q; rfl
  · cases q
theorem getD_mem' {vs : List Value} {i : Nat} (hi : i < vs.length) : vs.getD i vn0 ∈ vs := by
  have e : vs.getD i vn0 = vs[i] := by simp [hi]
  rw [e]; exact List.getElem_mem hi
/-- One more list, and a copy of it. -/
theorem KW.add {w w6 w5 w8 w9 : World} {B kb lv wv vs us Ts v n T lv6 u wv8} {ob : Obj} (h : KW w B kb lv wv vs us Ts) (ho : OwnM w B v n T) (hv : ∀ g, v.ownBlock = some g → ¬ WFp kb lv wv vs us g)
    (h6 : OwnV w6 B lv6 (vs ++ [v])) (g6 : GI B w w6 lv lv6) (hw : Below (w6.setCell ⟨kb, 1, none⟩ lv6).heap.size (w6.setCell ⟨kb, 1, none⟩ lv6) w5) (h5 : OwnM w5 B u n T) (hu : ∀ g, u.ownBlock = some g → w6.heap.size ≤ g)
    (h8 : OwnV w8 B wv8 (us ++ [u])) (g8 : GI B (w5.alloc ob) w8 wv wv8) (hw9 : w9 = w8.setCell ⟨kb, 2, none⟩ wv8) :
    KW w9 B kb lv6 wv8 (vs ++ [v]) (us ++ [u]) (Ts ++ [T]) ∧ Only (fun k => WFp kb lv wv vs us k ∨ v.ownBlock = some k) w w9 ∧ ∀ k, k < w.heap.size → WFp kb lv6 wv8 (vs ++ [v]) (us ++ [u]) k → WFp kb lv wv vs us k ∨ v.ownBlock = some k := by
  have hkb : kb < w.heap.size := (Array.getElem?_eq_some_iff.1 h.box).1
  have nl : lv.ownBlock ≠ some kb := own_not h.l.out h.box (by decide)
  have nw : wv.ownBlock ≠ some kb := own_not h.wl.out h.box (by decide)
  have s6 : (w6.setCell ⟨kb, 1, none⟩ lv6).heap.size = w6.heap.size := by simp [World.setCell]
  have z6 := g6.size
  have z5 := hw.size
  rw [s6] at z5 hw
  have z8 := g8.size
  simp at z8
  have nl6 : ∀ g, lv6.ownBlock = some g → g ≠ kb ∧ wv.ownBlock ≠ some g := fun g hg => by
    rcases g6.own g hg with q | q
    · exact ⟨fun e => nl (e ▸ q), h.lw g q⟩
    · exact ⟨by omega, fun e => by have := (own_block h.wl.out e).2; omega⟩
  have nw8 : ∀ g, wv8.ownBlock = some g → g ≠ kb := fun g hg e => by
    rcases g8.own g hg with q | q
    · exact nw (e ▸ q)
    · simp at q; omega
  -- a block of w that is not of the three rows stays
  have st : ∀ g, g < w.heap.size → lv.ownBlock ≠ some g → wv.ownBlock ≠ some g → g ≠ kb → w9.heap[g]? = w.heap[g]? := fun g hl q1 q2 q3 => by
    rw [hw9, heap_set_other q3, g8.blk g (by simp; omega) q2, heap_alloc_old _ _ (by omega), hw.block g (by omega), heap_set_other q3, g6.blk g hl q1]
  have box5 : w5.heap[kb]? = some (.cells #[.bool true, lv6, wv, .slice none 0 0] 48 (0, 0)) := by
    rw [hw.block kb (by omega)]
    have := heap_set_at (i := 1) (v := lv6) ((g6.blk kb hkb nl).trans h.box)
    rw [this]; rfl
  have vne : ∀ i, i < vs.length → ∀ g, (vs.getD i vn0).ownBlock = some g → g < w.heap.size ∧ lv.ownBlock ≠ some g ∧ wv.ownBlock ≠ some g ∧ g ≠ kb := fun i hi g hg => by
    rcases (h.p.own i hi).out.2 with ⟨p, _⟩ | ⟨g2, cap, cur, p, _, p3, _⟩
    · rw [p] at hg; cases hg
    · rw [p] at hg; cases hg
      refine ⟨(Array.getElem?_eq_some_iff.1 p3).1, own_not h.l.out p3 (by decide), own_not h.wl.out p3 (by decide), ?_⟩
      rintro rfl
      rw [h.box] at p3
      simp only [Option.some.injEq, Obj.cells.injEq] at p3
      exact absurd p3.2.1 (by decide)
  have une : ∀ i, i < us.length → ∀ g, (us.getD i vn0).ownBlock = some g → g < w.heap.size ∧ lv.ownBlock ≠ some g ∧ wv.ownBlock ≠ some g ∧ g ≠ kb := fun i hi g hg => by
    rcases (h.u i hi).out.2 with ⟨p, _⟩ | ⟨g2, cap, cur, p, _, p3, _⟩
    · rw [p] at hg; cases hg
    · rw [p] at hg; cases hg
      refine ⟨(Array.getElem?_eq_some_iff.1 p3).1, own_not h.l.out p3 (by decide), own_not h.wl.out p3 (by decide), ?_⟩
      rintro rfl
      rw [h.box] at p3
      simp only [Option.some.injEq, Obj.cells.injEq] at p3
      exact absurd p3.2.1 (by decide)
  have lenv : vs.length = Ts.length := h.p.len
  have lenu : us.length = Ts.length := h.lu
  have ownv : OwnM w9 B v n T := ho.move (fun g hg => st g (own_block ho.out hg).2 (fun q => hv g hg (.inr (.inl q))) (fun q => hv g hg (.inr (.inr (.inl q)))) (fun q => hv g hg (.inl q)))
  have ownu : OwnM w9 B u n T := h5.move (fun g hg => by
    have h1 := hu g hg
    rw [hw9, heap_set_other (by omega), g8.blk g (by simp; have := (own_block h5.out hg).2; omega) (fun q => by have := (own_block h.wl.out q).2; omega), heap_alloc_old _ _ (own_block h5.out hg).2])
  refine ⟨⟨?_, h.lo, h6.move fun g hg => ?_, h8.move fun g hg => by rw [hw9]; exact heap_set_other (nw8 g hg), ⟨by simp [lenv], fun i hi => ?_, fun i j hi hj hij g hg => ?_⟩, by simp [lenu], fun i hi => ?_, fun g hg q => ?_⟩, ?_, fun k hk hf => ?_⟩
  · have h1 : w8.heap[kb]? = w5.heap[kb]? := by rw [g8.blk kb (by simp; omega) nw, heap_alloc_old _ _ (by omega)]
    have := heap_set_at (i := 2) (v := wv8) (h1.trans box5)
    rw [hw9, this]; rfl
  · have hl := (own_block h6.out hg).2
    rw [hw9, heap_set_other (nl6 g hg).1, g8.blk g (by simp; omega) (nl6 g hg).2, heap_alloc_old _ _ (by omega), hw.block g (by omega), heap_set_other (nl6 g hg).1]
  · by_cases hl : i < vs.length
    · have h1 := h.p.own i hl
      rw [getD_app hl, getD_app (by omega)]
      exact h1.move (fun g hg => by obtain ⟨a1, a2, a3, a4⟩ := vne i hl g hg; exact st g a1 a2 a3 a4)
    · have : i = vs.length := by simp at hi; omega
      subst this
      rw [getD_new]
      have e : (Ts ++ [T]).getD vs.length [] = T := by rw [lenv]; exact getD_new
      rw [e, ← ho.len]; exact ownv
  · have big : ∀ i, i < vs.length → ∀ g, (vs.getD i vn0).ownBlock = some g → v.ownBlock ≠ some g := fun i hi g hg q => hv g q (.inr (.inr (.inr (.inl ⟨_, getD_mem' hi, hg⟩))))
    simp at hi hj
    by_cases hl : i < vs.length
    · rw [getD_app hl] at hg
      by_cases hl2 : j < vs.length
      · rw [getD_app hl2]; exact h.p.ne i j hl hl2 hij g hg
      · have : j = vs.length := by omega
        subst this
        rw [getD_new]; exact big i hl g hg
    · have : i = vs.length := by omega
      subst this
      rw [getD_new] at hg
      rw [getD_app (by omega)]
      exact fun q => big j (by omega) g q hg
  · by_cases hl : i < us.length
    · have h1 := h.u i hl
      rw [getD_app hl, getD_app (by omega)]
      exact h1.move (fun g hg => by obtain ⟨a1, a2, a3, a4⟩ := une i hl g hg; exact st g a1 a2 a3 a4)
    · have : i = us.length := by simp at hi; omega
      subst this
      rw [getD_new]
      have e : (Ts ++ [T]).getD us.length [] = T := by rw [lenu]; exact getD_new
      rw [e, ← ho.len]; exact ownu
  · rcases g8.own g q with q | q
    · exact (nl6 g hg).2 q
    · have := (own_block h6.out hg).2; simp at q; omega
  · refine ⟨?_, ?_, ?_, by rw [hw9]; simp [World.setCell]; omega, fun k hk hn => st k hk (fun q => hn (.inl (.inr (.inl q)))) (fun q => hn (.inl (.inr (.inr (.inl q))))) (fun q => hn (.inl (.inl q)))⟩
    · rw [hw9]; show w8.os = _; rw [g8.bel.os]; show w5.os = _; rw [hw.os]; exact g6.bel.os
    · rw [hw9]; show w8.tape = _; rw [g8.bel.tape]; show w5.tape = _; rw [hw.tape]; exact g6.bel.tape
    · rw [hw9]; show w8.output = _; rw [g8.bel.output]; show w5.output = _; rw [hw.output]; exact g6.bel.output
  · rcases hf with q | q | q | ⟨x, hx, q⟩ | ⟨x, hx, q⟩
    · exact .inl (.inl q)
    · rcases g6.own k q with q | q
      · exact .inl (.inr (.inl q))
      · omega
    · rcases g8.own k q with q | q
      · exact .inl (.inr (.inr (.inl q)))
      · simp at q; omega
    · simp at hx
      rcases hx with hx | rfl
      · exact .inl (.inr (.inr (.inr (.inl ⟨x, hx, q⟩))))
      · exact .inr q
    · simp at hx
      rcases hx with hx | rfl
      · exact .inl (.inr (.inr (.inr (.inr ⟨x, hx, q⟩))))
      · have := hu k q; omega
end Go.Proofs.Ytdoiblknbpbhaaa
