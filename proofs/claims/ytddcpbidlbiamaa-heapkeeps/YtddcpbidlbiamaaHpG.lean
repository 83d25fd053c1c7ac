import Derived.Test.YtddcpbidlbiamaaHpF
set_option linter.unusedVariables false
namespace Go.Proofs.Ytddcpbidlbiamaa
open Go.ChangeShapes Go.WideShapes Go.ChangeAt Go.RowKit

/-- A cell of a block is written over by a list that was grown. -/
theorem RH.grow {w W w2 : World} {B r tk g cp L c c'} (H : RH w B r tk (.slice (some ⟨g, 0, none⟩) L.length cp) L c) {k : Nat} (hk : k < L.length) (hc : c ≤ c') (j : Nat) (hj : j < 5) (x : RB) (ov u : Value) (hW : Below w.heap.size w W)
    (hG : GI B W w2 ov u) (hov : ∀ q, ov.ownBlock = some q → q ∈ (L[k]).ids) (hx : x.cells = (L[k]).cells.set j u) (hxo : RBo w2 B x) (hn : x.ids.Nodup) (hi : ∀ q ∈ x.ids, q ∈ (L[k]).ids ∨ w.heap.size ≤ q)
    (h1 : x.ns.length ≤ 4096) (h2 : x.ks.length ≤ c') (h3 : x.ws.length ≤ c') :
    RH (w2.setCell ⟨g, k * 5 + j, none⟩ u) B r tk (.slice (some ⟨g, 0, none⟩) L.length cp) (L.set k x) c' ∧ Only (RF r (.slice (some ⟨g, 0, none⟩) L.length cp) L) w (w2.setCell ⟨g, k * 5 + j, none⟩ u) ∧ ∀ q, RF r (.slice (some ⟨g, 0, none⟩) L.length cp) (L.set k x) q → RF r (.slice (some ⟨g, 0, none⟩) L.length cp) L q ∨ w.heap.size ≤ q := by
  have hkm : ∀ q ∈ (L[k]).ids, q ∈ idsOf L := fun q hq => List.mem_flatMap.2 ⟨_, List.getElem_mem hk, hq⟩
  have hgl := (H.lt g (.inr (.inl rfl))).2
  have hgi : ∀ q ∈ (L[k]).ids, q ≠ g := fun q hq e => H.iv (hkm q hq) (by rw [e]; rfl)
  have hOw : Only (fun q => ov.ownBlock = some q) w w2 := ⟨hG.bel.os.trans hW.os, hG.bel.tape.trans hW.tape, hG.bel.output.trans hW.output, Nat.le_trans hW.size hG.bel.size, fun q hq hno => (hG.blk q (Nat.lt_of_lt_of_le hq hW.size) hno).trans (hW.block q hq)⟩
  refine H.turn hk x hc ((hOw.mono ?_).trans (Only.of_set _ _ _) ?_) ?_ ?_ hn hi h1 h2 h3
  · intro q _ h
    exact .inr (hov q h)
  · rintro q _ rfl
    exact .inl rfl
  · have hr2 : w2.ownsRow B 59 5 (.slice (some ⟨g, 0, none⟩) L.length cp) L.length (rbs L) := own_move H.row fun q hq => by
      have : q = g := by simpa [Value.ownBlock] using hq.symm
      subst this
      exact hOw.block q hgl (fun h => hgi q (hov q h) rfl)
    have := own_set hr2 (k * 5 + j) (by omega) u
    rwa [rbs_set L k hk j hj x u hx] at this
  · refine hxo.move fun q hq => heap_set_other ?_
    rcases hi q hq with h | h
    · exact hgi q h
    · omega

theorem OwnI.low {w W B v n l} (h : OwnI w B v n l) (hW : Below w.heap.size w W) : OwnI W B v n l := h.keep hW
/-- One more of the first words. -/
theorem RH.addNear {w W w2 : World} {B r tk g cp L c} (H : RH w B r tk (.slice (some ⟨g, 0, none⟩) L.length cp) L c) {k : Nat} (hk : k < L.length) (u : Value) (y : Int) (hW : Below w.heap.size w W)
    (hG : GI B W w2 (L[k]).vn u) (hu : OwnI w2 B u ((L[k]).ns.length + 1) ((L[k]).ns ++ [y])) (hl : (L[k]).ns.length + 1 ≤ 4096) :
    RH (w2.setCell ⟨g, k * 5 + 2, none⟩ u) B r tk (.slice (some ⟨g, 0, none⟩) L.length cp) (L.set k { L[k] with vn := u, ns := (L[k]).ns ++ [y] }) c ∧ Only (RF r (.slice (some ⟨g, 0, none⟩) L.length cp) L) w (w2.setCell ⟨g, k * 5 + 2, none⟩ u) ∧ ∀ q, RF r (.slice (some ⟨g, 0, none⟩) L.length cp) (L.set k { L[k] with vn := u, ns := (L[k]).ns ++ [y] }) q → RF r (.slice (some ⟨g, 0, none⟩) L.length cp) L q ∨ w.heap.size ≤ q := by
  have ho := H.own _ (List.getElem_mem hk)
  have hb := H.bd _ (List.getElem_mem hk)
  have hnd := ids_nod.1 (ids_of_nod H.nod hk)
  have new : ∀ q, u.ownBlock = some q → (L[k]).vn.ownBlock = some q ∨ w.heap.size ≤ q := fun q hq => (hG.own q hq).imp id (fun h => Nat.le_trans hW.size h)
  refine H.grow hk (Nat.le_refl _) 2 (by omega) _ (L[k]).vn u hW hG (fun q hq => mem_vn hq) rfl ⟨by simpa using hu, ?_, ?_⟩ ?_ ?_ (by simpa using hl) hb.2.1 hb.2.2
  · exact (ho.k.low hW).gi hG (fun b hb e => hnd.1 b e hb)
  · exact (ho.f.low hW).gi hG (fun b hb e => hnd.2.1 b e hb)
  · refine ids_nod.2 ⟨fun q hq hq2 => ?_, fun q hq hq2 => ?_, hnd.2.2⟩
    · rcases new q hq with h | h
      · exact hnd.1 q h hq2
      · have := (own_block ho.k.out hq2).2; omega
    · rcases new q hq with h | h
      · exact hnd.2.1 q h hq2
      · have := (own_block ho.f.out hq2).2; omega
  · intro q hq
    rcases ids_mem.1 hq with h | h | h
    · rcases new q h with h | h
      · exact .inl (mem_vn h)
      · exact .inr h
    · exact .inl (mem_va h)
    · exact .inl (mem_vf h)
/-- One more place of a far word. -/
theorem RH.addAt {w W w2 : World} {B r tk g cp L c} (H : RH w B r tk (.slice (some ⟨g, 0, none⟩) L.length cp) L c) {k : Nat} (hk : k < L.length) (u : Value) (y : Int) (hW : Below w.heap.size w W)
    (hG : GI B W w2 (L[k]).va u) (hu : OwnI w2 B u ((L[k]).ks.length + 1) ((L[k]).ks ++ [y])) :
    RH (w2.setCell ⟨g, k * 5 + 3, none⟩ u) B r tk (.slice (some ⟨g, 0, none⟩) L.length cp) (L.set k { L[k] with va := u, ks := (L[k]).ks ++ [y] }) (c + 1) ∧ Only (RF r (.slice (some ⟨g, 0, none⟩) L.length cp) L) w (w2.setCell ⟨g, k * 5 + 3, none⟩ u) ∧ ∀ q, RF r (.slice (some ⟨g, 0, none⟩) L.length cp) (L.set k { L[k] with va := u, ks := (L[k]).ks ++ [y] }) q → RF r (.slice (some ⟨g, 0, none⟩) L.length cp) L q ∨ w.heap.size ≤ q := by
  have ho := H.own _ (List.getElem_mem hk)
  have hb := H.bd _ (List.getElem_mem hk)
  have hnd := ids_nod.1 (ids_of_nod H.nod hk)
  have new : ∀ q, u.ownBlock = some q → (L[k]).va.ownBlock = some q ∨ w.heap.size ≤ q := fun q hq => (hG.own q hq).imp id (fun h => Nat.le_trans hW.size h)
  refine H.grow hk (Nat.le_succ _) 3 (by omega) _ (L[k]).va u hW hG (fun q hq => mem_va hq) rfl ⟨?_, by simpa using hu, ?_⟩ ?_ ?_ hb.1 (by simp; omega) (by have := hb.2.2; simp; omega)
  · exact (ho.n.low hW).gi hG (fun b hb e => hnd.1 b hb e)
  · exact (ho.f.low hW).gi hG (fun b hb e => hnd.2.2 b e hb)
  · refine ids_nod.2 ⟨fun q hq hq2 => ?_, hnd.2.1, fun q hq hq2 => ?_⟩
    · rcases new q hq2 with h | h
      · exact hnd.1 q hq h
      · have := (own_block ho.n.out hq).2; omega
    · rcases new q hq with h | h
      · exact hnd.2.2 q h hq2
      · have := (own_block ho.f.out hq2).2; omega
  · intro q hq
    rcases ids_mem.1 hq with h | h | h
    · exact .inl (mem_vn h)
    · rcases new q h with h | h
      · exact .inl (mem_va h)
      · exact .inr h
    · exact .inl (mem_vf h)
/-- One more far word. -/
theorem RH.addFar {w W w2 : World} {B r tk g cp L c} (H : RH w B r tk (.slice (some ⟨g, 0, none⟩) L.length cp) L c) {k : Nat} (hk : k < L.length) (u : Value) (y : Int) (hW : Below w.heap.size w W)
    (hG : GI B W w2 (L[k]).vf u) (hu : OwnI w2 B u ((L[k]).ws.length + 1) ((L[k]).ws ++ [y])) (hl : (L[k]).ws.length + 1 ≤ c) :
    RH (w2.setCell ⟨g, k * 5 + 4, none⟩ u) B r tk (.slice (some ⟨g, 0, none⟩) L.length cp) (L.set k { L[k] with vf := u, ws := (L[k]).ws ++ [y] }) c ∧ Only (RF r (.slice (some ⟨g, 0, none⟩) L.length cp) L) w (w2.setCell ⟨g, k * 5 + 4, none⟩ u) ∧ ∀ q, RF r (.slice (some ⟨g, 0, none⟩) L.length cp) (L.set k { L[k] with vf := u, ws := (L[k]).ws ++ [y] }) q → RF r (.slice (some ⟨g, 0, none⟩) L.length cp) L q ∨ w.heap.size ≤ q := by
  have ho := H.own _ (List.getElem_mem hk)
  have hb := H.bd _ (List.getElem_mem hk)
  have hnd := ids_nod.1 (ids_of_nod H.nod hk)
  have new : ∀ q, u.ownBlock = some q → (L[k]).vf.ownBlock = some q ∨ w.heap.size ≤ q := fun q hq => (hG.own q hq).imp id (fun h => Nat.le_trans hW.size h)
  refine H.grow hk (Nat.le_refl _) 4 (by omega) _ (L[k]).vf u hW hG (fun q hq => mem_vf hq) rfl ⟨?_, ?_, by simpa using hu⟩ ?_ ?_ hb.1 hb.2.1 (by simpa using hl)
  · exact (ho.n.low hW).gi hG (fun b hb e => hnd.2.1 b hb e)
  · exact (ho.k.low hW).gi hG (fun b hb e => hnd.2.2 b hb e)
  · refine ids_nod.2 ⟨hnd.1, fun q hq hq2 => ?_, fun q hq hq2 => ?_⟩
    · rcases new q hq2 with h | h
      · exact hnd.2.1 q hq h
      · have := (own_block ho.n.out hq).2; omega
    · rcases new q hq2 with h | h
      · exact hnd.2.2 q hq h
      · have := (own_block ho.k.out hq).2; omega
  · intro q hq
    rcases ids_mem.1 hq with h | h | h
    · exact .inl (mem_vn h)
    · exact .inl (mem_va h)
    · rcases new q h with h | h
      · exact .inl (mem_vf h)
      · exact .inr h

theorem infoB : (Try.prog.info? 59).map (fun i => (i.zero, i.size, i.bytes)) = some (some (.agg #[.int .i64 0, .int .i64 0, .slice none 0 0, .slice none 0 0, .slice none 0 0]), 5, 88) := by kernel_rfl
/-- append(blocks, b). -/
theorem wpList_append_rb {w0 : World} {ops : Array Oper} {rest : List Oper} {op : Oper} {a : Act} {Q : Exit → Act → World → Prop} (hgd : op.guard = none) (s x : Operand)
    (ho : op.op = .call { callee := .builtin .append, args := #[s, x], argTypes := #[55, 55] })
    (B : Nat) (v : Value) (n g : Nat) (L : List RB) (y : RB) (y1 y2 : Int) (hy : y = ⟨y1, y2, .slice none 0 0, .slice none 0 0, .slice none 0 0, [], [], []⟩) (hs : a.eval s = v) (hown : w0.ownsRow B 59 5 v n (rbs L)) (hx : a.eval x = .slice (some ⟨g, 0, none⟩) 1 1) (hg : g = w0.heap.size)
    (hl : n + 1 ≤ 1000000001) (hB : B ≤ w0.heap.size)
    (h : ∀ v' w', w'.ownsRow B 59 5 v' (n + 1) (rbs (L ++ [y])) → GI B w0 w' v v' → wpList Try.prog ops Q rest (a.put op.dst v') w') : wpList Try.prog ops Q (op :: rest) a (w0.alloc (.cells #[.int .i64 y1, .int .i64 y2, .slice none 0 0, .slice none 0 0, .slice none 0 0] 59)) := by
  subst hg
  obtain ⟨i0, hi, hz0, hz1, hz2⟩ := info_parts infoB
  refine wpList_append_where hgd s x 55 ho B 59 i0 _ 5 88 Try.underlying55 hi hz0 hz1 hz2 rfl (by decide) v n (rbs L) hs (hown.alloc _) ⟨w0.heap.size, 0, none⟩ 1 1 (by omega) y.cells hx rfl (fun j u hj => ?_) (fun u hu => ?_) (by unfold maxLen; omega) (by omega) (by simp; omega) ?_
  · subst hy
    match j, hj with
    | 0, hj => simp [RB.cells] at hj; subst hj; simp [Addr.add]
    | 1, hj => simp [RB.cells] at hj; subst hj; simp [Addr.add]
    | 2, hj => simp [RB.cells] at hj; subst hj; simp [Addr.add]
    | 3, hj => simp [RB.cells] at hj; subst hj; simp [Addr.add]
    | 4, hj => simp [RB.cells] at hj; subst hj; simp [Addr.add]
    | j + 5, hj => simp [RB.cells] at hj
  · subst hy
    simp [RB.cells] at hu
    rcases hu with rfl | rfl | rfl <;> rfl
  · intro v' w' h1 h2 h3
    refine h v' w' ?_ (gi_of hown hB h2 h3)
    rw [rbs_app]
    simpa [rbs] using h1
end Go.Proofs.Ytddcpbidlbiamaa
