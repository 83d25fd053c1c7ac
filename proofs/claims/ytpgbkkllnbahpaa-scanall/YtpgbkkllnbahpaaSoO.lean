import Derived.Test.YtpgbkkllnbahpaaSoN
set_option linter.unusedVariables false
set_option linter.unusedSimpArgs false
namespace Go.Proofs.Ytpgbkkllnbahpaa
open Go.ChangeShapes Go.WideShapes Go.ChangeAt Go.RowKit Go.Maps

abbrev nl : Value := .slice none 0 0
/-- What is kept: the answers, and their twins. -/
structure KS (w wr : World) (B : Nat) (kv tv : Value) (kvs tvs : List Value) (Rs : List (List Lc)) : Prop where
  k : OwnV wr B kv kvs
  t : OwnV wr B tv tvs
  kl : kvs.length = Rs.length
  tl : tvs.length = Rs.length
  kr : ∀ i, i < Rs.length → OwnP wr B (kvs.getD i nl) (Rs.getD i []).length (Rs.getD i [])
  tr : ∀ i, i < Rs.length → OwnP wr B (tvs.getD i nl) (Rs.getD i []).length (Rs.getD i [])
  ap : ∀ i j, i < Rs.length → j < Rs.length → i ≠ j → ∀ g, (kvs.getD i nl).ownBlock = some g → (kvs.getD j nl).ownBlock ≠ some g
  kt : ∀ b, kv.ownBlock = some b → tv.ownBlock ≠ some b
  sz : ∀ R ∈ Rs, R.length ≤ 6000
  bel : Below B w wr
theorem KS.nil (w : World) (B : Nat) (w1 : World) (hb : Below B w w1) : KS w w1 B nl nl [] [] [] :=
  ⟨OwnV.nil _ _, OwnV.nil _ _, rfl, rfl, fun i h => by simp at h, fun i h => by simp at h, fun i j h => by simp at h, fun b h => by simp [Value.ownBlock] at h, fun R h => by simp at h, hb⟩
theorem KS.keep {w wr w' : World} {B kv tv kvs tvs Rs} (h : KS w wr B kv tv kvs tvs Rs) (hB : B ≤ wr.heap.size) (hb : Below wr.heap.size wr w') : KS w w' B kv tv kvs tvs Rs :=
  ⟨h.k.keep hb, h.t.keep hb, h.kl, h.tl, fun i hi => (h.kr i hi).keep hb, fun i hi => (h.tr i hi).keep hb, h.ap, h.kt, h.sz, h.bel.trans (hb.mono hB)⟩
theorem OwnP.mono {w B B' v n L} (h : OwnP w B v n L) (hb : B' ≤ B) : OwnP w B' v n L := row_ownP (row_base h.row hb) h.len
/-- A cell of a list of intervals is written. -/
theorem KS.cell {w wr : World} {B kv tv kvs tvs Rs} (h : KS w wr B kv tv kvs tvs Rs) {g q : Nat} {u : Value} {A : Array Value} (hg : wr.heap[g]? = some (.cells A 35 (0, 0))) (hlo : B ≤ g) : KS w (wr.setCell ⟨g, q, none⟩ u) B kv tv kvs tvs Rs := by
  have oth : ∀ k, k ≠ g → (wr.setCell ⟨g, q, none⟩ u).heap[k]? = wr.heap[k]? := fun k hk => Below.heap_setCell _ _ _ _ hk
  refine ⟨h.k.move fun b hb => oth b fun e => own_not h.k.out hg (by decide) (by rw [hb, e]), h.t.move fun b hb => oth b fun e => own_not h.t.out hg (by decide) (by rw [hb, e]), h.kl, h.tl, fun i hi => ?_, fun i hi => ?_, h.ap, h.kt, h.sz, h.bel.setCell (p := ⟨g, q, none⟩) hlo _⟩
  · exact ⟨(h.kr i hi).len, own_move (h.kr i hi).out fun b hb => oth b fun e => own_not (h.kr i hi).out hg (by decide) (by rw [hb, e])⟩
  · exact ⟨(h.tr i hi).len, own_move (h.tr i hi).out fun b hb => oth b fun e => own_not (h.tr i hi).out hg (by decide) (by rw [hb, e])⟩
/-- One answer more, and its twin. -/
theorem KS.more {w wr w1 w2 w3 : World} {B kv tv kv' tv' kvs tvs Rs va vb} {P : List Lc} (h : KS w wr B kv tv kvs tvs Rs) (hB : B ≤ wr.heap.size) (h1 : Below wr.heap.size wr w1) (oa : OwnP w1 wr.heap.size va P.length P) (ob : OwnP w1 wr.heap.size vb P.length P) (hP : P.length ≤ 6000)
    (h2 : OwnV w2 B kv' (kvs ++ [va])) (g2 : GI B w1 w2 kv kv') (h3 : OwnV w3 B tv' (tvs ++ [vb])) (g3 : GI B w2 w3 tv tv') :
    KS w w3 B kv' tv' (kvs ++ [va]) (tvs ++ [vb]) (Rs ++ [P]) := by
  have q1 := h.keep hB h1
  have s1 := h1.size
  have s2 := g2.size
  have t2 : OwnV w2 B tv tvs := q1.t.gi g2 fun b hb e => h.kt b e hb
  have kt2 : ∀ b, kv'.ownBlock = some b → tv.ownBlock ≠ some b := fun b hb e => by
    rcases g2.own b hb with q | q
    · exact h.kt b q e
    · have := (own_block q1.t.out e).2; omega
  have mv : ∀ {u n L B'}, OwnP w1 B' u n L → OwnP w3 B' u n L := fun {u n L B'} o => by
    have o2 := o.gi g2 (o.apV q1.k)
    exact o2.gi g3 (o2.apV t2)
  refine ⟨h2.gi g3 fun b hb e => kt2 b hb e, h3, by simp [h.kl], by simp [h.tl], fun i hi => ?_, fun i hi => ?_, fun i j hi hj hne g hg => ?_, fun b hb e => ?_, fun R hR => ?_, q1.bel.trans (g2.bel.trans g3.bel)⟩
  · have hk := h.kl
    by_cases e : i < Rs.length
    · rw [getD_app (by omega), getD_app e]; exact mv (q1.kr i e)
    · have e2 : i = Rs.length := by simp at hi; omega
      subst e2
      rw [getD_new, ← h.kl, getD_new]; exact mv (oa.mono hB)
  · have hk := h.tl
    by_cases e : i < Rs.length
    · rw [getD_app (by omega), getD_app e]; exact mv (q1.tr i e)
    · have e2 : i = Rs.length := by simp at hi; omega
      subst e2
      rw [getD_new, ← h.tl, getD_new]; exact mv (ob.mono hB)
  · have hk := h.kl
    have old : ∀ i, i < Rs.length → ∀ g, (kvs.getD i nl).ownBlock = some g → g < wr.heap.size := fun i hi g hg => (own_block (h.kr i hi).out hg).2
    have new : ∀ g, va.ownBlock = some g → wr.heap.size ≤ g := fun g hg => (own_block oa.out hg).1
    by_cases e : i < Rs.length
    · rw [getD_app (by omega)] at hg
      by_cases e' : j < Rs.length
      · rw [getD_app (by omega)]; exact h.ap i j e e' hne g hg
      · have e2 : j = kvs.length := by simp at hj; omega
        subst e2
        rw [getD_new]
        intro q
        have := old i e g hg
        have := new g q
        omega
    · have e2 : i = kvs.length := by simp at hi; omega
      subst e2
      rw [getD_new] at hg
      have e' : j < Rs.length := by simp at hj; omega
      rw [getD_app (by omega)]
      intro q
      have := old j e' g q
      have := new g hg
      omega
  · rcases g3.own b e with q | q
    · exact kt2 b hb q
    · have := (own_block h2.out hb).2; omega
  · rcases List.mem_append.1 hR with q | q
    · exact h.sz R q
    · simp at q; rw [q]; exact hP
/-- Ahead of apart. -/
theorem KS.mk' {w wr : World} {B kv tv kvs tvs Rs} (h : KS w wr B kv tv kvs tvs Rs) : MK w wr B Rs.length kv (fun i => kvs.getD i nl) (fun i => (Rs.getD i []).length) (fun i => Rs.getD i []) := by
  refine ⟨?_, h.kr, h.ap, h.bel⟩
  have e : usV (fun i => kvs.getD i nl) Rs.length = kvs := by
    unfold usV
    rw [← h.kl]
    apply List.ext_getElem
    · simp
    · intro i h1 h2
      simp [List.getD, h2]
  rw [e]
  exact h.k
end Go.Proofs.Ytpgbkkllnbahpaa
