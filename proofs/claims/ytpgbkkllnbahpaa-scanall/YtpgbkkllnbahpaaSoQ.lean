import Derived.Test.YtpgbkkllnbahpaaSoP
set_option linter.unusedVariables false
set_option linter.unusedSimpArgs false
namespace Go.Proofs.Ytpgbkkllnbahpaa
open Go.ChangeShapes Go.WideShapes Go.ChangeAt Go.RowKit Go.Maps

theorem vc_to (P : List Iv) (q : Nat) (t : Int) (h : q < P.length) : (P.map vc).flatten.set (q * 3 + 2) (.int .i64 t) = ((P.set q (P[q].1, P[q].2.1, t)).map vc).flatten := by
  have hlen : ∀ y ∈ P.map vc, y.length = 3 := fun y hy => by obtain ⟨_, _, rfl⟩ := List.mem_map.1 hy; rfl
  have e0 := flat_at (P.map vc) hlen q (by simpa using h) 0 (by omega)
  have e1 := flat_at (P.map vc) hlen q (by simpa using h) 1 (by omega)
  rw [← vc_set P q (P[q].1, P[q].2.1, t) h]
  simp [vc] at e0 e1
  have s : ∀ (l : List Value) (i : Nat) (v : Value), l[i]? = some v → l.set i v = l := fun l i v hv => by
    obtain ⟨hi, rfl⟩ := List.getElem?_eq_some_iff.1 hv
    exact List.set_getElem_self hi
  rw [s _ (q * 3) _ (by rw [← e0]), s _ (q * 3 + 1) _ (by rw [← e1])]
/-- One last place is written. -/
theorem row_vc_to {w : World} {B b n c : Nat} {P : List Iv} (h : Row w B 35 3 (.slice (some ⟨b, 0, none⟩) n c) (P.map vc)) (hn : n = P.length) {q : Nat} (hq : q < P.length) (t : Int) : Row (w.setCell ⟨b, q * 3 + 2, none⟩ (.int .i64 t)) B 35 3 (.slice (some ⟨b, 0, none⟩) n c) ((P.set q (P[q].1, P[q].2.1, t)).map vc) := by
  have e1 : (P.map vc).length = n := by simp [hn]
  have e2 : ((P.set q (P[q].1, P[q].2.1, t)).map vc).length = n := by simp [hn]
  have h0 := h.out
  rw [e1] at h0
  have h1 := own_set h0 (q * 3 + 2) (by omega) (.int .i64 t)
  rw [vc_to P q t hq] at h1
  refine ⟨by rw [e2]; exact h1, fun y hy => ?_⟩
  obtain ⟨z, _, rfl⟩ := List.mem_map.1 hy
  rfl
/-- What the calls' walk holds: what is kept, and the list that was lent. -/
structure WS (w wr : World) (B : Nat) (kv tv : Value) (kvs tvs : List Value) (Rs : List (List Lc)) (g c n : Nat) (M : List Iv) : Prop where
  k : KS w wr B kv tv kvs tvs Rs
  x : Row wr B 35 3 (.slice (some ⟨g, 0, none⟩) (n + 2) c) ((M ++ [m71, m72]).map vc)
  n : n = M.length
  le : B ≤ wr.heap.size
theorem WS.keep {w wr w' : World} {B kv tv kvs tvs Rs g c n M} (h : WS w wr B kv tv kvs tvs Rs g c n M) (hb : Below wr.heap.size wr w') : WS w w' B kv tv kvs tvs Rs g c n M :=
  ⟨h.k.keep h.le hb, h.x.keep hb, h.n, Nat.le_trans h.le hb.size⟩
theorem WS.ivs {w wr : World} {B kv tv kvs tvs Rs g c n M} (h : WS w wr B kv tv kvs tvs Rs g c n M) (hf : ∀ x ∈ M, FitV x) : Ivs wr (some ⟨g, 0, none⟩) c M := row_pre h.x (by simp [h.n]) hf
theorem WS.set {w wr : World} {B kv tv kvs tvs Rs g c n} {L : List Iv} {j : Nat} (h : WS w wr B kv tv kvs tvs Rs g c n (tuL L j)) (hj : j < L.length) : WS w (wr.setCell ⟨g, j * 3 + 2, none⟩ (.int .i64 (L.getD (L.length - 1 - j) m71).2.2)) B kv tv kvs tvs Rs g c n (tuL L (j + 1)) := by
  have hl := tu_len L j
  have hnl := h.n
  have hx := h.x.out
  have hm : (tuL L j ++ [m71, m72]).length = n + 2 := by simp [h.n]
  obtain ⟨_, _, e9, _, _, hcur, hlo⟩ := own_some hx (by simp)
  have hr := row_vc_to h.x hm.symm (q := j) (by omega) (L.getD (L.length - 1 - j) m71).2.2
  refine ⟨?_, ?_, by rw [h.n, tu_len, tu_len], ?_⟩
  · obtain ⟨cur, hc, _, _, _, hl2, _⟩ := row_cur h.x (by simp [hnl])
    exact h.k.cell hc hl2
  · have e : (tuL L j ++ [m71, m72])[j]'(by omega) = L[j] := by rw [List.getElem_append_left (by omega)]; exact tu_at hj
    rw [e, List.set_append_left _ _ (by omega)] at hr
    have := tu_step hj
    rw [show L.getD j m71 = L[j] by simp [hj]] at this
    rw [this] at hr
    exact hr
  · simpa using h.le
theorem WS.more {w wr w1 w2 w3 : World} {B kv tv kv' tv' kvs tvs Rs va vb g c n M} {P : List Lc} (h : WS w wr B kv tv kvs tvs Rs g c n M) (h1 : Below wr.heap.size wr w1) (oa : OwnP w1 wr.heap.size va P.length P) (ob : OwnP w1 wr.heap.size vb P.length P) (hP : P.length ≤ 6000)
    (h2 : OwnV w2 B kv' (kvs ++ [va])) (g2 : GI B w1 w2 kv kv') (h3 : OwnV w3 B tv' (tvs ++ [vb])) (g3 : GI B w2 w3 tv tv') :
    WS w w3 B kv' tv' (kvs ++ [va]) (tvs ++ [vb]) (Rs ++ [P]) g c n M := by
  have hnl := h.n
  have q1 := h.k.keep h.le h1
  have t2 : OwnV w2 B tv tvs := q1.t.gi g2 fun b hb e => h.k.kt b e hb
  have mv : ∀ {wa wb : World} {kv kv' : Value} {vs : List Value}, OwnV wa B kv vs → GI B wa wb kv kv' → Row wa B 35 3 (.slice (some ⟨g, 0, none⟩) (n + 2) c) ((M ++ [m71, m72]).map vc) → Row wb B 35 3 (.slice (some ⟨g, 0, none⟩) (n + 2) c) ((M ++ [m71, m72]).map vc) := fun {wa wb kv kv' vs} o q x => by
    obtain ⟨cur, hc, _, _, _, _, _⟩ := row_cur x (by simp [hnl])
    refine ⟨own_move x.out fun b hb => ?_, x.len⟩
    have hb2 := own_block x.out hb
    simp [Value.ownBlock] at hb
    subst hb
    exact q.blk g hb2.2 fun e => own_not o.out hc (by decide) e
  exact ⟨h.k.more h.le h1 oa ob hP h2 g2 h3 g3, mv t2 g3 (mv q1.k g2 (h.x.keep h1)), h.n, Nat.le_trans (Nat.le_trans (Nat.le_trans h.le h1.size) g2.size) g3.size⟩
end Go.Proofs.Ytpgbkkllnbahpaa
