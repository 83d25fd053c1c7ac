import Derived.Test.YtdgfkhdjlhgoaaaDoorTrMm
import Derived.Test.YtdgfkhdjlhgoaaaDoorTrO
import Derived.Test.YtdgfkhdjlhgoaaaDoorTrK
set_option linter.unusedVariables false
set_option linter.unusedSimpArgs false
namespace Go.Proofs.YtdgfkhdjlhgoaaaDoor
open Go.ChangeShapes Go.WideShapes Go.ChangeAt Go.RowKit

theorem total_set (K : List (List Int)) : ∀ (i : Nat) (h : i < K.length) (k : List Int), total (K.set i k) + (K[i]).length = total K + k.length := by
  induction K with
  | nil => intro i h; simp at h
  | cons a K ih =>
    intro i h k
    cases i with
    | zero => simp [total]; omega
    | succ i =>
      have := ih i (by simpa using h) k
      simp [total] at this ⊢
      omega
theorem chk_more {T : Tr} (h : chk T = true) (nd : Nd) (hk : nd.kids = []) : chk ⟨T.nodes ++ [nd], T.funcs⟩ = false := by
  apply Bool.eq_false_iff.2
  intro h2
  have t1 := stk_total _ _ _ _ (chk_stk h).1
  have t2 := stk_total _ _ _ _ (chk_stk h2).1
  simp [total, hk] at t1 t2
  omega
theorem chk_less {T : Tr} (h : chk T = true) (i : Nat) (hi : i < T.nodes.length) (nd : Nd) (hk : nd.kids.length ≠ (T.nodes[i]).kids.length) : chk ⟨T.nodes.set i nd, T.funcs⟩ = false := by
  apply Bool.eq_false_iff.2
  intro h2
  have t1 := stk_total _ _ _ _ (chk_stk h).1
  have t2 := stk_total _ _ _ _ (chk_stk h2).1
  have t3 := total_set (T.nodes.map Nd.kids) i (by simpa using hi) nd.kids
  rw [List.map_set] at t2
  simp at t1 t2 t3
  omega
theorem chk_other {T : Tr} (h : chk T = true) (i : Nat) (hi : i < T.nodes.length) (nd : Nd) (hl : nd.kids.length = (T.nodes[i]).kids.length) (hk : nd.kids ≠ (T.nodes[i]).kids) : chk ⟨T.nodes.set i nd, T.funcs⟩ = false := by
  apply Bool.eq_false_iff.2
  intro h2
  have t1 := (chk_stk h).1
  have t2 := (chk_stk h2).1
  simp only [List.map_set] at t2
  have e : (T.nodes.map Nd.kids).map List.length = ((T.nodes.map Nd.kids).set i nd.kids).map List.length := by
    rw [List.map_set]
    refine (List.ext_getElem (by simp) fun j h1 h2 => ?_)
    rw [List.getElem_set]
    split
    · next e => subst e; simp [hl]
    · rfl
  have := (stk_same _ _ _ _ _ _ t1 t2 e).1
  have h3 : (T.nodes.map Nd.kids)[i]'(by simpa using hi) = ((T.nodes.map Nd.kids).set i nd.kids)[i]'(by simpa using hi) := List.getElem_of_eq this _
  simp at h3
  exact hk h3.symm

theorem own_set {w : World} {B e s n c g M} (h : w.ownsRow B e s (.slice (some ⟨g, 0, none⟩) n c) n M) (j : Nat) (u : Value) : (w.setCell ⟨g, j, none⟩ u).ownsRow B e s (.slice (some ⟨g, 0, none⟩) n c) n (M.set j u) := by
  refine ⟨by simpa using h.1, ?_⟩
  rcases h.2 with ⟨e, _⟩ | ⟨g', cap, cur, e, e2, e3, e4, e5, e6, e7⟩
  · cases e
  · cases e
    right
    refine ⟨g, c, cur.setIfInBounds j u, rfl, e2, heap_set_at e3, e4, e5, by simpa using e6, ?_⟩
    rw [← e7]
    simp [List.take_set]
theorem ncs_set (P : List (Nd × Value)) : ∀ (i : Nat) (h : i < P.length) (k : List Int) (kv : Value), ncs (P.set i ({ (P[i]).1 with kids := k }, kv)) = (ncs P).set (i * 10 + 9) kv := by
  induction P with
  | nil => intro i h; simp at h
  | cons t ts ih =>
    intro i h k kv
    have e : ∀ (a : Nd × Value) l, ncs (a :: l) = nc a.1 a.2 ++ ncs l := fun a l => by simp [ncs]
    cases i with
    | zero =>
      rw [List.set_cons_zero, e, e, List.set_append_left _ _ (by simp [nc])]
      rfl
    | succ i =>
      rw [List.set_cons_succ, e, e, List.set_append_right _ _ (by simp [nc]; omega)]
      have := ih i (by simpa using h) k kv
      rw [show (i + 1) * 10 + 9 - (nc t.1 t.2).length = i * 10 + 9 by simp [nc]; omega, ← this]
      rfl
theorem CN.apart {w B v n P} (h : CN w B v n P) {i j : Nat} (hi : i < P.length) (hj : j < P.length) (hne : i ≠ j) : ∀ g, (P[i]).2.ownBlock = some g → (P[j]).2.ownBlock ≠ some g := by
  have ha := List.pairwise_iff_getElem.1 h.apt
  intro g h1 h2
  rcases Nat.lt_or_gt_of_ne hne with hlt | hlt
  · exact ha i j hi hj hlt g h1 h2
  · exact ha j i hj hi hlt g h2 h1
/-- One node's kids turned: all others stay. -/
theorem CN.upd {w w' : World} {B v n P} (h : CN w B v n P) (i : Nat) (hi : i < P.length) (nd : Nd) (kv : Value) (hrow : w'.ownsRow B 39 10 v n (ncs (P.set i (nd, kv)))) (hk : OwnI w' B kv nd.kids.length nd.kids)
    (hold : ∀ b, b < w.heap.size → (P[i]).2.ownBlock ≠ some b → v.ownBlock ≠ some b → w'.heap[b]? = w.heap[b]?) : CM w' B v n (P.set i (nd, kv)) := by
  refine ⟨by simpa using h.len, hrow, fun p hp => ?_⟩
  obtain ⟨j, hj, rfl⟩ := List.mem_iff_getElem.1 hp
  have hj' : j < P.length := by simpa using hj
  rw [List.getElem_set]
  split
  · exact hk
  · next hne =>
    have hm := h.kid P[j] (List.getElem_mem hj')
    exact ⟨hm.len, own_move hm.out fun g hg => hold g (own_block hm.out hg).2 (h.apart hj' hi (Ne.symm hne) g hg) (own_apart hm.out h.own (by decide) g hg)⟩
/-- A kid less. -/
theorem CN.cut {w : World} {B g c n P} (h : CN w B (.slice (some ⟨g, 0, none⟩) n c) n P) (i : Nat) (hi : i < P.length) {ka : Option Addr} {kl kc : Nat} (hk : (P[i]).2 = .slice ka kl kc) (hkl : kl = (P[i]).1.kids.length) (r : Nat) (hr : r ≤ kl) :
    CM (w.setCell ⟨g, i * 10 + 9, none⟩ (.slice ka r kc)) B (.slice (some ⟨g, 0, none⟩) n c) n (P.set i ({ (P[i]).1 with kids := (P[i]).1.kids.take r }, .slice ka r kc)) := by
  have hm := h.kid P[i] (List.getElem_mem hi)
  rw [hk, ← hkl] at hm
  refine h.upd i hi _ _ ?_ ?_ ?_
  · rw [ncs_set]; exact own_set h.own _ _
  · have h1 := hm.take r hr
    refine ⟨rfl, ?_⟩
    have e : ((P[i]).1.kids.take r).length = r := by simp; omega
    show World.ownsRow _ B _ 1 _ ((P[i]).1.kids.take r).length (ivs ((P[i]).1.kids.take r))
    rw [e]
    refine own_move h1.out fun b hb => heap_set_other fun e2 => ?_
    subst e2
    exact own_apart h1.out h.own (by decide) b hb rfl
  · intro b hb h1 h2
    exact heap_set_other fun e => h2 (by rw [e]; rfl)
/-- Another kid. -/
theorem CN.turnKid {w : World} {B v n P} (h : CN w B v n P) (i : Nat) (hi : i < P.length) {kg kl kc : Nat} (hk : (P[i]).2 = .slice (some ⟨kg, 0, none⟩) kl kc) (hkl : kl = (P[i]).1.kids.length) (s : Nat) (y : Int) :
    CM (w.setCell ⟨kg, s, none⟩ (.int .i64 y)) B v n (P.set i ({ (P[i]).1 with kids := (P[i]).1.kids.set s y }, .slice (some ⟨kg, 0, none⟩) kl kc)) := by
  have hm := h.kid P[i] (List.getElem_mem hi)
  rw [hk, ← hkl] at hm
  have hgb : (P[i]).2.ownBlock = some kg := by rw [hk]; rfl
  refine h.upd i hi _ _ ?_ ?_ ?_
  · have e : ncs (P.set i ({ (P[i]).1 with kids := (P[i]).1.kids.set s y }, .slice (some ⟨kg, 0, none⟩) kl kc)) = ncs P := by
      rw [ncs_set]
      refine List.ext_getElem? fun j => ?_
      rw [List.getElem?_set]
      split
      · next e =>
        subst e
        have := ncs_at P i hi 9 (by omega)
        rw [this, if_pos (by rw [ncs_len]; omega), ← hk]
        rfl
      · rfl
    rw [e]
    refine own_move h.own fun b hb => heap_set_other fun e2 => ?_
    subst e2
    exact own_apart hm.out h.own (by decide) b rfl hb
  · refine ⟨rfl, ?_⟩
    have h1 := own_set hm.out s (.int .i64 y)
    have e : ((P[i]).1.kids.set s y).length = kl := by simp; omega
    show World.ownsRow _ B _ 1 _ ((P[i]).1.kids.set s y).length (ivs ((P[i]).1.kids.set s y))
    rw [e, ivs, List.map_set]
    exact h1
  · intro b hb h1 h2
    exact heap_set_other fun e => h1 (by rw [e]; exact hgb)
/-- A kid more: its list grown (in w2), then set into the node. -/
theorem CN.more {w w1 w2 : World} {B g c n P} (h : CN w B (.slice (some ⟨g, 0, none⟩) n c) n P) (i : Nat) (hi : i < P.length) {kv kv2 : Value} (hk : (P[i]).2 = kv) (x : Int) (m : Nat) (hm : m = (P[i]).1.kids.length + 1) (h2 : OwnI w2 B kv2 m ((P[i]).1.kids ++ [x]))
    (h1 : Below w.heap.size w w1) (hg : w1.grownBy w2 kv.ownBlock) :
    CM (w2.setCell ⟨g, i * 10 + 9, none⟩ kv2) B (.slice (some ⟨g, 0, none⟩) n c) n (P.set i ({ (P[i]).1 with kids := (P[i]).1.kids ++ [x] }, kv2)) := by
  have hm0 := h.kid P[i] (List.getElem_mem hi)
  have hs1 := h1.size
  have hgl := own_block h.own (g := g) rfl
  have hgk : kv.ownBlock ≠ some g := fun e => by
    rw [← hk] at e
    exact own_apart hm0.out h.own (by decide) g e rfl
  have hrow2 : w2.ownsRow B 39 10 (.slice (some ⟨g, 0, none⟩) n c) n (ncs P) := own_move h.own fun b hb => by
    have e : g = b := by simpa [Value.ownBlock] using hb
    subst e
    rw [grown_at hg (by omega) hgk, h1.block g hgl.2]
  refine h.upd i hi _ _ ?_ ?_ ?_
  · rw [ncs_set]
    exact own_set hrow2 _ _
  · refine ⟨rfl, ?_⟩
    have e : ((P[i]).1.kids ++ [x]).length = m := by simp; omega
    show World.ownsRow _ B _ 1 _ ((P[i]).1.kids ++ [x]).length (ivs ((P[i]).1.kids ++ [x]))
    rw [e]
    refine own_move h2.out fun b hb => heap_set_other fun e2 => ?_
    subst e2
    exact own_apart h2.out hrow2 (by decide) b hb rfl
  · intro b hb e1 e2
    rw [heap_set_other (fun e => e2 (by rw [e]; rfl)), grown_at hg (by omega) (by rw [← hk]; exact e1), h1.block b hb]
theorem KNil.below {w w' : World} {no : Option Addr} {nc : Nat} {N : List Nd} (h : KNil w no N) (hN : Nodes w no nc N) (hb : Below w.heap.size w w') : KNil w' no N := ⟨fun i hi b o kc e hc => by
  obtain ⟨b', o', e', hl, _⟩ := hN.out (by intro e; simp [e] at hi)
  rw [e] at e'
  cases e'
  refine h.out i hi b o kc e ?_
  rw [← hb.cell (p := ⟨b, o + i * 10 + 9, none⟩) hl]
  exact hc⟩
end Go.Proofs.YtdgfkhdjlhgoaaaDoor
