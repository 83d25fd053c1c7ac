import Derived.Test.YtjepkcebfojiaaaDoorTrLl
import Derived.Test.YtjepkcebfojiaaaDoorTrL
import Derived.Test.YtjepkcebfojiaaaDoorTrO
import Derived.Test.YtjepkcebfojiaaaDoorTrK
set_option linter.unusedVariables false
set_option linter.unusedSimpArgs false
namespace Go.Proofs.YtjepkcebfojiaaaDoor
open Go.ChangeShapes Go.WideShapes Go.ChangeAt Go.RowKit

/-- What copied has made so far: i nodes, in the variable of block h + 1 + 1. -/
structure CI (w wr : World) (h : Nat) (no : Option Addr) (nn nc : Nat) (fo : Option Addr) (fn fc : Nat) (N : List Nd) (i : Nat) (v : Value) (P : List (Nd × Value)) : Prop where
  cn : CN wr (h + 1 + 1 + 1) v i P
  lst : P.map Prod.fst = N.take i
  box : wr.heap[h]? = some (.cells #[.slice no nn nc, .slice fo fn fc] 25 (0, 0))
  var : wr.heap[h + 1 + 1]? = some (.cells #[v, .slice none 0 0] 25 (0, 0))
  res : wr.heap[h + 1]? = some (.cells #[.slice none 0 0, .slice none 0 0] 25 (0, 0))
  bel : Below h w wr

theorem CI.next {w wr w2 w3 : World} {h : Nat} {no nn nc fo fn fc N i v P nd v3} {ka2 : Option Addr} {kl kc2 : Nat} {NA C : Array Value} (H : CI w wr h no nn nc fo fn fc N i v P) (hi : i < N.length) (hnd : nd = N[i])
    (hb2 : Below (wr.alloc (.cells NA 39)).heap.size (wr.alloc (.cells NA 39)) w2) (HKV : OwnI w2 (h + 1 + 1 + 1) (.slice ka2 kl kc2) kl nd.kids) (hkl : kl = nd.kids.length) (hkv2 : ∀ g, (Value.slice ka2 kl kc2).ownBlock = some g → (wr.alloc (.cells NA 39)).heap.size ≤ g)
    (h3 : w3.ownsRow (h + 1 + 1 + 1) 39 10 v3 (i + 1) (ncs (P ++ [(nd, .slice ka2 kl kc2)]))) (hG : ((w2.setCell ⟨wr.heap.size, 9, none⟩ (.slice ka2 kl kc2)).alloc (.cells C 39)).grownBy w3 v.ownBlock) :
    w3.heap[h + 1 + 1]? = some (.cells #[v, .slice none 0 0] 25 (0, 0)) ∧ CI w (w3.setCell ⟨h + 1 + 1, 0, none⟩ v3) h no nn nc fo fn fc N (i + 1) v3 (P ++ [(nd, .slice ka2 kl kc2)]) := by
  have hvl : h + 1 + 1 < wr.heap.size := (Array.getElem?_eq_some_iff.1 H.var).1
  have hs2 := hb2.size
  simp at hs2
  have hsz : (w2.setCell ⟨wr.heap.size, 9, none⟩ (.slice ka2 kl kc2)).heap.size = w2.heap.size := by simp [World.setCell]
  have hrow : ∀ g, v.ownBlock = some g → h + 1 + 1 + 1 ≤ g ∧ g < wr.heap.size := fun g hg => own_block H.cn.own hg
  -- what lay in wr and is not the nodes' row lies in w3
  have old : ∀ g, g < wr.heap.size → v.ownBlock ≠ some g → w3.heap[g]? = wr.heap[g]? := fun g hg hne => by
    rw [grown_at hG (by simp [hsz]; omega) hne, heap_alloc_old _ _ (by rw [hsz]; omega), heap_set_other (by omega), hb2.block g (by simp; omega)]
    exact heap_alloc_old wr _ hg
  have old2 : ∀ g, wr.heap.size + 1 ≤ g → g < w2.heap.size → w3.heap[g]? = w2.heap[g]? := fun g hg hg2 => by
    rw [grown_at hG (by simp [hsz]; omega) (fun e => by have := (hrow g e).2; omega), heap_alloc_old _ _ (by rw [hsz]; omega), heap_set_other (by omega)]
  have hvar : w3.heap[h + 1 + 1]? = some (.cells #[v, .slice none 0 0] 25 (0, 0)) := by
    rw [old _ hvl (fun e => by have := (hrow _ e).1; omega)]; exact H.var
  have kidT : ∀ p ∈ P, ∀ g, p.2.ownBlock = some g → h + 1 + 1 + 1 ≤ g ∧ g < wr.heap.size ∧ v.ownBlock ≠ some g := fun p hp g hg =>
    ⟨(own_block (H.cn.kid p hp).out hg).1, (own_block (H.cn.kid p hp).out hg).2, own_apart (H.cn.kid p hp).out H.cn.own (by decide) g hg⟩
  have newT : ∀ g, (Value.slice ka2 kl kc2).ownBlock = some g → wr.heap.size + 1 ≤ g ∧ g < w2.heap.size := fun g hg => ⟨by have := hkv2 g hg; simpa using this, (own_block HKV.out hg).2⟩
  refine ⟨hvar, ⟨⟨by simp; exact H.cn.len, own_move h3 fun g hg => heap_set_other (fun e => by have := (own_block h3 hg).1; omega), fun p hp => ?_, ?_⟩, ?_, ?_, ?_, ?_, ?_⟩⟩
  · rcases List.mem_append.1 hp with hp | hp
    · exact ⟨(H.cn.kid p hp).len, own_move (H.cn.kid p hp).out fun g hg => by
        obtain ⟨t1, t2, t3⟩ := kidT p hp g hg
        rw [heap_set_other (by omega)]; exact old g t2 t3⟩
    · simp at hp
      subst hp
      refine ⟨rfl, own_move (by rw [← hkl]; exact HKV.out) fun g hg => ?_⟩
      obtain ⟨t1, t2⟩ := newT g hg
      rw [heap_set_other (by omega)]; exact old2 g t1 t2
  · rw [List.pairwise_append]
    refine ⟨H.cn.apt, by simp, fun p hp q hq g hg => ?_⟩
    simp at hq
    subst hq
    intro hq
    have := (kidT p hp g hg).2.1
    have := (newT g hq).1
    omega
  · rw [List.map_append, H.lst, ← List.take_append_getElem hi, hnd]; rfl
  · rw [heap_set_other (by omega), old h (by omega) (fun e => by have := (hrow _ e).1; omega)]; exact H.box
  · exact heap_set_at hvar
  · rw [heap_set_other (by omega), old (h + 1) (by omega) (fun e => by have := (hrow _ e).1; omega)]; exact H.res
  · have b1 : Below h wr w2 := ((Below.refl h wr).alloc (by omega) _).trans (hb2.mono (by simp; omega))
    have b2 : Below h wr (w2.setCell ⟨wr.heap.size, 9, none⟩ (.slice ka2 kl kc2)) := b1.setCell (p := ⟨wr.heap.size, 9, none⟩) (by show h ≤ wr.heap.size; omega) _
    have b3 : Below h wr w3 := ((b2.alloc (by rw [hsz]; omega) _).grown hG (by simp [hsz]; omega) (fun k hk => by have := (hrow k hk).1; omega))
    exact (H.bel.trans b3).setCell (p := ⟨h + 1 + 1, 0, none⟩) (by show h ≤ h + 1 + 1; omega) _

structure KNil (w : World) (no : Option Addr) (N : List Nd) : Prop where
  out : ∀ (i : Nat) (hi : i < N.length) b o kc, no = some ⟨b, o, none⟩ → w.cell? ⟨b, o + i * 10 + 9, none⟩ = some (.slice none N[i].kids.length kc) → kc = 0

theorem infoN : (Tryd.prog.info? 39).map (fun i => (i.zero, i.size, i.bytes)) = some (some (.agg #[.int .i64 0, .int .i64 0, .int .i64 0, .int .i64 0, .int .i64 0, .int .i64 0, .int .i64 0, .int .i64 0, .string ⟨#[]⟩, .slice none 0 0]), 10, 104) := by kernel_rfl
theorem nc_one (n : Nd) (a : Option Addr) (m c : Nat) : ∀ u ∈ nc n (.slice a m c), u.oneCell' = true := by
  intro u hu
  simp [nc] at hu
  rcases hu with rfl | rfl | rfl | rfl | rfl | rfl | rfl | rfl | rfl | rfl <;> rfl
/-- append(nodes, n): the one node in a new row behind all others. -/
theorem wpList_append_node {w0 : World} {ops : Array Oper} {rest : List Oper} {op : Oper} {a : Act} {Q : Exit → Act → World → Prop} {C : Array Value} (hgd : op.guard = none) (s x : Operand)
    (ho : op.op = .call { callee := .builtin .append, args := #[s, x], argTypes := #[22, 22] })
    (B : Nat) (v : Value) (n g : Nat) (P : List (Nd × Value)) (nd : Nd) (ka : Option Addr) (kl kc : Nat) (hs : a.eval s = v) (hown : w0.ownsRow B 39 10 v n (ncs P)) (hx : a.eval x = .slice (some ⟨g, 0, none⟩) 1 1) (hg : g = w0.heap.size) (hC : C.toList = nc nd (.slice ka kl kc))
    (hl : n + 1 ≤ 1000000000) (hB : B ≤ w0.heap.size)
    (h : ∀ v' w', w'.ownsRow B 39 10 v' (n + 1) (ncs (P ++ [(nd, .slice ka kl kc)])) → (w0.alloc (.cells C 39)).grownBy w' v.ownBlock → wpList Tryd.prog ops Q rest (a.put op.dst v') w') : wpList Tryd.prog ops Q (op :: rest) a (w0.alloc (.cells C 39)) := by
  subst hg
  obtain ⟨i0, hi, hz0, hz1, hz2⟩ := info_parts infoN
  refine wpList_append_own _ hgd s x 22 ho B 39 i0 _ 10 104 Tryd.underlying22 hi hz0 hz1 hz2 rfl (by decide) v n (ncs P) hs (hown.alloc _) ⟨w0.heap.size, 0, none⟩ 1 1 (nc nd (.slice ka kl kc)) hx rfl (fun j u hj => ?_) (nc_one nd ka kl kc) (by unfold maxLen; omega) (by omega) (by simp; omega) ?_
  · have e : (⟨w0.heap.size, 0, none⟩ : Addr).add j = ⟨w0.heap.size, j, none⟩ := by unfold Addr.add; split <;> simp_all
    rw [e, ← hC] at *
    simpa using hj
  · intro v' w' h1 h2 _
    refine h v' w' ?_ h2
    rw [ncs_app]
    simpa [ncs] using h1

/-- What copied answers: a tree in memory of its own. -/
structure Copd (w w' : World) (nn fn : Nat) (N : List Nd) (F : List Int) (e : Ending) : Prop where
  out : ∃ (v fv : Value) (P : List (Nd × Value)), e = .returned (.agg #[v, fv]) ∧ CN w' (w.heap.size + 1 + 1 + 1) v nn P ∧ P.map Prod.fst = N ∧ OwnI w' (w.heap.size + 1 + 1 + 1) fv fn F ∧ (∀ p ∈ P, ∀ g, p.2.ownBlock = some g → fv.ownBlock ≠ some g) ∧ Below w.heap.size w w'

end Go.Proofs.YtjepkcebfojiaaaDoor
namespace Go.Proofs.YtjepkcebfojiaaaDoor
open Go.ChangeShapes Go.WideShapes Go.ChangeAt Go.RowKit

theorem total_set (K : List (List Int)) : ∀ (i : Nat) (h : i < K.length) (k : List Int), total (K.set i k) + (K[i]).length = total K + k.length := by
  induction K with
  | nil => intro i h; simp at h
  | cons a K ih =>
    intro i h k
    cases i with
    | zero => simp [total]; omega
    | succ i =>
      have := ih i (by simpa using h) k
      simp [total] at this ⊢
      omega
theorem chk_more {T : Tr} (h : chk T = true) (nd : Nd) (hk : nd.kids = []) : chk ⟨T.nodes ++ [nd], T.funcs⟩ = false := by
  apply Bool.eq_false_iff.2
  intro h2
  have t1 := stk_total _ _ _ _ (chk_stk h).1
  have t2 := stk_total _ _ _ _ (chk_stk h2).1
  simp [total, hk] at t1 t2
  omega
theorem chk_less {T : Tr} (h : chk T = true) (i : Nat) (hi : i < T.nodes.length) (nd : Nd) (hk : nd.kids.length ≠ (T.nodes[i]).kids.length) : chk ⟨T.nodes.set i nd, T.funcs⟩ = false := by
  apply Bool.eq_false_iff.2
  intro h2
  have t1 := stk_total _ _ _ _ (chk_stk h).1
  have t2 := stk_total _ _ _ _ (chk_stk h2).1
  have t3 := total_set (T.nodes.map Nd.kids) i (by simpa using hi) nd.kids
  rw [List.map_set] at t2
  simp at t1 t2 t3
  omega
theorem chk_other {T : Tr} (h : chk T = true) (i : Nat) (hi : i < T.nodes.length) (nd : Nd) (hl : nd.kids.length = (T.nodes[i]).kids.length) (hk : nd.kids ≠ (T.nodes[i]).kids) : chk ⟨T.nodes.set i nd, T.funcs⟩ = false := by
  apply Bool.eq_false_iff.2
  intro h2
  have t1 := (chk_stk h).1
  have t2 := (chk_stk h2).1
  simp only [List.map_set] at t2
  have e : (T.nodes.map Nd.kids).map List.length = ((T.nodes.map Nd.kids).set i nd.kids).map List.length := by
    rw [List.map_set]
    refine (List.ext_getElem (by simp) fun j h1 h2 => ?_)
    rw [List.getElem_set]
    split
    · next e => subst e; simp [hl]
    · rfl
  have := (stk_same _ _ _ _ _ _ t1 t2 e).1
  have h3 : (T.nodes.map Nd.kids)[i]'(by simpa using hi) = ((T.nodes.map Nd.kids).set i nd.kids)[i]'(by simpa using hi) := List.getElem_of_eq this _
  simp at h3
  exact hk h3.symm

theorem own_set {w : World} {B e s n c g M} (h : w.ownsRow B e s (.slice (some ⟨g, 0, none⟩) n c) n M) (j : Nat) (u : Value) : (w.setCell ⟨g, j, none⟩ u).ownsRow B e s (.slice (some ⟨g, 0, none⟩) n c) n (M.set j u) := by
  refine ⟨by simpa using h.1, ?_⟩
  rcases h.2 with ⟨e, _⟩ | ⟨g', cap, cur, e, e2, e3, e4, e5, e6, e7⟩
  · cases e
  · cases e
    right
    refine ⟨g, c, cur.setIfInBounds j u, rfl, e2, heap_set_at e3, e4, e5, by simpa using e6, ?_⟩
    rw [← e7]
    simp [List.take_set]
theorem ncs_set (P : List (Nd × Value)) : ∀ (i : Nat) (h : i < P.length) (k : List Int) (kv : Value), ncs (P.set i ({ (P[i]).1 with kids := k }, kv)) = (ncs P).set (i * 10 + 9) kv := by
  induction P with
  | nil => intro i h; simp at h
  | cons t ts ih =>
    intro i h k kv
    have e : ∀ (a : Nd × Value) l, ncs (a :: l) = nc a.1 a.2 ++ ncs l := fun a l => by simp [ncs]
    cases i with
    | zero =>
      rw [List.set_cons_zero, e, e, List.set_append_left _ _ (by simp [nc])]
      rfl
    | succ i =>
      rw [List.set_cons_succ, e, e, List.set_append_right _ _ (by simp [nc]; omega)]
      have := ih i (by simpa using h) k kv
      rw [show (i + 1) * 10 + 9 - (nc t.1 t.2).length = i * 10 + 9 by simp [nc]; omega, ← this]
      rfl
theorem CN.apart {w B v n P} (h : CN w B v n P) {i j : Nat} (hi : i < P.length) (hj : j < P.length) (hne : i ≠ j) : ∀ g, (P[i]).2.ownBlock = some g → (P[j]).2.ownBlock ≠ some g := by
  have ha := List.pairwise_iff_getElem.1 h.apt
  intro g h1 h2
  rcases Nat.lt_or_gt_of_ne hne with hlt | hlt
  · exact ha i j hi hj hlt g h1 h2
  · exact ha j i hj hi hlt g h2 h1
/-- One node's kids turned: all others stay. -/
theorem CN.upd {w w' : World} {B v n P} (h : CN w B v n P) (i : Nat) (hi : i < P.length) (nd : Nd) (kv : Value) (hrow : w'.ownsRow B 39 10 v n (ncs (P.set i (nd, kv)))) (hk : OwnI w' B kv nd.kids.length nd.kids)
    (hold : ∀ b, b < w.heap.size → (P[i]).2.ownBlock ≠ some b → v.ownBlock ≠ some b → w'.heap[b]? = w.heap[b]?) : CM w' B v n (P.set i (nd, kv)) := by
  refine ⟨by simpa using h.len, hrow, fun p hp => ?_⟩
  obtain ⟨j, hj, rfl⟩ := List.mem_iff_getElem.1 hp
  have hj' : j < P.length := by simpa using hj
  rw [List.getElem_set]
  split
  · exact hk
  · next hne =>
    have hm := h.kid P[j] (List.getElem_mem hj')
    exact ⟨hm.len, own_move hm.out fun g hg => hold g (own_block hm.out hg).2 (h.apart hj' hi (Ne.symm hne) g hg) (own_apart hm.out h.own (by decide) g hg)⟩
/-- A kid less. -/
theorem CN.cut {w : World} {B g c n P} (h : CN w B (.slice (some ⟨g, 0, none⟩) n c) n P) (i : Nat) (hi : i < P.length) {ka : Option Addr} {kl kc : Nat} (hk : (P[i]).2 = .slice ka kl kc) (hkl : kl = (P[i]).1.kids.length) (r : Nat) (hr : r ≤ kl) :
    CM (w.setCell ⟨g, i * 10 + 9, none⟩ (.slice ka r kc)) B (.slice (some ⟨g, 0, none⟩) n c) n (P.set i ({ (P[i]).1 with kids := (P[i]).1.kids.take r }, .slice ka r kc)) := by
  have hm := h.kid P[i] (List.getElem_mem hi)
  rw [hk, ← hkl] at hm
  refine h.upd i hi _ _ ?_ ?_ ?_
  · rw [ncs_set]; exact own_set h.own _ _
  · have h1 := hm.take r hr
    refine ⟨rfl, ?_⟩
    have e : ((P[i]).1.kids.take r).length = r := by simp; omega
    show World.ownsRow _ B _ 1 _ ((P[i]).1.kids.take r).length (ivs ((P[i]).1.kids.take r))
    rw [e]
    refine own_move h1.out fun b hb => heap_set_other fun e2 => ?_
    subst e2
    exact own_apart h1.out h.own (by decide) b hb rfl
  · intro b hb h1 h2
    exact heap_set_other fun e => h2 (by rw [e]; rfl)
/-- Another kid. -/
theorem CN.turnKid {w : World} {B v n P} (h : CN w B v n P) (i : Nat) (hi : i < P.length) {kg kl kc : Nat} (hk : (P[i]).2 = .slice (some ⟨kg, 0, none⟩) kl kc) (hkl : kl = (P[i]).1.kids.length) (s : Nat) (y : Int) :
    CM (w.setCell ⟨kg, s, none⟩ (.int .i64 y)) B v n (P.set i ({ (P[i]).1 with kids := (P[i]).1.kids.set s y }, .slice (some ⟨kg, 0, none⟩) kl kc)) := by
  have hm := h.kid P[i] (List.getElem_mem hi)
  rw [hk, ← hkl] at hm
  have hgb : (P[i]).2.ownBlock = some kg := by rw [hk]; rfl
  refine h.upd i hi _ _ ?_ ?_ ?_
  · have e : ncs (P.set i ({ (P[i]).1 with kids := (P[i]).1.kids.set s y }, .slice (some ⟨kg, 0, none⟩) kl kc)) = ncs P := by
      rw [ncs_set]
      refine List.ext_getElem? fun j => ?_
      rw [List.getElem?_set]
      split
      · next e =>
        subst e
        have := ncs_at P i hi 9 (by omega)
        rw [this, if_pos (by rw [ncs_len]; omega), ← hk]
        rfl
      · rfl
    rw [e]
    refine own_move h.own fun b hb => heap_set_other fun e2 => ?_
    subst e2
    exact own_apart hm.out h.own (by decide) b rfl hb
  · refine ⟨rfl, ?_⟩
    have h1 := own_set hm.out s (.int .i64 y)
    have e : ((P[i]).1.kids.set s y).length = kl := by simp; omega
    show World.ownsRow _ B _ 1 _ ((P[i]).1.kids.set s y).length (ivs ((P[i]).1.kids.set s y))
    rw [e, ivs, List.map_set]
    exact h1
  · intro b hb h1 h2
    exact heap_set_other fun e => h1 (by rw [e]; exact hgb)
/-- A kid more: its list grown (in w2), then set into the node. -/
theorem CN.more {w w1 w2 : World} {B g c n P} (h : CN w B (.slice (some ⟨g, 0, none⟩) n c) n P) (i : Nat) (hi : i < P.length) {kv kv2 : Value} (hk : (P[i]).2 = kv) (x : Int) (m : Nat) (hm : m = (P[i]).1.kids.length + 1) (h2 : OwnI w2 B kv2 m ((P[i]).1.kids ++ [x]))
    (h1 : Below w.heap.size w w1) (hg : w1.grownBy w2 kv.ownBlock) :
    CM (w2.setCell ⟨g, i * 10 + 9, none⟩ kv2) B (.slice (some ⟨g, 0, none⟩) n c) n (P.set i ({ (P[i]).1 with kids := (P[i]).1.kids ++ [x] }, kv2)) := by
  have hm0 := h.kid P[i] (List.getElem_mem hi)
  have hs1 := h1.size
  have hgl := own_block h.own (g := g) rfl
  have hgk : kv.ownBlock ≠ some g := fun e => by
    rw [← hk] at e
    exact own_apart hm0.out h.own (by decide) g e rfl
  have hrow2 : w2.ownsRow B 39 10 (.slice (some ⟨g, 0, none⟩) n c) n (ncs P) := own_move h.own fun b hb => by
    have e : g = b := by simpa [Value.ownBlock] using hb
    subst e
    rw [grown_at hg (by omega) hgk, h1.block g hgl.2]
  refine h.upd i hi _ _ ?_ ?_ ?_
  · rw [ncs_set]
    exact own_set hrow2 _ _
  · refine ⟨rfl, ?_⟩
    have e : ((P[i]).1.kids ++ [x]).length = m := by simp; omega
    show World.ownsRow _ B _ 1 _ ((P[i]).1.kids ++ [x]).length (ivs ((P[i]).1.kids ++ [x]))
    rw [e]
    refine own_move h2.out fun b hb => heap_set_other fun e2 => ?_
    subst e2
    exact own_apart h2.out hrow2 (by decide) b hb rfl
  · intro b hb e1 e2
    rw [heap_set_other (fun e => e2 (by rw [e]; rfl)), grown_at hg (by omega) (by rw [← hk]; exact e1), h1.block b hb]
theorem KNil.below {w w' : World} {no : Option Addr} {nc : Nat} {N : List Nd} (h : KNil w no N) (hN : Nodes w no nc N) (hb : Below w.heap.size w w') : KNil w' no N := ⟨fun i hi b o kc e hc => by
  obtain ⟨b', o', e', hl, _⟩ := hN.out (by intro e; simp [e] at hi)
  rw [e] at e'
  cases e'
  refine h.out i hi b o kc e ?_
  rw [← hb.cell (p := ⟨b, o + i * 10 + 9, none⟩) hl]
  exact hc⟩
end Go.Proofs.YtjepkcebfojiaaaDoor
