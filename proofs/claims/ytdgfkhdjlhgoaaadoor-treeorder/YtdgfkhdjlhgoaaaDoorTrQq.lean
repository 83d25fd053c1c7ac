import Derived.Test.YtdgfkhdjlhgoaaaDoorTrPp
import Derived.Test.YtdgfkhdjlhgoaaaDoorTrFf
set_option linter.unusedVariables false
set_option linter.unusedSimpArgs false
namespace Go.Proofs.YtdgfkhdjlhgoaaaDoor
open Go.ChangeShapes Go.WideShapes Go.ChangeAt Go.RowKit

theorem row_cell {w : World} {B g c n : Nat} {P : List (Nd × Value)} (h : w.ownsRow B 39 10 (.slice (some ⟨g, 0, none⟩) n c) n (ncs P)) (hl : n = P.length) (m : Nat) (hm : m < P.length) (k : Nat) (hk : k < 10) : w.cell? ⟨g, m * 10 + k, none⟩ = (nc (P[m]).1 (P[m]).2)[k]? := by
  rcases h.2 with ⟨e, _⟩ | ⟨g', cap, cur, e, e2, e3, e4, e5, e6, e7⟩
  · cases e
  · cases e
    have h1 := ncs_at P m hm k hk
    rw [← e7, List.getElem?_take, if_pos (by omega)] at h1
    have h2 : (nc (P[m]).1 (P[m]).2)[k]? = some ((nc (P[m]).1 (P[m]).2)[k]'(by simp [nc]; omega)) := List.getElem?_eq_getElem _
    rw [h2] at h1 ⊢
    have : cur[m * 10 + k]? = some ((nc (P[m]).1 (P[m]).2)[k]'(by simp [nc]; omega)) := by rw [← h1]; simp
    simp [World.cell?, e3, this]
theorem row_fz {w : World} {B g c n : Nat} {e : TypeId} {z : Nat} {M : List Value} (h : w.ownsRow B e z (.slice (some ⟨g, 0, none⟩) n c) n M) (q : Nat) : w.frozen? ⟨g, q, none⟩ = false := by
  rcases h.2 with ⟨e, _⟩ | ⟨g', cap, cur, e, e2, e3, _⟩
  · cases e
  · cases e
    exact fz_of e3
/-- A whole node written into the row, cell by cell. -/
def put10 (w : World) (g i : Nat) (k a b c d e f v : Int) (s : ByteArray) (kv : Value) : World :=
  (((((((((w.setCell ⟨g, i * 10, none⟩ (.int .i64 k)).setCell ⟨g, i * 10 + 1, none⟩ (.int .i64 a)).setCell ⟨g, i * 10 + 2, none⟩ (.int .i64 b)).setCell ⟨g, i * 10 + 3, none⟩ (.int .i64 c)).setCell ⟨g, i * 10 + 4, none⟩ (.int .i64 d)).setCell ⟨g, i * 10 + 5, none⟩ (.int .i64 e)).setCell ⟨g, i * 10 + 6, none⟩ (.int .i64 f)).setCell ⟨g, i * 10 + 7, none⟩ (.int .i64 v)).setCell ⟨g, i * 10 + 8, none⟩ (.string s)).setCell ⟨g, i * 10 + 9, none⟩ kv
theorem set_shift {x l : List Value} (hx : x.length = 10) (i k : Nat) (u : Value) : (x ++ l).set ((i + 1) * 10 + k) u = x ++ l.set (i * 10 + k) u := by
  rw [List.set_append_right _ _ (by omega), show (i + 1) * 10 + k - x.length = i * 10 + k by omega]
theorem set_shift0 {x l : List Value} (hx : x.length = 10) (i : Nat) (u : Value) : (x ++ l).set ((i + 1) * 10) u = x ++ l.set (i * 10) u := set_shift hx i 0 u
theorem ncs_set10 (P : List (Nd × Value)) (nd : Nd) (kv : Value) : ∀ (i : Nat) (h : i < P.length), ncs (P.set i (nd, kv)) = ((((((((((ncs P).set (i * 10) (.int .i64 nd.kind)).set (i * 10 + 1) (.int .i64 nd.at_)).set (i * 10 + 2) (.int .i64 nd.wh)).set (i * 10 + 3) (.int .i64 nd.close)).set (i * 10 + 4) (.int .i64 nd.decl)).set (i * 10 + 5) (.int .i64 nd.typ)).set (i * 10 + 6) (.int .i64 nd.op)).set (i * 10 + 7) (.int .i64 nd.val)).set (i * 10 + 8) (.string (bs nd.name))).set (i * 10 + 9) kv := by
  induction P with
  | nil => intro i h; simp at h
  | cons t ts ih =>
    intro i h
    have e : ∀ (a : Nd × Value) l, ncs (a :: l) = nc a.1 a.2 ++ ncs l := fun a l => by simp [ncs]
    have hl : (nc t.1 t.2).length = 10 := by simp [nc]
    cases i with
    | zero =>
      rw [List.set_cons_zero, e, e]
      rfl
    | succ i =>
      rw [List.set_cons_succ, e, e, ih i (by simpa using h)]
      simp only [set_shift hl, set_shift0 hl]
theorem own_put10 {w : World} {B g c n : Nat} {P : List (Nd × Value)} (h : w.ownsRow B 39 10 (.slice (some ⟨g, 0, none⟩) n c) n (ncs P)) (i : Nat) (hi : i < P.length) (nd : Nd) (s : ByteArray) (hs : s = bs nd.name) (kv : Value) :
    (put10 w g i nd.kind nd.at_ nd.wh nd.close nd.decl nd.typ nd.op nd.val s kv).ownsRow B 39 10 (.slice (some ⟨g, 0, none⟩) n c) n (ncs (P.set i (nd, kv))) := by
  subst hs
  rw [ncs_set10 P nd kv i hi]
  exact own_set (own_set (own_set (own_set (own_set (own_set (own_set (own_set (own_set (own_set h _ _) _ _) _ _) _ _) _ _) _ _) _ _) _ _) _ _) _ _
theorem put10_other {w : World} {g i : Nat} {k a b c d e f v : Int} {s : ByteArray} {kv : Value} {q : Nat} (h : q ≠ g) : (put10 w g i k a b c d e f v s kv).heap[q]? = w.heap[q]? := by
  unfold put10
  rw [heap_set_other h, heap_set_other h, heap_set_other h, heap_set_other h, heap_set_other h, heap_set_other h, heap_set_other h, heap_set_other h, heap_set_other h, heap_set_other h]
theorem put10_below {w w0 : World} {B g i : Nat} {k a b c d e f v : Int} {s : ByteArray} {kv : Value} (hb : Below B w0 w) (h : B ≤ g) : Below B w0 (put10 w g i k a b c d e f v s kv) := by
  unfold put10
  have st : ∀ (X : World) (q : Nat) (u : Value), Below B w0 X → Below B w0 (X.setCell ⟨g, q, none⟩ u) := fun X q u hX => hX.setCell (p := ⟨g, q, none⟩) h u
  exact st _ _ _ (st _ _ _ (st _ _ _ (st _ _ _ (st _ _ _ (st _ _ _ (st _ _ _ (st _ _ _ (st _ _ _ (st _ _ _ hb)))))))))
theorem put10_size {w : World} {g i : Nat} {k a b c d e f v : Int} {s : ByteArray} {kv : Value} : (put10 w g i k a b c d e f v s kv).heap.size = w.heap.size := by
  unfold put10
  simp [World.setCell]

theorem ncs_setTD (P : List (Nd × Value)) : ∀ (j : Nat), j < P.length → ∀ (p : Nd × Value), ncs (P.set j p) = (ncs P).take (j * 10) ++ nc p.1 p.2 ++ (ncs P).drop (j * 10 + 10) := by
  induction P with
  | nil => intro j h; simp at h
  | cons u us ih =>
    intro j hj t
    have e : ∀ (x : Nd × Value) l, ncs (x :: l) = nc x.1 x.2 ++ ncs l := fun x l => by simp [ncs]
    have l4 : (nc u.1 u.2).length = 10 := by simp [nc]
    cases j with
    | zero => rw [List.set_cons_zero, e, e, Nat.zero_mul, List.take_zero, List.nil_append, Nat.zero_add, List.drop_append, l4, List.drop_of_length_le (l := nc u.1 u.2) (by omega)]; simp
    | succ j =>
      have := ih j (by simpa using hj) t
      rw [List.set_cons_succ, e, this, e]
      rw [List.take_append, List.drop_append, l4, List.take_of_length_le (l := nc u.1 u.2) (by rw [l4]; omega), List.drop_of_length_le (l := nc u.1 u.2) (by rw [l4]; omega)]
      rw [show (j + 1) * 10 - 10 = j * 10 by omega, show (j + 1) * 10 + 10 - 10 = j * 10 + 10 by omega]
      simp
/-- A whole node is written over node j of the row. -/
theorem wpList_store_node {ops : Array Oper} {rest : List Oper} {o : Oper} {a : Act} {w : World} {Q : Exit → Act → World → Prop} (hgd : o.guard = none) (x y : Operand) (ho : o.op = .store 39 x y)
    (B g c n : Nat) (P : List (Nd × Value)) (hown : w.ownsRow B 39 10 (.slice (some ⟨g, 0, none⟩) n c) n (ncs P)) (hl : n = P.length) (j : Nat) (hj : j < P.length) (nd : Nd) (s : ByteArray) (hs : s = bs nd.name) (ka : Option Addr) (kl kc : Nat)
    (hx : a.eval x = .pointer (some ⟨g, j * 10, none⟩)) (hy : a.eval y = .agg #[.int .i64 nd.kind, .int .i64 nd.at_, .int .i64 nd.wh, .int .i64 nd.close, .int .i64 nd.decl, .int .i64 nd.typ, .int .i64 nd.op, .int .i64 nd.val, .string s, .slice ka kl kc])
    (h : ∀ w', w'.ownsRow B 39 10 (.slice (some ⟨g, 0, none⟩) n c) n (ncs (P.set j (nd, .slice ka kl kc))) → w.grownBy w' (some g) → w'.heap.size = w.heap.size → wpList Tryd.prog ops Q rest (a.put o.dst undef) w') : wpList Tryd.prog ops Q (o :: rest) a w := by
  subst hs
  rcases hown.2 with ⟨e, hn⟩ | ⟨g', cap, cur, e, hbg, hg, hnc, hcm, hcs, htake⟩
  · cases e
  · cases e
    have e4 : (nc nd (.slice ka kl kc)).length = 10 := by simp [nc]
    have hlen : j * 10 + 0 + (nc nd (.slice ka kl kc)).length ≤ cur.size := by rw [e4]; omega
    have hst := run_storeCells_at (P := Tryd.prog) g (j * 10) 39 (nc nd (.slice ka kl kc)) 0 cur w hg hlen (nc_one nd ka kl kc)
    refine wpList_plain hgd fun _ hK => ?_
    obtain ⟨i0, hi, hz0, hz1, hz2⟩ := info_parts infoN
    unfold Oper.wp execOp
    have hrun : (storeVar 39 ⟨g, j * 10, none⟩ (.agg #[.int .i64 nd.kind, .int .i64 nd.at_, .int .i64 nd.wh, .int .i64 nd.close, .int .i64 nd.decl, .int .i64 nd.typ, .int .i64 nd.op, .int .i64 nd.val, .string (bs nd.name), .slice ka kl kc])).run Tryd.prog w = .ok () (w.setRow g (cur.toList.take (j * 10) ++ nc nd (.slice ka kl kc) ++ cur.toList.drop (j * 10 + 10)).toArray) := by
      simp only [Nat.add_zero, e4] at hst
      rw [← hst]
      simp [storeVar, sizeOf, typeInfo, hi, Value.cells, hz1, nc]
    simp only [ho, hx, hy, Instr.storeAt, Instr.sureAddr, Sem.run_bind, Sem.run_pure, Result.andThen_ok, hrun]
    refine hK _ _ (h _ ⟨?_, .inr ⟨g, c, _, rfl, hbg, setRow_heap w g cur _ _ _ hg, hnc, hcm, ?_, ?_⟩⟩ ⟨rfl, rfl, rfl, by simp, fun k _ hk => setRow_other w g k _ (fun e => hk (by rw [e]))⟩ (by simp))
    · rw [ncs_len, List.length_set, hl]
    · simp only [List.size_toArray, List.length_append, List.length_take, List.length_drop, Array.length_toList, e4]
      omega
    · have hm := take_mid cur.toList (nc nd (.slice ka kl kc)) (j * 10) (n * 10) (by rw [e4]; omega) (by simp; omega)
      rw [ncs_setTD P j hj, ← htake]
      rw [e4] at hm
      exact hm

theorem swap_at (P : List (Nd × Value)) (a b : Nat) (ha : a < P.length) (hb : b < P.length) (x : Nat) (hx : x < ((P.set a P[b]).set b P[a]).length) : ∃ (y : Nat) (hy : y < P.length), y = (if x = b then a else if x = a then b else x) ∧ ((P.set a P[b]).set b P[a])[x] = P[y] := by
  have hx' : x < P.length := by simpa using hx
  by_cases h1 : x = b
  · exact ⟨a, ha, by simp [h1], by simp [h1]⟩
  · by_cases h2 : x = a
    · subst h2
      exact ⟨b, hb, by simp [h1], by rw [List.getElem_set_ne (Ne.symm h1)]; simp⟩
    · exact ⟨x, hx', by simp [h1, h2], by rw [List.getElem_set_ne (Ne.symm h1), List.getElem_set_ne (Ne.symm h2)]⟩
/-- Two nodes exchanged. -/
theorem CN.swap {w w' : World} {B v n P} (h : CN w B v n P) (a b : Nat) (ha : a < P.length) (hb : b < P.length) (hrow : w'.ownsRow B 39 10 v n (ncs ((P.set a P[b]).set b P[a]))) (hold : ∀ q, q < w.heap.size → v.ownBlock ≠ some q → w'.heap[q]? = w.heap[q]?) : CN w' B v n ((P.set a P[b]).set b P[a]) := by
  refine ⟨by simpa using h.len, hrow, fun p hp => ?_, ?_⟩
  · obtain ⟨x, hx, rfl⟩ := List.mem_iff_getElem.1 hp
    obtain ⟨y, hy, _, e⟩ := swap_at P a b ha hb x hx
    rw [e]
    have hm := h.kid P[y] (List.getElem_mem hy)
    exact ⟨hm.len, own_move hm.out fun g hg => hold g (own_block hm.out hg).2 (own_apart hm.out h.own (by decide) g hg)⟩
  · rw [List.pairwise_iff_getElem]
    intro x z hx hz hlt g h1 h2
    obtain ⟨y1, hy1, e1, q1⟩ := swap_at P a b ha hb x hx
    obtain ⟨y2, hy2, e2, q2⟩ := swap_at P a b ha hb z hz
    rw [q1] at h1
    rw [q2] at h2
    refine h.apart hy1 hy2 ?_ g h1 h2
    intro e
    rw [e1, e2] at e
    split at e <;> split at e <;> (try split at e) <;> (try split at e) <;> omega
theorem swap_mem {P : List (Nd × Value)} {a b : Nat} {ha : a < P.length} {hb : b < P.length} {p : Nd × Value} (h : p ∈ (P.set a P[b]).set b P[a]) : p ∈ P := by
  obtain ⟨x, hx, rfl⟩ := List.mem_iff_getElem.1 h
  obtain ⟨y, hy, _, e⟩ := swap_at P a b ha hb x hx
  rw [e]
  exact List.getElem_mem hy
/-- turn upon another row. -/
theorem CN.trn {w w' : World} {B v n P fv fn F} (h : CN w B v n P) (ht : Trn w w' B fv fn F) (h1 : ∀ p ∈ P, ∀ g, p.2.ownBlock = some g → fv.ownBlock ≠ some g) (h2 : ∀ g, v.ownBlock = some g → fv.ownBlock ≠ some g) : CN w' B v n P :=
  ⟨h.len, own_move h.own fun g hg => ht.oth g (h2 g hg), fun p hp => ⟨(h.kid p hp).len, own_move (h.kid p hp).out fun g hg => ht.oth g (h1 p hp g hg)⟩, h.apt⟩
def tn (i j : Int) (p : Nd × Value) : Nd × Value := ({ p.1 with kids := p.1.kids.map (sw i j) }, p.2)
def tkP (i j : Int) (P : List (Nd × Value)) (k : Nat) : List (Nd × Value) := (P.take k).map (tn i j) ++ P.drop k
theorem tkP_len (i j : Int) (P : List (Nd × Value)) (k : Nat) (h : k ≤ P.length) : (tkP i j P k).length = P.length := by simp [tkP]; omega
theorem tkP_at (i j : Int) (P : List (Nd × Value)) (k : Nat) (h : k < P.length) (h' : k < (tkP i j P k).length) : (tkP i j P k)[k] = P[k] := by
  have : (tkP i j P k)[k]? = some P[k] := by
    unfold tkP
    rw [List.getElem?_append_right (by simp; omega)]
    simp [Nat.min_eq_left (Nat.le_of_lt h), h]
  rw [List.getElem?_eq_getElem h'] at this
  exact Option.some.inj this
theorem tkP_next (i j : Int) (P : List (Nd × Value)) (k : Nat) (h : k < P.length) : tkP i j P (k + 1) = (tkP i j P k).set k (tn i j P[k]) := by
  unfold tkP
  have hl : ((P.take k).map (tn i j)).length = k := by simp; omega
  rw [List.set_append_right _ _ (by omega), hl, Nat.sub_self, List.drop_eq_getElem_cons h, List.set_cons_zero, List.take_succ_eq_append_getElem h, List.map_append, List.append_assoc]
  rfl
theorem tkP_end (i j : Int) (P : List (Nd × Value)) (k : Nat) (h : P.length ≤ k) : tkP i j P k = P.map (tn i j) := by
  unfold tkP
  rw [List.take_of_length_le h, List.drop_of_length_le h]
  simp
theorem tkP_vals (i j : Int) (P : List (Nd × Value)) (k : Nat) : (tkP i j P k).map Prod.snd = P.map Prod.snd := by
  unfold tkP
  rw [List.map_append, List.map_map, show (Prod.snd ∘ tn i j) = Prod.snd from rfl, ← List.map_append, List.take_append_drop]
/-- turn upon one node's kids. -/
theorem CN.turned {w w' : World} {B v n P} (i j : Int) (h : CN w B v n P) (k : Nat) (hk : k < P.length) (ht : Trn w w' B (P[k]).2 (P[k]).1.kids.length ((P[k]).1.kids.map (sw i j))) : CN w' B v n (P.set k (tn i j P[k])) := by
  have hm := h.kid P[k] (List.getElem_mem hk)
  have hrow : w'.ownsRow B 39 10 v n (ncs (P.set k (tn i j P[k]))) := by
    have e : ncs (P.set k (tn i j P[k])) = ncs P := by
      rw [tn, ncs_set]
      refine List.ext_getElem? fun q => ?_
      rw [List.getElem?_set]
      split
      · next e =>
        subst e
        have := ncs_at P k hk 9 (by omega)
        rw [this, if_pos (by rw [ncs_len]; omega)]
        rfl
      · rfl
    rw [e]
    exact own_move h.own fun g hg => ht.oth g fun e2 => own_apart hm.out h.own (by decide) g e2 hg
  have hc := h.upd (w' := w') k hk (tn i j P[k]).1 (tn i j P[k]).2 hrow ⟨rfl, by
    have := ht.own.out
    simp only [tn, List.length_map]
    exact this⟩ (fun b _ h1 _ => ht.oth b h1)
  refine ⟨hc.len, hc.own, hc.kid, ?_⟩
  have hv : (P.set k (tn i j P[k])).map Prod.snd = P.map Prod.snd := by
    rw [List.map_set]
    refine List.ext_getElem (by simp) fun q h1 h2 => ?_
    rw [List.getElem_set]
    split
    · next e => subst e; simp [tn]
    · rfl
  have ha := h.apt
  have hp : ∀ Q : List (Nd × Value), (Q.Pairwise fun p q => ∀ g, p.2.ownBlock = some g → q.2.ownBlock ≠ some g) ↔ (Q.map Prod.snd).Pairwise fun p q => ∀ g, p.ownBlock = some g → q.ownBlock ≠ some g := fun Q => by rw [List.pairwise_map]
  rw [hp] at ha ⊢
  rw [hv]
  exact ha
theorem swap_kids {P : List (Nd × Value)} {N : List Nd} (h : P.map Prod.fst = N) (a b : Nat) (ha : a < P.length) (hb : b < P.length) (hA : a < (N.map Nd.kids).length) (hB : b < (N.map Nd.kids).length) :
    ((((P.set a P[b]).set b P[a]).map (tn a b)).map Prod.fst).map Nd.kids = (((N.map Nd.kids).set a (N.map Nd.kids)[b]).set b (N.map Nd.kids)[a]).map (·.map (sw a b)) := by
  subst h
  simp only [List.map_set, List.getElem_map, List.map_map]
  rfl
end Go.Proofs.YtdgfkhdjlhgoaaaDoor
