import Derived.Test.YtplpgeocidllfaaOrA
import Derived.Deep.LoopGhost
import Derived.WalkMore
import Derived.Deep.OwnRows
import Derived.Laws.OwnMore
import Derived.Laws.AppendOwnNone
import Derived.Deep.Cut
import Derived.BigRegion
import Derived.Deep.RegionHeld
import Derived.Deep.RegionHeld3
set_option linter.unusedVariables false
set_option linter.unusedSimpArgs false
namespace Go.Proofs.Ytplpgeocidllfaa
open Go.ChangeShapes Go.WideShapes Go.ChangeAt Go.RowKit Go.Maps

def brs (op : List (Int × Nat)) : List Value := op.flatMap fun p => [.int .i64 p.1, .int .i64 (p.2 : Int)]
theorem brs_len (op : List (Int × Nat)) : (brs op).length = op.length * 2 := by
  induction op with
  | nil => rfl
  | cons p op ih => simp [brs] at ih ⊢; omega
theorem brs_app (a b : List (Int × Nat)) : brs (a ++ b) = brs a ++ brs b := by simp [brs]
/-- The way that is open, in a row of its own. -/
structure OwnS (w : World) (B : Nat) (v : Value) (op : List (Int × Nat)) : Prop where
  out : w.ownsRow B 41 2 v op.length (brs op)
theorem OwnS.top {w : World} {B : Nat} {v : Value} {st : List (Int × Nat)} {b : Int} {t : Nat} (h : OwnS w B v (st ++ [(b, t)])) : ∃ g c, v = .slice (some ⟨g, 0, none⟩) (st.length + 1) c ∧ st.length + 1 ≤ c ∧ c ≤ 9223372036854775807 ∧ g < w.heap.size ∧ w.cell? ⟨g, st.length * 2, none⟩ = some (.int .i64 b) ∧ w.cell? ⟨g, st.length * 2 + 1, none⟩ = some (.int .i64 (t : Int)) ∧ w.frozen? ⟨g, st.length * 2 + 1, none⟩ = false := by
  have hl : (st ++ [(b, t)]).length = st.length + 1 := by simp
  obtain ⟨g, c, e, h1, h2, h3, h4⟩ := own_some h.out (by simp)
  have ho := h.out
  rw [e, hl] at ho
  rw [hl] at e h1
  refine ⟨g, c, e, h1, h2, h4, ?_, ?_, own_fz ho _⟩
  · rw [own_cell ho _ (by omega), brs_app, List.getElem?_append_right (by rw [brs_len]; omega), brs_len]
    simp [brs]
  · rw [own_cell ho _ (by omega), brs_app, List.getElem?_append_right (by rw [brs_len]; omega), brs_len]
    simp [brs]
theorem OwnS.set {w : World} {B g c : Nat} {st : List (Int × Nat)} {b : Int} {t : Nat} (h : OwnS w B (.slice (some ⟨g, 0, none⟩) (st.length + 1) c) (st ++ [(b, t)])) (t' : Nat) : OwnS (w.setCell ⟨g, st.length * 2 + 1, none⟩ (.int .i64 (t' : Int))) B (.slice (some ⟨g, 0, none⟩) (st.length + 1) c) (st ++ [(b, t')]) := by
  have hl : ∀ t : Nat, (st ++ [(b, t)]).length = st.length + 1 := fun t => by simp
  have ho := h.out
  rw [hl] at ho
  have := own_set ho (st.length * 2 + 1) (by omega) (.int .i64 (t' : Int))
  refine ⟨?_⟩
  rw [hl]
  have e : (brs (st ++ [(b, t)])).set (st.length * 2 + 1) (.int .i64 (t' : Int)) = brs (st ++ [(b, t')]) := by
    rw [brs_app, brs_app, List.set_append_right _ _ (by rw [brs_len]; omega), brs_len, show st.length * 2 + 1 - st.length * 2 = 1 by omega]
    simp [brs]
  rw [e] at this
  exact this
theorem OwnS.cut {w : World} {B g c : Nat} {st : List (Int × Nat)} {b : Int} {t : Nat} (h : OwnS w B (.slice (some ⟨g, 0, none⟩) (st.length + 1) c) (st ++ [(b, t)])) : OwnS w B (.slice (some ⟨g, 0, none⟩) st.length c) st := by
  have ho := h.out
  rw [show (st ++ [(b, t)]).length = st.length + 1 by simp] at ho
  rcases ho.2 with ⟨e, _⟩ | ⟨g', cap, cur, e, e2, e3, e4, e5, e6, e7⟩
  · cases e
  · cases e
    refine ⟨⟨brs_len _, .inr ⟨g, c, cur, rfl, e2, e3, by omega, e5, e6, ?_⟩⟩⟩
    have := congrArg (List.take (st.length * 2)) e7
    rw [List.take_take, Nat.min_eq_left (by omega), brs_app, List.take_append_of_le_length (by rw [brs_len]; omega), List.take_of_length_le (l := brs st) (by rw [brs_len]; omega)] at this
    exact this
theorem OwnS.move {w w' : World} {B v op} (h : OwnS w B v op) (hk : ∀ g, v.ownBlock = some g → w'.heap[g]? = w.heap[g]?) : OwnS w' B v op := ⟨own_move h.out hk⟩
theorem info49 : (Try.prog.info? 41).map (fun i => (i.zero, i.size, i.bytes)) = some (some (.agg #[.int .i64 0, .int .i64 0]), 2, 16) := by kernel_rfl
theorem cell_two_newI (w : World) (a b : Value) (t : TypeId) : ∀ j u, [a, b][j]? = some u → (w.alloc (.cells #[a, b] t)).cell? ((⟨w.heap.size, 0, none⟩ : Addr).add j) = some u := by
  intro j u hj
  match j, hj with
  | 0, hj => simp at hj; subst hj; simp [Addr.add]
  | 1, hj => simp at hj; subst hj; simp [Addr.add]
  | j + 2, hj => simp at hj
/-- append(way, open{b, l}). -/
theorem step_append_op {w : World} {ops : Array Oper} {op : Oper} {a : Act} {K : Act → World → Prop} {Q : Exit → Act → World → Prop} {E : Prop} (hgd : op.guard = none) (s x : Operand)
    (ho : op.op = .call { callee := .builtin .append, args := #[s, x], argTypes := #[39, 39] })
    (B : Nat) (v : Value) (L : List (Int × Nat)) (y : Int) (t : Nat) (hs : a.eval s = v) (hown : OwnS w B v L) (g : Nat) (hx : a.eval x = .slice (some ⟨g, 0, none⟩) 1 1) (hc : ∀ j u, [Value.int .i64 y, .int .i64 (t : Int)][j]? = some u → w.cell? ((⟨g, 0, none⟩ : Addr).add j) = some u)
    (hl : L.length + 1 ≤ 1759218604441) (hB : B ≤ w.heap.size)
    (h : ∀ v' w', OwnS w' B v' (L ++ [(y, t)]) → GI B w w' v v' → K (a.put op.dst v') w') : if Region.wanted op (yielded ops a.tmps) = true then Oper.wp Try.prog op a w K Q else E := by
  have hw : Region.wanted op (yielded ops a.tmps) = true := by simp [Region.wanted, hgd]
  rw [if_pos hw]
  obtain ⟨i0, hi, hz0, hz1, hz2⟩ := info_parts info49
  obtain ⟨v', w', hr, h2, h3, h4⟩ := run_append_where (P := Try.prog) (w := w) B 39 op.type 41 i0 (.agg #[.int .i64 0, .int .i64 0]) 2 16 Try.underlying39 hi hz0 hz1 hz2 rfl (by decide) v L.length (brs L) hown.out ⟨g, 0, none⟩ 1 1 (by omega) [.int .i64 y, .int .i64 (t : Int)] rfl hc (fun u hu => by simp at hu; rcases hu with rfl | rfl <;> rfl) (by unfold maxLen; omega) (by omega) hB
  unfold Oper.wp execOp
  simp only [ho, resolve, invoke, builtin, Sem.run_bind, Sem.run_pure, Result.andThen_ok, List.map_toArray, List.map_cons, List.map_nil, hs, hx, hr]
  refine h v' w' ⟨?_⟩ ⟨?_, fun b h5 h6 => grown_at h3 h5 h6, fun b hb => ?_⟩
  · have e : (L ++ [((y, t) : Int × Nat)]).length = L.length + 1 := by simp
    rw [e, brs_app]
    exact h2
  · exact (Below.refl _ _).grown h3 hB (fun k hk => (own_block hown.out hk).1)
  · rcases h4.out with ⟨g', cap, e1, e2⟩ | ⟨e1, _⟩
    · subst e1 e2; exact .inl hb
    · rw [e1] at hb; cases hb; right; exact Nat.le_refl _
structure Bls (w : World) (ao : Option Addr) (cap : Nat) (L : List Bool) : Prop where
  le : L.length ≤ cap
  mx : cap ≤ 9223372036854775807
  out : L ≠ [] → ∃ b o, ao = some ⟨b, o, none⟩ ∧ b < w.heap.size ∧ ∀ i (h : i < L.length), w.cell? ⟨b, o + i, none⟩ = some (.bool L[i])
theorem Bls.below {w w' ao cap L K} (h : Bls w ao cap L) (hb : Below K w w') (hK : w.heap.size ≤ K) : Bls w' ao cap L :=
  ⟨h.le, h.mx, fun hn => by
    obtain ⟨b, o, e, h1, h2⟩ := h.out hn
    exact ⟨b, o, e, by have := hb.size; omega, fun i hi => by rw [hb.cell (p := ⟨b, o + i, none⟩) (by show b < K; omega)]; exact h2 i hi⟩⟩
theorem Bls.at {w ao cap L} (h : Bls w ao cap L) {j : Nat} (hj : j < L.length) : ∃ b o, ao = some ⟨b, o, none⟩ ∧ w.cell? ⟨b, o + j, none⟩ = some (.bool L[j]) := by
  obtain ⟨b, o, e, _, hA⟩ := h.out (by intro e; rw [e] at hj; simp at hj)
  exact ⟨b, o, e, hA j hj⟩
theorem made_own (w : World) (B : Nat) (hB : B ≤ w.heap.size) (z : Value) (e : TypeId) (n : Nat) (hn : n ≤ 9223372036854775807) : (w.alloc (.cells (madeCells #[z] n) e)).ownsRow B e 1 (.slice (some ⟨w.heap.size, 0, none⟩) n n) n (List.replicate n z) :=
  ⟨by simp, .inr ⟨w.heap.size, n, madeCells #[z] n, rfl, hB, heap_alloc_new _ _, Nat.le_refl _, by unfold maxLen; omega, by rw [size_madeCells]; omega, by rw [toList_madeCells_one, List.take_of_length_le (by simp)]⟩⟩
/-- A slice of bools in a row of its own. -/
structure OwnBl (w : World) (B : Nat) (v : Value) (n : Nat) (L : List Bool) : Prop where
  len : n = L.length
  out : w.ownsRow B 4 1 v n (L.map Value.bool)
theorem OwnBl.nil (w : World) (B : Nat) : OwnBl w B (.slice none 0 0) 0 [] := ⟨rfl, World.ownsRow_nil _ _ _ _⟩
theorem OwnBl.keep {w w' B v n L} (h : OwnBl w B v n L) (hb : Below w.heap.size w w') : OwnBl w' B v n L := ⟨h.len, own_keep h.out hb.block⟩
theorem OwnBl.move {w w' : World} {B v n L} (h : OwnBl w B v n L) (hk : ∀ g, v.ownBlock = some g → w'.heap[g]? = w.heap[g]?) : OwnBl w' B v n L := ⟨h.len, own_move h.out hk⟩
theorem OwnBl.bls {w B v n L} (h : OwnBl w B v n L) : ∃ ao c, v = .slice ao n c ∧ Bls w ao c L := by
  obtain ⟨ao, c, e, h1, h2⟩ := own_slice h.out
  subst e
  refine ⟨ao, c, rfl, by rw [← h.len]; exact h1, h2, fun hn => ?_⟩
  have hp : 0 < n := by rw [h.len]; exact List.length_pos_iff.2 hn
  obtain ⟨g, c', e, _, _, hB, hg⟩ := own_some h.out hp
  cases e
  refine ⟨g, 0, rfl, hg, fun i hi => ?_⟩
  have := own_cell h.out i (by rw [h.len]; omega)
  rw [Nat.zero_add, this]
  simp [hi]
theorem OwnBl.set {w : World} {B g c n : Nat} {L : List Bool} (h : OwnBl w B (.slice (some ⟨g, 0, none⟩) n c) n L) (q : Nat) (hq : q < n) (u : Bool) : OwnBl (w.setCell ⟨g, q, none⟩ (.bool u)) B (.slice (some ⟨g, 0, none⟩) n c) n (L.set q u) :=
  ⟨by simpa using h.len, by have := own_set h.out q (by omega) (.bool u); rwa [← List.map_set] at this⟩
theorem infoBool : (Try.prog.info? 4).map (fun i => (i.zero, i.size, i.bytes)) = some (some (.bool false), 1, 1) := by kernel_rfl
def rch (n : Nat) (bl : List Int) : List Bool := (List.range n).map fun i : Nat => decide ((i : Int) ∈ bl)
theorem rch_len (n : Nat) (bl : List Int) : (rch n bl).length = n := by simp [rch]
theorem rch_nil (n : Nat) : rch n [] = List.replicate n false := by
  refine List.ext_getElem (by simp [rch]) fun i h1 h2 => ?_
  simp [rch]
theorem rch_set (n : Nat) (bl : List Int) (b : Nat) : (rch n bl).set b true = rch n (bl ++ [(b : Int)]) := by
  refine List.ext_getElem (by simp [rch]) fun i h1 h2 => ?_
  rw [List.getElem_set]
  simp only [rch, List.getElem_map, List.getElem_range, List.mem_append, List.mem_singleton]
  by_cases e : b = i
  · subst e; simp
  · rw [if_neg e]
    have : ¬ ((i : Int) = b) := by omega
    simp [this]
def MR (w : World) (gm n : Nat) (ml : List Int) : Prop := w.heap[gm]? = some (.cells ((rch n ml).map Value.bool).toArray 4 (0, 0))
theorem MR.set {w : World} {gm n b : Nat} {ml : List Int} (h : MR w gm n ml) : MR (w.setCell ⟨gm, b, none⟩ (.bool true)) gm n (ml ++ [(b : Int)]) := by
  have := heap_set_at (i := b) (v := .bool true) h
  unfold MR
  rw [this, ← rch_set]
  simp [List.map_set]
theorem MR.cell {w : World} {gm n b : Nat} {ml : List Int} (h : MR w gm n ml) (hb : b < n) : w.cell? ⟨gm, b, none⟩ = some (.bool (decide ((b : Int) ∈ ml))) := by
  refine cell_arr h ?_
  simp [rch, hb]
/-- In whatever order a region goes on: the condition holds behind each operation but number z, which waits for all others. -/
def led (P : Program) (ops : Array Oper) (Q : Exit → Act → World → Prop) (S : World → Prop) (z : Nat) : Nat → Array Bool → Act → World → Prop
  | 0, l, a, w => Region.ready .any ops l = [] ∧ Q .normal a w
  | k + 1, l, a, w => (Region.ready .any ops l = [] → Q .normal a w) ∧ ∀ i ∈ Region.ready .any ops l, wpOp P ops Q i (fun a' w' => (i ≠ z → S w') ∧ led P ops Q S z k (l.setIfInBounds i true) a' w') a w
theorem led_any {P : Program} {ops : Array Oper} {Q : Exit → Act → World → Prop} {S : World → Prop} {z : Nat} : ∀ (k : Nat) (l : Array Bool) (a : Act) (w : World), led P ops Q S z k l a w → wpAny P .any ops Q k l a w
  | 0, _, _, _, h => h
  | k + 1, _, _, _, h => ⟨h.1, fun i hi => wpOp_mono (fun a' w' h' => led_any k _ a' w' h'.2) (h.2 i hi)⟩
/-- Number z waits for number i. -/
def waitsFor (ops : Array Oper) (z i : Nat) : Bool := match ops[z]? with
  | some o => o.after.any fun e => Region.binds .any e && e.on == i
  | none => false
theorem not_yet {ops : Array Oper} {z i : Nat} {l : Array Bool} (hw : waitsFor ops z i = true) (hi : i ∈ Region.ready .any ops l) : z ∉ Region.ready .any ops l := by
  intro hz
  obtain ⟨_, o, ho, hall⟩ := mem_ready.1 hz
  unfold waitsFor at hw
  rw [ho] at hw
  simp only [Array.any_eq_true', Bool.and_eq_true, beq_iff_eq] at hw
  obtain ⟨e, he, hb, hon⟩ := hw
  have h1 := hall e he hb
  have h0 := (mem_ready.1 hi).1
  rw [hon] at h1
  rcases Nat.lt_or_ge i l.size with h' | h'
  · simp [h'] at h0 h1; rw [h0] at h1; cases h1
  · simp [Array.getElem?_eq_none h'] at h1
theorem led_first {P : Program} {ops : Array Oper} {Q : Exit → Act → World → Prop} {S : World → Prop} {z i : Nat} {oi : Oper} {v : Value} (hi : ops[i]? = some oi) (hsel : ∀ (j : Nat) (o : Oper) cs b, ops[j]? = some o → o.op ≠ .select cs b) (hQ : ∀ c a w, Q (.panic c) (a.put oi.dst v) w → Q (.panic c) a w) (hz : waitsFor ops z i = true) (hzi : i ≠ z) :
    ∀ (k : Nat) (l : Array Bool) (a : Act) (w : World), (∀ j oj, ops[j]? = some oj → j ≠ i → l.getD j true = false → (∀ e ∈ oj.after, Region.binds .any e = true → e.on ≠ i) → oi.apart ops oj = true) → i ∈ Region.ready .any ops l → YieldsIf P ops S oi v a → S w → led P ops Q S z k (l.setIfInBounds i true) (a.put oi.dst v) w → led P ops Q S z (k + 1) l a w := by
  intro k
  induction k with
  | zero =>
    intro l a w _ hr hy hS H
    refine ⟨fun h => absurd hr (by rw [h]; simp), fun j hj => ?_⟩
    by_cases e : j = i
    · subst e
      exact hy.wpOp hi hS ⟨fun _ => hS, H⟩
    · have h1 := ready_mono hj e
      rw [H.1] at h1
      simp at h1
  | succ k ih =>
    intro l a w hfree hr hy hS H
    refine ⟨fun h => absurd hr (by rw [h]; simp), fun j hj => ?_⟩
    by_cases e : j = i
    · subst e
      exact hy.wpOp hi hS ⟨fun _ => hS, H⟩
    · have hjz : j ≠ z := fun e2 => not_yet hz hr (e2 ▸ hj)
      obtain ⟨hun, oj, hoj, hall⟩ := mem_ready.1 hj
      have hno : ∀ e ∈ oj.after, Region.binds .any e = true → e.on ≠ i := fun x hx hb heq => by
        have h1 := hall x hx hb
        have h0 := (mem_ready.1 hr).1
        rw [heq] at h1
        rcases Nat.lt_or_ge i l.size with h' | h'
        · simp [h'] at h0 h1; rw [h0] at h1; cases h1
        · simp [Array.getElem?_eq_none h'] at h1
      have h2 := wpOp_putIf hoj (hfree j oj hoj e hun hno) (fun cs b => hsel i oi cs b hi) (fun cs b => hsel j oj cs b hoj) hQ hy (H.2 j (ready_mono hj e))
      refine wpOp_mono (fun a' w' h3 => ⟨fun _ => h3.2.1 hjz, ih (l.setIfInBounds j true) a' w' ?_ (ready_mono hr (Ne.symm e)) h3.1 (h3.2.1 hjz) ?_⟩) h2
      · intro m om hm hmi hmun hmno
        refine hfree m om hm hmi ?_ hmno
        by_cases ejm : j = m
        · subst ejm; exact hun
        · rw [getD_set_ne true ejm] at hmun; exact hmun
      · rw [Array.setIfInBounds_comm _ _ e]
        exact h3.2.2
theorem led_take {P : Program} {ops : Array Oper} {Q : Exit → Act → World → Prop} {S : World → Prop} {z i : Nat} {oi : Oper} {v : Value} {k : Nat} {l : Array Bool} {a : Act} {w : World} (hi : ops[i]? = some oi) (hs : Region.noSelect ops = true) (hf : Region.free .any ops l i = true) (hr : (Region.ready .any ops l).contains i = true) (hz : (waitsFor ops z i && i != z) = true)
    (hQ : ∀ c a w, Q (.panic c) (a.put oi.dst v) w → Q (.panic c) a w) (hy : YieldsIf P ops S oi v a) (hS : S w) (h : led P ops Q S z k (l.setIfInBounds i true) (a.put oi.dst v) w) : led P ops Q S z (k + 1) l a w := by
  simp only [Bool.and_eq_true, bne_iff_ne, ne_eq] at hz
  exact led_first hi (Region.noSelect_spec hs) hQ hz.1 hz.2 k l a w (Region.free_spec hi hf) (by simpa using hr) hy hS h
theorem led_one {P : Program} {ops : Array Oper} {Q : Exit → Act → World → Prop} {S : World → Prop} {z i : Nat} {oi : Oper} {k : Nat} {l : Array Bool} {a : Act} {w : World} (hi : ops[i]? = some oi) (hr : Region.ready .any ops l = [i])
    (h : ∀ K' : Act → World → Prop, (∀ a' w', (i ≠ z → S w') → led P ops Q S z k (l.setIfInBounds i true) a' w' → K' a' w') → if Region.wanted oi (yielded ops a.tmps) = true then Oper.wp P oi a w K' Q else K' (a.put oi.dst undef) w) : led P ops Q S z (k + 1) l a w := by
  refine ⟨fun h0 => absurd h0 (by rw [hr]; simp), fun j hj => ?_⟩
  rw [hr] at hj
  simp at hj
  subst hj
  exact wpOp_step hi fun K' hK => h K' fun a' w' h1 h2 => hK a' w' ⟨h1, h2⟩
theorem led_done {P : Program} {ops : Array Oper} {Q : Exit → Act → World → Prop} {S : World → Prop} {z : Nat} {l : Array Bool} {a : Act} {w : World} (hr : Region.ready .any ops l = []) (h : Q .normal a w) : led P ops Q S z 0 l a w := ⟨hr, h⟩
theorem led_start {P : Program} {id : Nat} {ops : Array Oper} {Q : Exit → Act → World → Prop} {S : World → Prop} {z : Nat} {a : Act} {w : World} (hm : P.follows .mixedOrders = true) (h : led P ops Q S z ops.size (Array.replicate ops.size false) a w.drew) : (Code.region id ops true).wp P Q a w :=
  wp_region_any hm (led_any _ _ _ _ h)
theorem ivs_at {L : List Int} {i : Nat} (h : i < L.length) : (ivs L).toArray[i]? = some (.int .i64 L[i]) := by simp [ivs, h]
theorem ints_exact {w : World} {g : Nat} {L : List Int} (h : w.heap[g]? = some (.cells (ivs L).toArray 3 (0, 0))) (hl : L.length ≤ 9223372036854775807) : Ints w (some ⟨g, 0, none⟩) L.length L :=
  ⟨Nat.le_refl _, hl, fun _ => ⟨g, 0, rfl, (Array.getElem?_eq_some_iff.1 h).1, fun i hi => by rw [Nat.zero_add]; exact cell_arr h (ivs_at hi)⟩⟩
/-- A list of lists, each row of which is at hand. -/
theorem irow_exact {w : World} {g : Nat} {Ls : List (List Int)} {vs : List Value} (h : w.heap[g]? = some (.cells vs.toArray 27 (0, 0))) (hl : Ls.length ≤ 9223372036854775807) (hv : vs.length = Ls.length) (hr : ∀ i (hi : i < Ls.length), ∃ a c, vs[i]? = some (.slice a Ls[i].length c) ∧ Ints w a c Ls[i]) : IRow w (some ⟨g, 0, none⟩) Ls.length Ls :=
  ⟨Nat.le_refl _, hl, fun _ => ⟨g, 0, rfl, (Array.getElem?_eq_some_iff.1 h).1, fun i hi => by
    obtain ⟨a, c, h1, h2⟩ := hr i hi
    exact ⟨a, c, by rw [Nat.zero_add]; exact cell_arr h (by simpa using h1), h2⟩⟩⟩
theorem add_none (b o j : Nat) : (⟨b, o, none⟩ : Addr).add j = ⟨b, o + j, none⟩ := by
  cases j with
  | zero => simp [Addr.add]
  | succ j => simp [Addr.add]
theorem run_copyI {w : World} (B : Nat) (ty : TypeId) (xo : Option Addr) (m c : Nat) (M : List Int) (hm : m = M.length) (hI : Ints w xo c M) (hnz : xo = none → c = 0) (hl : m ≤ 17592186044416) (hB : B ≤ w.heap.size) :
    ∃ v' w', (Builtin.append_ #[27, 27] ty #[.slice none 0 0, .slice xo m c]).run Try.prog w = .ok v' w' ∧ OwnI w' B v' m M ∧ Below w.heap.size w w' := by
  obtain ⟨i0, hi, hz0, hz1, hz2⟩ := info_parts info3i
  cases xo with
  | none =>
    have hM : M = [] := by
      cases M with
      | nil => rfl
      | cons y l => obtain ⟨b, o, e, _⟩ := hI.out (by simp); cases e
    subst hM
    simp at hm
    subst hm
    rw [hnz rfl]
    exact ⟨_, _, run_append_owned_none (P := Try.prog) (w := w) B 27 ty 3 i0 1 Try.underlying27 hi (.slice none 0 0) 0 [] (World.ownsRow_nil _ _ _ _), OwnI.nil _ _, Below.refl _ _⟩
  | some ad =>
    have hc : ∀ j u, (ivs M)[j]? = some u → w.cell? (ad.add j) = some u := by
      intro j u hj
      have hjl : j < M.length := by
        have := (List.getElem?_eq_some_iff.1 hj).1
        simpa [ivs] using this
      obtain ⟨b, o, e, hA⟩ := hI.out (by intro e; rw [e] at hjl; simp at hjl)
      cases e
      have := hA.cell j hjl
      rw [add_none, this]
      simp [ivs, hjl] at hj
      rw [hj]
    obtain ⟨v', w', hr, h2, h3, h4⟩ := run_append_own (P := Try.prog) w B 27 ty 3 i0 (.int .i64 0) 1 8 Try.underlying27 hi hz0 hz1 hz2 rfl (by decide) (.slice none 0 0) 0 [] (World.ownsRow_nil _ _ _ _) ad m c (ivs M) (by simp [ivs, hm]) hc (ivs_one M) (by unfold maxLen; omega) (by omega) hB
    exact ⟨v', w', hr, ⟨hm, by simpa using h2⟩, (Below.refl _ _).grown h3 (Nat.le_refl _) (fun k hk => by simp [Value.ownBlock] at hk)⟩
/-- The same two where they stand behind a guard. -/
theorem wpList_copyW {w : World} {ops : Array Oper} {rest : List Oper} {op : Oper} {a : Act} {Q : Exit → Act → World → Prop} (hw : Region.wanted op (yielded ops a.tmps) = true) (s x : Operand)
    (ho : op.op = .call { callee := .builtin .append, args := #[s, x], argTypes := #[27, 27] })
    (B : Nat) (hs : a.eval s = .slice none 0 0) (xo : Option Addr) (m c : Nat) (M : List Int) (hm : m = M.length) (hI : Ints w xo c M) (hnz : xo = none → c = 0) (hx : a.eval x = .slice xo m c) (hl : m ≤ 17592186044416) (hB : B ≤ w.heap.size)
    (h : ∀ v' w', OwnI w' B v' m M → Below w.heap.size w w' → wpList Try.prog ops Q rest (a.put op.dst v') w') : wpList Try.prog ops Q (op :: rest) a w := by
  obtain ⟨v', w', hr, h1, h2⟩ := run_copyI B op.type xo m c M hm hI hnz hl hB
  refine wpList_step fun K hK => ?_
  rw [if_pos hw]
  unfold Oper.wp execOp
  simp only [ho, resolve, invoke, builtin, Sem.run_bind, Sem.run_pure, Result.andThen_ok, List.map_toArray, List.map_cons, List.map_nil, hs, hx, hr]
  exact hK _ _ (h v' w' h1 h2)
/-- The first numbers of a row. -/
theorem OwnI.prefix {w : World} {B g n m c : Nat} {L R : List Int} (h : OwnI w B (.slice (some ⟨g, 0, none⟩) m c) m (L ++ R)) (hn : n = L.length) (hc : c ≤ 9223372036854775807) (hmc : m ≤ c) : Ints w (some ⟨g, 0, none⟩) c L := by
  obtain ⟨ao, c', e, hI⟩ := h.ints
  cases e
  refine ⟨by have := h.len; simp at this; omega, hc, fun hne => ?_⟩
  obtain ⟨b, o, e, hA⟩ := hI.out (by simp [hne])
  cases e
  exact ⟨g, 0, rfl, hA.lt, fun i hi => by have := hA.cell i (by simp; omega); rw [this]; simp [List.getElem_append_left hi]⟩
end Go.Proofs.Ytplpgeocidllfaa
