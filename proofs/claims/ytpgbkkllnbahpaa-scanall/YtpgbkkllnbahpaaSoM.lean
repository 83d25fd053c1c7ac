import Derived.Test.YtpgbkkllnbahpaaSoL
import Derived.Test.YtpgbkkllnbahpaaSoJ
set_option linter.unusedVariables false
set_option linter.unusedSimpArgs false
namespace Go.Proofs.Ytpgbkkllnbahpaa
open Go.ChangeShapes Go.WideShapes Go.ChangeAt Go.RowKit Go.Maps

/-- A row of slices. -/
structure OwnV (w : World) (B : Nat) (v : Value) (vs : List Value) : Prop where
  out : w.ownsRow B 25 1 v vs.length vs
theorem OwnV.nil (w : World) (B : Nat) : OwnV w B (.slice none 0 0) [] := ⟨World.ownsRow_nil _ _ _ _⟩
theorem OwnV.move {w w' : World} {B v vs} (h : OwnV w B v vs) (hk : ∀ g, v.ownBlock = some g → w'.heap[g]? = w.heap[g]?) : OwnV w' B v vs := ⟨own_move h.out hk⟩
theorem infoLcs : (Try.prog.info? 25).map (fun i => (i.zero, i.size, i.bytes)) = some (some (.slice none 0 0), 1, 24) := by kernel_rfl
/-- A slice of places in a row of its own. -/
structure OwnP (w : World) (B : Nat) (v : Value) (n : Nat) (P : List Lc) : Prop where
  len : n = P.length
  out : w.ownsRow B 37 2 v n (P.map lc).flatten
theorem OwnP.row {w B v n P} (h : OwnP w B v n P) : Row w B 37 2 v (P.map lc) := ⟨by have := h.out; rw [List.length_map, ← h.len]; exact this, fun x hx => by obtain ⟨_, _, rfl⟩ := List.mem_map.1 hx; rfl⟩
theorem row_ownP {w B v n} {P : List Lc} (h : Row w B 37 2 v (P.map lc)) (hn : n = P.length) : OwnP w B v n P := ⟨hn, by have := h.out; rw [List.length_map, ← hn] at this; exact this⟩
theorem OwnP.gi {B B' w0 w' v v' u m L} (h : OwnP w0 B' u m L) (g : GI B w0 w' v v') (hne : ∀ b, u.ownBlock = some b → v.ownBlock ≠ some b) : OwnP w' B' u m L := ⟨h.len, own_move h.out fun b hb => g.blk b (own_block h.out hb).2 (hne b hb)⟩
theorem OwnP.keep {w w' B v n L} (h : OwnP w B v n L) (hb : Below w.heap.size w w') : OwnP w' B v n L := ⟨h.len, own_keep h.out hb.block⟩
theorem OwnP.apV {w B B' u n L v vs} (h : OwnP w B u n L) (hv : OwnV w B' v vs) : ∀ b, u.ownBlock = some b → v.ownBlock ≠ some b := fun b hb e => own_apart hv.out h.out (by decide) _ e hb
theorem OwnP.set_other {w : World} {B v n L} (h : OwnP w B v n L) {g i : Nat} {u : Value} (hne : v.ownBlock ≠ some g) : OwnP (w.setCell ⟨g, i, none⟩ u) B v n L := ⟨h.len, own_move h.out fun k hk => heap_set_other fun e => hne (by rw [← e]; exact hk)⟩
theorem OwnP.set {w : World} {B g c n : Nat} {L : List Lc} (h : OwnP w B (.slice (some ⟨g, 0, none⟩) n c) n L) (q : Nat) (hq : q < n) (u : Lc) : OwnP ((w.setCell ⟨g, q * 2, none⟩ (.int .i64 u.1)).setCell ⟨g, q * 2 + 1, none⟩ (.int .i64 u.2)) B (.slice (some ⟨g, 0, none⟩) n c) n (L.set q u) := row_ownP (row_lc_set h.row h.len (by rw [← h.len]; exact hq) u) (by rw [List.length_set]; exact h.len)
theorem OwnV.gi {B B' w0 w' v v' u vs} (h : OwnV w0 B' u vs) (g : GI B w0 w' v v') (hne : ∀ b, u.ownBlock = some b → v.ownBlock ≠ some b) : OwnV w' B' u vs := ⟨own_move h.out fun b hb => g.blk b (own_block h.out hb).2 (hne b hb)⟩
theorem OwnV.keep {w w' B v vs} (h : OwnV w B v vs) (hb : Below w.heap.size w w') : OwnV w' B v vs := ⟨own_keep h.out hb.block⟩
theorem getD_app {α : Type} {l : List α} {x d : α} {i : Nat} (h : i < l.length) : (l ++ [x]).getD i d = l.getD i d := by
  simp [List.getD, List.getElem?_append_left h]
theorem getD_new {α : Type} {l : List α} {x d : α} : (l ++ [x]).getD l.length d = x := by simp [List.getD]
theorem OwnI.apV {w B B' u n L v vs} (h : OwnI w B u n L) (hv : OwnV w B' v vs) : ∀ b, u.ownBlock = some b → v.ownBlock ≠ some b := fun b hb e => own_apart hv.out h.out (by decide) _ e hb
/-- The marks: a list's own ones, and what is put behind. -/
def vl (N : Nat → Nat) (i j : Nat) : Lc := if j < N i then (-1 - (i : Int), (j : Int)) else (1000000 + (i : Int), 0)
/-- Which blocks bear whose marks, and how far. -/
structure ColX (w : World) (B : Nat) (N : Nat → Nat) (col : Nat → Option (Nat × Nat)) : Prop where
  cells : ∀ g i M, col g = some (i, M) → B ≤ g ∧ g < w.heap.size ∧ (∃ A, w.heap[g]? = some (.cells A 37 (0, 0))) ∧ ∀ j, j < M → w.cell? ⟨g, j * 2, none⟩ = some (.int .i64 (vl N i j).1) ∧ w.cell? ⟨g, j * 2 + 1, none⟩ = some (.int .i64 (vl N i j).2)
def ColLe (col col' : Nat → Option (Nat × Nat)) : Prop := ∀ g i M, col g = some (i, M) → ∃ M', col' g = some (i, M') ∧ M ≤ M'
theorem ColLe.refl (col : Nat → Option (Nat × Nat)) : ColLe col col := fun g x M h => ⟨M, h, Nat.le_refl _⟩
theorem ColLe.trans {a b c : Nat → Option (Nat × Nat)} (h : ColLe a b) (g : ColLe b c) : ColLe a c := fun k x M e => by
  obtain ⟨M1, e1, l1⟩ := h k x M e
  obtain ⟨M2, e2, l2⟩ := g k x M1 e1
  exact ⟨M2, e2, by omega⟩
/-- A slice that bears the marks of i. -/
def ElX (col : Nat → Option (Nat × Nat)) (v : Value) (i : Nat) : Prop := ∃ a ln cp, v = .slice a ln cp ∧ ln ≤ cp ∧ cp ≤ 9223372036854775807 ∧ (0 < ln → ∃ g M, a = some ⟨g, 0, none⟩ ∧ col g = some (i, M) ∧ ln ≤ M)
theorem ElX.mono {col col' : Nat → Option (Nat × Nat)} {v : Value} {i : Nat} (h : ElX col v i) (g : ColLe col col') : ElX col' v i := by
  obtain ⟨a, ln, cp, e, h1, h2, h3⟩ := h
  refine ⟨a, ln, cp, e, h1, h2, fun hp => ?_⟩
  obtain ⟨b, M, e1, e2, e3⟩ := h3 hp
  obtain ⟨M', f1, f2⟩ := g b i M e2
  exact ⟨b, M', e1, f1, by omega⟩
theorem ColX.move {w w' : World} {B N col} (h : ColX w B N col) (hk : ∀ g, (col g).isSome = true → w'.heap[g]? = w.heap[g]?) : ColX w' B N col := by
  refine ⟨fun g x M e => ?_⟩
  obtain ⟨h1, h2, ⟨A, h3⟩, h4⟩ := h.cells g x M e
  have hg := hk g (by rw [e]; rfl)
  have hA := hg.trans h3
  refine ⟨h1, (Array.getElem?_eq_some_iff.1 hA).1, ⟨A, hA⟩, fun i hi => ?_⟩
  have h5 := h4 i hi
  simp only [World.cell?, h3] at h5
  simp only [World.cell?, hA]
  exact h5
theorem ColX.lt {w B N col} (h : ColX w B N col) {g : Nat} (hg : (col g).isSome = true) : B ≤ g ∧ g < w.heap.size ∧ ∃ A, w.heap[g]? = some (.cells A 37 (0, 0)) := by
  obtain ⟨⟨x, M⟩, e⟩ := Option.isSome_iff_exists.1 hg
  obtain ⟨h1, h2, h3, _⟩ := h.cells g x M e
  exact ⟨h1, h2, h3⟩
/-- What an append does to memory, and to its own row if it leaves it. -/
structure GJ (B : Nat) (w0 w' : World) (v v' : Value) : Prop where
  gi : GI B w0 w' v v'
  old : ∀ g, v.ownBlock = some g → v'.ownBlock = some g ∨ w'.heap[g]? = w0.heap[g]?
theorem gj_of {w0 w' : World} {B : Nat} {ob : Obj} {v v' : Value} {n m : Nat} {e s xs} (hown : w0.ownsRow B e s v n xs) (hB : B ≤ w0.heap.size) (h2 : (w0.alloc ob).grownBy w' v.ownBlock) (h3 : Grew (w0.alloc ob) w' v v' n m) : GJ B w0 w' v v' := by
  refine ⟨gi_of hown hB h2 h3, fun g hg => ?_⟩
  rcases h3.out with ⟨g', cap, e1, e2⟩ | ⟨_, h4⟩
  · subst e1 e2; exact .inl hg
  · right
    have hl := (own_block hown hg).2
    rw [grown_at h4 (by simp; omega) (by simp), heap_alloc_old _ _ hl]
theorem wpList_append_lcJ {w0 : World} {ops : Array Oper} {rest : List Oper} {op : Oper} {a : Act} {Q : Exit → Act → World → Prop} (hgd : op.guard = none) (s x : Operand)
    (ho : op.op = .call { callee := .builtin .append, args := #[s, x], argTypes := #[25, 25] })
    (B : Nat) (v : Value) (n : Nat) (L : List Lc) (y : Lc) (hs : a.eval s = v) (hown : OwnP w0 B v n L) (hx : a.eval x = .slice (some ⟨w0.heap.size, 0, none⟩) 1 1)
    (hl : n + 1 ≤ 1000000000) (hB : B ≤ w0.heap.size)
    (h : ∀ v' w', OwnP w' B v' (n + 1) (L ++ [y]) → GJ B w0 w' v v' → wpList Try.prog ops Q rest (a.put op.dst v') w') : wpList Try.prog ops Q (op :: rest) a (w0.alloc (.cells #[.int .i64 y.1, .int .i64 y.2] 37)) := by
  obtain ⟨i0, hi, hz0, hz1, hz2⟩ := info_parts info_lc
  have hh := heap_alloc_new w0 (.cells #[.int .i64 y.1, .int .i64 y.2] 37)
  refine wpList_append_where hgd s x 25 ho B 37 i0 (.agg #[.int .i64 0, .int .i64 0]) 2 16 Try.underlying25 hi hz0 hz1 hz2 rfl (by decide) v n (L.map lc).flatten hs (hown.out.alloc _) ⟨w0.heap.size, 0, none⟩ 1 1 (by omega) (lc y) hx rfl (fun j u hu => by
    rw [add_none, Nat.zero_add]
    have hj : j < 2 := by have := (List.getElem?_eq_some_iff.1 hu).1; simpa [lc] using this
    have h3 : j = 0 ∨ j = 1 := by omega
    rcases h3 with rfl | rfl <;> simp [lc] at hu <;> subst hu
    · exact cell_arr hh rfl
    · exact cell_arr hh rfl) (fun u hu => by simp [lc] at hu; rcases hu with rfl | rfl <;> rfl) (by unfold maxLen; omega) (by omega) (by simp; omega) ?_
  intro v' w' h1 h2 h3
  exact h v' w' ⟨by simp; exact hown.len, by simpa using h1⟩ (gj_of hown.out hB h2 h3)
/-- The list of i while it is grown. -/
structure FarX (w : World) (B : Nat) (N : Nat → Nat) (col : Nat → Option (Nat × Nat)) (v : Value) (i n : Nat) : Prop where
  own : OwnP w B v n ((List.range n).map (vl N i))
  col : ∀ g, v.ownBlock = some g → col g = some (i, n)
theorem FarX.el {w B N col v i n} (h : FarX w B N col v i n) : ElX col v i := by
  obtain ⟨a, c, e, h1, h2⟩ := own_slice h.own.out
  refine ⟨a, n, c, e, h1, h2, fun hp => ?_⟩
  obtain ⟨g, c', e', _, _, _, _⟩ := own_some h.own.out hp
  rw [e] at e'
  cases e'
  exact ⟨g, n, rfl, h.col g (by rw [e]; rfl), Nat.le_refl _⟩
theorem FarX.more {w w' : World} {B N col v v' i n} (h : FarX w B N col v i n) (c : ColX w B N col) (h6 : OwnP w' B v' (n + 1) ((List.range n).map (vl N i) ++ [vl N i n])) (g6 : GJ B w w' v v') :
    ∃ col', ColLe col col' ∧ ColX w' B N col' ∧ FarX w' B N col' v' i (n + 1) ∧ (∀ g, (col' g).isSome = true → (col g).isSome = true ∨ w.heap.size ≤ g) ∧ ∀ g x M, col g = some (x, M) → x ≠ i → col' g = some (x, M) := by
  have hrep : (List.range n).map (vl N i) ++ [vl N i n] = (List.range (n + 1)).map (vl N i) := by rw [List.range_succ, List.map_append]; rfl
  rw [hrep] at h6
  obtain ⟨g', c', e', _, _, hB', hl'⟩ := own_some h6.out (by omega)
  subst e'
  have hnew : (Value.slice (some ⟨g', 0, none⟩) (n + 1) c').ownBlock = some g' := rfl
  have hcell : ∀ j, j < n + 1 → w'.cell? ⟨g', j * 2, none⟩ = some (.int .i64 (vl N i j).1) ∧ w'.cell? ⟨g', j * 2 + 1, none⟩ = some (.int .i64 (vl N i j).2) := fun j hj => by
    have := row_lc h6.row h6.len (k := j) (by simp; omega)
    simpa using this
  have hty : ∃ A, w'.heap[g']? = some (.cells A 37 (0, 0)) := by
    rcases h6.out.2 with ⟨q, _⟩ | ⟨g2, cap, cur, q, _, q3, _⟩
    · cases q
    · cases q; exact ⟨cur, q3⟩
  have hother : ∀ g x M, col g = some (x, M) → g ≠ g' → w'.heap[g]? = w.heap[g]? := fun g x M hc hne => by
    obtain ⟨c1, c2, _, _⟩ := c.cells g x M hc
    by_cases hv : v.ownBlock = some g
    · rcases g6.old g hv with q | q
      · rw [hnew] at q; cases q; exact absurd rfl hne
      · exact q
    · exact g6.gi.blk g c2 hv
  have hval : ∀ x M, col g' = some (x, M) → x = i ∧ M ≤ n + 1 := fun x M hc => by
    rcases g6.gi.own g' hnew with q | q
    · have := h.col g' q
      rw [hc] at this
      cases this
      exact ⟨rfl, by omega⟩
    · have := (c.cells g' x M hc).2.1; omega
  refine ⟨fun k => if k = g' then some (i, n + 1) else col k, fun g x M hc => ?_, ⟨fun g x M hc => ?_⟩, ⟨h6, fun g hg => ?_⟩, fun g hg => ?_, fun g x M hc hne => ?_⟩
  · by_cases e : g = g'
    · subst e
      obtain ⟨rfl, q2⟩ := hval x M hc
      exact ⟨n + 1, by simp, q2⟩
    · exact ⟨M, by simp [e, hc], Nat.le_refl _⟩
  · by_cases e : g = g'
    · subst e
      simp only [if_true, Option.some.injEq, Prod.mk.injEq] at hc
      obtain ⟨rfl, rfl⟩ := hc
      exact ⟨hB', hl', hty, hcell⟩
    · simp only [if_neg e] at hc
      obtain ⟨c1, c2, ⟨A, c3⟩, c4⟩ := c.cells g x M hc
      have hh := hother g x M hc e
      have hA := hh.trans c3
      refine ⟨c1, (Array.getElem?_eq_some_iff.1 hA).1, ⟨A, hA⟩, fun i hi => ?_⟩
      have h5 := c4 i hi
      simp only [World.cell?, c3] at h5
      simp only [World.cell?, hA]
      exact h5
  · rw [hnew] at hg; cases hg; simp
  · by_cases e : g = g'
    · subst e
      rcases g6.gi.own g hnew with q | q
      · left; rw [h.col g q]; rfl
      · exact .inr q
    · simp only [if_neg e] at hg; exact .inl hg
  · by_cases e : g = g'
    · subst e
      exact absurd (hval x M hc).1 hne
    · simp only [if_neg e]; exact hc
/-- The lists that are to be marked: each in a row of its own. -/
def usV (us : Nat → Value) (m : Nat) : List Value := (List.range m).map us
theorem usV_len (us : Nat → Value) (m : Nat) : (usV us m).length = m := by simp [usV]
structure MK (w wr : World) (B m : Nat) (lv : Value) (us : Nat → Value) (N : Nat → Nat) (X : Nat → List Lc) : Prop where
  l : OwnV wr B lv (usV us m)
  r : ∀ k, k < m → OwnP wr B (us k) (N k) (X k)
  ap : ∀ k k', k < m → k' < m → k ≠ k' → ∀ g, (us k).ownBlock = some g → (us k').ownBlock ≠ some g
  bel : Below B w wr
theorem MK.set {w wr : World} {B m lv us N X} (h : MK w wr B m lv us N X) {i j g c : Nat} (hi : i < m) (hu : us i = .slice (some ⟨g, 0, none⟩) (N i) c) (hj : j < N i) (y : Lc) : MK w ((wr.setCell ⟨g, j * 2, none⟩ (.int .i64 y.1)).setCell ⟨g, j * 2 + 1, none⟩ (.int .i64 y.2)) B m lv us N (fun k => if k = i then (X i).set j y else X k) := by
  have hr := h.r i hi
  have hg : (us i).ownBlock = some g := by rw [hu]; rfl
  refine ⟨h.l.move fun b hb => ?_, fun k hk => ?_, h.ap, (h.bel.setCell (p := ⟨g, j * 2, none⟩) (own_block hr.out hg).1 _).setCell (p := ⟨g, j * 2 + 1, none⟩) (own_block hr.out hg).1 _⟩
  · have hne : b ≠ g := fun e => hr.apV h.l b (by rw [e]; exact hg) hb
    rw [heap_set_other hne, heap_set_other hne]
  · by_cases e : k = i
    · subst e
      simp only [if_true]
      rw [hu] at hr ⊢
      exact hr.set j hj y
    · simp only [if_neg e]
      exact ((h.r k hk).set_other fun e2 => h.ap k i hk hi e g e2 hg).set_other fun e2 => h.ap k i hk hi e g e2 hg
/-- The state while all are grown. -/
structure AP (w wr : World) (B m : Nat) (lv gv wv : Value) (us : Nat → Value) (N : Nat → Nat) (gs : List Value) (ws : List Int) (col : Nat → Option (Nat × Nat)) : Prop where
  l : OwnV wr B lv (usV us m)
  g : OwnV wr B gv gs
  o : OwnI wr B wv ws.length ws
  c : ColX wr B N col
  apw : ∀ b, (col b).isSome = true → wv.ownBlock ≠ some b
  gl : ∀ b, gv.ownBlock = some b → lv.ownBlock ≠ some b
  el : ∀ k, k < m → ElX col (us k) k
  len : gs.length = ws.length
  ge : ∀ t, t < gs.length → ∃ i : Nat, ws.getD t 0 = (i : Int) ∧ i < m ∧ ElX col (gs.getD t (.slice none 0 0)) i
  bel : Below B w wr
theorem ColX.not {w B N col} (h : ColX w B N col) {B' v vs} (o : OwnV w B' v vs) : ∀ b, (col b).isSome = true → v.ownBlock ≠ some b := fun b hb => by
  obtain ⟨_, _, A, hA⟩ := h.lt hb
  exact own_not o.out hA (by decide)
/-- One number is put behind the list of i. -/
theorem AP.grow {w wr w' : World} {B m lv gv wv us N gs ws col v v' i n} (h : AP w wr B m lv gv wv us N gs ws col) (hf : FarX wr B N col v i n) (h6 : OwnP w' B v' (n + 1) ((List.range n).map (vl N i) ++ [vl N i n])) (g6 : GJ B wr w' v v') :
    ∃ col', AP w w' B m lv gv wv us N gs ws col' ∧ FarX w' B N col' v' i (n + 1) ∧ ∀ u k n', k ≠ i → FarX wr B N col u k n' → FarX w' B N col' u k n' := by
  obtain ⟨col', h1, h2, h3, h4, h5⟩ := hf.more h.c h6 g6
  have hvw : ∀ b, wv.ownBlock = some b → v.ownBlock ≠ some b := fun b hb e => h.apw b (by rw [hf.col b e]; rfl) hb
  refine ⟨col', ⟨h.l.gi g6.gi fun b hb e => hf.own.apV h.l b e hb, h.g.gi g6.gi fun b hb e => hf.own.apV h.g b e hb, h.o.gi g6.gi hvw, h2, fun b hb e => ?_, h.gl, fun k hk => (h.el k hk).mono h1, h.len, fun t ht => ?_, h.bel.trans g6.gi.bel⟩, h3, fun u k n' hne hu => ⟨hu.own.gi g6.gi fun b hb e => ?_, fun g hg => h5 g k n' (hu.col g hg) hne⟩⟩
  · rcases h4 b hb with q | q
    · exact h.apw b q e
    · have := (own_block h.o.out e).2; omega
  · obtain ⟨k, q1, q2, q3⟩ := h.ge t ht
    exact ⟨k, q1, q2, q3.mono h1⟩
  · have e1 := hu.col b hb
    have e2 := hf.col b e
    rw [e1] at e2
    cases e2
    exact hne rfl
/-- A stage is held. -/
theorem AP.hold {w wr w1 w2 : World} {B m lv gv gv' wv wv' us N gs ws col v i n} (h : AP w wr B m lv gv wv us N gs ws col) (hf : FarX wr B N col v i n) (hi : i < m) (h1 : OwnV w1 B gv' (gs ++ [v])) (g1 : GI B wr w1 gv gv') (h2 : OwnI w2 B wv' (ws.length + 1) (ws ++ [(i : Int)])) (g2 : GI B w1 w2 wv wv') :
    AP w w2 B m lv gv' wv' us N (gs ++ [v]) (ws ++ [(i : Int)]) col ∧ ∀ u k n', FarX wr B N col u k n' → FarX w2 B N col u k n' := by
  have hs1 := g1.size
  have c1 : ColX w1 B N col := h.c.move fun b hb => g1.blk b (h.c.lt hb).2.1 (h.c.not h.g b hb)
  have o1 : OwnI w1 B wv ws.length ws := h.o.gi g1 fun b hb => h.o.apV h.g b hb
  have l1 : OwnV w1 B lv (usV us m) := h.l.gi g1 fun b hb e => h.gl b e hb
  refine ⟨⟨l1.gi g2 fun b hb e => o1.apV l1 b e hb, h1.gi g2 fun b hb e => o1.apV h1 b e hb, by rw [List.length_append]; exact h2, c1.move fun b hb => g2.blk b (c1.lt hb).2.1 (h.apw b hb), fun b hb e => ?_, fun b hb e => ?_, h.el, by simp [h.len], fun t ht => ?_, h.bel.trans (g1.bel.trans g2.bel)⟩, fun u k n' hu => ⟨(hu.own.gi g1 fun b hb => hu.own.apV h.g b hb).gi g2 fun b hb e => h.apw b (by rw [hu.col b hb]; rfl) e, hu.col⟩⟩
  · rcases g2.own b e with q | q
    · exact h.apw b hb q
    · have := (c1.lt hb).2.1; omega
  · rcases g1.own b hb with q | q
    · exact h.gl b q e
    · have := (own_block h.l.out e).2; omega
  · by_cases e : t < gs.length
    · obtain ⟨k, q1, q2, q3⟩ := h.ge t e
      have hl := h.len
      refine ⟨k, by rw [getD_app (by omega)]; exact q1, q2, by rw [getD_app e]; exact q3⟩
    · simp at ht
      have e2 : t = gs.length := by omega
      subst e2
      refine ⟨i, by rw [h.len]; exact getD_new, hi, by rw [getD_new]; exact hf.el⟩
/-- Ahead of growing: each list bears its own marks. -/
theorem AP.start {w wr : World} {B m lv us N X} (h : MK w wr B m lv us N X) (hX : ∀ k, k < m → X k = (List.range (N k)).map (vl N k)) :
    ∃ col, AP w wr B m lv (.slice none 0 0) (.slice none 0 0) us N [] [] col ∧ ∀ k, k < m → ∀ g, (us k).ownBlock = some g → col g = some (k, N k) := by
  have hu : ∀ g k, k < m → (us k).ownBlock = some g → ∀ k', k' < m → (us k').ownBlock = some g → k' = k := fun g k hk e k' hk' e' => by
    apply Classical.byContradiction
    intro hne
    exact h.ap k' k hk' hk hne g e' e
  let col : Nat → Option (Nat × Nat) := fun g => ((List.range m).find? fun k => decide ((us k).ownBlock = some g)).map fun k => (k, N k)
  have hcol : ∀ k, k < m → ∀ g, (us k).ownBlock = some g → col g = some (k, N k) := fun k hk g e => by
    simp only [col]
    cases hf : (List.range m).find? fun k => decide ((us k).ownBlock = some g) with
    | none =>
      rw [List.find?_eq_none] at hf
      exact absurd e (by simpa using hf k (by simpa using hk))
    | some k' =>
      have h1 := List.find?_some hf
      have h2 := List.mem_of_find?_eq_some hf
      simp only [decide_eq_true_eq, List.mem_range] at h1 h2
      rw [hu g k hk e k' h2 h1]; rfl
  have hback : ∀ g i M, col g = some (i, M) → i < m ∧ (us i).ownBlock = some g ∧ M = N i := fun g i M e => by
    simp only [col, Option.map_eq_some_iff] at e
    obtain ⟨k, h1, h2⟩ := e
    have h3 := List.find?_some h1
    have h4 := List.mem_of_find?_eq_some h1
    simp only [decide_eq_true_eq, List.mem_range] at h3 h4
    cases h2
    exact ⟨h4, h3, rfl⟩
  refine ⟨col, ⟨h.l, OwnV.nil _ _, OwnI.nil _ _, ⟨fun g i M e => ?_⟩, fun b _ e => by simp [Value.ownBlock] at e, fun b e => by simp [Value.ownBlock] at e, fun k hk => ?_, rfl, fun t ht => by simp at ht, h.bel⟩, hcol⟩
  · obtain ⟨h1, h2, rfl⟩ := hback g i M e
    have hr := h.r i h1
    rw [hX i h1] at hr
    have hb := own_block hr.out h2
    rcases hr.out.2 with ⟨q, _⟩ | ⟨g2, cap, cur, q, _, q3, _⟩
    · rw [q] at h2; simp [Value.ownBlock] at h2
    · rw [q] at h2 hr
      simp [Value.ownBlock] at h2
      subst h2
      refine ⟨hb.1, hb.2, ⟨cur, q3⟩, fun j hj => ?_⟩
      have := row_lc hr.row hr.len (k := j) (by simp; omega)
      simpa using this
  · have hr := h.r k hk
    obtain ⟨a, c, e, h1, h2⟩ := own_slice hr.out
    refine ⟨a, N k, c, e, h1, h2, fun hp => ?_⟩
    obtain ⟨g, c', e', _, _, _, _⟩ := own_some hr.out hp
    rw [e] at e'
    cases e'
    exact ⟨g, N k, rfl, hcol k hk g (by rw [e]; rfl), Nat.le_refl _⟩
end Go.Proofs.Ytpgbkkllnbahpaa
