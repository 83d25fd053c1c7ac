import Derived.Test.YtdoiblknbpbhaaaMvX
set_option linter.unusedVariables false
set_option linter.unusedSimpArgs false
namespace Go.Proofs.Ytdoiblknbpbhaaa
open Go.ChangeShapes Go.WideShapes Go.ChangeAt Go.RowKit Go.Maps

def mkM (x : Int) : Mv := ((-9, x), (0, 0))
theorem fitM_mk {x : Int} (h : 0 ≤ x ∧ x ≤ 1000000) : FitM (mkM x) := by
  refine ⟨⟨?_, ?_⟩, ⟨?_, ?_⟩⟩ <;> simp only [Fits, mkM] <;> omega
def vn0 : Value := .slice none 0 0
def gn (l : List Int) (i : Nat) : Int := l.getD i 0
theorem gn_app {l : List Int} {x : Int} {i : Nat} (h : i < l.length) : gn (l ++ [x]) i = gn l i := by
  unfold gn; rw [List.getD, List.getD, List.getElem?_append_left h]
theorem gn_mem {l : List Int} {i : Nat} (h : i < l.length) : gn l i ∈ l := by
  have e : gn l i = l[i] := by simp [gn, h]
  rw [e]; exact List.getElem_mem h
theorem getD_app {α : Type} {l : List α} {x d : α} {i : Nat} (h : i < l.length) : (l ++ [x]).getD i d = l.getD i d := by
  rw [List.getD, List.getD, List.getElem?_append_left h]
theorem getD_new {α : Type} {l : List α} {x d : α} : (l ++ [x]).getD l.length d = x := by simp [List.getD]
theorem only_set {F : Nat → Prop} {w w2 : World} (h : Only F w w2) (g i : Nat) (v : Value) (hF : F g) : Only F w (w2.setCell ⟨g, i, none⟩ v) :=
  ⟨h.os, h.tape, h.output, by simpa [World.setCell] using h.size, fun k hk hn => (heap_set_other (fun e => hn (by rw [e]; exact hF))).trans (h.block k hk hn)⟩
theorem own_lower {w : World} {B B' e s n xs} {v : Value} (h : w.ownsRow B e s v n xs) (hB : B' ≤ B) : w.ownsRow B' e s v n xs := by
  refine ⟨h.1, h.2.imp id ?_⟩
  rintro ⟨g, cap, cur, e1, e2, e3, e4⟩
  exact ⟨g, cap, cur, e1, Nat.le_trans hB e2, e3, e4⟩
theorem below_drewN {B : Nat} {a w : World} (h : Below B a w) (n : Nat) : Below B a (w.drewN n) := h.trans ⟨by rfl, by rfl, by rfl, by simp, fun k _ => by simp⟩
/-- A list of slices of moves, in a row of its own. -/
structure OwnV (w : World) (B : Nat) (v : Value) (vs : List Value) : Prop where
  out : w.ownsRow B 22 1 v vs.length vs
theorem OwnV.nil (w : World) (B : Nat) : OwnV w B (.slice none 0 0) [] := ⟨World.ownsRow_nil _ _ _ _⟩
theorem OwnV.move {w w' : World} {B v vs} (h : OwnV w B v vs) (hk : ∀ g, v.ownBlock = some g → w'.heap[g]? = w.heap[g]?) : OwnV w' B v vs := ⟨own_move h.out hk⟩
theorem infoMvs : (Try.prog.info? 22).map (fun i => (i.zero, i.size, i.bytes)) = some (some (.slice none 0 0), 1, 24) := by kernel_rfl
/-- append(l, x[:n]). -/
theorem wpList_append_slG {w0 : World} {ops : Array Oper} {rest : List Oper} {op : Oper} {a : Act} {Q : Exit → Act → World → Prop} (hgd : op.guard = none) (s x : Operand)
    (ho : op.op = .call { callee := .builtin .append, args := #[s, x], argTypes := #[45, 45] })
    (B : Nat) (v : Value) (vs : List Value) (ao : Option Addr) (m c : Nat) (hs : a.eval s = v) (hown : OwnV w0 B v vs) (hx : a.eval x = .slice (some ⟨w0.heap.size, 0, none⟩) 1 1)
    (hl : vs.length + 1 ≤ 1759218604441) (hB : B ≤ w0.heap.size)
    (h : ∀ v' w', OwnV w' B v' (vs ++ [.slice ao m c]) → GI B w0 w' v v' → wpList Try.prog ops Q rest (a.put op.dst v') w') : wpList Try.prog ops Q (op :: rest) a (w0.alloc (.cells #[.slice ao m c] 22)) := by
  obtain ⟨i0, hi, hz0, hz1, hz2⟩ := info_parts infoMvs
  refine wpList_append_where hgd s x 45 ho B 22 i0 (.slice none 0 0) 1 24 Try.underlying45 hi hz0 hz1 hz2 rfl (by decide) v vs.length vs hs (hown.out.alloc _) ⟨w0.heap.size, 0, none⟩ 1 1 (by omega) [.slice ao m c] hx rfl (cell_one_newI _ _ _) (fun u hu => by simp at hu; subst hu; rfl) (by unfold maxLen; omega) (by omega) (by simp; omega) ?_
  intro v' w' h1 h2 h3
  refine h v' w' ⟨?_⟩ (gi_of hown.out hB h2 h3)
  simpa using h1
/-- Which blocks are full of which mark, and how far. -/
structure Col (w : World) (B : Nat) (col : Nat → Option (Int × Nat)) : Prop where
  cells : ∀ g x M, col g = some (x, M) → B ≤ g ∧ g < w.heap.size ∧ (∃ A, w.heap[g]? = some (.cells A 36 (0, 0))) ∧ AtM w g 0 (List.replicate M (mkM x))
def ColLe (col col' : Nat → Option (Int × Nat)) : Prop := ∀ g x M, col g = some (x, M) → ∃ M', col' g = some (x, M') ∧ M ≤ M'
theorem ColLe.refl (col : Nat → Option (Int × Nat)) : ColLe col col := fun g x M h => ⟨M, h, Nat.le_refl _⟩
theorem ColLe.trans {a b c : Nat → Option (Int × Nat)} (h : ColLe a b) (g : ColLe b c) : ColLe a c := fun k x M e => by
  obtain ⟨M1, e1, l1⟩ := h k x M e
  obtain ⟨M2, e2, l2⟩ := g k x M1 e1
  exact ⟨M2, e2, by omega⟩
/-- A slice that is full of a value. -/
def El (col : Nat → Option (Int × Nat)) (v : Value) (x : Int) : Prop := ∃ a ln cp, v = .slice a ln cp ∧ ln ≤ cp ∧ cp ≤ 9223372036854775807 ∧ (0 < ln → ∃ g M, a = some ⟨g, 0, none⟩ ∧ col g = some (x, M) ∧ ln ≤ M)
theorem El.mono {col col' : Nat → Option (Int × Nat)} {v : Value} {x : Int} (h : El col v x) (g : ColLe col col') : El col' v x := by
  obtain ⟨a, ln, cp, e, h1, h2, h3⟩ := h
  refine ⟨a, ln, cp, e, h1, h2, fun hp => ?_⟩
  obtain ⟨b, M, e1, e2, e3⟩ := h3 hp
  obtain ⟨M', f1, f2⟩ := g b x M e2
  exact ⟨b, M', e1, f1, by omega⟩
theorem Col.move {w w' : World} {B col} (h : Col w B col) (hk : ∀ g, (col g).isSome = true → w'.heap[g]? = w.heap[g]?) : Col w' B col := by
  refine ⟨fun g x M e => ?_⟩
  obtain ⟨h1, h2, ⟨A, h3⟩, h4⟩ := h.cells g x M e
  have hg := hk g (by rw [e]; rfl)
  have hA := hg.trans h3
  exact ⟨h1, (Array.getElem?_eq_some_iff.1 hA).1, ⟨A, hA⟩, h4.move hg⟩
theorem Col.keep {w w' : World} {B col} (h : Col w B col) (hb : Below w.heap.size w w') : Col w' B col := h.move fun g hg => by
  obtain ⟨⟨x, M⟩, e⟩ := Option.isSome_iff_exists.1 hg
  exact hb.block g (h.cells g x M e).2.1
/-- What an append does to memory, and to its own row if it leaves it. -/
structure GJ (B : Nat) (w0 w' : World) (v v' : Value) : Prop where
  gi : GI B w0 w' v v'
  old : ∀ g, v.ownBlock = some g → v'.ownBlock = some g ∨ w'.heap[g]? = w0.heap[g]?
theorem gj_of {w0 w' : World} {B : Nat} {ob : Obj} {v v' : Value} {n m : Nat} {e s xs} (hown : w0.ownsRow B e s v n xs) (hB : B ≤ w0.heap.size) (h2 : (w0.alloc ob).grownBy w' v.ownBlock) (h3 : Grew (w0.alloc ob) w' v v' n m) : GJ B w0 w' v v' := by
  refine ⟨gi_of hown hB h2 h3, fun g hg => ?_⟩
  rcases h3.out with ⟨g', cap, e1, e2⟩ | ⟨_, h4⟩
  · subst e1 e2; exact .inl hg
  · right
    have hl := (own_block hown hg).2
    rw [grown_at h4 (by simp; omega) (by simp), heap_alloc_old _ _ hl]
theorem wpList_append_mvJ {w0 : World} {ops : Array Oper} {rest : List Oper} {op : Oper} {a : Act} {Q : Exit → Act → World → Prop} (hgd : op.guard = none) (s x : Operand)
    (ho : op.op = .call { callee := .builtin .append, args := #[s, x], argTypes := #[22, 22] })
    (B : Nat) (v : Value) (n : Nat) (L : List Mv) (m1 m2 m3 m4 : Int) (hs : a.eval s = v) (hown : OwnM w0 B v n L) (hm : FitM ((m1, m2), (m3, m4))) (hx : a.eval x = .slice (some ⟨w0.heap.size, 0, none⟩) 1 1)
    (hl : n + 1 ≤ 100000000) (hB : B ≤ w0.heap.size)
    (h : ∀ v' w', OwnM w' B v' (n + 1) (L ++ [((m1, m2), (m3, m4))]) → GJ B w0 w' v v' → wpList Try.prog ops Q rest (a.put op.dst v') w') : wpList Try.prog ops Q (op :: rest) a (w0.alloc (.cells #[.int .i64 m1, .int .i64 m2, .int .i64 m3, .int .i64 m4] 36)) := by
  obtain ⟨i0, hi, hz0, hz1, hz2⟩ := info_parts info_mv
  refine wpList_append_where hgd s x 22 ho B 36 i0 _ 4 32 Try.underlying22 hi hz0 hz1 hz2 rfl (by decide) v n (mcs L) hs (hown.out.alloc _) ⟨w0.heap.size, 0, none⟩ 1 1 (by omega) [.int .i64 m1, .int .i64 m2, .int .i64 m3, .int .i64 m4] hx rfl (cell_list_new _ _ _) (fun u hu => by simp at hu; rcases hu with rfl | rfl | rfl | rfl <;> rfl) (by unfold maxLen; omega) (by omega) (by simp; omega) ?_
  intro v' w' h2 h3 h4
  exact h v' w' ⟨by simp; exact hown.len, fun y hy => by
    rcases List.mem_append.1 hy with hy | hy
    · exact hown.fit y hy
    · simp at hy; subst hy; exact hm, by rw [mcs_app]; exact h2⟩ (gj_of hown.out hB h3 h4)
/-- A list that is full of a number, in a row of its own that is told so. -/
structure Far (w : World) (B : Nat) (col : Nat → Option (Int × Nat)) (v : Value) (n : Nat) (y : Int) : Prop where
  own : OwnM w B v n (List.replicate n (mkM y))
  col : ∀ g, v.ownBlock = some g → col g = some (y, n)
theorem Far.el {w B col v n y} (h : Far w B col v n y) : El col v y := by
  obtain ⟨a, c, e, h1, h2⟩ := own_slice h.own.out
  refine ⟨a, n, c, e, h1, h2, fun hp => ?_⟩
  obtain ⟨g, c', e', _, _, _, _⟩ := own_some h.own.out hp
  rw [e] at e'
  cases e'
  exact ⟨g, n, rfl, h.col g (by rw [e]; rfl), Nat.le_refl _⟩
/-- One more number of the same kind: the row is told anew, or a new one. -/
theorem Far.more {w w' : World} {B col v v' n y} (h : Far w B col v n y) (c : Col w B col) (h6 : OwnM w' B v' (n + 1) (List.replicate n (mkM y) ++ [mkM y])) (g6 : GJ B w w' v v') :
    ∃ col', ColLe col col' ∧ Col w' B col' ∧ Far w' B col' v' (n + 1) y ∧ ∀ g, (col' g).isSome = true → (col g).isSome = true ∨ w.heap.size ≤ g := by
  have hrep : List.replicate n (mkM y) ++ [mkM y] = List.replicate (n + 1) (mkM y) := by rw [List.replicate_succ']
  rw [hrep] at h6
  obtain ⟨a, cp, e, l1, l2⟩ := own_slice h6.out
  obtain ⟨g', c', e', _, _, hB', hl'⟩ := own_some h6.out (by omega)
  subst e'
  clear e a cp l1 l2
  have hnew : (Value.slice (some ⟨g', 0, none⟩) (n + 1) c').ownBlock = some g' := rfl
  have hcell : AtM w' g' 0 (List.replicate (n + 1) (mkM y)) := by
    obtain ⟨a, c, e, hM⟩ := h6.mvs
    cases e
    obtain ⟨b, o, e, hA⟩ := hM.out (by simp)
    cases e
    exact hA
  have hty : ∃ A, w'.heap[g']? = some (.cells A 36 (0, 0)) := by
    rcases h6.out.2 with ⟨q, _⟩ | ⟨g2, cap, cur, q, _, q3, _⟩
    · cases q
    · cases q; exact ⟨cur, q3⟩
  have hother : ∀ g x M, col g = some (x, M) → g ≠ g' → w'.heap[g]? = w.heap[g]? := fun g x M hc hne => by
    obtain ⟨c1, c2, _, _⟩ := c.cells g x M hc
    by_cases hv : v.ownBlock = some g
    · rcases g6.old g hv with q | q
      · rw [hnew] at q; cases q; exact absurd rfl hne
      · exact q
    · exact g6.gi.blk g c2 hv
  have hval : ∀ x M, col g' = some (x, M) → x = y ∧ M ≤ n + 1 := fun x M hc => by
    rcases g6.gi.own g' hnew with q | q
    · have := h.col g' q
      rw [hc] at this
      cases this
      exact ⟨rfl, by omega⟩
    · have := (c.cells g' x M hc).2.1; omega
  refine ⟨fun k => if k = g' then some (y, n + 1) else col k, fun g x M hc => ?_, ⟨fun g x M hc => ?_⟩, ⟨h6, fun g hg => ?_⟩, fun g hg => ?_⟩
  · by_cases e : g = g'
    · subst e
      obtain ⟨rfl, q2⟩ := hval x M hc
      exact ⟨n + 1, by simp, q2⟩
    · exact ⟨M, by simp [e, hc], Nat.le_refl _⟩
  · by_cases e : g = g'
    · subst e
      simp only [if_true, Option.some.injEq, Prod.mk.injEq] at hc
      obtain ⟨rfl, rfl⟩ := hc
      exact ⟨hB', hl', hty, hcell⟩
    · simp only [if_neg e] at hc
      obtain ⟨c1, c2, ⟨A, c3⟩, c4⟩ := c.cells g x M hc
      have hh := hother g x M hc e
      have hA := hh.trans c3
      exact ⟨c1, (Array.getElem?_eq_some_iff.1 hA).1, ⟨A, hA⟩, c4.move hh⟩
  · rw [hnew] at hg; cases hg; simp
  · by_cases e : g = g'
    · subst e
      rcases g6.gi.own g hnew with q | q
      · left; rw [h.col g q]; rfl
      · exact .inr q
    · simp only [if_neg e] at hg; exact .inl hg
/-- The lists that are kept, with their marks, in memory. -/
structure KL (w : World) (B kb : Nat) (lv mv : Value) (vs : List Value) (ms : List Int) (col : Nat → Option (Int × Nat)) : Prop where
  box : w.heap[kb]? = some (.cells #[.bool false, lv, .slice none 0 0, mv] 48 (0, 0))
  lo : B ≤ kb
  l : OwnV w B lv vs
  m : OwnI w B mv ms.length ms
  c : Col w B col
  ap : ∀ g, (col g).isSome = true → mv.ownBlock ≠ some g
/-- Each list is full of its mark. -/
structure KE (vs : List Value) (ms : List Int) (col : Nat → Option (Int × Nat)) : Prop where
  len : vs.length = ms.length
  el : ∀ i, i < vs.length → El col (vs.getD i vn0) (gn ms i)
  rg : ∀ x ∈ ms, 0 ≤ x ∧ x ≤ 1000000
theorem KE.mono {vs ms col col'} (h : KE vs ms col) (g : ColLe col col') : KE vs ms col' := ⟨h.len, fun i hi => (h.el i hi).mono g, h.rg⟩
theorem KE.add {vs ms col v x} (h : KE vs ms col) (e : El col v x) (hx : 0 ≤ x ∧ x ≤ 1000000) : KE (vs ++ [v]) (ms ++ [x]) col := by
  refine ⟨by simp [h.len], fun i hi => ?_, fun z hz => by simp at hz; rcases hz with q | q; exact h.rg z q; rw [q]; exact hx⟩
  by_cases hl : i < vs.length
  · rw [getD_app hl, gn_app (by rw [← h.len]; exact hl)]; exact h.el i hl
  · have : i = vs.length := by simp at hi; omega
    subst this
    rw [getD_new]
    have e2 : gn (ms ++ [x]) vs.length = x := by rw [h.len]; unfold gn; exact getD_new
    rw [e2]; exact e
/-- What may be written. -/
def KF (kb : Nat) (lv mv : Value) (col : Nat → Option (Int × Nat)) (k : Nat) : Prop := k = kb ∨ lv.ownBlock = some k ∨ mv.ownBlock = some k ∨ (col k).isSome = true
theorem GI.only {B w0 w' v v'} (g : GI B w0 w' v v') : Only (fun k => v.ownBlock = some k) w0 w' := ⟨g.bel.os, g.bel.tape, g.bel.output, g.bel.size, fun k hk hn => g.blk k hk hn⟩
theorem Col.lt {w B col} (h : Col w B col) {g : Nat} (hg : (col g).isSome = true) : B ≤ g ∧ g < w.heap.size ∧ ∃ A, w.heap[g]? = some (.cells A 36 (0, 0)) := by
  obtain ⟨⟨x, M⟩, e⟩ := Option.isSome_iff_exists.1 hg
  obtain ⟨h1, h2, h3, _⟩ := h.cells g x M e
  exact ⟨h1, h2, h3⟩
theorem KL.nes {w B kb lv mv vs ms col} (h : KL w B kb lv mv vs ms col) : kb < w.heap.size ∧ lv.ownBlock ≠ some kb ∧ mv.ownBlock ≠ some kb ∧ (∀ g, lv.ownBlock = some g → mv.ownBlock ≠ some g) ∧ ∀ g, (col g).isSome = true → g ≠ kb ∧ lv.ownBlock ≠ some g := by
  have ty : ∀ {g : Nat} {A A' : Array Value} {t t' : TypeId}, w.heap[g]? = some (.cells A t (0, 0)) → w.heap[g]? = some (.cells A' t' (0, 0)) → t = t' := fun h1 h2 => by
    rw [h1] at h2
    simp only [Option.some.injEq, Obj.cells.injEq] at h2
    exact h2.2.1
  refine ⟨(Array.getElem?_eq_some_iff.1 h.box).1, own_not h.l.out h.box (by decide), own_not h.m.out h.box (by decide), fun g hg hm => ?_, fun g hg => ⟨?_, ?_⟩⟩
  · rcases h.m.out.2 with ⟨q, _⟩ | ⟨g2, cap, cur, q, _, q3, _⟩
    · rw [q] at hm; cases hm
    · rw [q] at hm; cases hm
      exact own_not h.l.out q3 (by decide) hg
  · rintro rfl
    obtain ⟨_, _, A, h3⟩ := h.c.lt hg
    exact absurd (ty h3 h.box) (by decide)
  · obtain ⟨_, _, A, h3⟩ := h.c.lt hg
    exact own_not h.l.out h3 (by decide)
theorem KL.addL {w w6 : World} {B kb lv mv vs ms col lv6 vs6} (h : KL w B kb lv mv vs ms col) (h6 : OwnV w6 B lv6 vs6) (g6 : GI B w w6 lv lv6) : KL (w6.setCell ⟨kb, 1, none⟩ lv6) B kb lv6 mv vs6 ms col ∧ (∀ g, (col g).isSome = true → (w6.setCell ⟨kb, 1, none⟩ lv6).heap[g]? = w.heap[g]?) ∧ Only (KF kb lv mv col) w (w6.setCell ⟨kb, 1, none⟩ lv6) ∧ ∀ k, k < w.heap.size → KF kb lv6 mv col k → KF kb lv mv col k := by
  obtain ⟨n1, n2, n3, n4, n5⟩ := h.nes
  have hb6 : w6.heap[kb]? = w.heap[kb]? := g6.blk kb n1 n2
  have hcol : ∀ g, (col g).isSome = true → (w6.setCell ⟨kb, 1, none⟩ lv6).heap[g]? = w.heap[g]? := fun g hg => by
    rw [heap_set_other (n5 g hg).1]
    exact g6.blk g (h.c.lt hg).2.1 (n5 g hg).2
  have hlv6 : ∀ g, lv6.ownBlock = some g → g ≠ kb := fun g hg e => by
    rcases g6.own g hg with q | q
    · exact n2 (e ▸ q)
    · omega
  refine ⟨⟨?_, h.lo, h6.move fun g hg => heap_set_other (hlv6 g hg), ⟨h.m.len, own_move h.m.out fun g hg => ?_⟩, h.c.move hcol, h.ap⟩, hcol, ?_, fun k hk hf => ?_⟩
  · have := heap_set_at (i := 1) (v := lv6) (hb6.trans h.box)
    rw [this]; rfl
  · have hne : g ≠ kb := fun e => n3 (e ▸ hg)
    rw [heap_set_other hne, g6.blk g (own_block h.m.out hg).2 (fun q => n4 g q hg)]
  · exact only_set (g6.only.mono fun i _ hi => .inr (.inl hi)) kb 1 lv6 (.inl rfl)
  · rcases hf with q | q | q | q
    · exact .inl q
    · rcases g6.own k q with q | q
      · exact .inr (.inl q)
      · omega
    · exact .inr (.inr (.inl q))
    · exact .inr (.inr (.inr q))
theorem KL.addM {w w6 : World} {B kb lv mv vs ms col mv6 ms6} (h : KL w B kb lv mv vs ms col) (h6 : OwnI w6 B mv6 ms6.length ms6) (g6 : GI B w w6 mv mv6) : KL (w6.setCell ⟨kb, 3, none⟩ mv6) B kb lv mv6 vs ms6 col ∧ (∀ g, (col g).isSome = true → (w6.setCell ⟨kb, 3, none⟩ mv6).heap[g]? = w.heap[g]?) ∧ Only (KF kb lv mv col) w (w6.setCell ⟨kb, 3, none⟩ mv6) ∧ ∀ k, k < w.heap.size → KF kb lv mv6 col k → KF kb lv mv col k := by
  obtain ⟨n1, n2, n3, n4, n5⟩ := h.nes
  have hb6 : w6.heap[kb]? = w.heap[kb]? := g6.blk kb n1 n3
  have hcol : ∀ g, (col g).isSome = true → (w6.setCell ⟨kb, 3, none⟩ mv6).heap[g]? = w.heap[g]? := fun g hg => by
    rw [heap_set_other (n5 g hg).1]
    exact g6.blk g (h.c.lt hg).2.1 (h.ap g hg)
  have hmv6 : ∀ g, mv6.ownBlock = some g → g ≠ kb := fun g hg e => by
    rcases g6.own g hg with q | q
    · exact n3 (e ▸ q)
    · omega
  refine ⟨⟨?_, h.lo, h.l.move fun g hg => ?_, ⟨h6.len, own_move h6.out fun g hg => heap_set_other (hmv6 g hg)⟩, h.c.move hcol, fun g hg q => ?_⟩, hcol, ?_, fun k hk hf => ?_⟩
  · have := heap_set_at (i := 3) (v := mv6) (hb6.trans h.box)
    rw [this]; rfl
  · have hne : g ≠ kb := fun e => n2 (e ▸ hg)
    rw [heap_set_other hne, g6.blk g (own_block h.l.out hg).2 (fun q => n4 g hg q)]
  · rcases g6.own g q with q | q
    · exact h.ap g hg q
    · have := (h.c.lt hg).2.1; omega
  · exact only_set (g6.only.mono fun i _ hi => .inr (.inr (.inl hi))) kb 3 mv6 (.inl rfl)
  · rcases hf with q | q | q | q
    · exact .inl q
    · exact .inr (.inl q)
    · rcases g6.own k q with q | q
      · exact .inr (.inr (.inl q))
      · omega
    · exact .inr (.inr (.inr q))
theorem KL.far {w w' : World} {B kb lv mv vs ms col v v' n y} (h : KL w B kb lv mv vs ms col) (f : Far w B col v n y) (h6 : OwnM w' B v' (n + 1) (List.replicate n (mkM y) ++ [mkM y])) (g6 : GJ B w w' v v') :
    ∃ col', ColLe col col' ∧ KL w' B kb lv mv vs ms col' ∧ Far w' B col' v' (n + 1) y ∧ Only (KF kb lv mv col) w w' ∧ ∀ k, k < w.heap.size → KF kb lv mv col' k → KF kb lv mv col k := by
  obtain ⟨n1, n2, n3, n4, n5⟩ := h.nes
  obtain ⟨col', c1, c2, c3, c4⟩ := f.more h.c h6 g6
  have hv : ∀ g, v.ownBlock = some g → (col g).isSome = true := fun g hg => by rw [f.col g hg]; rfl
  have blk : ∀ g, g < w.heap.size → ¬ (col g).isSome = true → w'.heap[g]? = w.heap[g]? := fun g hl hg => g6.gi.blk g hl fun q => hg (hv g q)
  refine ⟨col', c1, ⟨(blk kb n1 fun q => (n5 kb q).1 rfl).trans h.box, h.lo, h.l.move fun g hg => blk g (own_block h.l.out hg).2 fun q => (n5 g q).2 hg, ⟨h.m.len, own_move h.m.out fun g hg => blk g (own_block h.m.out hg).2 fun q => h.ap g q hg⟩, c2, fun g hg q => ?_⟩, c3, g6.gi.only.mono fun i _ hi => .inr (.inr (.inr (hv i hi))), fun k hk hf => ?_⟩
  · rcases c4 g hg with e | e
    · exact h.ap g e q
    · have := (own_block h.m.out q).2; omega
  · rcases hf with q | q | q | q
    · exact .inl q
    · exact .inr (.inl q)
    · exact .inr (.inr (.inl q))
    · rcases c4 k q with e | e
      · exact .inr (.inr (.inr e))
      · omega
theorem Far.move {w w' : World} {B col v n y} (h : Far w B col v n y) (hk : ∀ g, (col g).isSome = true → w'.heap[g]? = w.heap[g]?) : Far w' B col v n y :=
  ⟨h.own.move fun g hg => hk g (by rw [h.col g hg]; rfl), h.col⟩
end Go.Proofs.Ytdoiblknbpbhaaa
