import Derived.Lib.SmallJoins
import Derived.Test.YtdbkjjelaipcfaaGreatDoorJaw
import Derived.Test.YtdbkjjelaipcfaaGreatDoorJax
set_option linter.unusedVariables false
set_option linter.unusedSimpArgs false
namespace Go.Proofs.YtdbkjjelaipcfaaGreatDoor
open Go.ChangeShapes Go.WideShapes Go.ChangeAt Go.RowKit Go.Maps
theorem blk_type {w : World} {a b : Nat} {ca cb : Array Value} {ta tb : TypeId} {fa fb : Nat × Nat} (ha : w.heap[a]? = some (.cells ca ta fa)) (hb : w.heap[b]? = some (.cells cb tb fb)) (hne : ta ≠ tb) : a ≠ b := by
 rintro rfl
 rw [ha] at hb
 simp only [Option.some.injEq, Obj.cells.injEq] at hb
 exact hne hb.2.1
structure LV2 (wr wq : World) (A : Array Value) (gb : Nat) (s : ByteArray) (pa : Option Addr) (pn pc : Nat) (r : Int) (vv : Value) (ys : List (List Value)) (f : Fu) (k : Nat) : Prop where
 box : wq.heap[gb]? = some (.cells #[.string s, .slice pa pn pc, .int .i64 r, vv, .slice none 0 0] 38 (0, 0))
 src : wq.heap[wr.heap.size]? = some (.cells A 38 (0, 0))
 lo : wr.heap.size < gb
 row : Row wq wr.heap.size 42 4 vv ys
 len : ys.length = k
 el : ∀ i (h : i < ys.length) (h' : i < f.vals.length), VE wq wr.heap.size ys[i] f.vals[i]
 par : IM wq wr.heap.size pa pc f.params
 bel : Below wr.heap.size wr wq
structure LB2 (wr wq : World) (A : Array Value) (gb : Nat) (s : ByteArray) (pa : Option Addr) (pn pc : Nat) (r : Int) (vb vn vc : Nat) (bv : Value) (ys : List (List Value)) (f : Fu) (k : Nat) : Prop where
 box : wq.heap[gb]? = some (.cells #[.string s, .slice pa pn pc, .int .i64 r, .slice (some ⟨vb, 0, none⟩) vn vc, bv] 38 (0, 0))
 src : wq.heap[wr.heap.size]? = some (.cells A 38 (0, 0))
 lo : wr.heap.size < gb
 row : Row wq wr.heap.size 46 6 bv ys
 len : ys.length = k
 el : ∀ i (h : i < ys.length) (h' : i < f.blks.length), BE wq wr.heap.size ys[i] f.blks[i]
 par : IM wq wr.heap.size pa pc f.params
 vm : VM wq wr.heap.size vb vc f.vals
 bel : Below wr.heap.size wr wq
theorem LV2.keep {wr wq w' : World} {A gb s pa pn pc r vv ys f k} (h : LV2 wr wq A gb s pa pn pc r vv ys f k) (hb : Below wq.heap.size wq w') : LV2 wr w' A gb s pa pn pc r vv ys f k :=
 ⟨(hb.block _ (gl h.box)).trans h.box, (hb.block _ (gl h.src)).trans h.src, h.lo, h.row.keep hb, h.len, fun i hi hi' => (h.el i hi hi').move fun b cs _ e => hb.block b (gl e), h.par.below hb, h.bel.trans (hb.mono h.bel.size)⟩
theorem LB2.keep {wr wq w' : World} {A gb s pa pn pc r vb vn vc bv ys f k} (h : LB2 wr wq A gb s pa pn pc r vb vn vc bv ys f k) (hb : Below wq.heap.size wq w') : LB2 wr w' A gb s pa pn pc r vb vn vc bv ys f k := by
 have hi : ∀ b cs, wr.heap.size <= b -> wq.heap[b]? = some (.cells cs 3 (0, 0)) -> w'.heap[b]? = wq.heap[b]? := fun b cs _ e => hb.block b (gl e)
 exact ⟨(hb.block _ (gl h.box)).trans h.box, (hb.block _ (gl h.src)).trans h.src, h.lo, h.row.keep hb, h.len, fun i hi1 hi' => (h.el i hi1 hi').move hi, h.par.below hb, h.vm.move hi (hb.block _ h.vm.lt), h.bel.trans (hb.mono h.bel.size)⟩
theorem put_other {wr wq w2 : World} {e : TypeId} {z : Nat} {v v2 : Value} {xs : List (List Value)} {A : Array Value} {gb : Nat} {o : Nat} (hrow : Row wq wr.heap.size e z v xs) (g2 : GI wr.heap.size wq w2 v v2) (hbox : wq.heap[gb]? = some (.cells A 38 (0, 0))) {b : Nat} {cs : Array Value} {t : TypeId} (hb : wq.heap[b]? = some (.cells cs t (0, 0))) (h1 : e ≠ t) (h2 : t ≠ 38 \/ b ≠ gb) :
 (w2.setCell ⟨gb, o, none⟩ v2).heap[b]? = wq.heap[b]? := by
 have hne : b ≠ gb := by
  rcases h2 with q | q
  ·exact blk_type hb hbox q
  ·exact q
 rw [heap_set_other hne, g2.blk b (gl hb) (own_not hrow.out hb h1)]
theorem row_set_other {w : World} {B e z v xs} {gb o : Nat} {A : Array Value} {u : Value} (h : Row w B e z v xs) (hbox : w.heap[gb]? = some (.cells A 38 (0, 0))) (hne : e ≠ 38) : Row (w.setCell ⟨gb, o, none⟩ u) B e z v xs := h.move fun g hg => heap_set_other fun q => own_not h.out hbox hne (q ▸ hg)
theorem LV2.more {wr wq w2 : World} {A gb s pa pn pc r vv ys f k} {vv2 : Value} {cs : List Value} (h : LV2 wr wq A gb s pa pn pc r vv ys f k) (hk : k < f.vals.length) (hR : Row w2 wr.heap.size 42 4 vv2 (ys ++ [cs])) (g2 : GI wr.heap.size wq w2 vv vv2) (hE : VE wq wr.heap.size cs f.vals[k]) :
 LV2 wr (w2.setCell ⟨gb, 3, none⟩ vv2) A gb s pa pn pc r vv2 (ys ++ [cs]) f (k + 1) := by
 have hb2 : w2.heap[gb]? = wq.heap[gb]? := g2.blk gb (gl h.box) (own_not h.row.out h.box (by decide))
 have hi : ∀ b cs, wr.heap.size <= b -> wq.heap[b]? = some (.cells cs 3 (0, 0)) -> (w2.setCell ⟨gb, 3, none⟩ vv2).heap[b]? = wq.heap[b]? := fun b cs _ e => put_other h.row g2 h.box e (by decide) (.inl (by decide))
 refine ⟨?_, (put_other h.row g2 h.box h.src (by decide) (.inr (by have := h.lo; omega))).trans h.src, h.lo, row_set_other hR (hb2.trans h.box) (by decide), by simp [h.len], fun i h1 h2 => ?_, h.par.move hi, (h.bel.trans g2.bel).setCell (by show wr.heap.size <= gb; have := h.lo; omega) _⟩
 ·have := heap_set_at (i := 3) (v := vv2) (hb2.trans h.box)
  rw [this]; rfl
 ·by_cases q : i < ys.length
  ·rw [List.getElem_append_left q]
   exact (h.el i q h2).move hi
  ·have e : i = k := by simp at h1; have := h.len; omega
   subst e
   rw [List.getElem_append_right (by omega)]
   have e2 : [cs][i - ys.length]'(by simp at h1 ⊢; omega) = cs := by simp
   rw [e2]
   exact hE.move hi
theorem LB2.more {wr wq w2 : World} {A gb s pa pn pc r vb vn vc bv ys f k} {vv2 : Value} {cs : List Value} (h : LB2 wr wq A gb s pa pn pc r vb vn vc bv ys f k) (hk : k < f.blks.length) (hR : Row w2 wr.heap.size 46 6 vv2 (ys ++ [cs])) (g2 : GI wr.heap.size wq w2 bv vv2) (hE : BE wq wr.heap.size cs f.blks[k]) :
 LB2 wr (w2.setCell ⟨gb, 4, none⟩ vv2) A gb s pa pn pc r vb vn vc vv2 (ys ++ [cs]) f (k + 1) := by
 have hb2 : w2.heap[gb]? = wq.heap[gb]? := g2.blk gb (gl h.box) (own_not h.row.out h.box (by decide))
 have hi : ∀ b cs, wr.heap.size <= b -> wq.heap[b]? = some (.cells cs 3 (0, 0)) -> (w2.setCell ⟨gb, 4, none⟩ vv2).heap[b]? = wq.heap[b]? := fun b cs _ e => put_other h.row g2 h.box e (by decide) (.inl (by decide))
 obtain ⟨vcs, hvcs⟩ := h.vm.ty
 refine ⟨?_, (put_other h.row g2 h.box h.src (by decide) (.inr (by have := h.lo; omega))).trans h.src, h.lo, row_set_other hR (hb2.trans h.box) (by decide), by simp [h.len], fun i h1 h2 => ?_, h.par.move hi, h.vm.move hi (put_other h.row g2 h.box hvcs (by decide) (.inl (by decide))), (h.bel.trans g2.bel).setCell (by show wr.heap.size <= gb; have := h.lo; omega) _⟩
 ·have := heap_set_at (i := 4) (v := vv2) (hb2.trans h.box)
  rw [this]; rfl
 ·by_cases q : i < ys.length
  ·rw [List.getElem_append_left q]
   exact (h.el i q h2).move hi
  ·have e : i = k := by simp at h1; have := h.len; omega
   subst e
   rw [List.getElem_append_right (by omega)]
   have e2 : [cs][i - ys.length]'(by simp at h1 ⊢; omega) = cs := by simp
   rw [e2]
   exact hE.move hi
theorem LV2.done {wr wq w2 : World} {A gb s pa pn pc r vv ys f} {vv2 : Value} (h : LV2 wr wq A gb s pa pn pc r vv ys f f.vals.length) (hR : Row w2 wr.heap.size 42 4 vv2 (ys ++ [[.int .i64 (-71), .int .i64 0, .int .i64 0, .slice none 0 0]])) (g2 : GI wr.heap.size wq w2 vv vv2) :
 ∃ vb vc, vv2 = .slice (some ⟨vb, 0, none⟩) (f.vals.length + 1) vc /\ f.vals.length + 1 <= vc /\ vc <= 9223372036854775807 /\ LB2 wr (w2.setCell ⟨gb, 3, none⟩ (.slice (some ⟨vb, 0, none⟩) f.vals.length vc)) A gb s pa pn pc r vb f.vals.length vc (.slice none 0 0) [] f 0 := by
 have hb2 : w2.heap[gb]? = wq.heap[gb]? := g2.blk gb (gl h.box) (own_not h.row.out h.box (by decide))
 have hi0 : ∀ b cs, wr.heap.size <= b -> wq.heap[b]? = some (.cells cs 3 (0, 0)) -> w2.heap[b]? = wq.heap[b]? := fun b cs _ e => g2.blk b (gl e) (own_not h.row.out e (by decide))
 obtain ⟨vb, vc, rfl, hV⟩ := VM.of_row hR h.len fun i h1 h2 => (h.el i h2 h1).move hi0
 refine ⟨vb, vc, rfl, hV.le, hV.mx, ?_⟩
 obtain ⟨vcs, hvcs⟩ := hV.ty
 have hbx := hb2.trans h.box
 have hi1 : ∀ b cs, wr.heap.size <= b -> w2.heap[b]? = some (.cells cs 3 (0, 0)) -> (w2.setCell ⟨gb, 3, none⟩ (.slice (some ⟨vb, 0, none⟩) f.vals.length vc)).heap[b]? = w2.heap[b]? := fun b cs _ e => heap_set_other (blk_type e hbx (by decide))
 refine ⟨?_, ?_, h.lo, Row.nil _ _ _ _, rfl, fun i h1 => by simp at h1, (h.par.move hi0).move hi1, hV.move hi1 (heap_set_other (blk_type hvcs hbx (by decide))), (h.bel.trans g2.bel).setCell (by show wr.heap.size <= gb; have := h.lo; omega) _⟩
 ·have := heap_set_at (i := 3) (v := .slice (some ⟨vb, 0, none⟩) f.vals.length vc) hbx
  rw [this]; rfl
 ·rw [heap_set_other (by have := h.lo; omega), g2.blk _ (gl h.src) (own_not h.row.out h.src (by decide))]
  exact h.src
structure LF2 (wr wq : World) (A : Array Value) (gb : Nat) (cs : List Value) (f : Fu) : Prop where
 box : wq.heap[gb]? = some (.cells cs.toArray 38 (0, 0))
 fe : FE wq wr.heap.size cs f
 lo : wr.heap.size < gb
 bel : Below wr.heap.size wr wq
theorem LB2.done {wr wq w2 : World} {A gb pa pc vb vc bv ys f} {vv2 : Value} (h : LB2 wr wq A gb f.name pa f.params.length pc f.result vb f.vals.length vc bv ys f f.blks.length) (hR : Row w2 wr.heap.size 46 6 vv2 (ys ++ [[.slice none 0 0, .slice none 0 0, .int .i64 (-71), .int .i64 0, .slice none 0 0, .slice none 0 0]])) (g2 : GI wr.heap.size wq w2 bv vv2) :
 ∃ bb bc, vv2 = .slice (some ⟨bb, 0, none⟩) (f.blks.length + 1) bc /\ f.blks.length + 1 <= bc /\ bc <= 9223372036854775807 /\ LF2 wr (w2.setCell ⟨gb, 4, none⟩ (.slice (some ⟨bb, 0, none⟩) f.blks.length bc)) A gb [.string f.name, .slice pa f.params.length pc, .int .i64 f.result, .slice (some ⟨vb, 0, none⟩) f.vals.length vc, .slice (some ⟨bb, 0, none⟩) f.blks.length bc] f := by
 have hb2 : w2.heap[gb]? = wq.heap[gb]? := g2.blk gb (gl h.box) (own_not h.row.out h.box (by decide))
 have hi0 : ∀ b cs, wr.heap.size <= b -> wq.heap[b]? = some (.cells cs 3 (0, 0)) -> w2.heap[b]? = wq.heap[b]? := fun b cs _ e => g2.blk b (gl e) (own_not h.row.out e (by decide))
 obtain ⟨bb, bc, rfl, hV⟩ := BM.of_row hR h.len fun i h1 h2 => (h.el i h2 h1).move hi0
 refine ⟨bb, bc, rfl, hV.le, hV.mx, ?_⟩
 obtain ⟨bcs, hbcs⟩ := hV.ty
 obtain ⟨vcs, hvcs⟩ := h.vm.ty
 have hbx := hb2.trans h.box
 have hvc2 : w2.heap[vb]? = wq.heap[vb]? := g2.blk vb h.vm.lt (own_not h.row.out hvcs (by decide))
 have hi1 : ∀ b cs, wr.heap.size <= b -> w2.heap[b]? = some (.cells cs 3 (0, 0)) -> (w2.setCell ⟨gb, 4, none⟩ (.slice (some ⟨bb, 0, none⟩) f.blks.length bc)).heap[b]? = w2.heap[b]? := fun b cs _ e => heap_set_other (blk_type e hbx (by decide))
 refine ⟨?_, ⟨pa, pc, vb, vc, bb, bc, rfl, (h.par.move hi0).move hi1, (h.vm.move hi0 hvc2).move hi1 (heap_set_other (blk_type (hvc2.trans hvcs) hbx (by decide))), hV.move hi1 (heap_set_other (blk_type hbcs hbx (by decide)))⟩, h.lo, (h.bel.trans g2.bel).setCell (by show wr.heap.size <= gb; have := h.lo; omega) _⟩
 have := heap_set_at (i := 4) (v := .slice (some ⟨bb, 0, none⟩) f.blks.length bc) hbx
 rw [this]; rfl
structure LO (w wr : World) (fa : Option Addr) (fn fc : Nat) (mn : Int) (lv : Value) (xs : List (List Value)) (FS : List Fu) (k : Nat) : Prop where
 src : wr.heap[w.heap.size]? = some (.cells #[.slice fa fn fc, .int .i64 mn] 24 (0, 0))
 box : wr.heap[w.heap.size + 1]? = some (.cells #[lv, .int .i64 0] 32 (0, 0))
 row : Row wr w.heap.size 38 5 lv xs
 len : xs.length = k
 el : ∀ i (h : i < xs.length) (h' : i < FS.length), FE wr w.heap.size xs[i] FS[i]
 bel : Below w.heap.size w wr
theorem LO.keep {w wr w' : World} {fa fn fc mn lv xs FS k} (h : LO w wr fa fn fc mn lv xs FS k) (hb : Below wr.heap.size wr w') : LO w w' fa fn fc mn lv xs FS k :=
 ⟨(hb.block _ (gl h.src)).trans h.src, (hb.block _ (gl h.box)).trans h.box, h.row.keep hb, h.len, fun i hi hi' => (h.el i hi hi').below hb, h.bel.trans (hb.mono h.bel.size)⟩
theorem LO.more {w wq w2 : World} {fa fn fc mn lv xs FS k lv2 cs} (h : LO w wq fa fn fc mn lv xs FS k) (hk : k < FS.length) (hR : Row w2 w.heap.size 38 5 lv2 (xs ++ [cs])) (g2 : GI w.heap.size wq w2 lv lv2) (hE : FE wq w.heap.size cs FS[k]) :
 LO w (w2.setCell ⟨w.heap.size + 1, 0, none⟩ lv2) fa fn fc mn lv2 (xs ++ [cs]) FS (k + 1) := by
 have hbx : w2.heap[w.heap.size + 1]? = wq.heap[w.heap.size + 1]? := g2.blk _ (gl h.box) (own_not h.row.out h.box (by decide))
 have ht : ∀ b cs t, w.heap.size <= b -> wq.heap[b]? = some (.cells cs t (0, 0)) -> t ≠ 38 -> t ≠ 32 -> (w2.setCell ⟨w.heap.size + 1, 0, none⟩ lv2).heap[b]? = wq.heap[b]? := fun b cs t _ e h1 h2 => by
  rw [heap_set_other (blk_type e h.box h2), g2.blk b (gl e) (own_not h.row.out e (fun q => h1 q.symm))]
 have hF : ∀ {cs f}, FE wq w.heap.size cs f -> FE (w2.setCell ⟨w.heap.size + 1, 0, none⟩ lv2) w.heap.size cs f := fun {cs f} hf => by
  obtain ⟨a, k, vb, vc, bb, bc, e, h1, h2, h3⟩ := hf.out
  obtain ⟨c2, e2⟩ := h2.ty
  obtain ⟨c3, e3⟩ := h3.ty
  have hi : ∀ b cs, w.heap.size <= b -> wq.heap[b]? = some (.cells cs 3 (0, 0)) -> (w2.setCell ⟨w.heap.size + 1, 0, none⟩ lv2).heap[b]? = wq.heap[b]? := fun b cs hb he => ht b cs _ hb he (by decide) (by decide)
  exact ⟨a, k, vb, vc, bb, bc, e, h1.move hi, h2.move hi (ht vb _ _ h2.lo e2 (by decide) (by decide)), h3.move hi (ht bb _ _ h3.lo e3 (by decide) (by decide))⟩
 refine ⟨(ht _ _ _ (Nat.le_refl _) h.src (by decide) (by decide)).trans h.src, ?_, hR.move fun g hg => heap_set_other fun q => own_not hR.out (hbx.trans h.box) (by decide) (q ▸ hg), by simp [h.len], fun i h1 h2 => ?_, (h.bel.trans g2.bel).setCell (by show w.heap.size <= w.heap.size + 1; omega) _⟩
 ·have := heap_set_at (i := 0) (v := lv2) (hbx.trans h.box)
  rw [this]; rfl
 ·by_cases q : i < xs.length
  ·rw [List.getElem_append_left q]
   exact hF (h.el i q h2)
  ·have e : i = k := by simp at h1; have := h.len; omega
   subst e
   rw [List.getElem_append_right (by omega)]
   have e2 : [cs][i - xs.length]'(by simp at h1 ⊢; omega) = cs := by simp
   rw [e2]
   exact hF hE
theorem LO.done {w wq w2 : World} {fa fn fc mn lv xs FS lv2} (h : LO w wq fa fn fc mn lv xs FS FS.length) (hR : Row w2 w.heap.size 38 5 lv2 (xs ++ [[.string ⟨#[109, 97, 114, 107]⟩, .slice none 0 0, .int .i64 0, .slice none 0 0, .slice none 0 0]])) (g2 : GI w.heap.size wq w2 lv lv2) :
 ∃ b c, lv2 = .slice (some ⟨b, 0, none⟩) (FS.length + 1) c /\ FS.length + 1 <= c /\ c <= 9223372036854775807 /\ LM ((w2.setCell ⟨w.heap.size + 1, 0, none⟩ (.slice (some ⟨b, 0, none⟩) FS.length c)).setCell ⟨w.heap.size + 1, 1, none⟩ (.int .i64 mn)) w.heap.size b c FS /\ ((w2.setCell ⟨w.heap.size + 1, 0, none⟩ (.slice (some ⟨b, 0, none⟩) FS.length c)).setCell ⟨w.heap.size + 1, 1, none⟩ (.int .i64 mn)).heap[w.heap.size + 1]? = some (.cells #[.slice (some ⟨b, 0, none⟩) FS.length c, .int .i64 mn] 32 (0, 0)) /\ Below w.heap.size w ((w2.setCell ⟨w.heap.size + 1, 0, none⟩ (.slice (some ⟨b, 0, none⟩) FS.length c)).setCell ⟨w.heap.size + 1, 1, none⟩ (.int .i64 mn)) /\ w2.heap[w.heap.size]? = some (.cells #[.slice fa fn fc, .int .i64 mn] 24 (0, 0)) /\ w2.heap[w.heap.size + 1]? = some (.cells #[lv, .int .i64 0] 32 (0, 0)) := by
 have hbx : w2.heap[w.heap.size + 1]? = wq.heap[w.heap.size + 1]? := g2.blk _ (gl h.box) (own_not h.row.out h.box (by decide))
 have hsx : w2.heap[w.heap.size]? = wq.heap[w.heap.size]? := g2.blk _ (gl h.src) (own_not h.row.out h.src (by decide))
 have hn : (xs ++ [[Value.string ⟨#[109, 97, 114, 107]⟩, .slice none 0 0, .int .i64 0, .slice none 0 0, .slice none 0 0]]).length = FS.length + 1 := by simp [h.len]
 obtain ⟨b, c, cs, rfl, h1, h2, h3, h4⟩ := hR.some (by simp)
 have hnb : b ≠ w.heap.size + 1 := blk_type h4 (hbx.trans h.box) (by decide)
 have hcell : ∀ q u, w2.cell? ⟨b, q, none⟩ = some u -> ((w2.setCell ⟨w.heap.size + 1, 0, none⟩ (.slice (some ⟨b, 0, none⟩) FS.length c)).setCell ⟨w.heap.size + 1, 1, none⟩ (.int .i64 mn)).cell? ⟨b, q, none⟩ = some u := fun q u hu => by
  rw [<- hu]
  exact World.cell?_of_block (w := w2) ((heap_set_other hnb).trans (heap_set_other hnb))
 have hcs : (FS.length + 1) * 5 <= cs.size := by
  rcases hR.out.2 with ⟨q, _⟩ | ⟨g2', cap, cur, q, _, p3, p4, p5, p6, p7⟩
  ·cases q
  ·cases q
   rw [h4] at p3
   simp only [Option.some.injEq, Obj.cells.injEq] at p3
   obtain ⟨rfl, _⟩ := p3
   have := own_cell hR.out ((FS.length + 1) * 5 - 1) (by rw [hn]; omega)
   have hlt : ((FS.length + 1) * 5 - 1) < (xs ++ [[Value.string ⟨#[109, 97, 114, 107]⟩, .slice none 0 0, .int .i64 0, .slice none 0 0, .slice none 0 0]]).flatten.length := by rw [flat_len _ hR.len, hn]; omega
   rw [List.getElem?_eq_getElem hlt] at this
   simp only [World.cell?, h4] at this
   have := (gl this)
   omega
 have ht : ∀ b' cs t, w.heap.size <= b' -> wq.heap[b']? = some (.cells cs t (0, 0)) -> t ≠ 38 -> t ≠ 32 -> ((w2.setCell ⟨w.heap.size + 1, 0, none⟩ (.slice (some ⟨b, 0, none⟩) FS.length c)).setCell ⟨w.heap.size + 1, 1, none⟩ (.int .i64 mn)).heap[b']? = wq.heap[b']? := fun b' cs t _ e h1 h2 => by
  rw [heap_set_other (blk_type e h.box h2), heap_set_other (blk_type e h.box h2), g2.blk b' (gl e) (own_not h.row.out e (fun q => h1 q.symm))]
 refine ⟨b, c, by rw [hn], by omega, h2, ⟨h3, by omega, h2, ⟨xs, h.len, fun i hi hi' => ?_, fun i hi r u hr hu => hcell _ _ (hR.cell rfl (by simp; omega) hr (by rw [List.getElem_append_left hi]; exact hu))⟩, ⟨cs, (heap_set_other hnb).trans ((heap_set_other hnb).trans h4), hcs⟩, ?_⟩, ?_, ?_, hsx.trans h.src, hbx.trans h.box⟩
 ·obtain ⟨a, k, vb, vc, bb, bc, e, q1, q2, q3⟩ := (h.el i hi' hi).out
  obtain ⟨c2, e2⟩ := q2.ty
  obtain ⟨c3, e3⟩ := q3.ty
  have hi : ∀ b' cs, w.heap.size <= b' -> wq.heap[b']? = some (.cells cs 3 (0, 0)) -> _ := fun b' cs hb he => ht b' cs _ hb he (by decide) (by decide)
  exact ⟨a, k, vb, vc, bb, bc, e, q1.move hi, q2.move hi (ht vb _ _ q2.lo e2 (by decide) (by decide)), q3.move hi (ht bb _ _ q3.lo e3 (by decide) (by decide))⟩
 ·have := hR.cell rfl (i := xs.length) (by simp) (r := 0) (by omega) (u := .string ⟨#[109, 97, 114, 107]⟩) (by simp)
  rw [h.len] at this
  exact hcell _ _ this
 ·have e1 := heap_set_at (i := 0) (v := .slice (some ⟨b, 0, none⟩) FS.length c) (hbx.trans h.box)
  have e2 := heap_set_at (i := 1) (v := .int .i64 mn) e1
  rw [e2]; rfl
 ·exact ((h.bel.trans g2.bel).setCell (by show w.heap.size <= w.heap.size + 1; omega) _).setCell (by show w.heap.size <= w.heap.size + 1; omega) _
theorem blk_pos {H : Type} (d : DataW H) : 1 <= Rows.uptoBulk d := by
 cases d with
 | lit l => cases l <;> simp [Rows.uptoBulk]
 | _ => simp [Rows.uptoBulk]
theorem blk_sum {H : Type} : ∀ l : List (DataW H), Rows.uptoBulkAll l = (l.map Rows.uptoBulk).sum
 | [] => by simp [Rows.uptoBulkAll]
 | d :: l => by simp [Rows.uptoBulkAll, blk_sum l]
theorem sum_le {α : Type} {f g : α -> Nat} : ∀ l : List α, (∀ x ∈ l, f x <= g x) -> (l.map f).sum <= (l.map g).sum
 | [], _ => by simp
 | x :: l, h => by
   have := sum_le l fun y hy => h y (by simp [hy])
   have := h x (by simp)
   simp only [List.map_cons, List.sum_cons]; omega
theorem sum_one : ∀ l : List Nat, (l.map fun _ => 1).sum = l.length
 | [] => rfl
 | x :: l => by simp only [List.map_cons, List.sum_cons, List.length_cons, sum_one l]; omega
theorem blk_slice {H : Type} {len m : Nat} {D : Nat -> DataW H} {g : Nat -> Nat} (h : ∀ i, i < len -> g i <= Rows.uptoBulk (D i)) : ((List.range len).map g).sum + 1 <= Rows.uptoBulk (.slice ((List.range len).map D) ((List.range (m - len)).map fun j => D (len + j))) := by
 simp only [Rows.uptoBulk, blk_sum, List.map_map]
 have := sum_le (f := g) (g := Rows.uptoBulk ∘ D) (List.range len) fun i hi => h i (List.mem_range.1 hi)
 omega
theorem map_at {α β : Type} (q : Nat -> α) (g : α -> β) (len : Nat) : ((List.range len).map q).map g = (List.range len).map fun i => g (q i) := by simp
theorem add_plain9 (b o j : Nat) : (⟨b, o, none⟩ : Addr).add j = ⟨b, o + j, none⟩ := add_none b o j
theorem ints_view9 {H : Type} {enc : TypeId × Value -> H} {W : World} {fuel : Nat} {cs : List Value} {x : DataW H × List MemPlace} (h : DataW.trod enc Tryz.prog W 0 (fun _ => true) true fuel 34 cs = some x) :
 ∃ (ao : Option Addr) (cap : Nat) (L : List Int), cs = [.slice ao L.length cap] /\ Ints W ao cap L /\ L.length + 1 <= Rows.uptoBulk x.1 := by
 rcases Deep.open_slice Tryz.underlying34 h with ⟨h0, _⟩ | ⟨a, len, cap, m, n, D, Pl, rfl, _, hl, hm, hmm, rfl, hx⟩
 ·exact ⟨none, 0, [], h0, ints_none W, by have := blk_pos x.1; simpa using this⟩
 ·have c5 : Tryz.prog.cellsOf 3 = 1 := by kernel_rfl
  rw [c5] at hx
  have hml : len <= m := by rw [hmm]; simp; exact hl
  have each : ∀ i, i < len -> ∃ q : Int, W.cell? (a.add i) = some (.int .i64 q) := by
   intro i hi
   obtain ⟨cs', h1, h2⟩ := hx i (by omega)
   obtain ⟨_, hlen, hcell⟩ := World.cells?_some h1
   obtain ⟨n0, e0, _, z0⟩ := DataW.trod_int Tryz.underlying3 h2
   subst e0
   have q0 := hcell 0 (by omega)
   rw [Deep.add_add] at q0
   exact ⟨n0, by simpa using q0⟩
  obtain ⟨q, hq⟩ := Deep.choose_lt each
  refine ⟨some a, cap, (List.range len).map q, by simp, ⟨by simpa using hl, by unfold maxLen at hm; omega, fun hne => ?_⟩, ?_⟩
  ·have hl0 : 0 < len := by
    rcases Nat.eq_zero_or_pos len with h | h
    ·subst h; simp at hne
    ·exact h
   obtain ⟨b, off, spot⟩ := a
   have hspot : spot = none := by simpa [Addr.add] using World.cell?_spot (hq 0 hl0)
   subst hspot
   refine ⟨b, off, rfl, by have := block_lt_of_cell (hq 0 hl0); simpa [Addr.add] using this, fun i hi => ?_⟩
   have hi' : i < len := by simpa using hi
   have := hq i hi'
   rw [add_none] at this
   rw [this]; simp
  ·have := blk_slice (m := m) (D := D) (len := len) (g := fun _ => 1) fun i _ => blk_pos (D i)
   rw [sum_one] at this
   simpa using this
def szV (v : Vl) : Nat := v.args.length + 1
def szB (b : Bk) : Nat := b.phis.length + b.body.length + b.ways.length + b.preds.length + 1
def szF (f : Fu) : Nat := f.name.size + f.params.length + (f.vals.map szV).sum + (f.blks.map szB).sum + 1
def szS (FS : List Fu) : Nat := (FS.map szF).sum
set_option maxRecDepth 20000 in
set_option maxHeartbeats 2000000 in
theorem vals_view {H : Type} {enc : TypeId × Value -> H} {W : World} {fuel : Nat} {cs : List Value} {x : DataW H × List MemPlace} (h : DataW.trod enc Tryz.prog W 0 (fun _ => true) true fuel 35 cs = some x) :
 ∃ (ao : Option Addr) (cap : Nat) (N : List Vl), cs = [.slice ao N.length cap] /\ Vls W ao cap N /\ (N.map szV).sum + 1 <= Rows.uptoBulk x.1 := by
 rcases Deep.open_slice Tryz.underlying35 h with ⟨h0, _⟩ | ⟨a, len, cap, m, n, D, Pl, rfl, _, hl, hm, hmm, rfl, hx⟩
 ·exact ⟨none, 0, [], h0, ⟨Nat.le_refl _, by decide, fun h => absurd rfl h⟩, by have := blk_pos x.1; simpa using this⟩
 ·have ce : Tryz.prog.cellsOf 42 = 4 := by kernel_rfl
  have c3 : Tryz.prog.cellsOf 3 = 1 := by kernel_rfl
  have c36 : Tryz.prog.cellsOf 34 = 1 := by kernel_rfl
  rw [ce] at hx
  have hml : len <= m := by rw [hmm]; simp; exact hl
  have each : ∀ i, i < len -> ∃ q : Vl, (∃ (ka : Option Addr) (kc : Nat), W.cell? (a.add (i * 4)) = some (.int .i64 q.op) /\ W.cell? (a.add (i * 4 + 1)) = some (.int .i64 q.ty) /\ W.cell? (a.add (i * 4 + 2)) = some (.int .i64 q.imm) /\ W.cell? (a.add (i * 4 + 3)) = some (.slice ka q.args.length kc) /\ Ints W ka kc q.args) /\ szV q <= Rows.uptoBulk (D i) := by
   intro i hi
   obtain ⟨cs', h1, h2⟩ := hx i (by omega)
   obtain ⟨_, hlen, hcell⟩ := World.cells?_some h1
   obtain ⟨xs, k, hk, hxy, _, hxl, hf⟩ := DataW.trod_struct Tryz.underlying42 h2
   match cs', hlen with
   | [v0, v1, v2, v3], _ =>
     have g0 := hf 0 _ rfl
     have g1 := hf 1 _ rfl
     have g2 := hf 2 _ rfl
     have g3 := hf 3 _ rfl
     simp [c3, c36] at g0 g1 g2 g3
     match xs, hxl with
     | [y0, y1, y2, y3], _ =>
       obtain ⟨n0, e0, _, _⟩ := DataW.trod_int Tryz.underlying3 (show DataW.trod enc Tryz.prog W 0 _ true k 3 _ = some y0 from g0)
       obtain ⟨n1, e1, _, _⟩ := DataW.trod_int Tryz.underlying3 (show DataW.trod enc Tryz.prog W 0 _ true k 3 _ = some y1 from g1)
       obtain ⟨n2, e2, _, _⟩ := DataW.trod_int Tryz.underlying3 (show DataW.trod enc Tryz.prog W 0 _ true k 3 _ = some y2 from g2)
       obtain ⟨ka, kc, L, e3, hI, hbk⟩ := ints_view9 (show DataW.trod enc Tryz.prog W 0 _ true k 34 _ = some y3 from g3)
       simp at e0 e1 e2 e3
       subst e0 e1 e2 e3
       have hc : ∀ j (hj : j < 4), W.cell? (a.add (i * 4 + j)) = some ([.int .i64 n0, .int .i64 n1, .int .i64 n2, .slice ka L.length kc][j]'(by simpa using hj)) := by
        intro j hj
        have := hcell j (by omega)
        rw [Deep.add_add] at this
        rw [this]; simp
       refine ⟨⟨n0, n1, n2, L⟩, ⟨ka, kc, hc 0 (by omega), hc 1 (by omega), hc 2 (by omega), hc 3 (by omega), hI⟩, ?_⟩
       rw [show D i = _ from congrArg Prod.fst hxy]
       simp only [szV, Rows.uptoBulk, Rows.uptoBulkAll, List.map_cons, List.map_nil]
       omega
  haveI : Inhabited Vl := ⟨⟨0, 0, 0, []⟩⟩
  obtain ⟨q, hq⟩ := Deep.choose_lt each
  refine ⟨some a, cap, (List.range len).map q, by simp, ⟨by simpa using hl, by unfold maxLen at hm; omega, fun hne => ?_⟩, ?_⟩
  ·have hl0 : 0 < len := by
    rcases Nat.eq_zero_or_pos len with h | h
    ·subst h; simp at hne
    ·exact h
   obtain ⟨b, off, spot⟩ := a
   obtain ⟨⟨_, _, c00, _⟩, _⟩ := hq 0 hl0
   have hspot : spot = none := by simpa [Addr.add] using World.cell?_spot c00
   subst hspot
   refine ⟨b, off, rfl, by have := block_lt_of_cell c00; simpa [Addr.add] using this, fun i hi => ?_⟩
   have hi' : i < len := by simpa using hi
   obtain ⟨⟨ka, kc, d0, d1, d2, d3, hI⟩, _⟩ := hq i hi'
   simp only [add_plain9, <- Nat.add_assoc] at d0 d1 d2 d3
   have e : ((List.range len).map q)[i] = q i := by simp
   rw [e]
   exact ⟨ka, kc, d0, d1, d2, d3, hI⟩
  ·rw [map_at]
   exact blk_slice fun i hi => (hq i hi).2
set_option maxRecDepth 20000 in
set_option maxHeartbeats 2000000 in
theorem blks_view {H : Type} {enc : TypeId × Value -> H} {W : World} {fuel : Nat} {cs : List Value} {x : DataW H × List MemPlace} (h : DataW.trod enc Tryz.prog W 0 (fun _ => true) true fuel 36 cs = some x) :
 ∃ (ao : Option Addr) (cap : Nat) (N : List Bk), cs = [.slice ao N.length cap] /\ Bks W ao cap N /\ (N.map szB).sum + 1 <= Rows.uptoBulk x.1 := by
 rcases Deep.open_slice Tryz.underlying36 h with ⟨h0, _⟩ | ⟨a, len, cap, m, n, D, Pl, rfl, _, hl, hm, hmm, rfl, hx⟩
 ·exact ⟨none, 0, [], h0, ⟨Nat.le_refl _, by decide, fun h => absurd rfl h⟩, by have := blk_pos x.1; simpa using this⟩
 ·have ce : Tryz.prog.cellsOf 46 = 6 := by kernel_rfl
  have c3 : Tryz.prog.cellsOf 3 = 1 := by kernel_rfl
  have c36 : Tryz.prog.cellsOf 34 = 1 := by kernel_rfl
  have c31 : Tryz.prog.cellsOf 44 = 3 := by kernel_rfl
  rw [ce] at hx
  have hml : len <= m := by rw [hmm]; simp; exact hl
  have each : ∀ i, i < len -> ∃ q : Bk, (∃ (ka : Option Addr) (kc : Nat) (la : Option Addr) (lc : Nat) (ma : Option Addr) (mc : Nat) (na : Option Addr) (nc : Nat), W.cell? (a.add (i * 6)) = some (.slice ka q.phis.length kc) /\ W.cell? (a.add (i * 6 + 1)) = some (.slice la q.body.length lc) /\ W.cell? (a.add (i * 6 + 2)) = some (.int .i64 q.kind) /\ W.cell? (a.add (i * 6 + 3)) = some (.int .i64 q.val) /\ W.cell? (a.add (i * 6 + 4)) = some (.slice ma q.ways.length mc) /\ W.cell? (a.add (i * 6 + 5)) = some (.slice na q.preds.length nc) /\ Ints W ka kc q.phis /\ Ints W la lc q.body /\ Ints W ma mc q.ways /\ Ints W na nc q.preds) /\ szB q <= Rows.uptoBulk (D i) := by
   intro i hi
   obtain ⟨cs', h1, h2⟩ := hx i (by omega)
   obtain ⟨_, hlen, hcell⟩ := World.cells?_some h1
   obtain ⟨xs, k, hk, hxy, _, hxl, hf⟩ := DataW.trod_struct Tryz.underlying46 h2
   match cs', hlen with
   | [v0, v1, v2, v3, v4, v5], _ =>
     have g0 := hf 0 _ rfl
     have g1 := hf 1 _ rfl
     have g2 := hf 2 _ rfl
     have g3 := hf 3 _ rfl
     simp [c3, c36, c31] at g0 g1 g2 g3
     match xs, hxl with
     | [y0, y1, y2, y3], _ =>
       obtain ⟨ka, kc, L0, e0, hI0, hb0⟩ := ints_view9 (show DataW.trod enc Tryz.prog W 0 _ true k 34 _ = some y0 from g0)
       obtain ⟨la, lc, L1, e1, hI1, hb1⟩ := ints_view9 (show DataW.trod enc Tryz.prog W 0 _ true k 34 _ = some y1 from g1)
       obtain ⟨na, nc, L3, e3, hI3, hb3⟩ := ints_view9 (show DataW.trod enc Tryz.prog W 0 _ true k 34 _ = some y3 from g3)
       obtain ⟨ts, k2, hk2, hty, _, htl, hft⟩ := DataW.trod_struct Tryz.underlying44 (show DataW.trod enc Tryz.prog W 0 _ true k 44 _ = some y2 from g2)
       have f0 := hft 0 _ rfl
       have f1 := hft 1 _ rfl
       have f2 := hft 2 _ rfl
       simp [c3, c36] at f0 f1 f2
       match ts, htl with
       | [z0, z1, z2], _ =>
         obtain ⟨n0, u0, _, _⟩ := DataW.trod_int Tryz.underlying3 (show DataW.trod enc Tryz.prog W 0 _ true k2 3 _ = some z0 from f0)
         obtain ⟨n1, u1, _, _⟩ := DataW.trod_int Tryz.underlying3 (show DataW.trod enc Tryz.prog W 0 _ true k2 3 _ = some z1 from f1)
         obtain ⟨ma, mc, L2, u2, hI2, hb2⟩ := ints_view9 (show DataW.trod enc Tryz.prog W 0 _ true k2 34 _ = some z2 from f2)
         simp at e0 e1 e3 u0 u1 u2
         subst e0 e1 e3 u0 u1 u2
         have hc : ∀ j (hj : j < 6), W.cell? (a.add (i * 6 + j)) = some ([.slice ka L0.length kc, .slice la L1.length lc, .int .i64 n0, .int .i64 n1, .slice ma L2.length mc, .slice na L3.length nc][j]'(by simpa using hj)) := by
          intro j hj
          have := hcell j (by omega)
          rw [Deep.add_add] at this
          rw [this]; simp
         refine ⟨⟨L0, L1, n0, n1, L2, L3⟩, ⟨ka, kc, la, lc, ma, mc, na, nc, hc 0 (by omega), hc 1 (by omega), hc 2 (by omega), hc 3 (by omega), hc 4 (by omega), hc 5 (by omega), hI0, hI1, hI2, hI3⟩, ?_⟩
         rw [show D i = _ from congrArg Prod.fst hxy]
         have e2 : y2.1 = _ := congrArg Prod.fst hty
         simp only [szB, Rows.uptoBulk, Rows.uptoBulkAll, List.map_cons, List.map_nil, e2]
         omega
  haveI : Inhabited Bk := ⟨⟨[], [], 0, 0, [], []⟩⟩
  obtain ⟨q, hq⟩ := Deep.choose_lt each
  refine ⟨some a, cap, (List.range len).map q, by simp, ⟨by simpa using hl, by unfold maxLen at hm; omega, fun hne => ?_⟩, ?_⟩
  ·have hl0 : 0 < len := by
    rcases Nat.eq_zero_or_pos len with h | h
    ·subst h; simp at hne
    ·exact h
   obtain ⟨b, off, spot⟩ := a
   obtain ⟨⟨_, _, _, _, _, _, _, _, c00, _⟩, _⟩ := hq 0 hl0
   have hspot : spot = none := by simpa [Addr.add] using World.cell?_spot c00
   subst hspot
   refine ⟨b, off, rfl, by have := block_lt_of_cell c00; simpa [Addr.add] using this, fun i hi => ?_⟩
   have hi' : i < len := by simpa using hi
   obtain ⟨⟨ka, kc, la, lc, ma, mc, na, nc, d0, d1, d2, d3, d4, d5, hI⟩, _⟩ := hq i hi'
   simp only [add_plain9, <- Nat.add_assoc] at d0 d1 d2 d3 d4 d5
   have e : ((List.range len).map q)[i] = q i := by simp
   rw [e]
   exact ⟨ka, kc, la, lc, ma, mc, na, nc, d0, d1, d2, d3, d4, d5, hI⟩
  ·rw [map_at]
   exact blk_slice fun i hi => (hq i hi).2
set_option maxRecDepth 20000 in
set_option maxHeartbeats 2000000 in
theorem funcs_view {H : Type} {enc : TypeId × Value -> H} {W : World} {fuel : Nat} {cs : List Value} {x : DataW H × List MemPlace} (h : DataW.trod enc Tryz.prog W 0 (fun _ => true) true fuel 22 cs = some x) :
 ∃ (ao : Option Addr) (cap : Nat) (N : List Fu), cs = [.slice ao N.length cap] /\ Fus W ao cap N /\ szS N + 1 <= Rows.uptoBulk x.1 := by
 rcases Deep.open_slice Tryz.underlying22 h with ⟨h0, _⟩ | ⟨a, len, cap, m, n, D, Pl, rfl, _, hl, hm, hmm, rfl, hx⟩
 ·exact ⟨none, 0, [], h0, ⟨Nat.le_refl _, by decide, fun h => absurd rfl h⟩, by have := blk_pos x.1; simpa [szS] using this⟩
 ·have ce : Tryz.prog.cellsOf 38 = 5 := by kernel_rfl
  have c3 : Tryz.prog.cellsOf 3 = 1 := by kernel_rfl
  have c9 : Tryz.prog.cellsOf 9 = 1 := by kernel_rfl
  have c36 : Tryz.prog.cellsOf 34 = 1 := by kernel_rfl
  have cv : Tryz.prog.cellsOf 35 = 1 := by kernel_rfl
  have cb : Tryz.prog.cellsOf 36 = 1 := by kernel_rfl
  rw [ce] at hx
  have hml : len <= m := by rw [hmm]; simp; exact hl
  have each : ∀ i, i < len -> ∃ q : Fu, (∃ (ka : Option Addr) (kc : Nat) (la : Option Addr) (lc : Nat) (ma : Option Addr) (mc : Nat), W.cell? (a.add (i * 5)) = some (.string q.name) /\ W.cell? (a.add (i * 5 + 1)) = some (.slice ka q.params.length kc) /\ W.cell? (a.add (i * 5 + 2)) = some (.int .i64 q.result) /\ W.cell? (a.add (i * 5 + 3)) = some (.slice la q.vals.length lc) /\ W.cell? (a.add (i * 5 + 4)) = some (.slice ma q.blks.length mc) /\ Ints W ka kc q.params /\ Vls W la lc q.vals /\ Bks W ma mc q.blks) /\ szF q <= Rows.uptoBulk (D i) := by
   intro i hi
   obtain ⟨cs', h1, h2⟩ := hx i (by omega)
   obtain ⟨_, hlen, hcell⟩ := World.cells?_some h1
   obtain ⟨xs, k, hk, hxy, _, hxl, hf⟩ := DataW.trod_struct Tryz.underlying38 h2
   match cs', hlen with
   | [v0, v1, v2, v3, v4], _ =>
     have g0 := hf 0 _ rfl
     have g1 := hf 1 _ rfl
     have g2 := hf 2 _ rfl
     have g3 := hf 3 _ rfl
     have g4 := hf 4 _ rfl
     simp [c3, c9, c36, cv, cb] at g0 g1 g2 g3 g4
     match xs, hxl with
     | [y0, y1, y2, y3, y4], _ =>
       obtain ⟨s0, e0, z0, _⟩ := DataW.trod_string Tryz.underlying9 (show DataW.trod enc Tryz.prog W 0 _ true k 9 _ = some y0 from g0)
       obtain ⟨ka, kc, L1, e1, hI1, hb1⟩ := ints_view9 (show DataW.trod enc Tryz.prog W 0 _ true k 34 _ = some y1 from g1)
       obtain ⟨n2, e2, _, _⟩ := DataW.trod_int Tryz.underlying3 (show DataW.trod enc Tryz.prog W 0 _ true k 3 _ = some y2 from g2)
       obtain ⟨la, lc, L3, e3, hI3, hb3⟩ := vals_view (show DataW.trod enc Tryz.prog W 0 _ true k 35 _ = some y3 from g3)
       obtain ⟨ma, mc, L4, e4, hI4, hb4⟩ := blks_view (show DataW.trod enc Tryz.prog W 0 _ true k 36 _ = some y4 from g4)
       simp at e0 e1 e2 e3 e4
       subst e0 e1 e2 e3 e4
       have hc : ∀ j (hj : j < 5), W.cell? (a.add (i * 5 + j)) = some ([.string s0, .slice ka L1.length kc, .int .i64 n2, .slice la L3.length lc, .slice ma L4.length mc][j]'(by simpa using hj)) := by
        intro j hj
        have := hcell j (by omega)
        rw [Deep.add_add] at this
        rw [this]; simp
       refine ⟨⟨s0, L1, n2, L3, L4⟩, ⟨ka, kc, la, lc, ma, mc, hc 0 (by omega), hc 1 (by omega), hc 2 (by omega), hc 3 (by omega), hc 4 (by omega), hI1, hI3, hI4⟩, ?_⟩
       rw [show D i = _ from congrArg Prod.fst hxy]
       have hs : s0.size + 1 <= Rows.uptoBulk y0.1 := by rw [z0]; simp [Rows.uptoBulk]
       simp only [szF, Rows.uptoBulk, Rows.uptoBulkAll, List.map_cons, List.map_nil]
       omega
  haveI : Inhabited Fu := ⟨⟨⟨#[]⟩, [], 0, [], []⟩⟩
  obtain ⟨q, hq⟩ := Deep.choose_lt each
  refine ⟨some a, cap, (List.range len).map q, by simp, ⟨by simpa using hl, by unfold maxLen at hm; omega, fun hne => ?_⟩, ?_⟩
  ·have hl0 : 0 < len := by
    rcases Nat.eq_zero_or_pos len with h | h
    ·subst h; simp at hne
    ·exact h
   obtain ⟨b, off, spot⟩ := a
   obtain ⟨⟨_, _, _, _, _, _, c00, _⟩, _⟩ := hq 0 hl0
   have hspot : spot = none := by simpa [Addr.add] using World.cell?_spot c00
   subst hspot
   refine ⟨b, off, rfl, by have := block_lt_of_cell c00; simpa [Addr.add] using this, fun i hi => ?_⟩
   have hi' : i < len := by simpa using hi
   obtain ⟨⟨ka, kc, la, lc, ma, mc, d0, d1, d2, d3, d4, hI⟩, _⟩ := hq i hi'
   simp only [add_plain9, <- Nat.add_assoc] at d0 d1 d2 d3 d4
   have e : ((List.range len).map q)[i] = q i := by simp
   rw [e]
   exact ⟨ka, kc, la, lc, ma, mc, d0, d1, d2, d3, d4, hI⟩
  ·unfold szS
   rw [map_at]
   exact blk_slice fun i hi => (hq i hi).2
set_option maxRecDepth 20000 in
theorem ssa_view {H : Type} {enc : TypeId × Value -> H} {W : World} {r : Reach} {b0 : Nat} {v : Value} {d : DataW H} {p : List MemPlace} (hv : Value.okWide Tryz.prog W r b0 24 v) (h : DataW.Trod enc Tryz.prog W 0 (fun _ => true) true 24 v d p) :
 ∃ (fa : Option Addr) (fc : Nat) (FS : List Fu) (m : Int), v = .agg #[.slice fa FS.length fc, .int .i64 m] /\ Fus W fa fc FS /\ szS FS <= Rows.uptoBulk d := by
 obtain ⟨v0, v1, y0, y1, n, rfl, rfl, rfl, h0, h1⟩ := Joins.open_agg2 Tryz.underlying24 (by kernel_rfl) (by kernel_rfl) hv h
 obtain ⟨fa, fc, FS, e0, hF, hb⟩ := funcs_view h0
 obtain ⟨m, e1, _, _⟩ := DataW.trod_int Tryz.underlying3 h1
 simp only [List.cons.injEq, and_true] at e0 e1
 subst e0 e1
 refine ⟨fa, fc, FS, m, rfl, hF, ?_⟩
 simp only [Rows.uptoBulk, Rows.uptoBulkAll]
 omega
end Go.Proofs.YtdbkjjelaipcfaaGreatDoor
