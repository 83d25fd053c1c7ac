import Derived.Test.YtfbkopjncmkbiaaGreatDoorRows
import Derived.WalkKit
import Derived.ProofKit
import Derived.WalkLawsBesides
import Derived.WalkSpells
import Derived.Deep.WholeRow
import Derived.Test.YtfbkopjncmkbiaaGreatDoorJay
set_option linter.unusedVariables false
set_option linter.unusedSimpArgs false
namespace Go.Proofs.YtfbkopjncmkbiaaGreatDoor
open Go.ChangeShapes Go.WideShapes Go.ChangeAt Go.RowKit Go.Maps
structure MtC (s : Mst) (d : Mdy) (w : World) (M : Ms) : Prop where
 c41 : w.cell? ⟨s.mb, 41, none⟩ = some d.ve
 c42 : w.cell? ⟨s.mb, 42, none⟩ = some (.int .i64 M.fin)
 c43 : w.cell? ⟨s.mb, 43, none⟩ = some (.int .i64 M.kd)
 c44 : w.cell? ⟨s.mb, 44, none⟩ = some (.int .i64 M.vl)
 c45 : w.cell? ⟨s.mb, 45, none⟩ = some (.int .i64 M.steps)
 c46 : w.cell? ⟨s.mb, 46, none⟩ = some (.int .i64 M.words)
 c47 : w.cell? ⟨s.mb, 47, none⟩ = some (.int .i64 M.deep)
 c48 : w.cell? ⟨s.mb, 48, none⟩ = some (.bool M.rests)
 fz : ∀ i, w.frozen? ⟨s.mb, i, none⟩ = false
theorem Mach.told {FS s d w M} (h : Mach FS s d w M) : MtC s d w M :=
 ⟨cell_arr h.box rfl, cell_arr h.box rfl, cell_arr h.box rfl, cell_arr h.box rfl, cell_arr h.box rfl, cell_arr h.box rfl, cell_arr h.box rfl, cell_arr h.box rfl, fun i => fz_of h.box⟩
theorem Mach.panic {FS s d w M} (h : Mach FS s d w M) (k x : Int) : Mach FS s d (((w.setCell ⟨s.mb, 42, none⟩ (.int .i64 2)).setCell ⟨s.mb, 43, none⟩ (.int .i64 k)).setCell ⟨s.mb, 44, none⟩ (.int .i64 x)) (M.panic k x) /\ Foo s d d w (((w.setCell ⟨s.mb, 42, none⟩ (.int .i64 2)).setCell ⟨s.mb, 43, none⟩ (.int .i64 k)).setCell ⟨s.mb, 44, none⟩ (.int .i64 x)) :=
 ⟨⟨box_at (box_at (box_at h.box rfl) rfl) rfl, ((h.rest.set 42 _).set 43 _).set 44 _⟩, ((Foo.set s d w 42 _).trans (Foo.set s d _ 43 _)).trans (Foo.set s d _ 44 _)⟩
theorem Mach.exit {FS s d w M} (h : Mach FS s d w M) : Mach FS s d (w.setCell ⟨s.mb, 42, none⟩ (.int .i64 1)) { M with fin := 1 } /\ Foo s d d w (w.setCell ⟨s.mb, 42, none⟩ (.int .i64 1)) :=
 ⟨⟨box_at h.box rfl, h.rest.set 42 _⟩, Foo.set s d w 42 _⟩
theorem Mach.deeper {FS s d w M} (h : Mach FS s d w M) (k : Int) : Mach FS s d (w.setCell ⟨s.mb, 47, none⟩ (.int .i64 k)) { M with deep := k } /\ Foo s d d w (w.setCell ⟨s.mb, 47, none⟩ (.int .i64 k)) :=
 ⟨⟨box_at h.box rfl, h.rest.set 47 _⟩, Foo.set s d w 47 _⟩
theorem Mach.resting {FS s d w M} (h : Mach FS s d w M) : Mach FS s d (w.setCell ⟨s.mb, 48, none⟩ (.bool true)) { M with rests := true } /\ Foo s d d w (w.setCell ⟨s.mb, 48, none⟩ (.bool true)) :=
 ⟨⟨box_at h.box rfl, h.rest.set 48 _⟩, Foo.set s d w 48 _⟩
theorem Mach.made {FS s d w M} (h : Mach FS s d w M) (k : Int) : Mach FS s d (w.setCell ⟨s.mb, 45, none⟩ (.int .i64 k)) { M with steps := k } /\ Foo s d d w (w.setCell ⟨s.mb, 45, none⟩ (.int .i64 k)) :=
 ⟨⟨box_at h.box rfl, h.rest.set 45 _⟩, Foo.set s d w 45 _⟩
set_option maxRecDepth 10000 in
theorem told_full (w : World) {mb o : Nat} {ao : Option Addr} {c : Nat} (c0 : w.cell? ⟨mb, o, none⟩ = some (.slice ao 1048576 c)) {r : Bool} (c7 : w.cell? ⟨mb, o + 7, none⟩ = some (.bool r)) (fz : w.frozen? ⟨mb, o + 7, none⟩ = false) (k x : Int) :
 Calls Tryz.prog 122 #[.pointer (some ⟨mb, o, none⟩), .int .i64 k, .int .i64 x] w fun e w' => e = .returned (.bool false) /\ w' = w.setCell ⟨mb, o + 7, none⟩ (.bool true) := by
 go_enter Tryz.func122, Tryz.ntmps122
 go_wp2_with fail
 go_ret
 exact ⟨rfl, rfl⟩
set_option maxRecDepth 10000 in
theorem mTell_any {FS s d w M} (h : Mach FS s d w M) (k x : Int) :
 Calls Tryz.prog 79 #[.pointer (some ⟨s.mb, 0, none⟩), .int .i64 k, .int .i64 x] w fun e w' => e = .returned (.tuple #[.int .i64 0, .bool false]) /\ ∃ d', Mach FS s d' w' (M.tell k x) /\ Foo s d d' w w' := by
 obtain ⟨c41, c42, c43, c44, c45, c46, c47, c48, fz⟩ := h.told
 have hlt := h.cells.lt
 by_cases hf : M.ev.length = 1048576
 ·obtain ⟨ao, c, e, _⟩ := evs_of h.rest.ev
  rw [e, hf] at c41
  have HE : Hid _ := told_full w (o := 41) c41 c48 (fz 48) k x
  have HR : Hid (∃ d', Mach FS s d' (w.setCell ⟨s.mb, 48, none⟩ (.bool true)) (M.tell k x) /\ Foo s d d' w (w.setCell ⟨s.mb, 48, none⟩ (.bool true))) := by
   unfold Ms.tell
   rw [if_pos hf]
   exact ⟨d, h.resting⟩
  generalize s.mb = mb at HE HR hlt ⊢
  clear h c41 c42 c43 c44 c45 c46 c47 c48 fz e hf
  go_enter Tryz.func79, Tryz.ntmps79
  go_wp2_with (go_at_call 122; refine Calls.mono HE.out ?_; rintro e w1 ⟨rfl, hw1⟩; have HW : Hid _ := hw1; clear hw1)
  go_ret2
  exact ⟨rfl, by rw [HW.out]; exact HR.out⟩
 ·have hn : M.ev.length < 1048576 := by have := h.rest.evs; omega
  have HE : Hid _ := told_event w (o := 41) h.box (by decide) c41 h.rest.ev hn h.rest.hi.2 k x
  have HR : Hid (∀ v' w5, Row w5 s.hi 55 2 v' ((M.ev ++ [(k, x)]).map evc) -> GI s.hi w w5 d.ve v' -> ∃ d', Mach FS s d' (w5.setCell ⟨s.mb, 41, none⟩ v') (M.tell k x) /\ Foo s d d' w (w5.setCell ⟨s.mb, 41, none⟩ v')) := by
   intro v' w5 h5 g5
   have R := h.rest.setEv g5 h5 (by simp; omega)
   unfold Ms.tell
   rw [if_neg hf]
   refine ⟨{ d with ve := v' }, ⟨box_at (R.2.1.trans h.box) rfl, R.1.set 41 v'⟩, R.2.2.trans (Foo.set s { d with ve := v' } w5 41 v')⟩
  generalize s.mb = mb at HE HR hlt ⊢
  clear h c41 c42 c43 c44 c45 c46 c47 c48 fz hn hf
  go_enter Tryz.func79, Tryz.ntmps79
  go_wp2_with (go_at_call 122; refine Calls.mono HE.out ?_; rintro e w1 ⟨rfl, v5, w5, h5, g5, _, hw1⟩; have HW : Hid (∃ d', Mach FS s d' w1 (M.tell k x) /\ Foo s d d' w w1) := (by rw [hw1]; exact HR.out v5 w5 h5 g5); clear hw1 h5 g5)
  go_ret2
  exact ⟨rfl, HW.out⟩
set_option maxRecDepth 10000 in
theorem mPanics_any {FS s d w M} (h : Mach FS s d w M) (k x : Int) :
 Calls Tryz.prog 76 #[.pointer (some ⟨s.mb, 0, none⟩), .int .i64 k, .int .i64 x] w fun e w' => e = .returned (.tuple #[.int .i64 0, .bool false]) /\ ∃ d', Mach FS s d' w' (M.panic k x) /\ Foo s d d' w w' := by
 obtain ⟨c41, c42, c43, c44, c45, c46, c47, c48, fz⟩ := h.told
 have hlt := h.cells.lt
 have HE : Hid _ := told_panic w (o := 41) (k := k) (v := x) c42 c43 c44 (fz 42) (fz 43) (fz 44)
 have HR : Hid _ := h.panic k x
 generalize s.mb = mb at HE HR hlt
 clear h c41 c42 c43 c44 c45 c46 c47 c48 fz
 go_enter Tryz.func76, Tryz.ntmps76
 go_wp2_with (go_at_call 121; refine Calls.mono HE.out ?_; rintro e w1 ⟨rfl, hw1⟩; have HW : Hid _ := hw1; clear hw1)
 go_ret2
 exact ⟨rfl, d, by rw [HW.out]; exact HR.out⟩
theorem agr_in {s : Mst} {w : World} (hw : Agr s w) {b o : Nat} (h : ∀ W, Agr s W -> ∃ v, W.cell? ⟨b, o, none⟩ = some v) : s.lo <= b /\ b < s.hi := by
 by_cases hb : s.lo <= b /\ b < s.hi
 ·exact hb
 ·exfalso
  obtain ⟨v, hv⟩ := h { w with heap := w.heap.setIfInBounds b (.map #[] 0) } (fun k h1 h2 => by
   show (w.heap.setIfInBounds b _)[k]? = _
   rw [Array.getElem?_setIfInBounds_ne (by omega)]
   exact hw k h1 h2)
  have hlt : b < (w.heap.setIfInBounds b (.map #[] 0)).size := block_lt_of_cell hv
  simp at hlt
  simp [World.cell?, Array.getElem?_setIfInBounds_self_of_lt, hlt] at hv
theorem agr_cell {s : Mst} {w : World} (hw : Agr s w) {b : Nat} (hb : s.lo <= b /\ b < s.hi) {W : World} (hW : Agr s W) (o : Nat) : W.cell? ⟨b, o, none⟩ = w.cell? ⟨b, o, none⟩ :=
 World.cell?_of_block (w := w) ((hW b hb.1 hb.2).trans (hw b hb.1 hb.2).symm)
theorem st_int {s : Mst} {w : World} {ka : Option Addr} {kc : Nat} {L : List Int} (hw : Agr s w) (h : ∀ W, Agr s W -> Ints W ka kc L) {i : Nat} (hi : i < L.length) : ∃ b o, ka = some ⟨b, o, none⟩ /\ ∀ W, Agr s W -> W.cell? ⟨b, o + i, none⟩ = some (.int .i64 L[i]) := by
 obtain ⟨b, o, e, _⟩ := (h w hw).at hi
 refine ⟨b, o, e, fun W hW => ?_⟩
 obtain ⟨b', o', e', h'⟩ := (h W hW).at hi
 rw [e] at e'
 cases e'
 exact h'
theorem st_vl {s : Mst} {w : World} {la : Option Addr} {lc : Nat} {N : List Vl} (hw : Agr s w) (h : ∀ W, Agr s W -> Vls W la lc N) {i : Nat} (hi : i < N.length) :
 ∃ b o ka kc, la = some ⟨b, o, none⟩ /\ (∀ W, Agr s W -> W.cell? ⟨b, o + i * 4, none⟩ = some (.int .i64 N[i].op) /\ W.cell? ⟨b, o + i * 4 + 1, none⟩ = some (.int .i64 N[i].ty) /\ W.cell? ⟨b, o + i * 4 + 2, none⟩ = some (.int .i64 N[i].imm) /\ W.cell? ⟨b, o + i * 4 + 3, none⟩ = some (.slice ka N[i].args.length kc)) /\ ∀ W, Agr s W -> Ints W ka kc N[i].args := by
 have hne : N ≠ [] := by intro e; rw [e] at hi; simp at hi
 obtain ⟨b, o, e, hl, hA⟩ := (h w hw).out hne
 have hb : s.lo <= b /\ b < s.hi := agr_in (o := o + i * 4) hw fun W hW => by
  obtain ⟨b', o', e', _, hA'⟩ := (h W hW).out hne
  rw [e] at e'
  cases e'
  obtain ⟨_, _, c0, _⟩ := (hA' i hi).out
  exact ⟨_, c0⟩
 obtain ⟨ka, kc, c0, c1, c2, c3, _⟩ := (hA i hi).out
 refine ⟨b, o, ka, kc, e, fun W hW => ?_, fun W hW => ?_⟩
 ·rw [agr_cell hw hb hW, agr_cell hw hb hW, agr_cell hw hb hW, agr_cell hw hb hW]
  exact ⟨c0, c1, c2, c3⟩
 ·obtain ⟨b', o', e', _, hA'⟩ := (h W hW).out hne
  rw [e] at e'
  cases e'
  obtain ⟨ka', kc', d0, d1, d2, d3, hI⟩ := (hA' i hi).out
  rw [agr_cell hw hb hW, c3] at d3
  cases d3
  exact hI
theorem st_bk {s : Mst} {w : World} {la : Option Addr} {lc : Nat} {N : List Bk} (hw : Agr s w) (h : ∀ W, Agr s W -> Bks W la lc N) {i : Nat} (hi : i < N.length) :
 ∃ b o ka kc xa xc ma mc na nc, la = some ⟨b, o, none⟩ /\ (∀ W, Agr s W -> W.cell? ⟨b, o + i * 6, none⟩ = some (.slice ka N[i].phis.length kc) /\ W.cell? ⟨b, o + i * 6 + 1, none⟩ = some (.slice xa N[i].body.length xc) /\ W.cell? ⟨b, o + i * 6 + 2, none⟩ = some (.int .i64 N[i].kind) /\ W.cell? ⟨b, o + i * 6 + 3, none⟩ = some (.int .i64 N[i].val) /\ W.cell? ⟨b, o + i * 6 + 4, none⟩ = some (.slice ma N[i].ways.length mc) /\ W.cell? ⟨b, o + i * 6 + 5, none⟩ = some (.slice na N[i].preds.length nc))
   /\ ∀ W, Agr s W -> Ints W ka kc N[i].phis /\ Ints W xa xc N[i].body /\ Ints W ma mc N[i].ways /\ Ints W na nc N[i].preds := by
 have hne : N ≠ [] := by intro e; rw [e] at hi; simp at hi
 obtain ⟨b, o, e, hl, hA⟩ := (h w hw).out hne
 have hb : s.lo <= b /\ b < s.hi := agr_in (o := o + i * 6 + 2) hw fun W hW => by
  obtain ⟨b', o', e', _, hA'⟩ := (h W hW).out hne
  rw [e] at e'
  cases e'
  obtain ⟨_, _, _, _, _, _, _, _, _, _, c2, _⟩ := (hA' i hi).out
  exact ⟨_, c2⟩
 obtain ⟨ka, kc, xa, xc, ma, mc, na, nc, c0, c1, c2, c3, c4, c5, _⟩ := (hA i hi).out
 refine ⟨b, o, ka, kc, xa, xc, ma, mc, na, nc, e, fun W hW => ?_, fun W hW => ?_⟩
 ·rw [agr_cell hw hb hW, agr_cell hw hb hW, agr_cell hw hb hW, agr_cell hw hb hW, agr_cell hw hb hW, agr_cell hw hb hW]
  exact ⟨c0, c1, c2, c3, c4, c5⟩
 ·obtain ⟨b', o', e', _, hA'⟩ := (h W hW).out hne
  rw [e] at e'
  cases e'
  obtain ⟨ka', kc', xa', xc', ma', mc', na', nc', d0, d1, d2, d3, d4, d5, h1, h2, h3, h4⟩ := (hA' i hi).out
  rw [agr_cell hw hb hW] at d0 d1 d4 d5
  rw [c0] at d0
  rw [c1] at d1
  rw [c4] at d4
  rw [c5] at d5
  cases d0
  cases d1
  cases d4
  cases d5
  exact ⟨h1, h2, h3, h4⟩
theorem st_fu {s : Mst} {w : World} {FS : List Fu} (hw : Agr s w) (h : ∀ W, Agr s W -> Fus W (some ⟨s.fb, s.fo, none⟩) s.fc FS) {i : Nat} (hi : i < FS.length) :
 ∃ ka kc la lc ma mc, (∀ W, Agr s W -> W.cell? ⟨s.fb, s.fo + i * 5 + 1, none⟩ = some (.slice ka FS[i].params.length kc) /\ W.cell? ⟨s.fb, s.fo + i * 5 + 3, none⟩ = some (.slice la FS[i].vals.length lc) /\ W.cell? ⟨s.fb, s.fo + i * 5 + 4, none⟩ = some (.slice ma FS[i].blks.length mc))
   /\ (∀ W, Agr s W -> Ints W ka kc FS[i].params) /\ (∀ W, Agr s W -> Vls W la lc FS[i].vals) /\ ∀ W, Agr s W -> Bks W ma mc FS[i].blks := by
 have hb : s.lo <= s.fb /\ s.fb < s.hi := agr_in (o := s.fo + i * 5 + 2) hw fun W hW => by
  obtain ⟨b, o, ka, kc, la, lc, ma, mc, e, _, _, _, c2, _⟩ := (h W hW).at hi
  cases e
  exact ⟨_, c2⟩
 obtain ⟨b, o, ka, kc, la, lc, ma, mc, e, _, c0, c1, c2, c3, c4, _⟩ := (h w hw).at hi
 cases e
 have key : ∀ W, Agr s W -> Ints W ka kc FS[i].params /\ Vls W la lc FS[i].vals /\ Bks W ma mc FS[i].blks := fun W hW => by
  obtain ⟨b', o', ka', kc', la', lc', ma', mc', e', _, d0, d1, d2, d3, d4, g1, g2, g3⟩ := (h W hW).at hi
  cases e'
  rw [agr_cell hw hb hW] at d1 d3 d4
  rw [c1] at d1
  rw [c3] at d3
  rw [c4] at d4
  cases d1
  cases d3
  cases d4
  exact ⟨g1, g2, g3⟩
 refine ⟨ka, kc, la, lc, ma, mc, fun W hW => ?_, fun W hW => (key W hW).1, fun W hW => (key W hW).2.1, fun W hW => (key W hW).2.2⟩
 rw [agr_cell hw hb hW, agr_cell hw hb hW, agr_cell hw hb hW]
 exact ⟨c1, c3, c4⟩
theorem setN_len (L : List Int) (p : Nat) (x : Int) : (setN L p x).length = max L.length (p + 1) := by
 unfold setN
 simp
 omega
theorem Mach.go {FS s d w M} (h : Mach FS s d w M) (a : Ac) :
 Mach FS s d ((((w.setCell ⟨s.mb, 34, none⟩ (.pointer (some ⟨s.fb, s.fo + a.fi * 5, none⟩))).setCell ⟨s.mb, 35, none⟩ (.int .i64 (a.bk : Int))).setCell ⟨s.mb, 36, none⟩ (.int .i64 (a.bh : Int))).setCell ⟨s.mb, 37, none⟩ (.int .i64 (a.fst : Int))) { M with here := a }
 /\ Foo s d d w ((((w.setCell ⟨s.mb, 34, none⟩ (.pointer (some ⟨s.fb, s.fo + a.fi * 5, none⟩))).setCell ⟨s.mb, 35, none⟩ (.int .i64 (a.bk : Int))).setCell ⟨s.mb, 36, none⟩ (.int .i64 (a.bh : Int))).setCell ⟨s.mb, 37, none⟩ (.int .i64 (a.fst : Int))) :=
 ⟨⟨box_at (box_at (box_at (box_at h.box rfl) rfl) rfl) rfl, (((h.rest.set 34 _).set 35 _).set 36 _).set 37 _⟩, (((Foo.set s d w 34 _).trans (Foo.set s d _ 35 _)).trans (Foo.set s d _ 36 _)).trans (Foo.set s d _ 37 _)⟩
def mcsV (s : Mst) (d : Mdy) (M : Ms) (a b c e : Value) : List Value := tblM ++ [.slice (some ⟨s.fb, s.fo, none⟩) s.fn s.fc, .slice d.ia M.inp.length d.ic, .pointer (some ⟨s.hb, 0, none⟩),
 a, b, c, e, d.vw, d.vn, d.vp, d.ve, .int .i64 M.fin, .int .i64 M.kd, .int .i64 M.vl, .int .i64 M.steps, .int .i64 M.words, .int .i64 M.deep, .bool M.rests]
theorem mach_go {FS s d w M} {x y z u : Value} (hb : w.heap[s.mb]? = some (.cells (mcsV s d M x y z u).toArray 80 (0, 0))) (hr : MRest FS s d w M.inp M.nums M.phis M.wait M.ev M.hp) (a : Ac) :
 Mach FS s d ((((w.setCell ⟨s.mb, 34, none⟩ (.pointer (some ⟨s.fb, s.fo + a.fi * 5, none⟩))).setCell ⟨s.mb, 35, none⟩ (.int .i64 (a.bk : Int))).setCell ⟨s.mb, 36, none⟩ (.int .i64 (a.bh : Int))).setCell ⟨s.mb, 37, none⟩ (.int .i64 (a.fst : Int))) { M with here := a }
 /\ Foo s d d w ((((w.setCell ⟨s.mb, 34, none⟩ (.pointer (some ⟨s.fb, s.fo + a.fi * 5, none⟩))).setCell ⟨s.mb, 35, none⟩ (.int .i64 (a.bk : Int))).setCell ⟨s.mb, 36, none⟩ (.int .i64 (a.bh : Int))).setCell ⟨s.mb, 37, none⟩ (.int .i64 (a.fst : Int))) :=
 ⟨⟨box_at (box_at (box_at (box_at hb rfl) rfl) rfl) rfl, (((hr.set 34 _).set 35 _).set 36 _).set 37 _⟩, (((Foo.set s d w 34 _).trans (Foo.set s d _ 35 _)).trans (Foo.set s d _ 36 _)).trans (Foo.set s d _ 37 _)⟩
structure PutS (FS : List Fu) (s : Mst) (d0 : Mdy) (w0 w : World) (P X : List Int) (k : Nat) (Mz : Ms) : Prop where
 out : ∃ d M, Mach FS s d w M /\ Foo s d0 d w0 w /\ M.puts (P.drop k) (X.drop k) = some Mz /\ M.nums.length <= M.here.fst + 262144 /\ M.here.fst <= 900000000
theorem PutS.next {FS s d0 w0 w P X k Mz} (h : PutS FS s d0 w0 w P X k Mz) (hP : ∀ p ∈ P, p < 262144) (hk : k < P.length) : ∃ (p : Nat) (x : Int), P[k]? = some (p : Int) /\ X[k]? = some x /\ Calls Tryz.prog 52 #[.pointer (some ⟨s.mb, 0, none⟩), .int .i64 (p : Int), .int .i64 x] w fun e w' => e = .returned (.tuple #[]) /\ PutS FS s d0 w0 w' P X (k + 1) Mz := by
 obtain ⟨d, M, hM, hF, hp, hl, hf⟩ := h.out
 rw [List.drop_eq_getElem_cons hk] at hp
 have hlt := hP _ (List.getElem_mem hk)
 by_cases hx : k < X.length
 ·rw [List.drop_eq_getElem_cons hx] at hp
  unfold Ms.puts at hp
  by_cases h0 : P[k] < 0
  ·rw [if_pos h0] at hp; cases hp
  ·rw [if_neg h0] at hp
   obtain ⟨p, hpp⟩ : ∃ p : Nat, P[k] = (p : Int) := ⟨P[k].toNat, by omega⟩
   rw [hpp] at hp hlt
   rw [Int.toNat_natCast] at hp
   refine ⟨p, X[k], by simp [hk, hpp], by simp [hx], (mSet_any hM p X[k] (by omega) (by omega)).mono ?_⟩
   rintro e w' ⟨rfl, d', hM', hF'⟩
   refine ⟨rfl, d', _, hM', hF.trans hF', hp, ?_, hf⟩
   show (setN M.nums (M.here.fst + p) X[k]).length <= M.here.fst + 262144
   rw [setN_len]
   omega
 ·rw [List.drop_of_length_le (l := X) (by omega)] at hp
  unfold Ms.puts at hp
  cases hp
theorem puts_fst {P X : List Int} : ∀ {M M' : Ms}, M.puts P X = some M' -> M'.here = M.here /\ M'.wait = M.wait /\ M'.deep = M.deep := by
 induction P generalizing X with
 | nil => intro M M' h; simp only [Ms.puts] at h; cases h; exact ⟨rfl, rfl, rfl⟩
 | cons p P ih =>
   intro M M' h
   cases X with
   | nil => simp only [Ms.puts] at h; cases h
   | cons x X =>
     simp only [Ms.puts] at h
     split at h
     ·cases h
     ·have := ih h; exact this
theorem PutS.fin {FS s d0 w0 w P X Mz} (h : PutS FS s d0 w0 w P X P.length Mz) : ∃ d, Mach FS s d w Mz /\ Foo s d0 d w0 w := by
 obtain ⟨d, M, hM, hF, hp, hl, hf⟩ := h.out
 rw [List.drop_length] at hp
 simp only [Ms.puts] at hp
 cases hp
 exact ⟨d, hM, hF⟩
theorem PutS.mach {FS s d0 w0 w P X k Mz} (h : PutS FS s d0 w0 w P X k Mz) : s.mb < w.heap.size /\ Only (foot s d0) w0 w /\ Agr s w := by
 obtain ⟨d, M, hM, hF, _⟩ := h.out
 exact ⟨hM.cells.lt, hF.only, hM.rest.agr⟩
set_option maxRecDepth 100000 in
set_option maxHeartbeats 2000000 in
theorem mBegin_gen {FS s d w M} {y34 y35 y36 y37 : Value} (hb0 : w.heap[s.mb]? = some (.cells (mcsV s d M y34 y35 y36 y37).toArray 80 (0, 0))) (h : MRest FS s d w M.inp M.nums M.phis M.wait M.ev M.hp) (n : Nat) (f : Fu) (hf : FS[n]? = some f) (X : List Int) (aa : Option Addr) (al ac : Nat) (hal : al = X.length) (hA : ∀ w', Only (foot s d) w w' -> Ints w' aa ac X) (M' : Ms) (hM : M.begin FS n X = some M') (hP : ∀ p ∈ f.params, p < 262144) (hl : M.nums.length <= 900000000) (hwl : M.wait.length <= 1000000000) :
 Calls Tryz.prog 26 #[.pointer (some ⟨s.mb, 0, none⟩), .int .i64 (n : Int), .slice aa al ac] w fun e w' => e = .returned (.tuple #[]) /\ ∃ d', Mach FS s d' w' M' /\ Foo s d d' w w' := by
 have hd : Below w.heap.size w w.drew := (Below.refl _ _).drew
 have hD := h.below hd
 have hlt0 := (gl hb0)
 have hbD := (hd.block _ hlt0).trans hb0
 have c31 : w.drew.cell? ⟨s.mb, 31, none⟩ = some (.slice (some ⟨s.fb, s.fo, none⟩) s.fn s.fc) := cell_arr hbD rfl
 have c39 : w.drew.cell? ⟨s.mb, 39, none⟩ = some d.vn := cell_arr hbD rfl
 have hlt : s.mb < w.drew.heap.size := hlt0
 have fz : ∀ i, w.frozen? ⟨s.mb, i, none⟩ = false := fun i => fz_of hb0
 have k34 : w.cell? ⟨s.mb, 34, none⟩ = some y34 := cell_arr hb0 rfl
 have k35 : w.cell? ⟨s.mb, 35, none⟩ = some y35 := cell_arr hb0 rfl
 have k36 : w.cell? ⟨s.mb, 36, none⟩ = some y36 := cell_arr hb0 rfl
 have k37 : w.cell? ⟨s.mb, 37, none⟩ = some y37 := cell_arr hb0 rfl
 have fz34 := fz 34
 have fz35 := fz 35
 have fz36 := fz 36
 have fz37 := fz 37
 have hn : n < FS.length := (List.getElem?_eq_some_iff.1 hf).1
 have hfe : FS[n] = f := (List.getElem?_eq_some_iff.1 hf).2
 have hg := mach_go hbD hD ⟨n, 0, 0, M.nums.length⟩
 obtain ⟨w4, hw4⟩ : ∃ w4, w4 = ((((w.setCell ⟨s.mb, 34, none⟩ (.pointer (some ⟨s.fb, s.fo + n * 5, none⟩))).setCell ⟨s.mb, 35, none⟩ (.int .i64 0)).setCell ⟨s.mb, 36, none⟩ (.int .i64 0)).setCell ⟨s.mb, 37, none⟩ (.int .i64 (M.nums.length : Int))).drew := ⟨_, rfl⟩
 have hg1 : Mach FS s d w4 { M with here := ⟨n, 0, 0, M.nums.length⟩ } := by rw [hw4]; exact hg.1
 have hg2 : Foo s d d w w4 := by rw [hw4]; exact (Foo.of_below hd).trans hg.2
 obtain ⟨ka, kc, la, lc, ma, mc, hst, hpI, _, _⟩ := st_fu hg1.rest.agr hg1.rest.fus hn
 have hP1 : FS[n].params = f.params := by rw [hfe]
 rw [hP1] at hst hpI
 have f1 := (hst w4 hg1.rest.agr).1
 have hg34 := hg1.cells.c34
 have hlt4 := hg1.cells.lt
 have hfb : s.fb < w4.heap.size := block_lt_of_cell f1
 unfold Ms.begin at hM
 rw [hf] at hM
 simp only [Option.map_eq_some_iff] at hM
 obtain ⟨Mz, hz, hz2⟩ := hM
 have hz3 := puts_fst hz
 have hzw : Mz.wait = M.wait := hz3.2.1
 have HS0 : Hid (PutS FS s d w w4 f.params X 0 Mz) := ⟨d, _, hg1, hg2, by simpa using hz, by show M.nums.length <= M.nums.length + 262144; omega, hl⟩
 obtain ⟨pl, hpl⟩ : ∃ pl, pl = f.params.length := ⟨_, rfl⟩
 have hplm : pl <= kc /\ kc <= 9223372036854775807 := by have := hpI w4 hg1.rest.agr; have := this.le; have := (hpI w4 hg1.rest.agr).mx; omega
 have hxl : al <= ac /\ ac <= 9223372036854775807 := by have := (hA w4 hg2.only).le; have := (hA w4 hg2.only).mx; omega
 have HNEXT : Hid (∀ (k : Nat) (W : World), k < pl -> PutS FS s d w W f.params X k Mz -> ∃ (p : Nat) (x : Int) (b o b2 o2 : Nat), s.mb < W.heap.size /\ ka = some ⟨b, o, none⟩ /\ aa = some ⟨b2, o2, none⟩ /\ k < al /\ W.cell? ⟨b, o + k, none⟩ = some (.int .i64 (p : Int)) /\ W.cell? ⟨b2, o2 + k, none⟩ = some (.int .i64 x) /\ Hid (Calls Tryz.prog 52 #[.pointer (some ⟨s.mb, 0, none⟩), .int .i64 (p : Int), .int .i64 x] W fun e w' => e = .returned (.tuple #[]) /\ PutS FS s d w w' f.params X (k + 1) Mz)) := by
  intro k W hk hS
  obtain ⟨p, x, hp, hx, hc⟩ := hS.next hP (by omega)
  obtain ⟨hmw, hon, hag⟩ := hS.mach
  have hkp : k < f.params.length := by omega
  have hkx : k < X.length := (List.getElem?_eq_some_iff.1 hx).1
  obtain ⟨b, o, e, hb⟩ := (hpI W hag).at hkp
  obtain ⟨b2, o2, e2, hb2⟩ := (hA W hon).at hkx
  have q1 : f.params[k] = (p : Int) := (List.getElem?_eq_some_iff.1 hp).2
  have q2 : X[k] = x := (List.getElem?_eq_some_iff.1 hx).2
  rw [q1] at hb
  rw [q2] at hb2
  exact ⟨p, x, b, o, b2, o2, hmw, e, e2, by omega, hb, hb2, hc⟩
 have HDEEP : Hid (∀ W, PutS FS s d w W f.params X pl Mz -> ∃ vw c, W.drew.cell? ⟨s.mb, 38, none⟩ = some (.slice vw M.wait.length c) /\ s.mb < W.heap.size /\ Hid (Calls Tryz.prog 53 #[.pointer (some ⟨s.mb, 41, none⟩), .int .i64 ((M.wait.length : Int) + 1)] W.drew fun e w' => e = .returned (.tuple #[]) /\ (∃ d', Mach FS s d' w' M' /\ Foo s d d' w w') /\ w'.cell? ⟨s.mb, 38, none⟩ = some (.slice vw M.wait.length c))) := by
  intro W hS
  rw [hpl] at hS
  obtain ⟨d1, hm1, hf1⟩ := hS.fin
  have hb : Below W.heap.size W W.drew := (Below.refl _ _).drew
  have hm2 := hm1.below hb
  obtain ⟨vw, c, ew, _⟩ := own_slice hm2.rest.wait.out
  have ew2 : d1.vw = .slice vw M.wait.length c := by rw [ew, List.length_map, hzw]
  refine ⟨vw, c, ?_, hm1.cells.lt, ?_⟩
  ·rw [<- ew2]; exact hm2.cells.c38
  ·refine (told_deep W.drew (o := 41) (k := (M.wait.length : Int) + 1) hm2.told.c47 (hm2.told.fz 47)).mono ?_
   rintro e w' ⟨rfl, hw'⟩
   have hd2 := hm2.deeper (max Mz.deep ((M.wait.length : Int) + 1))
   refine ⟨rfl, ⟨d1, ?_, ?_⟩, ?_⟩
   ·rw [hw', <- hz2, <- hzw]; rw [<- hzw] at hd2; exact hd2.1
   ·rw [hw']; exact hf1.trans ((Foo.of_below hb).trans hd2.2)
   ·rw [hw', <- ew2]; exact hd2.1.cells.c38
 obtain ⟨na, nc, en, _⟩ := own_slice hD.nums.out
 rw [en] at c39
 obtain ⟨nl, hnl⟩ : ∃ nl, nl = M.nums.length := ⟨_, rfl⟩
 obtain ⟨wl, hwl2⟩ : ∃ wl, wl = M.wait.length := ⟨_, rfl⟩
 have hns : n < s.fn := by rw [hD.fn]; exact hn
 have hfnm : s.fn <= s.fc /\ s.fc <= 9223372036854775807 := by have := (hD.fus _ hD.agr).le; have := (hD.fus _ hD.agr).mx; have := hD.fn; omega
 rw [<- hnl] at c39 hw4 hl
 rw [<- hwl2] at HDEEP hwl
 rw [<- hpl] at f1
 generalize s.mb = mb at *
 generalize s.fb = fb at *
 generalize s.fo = fo at *
 generalize s.fn = fn at *
 generalize s.fc = fc at *
 have S0 : (fun w' : World => w'.cell? ⟨mb, 31, none⟩ = some (.slice (some ⟨fb, fo, none⟩) fn fc) /\ w'.cell? ⟨mb, 39, none⟩ = some (.slice na nl nc)) w.drew := ⟨c31, c39⟩
 have hnn : (n : Int) < (fn : Int) := by omega
 have hww : IntKind.i64.wrap ((wl : Int) + 1) = (wl : Int) + 1 := by rw [IntKind.wrap_i64]; omega
 clear hb0 hbD hlt0 h hD hg hg1 hg2 hst hpI hz hz2 hz3 hzw hd hf hfe hP1 hA hP en hnl hwl2 hpl fz
 go_enter Tryz.func26, Tryz.ntmps26
 go_wp2_with fail
 refine led_start (S := fun w' : World => w'.cell? ⟨mb, 31, none⟩ = some (.slice (some ⟨fb, fo, none⟩) fn fc) /\ w'.cell? ⟨mb, 39, none⟩ = some (.slice na nl nc)) (z := 18) (by kernel_rfl) ?_
 refine led_t (i := 0) (v := ?v0) rfl (by kernel_rfl) (.inl ⟨by rfl, ?hy0⟩) S0 ?rest0
 case hy0 =>
  rintro w' ⟨h1, h2⟩
  go_simp
  all_goals with_reducible rfl
 try simp only [Act.put, List.getElem_toArray, List.getElem_cons_succ, List.getElem_cons_zero, List.setIfInBounds_toArray, List.set_cons_zero, List.set_cons_succ]
 refine led_t (i := 1) (v := ?v1) rfl (by kernel_rfl) (.inl ⟨by rfl, ?hy1⟩) S0 ?rest1
 case hy1 =>
  rintro w' ⟨h1, h2⟩
  go_simp
  all_goals with_reducible rfl
 try simp only [Act.put, List.getElem_toArray, List.getElem_cons_succ, List.getElem_cons_zero, List.setIfInBounds_toArray, List.set_cons_zero, List.set_cons_succ]
 refine led_t (i := 2) (v := ?v2) rfl (by kernel_rfl) (.inl ⟨by rfl, ?hy2⟩) S0 ?rest2
 case hy2 =>
  rintro w' ⟨h1, h2⟩
  go_simp
  all_goals with_reducible rfl
 try simp only [Act.put, List.getElem_toArray, List.getElem_cons_succ, List.getElem_cons_zero, List.setIfInBounds_toArray, List.set_cons_zero, List.set_cons_succ]
 refine led_t (i := 3) (v := ?v3) rfl (by kernel_rfl) (.inl ⟨by rfl, ?hy3⟩) S0 ?rest3
 case hy3 =>
  rintro w' ⟨h1, h2⟩
  go_simp
  all_goals with_reducible rfl
 try simp only [Act.put, List.getElem_toArray, List.getElem_cons_succ, List.getElem_cons_zero, List.setIfInBounds_toArray, List.set_cons_zero, List.set_cons_succ]
 refine led_t (i := 4) (v := ?v4) rfl (by kernel_rfl) (.inl ⟨by rfl, ?hy4⟩) S0 ?rest4
 case hy4 =>
  rintro w' ⟨h1, h2⟩
  go_simp
  all_goals with_reducible rfl
 try simp only [Act.put, List.getElem_toArray, List.getElem_cons_succ, List.getElem_cons_zero, List.setIfInBounds_toArray, List.set_cons_zero, List.set_cons_succ]
 refine led_t (i := 5) (v := ?v5) rfl (by kernel_rfl) (.inl ⟨by rfl, ?hy5⟩) S0 ?rest5
 case hy5 =>
  rintro w' ⟨h1, h2⟩
  go_simp
  all_goals with_reducible rfl
 try simp only [Act.put, List.getElem_toArray, List.getElem_cons_succ, List.getElem_cons_zero, List.setIfInBounds_toArray, List.set_cons_zero, List.set_cons_succ]
 refine led_t (i := 6) (v := ?v6) rfl (by kernel_rfl) (.inl ⟨by rfl, ?hy6⟩) S0 ?rest6
 case hy6 =>
  rintro w' ⟨h1, h2⟩
  go_simp
  all_goals with_reducible rfl
 try simp only [Act.put, List.getElem_toArray, List.getElem_cons_succ, List.getElem_cons_zero, List.setIfInBounds_toArray, List.set_cons_zero, List.set_cons_succ]
 refine led_t (i := 7) (v := ?v7) rfl (by kernel_rfl) (.inl ⟨by rfl, ?hy7⟩) S0 ?rest7
 case hy7 =>
  rintro w' ⟨h1, h2⟩
  go_simp
  all_goals with_reducible rfl
 try simp only [Act.put, List.getElem_toArray, List.getElem_cons_succ, List.getElem_cons_zero, List.setIfInBounds_toArray, List.set_cons_zero, List.set_cons_succ]
 refine led_t (i := 8) (v := ?v8) rfl (by kernel_rfl) (.inl ⟨by rfl, ?hy8⟩) S0 ?rest8
 case hy8 =>
  rintro w' ⟨h1, h2⟩
  go_simp
  all_goals with_reducible rfl
 try simp only [Act.put, List.getElem_toArray, List.getElem_cons_succ, List.getElem_cons_zero, List.setIfInBounds_toArray, List.set_cons_zero, List.set_cons_succ]
 refine led_t (i := 9) (v := ?v9) rfl (by kernel_rfl) (.inl ⟨by rfl, ?hy9⟩) S0 ?rest9
 case hy9 =>
  rintro w' ⟨h1, h2⟩
  go_simp
  all_goals with_reducible rfl
 try simp only [Act.put, List.getElem_toArray, List.getElem_cons_succ, List.getElem_cons_zero, List.setIfInBounds_toArray, List.set_cons_zero, List.set_cons_succ]
 refine led_t (i := 10) (v := ?v10) rfl (by kernel_rfl) (.inl ⟨by rfl, ?hy10⟩) S0 ?rest10
 case hy10 =>
  rintro w' ⟨h1, h2⟩
  go_simp
  all_goals with_reducible rfl
 try simp only [Act.put, List.getElem_toArray, List.getElem_cons_succ, List.getElem_cons_zero, List.setIfInBounds_toArray, List.set_cons_zero, List.set_cons_succ]
 refine led_t (i := 11) (v := ?v11) rfl (by kernel_rfl) (.inl ⟨by rfl, ?hy11⟩) S0 ?rest11
 case hy11 =>
  rintro w' ⟨h1, h2⟩
  go_simp
  all_goals with_reducible rfl
 try simp only [Act.put, List.getElem_toArray, List.getElem_cons_succ, List.getElem_cons_zero, List.setIfInBounds_toArray, List.set_cons_zero, List.set_cons_succ]
 refine led_t (i := 12) (v := ?v12) rfl (by kernel_rfl) (.inl ⟨by rfl, ?hy12⟩) S0 ?rest12
 case hy12 =>
  rintro w' ⟨h1, h2⟩
  go_simp
  all_goals with_reducible rfl
 try simp only [Act.put, List.getElem_toArray, List.getElem_cons_succ, List.getElem_cons_zero, List.setIfInBounds_toArray, List.set_cons_zero, List.set_cons_succ]
 refine led_t (i := 13) (v := ?v13) rfl (by kernel_rfl) (.inl ⟨by rfl, ?hy13⟩) S0 ?rest13
 case hy13 =>
  rintro w' ⟨h1, h2⟩
  go_simp
  all_goals with_reducible rfl
 try simp only [Act.put, List.getElem_toArray, List.getElem_cons_succ, List.getElem_cons_zero, List.setIfInBounds_toArray, List.set_cons_zero, List.set_cons_succ]
 refine led_t (i := 14) (v := ?v14) rfl (by kernel_rfl) (.inl ⟨by rfl, ?hy14⟩) S0 ?rest14
 case hy14 =>
  rintro w' ⟨h1, h2⟩
  go_simp
  all_goals with_reducible rfl
 try simp only [Act.put, List.getElem_toArray, List.getElem_cons_succ, List.getElem_cons_zero, List.setIfInBounds_toArray, List.set_cons_zero, List.set_cons_succ]
 refine led_one (i := 15) rfl (by kernel_rfl) ?_
 intro K1 hK1
 rw [if_pos (by rfl)]
 go_simp
 refine hK1 _ _ (fun _ => S0) ?_
 clear hK1
 try simp only [Act.put, List.getElem_toArray, List.getElem_cons_succ, List.getElem_cons_zero, List.setIfInBounds_toArray, List.set_cons_zero, List.set_cons_succ]
 refine led_one (i := 16) rfl (by kernel_rfl) ?_
 intro K2 hK2
 rw [if_pos (by rfl)]
 go_simp
 refine hK2 _ _ (fun _ => S0) ?_
 clear hK2
 try simp only [Act.put, List.getElem_toArray, List.getElem_cons_succ, List.getElem_cons_zero, List.setIfInBounds_toArray, List.set_cons_zero, List.set_cons_succ]
 refine led_one (i := 17) rfl (by kernel_rfl) ?_
 intro K3 hK3
 rw [if_pos (by rfl)]
 go_simp
 refine hK3 _ _ (fun _ => S0) ?_
 clear hK3
 try simp only [Act.put, List.getElem_toArray, List.getElem_cons_succ, List.getElem_cons_zero, List.setIfInBounds_toArray, List.set_cons_zero, List.set_cons_succ]
 refine led_one (i := 18) rfl (by kernel_rfl) ?_
 intro K4 hK4
 rw [if_pos (by rfl)]
 go_simp
 refine hK4 _ _ (fun h => absurd rfl h) ?_
 clear hK4
 refine led_done (by kernel_rfl) ?_
 rw [<- hw4]
 clear hw4 S0 c31 c39 k34 k35 k36 k37 fz34 fz35 fz36 fz37
 go_wp2_with fail
 clear hg34 f1
 go_loopw [36] (fun v wr => ∃ k : Nat, k <= pl /\ v = .int .i64 k /\ Hid (PutS FS s d w wr f.params X k Mz)) (fun v _ => pl - (intOf v).toNat)
 case atStart => exact ⟨0, by omega, rfl, HS0⟩
 case round =>
  clear HS0 hlt4 hfb
  obtain ⟨k, hk, rfl, HK⟩ := hrel
  by_cases hlk : k < pl
  ·obtain ⟨p, x, b, o, b2, o2, hmw, e1, e2, hka, k1, k2, HC⟩ := HNEXT.out k wr hlk HK.out
   subst e1
   subst e2
   have hkal : (k : Int) < (al : Int) := by omega
   have hkpl : (k : Int) < (pl : Int) := by omega
   clear HK HNEXT HDEEP
   go_wp2_with (go_at_call 52; refine Calls.mono HC.out ?_; rintro e w1 ⟨rfl, hb1⟩; have H1 : Hid _ := hb1; clear hb1)
   go_roundw
   case rel => exact ⟨k + 1, by omega, by go_num, H1.out⟩
   case measure => simp [intOf]; omega
  ·have hkn : k = pl := by omega
   subst hkn
   obtain ⟨vw, c, k38, hmw, HC⟩ := HDEEP.out wr HK.out
   clear HK HNEXT HDEEP
   go_wp2_with fail
   go_region_held (fun w' => w'.cell? ⟨mb, 38, none⟩ = some (.slice vw wl c))
    (first | exact k38 | exact S1)
    (first | (go_at_call 53; refine Calls.mono HC.out ?_; rintro e w1 ⟨rfl, hb1, S1⟩; have H1 : Hid _ := hb1; clear hb1))
   all_goals
    go_wp2_with fail
    exact bodyPost_end (v := .tuple #[]) (by simp [results, Tryz.results26, go_sem]) rfl ⟨rfl, H1.out⟩
theorem mBegin_any {FS s d w M} (h : Mach FS s d w M) (n : Nat) (f : Fu) (hf : FS[n]? = some f) (X : List Int) (aa : Option Addr) (al ac : Nat) (hal : al = X.length) (hA : ∀ w', Only (foot s d) w w' -> Ints w' aa ac X) (M' : Ms) (hM : M.begin FS n X = some M') (hP : ∀ p ∈ f.params, p < 262144) (hl : M.nums.length <= 900000000) (hwl : M.wait.length <= 1000000000) :
 Calls Tryz.prog 26 #[.pointer (some ⟨s.mb, 0, none⟩), .int .i64 (n : Int), .slice aa al ac] w fun e w' => e = .returned (.tuple #[]) /\ ∃ d', Mach FS s d' w' M' /\ Foo s d d' w w' :=
 mBegin_gen (y34 := .pointer (some ⟨s.fb, s.fo + M.here.fi * 5, none⟩)) (y35 := .int .i64 (M.here.bk : Int)) (y36 := .int .i64 (M.here.bh : Int)) (y37 := .int .i64 (M.here.fst : Int)) h.box h.rest n f hf X aa al ac hal hA M' hM hP hl hwl
end Go.Proofs.YtfbkopjncmkbiaaGreatDoor
namespace Go.Proofs.YtfbkopjncmkbiaaGreatDoor
open Go.ChangeShapes Go.WideShapes Go.ChangeAt Go.RowKit
theorem add_anyW (a b : Int) (w : World) : Calls Tryz.prog 149 #[.int .i64 a, .int .i64 b] w fun e w' => e = .returned (.int .i64 (wrap64 (a + b))) /\ w' = w := by
 go_enter Tryz.func149, Tryz.ntmps149
 go_wp2
 go_ret
 exact ⟨rfl, rfl⟩
theorem sub_anyW (a b : Int) (w : World) : Calls Tryz.prog 150 #[.int .i64 a, .int .i64 b] w fun e w' => e = .returned (.int .i64 (wrap64 (a - b))) /\ w' = w := by
 go_enter Tryz.func150, Tryz.ntmps150
 go_wp2
 go_ret
 exact ⟨rfl, rfl⟩
theorem mul_anyW (a b : Int) (w : World) : Calls Tryz.prog 151 #[.int .i64 a, .int .i64 b] w fun e w' => e = .returned (.int .i64 (wrap64 (a * b))) /\ w' = w := by
 go_enter Tryz.func151, Tryz.ntmps151
 go_wp2
 go_ret
 exact ⟨rfl, rfl⟩
theorem and_anyW (a b : Int) (w : World) : Calls Tryz.prog 154 #[.int .i64 a, .int .i64 b] w fun e w' => e = .returned (.int .i64 (bits .and .i64 a b)) /\ w' = w := by
 go_enter Tryz.func154, Tryz.ntmps154
 go_wp2
 go_ret
 exact ⟨rfl, rfl⟩
theorem or_anyW (a b : Int) (w : World) : Calls Tryz.prog 155 #[.int .i64 a, .int .i64 b] w fun e w' => e = .returned (.int .i64 (bits .or .i64 a b)) /\ w' = w := by
 go_enter Tryz.func155, Tryz.ntmps155
 go_wp2
 go_ret
 exact ⟨rfl, rfl⟩
theorem xor_anyW (a b : Int) (w : World) : Calls Tryz.prog 156 #[.int .i64 a, .int .i64 b] w fun e w' => e = .returned (.int .i64 (bits .xor .i64 a b)) /\ w' = w := by
 go_enter Tryz.func156, Tryz.ntmps156
 go_wp2
 go_ret
 exact ⟨rfl, rfl⟩
theorem bic_anyW (a b : Int) (w : World) : Calls Tryz.prog 157 #[.int .i64 a, .int .i64 b] w fun e w' => e = .returned (.int .i64 (bits .andNot .i64 a b)) /\ w' = w := by
 go_enter Tryz.func157, Tryz.ntmps157
 go_wp2
 go_ret
 exact ⟨rfl, rfl⟩
theorem inv_anyW (a : Int) (w : World) : Calls Tryz.prog 168 #[.int .i64 a] w fun e w' => e = .returned (.int .i64 (bits .xor .i64 (-1) a)) /\ w' = w := by
 go_enter Tryz.func168, Tryz.ntmps168
 go_wp2
 go_ret
 exact ⟨rfl, rfl⟩
theorem neg_anyW (a : Int) (w : World) : Calls Tryz.prog 166 #[.int .i64 a] w fun e w' => e = .returned (.int .i64 (wrap64 (-a))) /\ w' = w := by
 go_enter Tryz.func166, Tryz.ntmps166
 go_wp2
 go_ret
 exact ⟨rfl, rfl⟩
def shlIW (a b : Int) : Int := if b < 0 then 0 else wrap64 (a * 2 ^ min b.toNat 64)
def shrIW (a b : Int) : Int := if b < 0 then 0 else a / 2 ^ min b.toNat 64
theorem shl_anyW (a b : Int) (w : World) : Calls Tryz.prog 158 #[.int .i64 a, .int .i64 b] w fun e w' => e = .returned (.int .i64 (shlIW a b)) /\ w' = w := by
 by_cases h : b < 0
 ·have e1 : Hid (shlIW a b = 0) := by unfold shlIW; rw [if_pos h]; rfl
  rw [e1.out]; clear e1
  go_enter Tryz.func158, Tryz.ntmps158
  go_wp2
  go_ret
  exact ⟨rfl, rfl⟩
 ·have e1 : Hid (shlIW a b = wrap64 (a * 2 ^ min b.toNat 64)) := by unfold shlIW; rw [if_neg h]; rfl
  rw [e1.out]; clear e1
  go_enter Tryz.func158, Tryz.ntmps158
  go_wp2
  go_ret
  exact ⟨by rw [<- IntWalk.i64_left]; rfl, rfl⟩
theorem shr_anyW (a b : Int) (w : World) : Calls Tryz.prog 159 #[.int .i64 a, .int .i64 b] w fun e w' => e = .returned (.int .i64 (shrIW a b)) /\ w' = w := by
 by_cases h : b < 0
 ·have e1 : Hid (shrIW a b = 0) := by unfold shrIW; rw [if_pos h]; rfl
  rw [e1.out]; clear e1
  go_enter Tryz.func159, Tryz.ntmps159
  go_wp2
  go_ret
  exact ⟨rfl, rfl⟩
 ·have e1 : Hid (shrIW a b = a / 2 ^ min b.toNat 64) := by unfold shrIW; rw [if_neg h]; rfl
  rw [e1.out]; clear e1
  go_enter Tryz.func159, Tryz.ntmps159
  go_wp2
  go_ret
  exact ⟨rfl, rfl⟩
def divIW (a b : Int) : Int := if b = 0 then 0 else wrap64 (a.tdiv b)
def remIW (a b : Int) : Int := if b = 0 then 0 else a.tmod b
theorem div_anyW (a b : Int) (w : World) : Calls Tryz.prog 152 #[.int .i64 a, .int .i64 b] w fun e w' => e = .returned (.int .i64 (divIW a b)) /\ w' = w := by
 by_cases h : b = 0
 ·subst h
  go_enter Tryz.func152, Tryz.ntmps152
  go_wp2
  go_ret
  exact ⟨rfl, rfl⟩
 ·have e1 : Hid (divIW a b = wrap64 (a.tdiv b)) := by unfold divIW; rw [if_neg h]; rfl
  rw [e1.out]; clear e1
  have h1 : (b == 0) = false := by simp [h]
  go_enter Tryz.func152, Tryz.ntmps152
  go_wp2
  go_ret
  exact ⟨rfl, rfl⟩
theorem rem_anyW (a b : Int) (w : World) : Calls Tryz.prog 153 #[.int .i64 a, .int .i64 b] w fun e w' => e = .returned (.int .i64 (remIW a b)) /\ w' = w := by
 by_cases h : b = 0
 ·subst h
  go_enter Tryz.func153, Tryz.ntmps153
  go_wp2
  go_ret
  exact ⟨rfl, rfl⟩
 ·have e1 : Hid (remIW a b = a.tmod b) := by unfold remIW; rw [if_neg h]; rfl
  rw [e1.out]; clear e1
  have h1 : (b == 0) = false := by simp [h]
  go_enter Tryz.func153, Tryz.ntmps153
  go_wp2
  go_ret
  exact ⟨rfl, rfl⟩
def truthIW (p : Bool) : Int := if p then 1 else 0
theorem truth_anyW (p : Bool) (w : World) : Calls Tryz.prog 161 #[.bool p] w fun e w' => e = .returned (.int .i64 (truthIW p)) /\ w' = w := by
 cases p
 ·go_enter Tryz.func161, Tryz.ntmps161
  go_wp2
  go_ret
  exact ⟨rfl, rfl⟩
 ·go_enter Tryz.func161, Tryz.ntmps161
  go_wp2
  go_ret
  exact ⟨rfl, rfl⟩
theorem eq_anyW (a b : Int) (w : World) : Calls Tryz.prog 160 #[.int .i64 a, .int .i64 b] w fun e w' => e = .returned (.int .i64 (truthIW (a == b))) /\ w' = w := by
 go_enter Tryz.func160, Tryz.ntmps160
 go_wp2_with (go_at_call 161; refine (truth_anyW _ _).mono ?_; rintro e w' ⟨rfl, rfl⟩)
 go_ret
 exact ⟨rfl, rfl⟩
theorem ne_anyW (a b : Int) (w : World) : Calls Tryz.prog 162 #[.int .i64 a, .int .i64 b] w fun e w' => e = .returned (.int .i64 (truthIW (a != b))) /\ w' = w := by
 go_enter Tryz.func162, Tryz.ntmps162
 go_wp2_with (go_at_call 161; refine (truth_anyW _ _).mono ?_; rintro e w' ⟨rfl, rfl⟩)
 go_ret
 exact ⟨rfl, rfl⟩
theorem lt_anyW (a b : Int) (w : World) : Calls Tryz.prog 163 #[.int .i64 a, .int .i64 b] w fun e w' => e = .returned (.int .i64 (truthIW (decide (a < b)))) /\ w' = w := by
 go_enter Tryz.func163, Tryz.ntmps163
 go_wp2_with (go_at_call 161; refine (truth_anyW _ _).mono ?_; rintro e w' ⟨rfl, rfl⟩)
 go_ret
 exact ⟨rfl, rfl⟩
theorem le_anyW (a b : Int) (w : World) : Calls Tryz.prog 164 #[.int .i64 a, .int .i64 b] w fun e w' => e = .returned (.int .i64 (truthIW (decide (a <= b)))) /\ w' = w := by
 go_enter Tryz.func164, Tryz.ntmps164
 go_wp2_with (go_at_call 161; refine (truth_anyW _ _).mono ?_; rintro e w' ⟨rfl, rfl⟩)
 go_ret
 exact ⟨rfl, rfl⟩
theorem neg2_anyW (a b : Int) (w : World) : Calls Tryz.prog 165 #[.int .i64 a, .int .i64 b] w fun e w' => e = .returned (.int .i64 (wrap64 (-a))) /\ w' = w := by
 go_enter Tryz.func165, Tryz.ntmps165
 go_wp2_with (go_at_call 166; refine (neg_anyW _ _).mono ?_; rintro e w' ⟨rfl, rfl⟩)
 go_ret
 exact ⟨rfl, rfl⟩
theorem inv2_anyW (a b : Int) (w : World) : Calls Tryz.prog 167 #[.int .i64 a, .int .i64 b] w fun e w' => e = .returned (.int .i64 (bits .xor .i64 (-1) a)) /\ w' = w := by
 go_enter Tryz.func167, Tryz.ntmps167
 go_wp2_with (go_at_call 168; refine (inv_anyW _ _).mono ?_; rintro e w' ⟨rfl, rfl⟩)
 go_ret
 exact ⟨rfl, rfl⟩
theorem not_anyW (a b : Int) (w : World) : Calls Tryz.prog 169 #[.int .i64 a, .int .i64 b] w fun e w' => e = .returned (.int .i64 (wrap64 (1 - a))) /\ w' = w := by
 go_enter Tryz.func169, Tryz.ntmps169
 go_wp2_with (go_at_call 150; refine (sub_anyW _ _ _).mono ?_; rintro e w' ⟨rfl, rfl⟩)
 go_ret
 exact ⟨rfl, rfl⟩
def tblW : Array Value := #[Value.func (Fn.func 149) #[] #[], Value.func (Fn.func 150) #[] #[], Value.func (Fn.func 151) #[] #[], Value.func (Fn.func 152) #[] #[], Value.func (Fn.func 153) #[] #[], Value.func (Fn.func 154) #[] #[], Value.func (Fn.func 155) #[] #[], Value.func (Fn.func 156) #[] #[], Value.func (Fn.func 157) #[] #[], Value.func (Fn.func 158) #[] #[], Value.func (Fn.func 159) #[] #[], Value.func (Fn.func 160) #[] #[], Value.func (Fn.func 162) #[] #[], Value.func (Fn.func 163) #[] #[], Value.func (Fn.func 164) #[] #[], Value.func (Fn.func 165) #[] #[], Value.func (Fn.func 167) #[] #[], Value.func (Fn.func 169) #[] #[]]
theorem operations_anyW (w : World) : Calls Tryz.prog 123 #[] w fun e w' => e = .returned (.agg tblW) /\ w' = w.alloc (.cells tblW 142) := by
 go_enter Tryz.func123, Tryz.ntmps123
 go_wp2_with (refine wpList_store_row rfl 142 _ _ rfl _ _ rfl rfl 142 _ (heap_alloc_new _ _) (by kernel_rfl) rfl (by kernel_rfl) ?_; rw [World.setRow_alloc_new])
 refine bodyPost_ret (v := .agg tblW) ?_ rfl ⟨rfl, rfl⟩
 exact results_cell_row rfl _ _ _ 142 tblW (0, 0) _ rfl (heap_alloc_new _ _) Tryz.underlying142 rfl (by kernel_rfl)
end Go.Proofs.YtfbkopjncmkbiaaGreatDoor
