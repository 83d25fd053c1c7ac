import Derived.Test.YtdbkjjelaipcfaaDoorSvF
import Derived.Test.YtdbkjjelaipcfaaDoorSvB
import Derived.Deep.Cut
set_option linter.unusedVariables false
set_option linter.unusedSimpArgs false
namespace Go.Proofs.YtdbkjjelaipcfaaDoor
open Go.ChangeShapes Go.WideShapes Go.ChangeAt Go.RowKit Go.Maps

/-- The program of main and one other function, as it lies. -/
structure LM (w1 W : World) (B : Nat) (nm : ByteArray) (pv : Value) (r : Int) (vv bo : Value) (vl : Int) : Prop where
  b0 : W.heap[B]? = some (.cells #[.slice none 0 0, .slice none 0 0, .int .i64 3, .int .i64 (-1), .slice none 0 0, .slice none 0 0] 33 (0, 0))
  b1 : W.heap[B + 1]? = some (.cells #[.slice none 0 0, bo, .int .i64 3, .int .i64 vl, .slice none 0 0, .slice none 0 0] 33 (0, 0))
  fo : W.heap[B + 1 + 1]? = some (.cells #[.string ⟨#[109, 97, 105, 110]⟩, .slice none 0 0, .int .i64 0, .slice none 0 0, .slice (some ⟨B, 0, none⟩) 1 1, .string nm, pv, .int .i64 r, vv, .slice (some ⟨B + 1, 0, none⟩) 1 1] 29 (0, 0))
  bx : W.heap[B + 1 + 1 + 1]? = some (.cells #[.slice (some ⟨B + 1 + 1, 0, none⟩) 2 2, .int .i64 0] 36 (0, 0))
  low : Below B w1 W
theorem LM.start (w1 : World) (B : Nat) (hB : B = w1.heap.size) : LM w1 (al w1 [.cells #[.slice none 0 0, .slice none 0 0, .int .i64 3, .int .i64 (-1), .slice none 0 0, .slice none 0 0] 33, .cells #[.slice none 0 0, .slice none 0 0, .int .i64 3, .int .i64 (-1), .slice none 0 0, .slice none 0 0] 33, .cells #[.string ⟨#[109, 97, 105, 110]⟩, .slice none 0 0, .int .i64 0, .slice none 0 0, .slice (some ⟨B, 0, none⟩) 1 1, .string ⟨#[102]⟩, .slice none 0 0, .int .i64 0, .slice none 0 0, .slice (some ⟨B + 1, 0, none⟩) 1 1] 29, .cells #[.slice (some ⟨B + 1 + 1, 0, none⟩) 2 2, .int .i64 0] 36]) B ⟨#[102]⟩ (.slice none 0 0) 0 (.slice none 0 0) (.slice none 0 0) (-1) := by
  have hx := fun i h => al_at [.cells #[.slice none 0 0, .slice none 0 0, .int .i64 3, .int .i64 (-1), .slice none 0 0, .slice none 0 0] 33, .cells #[.slice none 0 0, .slice none 0 0, .int .i64 3, .int .i64 (-1), .slice none 0 0, .slice none 0 0] 33, .cells #[.string ⟨#[109, 97, 105, 110]⟩, .slice none 0 0, .int .i64 0, .slice none 0 0, .slice (some ⟨B, 0, none⟩) 1 1, .string ⟨#[102]⟩, .slice none 0 0, .int .i64 0, .slice none 0 0, .slice (some ⟨B + 1, 0, none⟩) 1 1] 29, .cells #[.slice (some ⟨B + 1 + 1, 0, none⟩) 2 2, .int .i64 0] 36] w1 i h
  have hb := al_below [.cells #[.slice none 0 0, .slice none 0 0, .int .i64 3, .int .i64 (-1), .slice none 0 0, .slice none 0 0] 33, .cells #[.slice none 0 0, .slice none 0 0, .int .i64 3, .int .i64 (-1), .slice none 0 0, .slice none 0 0] 33, .cells #[.string ⟨#[109, 97, 105, 110]⟩, .slice none 0 0, .int .i64 0, .slice none 0 0, .slice (some ⟨B, 0, none⟩) 1 1, .string ⟨#[102]⟩, .slice none 0 0, .int .i64 0, .slice none 0 0, .slice (some ⟨B + 1, 0, none⟩) 1 1] 29, .cells #[.slice (some ⟨B + 1 + 1, 0, none⟩) 2 2, .int .i64 0] 36] w1
  rw [← hB] at hx hb
  exact ⟨hx 0 (by simp), hx 1 (by simp), hx 2 (by simp), hx 3 (by simp), hb⟩
theorem LM.keep {w1 W W' : World} {B nm pv r vv bo vl} (L : LM w1 W B nm pv r vv bo vl) (hb : Below W.heap.size W W') : LM w1 W' B nm pv r vv bo vl := by
  have e : ∀ (j : Nat) (X : Obj), W.heap[j]? = some X → W'.heap[j]? = some X := fun j X hj => (hb.block j (Array.getElem?_eq_some_iff.1 hj).1).trans hj
  have hl := (Array.getElem?_eq_some_iff.1 L.b0).1
  exact ⟨e _ _ L.b0, e _ _ L.b1, e _ _ L.fo, e _ _ L.bx, L.low.trans (hb.mono (by omega))⟩
/-- Only blocks from B + 4 on have changed. -/
theorem LM.move {w1 W W' : World} {B nm pv r vv bo vl} (L : LM w1 W B nm pv r vv bo vl) (hb : Below (B + 4) W W') : LM w1 W' B nm pv r vv bo vl :=
  ⟨(hb.block _ (by omega)).trans L.b0, (hb.block _ (by omega)).trans L.b1, (hb.block _ (by omega)).trans L.fo, (hb.block _ (by omega)).trans L.bx, L.low.trans (hb.mono (by omega))⟩
theorem LM.size {w1 W : World} {B nm pv r vv bo vl} (L : LM w1 W B nm pv r vv bo vl) : B + 4 ≤ W.heap.size := by have := (Array.getElem?_eq_some_iff.1 L.bx).1; omega
theorem LM.cells {w1 W : World} {B nm pv r vv bo vl} (L : LM w1 W B nm pv r vv bo vl) : W.cell? ⟨B + 1 + 1, 5, none⟩ = some (.string nm) ∧ W.cell? ⟨B + 1 + 1, 6, none⟩ = some pv ∧ W.cell? ⟨B + 1 + 1, 7, none⟩ = some (.int .i64 r) ∧ W.cell? ⟨B + 1 + 1, 8, none⟩ = some vv ∧ W.cell? ⟨B + 1 + 1, 9, none⟩ = some (.slice (some ⟨B + 1, 0, none⟩) 1 1) ∧ (∀ o, W.frozen? ⟨B + 1 + 1, o, none⟩ = false) ∧ W.cell? ⟨B + 1, 1, none⟩ = some bo ∧ W.cell? ⟨B + 1, 3, none⟩ = some (.int .i64 vl) ∧ (∀ o, W.frozen? ⟨B + 1, o, none⟩ = false) ∧ W.cell? ⟨B + 1 + 1 + 1, 0, none⟩ = some (.slice (some ⟨B + 1 + 1, 0, none⟩) 2 2) ∧ W.cell? ⟨B + 1 + 1 + 1, 1, none⟩ = some (.int .i64 0) ∧ B + 1 + 1 + 1 < W.heap.size :=
  ⟨cell_arr L.fo rfl, cell_arr L.fo rfl, cell_arr L.fo rfl, cell_arr L.fo rfl, cell_arr L.fo rfl, fun o => fz_of L.fo, cell_arr L.b1 rfl, cell_arr L.b1 rfl, fun o => fz_of L.b1, cell_arr L.bx rfl, cell_arr L.bx rfl, (Array.getElem?_eq_some_iff.1 L.bx).1⟩
theorem LM.name {w1 W : World} {B nm pv r vv bo vl} (L : LM w1 W B nm pv r vv bo vl) (nm' : ByteArray) : LM w1 (W.setCell ⟨B + 1 + 1, 5, none⟩ (.string nm')) B nm' pv r vv bo vl :=
  ⟨(heap_set_other (by omega)).trans L.b0, (heap_set_other (by omega)).trans L.b1, by simpa using heap_set_at (i := 5) (v := .string nm') L.fo, (heap_set_other (by omega)).trans L.bx, L.low.setCell (by show B ≤ B + 1 + 1; omega) _⟩
theorem LM.params {w1 W : World} {B nm pv r vv bo vl} (L : LM w1 W B nm pv r vv bo vl) (pv' : Value) : LM w1 (W.setCell ⟨B + 1 + 1, 6, none⟩ pv') B nm pv' r vv bo vl :=
  ⟨(heap_set_other (by omega)).trans L.b0, (heap_set_other (by omega)).trans L.b1, by simpa using heap_set_at (i := 6) (v := pv') L.fo, (heap_set_other (by omega)).trans L.bx, L.low.setCell (by show B ≤ B + 1 + 1; omega) _⟩
theorem LM.result {w1 W : World} {B nm pv r vv bo vl} (L : LM w1 W B nm pv r vv bo vl) (r' : Int) : LM w1 (W.setCell ⟨B + 1 + 1, 7, none⟩ (.int .i64 r')) B nm pv r' vv bo vl :=
  ⟨(heap_set_other (by omega)).trans L.b0, (heap_set_other (by omega)).trans L.b1, by simpa using heap_set_at (i := 7) (v := .int .i64 r') L.fo, (heap_set_other (by omega)).trans L.bx, L.low.setCell (by show B ≤ B + 1 + 1; omega) _⟩
theorem LM.values {w1 W : World} {B nm pv r vv bo vl} (L : LM w1 W B nm pv r vv bo vl) (vv' : Value) : LM w1 (W.setCell ⟨B + 1 + 1, 8, none⟩ vv') B nm pv r vv' bo vl :=
  ⟨(heap_set_other (by omega)).trans L.b0, (heap_set_other (by omega)).trans L.b1, by simpa using heap_set_at (i := 8) (v := vv') L.fo, (heap_set_other (by omega)).trans L.bx, L.low.setCell (by show B ≤ B + 1 + 1; omega) _⟩
theorem LM.body {w1 W : World} {B nm pv r vv bo vl} (L : LM w1 W B nm pv r vv bo vl) (bo' : Value) : LM w1 (W.setCell ⟨B + 1, 1, none⟩ bo') B nm pv r vv bo' vl :=
  ⟨(heap_set_other (by omega)).trans L.b0, by simpa using heap_set_at (i := 1) (v := bo') L.b1, (heap_set_other (by omega)).trans L.fo, (heap_set_other (by omega)).trans L.bx, L.low.setCell (by show B ≤ B + 1; omega) _⟩
theorem LM.val {w1 W : World} {B nm pv r vv bo vl} (L : LM w1 W B nm pv r vv bo vl) (vl' : Int) : LM w1 (W.setCell ⟨B + 1, 3, none⟩ (.int .i64 vl')) B nm pv r vv bo vl' :=
  ⟨(heap_set_other (by omega)).trans L.b0, by simpa using heap_set_at (i := 3) (v := .int .i64 vl') L.b1, (heap_set_other (by omega)).trans L.fo, (heap_set_other (by omega)).trans L.bx, L.low.setCell (by show B ≤ B + 1; omega) _⟩
theorem LM.fus {w1 W : World} {B nm r vl} {pa : Option Addr} {pc : Nat} {va : Option Addr} {vc : Nat} {ba : Option Addr} {bc : Nat} {ps : List Int} {vs : List Vl} {bo : List Int} (L : LM w1 W B nm (.slice pa ps.length pc) r (.slice va vs.length vc) (.slice ba bo.length bc) vl) (hp : Ints W pa pc ps) (hv : Vls W va vc vs) (hb : Ints W ba bc bo) : Fus W (some ⟨B + 1 + 1, 0, none⟩) 2 [lmM, lmF nm ps r vs bo vl] := by
  have h0 : Bks W (some ⟨B, 0, none⟩) 1 lmM.blks := by
    refine ⟨by decide, by decide, fun _ => ⟨B, 0, rfl, (Array.getElem?_eq_some_iff.1 L.b0).1, fun i hi => ?_⟩⟩
    match i, hi with
    | 0, _ => exact ⟨none, 0, none, 0, none, 0, none, 0, cell_arr (i := 0) L.b0 rfl, cell_arr (i := 1) L.b0 rfl, cell_arr (i := 2) L.b0 rfl, cell_arr (i := 3) L.b0 rfl, cell_arr (i := 4) L.b0 rfl, cell_arr (i := 5) L.b0 rfl, ints_none W, ints_none W, ints_none W, ints_none W⟩
  have h1 : Bks W (some ⟨B + 1, 0, none⟩) 1 (lmF nm ps r vs bo vl).blks := by
    refine ⟨by simp [lmF], by decide, fun _ => ⟨B + 1, 0, rfl, (Array.getElem?_eq_some_iff.1 L.b1).1, fun i hi => ?_⟩⟩
    match i, hi with
    | 0, _ => exact ⟨none, 0, ba, bc, none, 0, none, 0, cell_arr (i := 0) L.b1 rfl, cell_arr (i := 1) L.b1 rfl, cell_arr (i := 2) L.b1 rfl, cell_arr (i := 3) L.b1 rfl, cell_arr (i := 4) L.b1 rfl, cell_arr (i := 5) L.b1 rfl, ints_none W, hb, ints_none W, ints_none W⟩
    | j + 1, h => exact absurd h (by simp [lmF])
  have hv0 : Vls W none 0 lmM.vals := ⟨by decide, by decide, fun h => absurd rfl h⟩
  refine ⟨by simp, by decide, fun _ => ⟨B + 1 + 1, 0, rfl, (Array.getElem?_eq_some_iff.1 L.fo).1, fun i hi => ?_⟩⟩
  match i, hi with
  | 0, _ => exact ⟨none, 0, none, 0, some ⟨B, 0, none⟩, 1, cell_arr (i := 0) L.fo rfl, cell_arr (i := 1) L.fo rfl, cell_arr (i := 2) L.fo rfl, cell_arr (i := 3) L.fo rfl, cell_arr (i := 4) L.fo rfl, ints_none W, hv0, h0⟩
  | 1, _ => exact ⟨pa, pc, va, vc, some ⟨B + 1, 0, none⟩, 1, cell_arr (i := 5) L.fo rfl, cell_arr (i := 6) L.fo rfl, cell_arr (i := 7) L.fo rfl, cell_arr (i := 8) L.fo rfl, cell_arr (i := 9) L.fo rfl, hp, hv, h1⟩
  | j + 2, h => exact absurd h (by simp)
theorem set_sizeW (w : World) (a : Addr) (v : Value) : (w.setCell a v).heap.size = w.heap.size := by simp [World.setCell]
theorem few_lm {nm ps r vs bo vl} (h1 : ps.length ≤ 1000000) (h2 : bo.length ≤ 1000000) : ∀ f ∈ [lmM, lmF nm ps r vs bo vl], FewF f := by
  intro f hf
  simp only [List.mem_cons, List.not_mem_nil, or_false] at hf
  rcases hf with rfl | rfl
  · exact ⟨by decide, by decide⟩
  · refine ⟨by simp [lmF], ?_⟩
    simp [totK, lmF]
    omega
theorem vls_none (w : World) : Vls w none 0 [] := ⟨Nat.le_refl _, by decide, fun h => absurd rfl h⟩
theorem lm_call {w w1 W : World} (hTab : Tab w) (hb : Below w.heap.size w w1) {B nm r vl} (hB : w1.heap.size ≤ B) {pa : Option Addr} {pc : Nat} {va : Option Addr} {vc : Nat} {ba : Option Addr} {bc : Nat} {ps : List Int} {vs : List Vl} {bo : List Int} (L : LM w1 W B nm (.slice pa ps.length pc) r (.slice va vs.length vc) (.slice ba bo.length bc) vl) (hp : Ints W pa pc ps) (hv : Vls W va vc vs) (hbo : Ints W ba bc bo) (h1 : ps.length ≤ 1000000) (h2 : bo.length ≤ 1000000) (R : Int) (hR : checkP [lmM, lmF nm ps r vs bo vl] 0 = R) :
    (Calls Tryd.prog 6 #[.agg #[.slice (some ⟨B + 1 + 1, 0, none⟩) 2 2, .int .i64 0]] W fun e w' => e = .returned (.int .i64 R) ∧ Below W.heap.size W w') ∧ Below w.heap.size w W := by
  have hbW : Below w.heap.size w W := hb.trans (L.low.mono (by have := hb.size; omega))
  exact ⟨check_any W (hTab.below hbW hTab.1) _ 2 2 _ rfl (L.fus hp hv hbo) (by omega) (few_lm h1 h2) 0 R hR, hbW⟩
end Go.Proofs.YtdbkjjelaipcfaaDoor
