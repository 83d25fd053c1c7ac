import Derived.Test.YtdbkjjelaipcfaaGreatDoorJaw
set_option linter.unusedVariables false
set_option linter.unusedSimpArgs false
namespace Go.Proofs.YtdbkjjelaipcfaaGreatDoor
open Go.ChangeShapes Go.WideShapes Go.ChangeAt Go.RowKit Go.Maps
def al (w : World) (X : List Obj) : World := X.foldl World.alloc w
theorem al_below (X : List Obj) : ∀ w : World, Below w.heap.size w (al w X) := by
 induction X with
 | nil => intro w; exact Below.refl _ _
 | cons x xs ih => intro w; exact (below_new w x).trans ((ih (w.alloc x)).mono (by simp))
theorem al_at (X : List Obj) : ∀ (w : World) (i : Nat) (h : i < X.length), (al w X).heap[w.heap.size + i]? = some X[i] := by
 induction X with
 | nil => intro w i h; simp at h
 | cons x xs ih =>
   intro w i h
   cases i with
   | zero =>
     show (al (w.alloc x) xs).heap[w.heap.size]? = _
     rw [(al_below xs (w.alloc x)).block _ (by simp)]
     exact heap_alloc_new w x
   | succ i =>
     have := ih (w.alloc x) i (by simpa using h)
     rw [show (w.alloc x).heap.size + i = w.heap.size + (i + 1) by simp; omega] at this
     exact this
theorem ints_none (w : World) : Ints w none 0 [] := ⟨Nat.le_refl _, by decide, fun h => absurd rfl h⟩
def loopX (B : Nat) : List Obj := [.cells #[.slice (some ⟨B + 17, 0, none⟩) 1 1, .int .i64 0] 24, .cells #[.int .i64 0, .int .i64 6] 3, .cells #[.int .i64 1, .int .i64 2] 3, .cells #[.int .i64 1] 3, .cells #[.int .i64 1, .int .i64 5] 3, .cells #[.int .i64 1, .int .i64 1, .int .i64 0, .slice none 0 0, .int .i64 32, .int .i64 1, .int .i64 0, .slice (some ⟨B + 1, 0, none⟩) 2 2, .int .i64 1, .int .i64 1, .int .i64 3, .slice none 0 0, .int .i64 15, .int .i64 2, .int .i64 0, .slice (some ⟨B + 2, 0, none⟩) 2 2, .int .i64 26, .int .i64 0, .int .i64 0, .slice (some ⟨B + 3, 0, none⟩) 1 1, .int .i64 1, .int .i64 1, .int .i64 1, .slice none 0 0, .int .i64 2, .int .i64 1, .int .i64 0, .slice (some ⟨B + 4, 0, none⟩) 2 2] 42, .cells #[.int .i64 0] 3, .cells #[.int .i64 1] 3, .cells #[.int .i64 1] 3, .cells #[.int .i64 2, .int .i64 3] 3, .cells #[.int .i64 2, .int .i64 3] 3, .cells #[.int .i64 0, .int .i64 2] 3, .cells #[.int .i64 4, .int .i64 5, .int .i64 6] 3, .cells #[.int .i64 1] 3, .cells #[.int .i64 1] 3, .cells #[.int .i64 1] 3, .cells #[.slice none 0 0, .slice (some ⟨B + 6, 0, none⟩) 1 1, .int .i64 1, .int .i64 (-1), .slice (some ⟨B + 7, 0, none⟩) 1 1, .slice none 0 0, .slice (some ⟨B + 8, 0, none⟩) 1 1, .slice (some ⟨B + 9, 0, none⟩) 2 2, .int .i64 2, .int .i64 3, .slice (some ⟨B + 10, 0, none⟩) 2 2, .slice (some ⟨B + 11, 0, none⟩) 2 2, .slice none 0 0, .slice (some ⟨B + 12, 0, none⟩) 3 3, .int .i64 1, .int .i64 (-1), .slice (some ⟨B + 13, 0, none⟩) 1 1, .slice (some ⟨B + 14, 0, none⟩) 1 1, .slice none 0 0, .slice none 0 0, .int .i64 3, .int .i64 (-1), .slice none 0 0, .slice (some ⟨B + 15, 0, none⟩) 1 1] 46, .cells #[.string ⟨#[109, 97, 105, 110]⟩, .slice none 0 0, .int .i64 0, .slice (some ⟨B + 5, 0, none⟩) 7 7, .slice (some ⟨B + 16, 0, none⟩) 4 4] 38]
def loopF : Fu := ⟨⟨#[109, 97, 105, 110]⟩, [], 0, [⟨1, 1, 0, []⟩, ⟨32, 1, 0, [0, 6]⟩, ⟨1, 1, 3, []⟩, ⟨15, 2, 0, [1, 2]⟩, ⟨26, 0, 0, [1]⟩, ⟨1, 1, 1, []⟩, ⟨2, 1, 0, [1, 5]⟩], [⟨[], [0], 1, -1, [1], []⟩, ⟨[1], [2, 3], 2, 3, [2, 3], [0, 2]⟩, ⟨[], [4, 5, 6], 1, -1, [1], [1]⟩, ⟨[], [], 3, -1, [], [1]⟩]⟩
set_option maxRecDepth 100000 in
set_option maxHeartbeats 4000000 in
theorem loop_any (w : World) : Calls Tryz.prog 16 #[] w fun e w' => e = .returned (.agg #[.slice (some ⟨w.heap.size + 17, 0, none⟩) 1 1, .int .i64 0]) /\ w' = al w (loopX w.heap.size) := by
 have hb := al_at (loopX w.heap.size) w 0 (by simp [loopX])
 go_enter Tryz.func16, Tryz.ntmps16
 go_wp2_with fail
 refine bodyPost_ret (v := .agg #[.slice (some ⟨w.heap.size + 17, 0, none⟩) 1 1, .int .i64 0]) ?_ rfl ⟨rfl, rfl⟩
 exact results_cell_row Tryz.results16 _ _ w.heap.size 24 _ (0, 0) _ rfl hb Tryz.underlying24 rfl (by kernel_rfl)
theorem loop_fus (w : World) : Fus (al w (loopX w.heap.size)) (some ⟨w.heap.size + 17, 0, none⟩) 1 [loopF] := by
 have hx : ∀ i (h : i < (loopX w.heap.size).length), (al w (loopX w.heap.size)).heap[w.heap.size + i]? = some (loopX w.heap.size)[i] := fun i h => al_at _ w i h
 obtain ⟨B, hB⟩ : ∃ B, B = w.heap.size := ⟨_, rfl⟩
 obtain ⟨W, hW⟩ : ∃ W, W = al w (loopX w.heap.size) := ⟨_, rfl⟩
 rw [<- hW] at hx ⊢
 rw [<- hB] at hx ⊢
 clear hW hB
 have h1 := hx 1 (by simp [loopX])
 have h2 := hx 2 (by simp [loopX])
 have h3 := hx 3 (by simp [loopX])
 have h4 := hx 4 (by simp [loopX])
 have h5 := hx 5 (by simp [loopX])
 have h6 := hx 6 (by simp [loopX])
 have h7 := hx 7 (by simp [loopX])
 have h8 := hx 8 (by simp [loopX])
 have h9 := hx 9 (by simp [loopX])
 have h10 := hx 10 (by simp [loopX])
 have h11 := hx 11 (by simp [loopX])
 have h12 := hx 12 (by simp [loopX])
 have h13 := hx 13 (by simp [loopX])
 have h14 := hx 14 (by simp [loopX])
 have h15 := hx 15 (by simp [loopX])
 have h16 := hx 16 (by simp [loopX])
 have h17 := hx 17 (by simp [loopX])
 have hl : ∀ j : Nat, j < 18 -> B + j < W.heap.size := fun j hj => (Array.getElem?_eq_some_iff.1 (hx j (by simpa [loopX] using hj))).1
 clear hx
 have i1 : Ints W (some ⟨B + 1, 0, none⟩) 2 [0, 6] := ints_exact (L := [0, 6]) h1 (by decide)
 have i2 : Ints W (some ⟨B + 2, 0, none⟩) 2 [1, 2] := ints_exact (L := [1, 2]) h2 (by decide)
 have i3 : Ints W (some ⟨B + 3, 0, none⟩) 1 [1] := ints_exact (L := [1]) h3 (by decide)
 have i4 : Ints W (some ⟨B + 4, 0, none⟩) 2 [1, 5] := ints_exact (L := [1, 5]) h4 (by decide)
 have i6 : Ints W (some ⟨B + 6, 0, none⟩) 1 [0] := ints_exact (L := [0]) h6 (by decide)
 have i7 : Ints W (some ⟨B + 7, 0, none⟩) 1 [1] := ints_exact (L := [1]) h7 (by decide)
 have i8 : Ints W (some ⟨B + 8, 0, none⟩) 1 [1] := ints_exact (L := [1]) h8 (by decide)
 have i9 : Ints W (some ⟨B + 9, 0, none⟩) 2 [2, 3] := ints_exact (L := [2, 3]) h9 (by decide)
 have i10 : Ints W (some ⟨B + 10, 0, none⟩) 2 [2, 3] := ints_exact (L := [2, 3]) h10 (by decide)
 have i11 : Ints W (some ⟨B + 11, 0, none⟩) 2 [0, 2] := ints_exact (L := [0, 2]) h11 (by decide)
 have i12 : Ints W (some ⟨B + 12, 0, none⟩) 3 [4, 5, 6] := ints_exact (L := [4, 5, 6]) h12 (by decide)
 have i13 : Ints W (some ⟨B + 13, 0, none⟩) 1 [1] := ints_exact (L := [1]) h13 (by decide)
 have i14 : Ints W (some ⟨B + 14, 0, none⟩) 1 [1] := ints_exact (L := [1]) h14 (by decide)
 have i15 : Ints W (some ⟨B + 15, 0, none⟩) 1 [1] := ints_exact (L := [1]) h15 (by decide)
 have hv : Vls W (some ⟨B + 5, 0, none⟩) 7 loopF.vals := by
  refine ⟨by decide, by decide, fun _ => ⟨B + 5, 0, rfl, hl 5 (by omega), fun i hi => ?_⟩⟩
  match i, hi with
  | 0, _ => exact ⟨none, 0, cell_arr (i := 0) h5 rfl, cell_arr (i := 1) h5 rfl, cell_arr (i := 2) h5 rfl, cell_arr (i := 3) h5 rfl, (ints_none W)⟩
  | 1, _ => exact ⟨some ⟨B + 1, 0, none⟩, 2, cell_arr (i := 4) h5 rfl, cell_arr (i := 5) h5 rfl, cell_arr (i := 6) h5 rfl, cell_arr (i := 7) h5 rfl, i1⟩
  | 2, _ => exact ⟨none, 0, cell_arr (i := 8) h5 rfl, cell_arr (i := 9) h5 rfl, cell_arr (i := 10) h5 rfl, cell_arr (i := 11) h5 rfl, (ints_none W)⟩
  | 3, _ => exact ⟨some ⟨B + 2, 0, none⟩, 2, cell_arr (i := 12) h5 rfl, cell_arr (i := 13) h5 rfl, cell_arr (i := 14) h5 rfl, cell_arr (i := 15) h5 rfl, i2⟩
  | 4, _ => exact ⟨some ⟨B + 3, 0, none⟩, 1, cell_arr (i := 16) h5 rfl, cell_arr (i := 17) h5 rfl, cell_arr (i := 18) h5 rfl, cell_arr (i := 19) h5 rfl, i3⟩
  | 5, _ => exact ⟨none, 0, cell_arr (i := 20) h5 rfl, cell_arr (i := 21) h5 rfl, cell_arr (i := 22) h5 rfl, cell_arr (i := 23) h5 rfl, (ints_none W)⟩
  | 6, _ => exact ⟨some ⟨B + 4, 0, none⟩, 2, cell_arr (i := 24) h5 rfl, cell_arr (i := 25) h5 rfl, cell_arr (i := 26) h5 rfl, cell_arr (i := 27) h5 rfl, i4⟩
 have hk : Bks W (some ⟨B + 16, 0, none⟩) 4 loopF.blks := by
  refine ⟨by decide, by decide, fun _ => ⟨B + 16, 0, rfl, hl 16 (by omega), fun i hi => ?_⟩⟩
  match i, hi with
  | 0, _ => exact ⟨none, 0, some ⟨B + 6, 0, none⟩, 1, some ⟨B + 7, 0, none⟩, 1, none, 0, cell_arr (i := 0) h16 rfl, cell_arr (i := 1) h16 rfl, cell_arr (i := 2) h16 rfl, cell_arr (i := 3) h16 rfl, cell_arr (i := 4) h16 rfl, cell_arr (i := 5) h16 rfl, (ints_none W), i6, i7, (ints_none W)⟩
  | 1, _ => exact ⟨some ⟨B + 8, 0, none⟩, 1, some ⟨B + 9, 0, none⟩, 2, some ⟨B + 10, 0, none⟩, 2, some ⟨B + 11, 0, none⟩, 2, cell_arr (i := 6) h16 rfl, cell_arr (i := 7) h16 rfl, cell_arr (i := 8) h16 rfl, cell_arr (i := 9) h16 rfl, cell_arr (i := 10) h16 rfl, cell_arr (i := 11) h16 rfl, i8, i9, i10, i11⟩
  | 2, _ => exact ⟨none, 0, some ⟨B + 12, 0, none⟩, 3, some ⟨B + 13, 0, none⟩, 1, some ⟨B + 14, 0, none⟩, 1, cell_arr (i := 12) h16 rfl, cell_arr (i := 13) h16 rfl, cell_arr (i := 14) h16 rfl, cell_arr (i := 15) h16 rfl, cell_arr (i := 16) h16 rfl, cell_arr (i := 17) h16 rfl, (ints_none W), i12, i13, i14⟩
  | 3, _ => exact ⟨none, 0, none, 0, none, 0, some ⟨B + 15, 0, none⟩, 1, cell_arr (i := 18) h16 rfl, cell_arr (i := 19) h16 rfl, cell_arr (i := 20) h16 rfl, cell_arr (i := 21) h16 rfl, cell_arr (i := 22) h16 rfl, cell_arr (i := 23) h16 rfl, (ints_none W), (ints_none W), (ints_none W), i15⟩
 refine ⟨by decide, by decide, fun _ => ⟨B + 17, 0, rfl, hl 17 (by omega), fun i hi => ?_⟩⟩
 match i, hi with
 | 0, _ => exact ⟨none, 0, some ⟨B + 5, 0, none⟩, 7, some ⟨B + 16, 0, none⟩, 4, cell_arr (i := 0) h17 rfl, cell_arr (i := 1) h17 rfl, cell_arr (i := 2) h17 rfl, cell_arr (i := 3) h17 rfl, cell_arr (i := 4) h17 rfl, ints_none W, hv, hk⟩
theorem loop_yes : checkP [loopF] 0 = 0 := by decide +kernel
theorem loop_no : checkP [loopF] 1 = 90 := by decide +kernel
theorem loop_few : ∀ f ∈ [loopF], FewF f := by
 intro f hf
 simp at hf
 subst hf
 exact ⟨by decide, by decide⟩
set_option maxRecDepth 100000 in
set_option maxHeartbeats 4000000 in
theorem alive9_any (w : World) (hTab : Tab w) : Calls Tryz.prog 7 #[] w fun e w' => e = .returned (.bool true) /\ Below w.heap.size w w' := by
 have HT : Hid (Tab w) := hTab
 have hb1 := al_below (loopX w.heap.size) w
 have hF := loop_fus w
 obtain ⟨W, hW⟩ : ∃ W, W = al w (loopX w.heap.size) := ⟨_, rfl⟩
 rw [<- hW] at hF hb1
 have HW : Hid (W = al w (loopX w.heap.size)) := hW
 have HB : Hid (Below w.heap.size w W) := hb1
 have HC : Hid (∀ (m R : Int) (W' : World), checkP [loopF] m = R -> Below W.heap.size W W' -> Calls Tryz.prog 10 #[.agg #[.slice (some ⟨w.heap.size + 17, 0, none⟩) 1 1, .int .i64 m]] W' fun e w' => e = .returned (.int .i64 R) /\ Below W'.heap.size W' w') := fun m R W' hR h =>
  check_any W' (HT.out.below (HB.out.trans (h.mono HB.out.size)) HT.out.1) _ 1 1 [loopF] rfl (hF.below h (Nat.le_refl _)) (by omega) loop_few m R hR
 have B5 := below_new W (.cells #[.slice (some ⟨w.heap.size + 17, 0, none⟩) 1 1, .int .i64 0] 24)
 have h5 := heap_alloc_new W (.cells #[.slice (some ⟨w.heap.size + 17, 0, none⟩) 1 1, .int .i64 0] 24)
 have HB5 : Hid _ := B5
 have H5 : Hid _ := h5
 have HK : Hid (∀ w7, Below (W.alloc (.cells #[.slice (some ⟨w.heap.size + 17, 0, none⟩) 1 1, .int .i64 0] 24)).heap.size (W.alloc (.cells #[.slice (some ⟨w.heap.size + 17, 0, none⟩) 1 1, .int .i64 0] 24)) w7 -> w7.cell? ⟨W.heap.size, 0, none⟩ = some (.slice (some ⟨w.heap.size + 17, 0, none⟩) 1 1) /\ w7.cell? ⟨W.heap.size, 1, none⟩ = some (.int .i64 0) /\ w7.frozen? ⟨W.heap.size, 1, none⟩ = false /\ Below W.heap.size W (w7.setCell ⟨W.heap.size, 1, none⟩ (.int .i64 1)) /\ W.heap.size < w7.heap.size) := by
  intro w7 h
  have e := (h.block _ (by simp)).trans H5.out
  exact ⟨cell_arr e rfl, cell_arr e rfl, fz_of e, (HB5.out.trans (h.mono HB5.out.size)).setCell (Nat.le_refl _) _, (gl e)⟩
 clear hTab hb1 hF B5 h5 hW
 go_enter Tryz.func7, Tryz.ntmps7
 go_wp2_with (first
  | (go_at_call 10; refine (HC.out 1 90 _ loop_no k4).mono ?_; rintro e w8 ⟨rfl, hb8⟩)
  | (go_at_call 10; refine (HC.out 0 0 _ loop_yes HB5.out).mono ?_; rintro e w7 ⟨rfl, hb7⟩; obtain ⟨k1, k2, k3, k4, k5⟩ := HK.out w7 hb7)
  | (go_at_call 16; refine (loop_any w).mono ?_; rintro e w1 ⟨rfl, hw1⟩; have e1 := hw1.trans HW.out.symm; subst e1; clear hw1))
 go_ret
 exact ⟨rfl, HB.out.trans ((k4.trans (hb8.mono k4.size)).mono HB.out.size)⟩
theorem flat_len {α : Type} {z : Nat} : ∀ (xs : List (List α)), (∀ x ∈ xs, x.length = z) -> xs.flatten.length = xs.length * z
 | [], _ => by simp
 | x :: xs, h => by
   have h1 := flat_len xs fun y hy => h y (by simp [hy])
   have h2 := h x (by simp)
   simp only [List.flatten_cons, List.length_append, List.length_cons, h1, h2, Nat.add_mul]
   omega
theorem flat_at {α : Type} {z : Nat} : ∀ (xs : List (List α)), (∀ x ∈ xs, x.length = z) -> ∀ i (hi : i < xs.length) r, r < z -> xs.flatten[i * z + r]? = (xs[i])[r]?
 | [], _, i, hi, _, _ => by simp at hi
 | x :: xs, h, i, hi, r, hr => by
   have h2 := h x (by simp)
   cases i with
   | zero =>
     rw [List.flatten_cons, Nat.zero_mul, Nat.zero_add, List.getElem?_append_left (by omega)]
     rfl
   | succ i =>
     have h1 := flat_at xs (fun y hy => h y (by simp [hy])) i (by simpa using hi) r hr
     rw [List.flatten_cons, List.getElem?_append_right (by rw [h2, Nat.add_mul]; omega), h2, show (i + 1) * z + r - z = i * z + r by rw [Nat.add_mul]; omega, h1]
     rfl
structure IM (w : World) (B : Nat) (ao : Option Addr) (c : Nat) (L : List Int) : Prop where
 out : Ints w ao c (L ++ [-71, -72])
 ty : ∃ b cs, ao = some ⟨b, 0, none⟩ /\ B <= b /\ w.heap[b]? = some (.cells cs 3 (0, 0))
theorem Ints.pre {w ao c} {L M : List Int} (h : Ints w ao c (L ++ M)) : Ints w ao c L := by
 refine ⟨by have := h.le; simp at this; omega, h.mx, fun hne => ?_⟩
 obtain ⟨b, o, e, hA⟩ := h.out (by simp [hne])
 refine ⟨b, o, e, ?_, fun i hi => ?_⟩
 ·have h0 : 0 < L.length := List.length_pos_iff.2 hne
  have := block_lt_of_cell (hA.cell 0 (by simp; omega)); exact this
 ·have := hA.cell i (by simp; omega)
  rw [this, List.getElem_append_left hi]
theorem IM.ints {w B ao c L} (h : IM w B ao c L) : Ints w ao c L := h.out.pre
theorem IM.move {w w' : World} {B ao c L} (h : IM w B ao c L) (hk : ∀ b cs, B <= b -> w.heap[b]? = some (.cells cs 3 (0, 0)) -> w'.heap[b]? = w.heap[b]?) : IM w' B ao c L := by
 obtain ⟨b, cs, rfl, h1, h2⟩ := h.ty
 have e := hk b cs h1 h2
 refine ⟨⟨h.out.le, h.out.mx, fun hne => ?_⟩, b, cs, rfl, h1, e.trans h2⟩
 obtain ⟨b', o, e', hA⟩ := h.out.out hne
 cases e'
 refine ⟨b, 0, rfl, (Array.getElem?_eq_some_iff.1 (e.trans h2)).1, fun i hi => ?_⟩
 rw [<- hA.cell i hi]
 exact World.cell?_of_block (w := w) e
theorem IM.lower {w B B' ao c L} (h : IM w B ao c L) (hB : B' <= B) : IM w B' ao c L := by
 obtain ⟨b, cs, e, h1, h2⟩ := h.ty
 exact ⟨h.out, b, cs, e, by omega, h2⟩
theorem IM.below {w w' : World} {B ao c L} (h : IM w B ao c L) (hb : Below w.heap.size w w') : IM w' B ao c L := h.move fun b cs _ e => hb.block b (gl e)
structure VE (w : World) (B : Nat) (cs : List Value) (v : Vl) : Prop where
 out : ∃ a k, cs = [.int .i64 v.op, .int .i64 v.ty, .int .i64 v.imm, .slice a v.args.length k] /\ IM w B a k v.args
theorem VE.move {w w' : World} {B cs v} (h : VE w B cs v) (hk : ∀ b cs, B <= b -> w.heap[b]? = some (.cells cs 3 (0, 0)) -> w'.heap[b]? = w.heap[b]?) : VE w' B cs v := by
 obtain ⟨a, k, e, h1⟩ := h.out
 exact ⟨a, k, e, h1.move hk⟩
theorem VE.lower {w B B' cs v} (h : VE w B cs v) (hB : B' <= B) : VE w B' cs v := by
 obtain ⟨a, k, e, h1⟩ := h.out
 exact ⟨a, k, e, h1.lower hB⟩
theorem VE.len {w B cs v} (h : VE w B cs v) : cs.length = 4 := by
 obtain ⟨a, k, e, _⟩ := h.out
 rw [e]; rfl
structure BE (w : World) (B : Nat) (cs : List Value) (v : Bk) : Prop where
 out : ∃ a1 k1 a2 k2 a3 k3 a4 k4, cs = [.slice a1 v.phis.length k1, .slice a2 v.body.length k2, .int .i64 v.kind, .int .i64 v.val, .slice a3 v.ways.length k3, .slice a4 v.preds.length k4] /\ IM w B a1 k1 v.phis /\ IM w B a2 k2 v.body /\ IM w B a3 k3 v.ways /\ IM w B a4 k4 v.preds
theorem BE.move {w w' : World} {B cs v} (h : BE w B cs v) (hk : ∀ b cs, B <= b -> w.heap[b]? = some (.cells cs 3 (0, 0)) -> w'.heap[b]? = w.heap[b]?) : BE w' B cs v := by
 obtain ⟨a1, k1, a2, k2, a3, k3, a4, k4, e, h1, h2, h3, h4⟩ := h.out
 exact ⟨a1, k1, a2, k2, a3, k3, a4, k4, e, h1.move hk, h2.move hk, h3.move hk, h4.move hk⟩
theorem BE.lower {w B B' cs v} (h : BE w B cs v) (hB : B' <= B) : BE w B' cs v := by
 obtain ⟨a1, k1, a2, k2, a3, k3, a4, k4, e, h1, h2, h3, h4⟩ := h.out
 exact ⟨a1, k1, a2, k2, a3, k3, a4, k4, e, h1.lower hB, h2.lower hB, h3.lower hB, h4.lower hB⟩
theorem BE.len {w B cs v} (h : BE w B cs v) : cs.length = 6 := by
 obtain ⟨a1, k1, a2, k2, a3, k3, a4, k4, e, _⟩ := h.out
 rw [e]; rfl
structure Row (w : World) (B : Nat) (e : TypeId) (z : Nat) (v : Value) (xs : List (List Value)) : Prop where
 out : w.ownsRow B e z v xs.length xs.flatten
 len : ∀ x ∈ xs, x.length = z
theorem Row.nil (w : World) (B : Nat) (e : TypeId) (z : Nat) : Row w B e z (.slice none 0 0) [] := ⟨World.ownsRow_nil _ _ _ _, fun x hx => by simp at hx⟩
theorem Row.move {w w' : World} {B e z v xs} (h : Row w B e z v xs) (hk : ∀ g, v.ownBlock = some g -> w'.heap[g]? = w.heap[g]?) : Row w' B e z v xs := ⟨own_move h.out hk, h.len⟩
theorem Row.keep {w w' : World} {B e z v xs} (h : Row w B e z v xs) (hb : Below w.heap.size w w') : Row w' B e z v xs := h.move fun g hg => hb.block g (own_block h.out hg).2
theorem step_append_row {w : World} {ops : Array Oper} {op : Oper} {a : Act} {K : Act -> World -> Prop} {Q : Exit -> Act -> World -> Prop} {E : Prop} (hgd : op.guard = none) (s x : Operand) (T e : TypeId) (z : Nat) (zv : Value) (by_ : Nat)
 (ho : op.op = .call { callee := .builtin .append, args := #[s, x], argTypes := #[T, T] }) (hT : Tryz.prog.underlying T = some (.slice e)) (hi0 : (Tryz.prog.info? e).map (fun i => (i.zero, i.size, i.bytes)) = some (some zv, z, by_)) (hzc : zv.cells.size = z) (hz : 0 < z) (hby : 0 < by_ /\ by_ <= 1000)
 (B : Nat) (v : Value) (xs : List (List Value)) (hs : a.eval s = v) (hown : Row w B e z v xs) (g : Nat) (hx : a.eval x = .slice (some ⟨g, 0, none⟩) 1 1) (cs : List Value) (hcl : cs.length = z) (hc : ∀ j u, cs[j]? = some u -> w.cell? ((⟨g, 0, none⟩ : Addr).add j) = some u) (h1 : ∀ u ∈ cs, u.oneCell' = true)
 (hl : xs.length + 1 <= 1000000000) (hB : B <= w.heap.size)
 (h : ∀ v' w', Row w' B e z v' (xs ++ [cs]) -> GI B w w' v v' -> K (a.put op.dst v') w') : if Region.wanted op (yielded ops a.tmps) = true then Oper.wp Tryz.prog op a w K Q else E := by
 have hw : Region.wanted op (yielded ops a.tmps) = true := by simp [Region.wanted, hgd]
 rw [if_pos hw]
 obtain ⟨i0, hi, hz0, hz1, hz2⟩ := info_parts hi0
 obtain ⟨v', w', hr, h2, h3, h4⟩ := run_append_where (P := Tryz.prog) (w := w) B T op.type e i0 zv z by_ hT hi hz0 hz1 hz2 hzc hz v xs.length xs.flatten hown.out ⟨g, 0, none⟩ 1 1 (by omega) cs (by omega) hc h1 (by unfold maxLen; omega) (by have := hby.2; have : (xs.length + 1) * by_ <= 1000000000 * 1000 := Nat.mul_le_mul hl (by omega); omega) hB
 unfold Oper.wp execOp
 simp only [ho, resolve, invoke, builtin, Sem.run_bind, Sem.run_pure, Result.andThen_ok, List.map_toArray, List.map_cons, List.map_nil, hs, hx, hr]
 refine h v' w' ⟨by simpa using h2, fun y hy => ?_⟩ ⟨?_, fun b h5 h6 => grown_at h3 h5 h6, fun b hb => ?_⟩
 ·rcases List.mem_append.1 hy with q | q
  ·exact hown.len y q
  ·simp at q; rw [q]; exact hcl
 ·exact (Below.refl _ _).grown h3 hB (fun k hk => (own_block hown.out hk).1)
 ·rcases h4.out with ⟨g', cap, e1, e2⟩ | ⟨e1, _⟩
  ·subst e1 e2; exact .inl hb
  ·rw [e1] at hb; cases hb; right; exact Nat.le_refl _
structure VM (w : World) (B b c : Nat) (N : List Vl) : Prop where
 lo : B <= b
 le : N.length + 1 <= c
 mx : c <= 9223372036854775807
 ty : ∃ cs, w.heap[b]? = some (.cells cs 42 (0, 0))
 cell : ∀ i (h : i < N.length), ∃ a k, w.cell? ⟨b, i * 4, none⟩ = some (.int .i64 N[i].op) /\ w.cell? ⟨b, i * 4 + 1, none⟩ = some (.int .i64 N[i].ty) /\ w.cell? ⟨b, i * 4 + 2, none⟩ = some (.int .i64 N[i].imm) /\ w.cell? ⟨b, i * 4 + 3, none⟩ = some (.slice a N[i].args.length k) /\ IM w B a k N[i].args
 mark : w.cell? ⟨b, N.length * 4, none⟩ = some (.int .i64 (-71))
structure BM (w : World) (B b c : Nat) (N : List Bk) : Prop where
 lo : B <= b
 le : N.length + 1 <= c
 mx : c <= 9223372036854775807
 ty : ∃ cs, w.heap[b]? = some (.cells cs 46 (0, 0))
 cell : ∀ i (h : i < N.length), ∃ a1 k1 a2 k2 a3 k3 a4 k4, w.cell? ⟨b, i * 6, none⟩ = some (.slice a1 N[i].phis.length k1) /\ w.cell? ⟨b, i * 6 + 1, none⟩ = some (.slice a2 N[i].body.length k2) /\ w.cell? ⟨b, i * 6 + 2, none⟩ = some (.int .i64 N[i].kind) /\ w.cell? ⟨b, i * 6 + 3, none⟩ = some (.int .i64 N[i].val) /\ w.cell? ⟨b, i * 6 + 4, none⟩ = some (.slice a3 N[i].ways.length k3) /\ w.cell? ⟨b, i * 6 + 5, none⟩ = some (.slice a4 N[i].preds.length k4) /\ IM w B a1 k1 N[i].phis /\ IM w B a2 k2 N[i].body /\ IM w B a3 k3 N[i].ways /\ IM w B a4 k4 N[i].preds
 mark : w.cell? ⟨b, N.length * 6 + 2, none⟩ = some (.int .i64 (-71))
theorem VM.move {w w' : World} {B b c N} (h : VM w B b c N) (hk : ∀ b cs, B <= b -> w.heap[b]? = some (.cells cs 3 (0, 0)) -> w'.heap[b]? = w.heap[b]?) (hv : w'.heap[b]? = w.heap[b]?) : VM w' B b c N := by
 have hc : ∀ q, w'.cell? ⟨b, q, none⟩ = w.cell? ⟨b, q, none⟩ := fun q => World.cell?_of_block (w := w) hv
 obtain ⟨cs, hcs⟩ := h.ty
 refine ⟨h.lo, h.le, h.mx, ⟨cs, hv.trans hcs⟩, fun i hi => ?_, (hc _).trans h.mark⟩
 obtain ⟨a, k, c0, c1, c2, c3, hI⟩ := h.cell i hi
 exact ⟨a, k, (hc _).trans c0, (hc _).trans c1, (hc _).trans c2, (hc _).trans c3, hI.move hk⟩
theorem BM.move {w w' : World} {B b c N} (h : BM w B b c N) (hk : ∀ b cs, B <= b -> w.heap[b]? = some (.cells cs 3 (0, 0)) -> w'.heap[b]? = w.heap[b]?) (hv : w'.heap[b]? = w.heap[b]?) : BM w' B b c N := by
 have hc : ∀ q, w'.cell? ⟨b, q, none⟩ = w.cell? ⟨b, q, none⟩ := fun q => World.cell?_of_block (w := w) hv
 obtain ⟨cs, hcs⟩ := h.ty
 refine ⟨h.lo, h.le, h.mx, ⟨cs, hv.trans hcs⟩, fun i hi => ?_, (hc _).trans h.mark⟩
 obtain ⟨a1, k1, a2, k2, a3, k3, a4, k4, c0, c1, c2, c3, c4, c5, h1, h2, h3, h4⟩ := h.cell i hi
 exact ⟨a1, k1, a2, k2, a3, k3, a4, k4, (hc _).trans c0, (hc _).trans c1, (hc _).trans c2, (hc _).trans c3, (hc _).trans c4, (hc _).trans c5, h1.move hk, h2.move hk, h3.move hk, h4.move hk⟩
theorem VM.lower {w B B' b c N} (h : VM w B b c N) (hB : B' <= B) : VM w B' b c N := ⟨by have := h.lo; omega, h.le, h.mx, h.ty, fun i hi => by
 obtain ⟨a, k, c0, c1, c2, c3, hI⟩ := h.cell i hi
 exact ⟨a, k, c0, c1, c2, c3, hI.lower hB⟩, h.mark⟩
theorem BM.lower {w B B' b c N} (h : BM w B b c N) (hB : B' <= B) : BM w B' b c N := ⟨by have := h.lo; omega, h.le, h.mx, h.ty, fun i hi => by
 obtain ⟨a1, k1, a2, k2, a3, k3, a4, k4, c0, c1, c2, c3, c4, c5, h1, h2, h3, h4⟩ := h.cell i hi
 exact ⟨a1, k1, a2, k2, a3, k3, a4, k4, c0, c1, c2, c3, c4, c5, h1.lower hB, h2.lower hB, h3.lower hB, h4.lower hB⟩, h.mark⟩
theorem VM.lt {w B b c N} (h : VM w B b c N) : b < w.heap.size := by obtain ⟨cs, e⟩ := h.ty; exact (gl e)
theorem BM.lt {w B b c N} (h : BM w B b c N) : b < w.heap.size := by obtain ⟨cs, e⟩ := h.ty; exact (gl e)
theorem VM.vls {w B b c N} (h : VM w B b c N) : Vls w (some ⟨b, 0, none⟩) c N := ⟨by have := h.le; omega, h.mx, fun _ => ⟨b, 0, rfl, h.lt, fun i hi => by
 obtain ⟨a, k, c0, c1, c2, c3, hI⟩ := h.cell i hi
 exact ⟨a, k, by simpa using c0, by simpa using c1, by simpa using c2, by simpa using c3, hI.ints⟩⟩⟩
theorem BM.bks {w B b c N} (h : BM w B b c N) : Bks w (some ⟨b, 0, none⟩) c N := ⟨by have := h.le; omega, h.mx, fun _ => ⟨b, 0, rfl, h.lt, fun i hi => by
 obtain ⟨a1, k1, a2, k2, a3, k3, a4, k4, c0, c1, c2, c3, c4, c5, h1, h2, h3, h4⟩ := h.cell i hi
 exact ⟨a1, k1, a2, k2, a3, k3, a4, k4, by simpa using c0, by simpa using c1, by simpa using c2, by simpa using c3, by simpa using c4, by simpa using c5, h1.ints, h2.ints, h3.ints, h4.ints⟩⟩⟩
theorem Row.cell {w : World} {B e z b n c xs} (h : Row w B e z (.slice (some ⟨b, 0, none⟩) n c) xs) (hn : n = xs.length) {i : Nat} (hi : i < xs.length) {r : Nat} (hr : r < z) {u : Value} (hu : (xs[i])[r]? = some u) : w.cell? ⟨b, i * z + r, none⟩ = some u := by
 subst hn
 have hlt : i * z + r < xs.length * z := by
  have : (i + 1) * z <= xs.length * z := Nat.mul_le_mul_right z hi
  rw [Nat.add_mul] at this
  omega
 rw [own_cell h.out (i * z + r) hlt, flat_at xs h.len i hi r hr, hu]
theorem Row.some {w : World} {B e z v xs} (h : Row w B e z v xs) (hne : 0 < xs.length) : ∃ b c cs, v = .slice (some ⟨b, 0, none⟩) xs.length c /\ xs.length <= c /\ c <= 9223372036854775807 /\ B <= b /\ w.heap[b]? = some (.cells cs e (0, 0)) := by
 obtain ⟨g, c, e1, h1, h2, h3, h4⟩ := own_some h.out hne
 rcases h.out.2 with ⟨q, _⟩ | ⟨g2, cap, cur, q, _, p3, _⟩
 ·rw [e1] at q; cases q
 ·rw [e1] at q; cases q
  exact ⟨g, c, cur, e1, h1, h2, h3, p3⟩
theorem VM.of_row {w : World} {B : Nat} {v : Value} {xs : List (List Value)} {N : List Vl} (h : Row w B 42 4 v (xs ++ [[.int .i64 (-71), .int .i64 0, .int .i64 0, .slice none 0 0]])) (hl : xs.length = N.length) (hE : ∀ i (h : i < N.length) (h' : i < xs.length), VE w B xs[i] N[i]) : ∃ b c, v = .slice (some ⟨b, 0, none⟩) (N.length + 1) c /\ VM w B b c N := by
 obtain ⟨b, c, cs, rfl, h1, h2, h3, h4⟩ := h.some (by simp)
 have hn : (xs ++ [[Value.int .i64 (-71), .int .i64 0, .int .i64 0, .slice none 0 0]]).length = N.length + 1 := by simp [hl]
 refine ⟨b, c, by rw [hn], h3, by omega, h2, ⟨cs, h4⟩, fun i hi => ?_, ?_⟩
 ·obtain ⟨a, k, e, hI⟩ := (hE i hi (by omega)).out
  have ex : (xs ++ [[Value.int .i64 (-71), .int .i64 0, .int .i64 0, .slice none 0 0]])[i]'(by simp; omega) = xs[i]'(by omega) := List.getElem_append_left (by omega)
  have hc : ∀ r u, r < 4 -> (xs[i]'(by omega))[r]? = some u -> w.cell? ⟨b, i * 4 + r, none⟩ = some u := fun r u hr hu => h.cell rfl (by simp; omega) hr (by rw [ex]; exact hu)
  rw [e] at hc
  exact ⟨a, k, hc 0 _ (by omega) rfl, hc 1 _ (by omega) rfl, hc 2 _ (by omega) rfl, hc 3 _ (by omega) rfl, hI⟩
 ·have := h.cell rfl (i := xs.length) (by simp) (r := 0) (by omega) (u := .int .i64 (-71)) (by simp)
  rw [hl] at this
  exact this
theorem BM.of_row {w : World} {B : Nat} {v : Value} {xs : List (List Value)} {N : List Bk} (h : Row w B 46 6 v (xs ++ [[.slice none 0 0, .slice none 0 0, .int .i64 (-71), .int .i64 0, .slice none 0 0, .slice none 0 0]])) (hl : xs.length = N.length) (hE : ∀ i (h : i < N.length) (h' : i < xs.length), BE w B xs[i] N[i]) : ∃ b c, v = .slice (some ⟨b, 0, none⟩) (N.length + 1) c /\ BM w B b c N := by
 obtain ⟨b, c, cs, rfl, h1, h2, h3, h4⟩ := h.some (by simp)
 have hn : (xs ++ [[Value.slice none 0 0, .slice none 0 0, .int .i64 (-71), .int .i64 0, .slice none 0 0, .slice none 0 0]]).length = N.length + 1 := by simp [hl]
 refine ⟨b, c, by rw [hn], h3, by omega, h2, ⟨cs, h4⟩, fun i hi => ?_, ?_⟩
 ·obtain ⟨a1, k1, a2, k2, a3, k3, a4, k4, e, q1, q2, q3, q4⟩ := (hE i hi (by omega)).out
  have ex : (xs ++ [[Value.slice none 0 0, .slice none 0 0, .int .i64 (-71), .int .i64 0, .slice none 0 0, .slice none 0 0]])[i]'(by simp; omega) = xs[i]'(by omega) := List.getElem_append_left (by omega)
  have hc : ∀ r u, r < 6 -> (xs[i]'(by omega))[r]? = some u -> w.cell? ⟨b, i * 6 + r, none⟩ = some u := fun r u hr hu => h.cell rfl (by simp; omega) hr (by rw [ex]; exact hu)
  rw [e] at hc
  exact ⟨a1, k1, a2, k2, a3, k3, a4, k4, hc 0 _ (by omega) rfl, hc 1 _ (by omega) rfl, hc 2 _ (by omega) rfl, hc 3 _ (by omega) rfl, hc 4 _ (by omega) rfl, hc 5 _ (by omega) rfl, q1, q2, q3, q4⟩
 ·have := h.cell rfl (i := xs.length) (by simp) (r := 2) (by omega) (u := .int .i64 (-71)) (by simp)
  rw [hl] at this
  exact this
structure FE (w : World) (B : Nat) (cs : List Value) (f : Fu) : Prop where
 out : ∃ a k vb vc bb bc, cs = [.string f.name, .slice a f.params.length k, .int .i64 f.result, .slice (some ⟨vb, 0, none⟩) f.vals.length vc, .slice (some ⟨bb, 0, none⟩) f.blks.length bc] /\ IM w B a k f.params /\ VM w B vb vc f.vals /\ BM w B bb bc f.blks
theorem FE.len {w B cs v} (h : FE w B cs v) : cs.length = 5 := by
 obtain ⟨a, k, vb, vc, bb, bc, e, _⟩ := h.out
 rw [e]; rfl
theorem FE.move {w w' : World} {B cs f} (h : FE w B cs f) (hk : ∀ b cs t, B <= b -> w.heap[b]? = some (.cells cs t (0, 0)) -> t ≠ 38 -> w'.heap[b]? = w.heap[b]?) : FE w' B cs f := by
 obtain ⟨a, k, vb, vc, bb, bc, e, h1, h2, h3⟩ := h.out
 obtain ⟨c2, e2⟩ := h2.ty
 obtain ⟨c3, e3⟩ := h3.ty
 have hi : ∀ b cs, B <= b -> w.heap[b]? = some (.cells cs 3 (0, 0)) -> w'.heap[b]? = w.heap[b]? := fun b cs hb he => hk b cs _ hb he (by decide)
 exact ⟨a, k, vb, vc, bb, bc, e, h1.move hi, h2.move hi (hk vb _ _ h2.lo e2 (by decide)), h3.move hi (hk bb _ _ h3.lo e3 (by decide))⟩
theorem FE.lower {w B B' cs f} (h : FE w B cs f) (hB : B' <= B) : FE w B' cs f := by
 obtain ⟨a, k, vb, vc, bb, bc, e, h1, h2, h3⟩ := h.out
 exact ⟨a, k, vb, vc, bb, bc, e, h1.lower hB, h2.lower hB, h3.lower hB⟩
theorem FE.below {w w' : World} {B cs f} (h : FE w B cs f) (hb : Below w.heap.size w w') : FE w' B cs f := h.move fun b cs t _ e _ => hb.block b (gl e)
structure LM (w : World) (B b c : Nat) (FS : List Fu) : Prop where
 lo : B <= b
 le : FS.length + 1 <= c
 mx : c <= 9223372036854775807
 row : ∃ xs : List (List Value), xs.length = FS.length /\ (∀ i (h : i < FS.length) (h' : i < xs.length), FE w B xs[i] FS[i]) /\ ∀ i (h : i < xs.length) r u, r < 5 -> (xs[i])[r]? = some u -> w.cell? ⟨b, i * 5 + r, none⟩ = some u
 ty : ∃ cs, w.heap[b]? = some (.cells cs 38 (0, 0)) /\ (FS.length + 1) * 5 <= cs.size
 mark : w.cell? ⟨b, FS.length * 5, none⟩ = some (.string ⟨#[109, 97, 114, 107]⟩)
theorem LM.lt {w B b c N} (h : LM w B b c N) : b < w.heap.size := by obtain ⟨cs, e, _⟩ := h.ty; exact (gl e)
theorem LM.fus {w B b c FS} (h : LM w B b c FS) : Fus w (some ⟨b, 0, none⟩) c FS := ⟨by have := h.le; omega, h.mx, fun _ => ⟨b, 0, rfl, h.lt, fun i hi => by
 obtain ⟨xs, hl, hE, hc⟩ := h.row
 obtain ⟨a, k, vb, vc, bb, bc, e, h1, h2, h3⟩ := (hE i hi (by omega)).out
 have hc' := hc i (by omega)
 rw [e] at hc'
 have c0 := hc' 0 _ (by omega) rfl
 have c1 := hc' 1 _ (by omega) rfl
 have c2 := hc' 2 _ (by omega) rfl
 have c3 := hc' 3 _ (by omega) rfl
 have c4 := hc' 4 _ (by omega) rfl
 exact ⟨a, k, some ⟨vb, 0, none⟩, vc, some ⟨bb, 0, none⟩, bc, by simpa using c0, by simpa using c1, by simpa using c2, by simpa using c3, by simpa using c4, h1.ints, h2.vls, h3.bks⟩⟩⟩
theorem LM.below {w w' : World} {B b c FS} (h : LM w B b c FS) (hb : Below w.heap.size w w') : LM w' B b c FS := by
 have hv := hb.block b h.lt
 have hc : ∀ q, w'.cell? ⟨b, q, none⟩ = w.cell? ⟨b, q, none⟩ := fun q => World.cell?_of_block (w := w) hv
 obtain ⟨xs, hl, hE, hx⟩ := h.row
 obtain ⟨cs, e, hs⟩ := h.ty
 exact ⟨h.lo, h.le, h.mx, ⟨xs, hl, fun i hi hi' => (hE i hi hi').below hb, fun i hi r u hr hu => (hc _).trans (hx i hi r u hr hu)⟩, ⟨cs, hv.trans e, hs⟩, (hc _).trans h.mark⟩
theorem IM.of_own {w : World} {B B' : Nat} {v : Value} {n : Nat} {L : List Int} (h : OwnI w B v (n + 2) (L ++ [-71, -72])) (hB : B' <= B) : ∃ b c, v = .slice (some ⟨b, 0, none⟩) (n + 2) c /\ n + 2 <= c /\ c <= 9223372036854775807 /\ IM w B' (some ⟨b, 0, none⟩) c L := by
 obtain ⟨g, c, rfl, h1, h2, h3, h4⟩ := own_some h.out (by omega)
 obtain ⟨a', c', e, hI⟩ := h.ints
 cases e
 refine ⟨g, c, rfl, h1, h2, hI, ?_⟩
 rcases h.out.2 with ⟨q, _⟩ | ⟨g2, cap, cur, q, _, p3, _⟩
 ·cases q
 ·cases q
  exact ⟨g, cur, rfl, by omega, p3⟩
set_option maxRecDepth 100000 in
set_option maxHeartbeats 2000000 in
theorem room_any (w : World) {la : Option Addr} {n lc : Nat} {L : List Int} (hL : Ints w la lc L) (hn : n = L.length) (hsz : n <= 10000000) :
 Calls Tryz.prog 17 #[.slice la n lc] w fun e w' => ∃ xa xc, e = .returned (.slice xa n xc) /\ IM w' w.heap.size xa xc L /\ Below w.heap.size w w' := by
 have HL : Hid (Ints w la lc L) := hL
 have HN : Hid (n = L.length) := hn
 clear hL hn
 go_enter Tryz.func17, Tryz.ntmps17
 go_wp2_with (first
  | (at_builtin; refine wpList_append_twoW (w0 := w1) (by rfl) _ _ rfl w.heap.size (.slice a1 n c1) n L (-71) (-72) rfl HO1.out rfl (by omega) hB1 ?_; intro v2 w2 h2 g2
     obtain ⟨b2, c2, e2, hc2, hc3, hM⟩ := IM.of_own h2 (Nat.le_refl _)
     subst e2
     have HM : Hid _ := hM
     have HB2 : Hid (Below w.heap.size w w2) := HB1.out.trans g2.bel
     clear h2 g2 hM)
  | (at_builtin; refine wpList_step fun K hK => ?_; refine step_append_manyG rfl _ _ rfl w.heap.size (.slice none 0 0) 0 [] rfl (OwnI.nil _ _) la n lc L rfl HN.out HL.out (by omega) (Nat.le_refl _) ?_; intro v1 w1 h1 g1; refine hK _ _ ?_; clear hK
     rw [Nat.zero_add, List.nil_append] at h1
     obtain ⟨a1, c1, e1, _, _⟩ := own_slice h1.out
     subst e1
     have HO1 : Hid _ := h1
     have HB1 : Hid (Below w.heap.size w w1) := g1.bel
     have hB1 : w.heap.size <= w1.heap.size := g1.size
     clear h1 g1))
 go_ret
 exact ⟨_, _, rfl, HM.out, HB2.out⟩
end Go.Proofs.YtdbkjjelaipcfaaGreatDoor
