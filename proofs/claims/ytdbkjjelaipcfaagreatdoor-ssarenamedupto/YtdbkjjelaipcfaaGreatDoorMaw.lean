import Derived.Lib.SmallJoins
import Derived.Laws.ResultCell
import Derived.Test.YtdbkjjelaipcfaaGreatDoorMaf
import Derived.Test.YtdbkjjelaipcfaaGreatDoorMav
set_option linter.unusedVariables false
set_option linter.unusedSimpArgs false
namespace Go.Proofs.YtdbkjjelaipcfaaGreatDoor
open Go.ChangeShapes Go.WideShapes Go.ChangeAt Go.RowKit Go.Maps
def al (w : World) (X : List Obj) : World := X.foldl World.alloc w
theorem al_below (X : List Obj) : ∀ w : World, Below w.heap.size w (al w X) := by
 induction X with
 | nil => intro w; exact Below.refl _ _
 | cons x xs ih => intro w; exact (below_new w x).trans ((ih (w.alloc x)).mono (by simp))
theorem al_at (X : List Obj) : ∀ (w : World) (i : Nat) (h : i < X.length), (al w X).heap[w.heap.size + i]? = some X[i] := by
 induction X with
 | nil => intro w i h; simp at h
 | cons x xs ih =>
   intro w i h
   cases i with
   | zero =>
     show (al (w.alloc x) xs).heap[w.heap.size]? = _
     rw [(al_below xs (w.alloc x)).block _ (by simp)]
     exact heap_alloc_new w x
   | succ i =>
     have := ih (w.alloc x) i (by simpa using h)
     rw [show (w.alloc x).heap.size + i = w.heap.size + (i + 1) by simp; omega] at this
     exact this
theorem ints_none (w : World) : Ints w none 0 [] := ⟨Nat.le_refl _, by decide, fun h => absurd rfl h⟩
def loopX (B : Nat) : List Obj := [.cells #[.slice (some ⟨B + 17, 0, none⟩) 1 1, .int .i64 0] 24, .cells #[.int .i64 0, .int .i64 6] 3, .cells #[.int .i64 1, .int .i64 2] 3, .cells #[.int .i64 1] 3, .cells #[.int .i64 1, .int .i64 5] 3, .cells #[.int .i64 1, .int .i64 1, .int .i64 0, .slice none 0 0, .int .i64 32, .int .i64 1, .int .i64 0, .slice (some ⟨B + 1, 0, none⟩) 2 2, .int .i64 1, .int .i64 1, .int .i64 3, .slice none 0 0, .int .i64 15, .int .i64 2, .int .i64 0, .slice (some ⟨B + 2, 0, none⟩) 2 2, .int .i64 26, .int .i64 0, .int .i64 0, .slice (some ⟨B + 3, 0, none⟩) 1 1, .int .i64 1, .int .i64 1, .int .i64 1, .slice none 0 0, .int .i64 2, .int .i64 1, .int .i64 0, .slice (some ⟨B + 4, 0, none⟩) 2 2] 42, .cells #[.int .i64 0] 3, .cells #[.int .i64 1] 3, .cells #[.int .i64 1] 3, .cells #[.int .i64 2, .int .i64 3] 3, .cells #[.int .i64 2, .int .i64 3] 3, .cells #[.int .i64 0, .int .i64 2] 3, .cells #[.int .i64 4, .int .i64 5, .int .i64 6] 3, .cells #[.int .i64 1] 3, .cells #[.int .i64 1] 3, .cells #[.int .i64 1] 3, .cells #[.slice none 0 0, .slice (some ⟨B + 6, 0, none⟩) 1 1, .int .i64 1, .int .i64 (-1), .slice (some ⟨B + 7, 0, none⟩) 1 1, .slice none 0 0, .slice (some ⟨B + 8, 0, none⟩) 1 1, .slice (some ⟨B + 9, 0, none⟩) 2 2, .int .i64 2, .int .i64 3, .slice (some ⟨B + 10, 0, none⟩) 2 2, .slice (some ⟨B + 11, 0, none⟩) 2 2, .slice none 0 0, .slice (some ⟨B + 12, 0, none⟩) 3 3, .int .i64 1, .int .i64 (-1), .slice (some ⟨B + 13, 0, none⟩) 1 1, .slice (some ⟨B + 14, 0, none⟩) 1 1, .slice none 0 0, .slice none 0 0, .int .i64 3, .int .i64 (-1), .slice none 0 0, .slice (some ⟨B + 15, 0, none⟩) 1 1] 46, .cells #[.string ⟨#[109, 97, 105, 110]⟩, .slice none 0 0, .int .i64 0, .slice (some ⟨B + 5, 0, none⟩) 7 7, .slice (some ⟨B + 16, 0, none⟩) 4 4] 38]
def loopF : Fu := ⟨⟨#[109, 97, 105, 110]⟩, [], 0, [⟨1, 1, 0, []⟩, ⟨32, 1, 0, [0, 6]⟩, ⟨1, 1, 3, []⟩, ⟨15, 2, 0, [1, 2]⟩, ⟨26, 0, 0, [1]⟩, ⟨1, 1, 1, []⟩, ⟨2, 1, 0, [1, 5]⟩], [⟨[], [0], 1, -1, [1], []⟩, ⟨[1], [2, 3], 2, 3, [2, 3], [0, 2]⟩, ⟨[], [4, 5, 6], 1, -1, [1], [1]⟩, ⟨[], [], 3, -1, [], [1]⟩]⟩
set_option maxRecDepth 100000 in
set_option maxHeartbeats 4000000 in
theorem loop_any (w : World) : Calls Tryz.prog 16 #[] w fun e w' => e = .returned (.agg #[.slice (some ⟨w.heap.size + 17, 0, none⟩) 1 1, .int .i64 0]) /\ w' = al w (loopX w.heap.size) := by
 have hb := al_at (loopX w.heap.size) w 0 (by simp [loopX])
 go_enter Tryz.func16, Tryz.ntmps16
 go_wp2_with fail
 refine bodyPost_ret (v := .agg #[.slice (some ⟨w.heap.size + 17, 0, none⟩) 1 1, .int .i64 0]) ?_ rfl ⟨rfl, rfl⟩
 exact results_cell_row Tryz.results16 _ _ w.heap.size 24 _ (0, 0) _ rfl hb Tryz.underlying24 rfl (by kernel_rfl)
theorem loop_fus (w : World) : Fus (al w (loopX w.heap.size)) (some ⟨w.heap.size + 17, 0, none⟩) 1 [loopF] := by
 have hx : ∀ i (h : i < (loopX w.heap.size).length), (al w (loopX w.heap.size)).heap[w.heap.size + i]? = some (loopX w.heap.size)[i] := fun i h => al_at _ w i h
 obtain ⟨B, hB⟩ : ∃ B, B = w.heap.size := ⟨_, rfl⟩
 obtain ⟨W, hW⟩ : ∃ W, W = al w (loopX w.heap.size) := ⟨_, rfl⟩
 rw [<- hW] at hx ⊢
 rw [<- hB] at hx ⊢
 clear hW hB
 have h1 := hx 1 (by simp [loopX])
 have h2 := hx 2 (by simp [loopX])
 have h3 := hx 3 (by simp [loopX])
 have h4 := hx 4 (by simp [loopX])
 have h5 := hx 5 (by simp [loopX])
 have h6 := hx 6 (by simp [loopX])
 have h7 := hx 7 (by simp [loopX])
 have h8 := hx 8 (by simp [loopX])
 have h9 := hx 9 (by simp [loopX])
 have h10 := hx 10 (by simp [loopX])
 have h11 := hx 11 (by simp [loopX])
 have h12 := hx 12 (by simp [loopX])
 have h13 := hx 13 (by simp [loopX])
 have h14 := hx 14 (by simp [loopX])
 have h15 := hx 15 (by simp [loopX])
 have h16 := hx 16 (by simp [loopX])
 have h17 := hx 17 (by simp [loopX])
 have hl : ∀ j : Nat, j < 18 -> B + j < W.heap.size := fun j hj => (Array.getElem?_eq_some_iff.1 (hx j (by simpa [loopX] using hj))).1
 clear hx
 have i1 : Ints W (some ⟨B + 1, 0, none⟩) 2 [0, 6] := ints_exact (L := [0, 6]) h1 (by decide)
 have i2 : Ints W (some ⟨B + 2, 0, none⟩) 2 [1, 2] := ints_exact (L := [1, 2]) h2 (by decide)
 have i3 : Ints W (some ⟨B + 3, 0, none⟩) 1 [1] := ints_exact (L := [1]) h3 (by decide)
 have i4 : Ints W (some ⟨B + 4, 0, none⟩) 2 [1, 5] := ints_exact (L := [1, 5]) h4 (by decide)
 have i6 : Ints W (some ⟨B + 6, 0, none⟩) 1 [0] := ints_exact (L := [0]) h6 (by decide)
 have i7 : Ints W (some ⟨B + 7, 0, none⟩) 1 [1] := ints_exact (L := [1]) h7 (by decide)
 have i8 : Ints W (some ⟨B + 8, 0, none⟩) 1 [1] := ints_exact (L := [1]) h8 (by decide)
 have i9 : Ints W (some ⟨B + 9, 0, none⟩) 2 [2, 3] := ints_exact (L := [2, 3]) h9 (by decide)
 have i10 : Ints W (some ⟨B + 10, 0, none⟩) 2 [2, 3] := ints_exact (L := [2, 3]) h10 (by decide)
 have i11 : Ints W (some ⟨B + 11, 0, none⟩) 2 [0, 2] := ints_exact (L := [0, 2]) h11 (by decide)
 have i12 : Ints W (some ⟨B + 12, 0, none⟩) 3 [4, 5, 6] := ints_exact (L := [4, 5, 6]) h12 (by decide)
 have i13 : Ints W (some ⟨B + 13, 0, none⟩) 1 [1] := ints_exact (L := [1]) h13 (by decide)
 have i14 : Ints W (some ⟨B + 14, 0, none⟩) 1 [1] := ints_exact (L := [1]) h14 (by decide)
 have i15 : Ints W (some ⟨B + 15, 0, none⟩) 1 [1] := ints_exact (L := [1]) h15 (by decide)
 have hv : Vls W (some ⟨B + 5, 0, none⟩) 7 loopF.vals := by
  refine ⟨by decide, by decide, fun _ => ⟨B + 5, 0, rfl, hl 5 (by omega), fun i hi => ?_⟩⟩
  match i, hi with
  | 0, _ => exact ⟨none, 0, cell_arr (i := 0) h5 rfl, cell_arr (i := 1) h5 rfl, cell_arr (i := 2) h5 rfl, cell_arr (i := 3) h5 rfl, (ints_none W)⟩
  | 1, _ => exact ⟨some ⟨B + 1, 0, none⟩, 2, cell_arr (i := 4) h5 rfl, cell_arr (i := 5) h5 rfl, cell_arr (i := 6) h5 rfl, cell_arr (i := 7) h5 rfl, i1⟩
  | 2, _ => exact ⟨none, 0, cell_arr (i := 8) h5 rfl, cell_arr (i := 9) h5 rfl, cell_arr (i := 10) h5 rfl, cell_arr (i := 11) h5 rfl, (ints_none W)⟩
  | 3, _ => exact ⟨some ⟨B + 2, 0, none⟩, 2, cell_arr (i := 12) h5 rfl, cell_arr (i := 13) h5 rfl, cell_arr (i := 14) h5 rfl, cell_arr (i := 15) h5 rfl, i2⟩
  | 4, _ => exact ⟨some ⟨B + 3, 0, none⟩, 1, cell_arr (i := 16) h5 rfl, cell_arr (i := 17) h5 rfl, cell_arr (i := 18) h5 rfl, cell_arr (i := 19) h5 rfl, i3⟩
  | 5, _ => exact ⟨none, 0, cell_arr (i := 20) h5 rfl, cell_arr (i := 21) h5 rfl, cell_arr (i := 22) h5 rfl, cell_arr (i := 23) h5 rfl, (ints_none W)⟩
  | 6, _ => exact ⟨some ⟨B + 4, 0, none⟩, 2, cell_arr (i := 24) h5 rfl, cell_arr (i := 25) h5 rfl, cell_arr (i := 26) h5 rfl, cell_arr (i := 27) h5 rfl, i4⟩
 have hk : Bks W (some ⟨B + 16, 0, none⟩) 4 loopF.blks := by
  refine ⟨by decide, by decide, fun _ => ⟨B + 16, 0, rfl, hl 16 (by omega), fun i hi => ?_⟩⟩
  match i, hi with
  | 0, _ => exact ⟨none, 0, some ⟨B + 6, 0, none⟩, 1, some ⟨B + 7, 0, none⟩, 1, none, 0, cell_arr (i := 0) h16 rfl, cell_arr (i := 1) h16 rfl, cell_arr (i := 2) h16 rfl, cell_arr (i := 3) h16 rfl, cell_arr (i := 4) h16 rfl, cell_arr (i := 5) h16 rfl, (ints_none W), i6, i7, (ints_none W)⟩
  | 1, _ => exact ⟨some ⟨B + 8, 0, none⟩, 1, some ⟨B + 9, 0, none⟩, 2, some ⟨B + 10, 0, none⟩, 2, some ⟨B + 11, 0, none⟩, 2, cell_arr (i := 6) h16 rfl, cell_arr (i := 7) h16 rfl, cell_arr (i := 8) h16 rfl, cell_arr (i := 9) h16 rfl, cell_arr (i := 10) h16 rfl, cell_arr (i := 11) h16 rfl, i8, i9, i10, i11⟩
  | 2, _ => exact ⟨none, 0, some ⟨B + 12, 0, none⟩, 3, some ⟨B + 13, 0, none⟩, 1, some ⟨B + 14, 0, none⟩, 1, cell_arr (i := 12) h16 rfl, cell_arr (i := 13) h16 rfl, cell_arr (i := 14) h16 rfl, cell_arr (i := 15) h16 rfl, cell_arr (i := 16) h16 rfl, cell_arr (i := 17) h16 rfl, (ints_none W), i12, i13, i14⟩
  | 3, _ => exact ⟨none, 0, none, 0, none, 0, some ⟨B + 15, 0, none⟩, 1, cell_arr (i := 18) h16 rfl, cell_arr (i := 19) h16 rfl, cell_arr (i := 20) h16 rfl, cell_arr (i := 21) h16 rfl, cell_arr (i := 22) h16 rfl, cell_arr (i := 23) h16 rfl, (ints_none W), (ints_none W), (ints_none W), i15⟩
 refine ⟨by decide, by decide, fun _ => ⟨B + 17, 0, rfl, hl 17 (by omega), fun i hi => ?_⟩⟩
 match i, hi with
 | 0, _ => exact ⟨none, 0, some ⟨B + 5, 0, none⟩, 7, some ⟨B + 16, 0, none⟩, 4, cell_arr (i := 0) h17 rfl, cell_arr (i := 1) h17 rfl, cell_arr (i := 2) h17 rfl, cell_arr (i := 3) h17 rfl, cell_arr (i := 4) h17 rfl, ints_none W, hv, hk⟩
theorem loop_yes : checkP [loopF] 0 = 0 := by decide +kernel
theorem loop_no : checkP [loopF] 1 = 90 := by decide +kernel
theorem loop_few : ∀ f ∈ [loopF], FewF f := by
 intro f hf
 simp at hf
 subst hf
 exact ⟨by decide, by decide⟩
set_option maxRecDepth 100000 in
set_option maxHeartbeats 4000000 in
theorem alive9_any (w : World) (hTab : Tab w) : Calls Tryz.prog 7 #[] w fun e w' => e = .returned (.bool true) /\ Below w.heap.size w w' := by
 have HT : Hid (Tab w) := hTab
 have hb1 := al_below (loopX w.heap.size) w
 have hF := loop_fus w
 obtain ⟨W, hW⟩ : ∃ W, W = al w (loopX w.heap.size) := ⟨_, rfl⟩
 rw [<- hW] at hF hb1
 have HW : Hid (W = al w (loopX w.heap.size)) := hW
 have HB : Hid (Below w.heap.size w W) := hb1
 have HC : Hid (∀ (m R : Int) (W' : World), checkP [loopF] m = R -> Below W.heap.size W W' -> Calls Tryz.prog 10 #[.agg #[.slice (some ⟨w.heap.size + 17, 0, none⟩) 1 1, .int .i64 m]] W' fun e w' => e = .returned (.int .i64 R) /\ Below W'.heap.size W' w') := fun m R W' hR h =>
  check_any W' (HT.out.below (HB.out.trans (h.mono HB.out.size)) HT.out.1) _ 1 1 [loopF] rfl (hF.below h (Nat.le_refl _)) (by omega) loop_few m R hR
 have B5 := below_new W (.cells #[.slice (some ⟨w.heap.size + 17, 0, none⟩) 1 1, .int .i64 0] 24)
 have h5 := heap_alloc_new W (.cells #[.slice (some ⟨w.heap.size + 17, 0, none⟩) 1 1, .int .i64 0] 24)
 have HB5 : Hid _ := B5
 have H5 : Hid _ := h5
 have HK : Hid (∀ w7, Below (W.alloc (.cells #[.slice (some ⟨w.heap.size + 17, 0, none⟩) 1 1, .int .i64 0] 24)).heap.size (W.alloc (.cells #[.slice (some ⟨w.heap.size + 17, 0, none⟩) 1 1, .int .i64 0] 24)) w7 -> w7.cell? ⟨W.heap.size, 0, none⟩ = some (.slice (some ⟨w.heap.size + 17, 0, none⟩) 1 1) /\ w7.cell? ⟨W.heap.size, 1, none⟩ = some (.int .i64 0) /\ w7.frozen? ⟨W.heap.size, 1, none⟩ = false /\ Below W.heap.size W (w7.setCell ⟨W.heap.size, 1, none⟩ (.int .i64 1)) /\ W.heap.size < w7.heap.size) := by
  intro w7 h
  have e := (h.block _ (by simp)).trans H5.out
  exact ⟨cell_arr e rfl, cell_arr e rfl, fz_of e, (HB5.out.trans (h.mono HB5.out.size)).setCell (Nat.le_refl _) _, (gl e)⟩
 clear hTab hb1 hF B5 h5 hW
 go_enter Tryz.func7, Tryz.ntmps7
 go_wp2_with (first
  | (go_at_call 10; refine (HC.out 1 90 _ loop_no k4).mono ?_; rintro e w8 ⟨rfl, hb8⟩)
  | (go_at_call 10; refine (HC.out 0 0 _ loop_yes HB5.out).mono ?_; rintro e w7 ⟨rfl, hb7⟩; obtain ⟨k1, k2, k3, k4, k5⟩ := HK.out w7 hb7)
  | (go_at_call 16; refine (loop_any w).mono ?_; rintro e w1 ⟨rfl, hw1⟩; have e1 := hw1.trans HW.out.symm; subst e1; clear hw1))
 go_ret
 exact ⟨rfl, HB.out.trans ((k4.trans (hb8.mono k4.size)).mono HB.out.size)⟩
theorem blk_pos {H : Type} (d : DataW H) : 1 <= Rows.uptoBulk d := by
 cases d with
 | lit l => cases l <;> simp [Rows.uptoBulk]
 | _ => simp [Rows.uptoBulk]
theorem blk_sum {H : Type} : ∀ l : List (DataW H), Rows.uptoBulkAll l = (l.map Rows.uptoBulk).sum
 | [] => by simp [Rows.uptoBulkAll]
 | d :: l => by simp [Rows.uptoBulkAll, blk_sum l]
theorem sum_le {α : Type} {f g : α -> Nat} : ∀ l : List α, (∀ x ∈ l, f x <= g x) -> (l.map f).sum <= (l.map g).sum
 | [], _ => by simp
 | x :: l, h => by
   have := sum_le l fun y hy => h y (by simp [hy])
   have := h x (by simp)
   simp only [List.map_cons, List.sum_cons]; omega
theorem sum_one : ∀ l : List Nat, (l.map fun _ => 1).sum = l.length
 | [] => rfl
 | x :: l => by simp only [List.map_cons, List.sum_cons, List.length_cons, sum_one l]; omega
theorem blk_slice {H : Type} {len m : Nat} {D : Nat -> DataW H} {g : Nat -> Nat} (h : ∀ i, i < len -> g i <= Rows.uptoBulk (D i)) : ((List.range len).map g).sum + 1 <= Rows.uptoBulk (.slice ((List.range len).map D) ((List.range (m - len)).map fun j => D (len + j))) := by
 simp only [Rows.uptoBulk, blk_sum, List.map_map]
 have := sum_le (f := g) (g := Rows.uptoBulk ∘ D) (List.range len) fun i hi => h i (List.mem_range.1 hi)
 omega
theorem map_at {α β : Type} (q : Nat -> α) (g : α -> β) (len : Nat) : ((List.range len).map q).map g = (List.range len).map fun i => g (q i) := by simp
theorem add_plain9 (b o j : Nat) : (⟨b, o, none⟩ : Addr).add j = ⟨b, o + j, none⟩ := add_none b o j
theorem ints_view9 {H : Type} {enc : TypeId × Value -> H} {W : World} {fuel : Nat} {cs : List Value} {x : DataW H × List MemPlace} (h : DataW.trod enc Tryz.prog W 0 (fun _ => true) true fuel 34 cs = some x) :
 ∃ (ao : Option Addr) (cap : Nat) (L : List Int), cs = [.slice ao L.length cap] /\ Ints W ao cap L /\ L.length + 1 <= Rows.uptoBulk x.1 := by
 rcases Deep.open_slice Tryz.underlying34 h with ⟨h0, _⟩ | ⟨a, len, cap, m, n, D, Pl, rfl, _, hl, hm, hmm, rfl, hx⟩
 ·exact ⟨none, 0, [], h0, ints_none W, by have := blk_pos x.1; simpa using this⟩
 ·have c5 : Tryz.prog.cellsOf 3 = 1 := by kernel_rfl
  rw [c5] at hx
  have hml : len <= m := by rw [hmm]; simp; exact hl
  have each : ∀ i, i < len -> ∃ q : Int, W.cell? (a.add i) = some (.int .i64 q) := by
   intro i hi
   obtain ⟨cs', h1, h2⟩ := hx i (by omega)
   obtain ⟨_, hlen, hcell⟩ := World.cells?_some h1
   obtain ⟨n0, e0, _, z0⟩ := DataW.trod_int Tryz.underlying3 h2
   subst e0
   have q0 := hcell 0 (by omega)
   rw [Deep.add_add] at q0
   exact ⟨n0, by simpa using q0⟩
  obtain ⟨q, hq⟩ := Deep.choose_lt each
  refine ⟨some a, cap, (List.range len).map q, by simp, ⟨by simpa using hl, by unfold maxLen at hm; omega, fun hne => ?_⟩, ?_⟩
  ·have hl0 : 0 < len := by
    rcases Nat.eq_zero_or_pos len with h | h
    ·subst h; simp at hne
    ·exact h
   obtain ⟨b, off, spot⟩ := a
   have hspot : spot = none := by simpa [Addr.add] using World.cell?_spot (hq 0 hl0)
   subst hspot
   refine ⟨b, off, rfl, by have := block_lt_of_cell (hq 0 hl0); simpa [Addr.add] using this, fun i hi => ?_⟩
   have hi' : i < len := by simpa using hi
   have := hq i hi'
   rw [add_none] at this
   rw [this]; simp
  ·have := blk_slice (m := m) (D := D) (len := len) (g := fun _ => 1) fun i _ => blk_pos (D i)
   rw [sum_one] at this
   simpa using this
def szV (v : Vl) : Nat := v.args.length + 1
def szB (b : Bk) : Nat := b.phis.length + b.body.length + b.ways.length + b.preds.length + 1
def szF (f : Fu) : Nat := f.name.size + f.params.length + (f.vals.map szV).sum + (f.blks.map szB).sum + 1
def szS (FS : List Fu) : Nat := (FS.map szF).sum
set_option maxRecDepth 20000 in
set_option maxHeartbeats 2000000 in
theorem vals_view {H : Type} {enc : TypeId × Value -> H} {W : World} {fuel : Nat} {cs : List Value} {x : DataW H × List MemPlace} (h : DataW.trod enc Tryz.prog W 0 (fun _ => true) true fuel 35 cs = some x) :
 ∃ (ao : Option Addr) (cap : Nat) (N : List Vl), cs = [.slice ao N.length cap] /\ Vls W ao cap N /\ (N.map szV).sum + 1 <= Rows.uptoBulk x.1 := by
 rcases Deep.open_slice Tryz.underlying35 h with ⟨h0, _⟩ | ⟨a, len, cap, m, n, D, Pl, rfl, _, hl, hm, hmm, rfl, hx⟩
 ·exact ⟨none, 0, [], h0, ⟨Nat.le_refl _, by decide, fun h => absurd rfl h⟩, by have := blk_pos x.1; simpa using this⟩
 ·have ce : Tryz.prog.cellsOf 42 = 4 := by kernel_rfl
  have c3 : Tryz.prog.cellsOf 3 = 1 := by kernel_rfl
  have c36 : Tryz.prog.cellsOf 34 = 1 := by kernel_rfl
  rw [ce] at hx
  have hml : len <= m := by rw [hmm]; simp; exact hl
  have each : ∀ i, i < len -> ∃ q : Vl, (∃ (ka : Option Addr) (kc : Nat), W.cell? (a.add (i * 4)) = some (.int .i64 q.op) /\ W.cell? (a.add (i * 4 + 1)) = some (.int .i64 q.ty) /\ W.cell? (a.add (i * 4 + 2)) = some (.int .i64 q.imm) /\ W.cell? (a.add (i * 4 + 3)) = some (.slice ka q.args.length kc) /\ Ints W ka kc q.args) /\ szV q <= Rows.uptoBulk (D i) := by
   intro i hi
   obtain ⟨cs', h1, h2⟩ := hx i (by omega)
   obtain ⟨_, hlen, hcell⟩ := World.cells?_some h1
   obtain ⟨xs, k, hk, hxy, _, hxl, hf⟩ := DataW.trod_struct Tryz.underlying42 h2
   match cs', hlen with
   | [v0, v1, v2, v3], _ =>
     have g0 := hf 0 _ rfl
     have g1 := hf 1 _ rfl
     have g2 := hf 2 _ rfl
     have g3 := hf 3 _ rfl
     simp [c3, c36] at g0 g1 g2 g3
     match xs, hxl with
     | [y0, y1, y2, y3], _ =>
       obtain ⟨n0, e0, _, _⟩ := DataW.trod_int Tryz.underlying3 (show DataW.trod enc Tryz.prog W 0 _ true k 3 _ = some y0 from g0)
       obtain ⟨n1, e1, _, _⟩ := DataW.trod_int Tryz.underlying3 (show DataW.trod enc Tryz.prog W 0 _ true k 3 _ = some y1 from g1)
       obtain ⟨n2, e2, _, _⟩ := DataW.trod_int Tryz.underlying3 (show DataW.trod enc Tryz.prog W 0 _ true k 3 _ = some y2 from g2)
       obtain ⟨ka, kc, L, e3, hI, hbk⟩ := ints_view9 (show DataW.trod enc Tryz.prog W 0 _ true k 34 _ = some y3 from g3)
       simp at e0 e1 e2 e3
       subst e0 e1 e2 e3
       have hc : ∀ j (hj : j < 4), W.cell? (a.add (i * 4 + j)) = some ([.int .i64 n0, .int .i64 n1, .int .i64 n2, .slice ka L.length kc][j]'(by simpa using hj)) := by
        intro j hj
        have := hcell j (by omega)
        rw [Deep.add_add] at this
        rw [this]; simp
       refine ⟨⟨n0, n1, n2, L⟩, ⟨ka, kc, hc 0 (by omega), hc 1 (by omega), hc 2 (by omega), hc 3 (by omega), hI⟩, ?_⟩
       rw [show D i = _ from congrArg Prod.fst hxy]
       simp only [szV, Rows.uptoBulk, Rows.uptoBulkAll, List.map_cons, List.map_nil]
       omega
  haveI : Inhabited Vl := ⟨⟨0, 0, 0, []⟩⟩
  obtain ⟨q, hq⟩ := Deep.choose_lt each
  refine ⟨some a, cap, (List.range len).map q, by simp, ⟨by simpa using hl, by unfold maxLen at hm; omega, fun hne => ?_⟩, ?_⟩
  ·have hl0 : 0 < len := by
    rcases Nat.eq_zero_or_pos len with h | h
    ·subst h; simp at hne
    ·exact h
   obtain ⟨b, off, spot⟩ := a
   obtain ⟨⟨_, _, c00, _⟩, _⟩ := hq 0 hl0
   have hspot : spot = none := by simpa [Addr.add] using World.cell?_spot c00
   subst hspot
   refine ⟨b, off, rfl, by have := block_lt_of_cell c00; simpa [Addr.add] using this, fun i hi => ?_⟩
   have hi' : i < len := by simpa using hi
   obtain ⟨⟨ka, kc, d0, d1, d2, d3, hI⟩, _⟩ := hq i hi'
   simp only [add_plain9, <- Nat.add_assoc] at d0 d1 d2 d3
   have e : ((List.range len).map q)[i] = q i := by simp
   rw [e]
   exact ⟨ka, kc, d0, d1, d2, d3, hI⟩
  ·rw [map_at]
   exact blk_slice fun i hi => (hq i hi).2
set_option maxRecDepth 20000 in
set_option maxHeartbeats 2000000 in
theorem blks_view {H : Type} {enc : TypeId × Value -> H} {W : World} {fuel : Nat} {cs : List Value} {x : DataW H × List MemPlace} (h : DataW.trod enc Tryz.prog W 0 (fun _ => true) true fuel 36 cs = some x) :
 ∃ (ao : Option Addr) (cap : Nat) (N : List Bk), cs = [.slice ao N.length cap] /\ Bks W ao cap N /\ (N.map szB).sum + 1 <= Rows.uptoBulk x.1 := by
 rcases Deep.open_slice Tryz.underlying36 h with ⟨h0, _⟩ | ⟨a, len, cap, m, n, D, Pl, rfl, _, hl, hm, hmm, rfl, hx⟩
 ·exact ⟨none, 0, [], h0, ⟨Nat.le_refl _, by decide, fun h => absurd rfl h⟩, by have := blk_pos x.1; simpa using this⟩
 ·have ce : Tryz.prog.cellsOf 46 = 6 := by kernel_rfl
  have c3 : Tryz.prog.cellsOf 3 = 1 := by kernel_rfl
  have c36 : Tryz.prog.cellsOf 34 = 1 := by kernel_rfl
  have c31 : Tryz.prog.cellsOf 44 = 3 := by kernel_rfl
  rw [ce] at hx
  have hml : len <= m := by rw [hmm]; simp; exact hl
  have each : ∀ i, i < len -> ∃ q : Bk, (∃ (ka : Option Addr) (kc : Nat) (la : Option Addr) (lc : Nat) (ma : Option Addr) (mc : Nat) (na : Option Addr) (nc : Nat), W.cell? (a.add (i * 6)) = some (.slice ka q.phis.length kc) /\ W.cell? (a.add (i * 6 + 1)) = some (.slice la q.body.length lc) /\ W.cell? (a.add (i * 6 + 2)) = some (.int .i64 q.kind) /\ W.cell? (a.add (i * 6 + 3)) = some (.int .i64 q.val) /\ W.cell? (a.add (i * 6 + 4)) = some (.slice ma q.ways.length mc) /\ W.cell? (a.add (i * 6 + 5)) = some (.slice na q.preds.length nc) /\ Ints W ka kc q.phis /\ Ints W la lc q.body /\ Ints W ma mc q.ways /\ Ints W na nc q.preds) /\ szB q <= Rows.uptoBulk (D i) := by
   intro i hi
   obtain ⟨cs', h1, h2⟩ := hx i (by omega)
   obtain ⟨_, hlen, hcell⟩ := World.cells?_some h1
   obtain ⟨xs, k, hk, hxy, _, hxl, hf⟩ := DataW.trod_struct Tryz.underlying46 h2
   match cs', hlen with
   | [v0, v1, v2, v3, v4, v5], _ =>
     have g0 := hf 0 _ rfl
     have g1 := hf 1 _ rfl
     have g2 := hf 2 _ rfl
     have g3 := hf 3 _ rfl
     simp [c3, c36, c31] at g0 g1 g2 g3
     match xs, hxl with
     | [y0, y1, y2, y3], _ =>
       obtain ⟨ka, kc, L0, e0, hI0, hb0⟩ := ints_view9 (show DataW.trod enc Tryz.prog W 0 _ true k 34 _ = some y0 from g0)
       obtain ⟨la, lc, L1, e1, hI1, hb1⟩ := ints_view9 (show DataW.trod enc Tryz.prog W 0 _ true k 34 _ = some y1 from g1)
       obtain ⟨na, nc, L3, e3, hI3, hb3⟩ := ints_view9 (show DataW.trod enc Tryz.prog W 0 _ true k 34 _ = some y3 from g3)
       obtain ⟨ts, k2, hk2, hty, _, htl, hft⟩ := DataW.trod_struct Tryz.underlying44 (show DataW.trod enc Tryz.prog W 0 _ true k 44 _ = some y2 from g2)
       have f0 := hft 0 _ rfl
       have f1 := hft 1 _ rfl
       have f2 := hft 2 _ rfl
       simp [c3, c36] at f0 f1 f2
       match ts, htl with
       | [z0, z1, z2], _ =>
         obtain ⟨n0, u0, _, _⟩ := DataW.trod_int Tryz.underlying3 (show DataW.trod enc Tryz.prog W 0 _ true k2 3 _ = some z0 from f0)
         obtain ⟨n1, u1, _, _⟩ := DataW.trod_int Tryz.underlying3 (show DataW.trod enc Tryz.prog W 0 _ true k2 3 _ = some z1 from f1)
         obtain ⟨ma, mc, L2, u2, hI2, hb2⟩ := ints_view9 (show DataW.trod enc Tryz.prog W 0 _ true k2 34 _ = some z2 from f2)
         simp at e0 e1 e3 u0 u1 u2
         subst e0 e1 e3 u0 u1 u2
         have hc : ∀ j (hj : j < 6), W.cell? (a.add (i * 6 + j)) = some ([.slice ka L0.length kc, .slice la L1.length lc, .int .i64 n0, .int .i64 n1, .slice ma L2.length mc, .slice na L3.length nc][j]'(by simpa using hj)) := by
          intro j hj
          have := hcell j (by omega)
          rw [Deep.add_add] at this
          rw [this]; simp
         refine ⟨⟨L0, L1, n0, n1, L2, L3⟩, ⟨ka, kc, la, lc, ma, mc, na, nc, hc 0 (by omega), hc 1 (by omega), hc 2 (by omega), hc 3 (by omega), hc 4 (by omega), hc 5 (by omega), hI0, hI1, hI2, hI3⟩, ?_⟩
         rw [show D i = _ from congrArg Prod.fst hxy]
         have e2 : y2.1 = _ := congrArg Prod.fst hty
         simp only [szB, Rows.uptoBulk, Rows.uptoBulkAll, List.map_cons, List.map_nil, e2]
         omega
  haveI : Inhabited Bk := ⟨⟨[], [], 0, 0, [], []⟩⟩
  obtain ⟨q, hq⟩ := Deep.choose_lt each
  refine ⟨some a, cap, (List.range len).map q, by simp, ⟨by simpa using hl, by unfold maxLen at hm; omega, fun hne => ?_⟩, ?_⟩
  ·have hl0 : 0 < len := by
    rcases Nat.eq_zero_or_pos len with h | h
    ·subst h; simp at hne
    ·exact h
   obtain ⟨b, off, spot⟩ := a
   obtain ⟨⟨_, _, _, _, _, _, _, _, c00, _⟩, _⟩ := hq 0 hl0
   have hspot : spot = none := by simpa [Addr.add] using World.cell?_spot c00
   subst hspot
   refine ⟨b, off, rfl, by have := block_lt_of_cell c00; simpa [Addr.add] using this, fun i hi => ?_⟩
   have hi' : i < len := by simpa using hi
   obtain ⟨⟨ka, kc, la, lc, ma, mc, na, nc, d0, d1, d2, d3, d4, d5, hI⟩, _⟩ := hq i hi'
   simp only [add_plain9, <- Nat.add_assoc] at d0 d1 d2 d3 d4 d5
   have e : ((List.range len).map q)[i] = q i := by simp
   rw [e]
   exact ⟨ka, kc, la, lc, ma, mc, na, nc, d0, d1, d2, d3, d4, d5, hI⟩
  ·rw [map_at]
   exact blk_slice fun i hi => (hq i hi).2
set_option maxRecDepth 20000 in
set_option maxHeartbeats 2000000 in
theorem funcs_view {H : Type} {enc : TypeId × Value -> H} {W : World} {fuel : Nat} {cs : List Value} {x : DataW H × List MemPlace} (h : DataW.trod enc Tryz.prog W 0 (fun _ => true) true fuel 22 cs = some x) :
 ∃ (ao : Option Addr) (cap : Nat) (N : List Fu), cs = [.slice ao N.length cap] /\ Fus W ao cap N /\ szS N + 1 <= Rows.uptoBulk x.1 := by
 rcases Deep.open_slice Tryz.underlying22 h with ⟨h0, _⟩ | ⟨a, len, cap, m, n, D, Pl, rfl, _, hl, hm, hmm, rfl, hx⟩
 ·exact ⟨none, 0, [], h0, ⟨Nat.le_refl _, by decide, fun h => absurd rfl h⟩, by have := blk_pos x.1; simpa [szS] using this⟩
 ·have ce : Tryz.prog.cellsOf 38 = 5 := by kernel_rfl
  have c3 : Tryz.prog.cellsOf 3 = 1 := by kernel_rfl
  have c9 : Tryz.prog.cellsOf 9 = 1 := by kernel_rfl
  have c36 : Tryz.prog.cellsOf 34 = 1 := by kernel_rfl
  have cv : Tryz.prog.cellsOf 35 = 1 := by kernel_rfl
  have cb : Tryz.prog.cellsOf 36 = 1 := by kernel_rfl
  rw [ce] at hx
  have hml : len <= m := by rw [hmm]; simp; exact hl
  have each : ∀ i, i < len -> ∃ q : Fu, (∃ (ka : Option Addr) (kc : Nat) (la : Option Addr) (lc : Nat) (ma : Option Addr) (mc : Nat), W.cell? (a.add (i * 5)) = some (.string q.name) /\ W.cell? (a.add (i * 5 + 1)) = some (.slice ka q.params.length kc) /\ W.cell? (a.add (i * 5 + 2)) = some (.int .i64 q.result) /\ W.cell? (a.add (i * 5 + 3)) = some (.slice la q.vals.length lc) /\ W.cell? (a.add (i * 5 + 4)) = some (.slice ma q.blks.length mc) /\ Ints W ka kc q.params /\ Vls W la lc q.vals /\ Bks W ma mc q.blks) /\ szF q <= Rows.uptoBulk (D i) := by
   intro i hi
   obtain ⟨cs', h1, h2⟩ := hx i (by omega)
   obtain ⟨_, hlen, hcell⟩ := World.cells?_some h1
   obtain ⟨xs, k, hk, hxy, _, hxl, hf⟩ := DataW.trod_struct Tryz.underlying38 h2
   match cs', hlen with
   | [v0, v1, v2, v3, v4], _ =>
     have g0 := hf 0 _ rfl
     have g1 := hf 1 _ rfl
     have g2 := hf 2 _ rfl
     have g3 := hf 3 _ rfl
     have g4 := hf 4 _ rfl
     simp [c3, c9, c36, cv, cb] at g0 g1 g2 g3 g4
     match xs, hxl with
     | [y0, y1, y2, y3, y4], _ =>
       obtain ⟨s0, e0, z0, _⟩ := DataW.trod_string Tryz.underlying9 (show DataW.trod enc Tryz.prog W 0 _ true k 9 _ = some y0 from g0)
       obtain ⟨ka, kc, L1, e1, hI1, hb1⟩ := ints_view9 (show DataW.trod enc Tryz.prog W 0 _ true k 34 _ = some y1 from g1)
       obtain ⟨n2, e2, _, _⟩ := DataW.trod_int Tryz.underlying3 (show DataW.trod enc Tryz.prog W 0 _ true k 3 _ = some y2 from g2)
       obtain ⟨la, lc, L3, e3, hI3, hb3⟩ := vals_view (show DataW.trod enc Tryz.prog W 0 _ true k 35 _ = some y3 from g3)
       obtain ⟨ma, mc, L4, e4, hI4, hb4⟩ := blks_view (show DataW.trod enc Tryz.prog W 0 _ true k 36 _ = some y4 from g4)
       simp at e0 e1 e2 e3 e4
       subst e0 e1 e2 e3 e4
       have hc : ∀ j (hj : j < 5), W.cell? (a.add (i * 5 + j)) = some ([.string s0, .slice ka L1.length kc, .int .i64 n2, .slice la L3.length lc, .slice ma L4.length mc][j]'(by simpa using hj)) := by
        intro j hj
        have := hcell j (by omega)
        rw [Deep.add_add] at this
        rw [this]; simp
       refine ⟨⟨s0, L1, n2, L3, L4⟩, ⟨ka, kc, la, lc, ma, mc, hc 0 (by omega), hc 1 (by omega), hc 2 (by omega), hc 3 (by omega), hc 4 (by omega), hI1, hI3, hI4⟩, ?_⟩
       rw [show D i = _ from congrArg Prod.fst hxy]
       have hs : s0.size + 1 <= Rows.uptoBulk y0.1 := by rw [z0]; simp [Rows.uptoBulk]
       simp only [szF, Rows.uptoBulk, Rows.uptoBulkAll, List.map_cons, List.map_nil]
       omega
  haveI : Inhabited Fu := ⟨⟨⟨#[]⟩, [], 0, [], []⟩⟩
  obtain ⟨q, hq⟩ := Deep.choose_lt each
  refine ⟨some a, cap, (List.range len).map q, by simp, ⟨by simpa using hl, by unfold maxLen at hm; omega, fun hne => ?_⟩, ?_⟩
  ·have hl0 : 0 < len := by
    rcases Nat.eq_zero_or_pos len with h | h
    ·subst h; simp at hne
    ·exact h
   obtain ⟨b, off, spot⟩ := a
   obtain ⟨⟨_, _, _, _, _, _, c00, _⟩, _⟩ := hq 0 hl0
   have hspot : spot = none := by simpa [Addr.add] using World.cell?_spot c00
   subst hspot
   refine ⟨b, off, rfl, by have := block_lt_of_cell c00; simpa [Addr.add] using this, fun i hi => ?_⟩
   have hi' : i < len := by simpa using hi
   obtain ⟨⟨ka, kc, la, lc, ma, mc, d0, d1, d2, d3, d4, hI⟩, _⟩ := hq i hi'
   simp only [add_plain9, <- Nat.add_assoc] at d0 d1 d2 d3 d4
   have e : ((List.range len).map q)[i] = q i := by simp
   rw [e]
   exact ⟨ka, kc, la, lc, ma, mc, d0, d1, d2, d3, d4, hI⟩
  ·unfold szS
   rw [map_at]
   exact blk_slice fun i hi => (hq i hi).2
set_option maxRecDepth 20000 in
theorem ssa_view {H : Type} {enc : TypeId × Value -> H} {W : World} {r : Reach} {b0 : Nat} {v : Value} {d : DataW H} {p : List MemPlace} (hv : Value.okWide Tryz.prog W r b0 24 v) (h : DataW.Trod enc Tryz.prog W 0 (fun _ => true) true 24 v d p) :
 ∃ (fa : Option Addr) (fc : Nat) (FS : List Fu) (m : Int), v = .agg #[.slice fa FS.length fc, .int .i64 m] /\ Fus W fa fc FS /\ szS FS <= Rows.uptoBulk d := by
 obtain ⟨v0, v1, y0, y1, n, rfl, rfl, rfl, h0, h1⟩ := Joins.open_agg2 Tryz.underlying24 (by kernel_rfl) (by kernel_rfl) hv h
 obtain ⟨fa, fc, FS, e0, hF, hb⟩ := funcs_view h0
 obtain ⟨m, e1, _, _⟩ := DataW.trod_int Tryz.underlying3 h1
 simp only [List.cons.injEq, and_true] at e0 e1
 subst e0 e1
 refine ⟨fa, fc, FS, m, rfl, hF, ?_⟩
 simp only [Rows.uptoBulk, Rows.uptoBulkAll]
 omega
structure NWN (S : List UInt8) (j : Nat) (s : ByteArray) (R : Bool) : Prop where
 eq : s = bs S
 out : ∀ i, i < j -> WORDS.getD i [] ≠ S
 res : nmOk S = R
theorem NWN.hit {S j s R} (h : NWN S j s R) (hj : j < 18) (he : WORDS.getD j [] = S) : false = R := by
 rw [<- h.res]
 have : WORDS.contains S = true := by
  rw [List.contains_iff_mem, <- he]
  have hl : j < WORDS.length := hj
  simp only [List.getD, List.getElem?_eq_getElem hl, Option.getD_some]
  exact List.getElem_mem hl
 simp only [nmOk, this, Bool.not_true, Bool.and_false]
theorem NWN.miss {S s R} (h : NWN S 18 s R) : WORDS.contains S = false := by
 rw [<- Bool.not_eq_true, List.contains_iff_mem]
 intro hm
 obtain ⟨i, hi, he⟩ := List.mem_iff_getElem.1 hm
 refine h.out i hi ?_
 simp only [List.getD, List.getElem?_eq_getElem hi, Option.getD_some]
 exact he
theorem isNm_iff (c : UInt8) : isNm c = (decide (cl c = 7) || decide (cl c = 6)) := by simp [isNm]; rfl
structure NmS (S : List UInt8) (j : Nat) (R : Bool) : Prop where
 ok : ∀ i (h : i < S.length), i < j -> isNm S[i] = true
 fst : ∀ h : 0 < S.length, 0 < j -> cl S[0] = 6
 wd : WORDS.contains S = false
 res : nmOk S = R
theorem NmS.hit {S j R} (h : NmS S j R) (hj : j < S.length) (hf : isNm S[j] = false \/ (j = 0 /\ ¬ cl S[j] = 6)) : false = R := by
 rw [<- h.res]
 symm
 rw [<- Bool.not_eq_true]
 intro hn
 simp only [nmOk, Bool.and_eq_true, decide_eq_true_eq] at hn
 rcases hf with hf | ⟨rfl, hf⟩
 ·have := List.all_eq_true.1 hn.1.2 S[j] (List.getElem_mem hj)
  rw [hf] at this
  cases this
 ·have := hn.1.1.2
  cases S with
  | nil => simp at hj
  | cons a S => simp at this hf; exact hf this
theorem NmS.fin {S j R} (h : NmS S j R) (hj : S.length <= j) : decide (1 <= S.length /\ S.length <= 64) = R := by
 rw [<- h.res]
 have ha : S.all isNm = true := List.all_eq_true.2 fun x hx => by
  obtain ⟨i, hi, rfl⟩ := List.mem_iff_getElem.1 hx
  exact h.ok i hi (by omega)
 have hf := h.fst
 simp only [nmOk, ha, h.wd]
 cases S with
 | nil => simp
 | cons a S =>
   have := hf (by simp) (by simp at hj; omega)
   simp at this
   simp [this]
theorem NmS.more {S j R} (h : NmS S j R) (hj : j < S.length) (hf : cl S[j] = 6 \/ (0 < j /\ cl S[j] = 7)) : NmS S (j + 1) R :=
 ⟨fun i hi hlt => by
  rcases Nat.lt_succ_iff_lt_or_eq.1 hlt with h1 | rfl
  ·exact h.ok i hi h1
  ·rw [isNm_iff]; rcases hf with hf | ⟨_, hf⟩ <;> simp [hf],
  fun h0 _ => by
   rcases Nat.eq_zero_or_pos j with rfl | hp
   ·rcases hf with hf | ⟨h1, _⟩
    ·exact hf
    ·omega
   ·exact h.fst h0 hp, h.wd, h.res⟩
structure WT (n : Nat) (L : List Int) (j : Nat) (R : Bool) : Prop where
 res : R = L.all (wi n)
 ok : ∀ i (h : i < L.length), i < j -> wi n L[i] = true
theorem WT.hit {n L j R} (h : WT n L j R) (hj : j < L.length) (hf : wi n L[j] = false) : false = R := by
 rw [h.res]
 symm
 rw [<- Bool.not_eq_true]
 intro ha
 have := List.all_eq_true.1 ha _ (List.getElem_mem hj)
 rw [hf] at this
 cases this
theorem WT.fin {n L j R} (h : WT n L j R) (hj : L.length <= j) : true = R := by
 rw [h.res]
 symm
 refine List.all_eq_true.2 fun x hx => ?_
 obtain ⟨i, hi, rfl⟩ := List.mem_iff_getElem.1 hx
 exact h.ok i hi (by omega)
theorem WT.more {n L j R} (h : WT n L j R) (hj : j < L.length) (hf : wi n L[j] = true) : WT n L (j + 1) R :=
 ⟨h.res, fun i hi hlt => by
  rcases Nat.lt_succ_iff_lt_or_eq.1 hlt with h1 | rfl
  ·exact h.ok i hi h1
  ·exact hf⟩
set_option maxRecDepth 10000 in
set_option maxHeartbeats 1000000 in
theorem rWithin_any (w : World) (ao : Option Addr) (k c n : Nat) (L : List Int) (hk : k = L.length) (h : Ints w ao c L) : Calls Tryz.prog 83 #[.slice ao k c, .int .i64 n] w fun e w' => e = .returned (.bool (L.all (wi n))) /\ w' = w := by
 have hmx : k <= 9223372036854775807 := by have := h.le; have := h.mx; omega
 obtain ⟨R, hR⟩ : ∃ R, R = L.all (wi n) := ⟨_, rfl⟩
 rw [<- hR]
 have HK : Hid (k = L.length) := hk
 have HI : Hid (Ints w ao c L) := h
 have H0 : WT n L 0 R := ⟨hR, fun i _ hi => by omega⟩
 clear hR hk h
 go_enter Tryz.func83, Tryz.ntmps83
 go_wp2_with fail
 go_loop [5] (fun v => ∃ j : Nat, j <= k /\ v = .int .i64 j /\ WT n L j R) (fun v => k - (intOf v).toNat)
 case atStart => exact ⟨0, by omega, rfl, H0⟩
 case round =>
  obtain ⟨j, hj, rfl, HJ⟩ := hrel
  by_cases hlt : j < k
  ·obtain ⟨b, o, rfl, hA⟩ := HI.out.out (by intro e; have := HK.out; rw [e] at this; simp at this; omega)
   obtain ⟨x, hx⟩ : ∃ x, x = L[j]'(by have := HK.out; omega) := ⟨_, rfl⟩
   have hcl : w.cell? ⟨b, o + j, none⟩ = some (.int .i64 x) := by rw [hx]; exact hA.cell j (by have := HK.out; omega)
   have HX : Hid (wi n x = true -> WT n L (j + 1) R) := fun hh => HJ.more (by have := HK.out; omega) (by rw [<- hx]; exact hh)
   have HF : Hid (wi n x = false -> false = R) := fun hh => HJ.hit (by have := HK.out; omega) (by rw [<- hx]; exact hh)
   clear hx hA
   by_cases h0 : x < 0
   ·have HE : Hid (false = R) := HF.out (by simp [wi]; omega)
    go_wp2_with fail
    go_ret
    exact ⟨ret_bl HE.out, rfl⟩
   ·by_cases h1 : x < n
    ·have HE : Hid (WT n L (j + 1) R) := HX.out (by simp [wi]; omega)
     go_wp2_with fail
     go_round
     case rel => exact ⟨j + 1, by omega, by go_num, HE.out⟩
     case measure => simp [intOf]; omega
    ·have HE : Hid (false = R) := HF.out (by simp [wi]; omega)
     go_wp2_with fail
     go_ret
     exact ⟨ret_bl HE.out, rfl⟩
  ·obtain rfl : j = k := by omega
   have HE : Hid (true = R) := HJ.fin (by have := HK.out; omega)
   go_wp2_with fail
   go_ret
   exact ⟨ret_bl HE.out, rfl⟩
structure V3 (w : World) (A B C : Obj) (w' : World) : Prop where
 b : Below (w.heap.size + 1 + 1 + 1) (((w.alloc A).alloc B).alloc C) w'
theorem V3.low {w A B C w'} (h : V3 w A B C w') : Below w.heap.size w w' :=
 ((((Below.refl _ _).alloc (Nat.le_refl _) _).alloc (by simp) _).alloc (by simp; omega) _).trans (h.b.mono (by omega))
theorem V3.next {w A B C w' w''} (h : V3 w A B C w') (hb : Below w'.heap.size w' w'') : V3 w A B C w'' := ⟨h.b.trans (hb.mono (by have := h.b.size; simp at this; omega))⟩
theorem V3.size {w A B C w'} (h : V3 w A B C w') : w.heap.size + 2 < w'.heap.size := by have := h.b.size; simp at this; omega
theorem V3.one {w A B C w'} (h : V3 w A B C w') : w'.heap[w.heap.size]? = some A := by
 rw [h.b.block _ (by omega), heap_alloc_old _ _ (by simp; omega), heap_alloc_old _ _ (by simp)]
 exact heap_alloc_new w A
theorem V3.two {w A B C w'} (h : V3 w A B C w') : w'.heap[w.heap.size + 1]? = some B := by
 rw [h.b.block _ (by omega), heap_alloc_old _ _ (by simp)]
 simpa using heap_alloc_new (w.alloc A) B
theorem V3.three {w A B C w'} (h : V3 w A B C w') : w'.heap[w.heap.size + 1 + 1]? = some C := by
 rw [h.b.block _ (by omega)]
 simpa using heap_alloc_new ((w.alloc A).alloc B) C
abbrev VX (w : World) (fa : Option Addr) (fn fc : Nat) (mn : Int) (s : ByteArray) (pa : Option Addr) (pn pc : Nat) (r : Int) (va : Option Addr) (vn vc : Nat) (ba : Option Addr) (bn bc : Nat) (op ty imm : Int) (ka : Option Addr) (kl kc : Nat) (w' : World) : Prop :=
 V3 w (.cells #[.slice fa fn fc, .int .i64 mn] 24) (.cells #[.string s, .slice pa pn pc, .int .i64 r, .slice va vn vc, .slice ba bn bc] 38) (.cells #[.int .i64 op, .int .i64 ty, .int .i64 imm, .slice ka kl kc] 42) w'
theorem VX.cells {w w' : World} {fa : Option Addr} {fn fc : Nat} {mn : Int} {s : ByteArray} {pa : Option Addr} {pn pc : Nat} {r : Int} {va : Option Addr} {vn vc : Nat} {ba : Option Addr} {bn bc : Nat} {op ty imm : Int} {ka : Option Addr} {kl kc : Nat} (h : VX w fa fn fc mn s pa pn pc r va vn vc ba bn bc op ty imm ka kl kc w') :
 w'.cell? ⟨w.heap.size, 0, none⟩ = some (.slice fa fn fc) /\ w'.cell? ⟨w.heap.size + 1, 3, none⟩ = some (.slice va vn vc) /\ w'.cell? ⟨w.heap.size + 1 + 1, 0, none⟩ = some (.int .i64 op) /\ w'.cell? ⟨w.heap.size + 1 + 1, 1, none⟩ = some (.int .i64 ty) /\ w'.cell? ⟨w.heap.size + 1 + 1, 2, none⟩ = some (.int .i64 imm) /\ w'.cell? ⟨w.heap.size + 1 + 1, 3, none⟩ = some (.slice ka kl kc)
  /\ w.heap.size < w'.heap.size /\ w.heap.size + 1 < w'.heap.size /\ w.heap.size + 1 + 1 < w'.heap.size :=
 ⟨cell_arr h.one rfl, cell_arr h.two rfl, cell_arr h.three rfl, cell_arr h.three rfl, cell_arr h.three rfl, cell_arr h.three rfl, by have := h.size; omega, by have := h.size; omega, by have := h.size; omega⟩
def ldIn (k : Nat) (b : Int) (row : List Int) (a : List Int) : List Int := row.foldl (fun a x => if x = b then a ++ [(k : Int)] else a) a
def ldN (b : Int) (Ls : List (List Int)) : Nat -> List Int
 | 0 => []
 | k + 1 => ldIn k b (Ls.getD k []) (ldN b Ls k)
def f5 (s : ByteArray) (pa : Option Addr) (pn pc : Nat) (r : Int) (va : Option Addr) (vn vc : Nat) (ba : Option Addr) (bn bc : Nat) : Obj := .cells #[.string s, .slice pa pn pc, .int .i64 r, .slice va vn vc, .slice ba bn bc] 38
structure OwnV (w : World) (B : Nat) (v : Value) (vs : List Value) : Prop where
 out : w.ownsRow B 34 1 v vs.length vs
theorem OwnV.nil (w : World) (B : Nat) : OwnV w B (.slice none 0 0) [] := ⟨World.ownsRow_nil _ _ _ _⟩
theorem OwnV.move {w w' : World} {B v vs} (h : OwnV w B v vs) (hk : ∀ g, v.ownBlock = some g -> w'.heap[g]? = w.heap[g]?) : OwnV w' B v vs := ⟨own_move h.out hk⟩
theorem getD_app {α : Type} {l : List α} {x d : α} {i : Nat} (h : i < l.length) : (l ++ [x]).getD i d = l.getD i d := by
 rw [List.getD, List.getD, List.getElem?_append_left h]
theorem getD_new {α : Type} {l : List α} {x d : α} : (l ++ [x]).getD l.length d = x := by simp [List.getD]
structure LT (w : World) (B : Nat) (gs cs : List Nat) (Ls : List (List Int)) : Prop where
 lg : gs.length = Ls.length
 lc : cs.length = Ls.length
 row : ∀ i, i < Ls.length -> OwnI w B (.slice (some ⟨gs.getD i 0, 0, none⟩) ((Ls.getD i []).length + 2) (cs.getD i 0)) ((Ls.getD i []).length + 2) (Ls.getD i [] ++ [-71, -72])
 nd : ∀ i j, i < Ls.length -> j < Ls.length -> gs.getD i 0 = gs.getD j 0 -> i = j
theorem LT.nil (w : World) (B : Nat) : LT w B [] [] [] := ⟨rfl, rfl, fun i hi => by simp at hi, fun i j hi => by simp at hi⟩
theorem LT.move {w w' : World} {B gs cs Ls} (h : LT w B gs cs Ls) (hk : ∀ i, i < Ls.length -> w'.heap[gs.getD i 0]? = w.heap[gs.getD i 0]?) : LT w' B gs cs Ls :=
 ⟨h.lg, h.lc, fun i hi => ⟨(h.row i hi).len, own_move (h.row i hi).out fun g hg => by simp [Value.ownBlock] at hg; subst hg; exact hk i hi⟩, h.nd⟩
theorem LT.more {w : World} {B gs cs Ls} (h : LT w B gs cs Ls) {g c : Nat} {L : List Int} (hr : OwnI w B (.slice (some ⟨g, 0, none⟩) (L.length + 2) c) (L.length + 2) (L ++ [-71, -72])) (hn : ∀ i, i < Ls.length -> gs.getD i 0 ≠ g) : LT w B (gs ++ [g]) (cs ++ [c]) (Ls ++ [L]) := by
 have e1 : (gs ++ [g]).getD Ls.length 0 = g := by rw [<- h.lg]; exact getD_new
 have e2 : (cs ++ [c]).getD Ls.length 0 = c := by rw [<- h.lc]; exact getD_new
 have l1 := h.lg
 have l2 := h.lc
 refine ⟨by simp [h.lg], by simp [h.lc], fun i hi => ?_, fun i j hi hj e => ?_⟩
 ·simp only [List.length_append, List.length_singleton] at hi
  by_cases hl : i < Ls.length
  ·rw [getD_app (by omega), getD_app (by omega), getD_app (by omega)]; exact h.row i hl
  ·obtain rfl : i = Ls.length := by omega
   rw [e1, e2, getD_new]; exact hr
 ·simp only [List.length_append, List.length_singleton] at hi hj
  by_cases hl : i < Ls.length
  ·by_cases hl2 : j < Ls.length
   ·rw [getD_app (by omega), getD_app (by omega)] at e; exact h.nd i j hl hl2 e
   ·obtain rfl : j = Ls.length := by omega
    rw [e1, getD_app (by omega)] at e
    exact absurd e (hn i hl)
  ·obtain rfl : i = Ls.length := by omega
   by_cases hl2 : j < Ls.length
   ·rw [e1, getD_app (by omega)] at e
    exact absurd e.symm (hn j hl2)
   ·omega
end Go.Proofs.YtdbkjjelaipcfaaGreatDoor
