import Derived.Test.YtegoemeefmjnoaaGreatDoorJbi
set_option linter.unusedVariables false
set_option linter.unusedSimpArgs false
namespace Go.Proofs.YtegoemeefmjnoaaGreatDoor
open Go.ChangeShapes Go.WideShapes Go.ChangeAt Go.RowKit Go.Maps
def svE (y : Int) : List (Int × Int) := [(1, y), (1, 7), (1, -1), (1, 7)]
theorem sv_goes (y : Int) (R : List Int) : goesB sevF 13 (Ma.start (y :: R) 1) = true := by kernel_rfl
theorem sv_over (y : Int) (R : List Int) : (Ma.its sevF 13 (Ma.start (y :: R) 1)).over = true := by kernel_rfl
theorem sv_told (y : Int) (R : List Int) : (Ma.its sevF 13 (Ma.start (y :: R) 1)).wv = ⟨R, svE y, 1, 0, 0, 13, 0, 2, false, ⟨0, fun _ => none, fun _ => 0, 0⟩⟩ := by kernel_rfl
theorem stp_over {FS : List Af} {M : Ma} (h : M.over = true) : M.stp FS = some (false, M) := by
 unfold Ma.stp
 rw [if_pos h]
theorem sv_run (y : Int) (R : List Int) {s d w} (h : Mca sevF s d w (Ma.start (y :: R) 1)) : Calls Tryz.prog 13 #[.pointer (some ⟨s.ws.mb, 0, none⟩), .int .i64 ((100 : Nat) : Int)] w fun e w' => ∃ ao c, e = .returned (.tuple #[.agg #[.slice ao 4 c, .int .i64 1, .int .i64 0, .int .i64 0, .int .i64 13, .int .i64 0, .int .i64 2], .int .i64 0]) /\ Evs w' ao c (svE y) /\ Only (footA s d) w w' := by
 refine (run_to h (fuel := 100) (N := 13) (by omega) (by omega) (goes_way (sv_goes y R)) (stp_over (sv_over y R))).mono ?_
 rw [sv_told]
 rintro e w' ⟨ao, c, d', rfl, hE, _, hf⟩
 exact ⟨ao, c, rfl, hE, hf.only⟩
theorem seven_lies (w : World) : Calls Tryz.prog 16 #[] w fun e w' => ∃ L, e = .returned (.agg #[.slice (some ⟨L, 0, none⟩) 2 2, .int .i64 1]) /\ Afs w' (some ⟨L, 0, none⟩) 2 sevF /\ Below w.heap.size w w' := by
 refine (seven_any w).mono ?_
 rintro e w' ⟨rfl, rfl⟩
 exact ⟨_, rfl, sv_afs (fun i h => al_at _ w i h), al_below _ w⟩
structure HandA (w0 W : World) (L : Nat) (ao : Option Addr) (n c : Nat) (I : List Int) : Prop where
 afs : Afs W (some ⟨L, 0, none⟩) 2 sevF
 ints : Ints W ao c I
 len : n = I.length
 low : Below w0.heap.size w0 W
theorem sv_new (w0 W : World) (hTab : Tab w0) {L n c : Nat} {ao : Option Addr} {I : List Int} (h : HandA w0 W L ao n c I) (hn : n <= 1048576) : Calls Tryz.prog 11 #[.agg #[.slice (some ⟨L, 0, none⟩) 2 2, .int .i64 1], .slice ao n c] W fun e w' => ∃ mb s d, s.ws.mb = mb /\ e = .returned (.tuple #[.pointer (some ⟨mb, 0, none⟩), .int .i64 0]) /\ Mca sevF s d w' (Ma.start I 1) /\ Below W.heap.size W w' /\ ∀ k, footA s d k -> W.heap.size <= k :=
 sv_ok.new W (hTab.below h.low hTab.1) h.afs rfl h.ints h.len hn
set_option maxRecDepth 100000 in
set_option maxHeartbeats 4000000 in
theorem alive19_any (w : World) (hTab : Tab w) : Calls Tryz.prog 8 #[] w fun e w' => e = .returned (.bool true) /\ Below w.heap.size w w' := by
 have HFI : Hid (∀ W, Calls Tryz.prog 16 #[] W fun e w' => ∃ L, e = .returned (.agg #[.slice (some ⟨L, 0, none⟩) 2 2, .int .i64 1]) /\ Afs w' (some ⟨L, 0, none⟩) 2 sevF /\ Below W.heap.size W w') := seven_lies
 have HNM : Hid (∀ W x, Calls Tryz.prog 12 #[.int .i64 x] W fun e w' => e = .returned (.int .i64 x) /\ W = w') := numA_any
 have HNW : Hid (∀ W L g, HandA w W L (some ⟨g, 0, none⟩) 1 1 [3] -> Calls Tryz.prog 11 #[.agg #[.slice (some ⟨L, 0, none⟩) 2 2, .int .i64 1], .slice (some ⟨g, 0, none⟩) 1 1] W fun e w' => ∃ mb s d, s.ws.mb = mb /\ e = .returned (.tuple #[.pointer (some ⟨mb, 0, none⟩), .int .i64 0]) /\ Mca sevF s d w' (Ma.start [3] 1) /\ Below w.heap.size w w' /\ ∀ k, footA s d k -> w.heap.size <= k) := fun W L g h => (sv_new w W hTab h (by decide)).mono fun e w' q => by
  obtain ⟨mb, s, d, q0, q1, q2, q3, q5⟩ := q
  have := h.low.size
  exact ⟨mb, s, d, q0, q1, q2, h.low.trans (q3.mono this), fun k hk => Nat.le_trans this (q5 k hk)⟩
 clear hTab
 go_enter Tryz.func8, Tryz.ntmps8
 go_wp2_with (go_at_call 16; refine (HFI.out _).mono ?_; rintro e wA ⟨L, rfl, hFA, bA⟩)
 have hH : HandA w (wA.alloc (.cells #[.int .i64 3] 3)) L (some ⟨wA.heap.size, 0, none⟩) 1 1 [3] := ⟨hFA.below (below_newA wA _) (Nat.le_refl _), ints_exactA (L := [3]) (heap_alloc_new _ _) (by decide), rfl, bA.trans ((below_newA wA _).mono bA.size)⟩
 refine (HNW.out _ _ _ hH).mono ?_
 rintro e wN ⟨mb, s, d, hmb, rfl, hM, bN, hft⟩
 go_upto_region 2 with fail
 have HRN : Hid (Calls Tryz.prog 13 #[.pointer (some ⟨mb, 0, none⟩), .int .i64 100] wN fun e w' => ∃ ao c, e = .returned (.tuple #[.agg #[.slice ao 4 c, .int .i64 1, .int .i64 0, .int .i64 0, .int .i64 13, .int .i64 0, .int .i64 2], .int .i64 0]) /\ Evs w' ao c (svE 3) /\ Below w.heap.size w w') := (hmb ▸ sv_run 3 [] hM).mono fun e w' ⟨ao, c, q1, q2, q3⟩ => ⟨ao, c, q1, q2, bN.trans (q3.below bN.size hft)⟩
 have HBN : Hid _ := bN
 clear hFA bA hH hM bN hft HFI HNW hmb
 go_upto_region 4 with (go_at_call 12; refine (HNM.out _ _).mono ?_; rintro e w9 ⟨rfl, rfl⟩)
 go_upto_region 5 with (go_at_call 13; refine Calls.mono HRN.out ?_; rintro e wR ⟨ao, c, rfl, hE, bR⟩)
 have HE : Hid (Evs wR ao c (svE 3)) := hE
 have HBR : Hid (Below w.heap.size w wR) := bR
 have HSE : Hid (∀ W ba, Below wR.heap.size wR W -> Evs W ba 4 (svE 3) -> Calls Tryz.prog 18 #[.agg #[.slice ao 4 c, .int .i64 1, .int .i64 0, .int .i64 0, .int .i64 13, .int .i64 0, .int .i64 2], .agg #[.slice ba 4 4, .int .i64 1, .int .i64 0, .int .i64 0, .int .i64 13, .int .i64 0, .int .i64 2]] W fun e w' => e = .returned (.bool true) /\ Below w.heap.size w w') := fun W ba hW hB => (sameA_any W 1 0 0 13 0 2 (hE.belowR hW) hB rfl).mono fun e w' q => ⟨q.1, (bR.trans (hW.mono bR.size)).trans (q.2.mono (Nat.le_trans bR.size hW.size))⟩
 clear hE bR HRN HBN HE HBR
 obtain ⟨W5, hW5⟩ : ∃ W, W = wR.alloc (.cells #[.slice ao 4 c, .int .i64 1, .int .i64 0, .int .i64 0, .int .i64 13, .int .i64 0, .int .i64 2] 48) := ⟨_, rfl⟩
 rw [<- hW5]
 have k5 : W5.heap[wR.heap.size]? = some (.cells #[.slice ao 4 c, .int .i64 1, .int .i64 0, .int .i64 0, .int .i64 13, .int .i64 0, .int .i64 2] 48 (0, 0)) := by rw [hW5]; exact heap_alloc_new _ _
 have b5 : Below wR.heap.size wR W5 := by rw [hW5]; exact below_newA _ _
 have HQ : Hid (∀ W, W = (W5.alloc (.cells #[.int .i64 1, .int .i64 3, .int .i64 1, .int .i64 7, .int .i64 1, .int .i64 (-1), .int .i64 1, .int .i64 7] 52)).alloc (.cells #[.slice (some ⟨W5.heap.size, 0, none⟩) 4 4, .int .i64 1, .int .i64 0, .int .i64 0, .int .i64 13, .int .i64 0, .int .i64 2] 48) -> W.heap[wR.heap.size]? = some (.cells #[.slice ao 4 c, .int .i64 1, .int .i64 0, .int .i64 0, .int .i64 13, .int .i64 0, .int .i64 2] 48 (0, 0)) /\ W.heap[W5.heap.size + 1]? = some (.cells #[.slice (some ⟨W5.heap.size, 0, none⟩) 4 4, .int .i64 1, .int .i64 0, .int .i64 0, .int .i64 13, .int .i64 0, .int .i64 2] 48 (0, 0)) /\ Evs W (some ⟨W5.heap.size, 0, none⟩) 4 (svE 3) /\ Below wR.heap.size wR W) := by
  rintro W rfl
  have q1 := heap_alloc_new W5 (.cells #[.int .i64 1, .int .i64 3, .int .i64 1, .int .i64 7, .int .i64 1, .int .i64 (-1), .int .i64 1, .int .i64 7] 52)
  have q2 := heap_alloc_new (W5.alloc (.cells #[.int .i64 1, .int .i64 3, .int .i64 1, .int .i64 7, .int .i64 1, .int .i64 (-1), .int .i64 1, .int .i64 7] 52)) (.cells #[.slice (some ⟨W5.heap.size, 0, none⟩) 4 4, .int .i64 1, .int .i64 0, .int .i64 0, .int .i64 13, .int .i64 0, .int .i64 2] 48)
  have b6 := below_newA W5 (.cells #[.int .i64 1, .int .i64 3, .int .i64 1, .int .i64 7, .int .i64 1, .int .i64 (-1), .int .i64 1, .int .i64 7] 52)
  have b7 := below_newA (W5.alloc (.cells #[.int .i64 1, .int .i64 3, .int .i64 1, .int .i64 7, .int .i64 1, .int .i64 (-1), .int .i64 1, .int .i64 7] 52)) (.cells #[.slice (some ⟨W5.heap.size, 0, none⟩) 4 4, .int .i64 1, .int .i64 0, .int .i64 0, .int .i64 13, .int .i64 0, .int .i64 2] 48)
  have b67 := b6.trans (b7.mono b6.size)
  refine ⟨(b67.block _ (gl k5)).trans k5, ?_, ?_, b5.trans (b67.mono b5.size)⟩
  ·rw [show (W5.alloc (.cells #[.int .i64 1, .int .i64 3, .int .i64 1, .int .i64 7, .int .i64 1, .int .i64 (-1), .int .i64 1, .int .i64 7] 52)).heap.size = W5.heap.size + 1 by simp] at q2
   exact q2
  ·exact (evs_exact (E := svE 3) q1 rfl (by decide)).belowR b7
 clear k5 b5 hW5
 go_upto_region 6 with fail
 obtain ⟨W7, hW7⟩ : ∃ W, W = (W5.alloc (.cells #[.int .i64 1, .int .i64 3, .int .i64 1, .int .i64 7, .int .i64 1, .int .i64 (-1), .int .i64 1, .int .i64 7] 52)).alloc (.cells #[.slice (some ⟨W5.heap.size, 0, none⟩) 4 4, .int .i64 1, .int .i64 0, .int .i64 0, .int .i64 13, .int .i64 0, .int .i64 2] 48) := ⟨_, rfl⟩
 obtain ⟨k1, k2, hEv, b7⟩ := HQ.out W7 hW7
 rw [<- hW7]
 clear hW7 HQ
 have HSF : Hid (Calls Tryz.prog 18 #[.agg #[.slice ao 4 c, .int .i64 1, .int .i64 0, .int .i64 0, .int .i64 13, .int .i64 0, .int .i64 2], .agg #[.slice (some ⟨W5.heap.size, 0, none⟩) 4 4, .int .i64 1, .int .i64 0, .int .i64 0, .int .i64 13, .int .i64 0, .int .i64 2]] W7 fun e w' => e = .returned (.bool true) /\ Below w.heap.size w w') := HSE.out W7 _ b7 hEv
 obtain ⟨p1, hp1⟩ : ∃ p1, p1 = W5.heap.size + 1 := ⟨_, rfl⟩
 obtain ⟨p0, hp0⟩ : ∃ p0, p0 = wR.heap.size := ⟨_, rfl⟩
 rw [<- hp1, <- hp0]
 rw [<- hp1] at k2
 rw [<- hp0] at k1
 have x0 : W7.cell? ⟨p0, 0, none⟩ = some (.slice ao 4 c) := cell_arr k1 rfl
 have y0 : W7.cell? ⟨p1, 0, none⟩ = some (.slice (some ⟨W5.heap.size, 0, none⟩) 4 4) := cell_arr k2 rfl
 have x1 : W7.cell? ⟨p0, 1, none⟩ = some (.int .i64 1) := cell_arr k1 rfl
 have y1 : W7.cell? ⟨p1, 1, none⟩ = some (.int .i64 1) := cell_arr k2 rfl
 have x2 : W7.cell? ⟨p0, 2, none⟩ = some (.int .i64 0) := cell_arr k1 rfl
 have y2 : W7.cell? ⟨p1, 2, none⟩ = some (.int .i64 0) := cell_arr k2 rfl
 have x3 : W7.cell? ⟨p0, 3, none⟩ = some (.int .i64 0) := cell_arr k1 rfl
 have y3 : W7.cell? ⟨p1, 3, none⟩ = some (.int .i64 0) := cell_arr k2 rfl
 have x4 : W7.cell? ⟨p0, 4, none⟩ = some (.int .i64 13) := cell_arr k1 rfl
 have y4 : W7.cell? ⟨p1, 4, none⟩ = some (.int .i64 13) := cell_arr k2 rfl
 have x5 : W7.cell? ⟨p0, 5, none⟩ = some (.int .i64 0) := cell_arr k1 rfl
 have y5 : W7.cell? ⟨p1, 5, none⟩ = some (.int .i64 0) := cell_arr k2 rfl
 have x6 : W7.cell? ⟨p0, 6, none⟩ = some (.int .i64 2) := cell_arr k1 rfl
 have y6 : W7.cell? ⟨p1, 6, none⟩ = some (.int .i64 2) := cell_arr k2 rfl
 have l0 := (gl k1)
 have l1 := (gl k2)
 clear hp0 hp1 k1 k2 hEv b7 HSE
 go_wp2_with (first
  | (go_at_call 12; refine (HNM.out _ _).mono ?_; rintro e w9 ⟨rfl, rfl⟩)
  | (go_at_call 18; refine Calls.mono HSF.out ?_; rintro e wS ⟨rfl, bS⟩))
 go_ret
 exact ⟨rfl, bS⟩
def deX (B : Nat) : List Obj := [.cells #[.int .i64 1, .int .i64 0] 24, .cells #[.int .i64 1, .int .i64 0] 24, .cells #[.int .i64 2, .int .i64 0] 24, .cells #[.int .i64 1, .int .i64 0] 24, .cells #[.int .i64 1, .int .i64 0] 24, .cells #[.int .i64 31, .int .i64 0, .int .i64 2, .int .i64 0, .slice (some ⟨B + 4, 0, none⟩) 1 1, .slice none 0 0] 29, .cells #[.int .i64 1, .int .i64 0] 24, .cells #[.int .i64 1, .int .i64 2] 3, .cells #[.int .i64 1, .int .i64 1] 24, .cells #[.int .i64 1, .int .i64 0] 24, .cells #[.int .i64 1, .int .i64 0] 24, .cells #[.int .i64 1, .int .i64 1] 24, .cells #[.int .i64 1, .int .i64 0, .int .i64 1, .int .i64 1] 24, .cells #[.int .i64 1, .int .i64 0] 24, .cells #[.int .i64 1, .int .i64 0] 24, .cells #[.int .i64 1, .int .i64 0] 24, .cells #[.int .i64 1, .int .i64 0] 24, .cells #[.int .i64 1, .int .i64 0] 24, .cells #[.int .i64 2, .int .i64 0] 24, .cells #[.int .i64 1, .int .i64 0, .int .i64 2, .int .i64 0] 24, .cells #[.int .i64 1, .int .i64 1, .int .i64 1, .int .i64 1, .slice none 0 0, .slice none 0 0, .int .i64 3, .int .i64 0, .int .i64 1, .int .i64 0, .slice (some ⟨B + 12, 0, none⟩) 2 2, .slice none 0 0, .int .i64 25, .int .i64 0, .int .i64 1, .int .i64 0, .slice (some ⟨B + 15, 0, none⟩) 1 1, .slice none 0 0, .int .i64 2, .int .i64 0, .int .i64 1, .int .i64 0, .slice (some ⟨B + 19, 0, none⟩) 2 2, .slice none 0 0] 29, .cells #[.int .i64 1, .int .i64 0] 24, .cells #[.int .i64 1, .int .i64 0] 24, .cells #[.slice (some ⟨B + 5, 0, none⟩) 1 1, .int .i64 2, .int .i64 1, .int .i64 0, .slice (some ⟨B + 7, 0, none⟩) 2 2, .slice (some ⟨B + 20, 0, none⟩) 4 4, .int .i64 3, .int .i64 1, .int .i64 0, .slice none 0 0, .slice none 0 0, .int .i64 3, .int .i64 1, .int .i64 0, .slice none 0 0] 34, .cells #[.string ⟨#[100, 111, 119, 110]⟩, .slice (some ⟨B + 1, 0, none⟩) 1 1, .int .i64 1, .int .i64 1, .slice (some ⟨B + 23, 0, none⟩) 3 3] 37, .cells #[.int .i64 1, .int .i64 3] 24, .cells #[.int .i64 1, .int .i64 4] 24, .cells #[.int .i64 1, .int .i64 3] 24, .cells #[.int .i64 1, .int .i64 3] 24, .cells #[.int .i64 1, .int .i64 4] 24, .cells #[.int .i64 1, .int .i64 4] 24, .cells #[.int .i64 24, .int .i64 0, .int .i64 1, .int .i64 3, .slice none 0 0, .slice none 0 0, .int .i64 25, .int .i64 0, .int .i64 1, .int .i64 4, .slice (some ⟨B + 28, 0, none⟩) 1 1, .slice none 0 0, .int .i64 26, .int .i64 0, .int .i64 0, .int .i64 0, .slice (some ⟨B + 30, 0, none⟩) 1 1, .slice none 0 0] 29, .cells #[.slice (some ⟨B + 31, 0, none⟩) 3 3, .int .i64 3, .int .i64 0, .int .i64 0, .slice none 0 0] 34, .cells #[.string ⟨#[109, 97, 105, 110]⟩, .slice none 0 0, .int .i64 0, .int .i64 0, .slice (some ⟨B + 32, 0, none⟩) 1 1] 37, .cells #[.string ⟨#[100, 111, 119, 110]⟩, .slice (some ⟨B + 1, 0, none⟩) 1 1, .int .i64 1, .int .i64 1, .slice (some ⟨B + 23, 0, none⟩) 3 3, .string ⟨#[109, 97, 105, 110]⟩, .slice none 0 0, .int .i64 0, .int .i64 0, .slice (some ⟨B + 32, 0, none⟩) 1 1] 37]
def deF : List Af := [⟨⟨#[100, 111, 119, 110]⟩, [(1, 0)], 1, 1, [⟨[⟨31, 0, (2, 0), [(1, 0)], []⟩], 2, (1, 0), [1, 2]⟩, ⟨[⟨1, 1, (1, 1), [], []⟩, ⟨3, 0, (1, 0), [(1, 0), (1, 1)], []⟩, ⟨25, 0, (1, 0), [(1, 0)], []⟩, ⟨2, 0, (1, 0), [(1, 0), (2, 0)], []⟩], 3, (1, 0), []⟩, ⟨[], 3, (1, 0), []⟩]⟩, ⟨⟨#[109, 97, 105, 110]⟩, [], 0, 0, [⟨[⟨24, 0, (1, 3), [], []⟩, ⟨25, 0, (1, 4), [(1, 3)], []⟩, ⟨26, 0, (0, 0), [(1, 4)], []⟩], 3, (0, 0), []⟩]⟩]
theorem de_ok : OkA deF 1 := .of (by decide +kernel)
set_option maxRecDepth 100000 in
theorem de_afs {W : World} {B : Nat} (hx : ∀ i (h : i < (deX B).length), W.heap[B + i]? = some (deX B)[i]) : Afs W (some ⟨B + 34, 0, none⟩) 2 deF := by
 have h1 := hx 1 (by simp [deX])
 have h4 := hx 4 (by simp [deX])
 have h5 := hx 5 (by simp [deX])
 have h7 := hx 7 (by simp [deX])
 have h12 := hx 12 (by simp [deX])
 have h15 := hx 15 (by simp [deX])
 have h19 := hx 19 (by simp [deX])
 have h20 := hx 20 (by simp [deX])
 have h23 := hx 23 (by simp [deX])
 have h28 := hx 28 (by simp [deX])
 have h30 := hx 30 (by simp [deX])
 have h31 := hx 31 (by simp [deX])
 have h32 := hx 32 (by simp [deX])
 have h34 := hx 34 (by simp [deX])
 clear hx
 have hi0_0 : Lst EnI 6 W (some ⟨B + 5, 0, none⟩) 1 [⟨31, 0, (2, 0), [(1, 0)], []⟩] := by
  refine lst_exact (α := Ai) (En := EnI) (N := [⟨31, 0, (2, 0), [(1, 0)], []⟩]) (xs := [[.int .i64 31, .int .i64 0, .int .i64 2, .int .i64 0, .slice (some ⟨B + 4, 0, none⟩) 1 1, .slice none 0 0]]) h5 rfl rfl rfl (Nat.le_of_ble_eq_true (by kernel_rfl)) rfl (fun i hi => ?_)
  match i, hi with
  | 0, _ => exact ⟨some ⟨B + 4, 0, none⟩, 1, none, 0, rfl, (locs_exact (L := [(1, 0)]) h4 rfl (by decide)), (ints_noneA W)⟩
 have hi0_1 : Lst EnI 6 W (some ⟨B + 20, 0, none⟩) 4 [⟨1, 1, (1, 1), [], []⟩, ⟨3, 0, (1, 0), [(1, 0), (1, 1)], []⟩, ⟨25, 0, (1, 0), [(1, 0)], []⟩, ⟨2, 0, (1, 0), [(1, 0), (2, 0)], []⟩] := by
  refine lst_exact (α := Ai) (En := EnI) (N := [⟨1, 1, (1, 1), [], []⟩, ⟨3, 0, (1, 0), [(1, 0), (1, 1)], []⟩, ⟨25, 0, (1, 0), [(1, 0)], []⟩, ⟨2, 0, (1, 0), [(1, 0), (2, 0)], []⟩]) (xs := [[.int .i64 1, .int .i64 1, .int .i64 1, .int .i64 1, .slice none 0 0, .slice none 0 0], [.int .i64 3, .int .i64 0, .int .i64 1, .int .i64 0, .slice (some ⟨B + 12, 0, none⟩) 2 2, .slice none 0 0], [.int .i64 25, .int .i64 0, .int .i64 1, .int .i64 0, .slice (some ⟨B + 15, 0, none⟩) 1 1, .slice none 0 0], [.int .i64 2, .int .i64 0, .int .i64 1, .int .i64 0, .slice (some ⟨B + 19, 0, none⟩) 2 2, .slice none 0 0]]) h20 rfl rfl rfl (Nat.le_of_ble_eq_true (by kernel_rfl)) rfl (fun i hi => ?_)
  match i, hi with
  | 0, _ => exact ⟨none, 0, none, 0, rfl, (locs_none W), (ints_noneA W)⟩
  | 1, _ => exact ⟨some ⟨B + 12, 0, none⟩, 2, none, 0, rfl, (locs_exact (L := [(1, 0), (1, 1)]) h12 rfl (by decide)), (ints_noneA W)⟩
  | 2, _ => exact ⟨some ⟨B + 15, 0, none⟩, 1, none, 0, rfl, (locs_exact (L := [(1, 0)]) h15 rfl (by decide)), (ints_noneA W)⟩
  | 3, _ => exact ⟨some ⟨B + 19, 0, none⟩, 2, none, 0, rfl, (locs_exact (L := [(1, 0), (2, 0)]) h19 rfl (by decide)), (ints_noneA W)⟩
 have hb0 : Lst EnB 5 W (some ⟨B + 23, 0, none⟩) 3 [⟨[⟨31, 0, (2, 0), [(1, 0)], []⟩], 2, (1, 0), [1, 2]⟩, ⟨[⟨1, 1, (1, 1), [], []⟩, ⟨3, 0, (1, 0), [(1, 0), (1, 1)], []⟩, ⟨25, 0, (1, 0), [(1, 0)], []⟩, ⟨2, 0, (1, 0), [(1, 0), (2, 0)], []⟩], 3, (1, 0), []⟩, ⟨[], 3, (1, 0), []⟩] := by
  refine lst_exact (α := Ab) (En := EnB) (N := [⟨[⟨31, 0, (2, 0), [(1, 0)], []⟩], 2, (1, 0), [1, 2]⟩, ⟨[⟨1, 1, (1, 1), [], []⟩, ⟨3, 0, (1, 0), [(1, 0), (1, 1)], []⟩, ⟨25, 0, (1, 0), [(1, 0)], []⟩, ⟨2, 0, (1, 0), [(1, 0), (2, 0)], []⟩], 3, (1, 0), []⟩, ⟨[], 3, (1, 0), []⟩]) (xs := [[.slice (some ⟨B + 5, 0, none⟩) 1 1, .int .i64 2, .int .i64 1, .int .i64 0, .slice (some ⟨B + 7, 0, none⟩) 2 2], [.slice (some ⟨B + 20, 0, none⟩) 4 4, .int .i64 3, .int .i64 1, .int .i64 0, .slice none 0 0], [.slice none 0 0, .int .i64 3, .int .i64 1, .int .i64 0, .slice none 0 0]]) h23 rfl rfl rfl (Nat.le_of_ble_eq_true (by kernel_rfl)) rfl (fun i hi => ?_)
  match i, hi with
  | 0, _ => exact ⟨some ⟨B + 5, 0, none⟩, 1, some ⟨B + 7, 0, none⟩, 2, rfl, hi0_0, (ints_exactA (L := [1, 2]) h7 (by decide))⟩
  | 1, _ => exact ⟨some ⟨B + 20, 0, none⟩, 4, none, 0, rfl, hi0_1, (ints_noneA W)⟩
  | 2, _ => exact ⟨none, 0, none, 0, rfl, (Lst.nil W (by decide)), (ints_noneA W)⟩
 have hi1_0 : Lst EnI 6 W (some ⟨B + 31, 0, none⟩) 3 [⟨24, 0, (1, 3), [], []⟩, ⟨25, 0, (1, 4), [(1, 3)], []⟩, ⟨26, 0, (0, 0), [(1, 4)], []⟩] := by
  refine lst_exact (α := Ai) (En := EnI) (N := [⟨24, 0, (1, 3), [], []⟩, ⟨25, 0, (1, 4), [(1, 3)], []⟩, ⟨26, 0, (0, 0), [(1, 4)], []⟩]) (xs := [[.int .i64 24, .int .i64 0, .int .i64 1, .int .i64 3, .slice none 0 0, .slice none 0 0], [.int .i64 25, .int .i64 0, .int .i64 1, .int .i64 4, .slice (some ⟨B + 28, 0, none⟩) 1 1, .slice none 0 0], [.int .i64 26, .int .i64 0, .int .i64 0, .int .i64 0, .slice (some ⟨B + 30, 0, none⟩) 1 1, .slice none 0 0]]) h31 rfl rfl rfl (Nat.le_of_ble_eq_true (by kernel_rfl)) rfl (fun i hi => ?_)
  match i, hi with
  | 0, _ => exact ⟨none, 0, none, 0, rfl, (locs_none W), (ints_noneA W)⟩
  | 1, _ => exact ⟨some ⟨B + 28, 0, none⟩, 1, none, 0, rfl, (locs_exact (L := [(1, 3)]) h28 rfl (by decide)), (ints_noneA W)⟩
  | 2, _ => exact ⟨some ⟨B + 30, 0, none⟩, 1, none, 0, rfl, (locs_exact (L := [(1, 4)]) h30 rfl (by decide)), (ints_noneA W)⟩
 have hb1 : Lst EnB 5 W (some ⟨B + 32, 0, none⟩) 1 [⟨[⟨24, 0, (1, 3), [], []⟩, ⟨25, 0, (1, 4), [(1, 3)], []⟩, ⟨26, 0, (0, 0), [(1, 4)], []⟩], 3, (0, 0), []⟩] := by
  refine lst_exact (α := Ab) (En := EnB) (N := [⟨[⟨24, 0, (1, 3), [], []⟩, ⟨25, 0, (1, 4), [(1, 3)], []⟩, ⟨26, 0, (0, 0), [(1, 4)], []⟩], 3, (0, 0), []⟩]) (xs := [[.slice (some ⟨B + 31, 0, none⟩) 3 3, .int .i64 3, .int .i64 0, .int .i64 0, .slice none 0 0]]) h32 rfl rfl rfl (Nat.le_of_ble_eq_true (by kernel_rfl)) rfl (fun i hi => ?_)
  match i, hi with
  | 0, _ => exact ⟨some ⟨B + 31, 0, none⟩, 3, none, 0, rfl, hi1_0, (ints_noneA W)⟩
 refine lst_exact (α := Af) (En := EnF) (N := deF) (xs := [[.string ⟨#[100, 111, 119, 110]⟩, .slice (some ⟨B + 1, 0, none⟩) 1 1, .int .i64 1, .int .i64 1, .slice (some ⟨B + 23, 0, none⟩) 3 3], [.string ⟨#[109, 97, 105, 110]⟩, .slice none 0 0, .int .i64 0, .int .i64 0, .slice (some ⟨B + 32, 0, none⟩) 1 1]]) h34 rfl rfl rfl (Nat.le_of_ble_eq_true (by kernel_rfl)) rfl (fun i hi => ?_)
 match i, hi with
 | 0, _ => exact ⟨some ⟨B + 1, 0, none⟩, 1, some ⟨B + 23, 0, none⟩, 3, rfl, (locs_exact (L := [(1, 0)]) h1 rfl (by decide)), hb0⟩
 | 1, _ => exact ⟨none, 0, some ⟨B + 32, 0, none⟩, 1, rfl, (locs_none W), hb1⟩
theorem stp_go {FS : List Af} {M M1 : Ma} (ho : M.over = false) (hl : M.wait.length <= 900000) (hs : 0 <= M.wv.steps /\ M.wv.steps <= 1000000000) (h : M.adv FS = some M1) (hr : M1.wv.rests = false) : M.stp FS = some (true, { M1 with wv := { M1.wv with steps := M.wv.steps + 1 } }) := by
 unfold Ma.stp
 rw [ho, if_neg (by decide), if_pos ⟨by omega, hs.1, by omega⟩, h]
 show (if M1.wv.rests = true then _ else _) = _
 rw [hr]
 rfl
def hpz : Hpw := ⟨0, fun _ => none, fun _ => 0, 0⟩
def dd (F : Fa) (W : List Fa) (s dp : Int) : Ma := ⟨F, W, ⟨[], [], 0, 0, 0, s, 0, dp, false, hpz⟩⟩
def sl0 (x : Int) : Int -> Option Int := upd (fun _ => none) 0 (some x)
def fr (bk bh : Nat) (a b : Int) (sl : Int -> Option Int) (c : Nat) : Fa := ⟨0, bk, bh, [a, b, -1, -1, -1, -1, -1, -1], sl, c⟩
theorem dd_go {F F' : Fa} {W W' : List Fa} {s dp dp' : Int} (hl : W.length <= 900000) (hs : 0 <= s /\ s <= 1000000000) (h : (dd F W s dp).adv deF = some (dd F' W' s dp')) : (dd F W s dp).stp deF = some (true, dd F' W' (s + 1) dp') := stp_go rfl hl hs h rfl
theorem de_0 (W : List Fa) (x s dp : Int) (hx : fitsB x = true) : (dd (fr 0 0 x (-1) (fun _ => none) 0) W s dp).adv deF = some (dd (fr 0 1 x (-1) (sl0 x) 1) W s dp) := by
 have e0 : fitsB 0 = true := by decide
 have h : (dd (fr 0 0 x (-1) (fun _ => none) 0) W s dp).adv deF = (if (fitsB 0 && (fitsB x && decide (0 < 1000000000))) = true then some (⟨0, 0, 1, [x, -1, -1, -1, -1, -1, -1, -1], upd (fun _ => none) 0 (some x), 0 + 1⟩ : Fa) else none).map fun F => ({ (dd (fr 0 0 x (-1) (fun _ => none) 0) W s dp).on with here := F } : Ma) := by kernel_rfl
 rw [h, hx, e0]
 rfl
theorem de_1 (W : List Fa) (x : Int) (sl : Int -> Option Int) (c : Nat) (s dp : Int) : (dd (fr 0 1 x (-1) sl c) W s dp).adv deF = if x ≠ 0 then some (dd (fr 1 0 x (-1) sl c) W s dp) else some (dd (fr 2 0 x (-1) sl c) W s dp) := by kernel_rfl
theorem de_2 (W : List Fa) (x : Int) (sl : Int -> Option Int) (c : Nat) (s dp : Int) : (dd (fr 1 0 x (-1) sl c) W s dp).adv deF = some (dd (fr 1 1 x 1 sl c) W s dp) := by kernel_rfl
theorem de_3 (W : List Fa) (x : Int) (sl : Int -> Option Int) (c : Nat) (s dp : Int) : (dd (fr 1 1 x 1 sl c) W s dp).adv deF = some (dd (fr 1 2 (doIW 3 x 1) 1 sl c) W s dp) := by kernel_rfl
theorem de_4 (W : List Fa) (x : Int) (sl : Int -> Option Int) (c : Nat) (s dp : Int) : (dd (fr 1 2 x 1 sl c) W s dp).adv deF = some (dd (fr 0 0 x (-1) (fun _ => none) 0) (W ++ [fr 1 3 x 1 sl c]) s (max dp (((W ++ [fr 1 3 x 1 sl c]).length : Int) + 1))) := by kernel_rfl
theorem de_5 (W : List Fa) (x y : Int) (c : Nat) (s dp : Int) : (dd (fr 1 3 x (-1) (sl0 y) c) W s dp).adv deF = some (dd (fr 1 4 (doIW 2 x y) (-1) (sl0 y) c) W s dp) := by kernel_rfl
theorem de_6 (W : List Fa) (x y : Int) (sl : Int -> Option Int) (c : Nat) (s dp : Int) : (dd (fr 1 4 x y sl c) W s dp).adv deF = (dd (fr 1 4 x y sl c) W s dp).back deF x := by kernel_rfl
theorem de_7 (W : List Fa) (x y : Int) (sl : Int -> Option Int) (c : Nat) (s dp : Int) : (dd (fr 2 0 x y sl c) W s dp).adv deF = (dd (fr 2 0 x y sl c) W s dp).back deF x := by kernel_rfl
theorem de_back {W : List Fa} {F a : Fa} {k : Nat} {ar : List (Int × Int)} (hx : insOf deF a = some ⟨25, 0, (1, (k : Int)), ar, []⟩) (hk : k < 8) (s dp v : Int) : (dd F (W ++ [a]) s dp).back deF v = some (dd { a with rg := (List.replicate 8 (-1)).set k v } W s dp) := by
 unfold Ma.back
 have e : (dd F (W ++ [a]) s dp).wait.getLast? = some a := by show (W ++ [a]).getLast? = _; simp
 have e2 : (W ++ [a]).dropLast = W := by simp
 rw [e]
 simp only [hx]
 show (match (({ a with rg := List.replicate 8 (-1) } : Fa).set (1, (k : Int)) v) with | none => none | some F2 => some ({ dd F (W ++ [a]) s dp with here := F2, wait := (W ++ [a]).dropLast } : Ma)) = _
 unfold Fa.set
 rw [if_pos rfl, if_pos (by simp; omega), e2]
 simp [dd]
def tri : Nat -> Nat
 | 0 => 0
 | n + 1 => tri n + (n + 1)
theorem tri_two : ∀ n, tri n * 2 = n * (n + 1)
 | 0 => rfl
 | n + 1 => by
   have := tri_two n
   unfold tri
   rw [Nat.add_mul, this, Nat.mul_comm (n + 1) (n + 1 + 1), Nat.mul_comm (n + 1) 2, <- Nat.add_mul]
theorem tri_le : ∀ (n m : Nat), n <= m -> tri n <= n * m
 | 0, _, _ => by unfold tri; omega
 | n + 1, m, h => by
   have := tri_le n m (by omega)
   unfold tri
   rw [Nat.add_mul]
   omega
theorem doIW_sub1 {y : Int} (h : 0 <= y /\ y <= 1000000) : doIW 3 y 1 = y - 1 := by
 show wrap64 (y - 1) = y - 1
 unfold wrap64
 omega
theorem doIW_add {x y : Int} (h : 0 <= y /\ y <= 1000000) (g : 0 <= x /\ x <= 1000000000000) : doIW 2 x y = x + y := by
 show wrap64 (x + y) = x + y
 unfold wrap64
 omega
theorem fits_small {y : Int} (h : 0 <= y /\ y <= 1000000) : fitsB y = true := by
 unfold fitsB
 simp
 omega
theorem de_call : ∀ (x : Nat) (W : List Fa) (a : Fa) (k : Nat) (ar : List (Int × Int)) (s : Int), insOf deF a = some ⟨25, 0, (1, (k : Int)), ar, []⟩ -> k < 8 -> x <= 20000 -> W.length + x <= 50000 -> 0 <= s /\ s + 7 * (x : Int) <= 900000 ->
 WayA deF (3 + 7 * x) (dd (fr 0 0 (x : Int) (-1) (fun _ => none) 0) (W ++ [a]) s ((W.length : Int) + 2)) (dd { a with rg := (List.replicate 8 (-1)).set k ((tri x : Nat) : Int) } W (s + (3 + 7 * (x : Int))) ((W.length : Int) + 2 + (x : Int))) := by
 intro x
 induction x with
 | zero =>
   intro W a k ar s hx hk _ hW hs
   have hl : (W ++ [a]).length <= 900000 := by simp; omega
   have h0 := dd_go hl (by omega) (de_0 (W ++ [a]) ((0 : Nat) : Int) s ((W.length : Int) + 2) (by decide))
   have h1 := dd_go (s := s + 1) hl (by omega) ((de_1 (W ++ [a]) ((0 : Nat) : Int) (sl0 ((0 : Nat) : Int)) 1 (s + 1) ((W.length : Int) + 2)).trans (if_neg (by simp)))
   have h2 := dd_go (s := s + 1 + 1) hl (by omega) ((de_7 (W ++ [a]) ((0 : Nat) : Int) (-1) (sl0 ((0 : Nat) : Int)) 1 (s + 1 + 1) ((W.length : Int) + 2)).trans (de_back hx hk _ _ _))
   have z := ((WayA.one h0).more h1).more h2
   have e : s + 1 + 1 + 1 = s + (3 + 7 * ((0 : Nat) : Int)) := by omega
   rw [e] at z
   have e2 : (W.length : Int) + 2 + ((0 : Nat) : Int) = (W.length : Int) + 2 := by omega
   rw [e2]
   exact z
 | succ x ih =>
   intro W a k ar s hx hk hx2 hW hs
   obtain ⟨y, hy⟩ : ∃ y, y = ((x + 1 : Nat) : Int) := ⟨_, rfl⟩
   have hl : (W ++ [a]).length <= 900000 := by simp; omega
   have h0 := dd_go hl (by omega) (de_0 (W ++ [a]) y s ((W.length : Int) + 2) (fits_small (by omega)))
   have h1 := dd_go (s := s + 1) hl (by omega) ((de_1 (W ++ [a]) y (sl0 y) 1 (s + 1) ((W.length : Int) + 2)).trans (if_pos (by omega)))
   have h2 := dd_go (s := s + 1 + 1) hl (by omega) (de_2 (W ++ [a]) y (sl0 y) 1 (s + 1 + 1) ((W.length : Int) + 2))
   have h3 := dd_go (s := s + 1 + 1 + 1) hl (by omega) (de_3 (W ++ [a]) y (sl0 y) 1 (s + 1 + 1 + 1) ((W.length : Int) + 2))
   have ed : doIW 3 y 1 = (x : Int) := by rw [doIW_sub1 (by omega)]; omega
   rw [ed] at h3
   clear ed
   have h4 := dd_go (s := s + 1 + 1 + 1 + 1) hl (by omega) (de_4 (W ++ [a]) (x : Int) (sl0 y) 1 (s + 1 + 1 + 1 + 1) ((W.length : Int) + 2))
   have e4 : max ((W.length : Int) + 2) (((W ++ [a] ++ [fr 1 3 (x : Int) 1 (sl0 y) 1]).length : Int) + 1) = ((W ++ [a]).length : Int) + 2 := by
    have q1 : (W ++ [a]).length = W.length + 1 := by simp
    have q2 : (W ++ [a] ++ [fr 1 3 (x : Int) 1 (sl0 y) 1]).length = W.length + 1 + 1 := by simp
    omega
   rw [e4] at h4
   have g := ih (W ++ [a]) (fr 1 3 (x : Int) 1 (sl0 y) 1) 0 [(1, 0)] (s + 1 + 1 + 1 + 1 + 1) rfl (by omega) (by omega) (by simp; omega) (by omega)
   obtain ⟨t, ht⟩ : ∃ t, t = s + 1 + 1 + 1 + 1 + 1 + (3 + 7 * (x : Int)) := ⟨_, rfl⟩
   rw [<- ht] at g
   obtain ⟨dp, hdp⟩ : ∃ dp, dp = ((W ++ [a]).length : Int) + 2 + (x : Int) := ⟨_, rfl⟩
   rw [<- hdp] at g
   have h5 := dd_go (s := t) hl (by omega) (de_5 (W ++ [a]) ((tri x : Nat) : Int) y 1 t dp)
   have hT := tri_le x 20000 (by omega)
   have ei : doIW 2 ((tri x : Nat) : Int) y = ((tri (x + 1) : Nat) : Int) := by
    rw [doIW_add (by omega) (by omega)]
    show _ = ((tri x + (x + 1) : Nat) : Int)
    omega
   rw [ei] at h5
   clear ei hT
   have h6 := dd_go (s := t + 1) hl (by omega) ((de_6 (W ++ [a]) ((tri (x + 1) : Nat) : Int) (-1) (sl0 y) 1 (t + 1) dp).trans (de_back hx hk _ _ _))
   have z := ((((((WayA.one h0).more h1).more h2).more h3).more h4).trans g).trans ((WayA.one h5).more h6)
   have q1 : 3 + 7 * (x + 1) = 1 + 1 + 1 + 1 + 1 + (3 + 7 * x) + (1 + 1) := by omega
   have q2 : s + (3 + 7 * ((x + 1 : Nat) : Int)) = t + 1 + 1 := by omega
   have q3 : (W.length : Int) + 2 + ((x + 1 : Nat) : Int) = dp := by
    have : (W ++ [a]).length = W.length + 1 := by simp
    omega
   rw [q1, q2, q3, <- hy]
   exact z
def deA (bh : Nat) (u v : Int) : Fa := ⟨1, 0, bh, [-1, -1, -1, u, v, -1, -1, -1], fun _ => none, 0⟩
def deM (bh : Nat) (v : Int) (E : List (Int × Int)) (fin s dp : Int) : Ma := ⟨deA bh (-1) v, [], ⟨[], E, fin, 0, 0, s, 0, dp, false, hpz⟩⟩
theorem de_m0 (m : Int) : (Ma.start [m] 1).stp deF = some (true, dd (deA 1 m (-1)) [] 1 1) := by kernel_rfl
theorem de_m1 (m : Int) : (dd (deA 1 m (-1)) [] 1 1).stp deF = some (true, dd (fr 0 0 m (-1) (fun _ => none) 0) [deA 2 m (-1)] 2 2) := by kernel_rfl
theorem de_m2 (v s dp : Int) (hs : 0 <= s /\ s <= 1000000) : (deM 2 v [] 0 s dp).stp deF = some (true, deM 3 v [(1, v)] 0 (s + 1) dp) := stp_go (M1 := deM 3 v [(1, v)] 0 s dp) rfl (Nat.zero_le _) ⟨hs.1, by show s <= _; omega⟩ (by kernel_rfl) rfl
theorem de_m3 (v s dp : Int) (hs : 0 <= s /\ s <= 1000000) : (deM 3 v [(1, v)] 0 s dp).stp deF = some (true, deM 3 v [(1, v)] 1 (s + 1) dp) := stp_go (M1 := deM 3 v [(1, v)] 1 s dp) rfl (Nat.zero_le _) ⟨hs.1, by show s <= _; omega⟩ (by kernel_rfl) rfl
theorem de_all (n : Nat) (hn : n <= 20000) : WayA deF (7 * n + 7) (Ma.start [(n : Int)] 1) (deM 3 ((tri n : Nat) : Int) [(1, ((tri n : Nat) : Int))] 1 (7 * (n : Int) + 7) ((n : Int) + 2)) := by
 have c := de_call n [] (deA 2 (n : Int) (-1)) 4 [(1, 3)] 2 rfl (by decide) hn (by simp; omega) (by omega)
 have z := (((WayA.one (de_m0 (n : Int))).more (de_m1 (n : Int))).trans c).trans ((WayA.one (de_m2 ((tri n : Nat) : Int) (2 + (3 + 7 * (n : Int))) _ (by omega))).more (de_m3 ((tri n : Nat) : Int) (2 + (3 + 7 * (n : Int)) + 1) _ (by omega)))
 have q1 : 7 * n + 7 = 1 + 1 + (3 + 7 * n) + (1 + 1) := by omega
 have q2 : 7 * (n : Int) + 7 = 2 + (3 + 7 * (n : Int)) + 1 + 1 := by omega
 have q3 : (n : Int) + 2 = ((([] : List Fa).length : Nat) : Int) + 2 + (n : Int) := by simp; omega
 rw [q1, q2, q3]
 exact z
theorem de_over (v s dp : Int) (E : List (Int × Int)) : (deM 3 v E 1 s dp).stp deF = some (false, deM 3 v E 1 s dp) := stp_over rfl
theorem de_run (n : Nat) (hn : n <= 20000) {s d w} (h : Mca deF s d w (Ma.start [(n : Int)] 1)) : Calls Tryz.prog 13 #[.pointer (some ⟨s.ws.mb, 0, none⟩), .int .i64 ((200000 : Nat) : Int)] w fun e w' => ∃ ao c, e = .returned (.tuple #[.agg #[.slice ao 1 c, .int .i64 1, .int .i64 0, .int .i64 0, .int .i64 (7 * (n : Int) + 7), .int .i64 0, .int .i64 ((n : Int) + 2)], .int .i64 0]) /\ Evs w' ao c [(1, ((tri n : Nat) : Int))] /\ Only (footA s d) w w' := by
 refine (run_to h (fuel := 200000) (N := 7 * n + 7) (by omega) (by omega) (de_all n hn) (de_over _ _ _ _)).mono ?_
 rintro e w' ⟨ao, c, d', rfl, hE, _, hf⟩
 exact ⟨ao, c, rfl, hE, hf.only⟩
theorem de_new (m : Int) (W : World) (hTab : Tab W) : Calls Tryz.prog 11 #[.agg #[.slice (some ⟨W.heap.size + 34, 0, none⟩) 2 2, .int .i64 1], .slice (some ⟨W.heap.size + 35, 0, none⟩) 1 1] ((al W (deX W.heap.size)).alloc (.cells #[.int .i64 m] 3)) fun e w' => ∃ mb s d, s.ws.mb = mb /\ e = .returned (.tuple #[.pointer (some ⟨mb, 0, none⟩), .int .i64 0]) /\ Mca deF s d w' (Ma.start [m] 1) /\ Below W.heap.size W w' /\ ∀ k, footA s d k -> W.heap.size <= k := by
 have b1 := al_below (deX W.heap.size) W
 have b2 := below_newA (al W (deX W.heap.size)) (.cells #[.int .i64 m] 3)
 have b12 := b1.trans (b2.mono b1.size)
 have hI : Ints ((al W (deX W.heap.size)).alloc (.cells #[.int .i64 m] 3)) (some ⟨W.heap.size + 35, 0, none⟩) 1 [m] := by
  have h := heap_alloc_new (al W (deX W.heap.size)) (.cells #[.int .i64 m] 3)
  rw [al_size] at h
  exact ints_exactA (L := [m]) h (by simp)
 refine (de_ok.new _ (hTab.below b12 hTab.1) ((de_afs (fun i h => al_at _ W i h)).below b2 (Nat.le_refl _)) rfl hI rfl (by simp)).mono ?_
 rintro e w' ⟨mb, s, d, q0, q1, q2, q3, q5⟩
 have := b12.size
 exact ⟨mb, s, d, q0, q1, q2, b12.trans (q3.mono this), fun k hk => Nat.le_trans this (q5 k hk)⟩
set_option maxRecDepth 100000 in
set_option maxHeartbeats 4000000 in
theorem alirDeep_any (w : World) (hTab : Tab w) (m : Int) : Calls Tryz.prog 3 #[.int .i64 m] w fun e w' => e = .returned (.bool true) /\ Below w.heap.size w w' := by
 have HAL : Hid _ := alive19_any w hTab
 have HT : Hid (Tab w) := hTab
 clear hTab
 by_cases hm : m < 0 \/ 20000 < m
 ·by_cases h0 : m < 0
  ·have q0 : decide (m < 0) = true := decide_eq_true h0
   clear hm
   go_enter Tryz.func3, Tryz.ntmps3
   go_upto_region 2 with (go_at_call 8; refine Calls.mono HAL.out ?_; rintro e wL ⟨rfl, bL⟩)
   go_wp2_with fail
   go_ret
   exact ⟨rfl, bL⟩
  ·have q0 : decide (m < 0) = false := decide_eq_false h0
   have q1 : decide (20000 < m) = true := decide_eq_true (by omega)
   clear hm
   go_enter Tryz.func3, Tryz.ntmps3
   go_upto_region 2 with (go_at_call 8; refine Calls.mono HAL.out ?_; rintro e wL ⟨rfl, bL⟩)
   go_wp2_with fail
   go_ret
   exact ⟨rfl, bL⟩
 obtain ⟨n, rfl⟩ : ∃ n : Nat, m = (n : Int) := ⟨m.toNat, by omega⟩
 have hn : n <= 20000 := by omega
 clear hm
 have HR : Hid (∀ W n, Calls Tryz.prog 9 #[.int .i64 n] W fun e w' => e = .returned (.agg #[.int .i64 1, .int .i64 n]) /\ w' = W.alloc (.cells #[.int .i64 1, .int .i64 n] 24)) := regA_any
 have HS : Hid (∀ W n, Calls Tryz.prog 10 #[.int .i64 n] W fun e w' => e = .returned (.agg #[.int .i64 2, .int .i64 n]) /\ w' = W.alloc (.cells #[.int .i64 2, .int .i64 n] 24)) := slotA_any
 have HNM : Hid (∀ W x, Calls Tryz.prog 12 #[.int .i64 x] W fun e w' => e = .returned (.int .i64 x) /\ W = w') := numA_any
 have HNW : Hid (∀ W, Below w.heap.size w W -> Calls Tryz.prog 11 #[.agg #[.slice (some ⟨W.heap.size + 34, 0, none⟩) 2 2, .int .i64 1], .slice (some ⟨W.heap.size + 35, 0, none⟩) 1 1] ((al W (deX W.heap.size)).alloc (.cells #[.int .i64 (n : Int)] 3)) fun e w' => ∃ mb s d, s.ws.mb = mb /\ e = .returned (.tuple #[.pointer (some ⟨mb, 0, none⟩), .int .i64 0]) /\ Mca deF s d w' (Ma.start [(n : Int)] 1) /\ Below w.heap.size w w' /\ ∀ k, footA s d k -> w.heap.size <= k) := fun W hW => (de_new (n : Int) W (HT.out.below hW HT.out.1)).mono fun e w' q => by
  obtain ⟨mb, s, d, q1, q2, q3, q4, q5⟩ := q
  exact ⟨mb, s, d, q1, q2, q3, hW.trans (q4.mono hW.size), fun k hk => Nat.le_trans hW.size (q5 k hk)⟩
 clear HT
 have q0 : decide ((n : Int) < 0) = false := by simp
 have q1 : decide ((20000 : Int) < (n : Int)) = false := by simp; omega
 go_enter Tryz.func3, Tryz.ntmps3
 go_upto_region 2 with (go_at_call 8; refine Calls.mono HAL.out ?_; rintro e wL ⟨rfl, bL⟩)
 go_upto_region 7 with (first
  | (go_at_call 9; refine (HR.out _ _).mono ?_; rintro e w' ⟨rfl, rfl⟩)
  | (go_at_call 10; refine (HS.out _ _).mono ?_; rintro e w' ⟨rfl, rfl⟩)
  | (go_at_call 11; refine (HNW.out wL bL).mono ?_; rintro e wN ⟨mb, s, d, hmb, rfl, hM, bN, hft⟩))
 have HRN : Hid (Calls Tryz.prog 13 #[.pointer (some ⟨mb, 0, none⟩), .int .i64 200000] wN fun e w' => ∃ ao c, e = .returned (.tuple #[.agg #[.slice ao 1 c, .int .i64 1, .int .i64 0, .int .i64 0, .int .i64 (7 * (n : Int) + 7), .int .i64 0, .int .i64 ((n : Int) + 2)], .int .i64 0]) /\ Evs w' ao c [(1, ((tri n : Nat) : Int))] /\ Below w.heap.size w w') := (hmb ▸ de_run n hn hM).mono fun e w' ⟨ao, c, q1, q2, q3⟩ => ⟨ao, c, q1, q2, bN.trans (q3.below bN.size hft)⟩
 clear HAL HNW bL bN hM hmb hft q0 q1 HR HS
 go_upto_region 10 with (first
  | (go_at_call 12; refine (HNM.out _ _).mono ?_; rintro e w9 ⟨rfl, rfl⟩)
  | (go_at_call 13; refine Calls.mono HRN.out ?_; rintro e wR ⟨ao, c, rfl, hE, bR⟩))
 obtain ⟨W5, hW5⟩ : ∃ W, W = wR.alloc (.cells #[.slice ao 1 c, .int .i64 1, .int .i64 0, .int .i64 0, .int .i64 (7 * (n : Int) + 7), .int .i64 0, .int .i64 ((n : Int) + 2)] 48) := ⟨_, rfl⟩
 rw [<- hW5]
 have k5 : W5.heap[wR.heap.size]? = some (.cells #[.slice ao 1 c, .int .i64 1, .int .i64 0, .int .i64 0, .int .i64 (7 * (n : Int) + 7), .int .i64 0, .int .i64 ((n : Int) + 2)] 48 (0, 0)) := by rw [hW5]; exact heap_alloc_new _ _
 have b5 : Below wR.heap.size wR W5 := by rw [hW5]; exact below_newA _ _
 have HB : Hid (Below w.heap.size w W5) := bR.trans (b5.mono bR.size)
 have x0 : W5.cell? ⟨wR.heap.size, 0, none⟩ = some (.slice ao 1 c) := cell_arr k5 rfl
 have x1 : W5.cell? ⟨wR.heap.size, 1, none⟩ = some (.int .i64 1) := cell_arr k5 rfl
 have x4 : W5.cell? ⟨wR.heap.size, 4, none⟩ = some (.int .i64 (7 * (n : Int) + 7)) := cell_arr k5 rfl
 have x6 : W5.cell? ⟨wR.heap.size, 6, none⟩ = some (.int .i64 ((n : Int) + 2)) := cell_arr k5 rfl
 obtain ⟨eb, eo, rfl, hel, e0, e1⟩ := (hE.belowR b5).at (k := 0) (by simp)
 have y1 : W5.cell? ⟨eb, eo + 0 * 2 + 1, none⟩ = some (.int .i64 ((tri n : Nat) : Int)) := e1
 rw [Nat.zero_mul, Nat.add_zero] at y1
 have hlt := (gl k5)
 clear hE bR b5 k5 hW5 HRN e0 e1
 obtain ⟨T, hT⟩ : ∃ T : Int, T = ((tri n : Nat) : Int) := ⟨_, rfl⟩
 rw [<- hT] at y1
 have t2 := tri_two n
 have t3 := tri_le n 20000 hn
 have m1 : IntKind.i64.wrap (7 * (n : Int)) = 7 * (n : Int) := (by rw [IntKind.wrap_i64]; omega)
 have m2 : IntKind.i64.wrap (7 * (n : Int) + 7) = 7 * (n : Int) + 7 := (by rw [IntKind.wrap_i64]; omega)
 have m3 : IntKind.i64.wrap ((n : Int) + 2) = (n : Int) + 2 := (by rw [IntKind.wrap_i64]; omega)
 have m4 : IntKind.i64.wrap ((n : Int) + 1) = (n : Int) + 1 := (by rw [IntKind.wrap_i64]; omega)
 have e5 : (n : Int) * ((n : Int) + 1) = T * 2 := by rw [hT]; exact_mod_cast t2.symm
 have m5 : IntKind.i64.wrap ((n : Int) * ((n : Int) + 1)) = T * 2 := by rw [e5, IntKind.wrap_i64]; omega
 have m6 : wrap64 T = T := by unfold wrap64; omega
 have q7 : (T == wrap64 T) = true := by rw [m6]; simp
 have q4 : ((7 * (n : Int) + 7) == (7 * (n : Int) + 7)) = true := by simp
 have q5 : (((n : Int) + 2) == ((n : Int) + 2)) = true := by simp
 have q6 : (T == T) = true := by simp
 clear hT t2 t3 e5 hn
 go_wp2_with (go_at_call 12; refine (HNM.out _ _).mono ?_; rintro e w9 ⟨rfl, rfl⟩)
 go_ret
 exact ⟨rfl, HB.out⟩
end Go.Proofs.YtegoemeefmjnoaaGreatDoor
