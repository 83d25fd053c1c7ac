import Derived.Test.YtfbkopjncmkbiaaGreatDoorJbj
set_option linter.unusedVariables false
set_option linter.unusedSimpArgs false
namespace Go.Proofs.YtfbkopjncmkbiaaGreatDoor
open Go.ChangeShapes Go.WideShapes Go.ChangeAt Go.RowKit Go.Maps
theorem first_lies (w : World) : Calls Tryz.prog 20 #[] w fun e w' => ∃ L, e = .returned (.agg #[.slice (some ⟨L, 0, none⟩) 1 1, .int .i64 0]) /\ Fus w' (some ⟨L, 0, none⟩) 1 [frF] /\ Below w.heap.size w w' := by
 refine (first_any w).mono ?_
 rintro e w' ⟨rfl, rfl⟩
 exact ⟨_, rfl, fr_fus w, al_below _ w⟩
structure Hands (w0 W : World) (L g : Nat) : Prop where
 fus : Fus W (some ⟨L, 0, none⟩) 1 [frF]
 ints : Ints W (some ⟨g, 0, none⟩) 2 [7, -3]
 low : Below w0.heap.size w0 W
theorem fr_new (w0 W : World) (hTab : Tab w0) {L g : Nat} (h : Hands w0 W L g) : Calls Tryz.prog 11 #[.agg #[.slice (some ⟨L, 0, none⟩) 1 1, .int .i64 0], .slice (some ⟨g, 0, none⟩) 2 2] W fun e w' => NewM [frF] W w' e (frM 0) :=
 mNew_yes W (hTab.below h.low hTab.1) (n := 0) (FS := [frF]) rfl h.fus (by decide) fr_few fr_fewC fr_few10 fr_check frF rfl h.ints rfl (by decide) (frM 0) fr_begin
theorem fr_run {s d w} (h : Mach [frF] s d w (frM 0)) : Calls Tryz.prog 13 #[.pointer (some ⟨s.mb, 0, none⟩), .int .i64 ((100 : Nat) : Int)] w fun e w' => ∃ ao c, e = .returned (.tuple #[.agg #[.slice ao 1 c, .int .i64 1, .int .i64 0, .int .i64 0, .int .i64 5, .int .i64 0, .int .i64 1], .int .i64 0]) /\ Evs w' ao c [(1, 4)] /\ Only (foot s d) w w' := by
 refine (mRun_any fr_few10 h.stp (fuel := 100) (N := 5) (by omega) frM rfl fr_steps fr_end (MF := frM 5) rfl).mono ?_
 rintro e w' ⟨v, d', B, rfl, _, _, hf, _, hR⟩
 obtain ⟨ao, c, rfl, hE⟩ := evs_of hR
 exact ⟨ao, c, rfl, hE, hf.only⟩
set_option maxRecDepth 100000 in
set_option maxHeartbeats 4000000 in
theorem alive10_any (w : World) (hTab : Tab w) : Calls Tryz.prog 9 #[] w fun e w' => e = .returned (.bool true) /\ Below w.heap.size w w' := by
 have HFI : Hid (∀ W, Calls Tryz.prog 20 #[] W fun e w' => ∃ L, e = .returned (.agg #[.slice (some ⟨L, 0, none⟩) 1 1, .int .i64 0]) /\ Fus w' (some ⟨L, 0, none⟩) 1 [frF] /\ Below W.heap.size W w') := first_lies
 have HNW : Hid (∀ W L g, Hands w W L g -> Calls Tryz.prog 11 #[.agg #[.slice (some ⟨L, 0, none⟩) 1 1, .int .i64 0], .slice (some ⟨g, 0, none⟩) 2 2] W fun e w' => ∃ mb s d, s.mb = mb /\ e = .returned (.tuple #[.pointer (some ⟨mb, 0, none⟩), .int .i64 0]) /\ Mach [frF] s d w' (frM 0) /\ Below w.heap.size w w' /\ ∀ k, foot s d k -> w.heap.size <= k) := fun W L g h => (fr_new w W hTab h).mono fun e w' q => by
  obtain ⟨s, d, q1, q2, q3, q4, q5⟩ := q.out
  have := h.low.size
  exact ⟨s.mb, s, d, rfl, q1, q2, h.low.trans (q3.mono this), fun k hk => Nat.le_trans this (q5 k hk)⟩
 clear hTab
 go_enter Tryz.func9, Tryz.ntmps9
 go_upto_region 2 with (first
  | (go_at_call 11
     have hH : Hands w _ L wA.heap.size := ⟨hFA.below (below_new wA _) (Nat.le_refl _), ints_exact (L := [7, -3]) (heap_alloc_new _ _) (by decide), bA.trans ((below_new wA _).mono bA.size)⟩
     refine (HNW.out _ _ _ hH).mono ?_
     rintro e wN ⟨mb, s, d, hmb, rfl, hM, bN, hft⟩)
  | (go_at_call 20; refine (HFI.out _).mono ?_; rintro e wA ⟨L, rfl, hFA, bA⟩))
 have HRN : Hid (Calls Tryz.prog 13 #[.pointer (some ⟨mb, 0, none⟩), .int .i64 100] wN fun e w' => ∃ ao c, e = .returned (.tuple #[.agg #[.slice ao 1 c, .int .i64 1, .int .i64 0, .int .i64 0, .int .i64 5, .int .i64 0, .int .i64 1], .int .i64 0]) /\ Evs w' ao c [(1, 4)] /\ Below w.heap.size w w') := (hmb ▸ fr_run hM).mono fun e w' ⟨ao, c, q1, q2, q3⟩ => ⟨ao, c, q1, q2, bN.trans (q3.below bN.size hft)⟩
 have HBN : Hid _ := bN
 clear hFA bA hH hM bN hft HFI HNW hmb
 go_upto_region 4 with fail
 go_upto_region 5 with (go_at_call 13; refine Calls.mono HRN.out ?_; rintro e wR ⟨ao, c, rfl, hE, bR⟩)
 obtain ⟨W5, hW5⟩ : ∃ W, W = wR.alloc (.cells #[.slice ao 1 c, .int .i64 1, .int .i64 0, .int .i64 0, .int .i64 5, .int .i64 0, .int .i64 1] 35) := ⟨_, rfl⟩
 rw [<- hW5]
 have k5 : W5.heap[wR.heap.size]? = some (.cells #[.slice ao 1 c, .int .i64 1, .int .i64 0, .int .i64 0, .int .i64 5, .int .i64 0, .int .i64 1] 35 (0, 0)) := by rw [hW5]; exact heap_alloc_new _ _
 have b5 : Below wR.heap.size wR W5 := by rw [hW5]; exact below_new _ _
 have x0 : W5.cell? ⟨wR.heap.size, 0, none⟩ = some (.slice ao 1 c) := cell_arr k5 rfl
 have x1 : W5.cell? ⟨wR.heap.size, 1, none⟩ = some (.int .i64 1) := cell_arr k5 rfl
 have hlt := (gl k5)
 have HSE : Hid (∀ W, W = W5.alloc (.cells #[.int .i64 1, .int .i64 4] 55) -> Calls Tryz.prog 19 #[.slice ao 1 c, .slice (some ⟨W5.heap.size, 0, none⟩) 1 1] W fun e w' => e = .returned (.bool true) /\ w'.cell? ⟨wR.heap.size, 6, none⟩ = some (.int .i64 1) /\ wR.heap.size < w'.heap.size /\ Below w.heap.size w w') := by
  rintro W rfl
  have b6 := below_new W5 (.cells #[.int .i64 1, .int .i64 4] 55)
  have k6 := heap_alloc_new W5 (.cells #[.int .i64 1, .int .i64 4] 55)
  have b56 := b5.trans (b6.mono b5.size)
  refine (sameE_any _ (hE.belowR b56) (bc := 1) (ba := some ⟨W5.heap.size, 0, none⟩) ⟨by decide, by decide, fun q => (by cases q), fun _ => ⟨W5.heap.size, 0, rfl, (gl k6), fun j u hu => ?_⟩⟩ rfl).mono ?_
  ·rw [add_noneR]
   refine cell_arr k6 ?_
   have hu2 : ([.int .i64 1, .int .i64 4] : List Value)[j]? = some u := hu
   simpa using hu2
  ·rintro e w' ⟨rfl, b7⟩
   have k7 := (b7.block _ (Nat.lt_of_lt_of_le hlt b6.size)).trans ((b6.block _ hlt).trans k5)
   exact ⟨rfl, cell_arr k7 rfl, (gl k7), (bR.trans (b56.mono bR.size)).trans (b7.mono (Nat.le_trans bR.size b56.size))⟩
 clear hE bR b5 k5 hW5 HRN HBN
 go_wp2_with (go_at_call 19; refine (HSE.out _ rfl).mono ?_; rintro e wS ⟨rfl, y6, ylt, bS⟩)
 go_ret
 exact ⟨rfl, bS⟩
theorem StepsTo.at {FS : List Fu} (M M' : Ms) (s : Int) (ho : M.over = false) (hM : M.adv FS = some { M' with steps := s }) (h1 : Nat.ble M.nums.length 800000000 = true) (h2 : M.here.fst = 0) (h3 : M.wait = []) (h4 : Nat.ble (M.here.bh + 1) 1000000000 = true) (hs : 0 <= s /\ s <= 4611686018427387904) (hr : M'.rests = false) (he : M'.steps = s + 1) : StepsTo FS M true M' := by
 have z := StepsTo.one (M1 := { M' with steps := s }) ho hM (Nat.le_of_ble_eq_true h1) h2 h3 (Nat.le_of_ble_eq_true h4) hs hr
 have e : ({ ({ M' with steps := s } : Ms) with steps := ({ M' with steps := s } : Ms).steps + 1 } : Ms) = M' := by
  cases M'
  simp only at he
  simp [he]
 rw [e] at z
 exact z
def boF (a b t : Int) : Fu := ⟨⟨#[109, 97, 105, 110]⟩, [], 0, [⟨1, 1, a, []⟩, ⟨1, 1, b, []⟩, ⟨1, 2, t, []⟩, ⟨32, 1, 0, [0, 1]⟩, ⟨26, 0, 0, [3]⟩], [⟨[], [0, 1, 2], 2, 2, [1, 1], []⟩, ⟨[3], [4], 3, -1, [], [0, 0]⟩]⟩
theorem bo_check0 (a b : Int) : checkP [boF a b 0] 0 = 0 := by kernel_rfl
theorem bo_check1 (a b : Int) : checkP [boF a b 1] 0 = 0 := by kernel_rfl
theorem bo_few (a b t : Int) : ∀ f ∈ [boF a b t], FewF f := by
 intro f hf
 simp only [List.mem_cons, List.not_mem_nil, or_false] at hf
 subst hf
 exact ⟨Nat.le_of_ble_eq_true (by kernel_rfl), Nat.le_of_ble_eq_true (by kernel_rfl)⟩
theorem bo_fewC (a b t : Int) : ∀ f ∈ [boF a b t], FewC f := by
 intro f hf
 simp only [List.mem_cons, List.not_mem_nil, or_false] at hf
 subst hf
 refine ⟨by simp [boF], by simp [boF], by simp [boF], by simp [boF], by simp [boF]⟩
theorem bo_few10 (a b t : Int) : Few10 [boF a b t] := by
 constructor <;> (intro f hf; simp only [List.mem_cons, List.not_mem_nil, or_false] at hf; subst hf; simp [boF])
def boM (a b t x : Int) (way k : Nat) : Ms := match k with
 | 0 => ⟨[], ⟨0, 0, 0, 0⟩, [], [], [], [], 0, 0, 0, 0, 0, 1, false, ⟨0, fun _ => none, fun _ => 0, 0⟩⟩
 | 1 => ⟨[], ⟨0, 0, 1, 0⟩, [], [a], [], [], 0, 0, 0, 1, 0, 1, false, ⟨0, fun _ => none, fun _ => 0, 0⟩⟩
 | 2 => ⟨[], ⟨0, 0, 2, 0⟩, [], [a, b], [], [], 0, 0, 0, 2, 0, 1, false, ⟨0, fun _ => none, fun _ => 0, 0⟩⟩
 | 3 => ⟨[], ⟨0, 0, 3, 0⟩, [], [a, b, t], [], [], 0, 0, 0, 3, 0, 1, false, ⟨0, fun _ => none, fun _ => 0, 0⟩⟩
 | 4 => ⟨[], ⟨0, 1, 0, 0⟩, [], [a, b, t], [x], [], 0, 0, 0, 4, 0, 1, false, ⟨0, fun _ => none, fun _ => 0, 0⟩⟩
 | 5 => ⟨[], ⟨0, 1, 1, 0⟩, [], [a, b, t, x], [x], [], 0, 0, 0, 5, 0, 1, false, ⟨0, fun _ => none, fun _ => 0, 0⟩⟩
 | 6 => ⟨[], ⟨0, 1, 2, 0⟩, [], [a, b, t, x], [x], [(1, x)], 0, 0, 0, 6, 0, 1, false, ⟨0, fun _ => none, fun _ => 0, 0⟩⟩
 | _ => ⟨[], ⟨0, 1, 3, 0⟩, [], [a, b, t, x], [x], [(1, x)], 1, 0, 0, 7, 0, 1, false, ⟨0, fun _ => none, fun _ => 0, 0⟩⟩
theorem bo_begin (a b t x : Int) : (Ms.fresh []).begin [boF a b t] 0 [] = some (boM a b t x 0 0) := by rfl
theorem bo_steps (a b t x : Int) (h : t = 1 /\ x = a \/ t = 0 /\ x = b) : ∀ k, k < 7 -> StepsTo [boF a b t] (boM a b t x 0 k) true (boM a b t x 0 (k + 1)) := by
 intro k hk
 have : k = 0 \/ k = 1 \/ k = 2 \/ k = 3 \/ k = 4 \/ k = 5 \/ k = 6 := by omega
 rcases h with ⟨rfl, rfl⟩ | ⟨rfl, rfl⟩ <;> rcases this with rfl | rfl | rfl | rfl | rfl | rfl | rfl
 ·exact StepsTo.at _ _ 0 rfl (by kernel_rfl) (by kernel_rfl) rfl rfl (by kernel_rfl) (by decide) rfl rfl
 ·exact StepsTo.at _ _ 1 rfl (by kernel_rfl) (by kernel_rfl) rfl rfl (by kernel_rfl) (by decide) rfl rfl
 ·exact StepsTo.at _ _ 2 rfl (by kernel_rfl) (by kernel_rfl) rfl rfl (by kernel_rfl) (by decide) rfl rfl
 ·exact StepsTo.at _ _ 3 rfl (by kernel_rfl) (by kernel_rfl) rfl rfl (by kernel_rfl) (by decide) rfl rfl
 ·exact StepsTo.at _ _ 4 rfl (by kernel_rfl) (by kernel_rfl) rfl rfl (by kernel_rfl) (by decide) rfl rfl
 ·exact StepsTo.at _ _ 5 rfl (by kernel_rfl) (by kernel_rfl) rfl rfl (by kernel_rfl) (by decide) rfl rfl
 ·exact StepsTo.at _ _ 6 rfl (by kernel_rfl) (by kernel_rfl) rfl rfl (by kernel_rfl) (by decide) rfl rfl
 ·exact StepsTo.at _ _ 0 rfl (by kernel_rfl) (by kernel_rfl) rfl rfl (by kernel_rfl) (by decide) rfl rfl
 ·exact StepsTo.at _ _ 1 rfl (by kernel_rfl) (by kernel_rfl) rfl rfl (by kernel_rfl) (by decide) rfl rfl
 ·exact StepsTo.at _ _ 2 rfl (by kernel_rfl) (by kernel_rfl) rfl rfl (by kernel_rfl) (by decide) rfl rfl
 ·exact StepsTo.at _ _ 3 rfl (by kernel_rfl) (by kernel_rfl) rfl rfl (by kernel_rfl) (by decide) rfl rfl
 ·exact StepsTo.at _ _ 4 rfl (by kernel_rfl) (by kernel_rfl) rfl rfl (by kernel_rfl) (by decide) rfl rfl
 ·exact StepsTo.at _ _ 5 rfl (by kernel_rfl) (by kernel_rfl) rfl rfl (by kernel_rfl) (by decide) rfl rfl
 ·exact StepsTo.at _ _ 6 rfl (by kernel_rfl) (by kernel_rfl) rfl rfl (by kernel_rfl) (by decide) rfl rfl
theorem bo_end (a b t x : Int) : StepsTo [boF a b t] (boM a b t x 0 7) false (boM a b t x 0 7) := .over rfl
def boX (a b t : Int) (B : Nat) : List Obj := [.cells #[.int .i64 0, .int .i64 1] 3, .cells #[.int .i64 3] 3, .cells #[.int .i64 1, .int .i64 1, .int .i64 a, .slice none 0 0, .int .i64 1, .int .i64 1, .int .i64 b, .slice none 0 0, .int .i64 1, .int .i64 2, .int .i64 t, .slice none 0 0, .int .i64 32, .int .i64 1, .int .i64 0, .slice (some ⟨B + 0, 0, none⟩) 2 2, .int .i64 26, .int .i64 0, .int .i64 0, .slice (some ⟨B + 1, 0, none⟩) 1 1] 45, .cells #[.int .i64 0, .int .i64 1, .int .i64 2] 3, .cells #[.int .i64 1, .int .i64 1] 3, .cells #[.int .i64 3] 3, .cells #[.int .i64 4] 3, .cells #[.int .i64 0, .int .i64 0] 3, .cells #[.slice none 0 0, .slice (some ⟨B + 3, 0, none⟩) 3 3, .int .i64 2, .int .i64 2, .slice (some ⟨B + 4, 0, none⟩) 2 2, .slice none 0 0, .slice (some ⟨B + 5, 0, none⟩) 1 1, .slice (some ⟨B + 6, 0, none⟩) 1 1, .int .i64 3, .int .i64 (-1), .slice none 0 0, .slice (some ⟨B + 7, 0, none⟩) 2 2] 50, .cells #[.string ⟨#[109, 97, 105, 110]⟩, .slice none 0 0, .int .i64 0, .slice (some ⟨B + 2, 0, none⟩) 5 5, .slice (some ⟨B + 8, 0, none⟩) 2 2] 53, .cells #[.string ⟨#[109, 97, 105, 110]⟩, .slice none 0 0, .int .i64 0, .slice (some ⟨B + 2, 0, none⟩) 5 5, .slice (some ⟨B + 8, 0, none⟩) 2 2] 53]
theorem bo_fus (a b t : Int) (w : World) : Fus (al w (boX a b t w.heap.size)) (some ⟨w.heap.size + 10, 0, none⟩) 1 [(boF a b t)] := by
 have hx : ∀ i (h : i < (boX a b t w.heap.size).length), (al w (boX a b t w.heap.size)).heap[w.heap.size + i]? = some (boX a b t w.heap.size)[i] := fun i h => al_at _ w i h
 obtain ⟨B, hB⟩ : ∃ B, B = w.heap.size := ⟨_, rfl⟩
 obtain ⟨W, hW⟩ : ∃ W, W = al w (boX a b t w.heap.size) := ⟨_, rfl⟩
 rw [<- hW] at hx ⊢
 rw [<- hB] at hx ⊢
 clear hW hB
 have h0 := hx 0 (by simp [boX])
 have h1 := hx 1 (by simp [boX])
 have h2 := hx 2 (by simp [boX])
 have h3 := hx 3 (by simp [boX])
 have h4 := hx 4 (by simp [boX])
 have h5 := hx 5 (by simp [boX])
 have h6 := hx 6 (by simp [boX])
 have h7 := hx 7 (by simp [boX])
 have h8 := hx 8 (by simp [boX])
 have h9 := hx 9 (by simp [boX])
 have h10 := hx 10 (by simp [boX])
 have hl : ∀ j : Nat, j < 11 -> B + j < W.heap.size := fun j hj => (Array.getElem?_eq_some_iff.1 (hx j (by simpa [boX] using hj))).1
 clear hx
 have i0 : Ints W (some ⟨B + 0, 0, none⟩) 2 [0, 1] := ints_exact (L := [0, 1]) h0 (by decide)
 have i1 : Ints W (some ⟨B + 1, 0, none⟩) 1 [3] := ints_exact (L := [3]) h1 (by decide)
 have i3 : Ints W (some ⟨B + 3, 0, none⟩) 3 [0, 1, 2] := ints_exact (L := [0, 1, 2]) h3 (by decide)
 have i4 : Ints W (some ⟨B + 4, 0, none⟩) 2 [1, 1] := ints_exact (L := [1, 1]) h4 (by decide)
 have i5 : Ints W (some ⟨B + 5, 0, none⟩) 1 [3] := ints_exact (L := [3]) h5 (by decide)
 have i6 : Ints W (some ⟨B + 6, 0, none⟩) 1 [4] := ints_exact (L := [4]) h6 (by decide)
 have i7 : Ints W (some ⟨B + 7, 0, none⟩) 2 [0, 0] := ints_exact (L := [0, 0]) h7 (by decide)
 have hv0 : Vls W (some ⟨B + 2, 0, none⟩) 5 (boF a b t).vals := by
  refine ⟨Nat.le_of_ble_eq_true (by kernel_rfl), by decide, fun _ => ⟨B + 2, 0, rfl, hl 2 (by omega), fun i hi => ?_⟩⟩
  match i, hi with
  | 0, _ => exact ⟨none, 0, cell_arr (i := 0) h2 rfl, cell_arr (i := 1) h2 rfl, cell_arr (i := 2) h2 rfl, cell_arr (i := 3) h2 rfl, (ints_none W)⟩
  | 1, _ => exact ⟨none, 0, cell_arr (i := 4) h2 rfl, cell_arr (i := 5) h2 rfl, cell_arr (i := 6) h2 rfl, cell_arr (i := 7) h2 rfl, (ints_none W)⟩
  | 2, _ => exact ⟨none, 0, cell_arr (i := 8) h2 rfl, cell_arr (i := 9) h2 rfl, cell_arr (i := 10) h2 rfl, cell_arr (i := 11) h2 rfl, (ints_none W)⟩
  | 3, _ => exact ⟨some ⟨B + 0, 0, none⟩, 2, cell_arr (i := 12) h2 rfl, cell_arr (i := 13) h2 rfl, cell_arr (i := 14) h2 rfl, cell_arr (i := 15) h2 rfl, i0⟩
  | 4, _ => exact ⟨some ⟨B + 1, 0, none⟩, 1, cell_arr (i := 16) h2 rfl, cell_arr (i := 17) h2 rfl, cell_arr (i := 18) h2 rfl, cell_arr (i := 19) h2 rfl, i1⟩
 have hk0 : Bks W (some ⟨B + 8, 0, none⟩) 2 (boF a b t).blks := by
  refine ⟨Nat.le_of_ble_eq_true (by kernel_rfl), by decide, fun _ => ⟨B + 8, 0, rfl, hl 8 (by omega), fun i hi => ?_⟩⟩
  match i, hi with
  | 0, _ => exact ⟨none, 0, some ⟨B + 3, 0, none⟩, 3, some ⟨B + 4, 0, none⟩, 2, none, 0, cell_arr (i := 0) h8 rfl, cell_arr (i := 1) h8 rfl, cell_arr (i := 2) h8 rfl, cell_arr (i := 3) h8 rfl, cell_arr (i := 4) h8 rfl, cell_arr (i := 5) h8 rfl, (ints_none W), i3, i4, (ints_none W)⟩
  | 1, _ => exact ⟨some ⟨B + 5, 0, none⟩, 1, some ⟨B + 6, 0, none⟩, 1, none, 0, some ⟨B + 7, 0, none⟩, 2, cell_arr (i := 6) h8 rfl, cell_arr (i := 7) h8 rfl, cell_arr (i := 8) h8 rfl, cell_arr (i := 9) h8 rfl, cell_arr (i := 10) h8 rfl, cell_arr (i := 11) h8 rfl, i5, i6, (ints_none W), i7⟩
 refine ⟨Nat.le_of_ble_eq_true (by kernel_rfl), by decide, fun _ => ⟨B + 10, 0, rfl, hl 10 (by omega), fun i hi => ?_⟩⟩
 match i, hi with
 | 0, _ => exact ⟨none, 0, some ⟨B + 2, 0, none⟩, 5, some ⟨B + 8, 0, none⟩, 2, cell_arr (i := 0) h10 rfl, cell_arr (i := 1) h10 rfl, cell_arr (i := 2) h10 rfl, cell_arr (i := 3) h10 rfl, cell_arr (i := 4) h10 rfl, (ints_none W), hv0, hk0⟩
theorem bo_new (a b t x : Int) (ht : t = 1 /\ x = a \/ t = 0 /\ x = b) (w : World) (hTab : Tab w) : Calls Tryz.prog 11 #[.agg #[.slice (some ⟨w.heap.size + 10, 0, none⟩) 1 1, .int .i64 0], .slice none 0 0] (al w (boX a b t w.heap.size)) fun e w' => ∃ mb s d, s.mb = mb /\ e = .returned (.tuple #[.pointer (some ⟨mb, 0, none⟩), .int .i64 0]) /\ Mach [boF a b t] s d w' (boM a b t x 0 0) /\ Below w.heap.size w w' /\ ∀ k, foot s d k -> w.heap.size <= k := by
 have bl := al_below (boX a b t w.heap.size) w
 refine (mNew_yes _ (hTab.below bl hTab.1) (n := 0) (FS := [boF a b t]) rfl (bo_fus a b t w) (by show 1 <= 1000000; decide) (bo_few a b t) (bo_fewC a b t) (bo_few10 a b t) (by rcases ht with ⟨rfl, _⟩ | ⟨rfl, _⟩; exact bo_check1 a b; exact bo_check0 a b) (boF a b t) rfl (ints_none _) rfl (by decide) (boM a b t x 0 0) (bo_begin a b t x)).mono ?_
 intro e w' q
 obtain ⟨s, d, q1, q2, q3, q4, q5⟩ := q.out
 have := bl.size
 exact ⟨s.mb, s, d, rfl, q1, q2, bl.trans (q3.mono this), fun k hk => Nat.le_trans this (q5 k hk)⟩
theorem bo_run (a b t x : Int) (ht : t = 1 /\ x = a \/ t = 0 /\ x = b) {s d w} (h : Mach [boF a b t] s d w (boM a b t x 0 0)) : Calls Tryz.prog 13 #[.pointer (some ⟨s.mb, 0, none⟩), .int .i64 ((100 : Nat) : Int)] w fun e w' => ∃ ao c, e = .returned (.tuple #[.agg #[.slice ao 1 c, .int .i64 1, .int .i64 0, .int .i64 0, .int .i64 7, .int .i64 0, .int .i64 1], .int .i64 0]) /\ Evs w' ao c [(1, x)] /\ Only (foot s d) w w' := by
 refine (mRun_any (bo_few10 a b t) h.stp (fuel := 100) (N := 7) (by omega) (boM a b t x 0) rfl (bo_steps a b t x ht) (bo_end a b t x) (MF := boM a b t x 0 7) rfl).mono ?_
 rintro e w' ⟨v, d', B, rfl, _, _, hf, _, hR⟩
 obtain ⟨ao, c, rfl, hE⟩ := evs_of hR
 exact ⟨ao, c, rfl, hE, hf.only⟩
theorem evs_one {W : World} {g : Nat} {x y : Int} (h : W.heap[g]? = some (.cells #[.int .i64 x, .int .i64 y] 55 (0, 0))) : Evs W (some ⟨g, 0, none⟩) 1 [(x, y)] := by
 refine ⟨Nat.le_refl _, by decide, fun q => (by cases q), fun _ => ⟨g, 0, rfl, (gl h), fun j u hu => ?_⟩⟩
 rw [add_noneR]
 refine cell_arr h ?_
 have hu2 : ([.int .i64 x, .int .i64 y] : List Value)[j]? = some u := hu
 simpa using hu2
set_option maxRecDepth 100000 in
set_option maxHeartbeats 4000000 in
theorem both_any (w : World) (hTab : Tab w) (a b : Int) (on : Bool) : Calls Tryz.prog 7 #[.int .i64 a, .int .i64 b, .bool on] w fun e w' => e = .returned (.bool true) /\ Below w.heap.size w w' := by
 have HAL : Hid _ := alive10_any w hTab
 have HT : Hid (Tab w) := hTab
 clear hTab
 cases on with
 | true =>
   have HNW : Hid (∀ W, Below w.heap.size w W -> Calls Tryz.prog 11 #[.agg #[.slice (some ⟨W.heap.size + 10, 0, none⟩) 1 1, .int .i64 0], .slice none 0 0] (al W (boX a b 1 W.heap.size)) fun e w' => ∃ mb s d, s.mb = mb /\ e = .returned (.tuple #[.pointer (some ⟨mb, 0, none⟩), .int .i64 0]) /\ Mach [boF a b 1] s d w' (boM a b 1 a 0 0) /\ Below w.heap.size w w' /\ ∀ k, foot s d k -> w.heap.size <= k) := fun W hW => (bo_new a b 1 a (by simp) W (HT.out.below hW HT.out.1)).mono fun e w' q => by
    obtain ⟨mb, s, d, q1, q2, q3, q4, q5⟩ := q
    exact ⟨mb, s, d, q1, q2, q3, hW.trans (q4.mono hW.size), fun k hk => Nat.le_trans hW.size (q5 k hk)⟩
   clear HT
   go_enter Tryz.func7, Tryz.ntmps7
   go_upto_region 2 with (go_at_call 9; refine Calls.mono HAL.out ?_; rintro e wL ⟨rfl, bL⟩)
   go_upto_region 9 with (go_at_call 11; refine (HNW.out wL bL).mono ?_; rintro e wN ⟨mb, s, d, hmb, rfl, hM, bN, hft⟩)
   have HRN : Hid (Calls Tryz.prog 13 #[.pointer (some ⟨mb, 0, none⟩), .int .i64 100] wN fun e w' => ∃ ao c, e = .returned (.tuple #[.agg #[.slice ao 1 c, .int .i64 1, .int .i64 0, .int .i64 0, .int .i64 7, .int .i64 0, .int .i64 1], .int .i64 0]) /\ Evs w' ao c [(1, a)] /\ Below w.heap.size w w') := (hmb ▸ bo_run a b 1 a (by simp) hM).mono fun e w' ⟨ao, c, q1, q2, q3⟩ => ⟨ao, c, q1, q2, bN.trans (q3.below bN.size hft)⟩
   clear HAL HNW bL bN hM hmb hft
   go_upto_region 12 with (go_at_call 13; refine Calls.mono HRN.out ?_; rintro e wR ⟨ao, c, rfl, hE, bR⟩)
   obtain ⟨W5, hW5⟩ : ∃ W, W = wR.alloc (.cells #[.slice ao 1 c, .int .i64 1, .int .i64 0, .int .i64 0, .int .i64 7, .int .i64 0, .int .i64 1] 35) := ⟨_, rfl⟩
   rw [<- hW5]
   have k5 : W5.heap[wR.heap.size]? = some (.cells #[.slice ao 1 c, .int .i64 1, .int .i64 0, .int .i64 0, .int .i64 7, .int .i64 0, .int .i64 1] 35 (0, 0)) := by rw [hW5]; exact heap_alloc_new _ _
   have b5 : Below wR.heap.size wR W5 := by rw [hW5]; exact below_new _ _
   have x0 : W5.cell? ⟨wR.heap.size, 0, none⟩ = some (.slice ao 1 c) := cell_arr k5 rfl
   have x1 : W5.cell? ⟨wR.heap.size, 1, none⟩ = some (.int .i64 1) := cell_arr k5 rfl
   have x4 : W5.cell? ⟨wR.heap.size, 4, none⟩ = some (.int .i64 7) := cell_arr k5 rfl
   have hlt := (gl k5)
   have HSE : Hid (∀ W, W = W5.alloc (.cells #[.int .i64 1, .int .i64 a] 55) -> Calls Tryz.prog 19 #[.slice ao 1 c, .slice (some ⟨W5.heap.size, 0, none⟩) 1 1] W fun e w' => e = .returned (.bool true) /\ Below w.heap.size w w') := by
    rintro W rfl
    have b6 := below_new W5 (.cells #[.int .i64 1, .int .i64 a] 55)
    have k6 := heap_alloc_new W5 (.cells #[.int .i64 1, .int .i64 a] 55)
    have b56 := b5.trans (b6.mono b5.size)
    refine (sameE_any _ (hE.belowR b56) (bc := 1) (ba := some ⟨W5.heap.size, 0, none⟩) (evs_one k6) rfl).mono ?_
    rintro e w' ⟨rfl, b7⟩
    exact ⟨rfl, (bR.trans (b56.mono bR.size)).trans (b7.mono (Nat.le_trans bR.size b56.size))⟩
   clear hE bR b5 k5 hW5 HRN
   go_wp2_with (go_at_call 19; refine (HSE.out _ rfl).mono ?_; rintro e wS ⟨rfl, bS⟩)
   go_ret
   exact ⟨rfl, bS⟩
 | false =>
   have HNW : Hid (∀ W, Below w.heap.size w W -> Calls Tryz.prog 11 #[.agg #[.slice (some ⟨W.heap.size + 10, 0, none⟩) 1 1, .int .i64 0], .slice none 0 0] (al W (boX a b 0 W.heap.size)) fun e w' => ∃ mb s d, s.mb = mb /\ e = .returned (.tuple #[.pointer (some ⟨mb, 0, none⟩), .int .i64 0]) /\ Mach [boF a b 0] s d w' (boM a b 0 b 0 0) /\ Below w.heap.size w w' /\ ∀ k, foot s d k -> w.heap.size <= k) := fun W hW => (bo_new a b 0 b (by simp) W (HT.out.below hW HT.out.1)).mono fun e w' q => by
    obtain ⟨mb, s, d, q1, q2, q3, q4, q5⟩ := q
    exact ⟨mb, s, d, q1, q2, q3, hW.trans (q4.mono hW.size), fun k hk => Nat.le_trans hW.size (q5 k hk)⟩
   clear HT
   go_enter Tryz.func7, Tryz.ntmps7
   go_upto_region 2 with (go_at_call 9; refine Calls.mono HAL.out ?_; rintro e wL ⟨rfl, bL⟩)
   go_upto_region 9 with (go_at_call 11; refine (HNW.out wL bL).mono ?_; rintro e wN ⟨mb, s, d, hmb, rfl, hM, bN, hft⟩)
   have HRN : Hid (Calls Tryz.prog 13 #[.pointer (some ⟨mb, 0, none⟩), .int .i64 100] wN fun e w' => ∃ ao c, e = .returned (.tuple #[.agg #[.slice ao 1 c, .int .i64 1, .int .i64 0, .int .i64 0, .int .i64 7, .int .i64 0, .int .i64 1], .int .i64 0]) /\ Evs w' ao c [(1, b)] /\ Below w.heap.size w w') := (hmb ▸ bo_run a b 0 b (by simp) hM).mono fun e w' ⟨ao, c, q1, q2, q3⟩ => ⟨ao, c, q1, q2, bN.trans (q3.below bN.size hft)⟩
   clear HAL HNW bL bN hM hmb hft
   go_upto_region 12 with (go_at_call 13; refine Calls.mono HRN.out ?_; rintro e wR ⟨ao, c, rfl, hE, bR⟩)
   obtain ⟨W5, hW5⟩ : ∃ W, W = wR.alloc (.cells #[.slice ao 1 c, .int .i64 1, .int .i64 0, .int .i64 0, .int .i64 7, .int .i64 0, .int .i64 1] 35) := ⟨_, rfl⟩
   rw [<- hW5]
   have k5 : W5.heap[wR.heap.size]? = some (.cells #[.slice ao 1 c, .int .i64 1, .int .i64 0, .int .i64 0, .int .i64 7, .int .i64 0, .int .i64 1] 35 (0, 0)) := by rw [hW5]; exact heap_alloc_new _ _
   have b5 : Below wR.heap.size wR W5 := by rw [hW5]; exact below_new _ _
   have x0 : W5.cell? ⟨wR.heap.size, 0, none⟩ = some (.slice ao 1 c) := cell_arr k5 rfl
   have x1 : W5.cell? ⟨wR.heap.size, 1, none⟩ = some (.int .i64 1) := cell_arr k5 rfl
   have x4 : W5.cell? ⟨wR.heap.size, 4, none⟩ = some (.int .i64 7) := cell_arr k5 rfl
   have hlt := (gl k5)
   have HSE : Hid (∀ W, W = W5.alloc (.cells #[.int .i64 1, .int .i64 b] 55) -> Calls Tryz.prog 19 #[.slice ao 1 c, .slice (some ⟨W5.heap.size, 0, none⟩) 1 1] W fun e w' => e = .returned (.bool true) /\ Below w.heap.size w w') := by
    rintro W rfl
    have b6 := below_new W5 (.cells #[.int .i64 1, .int .i64 b] 55)
    have k6 := heap_alloc_new W5 (.cells #[.int .i64 1, .int .i64 b] 55)
    have b56 := b5.trans (b6.mono b5.size)
    refine (sameE_any _ (hE.belowR b56) (bc := 1) (ba := some ⟨W5.heap.size, 0, none⟩) (evs_one k6) rfl).mono ?_
    rintro e w' ⟨rfl, b7⟩
    exact ⟨rfl, (bR.trans (b56.mono bR.size)).trans (b7.mono (Nat.le_trans bR.size b56.size))⟩
   clear hE bR b5 k5 hW5 HRN
   go_wp2_with (go_at_call 19; refine (HSE.out _ rfl).mono ?_; rintro e wS ⟨rfl, bS⟩)
   go_ret
   exact ⟨rfl, bS⟩
end Go.Proofs.YtfbkopjncmkbiaaGreatDoor
