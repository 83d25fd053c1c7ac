import Derived.Test.YtegoemeefmjnoaaGreatDoorAtG
set_option linter.unusedVariables false
set_option linter.unusedSimpArgs false
namespace Go.Proofs.YtegoemeefmjnoaaGreatDoor
open Go.ChangeShapes Go.WideShapes Go.ChangeAt Go.RowKit Go.Maps

set_option maxRecDepth 100000 in
set_option maxHeartbeats 4000000 in
theorem input_bad (w : World) (hTab : Tab w) (n : Nat) (hn : n ≤ 2) : Calls Tryz.prog 5 #[.int .i64 (n : Int), .bool false] w fun e w' => e = .returned (.bool true) ∧ Below w.heap.size w w' := by
  have HAL : Hid _ := alive19_any w hTab
  have HT : Hid (Tab w) := hTab
  have HFI : Hid (∀ W, Calls Tryz.prog 16 #[] W fun e w' => ∃ L, e = .returned (.agg #[.slice (some ⟨L, 0, none⟩) 2 2, .int .i64 1]) ∧ Afs w' (some ⟨L, 0, none⟩) 2 sevF ∧ Below W.heap.size W w') := seven_lies
  have HNM : Hid (∀ W x, Calls Tryz.prog 12 #[.int .i64 x] W fun e w' => e = .returned (.int .i64 x) ∧ W = w') := numA_any
  obtain ⟨N, hN⟩ : ∃ N, N = 1048575 + n := ⟨_, rfl⟩
  have hNw : IntKind.i64.wrap (1048575 + (n : Int)) = (N : Int) := by rw [IntKind.wrap_i64]; omega
  have hmk := run_intsZ N (by omega)
  obtain ⟨cs, hcs⟩ : ∃ cs, cs = ((List.replicate N (0 : Int)).map (Value.int .i64)).toArray := ⟨_, rfl⟩
  rw [← hcs] at hmk
  have q0 : decide ((n : Int) < 0) = false := by simp
  have q1 : decide ((2 : Int) < (n : Int)) = false := by simp; omega
  have hNp : (0 : Int) < (N : Int) := by omega
  have hNq : 0 < N := by omega
  have HN : Hid (N = 1048575 + n) := hN
  have HC : Hid (cs = ((List.replicate N (0 : Int)).map (Value.int .i64)).toArray) := hcs
  clear hTab hN hcs
  go_enter Tryz.func5, Tryz.ntmps5
  go_upto_region 2 with (go_at_call 8; refine Calls.mono HAL.out ?_; rintro e wL ⟨rfl, bL⟩)
  have HBL : Hid (Below w.heap.size w wL) := bL
  clear bL HAL
  obtain ⟨W0, hW0⟩ : ∃ W0, W0 = wL.alloc (.cells cs 3) := ⟨_, rfl⟩
  obtain ⟨gb, hgb⟩ : ∃ g, g = wL.heap.size := ⟨_, rfl⟩
  have hK0 : Num W0 gb (List.replicate N 0) := by rw [hW0]; unfold Num; rw [hgb, heap_alloc_new, HC.out]
  have HB0 : Hid (Below wL.heap.size wL W0) := by rw [hW0]; exact below_newA wL _
  have hlg := (Array.getElem?_eq_some_iff.1 hK0).1
  have HK0 : Hid (Num W0 gb (List.replicate N 0)) := hK0
  have hc0 : W0.cell? ⟨gb, 0, none⟩ = some (.int .i64 0) := by
    have := hK0.cell (i := 0) (by simp; omega)
    rw [this]
    simp
  have hf0 : W0.frozen? ⟨gb, 0, none⟩ = false := fz_of hK0
  clear hK0
  go_upto_region 5 with fail
  rw [← hW0, ← hgb]
  have HG : Hid (gb = wL.heap.size) := hgb
  clear hW0 hgb hmk
  go_upto_region 6 with fail
  obtain ⟨W1, hW1⟩ : ∃ W1, W1 = W0.setCell ⟨gb, 0, none⟩ (.int .i64 3) := ⟨_, rfl⟩
  have hK1 : Num W1 gb (3 :: List.replicate (N - 1) 0) := by
    have := HK0.out.set (i := 0) (by simp; omega) 3
    rw [← hW1] at this
    rw [show N = (N - 1) + 1 by omega, List.replicate_succ, List.set_cons_zero] at this
    exact this
  have HB1 : Hid (Below w.heap.size w W1) := by
    have b2 : Below wL.heap.size W0 W1 := by rw [hW1]; exact (Only.of_set W0 ⟨gb, 0, none⟩ _).below HB0.out.size (fun k hk => by have : k = gb := hk; have := HG.out; omega)
    exact HBL.out.trans ((HB0.out.trans b2).mono HBL.out.size)
  have HK1 : Hid (Num W1 gb (3 :: List.replicate (N - 1) 0)) := hK1
  rw [← hW1]
  clear hW1 hK1 hc0 hf0 hlg HK0 HB0
  go_upto_region 7 with (go_at_call 16; refine (HFI.out _).mono ?_; rintro e wS ⟨L, rfl, hFA, bS⟩)
  obtain ⟨W2, hW2⟩ : ∃ W2, W2 = wS.alloc (.cells #[.slice (some ⟨L, 0, none⟩) 2 2, .int .i64 1] 44) := ⟨_, rfl⟩
  obtain ⟨ab, hab⟩ : ∃ g, g = wS.heap.size := ⟨_, rfl⟩
  have b2 : Below wS.heap.size wS W2 := by rw [hW2]; exact below_newA wS _
  have HA2 : Hid (Afs W2 (some ⟨L, 0, none⟩) 2 sevF) := hFA.below b2 (Nat.le_refl _)
  have hx : W2.heap[ab]? = some (.cells #[.slice (some ⟨L, 0, none⟩) 2 2, .int .i64 1] 44 (0, 0)) := by rw [hW2, hab]; exact heap_alloc_new wS _
  have HX : Hid (W2.heap[ab]? = some (.cells #[.slice (some ⟨L, 0, none⟩) 2 2, .int .i64 1] 44 (0, 0))) := hx
  have c0 : W2.cell? ⟨ab, 0, none⟩ = some (.slice (some ⟨L, 0, none⟩) 2 2) := cell_arr hx rfl
  have c1 : W2.cell? ⟨ab, 1, none⟩ = some (.int .i64 1) := cell_arr hx rfl
  have la := (Array.getElem?_eq_some_iff.1 hx).1
  have fz2 : W2.frozen? ⟨ab, 1, none⟩ = false := fz_of hx
  have HK2 : Hid (Num W2 gb (3 :: List.replicate (N - 1) 0)) := (HK1.out.below bS).below b2
  have HB2 : Hid (Below w.heap.size w W2) := HB1.out.trans ((bS.trans (b2.mono bS.size)).mono HB1.out.size)
  have HAB : Hid (w.heap.size ≤ ab ∧ wS.heap.size ≤ W2.heap.size) := ⟨by have := HB1.out.size; have := bS.size; omega, b2.size⟩
  have HFS : Hid (Afs wS (some ⟨L, 0, none⟩) 2 sevF) := hFA
  have HBS : Hid (Below wS.heap.size wS W2) := b2
  have HSE : Hid (ab = wS.heap.size) := hab
  rw [← hW2, ← hab]
  clear hW2 hab hx b2 hFA bS HFI
  go_upto_region 9 with fail
  obtain ⟨W3, hW3⟩ : ∃ W3, W3 = W2.setCell ⟨ab, 1, none⟩ (.int .i64 0) := ⟨_, rfl⟩
  have hx3 : W3.heap[ab]? = some (.cells #[.slice (some ⟨L, 0, none⟩) 2 2, .int .i64 0] 44 (0, 0)) := by rw [hW3]; exact heap_set_at HX.out
  have d0 : W3.cell? ⟨ab, 0, none⟩ = some (.slice (some ⟨L, 0, none⟩) 2 2) := cell_arr hx3 rfl
  have d1 : W3.cell? ⟨ab, 1, none⟩ = some (.int .i64 0) := cell_arr hx3 rfl
  have lb := (Array.getElem?_eq_some_iff.1 hx3).1
  have o3 : Only (fun k => k = ab) W2 W3 := by rw [hW3]; exact Only.of_set W2 ⟨ab, 1, none⟩ _
  have HB3 : Hid (Below w.heap.size w W3) := HB2.out.trans (o3.below HB2.out.size (fun k hk => by rw [show k = ab from hk]; exact HAB.out.1))
  have HA3 : Hid (Afs W3 (some ⟨L, 0, none⟩) 2 sevF) := HFS.out.below (HBS.out.trans (o3.below HBS.out.size (fun k hk => by rw [show k = ab from hk, HSE.out]; exact Nat.le_refl _))) (Nat.le_refl _)
  have HNW : Hid (Calls Tryz.prog 11 #[.agg #[.slice (some ⟨L, 0, none⟩) 2 2, .int .i64 0], .slice (some ⟨gb, 0, none⟩) N N] W3 fun e w' => e = .returned (.tuple #[.pointer none, .int .i64 190]) ∧ Below w.heap.size w w') := (mNewA_bad W3 0 (fun W hW => (check_any W (HT.out.below (HB3.out.trans (hW.mono HB3.out.size)) HT.out.1) (HA3.out.below hW (Nat.le_refl _)) rfl (by decide) 0 (fun f hf => (sv_ok.few f hf).n)).mono fun e w' q => q)).mono fun e w' q => ⟨q.1, HB3.out.trans (q.2.mono HB3.out.size)⟩
  rw [← hW3]
  clear hW3 hx3 o3 HB3 HA3 c0 c1 la HA2 HK2 HB2 HAB HX
  go_wp2_with (first
    | (go_at_call 12; refine (HNM.out _ _).mono ?_; rintro e w9 ⟨rfl, rfl⟩)
    | (go_at_call 11; refine Calls.mono HNW.out ?_; rintro e wN ⟨rfl, bN⟩))
  go_ret
  exact ⟨rfl, bN⟩
set_option maxRecDepth 100000 in
set_option maxHeartbeats 4000000 in
theorem input_long (w : World) (hTab : Tab w) (n : Nat) (hn : n ≤ 2 ∧ 2 ≤ n) : Calls Tryz.prog 5 #[.int .i64 (n : Int), .bool true] w fun e w' => e = .returned (.bool true) ∧ Below w.heap.size w w' := by
  have HAL : Hid _ := alive19_any w hTab
  have HT : Hid (Tab w) := hTab
  have HFI : Hid (∀ W, Calls Tryz.prog 16 #[] W fun e w' => ∃ L, e = .returned (.agg #[.slice (some ⟨L, 0, none⟩) 2 2, .int .i64 1]) ∧ Afs w' (some ⟨L, 0, none⟩) 2 sevF ∧ Below W.heap.size W w') := seven_lies
  have HNM : Hid (∀ W x, Calls Tryz.prog 12 #[.int .i64 x] W fun e w' => e = .returned (.int .i64 x) ∧ W = w') := numA_any
  obtain ⟨N, hN⟩ : ∃ N, N = 1048575 + n := ⟨_, rfl⟩
  have hNw : IntKind.i64.wrap (1048575 + (n : Int)) = (N : Int) := by rw [IntKind.wrap_i64]; omega
  have hmk := run_intsZ N (by omega)
  obtain ⟨cs, hcs⟩ : ∃ cs, cs = ((List.replicate N (0 : Int)).map (Value.int .i64)).toArray := ⟨_, rfl⟩
  rw [← hcs] at hmk
  have q0 : decide ((n : Int) < 0) = false := by simp
  have q1 : decide ((2 : Int) < (n : Int)) = false := by simp; omega
  have hNp : (0 : Int) < (N : Int) := by omega
  have hNq : 0 < N := by omega
  have HN : Hid (N = 1048575 + n) := hN
  have HC : Hid (cs = ((List.replicate N (0 : Int)).map (Value.int .i64)).toArray) := hcs
  clear hTab hN hcs
  go_enter Tryz.func5, Tryz.ntmps5
  go_upto_region 2 with (go_at_call 8; refine Calls.mono HAL.out ?_; rintro e wL ⟨rfl, bL⟩)
  have HBL : Hid (Below w.heap.size w wL) := bL
  clear bL HAL
  obtain ⟨W0, hW0⟩ : ∃ W0, W0 = wL.alloc (.cells cs 3) := ⟨_, rfl⟩
  obtain ⟨gb, hgb⟩ : ∃ g, g = wL.heap.size := ⟨_, rfl⟩
  have hK0 : Num W0 gb (List.replicate N 0) := by rw [hW0]; unfold Num; rw [hgb, heap_alloc_new, HC.out]
  have HB0 : Hid (Below wL.heap.size wL W0) := by rw [hW0]; exact below_newA wL _
  have hlg := (Array.getElem?_eq_some_iff.1 hK0).1
  have HK0 : Hid (Num W0 gb (List.replicate N 0)) := hK0
  have hc0 : W0.cell? ⟨gb, 0, none⟩ = some (.int .i64 0) := by
    have := hK0.cell (i := 0) (by simp; omega)
    rw [this]
    simp
  have hf0 : W0.frozen? ⟨gb, 0, none⟩ = false := fz_of hK0
  clear hK0
  go_upto_region 5 with fail
  rw [← hW0, ← hgb]
  have HG : Hid (gb = wL.heap.size) := hgb
  clear hW0 hgb hmk
  go_upto_region 6 with fail
  obtain ⟨W1, hW1⟩ : ∃ W1, W1 = W0.setCell ⟨gb, 0, none⟩ (.int .i64 3) := ⟨_, rfl⟩
  have hK1 : Num W1 gb (3 :: List.replicate (N - 1) 0) := by
    have := HK0.out.set (i := 0) (by simp; omega) 3
    rw [← hW1] at this
    rw [show N = (N - 1) + 1 by omega, List.replicate_succ, List.set_cons_zero] at this
    exact this
  have HB1 : Hid (Below w.heap.size w W1) := by
    have b2 : Below wL.heap.size W0 W1 := by rw [hW1]; exact (Only.of_set W0 ⟨gb, 0, none⟩ _).below HB0.out.size (fun k hk => by have : k = gb := hk; have := HG.out; omega)
    exact HBL.out.trans ((HB0.out.trans b2).mono HBL.out.size)
  have HK1 : Hid (Num W1 gb (3 :: List.replicate (N - 1) 0)) := hK1
  rw [← hW1]
  clear hW1 hK1 hc0 hf0 hlg HK0 HB0
  go_upto_region 7 with (go_at_call 16; refine (HFI.out _).mono ?_; rintro e wS ⟨L, rfl, hFA, bS⟩)
  obtain ⟨W2, hW2⟩ : ∃ W2, W2 = wS.alloc (.cells #[.slice (some ⟨L, 0, none⟩) 2 2, .int .i64 1] 44) := ⟨_, rfl⟩
  obtain ⟨ab, hab⟩ : ∃ g, g = wS.heap.size := ⟨_, rfl⟩
  have b2 : Below wS.heap.size wS W2 := by rw [hW2]; exact below_newA wS _
  have HA2 : Hid (Afs W2 (some ⟨L, 0, none⟩) 2 sevF) := hFA.below b2 (Nat.le_refl _)
  have hx : W2.heap[ab]? = some (.cells #[.slice (some ⟨L, 0, none⟩) 2 2, .int .i64 1] 44 (0, 0)) := by rw [hW2, hab]; exact heap_alloc_new wS _
  have HX : Hid (W2.heap[ab]? = some (.cells #[.slice (some ⟨L, 0, none⟩) 2 2, .int .i64 1] 44 (0, 0))) := hx
  have c0 : W2.cell? ⟨ab, 0, none⟩ = some (.slice (some ⟨L, 0, none⟩) 2 2) := cell_arr hx rfl
  have c1 : W2.cell? ⟨ab, 1, none⟩ = some (.int .i64 1) := cell_arr hx rfl
  have la := (Array.getElem?_eq_some_iff.1 hx).1
  have fz2 : W2.frozen? ⟨ab, 1, none⟩ = false := fz_of hx
  have HK2 : Hid (Num W2 gb (3 :: List.replicate (N - 1) 0)) := (HK1.out.below bS).below b2
  have HB2 : Hid (Below w.heap.size w W2) := HB1.out.trans ((bS.trans (b2.mono bS.size)).mono HB1.out.size)
  have HAB : Hid (w.heap.size ≤ ab ∧ wS.heap.size ≤ W2.heap.size) := ⟨by have := HB1.out.size; have := bS.size; omega, b2.size⟩
  have HFS : Hid (Afs wS (some ⟨L, 0, none⟩) 2 sevF) := hFA
  have HBS : Hid (Below wS.heap.size wS W2) := b2
  have HSE : Hid (ab = wS.heap.size) := hab
  rw [← hW2, ← hab]
  clear hW2 hab hx b2 hFA bS HFI
  have HNW : Hid (Calls Tryz.prog 11 #[.agg #[.slice (some ⟨L, 0, none⟩) 2 2, .int .i64 1], .slice (some ⟨gb, 0, none⟩) N N] W2 fun e w' => e = .returned (.tuple #[.pointer none, .int .i64 4]) ∧ Below w.heap.size w w') := (mNewA_long W2 1 (by have := HN.out; omega) (fun W hW => (check_any W (HT.out.below (HB2.out.trans (hW.mono HB2.out.size)) HT.out.1) (HA2.out.below hW (Nat.le_refl _)) rfl (by decide) 1 (fun f hf => (sv_ok.few f hf).n)).mono fun e w' q => q)).mono fun e w' q => ⟨q.1, HB2.out.trans (q.2.mono HB2.out.size)⟩
  have q2 : ((n : Int) == 2) = true := by simp; omega
  clear HA2 HK2 HB2 HAB HX
  go_wp2_with (first
    | (go_at_call 12; refine (HNM.out _ _).mono ?_; rintro e w9 ⟨rfl, rfl⟩)
    | (go_at_call 11; refine Calls.mono HNW.out ?_; rintro e wN ⟨rfl, bN⟩))
  go_ret
  exact ⟨rfl, bN⟩
set_option maxRecDepth 100000 in
set_option maxHeartbeats 4000000 in
theorem input_good (w : World) (hTab : Tab w) (n : Nat) (hn : n ≤ 1) : Calls Tryz.prog 5 #[.int .i64 (n : Int), .bool true] w fun e w' => e = .returned (.bool true) ∧ Below w.heap.size w w' := by
  have HAL : Hid _ := alive19_any w hTab
  have HT : Hid (Tab w) := hTab
  have HFI : Hid (∀ W, Calls Tryz.prog 16 #[] W fun e w' => ∃ L, e = .returned (.agg #[.slice (some ⟨L, 0, none⟩) 2 2, .int .i64 1]) ∧ Afs w' (some ⟨L, 0, none⟩) 2 sevF ∧ Below W.heap.size W w') := seven_lies
  have HNM : Hid (∀ W x, Calls Tryz.prog 12 #[.int .i64 x] W fun e w' => e = .returned (.int .i64 x) ∧ W = w') := numA_any
  obtain ⟨N, hN⟩ : ∃ N, N = 1048575 + n := ⟨_, rfl⟩
  have hNw : IntKind.i64.wrap (1048575 + (n : Int)) = (N : Int) := by rw [IntKind.wrap_i64]; omega
  have hmk := run_intsZ N (by omega)
  obtain ⟨cs, hcs⟩ : ∃ cs, cs = ((List.replicate N (0 : Int)).map (Value.int .i64)).toArray := ⟨_, rfl⟩
  rw [← hcs] at hmk
  have q0 : decide ((n : Int) < 0) = false := by simp
  have q1 : decide ((2 : Int) < (n : Int)) = false := by simp; omega
  have hNp : (0 : Int) < (N : Int) := by omega
  have hNq : 0 < N := by omega
  have HN : Hid (N = 1048575 + n) := hN
  have HC : Hid (cs = ((List.replicate N (0 : Int)).map (Value.int .i64)).toArray) := hcs
  clear hTab hN hcs
  go_enter Tryz.func5, Tryz.ntmps5
  go_upto_region 2 with (go_at_call 8; refine Calls.mono HAL.out ?_; rintro e wL ⟨rfl, bL⟩)
  have HBL : Hid (Below w.heap.size w wL) := bL
  clear bL HAL
  obtain ⟨W0, hW0⟩ : ∃ W0, W0 = wL.alloc (.cells cs 3) := ⟨_, rfl⟩
  obtain ⟨gb, hgb⟩ : ∃ g, g = wL.heap.size := ⟨_, rfl⟩
  have hK0 : Num W0 gb (List.replicate N 0) := by rw [hW0]; unfold Num; rw [hgb, heap_alloc_new, HC.out]
  have HB0 : Hid (Below wL.heap.size wL W0) := by rw [hW0]; exact below_newA wL _
  have hlg := (Array.getElem?_eq_some_iff.1 hK0).1
  have HK0 : Hid (Num W0 gb (List.replicate N 0)) := hK0
  have hc0 : W0.cell? ⟨gb, 0, none⟩ = some (.int .i64 0) := by
    have := hK0.cell (i := 0) (by simp; omega)
    rw [this]
    simp
  have hf0 : W0.frozen? ⟨gb, 0, none⟩ = false := fz_of hK0
  clear hK0
  go_upto_region 5 with fail
  rw [← hW0, ← hgb]
  have HG : Hid (gb = wL.heap.size) := hgb
  clear hW0 hgb hmk
  go_upto_region 6 with fail
  obtain ⟨W1, hW1⟩ : ∃ W1, W1 = W0.setCell ⟨gb, 0, none⟩ (.int .i64 3) := ⟨_, rfl⟩
  have hK1 : Num W1 gb (3 :: List.replicate (N - 1) 0) := by
    have := HK0.out.set (i := 0) (by simp; omega) 3
    rw [← hW1] at this
    rw [show N = (N - 1) + 1 by omega, List.replicate_succ, List.set_cons_zero] at this
    exact this
  have HB1 : Hid (Below w.heap.size w W1) := by
    have b2 : Below wL.heap.size W0 W1 := by rw [hW1]; exact (Only.of_set W0 ⟨gb, 0, none⟩ _).below HB0.out.size (fun k hk => by have : k = gb := hk; have := HG.out; omega)
    exact HBL.out.trans ((HB0.out.trans b2).mono HBL.out.size)
  have HK1 : Hid (Num W1 gb (3 :: List.replicate (N - 1) 0)) := hK1
  rw [← hW1]
  clear hW1 hK1 hc0 hf0 hlg HK0 HB0
  go_upto_region 7 with (go_at_call 16; refine (HFI.out _).mono ?_; rintro e wS ⟨L, rfl, hFA, bS⟩)
  obtain ⟨W2, hW2⟩ : ∃ W2, W2 = wS.alloc (.cells #[.slice (some ⟨L, 0, none⟩) 2 2, .int .i64 1] 44) := ⟨_, rfl⟩
  obtain ⟨ab, hab⟩ : ∃ g, g = wS.heap.size := ⟨_, rfl⟩
  have b2 : Below wS.heap.size wS W2 := by rw [hW2]; exact below_newA wS _
  have HA2 : Hid (Afs W2 (some ⟨L, 0, none⟩) 2 sevF) := hFA.below b2 (Nat.le_refl _)
  have hx : W2.heap[ab]? = some (.cells #[.slice (some ⟨L, 0, none⟩) 2 2, .int .i64 1] 44 (0, 0)) := by rw [hW2, hab]; exact heap_alloc_new wS _
  have HX : Hid (W2.heap[ab]? = some (.cells #[.slice (some ⟨L, 0, none⟩) 2 2, .int .i64 1] 44 (0, 0))) := hx
  have c0 : W2.cell? ⟨ab, 0, none⟩ = some (.slice (some ⟨L, 0, none⟩) 2 2) := cell_arr hx rfl
  have c1 : W2.cell? ⟨ab, 1, none⟩ = some (.int .i64 1) := cell_arr hx rfl
  have la := (Array.getElem?_eq_some_iff.1 hx).1
  have fz2 : W2.frozen? ⟨ab, 1, none⟩ = false := fz_of hx
  have HK2 : Hid (Num W2 gb (3 :: List.replicate (N - 1) 0)) := (HK1.out.below bS).below b2
  have HB2 : Hid (Below w.heap.size w W2) := HB1.out.trans ((bS.trans (b2.mono bS.size)).mono HB1.out.size)
  have HAB : Hid (w.heap.size ≤ ab ∧ wS.heap.size ≤ W2.heap.size) := ⟨by have := HB1.out.size; have := bS.size; omega, b2.size⟩
  have HFS : Hid (Afs wS (some ⟨L, 0, none⟩) 2 sevF) := hFA
  have HBS : Hid (Below wS.heap.size wS W2) := b2
  have HSE : Hid (ab = wS.heap.size) := hab
  rw [← hW2, ← hab]
  clear hW2 hab hx b2 hFA bS HFI
  have HNW : Hid (Calls Tryz.prog 11 #[.agg #[.slice (some ⟨L, 0, none⟩) 2 2, .int .i64 1], .slice (some ⟨gb, 0, none⟩) N N] W2 fun e w' => ∃ mb s d, s.ws.mb = mb ∧ e = .returned (.tuple #[.pointer (some ⟨mb, 0, none⟩), .int .i64 0]) ∧ Mca sevF s d w' (Ma.start (3 :: List.replicate (N - 1) 0) 1) ∧ Below W2.heap.size W2 w' ∧ (∀ k, footA s d k → W2.heap.size ≤ k) ∧ ∀ k, s.ws.st k → W2.heap.size ≤ k) := by
    have hI := HK2.out.ints (by simp; have := HN.out; omega)
    have eN : (3 :: List.replicate (N - 1) (0 : Int)).length = N := by simp; omega
    rw [eN] at hI
    exact sv_ok.newS W2 (HT.out.below HB2.out HT.out.1) HA2.out rfl hI eN.symm (by have := HN.out; omega)
  have q2 : ((n : Int) == 2) = false := by simp; omega
  clear HA2 HX
  go_upto_region 16 with (first
    | (go_at_call 12; refine (HNM.out _ _).mono ?_; rintro e w9 ⟨rfl, rfl⟩)
    | (go_at_call 11; refine Calls.mono HNW.out ?_; rintro e wN ⟨mb, s, d, hmb, rfl, hM, bN, hft, hst⟩))
  have hKN := HK2.out.below bN
  have hcN : wN.cell? ⟨gb, 0, none⟩ = some (.int .i64 3) := by
    have := hKN.cell (i := 0) (by simp)
    rw [this]
    simp
  have hlN := (Array.getElem?_eq_some_iff.1 hKN).1
  have fzN : wN.frozen? ⟨gb, 0, none⟩ = false := fz_of hKN
  have hl2 := (Array.getElem?_eq_some_iff.1 HK2.out).1
  obtain ⟨W4, hW4⟩ : ∃ W4, W4 = wN.setCell ⟨gb, 0, none⟩ (.int .i64 (-5)) := ⟨_, rfl⟩
  have o4 : Only (fun k => k = gb) wN W4 := by rw [hW4]; exact Only.of_set wN ⟨gb, 0, none⟩ _
  have hM4 : Mca sevF s d W4 (Ma.start (3 :: List.replicate (N - 1) 0) 1) := hM.apart o4 fun k hk => ⟨fun q => by have := hft k q; have : k = gb := hk; omega, fun q => by have := hst k q; have : k = gb := hk; omega⟩
  have bwN : Below w.heap.size w wN := HB2.out.trans (bN.mono HB2.out.size)
  have bw4 : Below w.heap.size w W4 := bwN.trans (o4.below bwN.size (fun k hk => by have : k = gb := hk; have := HG.out; have := HBL.out.size; omega))
  have HRN : Hid (Calls Tryz.prog 13 #[.pointer (some ⟨mb, 0, none⟩), .int .i64 100] W4 fun e w' => ∃ ao c, e = .returned (.tuple #[.agg #[.slice ao 4 c, .int .i64 1, .int .i64 0, .int .i64 0, .int .i64 13, .int .i64 0, .int .i64 2], .int .i64 0]) ∧ Evs w' ao c (svE 3) ∧ Below w.heap.size w w') := (hmb ▸ sv_run 3 _ hM4).mono fun e w' ⟨ao, c, q1, q2, q3⟩ => ⟨ao, c, q1, q2, bw4.trans (q3.below bw4.size (fun k hk => Nat.le_trans HB2.out.size (hft k hk)))⟩
  clear hKN hM hM4 o4 bw4 bwN bN hft hst hmb hl2 HNW HK2 HB2 HAB
  go_upto_region 17 with fail
  rw [← hW4]
  clear hW4 hcN hlN fzN
  go_upto_region 18 with (go_at_call 13; refine Calls.mono HRN.out ?_; rintro e wR ⟨ao, c, rfl, hE, bR⟩)
  obtain ⟨W5, hW5⟩ : ∃ W, W = wR.alloc (.cells #[.slice ao 4 c, .int .i64 1, .int .i64 0, .int .i64 0, .int .i64 13, .int .i64 0, .int .i64 2] 48) := ⟨_, rfl⟩
  rw [← hW5]
  have k5 : W5.heap[wR.heap.size]? = some (.cells #[.slice ao 4 c, .int .i64 1, .int .i64 0, .int .i64 0, .int .i64 13, .int .i64 0, .int .i64 2] 48 (0, 0)) := by rw [hW5]; exact heap_alloc_new _ _
  have b5 : Below wR.heap.size wR W5 := by rw [hW5]; exact below_newA _ _
  have HB : Hid (Below w.heap.size w W5) := bR.trans (b5.mono bR.size)
  have x0 : W5.cell? ⟨wR.heap.size, 0, none⟩ = some (.slice ao 4 c) := cell_arr k5 rfl
  have x1 : W5.cell? ⟨wR.heap.size, 1, none⟩ = some (.int .i64 1) := cell_arr k5 rfl
  obtain ⟨eb, eo, rfl, hel, e0, e1⟩ := (hE.belowR b5).at (k := 0) (by simp [svE])
  have y0 : W5.cell? ⟨eb, eo + 0 * 2, none⟩ = some (.int .i64 1) := e0
  have y1 : W5.cell? ⟨eb, eo + 0 * 2 + 1, none⟩ = some (.int .i64 3) := e1
  rw [Nat.zero_mul, Nat.add_zero] at y0 y1
  have hlt := (Array.getElem?_eq_some_iff.1 k5).1
  clear hE bR b5 k5 hW5 HRN e0 e1
  go_wp2_with (go_at_call 12; refine (HNM.out _ _).mono ?_; rintro e w9 ⟨rfl, rfl⟩)
  go_ret
  exact ⟨rfl, HB.out⟩
set_option maxRecDepth 100000 in
set_option maxHeartbeats 4000000 in
theorem alirInput_any (w : World) (hTab : Tab w) (m : Int) (g : Bool) : Calls Tryz.prog 5 #[.int .i64 m, .bool g] w fun e w' => e = .returned (.bool true) ∧ Below w.heap.size w w' := by
  by_cases hm : m < 0 ∨ 2 < m
  · have HAL : Hid _ := alive19_any w hTab
    clear hTab
    by_cases h0 : m < 0
    · have q0 : decide (m < 0) = true := decide_eq_true h0
      clear hm
      go_enter Tryz.func5, Tryz.ntmps5
      go_upto_region 2 with (go_at_call 8; refine Calls.mono HAL.out ?_; rintro e wL ⟨rfl, bL⟩)
      go_wp2_with fail
      go_ret
      exact ⟨rfl, bL⟩
    · have q0 : decide (m < 0) = false := decide_eq_false h0
      have q1 : decide (2 < m) = true := decide_eq_true (by omega)
      clear hm
      go_enter Tryz.func5, Tryz.ntmps5
      go_upto_region 2 with (go_at_call 8; refine Calls.mono HAL.out ?_; rintro e wL ⟨rfl, bL⟩)
      go_wp2_with fail
      go_ret
      exact ⟨rfl, bL⟩
  obtain ⟨n, rfl⟩ : ∃ n : Nat, m = (n : Int) := ⟨m.toNat, by omega⟩
  cases g with
  | false => exact input_bad w hTab n (by omega)
  | true =>
    by_cases h2 : n = 2
    · exact input_long w hTab n (by omega)
    · exact input_good w hTab n (by omega)
end Go.Proofs.YtegoemeefmjnoaaGreatDoor
