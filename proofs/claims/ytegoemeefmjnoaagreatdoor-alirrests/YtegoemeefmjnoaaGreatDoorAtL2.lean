import Derived.Test.YtegoemeefmjnoaaGreatDoorAtJ
set_option linter.unusedVariables false
set_option linter.unusedSimpArgs false
namespace Go.Proofs.YtegoemeefmjnoaaGreatDoor
open Go.ChangeShapes Go.WideShapes Go.ChangeAt Go.RowKit Go.Maps

set_option maxRecDepth 100000 in
set_option maxHeartbeats 4000000 in
theorem rests_2 (w : World) (hTab : Tab w) (m : Int) (q0 : (bits BinOp.and IntKind.i64 m 63 != 0) = false) (hz : (bits BinOp.and IntKind.i64 (m / 64) 7).tmod 5 = 2) : Calls Tryz.prog 6 #[.int .i64 m] w fun e w' => e = .returned (.bool true) ∧ Below w.heap.size w w' := by
  have HAL : Hid _ := alive19_any w hTab
  have HT : Hid (Tab w) := hTab
  have HZ : Hid ((bits BinOp.and IntKind.i64 (m / 64) 7).tmod 5 = 2) := hz
  clear hTab hz
  obtain ⟨K, hK⟩ : ∃ K : Nat, K = 1048576 := ⟨_, rfl⟩
  have HKK : Hid (K = 1048576) := hK
  clear hK
  have HR : Hid (∀ W n, Calls Tryz.prog 9 #[.int .i64 n] W fun e w' => e = .returned (.agg #[.int .i64 1, .int .i64 n]) ∧ w' = W.alloc (.cells #[.int .i64 1, .int .i64 n] 24)) := regA_any
  have HS : Hid (∀ W n, Calls Tryz.prog 10 #[.int .i64 n] W fun e w' => e = .returned (.agg #[.int .i64 2, .int .i64 n]) ∧ w' = W.alloc (.cells #[.int .i64 2, .int .i64 n] 24)) := slotA_any
  have HNM : Hid (∀ W x, Calls Tryz.prog 12 #[.int .i64 x] W fun e w' => e = .returned (.int .i64 x) ∧ W = w') := numA_any
  go_enter Tryz.func6, Tryz.ntmps6
  go_upto_region 2 with (go_at_call 8; refine Calls.mono HAL.out ?_; rintro e wL ⟨rfl, bL⟩)
  have HBL : Hid (Below w.heap.size w wL) := bL
  clear bL HAL
  go_upto_region 8 with (first
    | (go_at_call 9; refine (HR.out _ _).mono ?_; rintro e w' ⟨rfl, rfl⟩)
    | (go_at_call 10; refine (HS.out _ _).mono ?_; rintro e w' ⟨rfl, rfl⟩))
  obtain ⟨W8, hW8⟩ : ∃ W, W = ((((((((((((((((((wL.alloc (.cells #[.int .i64 1, .int .i64 0] 24)).alloc (.cells #[.int .i64 1, .int .i64 0] 24)).alloc (.cells #[.int .i64 1, .int .i64 0] 24)).alloc (.cells #[.int .i64 1, .int .i64 0] 24)).alloc (.cells #[.int .i64 2, .int .i64 0] 24)).alloc (.cells #[.int .i64 1, .int .i64 0, .int .i64 2, .int .i64 0] 24)).alloc (.cells #[.int .i64 26, .int .i64 0, .int .i64 0, .int .i64 0, .slice (some ⟨wL.heap.size + 1, 0, none⟩) 1 1, .slice none 0 0, .int .i64 3, .int .i64 0, .int .i64 1, .int .i64 0, .slice (some ⟨wL.heap.size + 5, 0, none⟩) 2 2, .slice none 0 0] 29)).alloc (.cells #[.int .i64 1, .int .i64 0] 24)).alloc (.cells #[.int .i64 1, .int .i64 2] 3)).alloc (.cells #[.slice (some ⟨wL.heap.size + 6, 0, none⟩) 2 2, .int .i64 2, .int .i64 1, .int .i64 0, .slice (some ⟨wL.heap.size + 8, 0, none⟩) 2 2] 34)).alloc (.cells #[.int .i64 1, .int .i64 0] 24)).alloc (.cells #[.int .i64 2, .int .i64 0] 24)).alloc (.cells #[.int .i64 1, .int .i64 7] 24)).alloc (.cells #[.int .i64 1, .int .i64 1048576, .int .i64 1, .int .i64 0, .slice none 0 0, .slice none 0 0, .int .i64 1, .int .i64 1, .int .i64 2, .int .i64 0, .slice none 0 0, .slice none 0 0, .int .i64 1, .int .i64 5, .int .i64 1, .int .i64 7, .slice none 0 0, .slice none 0 0] 29)).alloc (.cells #[.int .i64 1] 3)).alloc (.cells #[.slice (some ⟨wL.heap.size + 13, 0, none⟩) 3 3, .int .i64 1, .int .i64 0, .int .i64 0, .slice (some ⟨wL.heap.size + 14, 0, none⟩) 1 1] 34)).alloc (.cells #[.slice none 0 0, .int .i64 3, .int .i64 0, .int .i64 0, .slice none 0 0] 34)).alloc (.cells #[.slice none 0 0, .int .i64 0, .int .i64 0, .int .i64 0, .int .i64 3145732, .int .i64 0, .int .i64 1] 48)) := ⟨_, rfl⟩
  obtain ⟨B, hB⟩ : ∃ B, B = wL.heap.size := ⟨_, rfl⟩
  obtain ⟨l, hl⟩ : ∃ l, l = wL.heap.size + 16 := ⟨_, rfl⟩
  obtain ⟨q, hq⟩ : ∃ q, q = wL.heap.size + 17 := ⟨_, rfl⟩
  obtain ⟨p, hp⟩ : ∃ p, p = wL.heap.size + 15 := ⟨_, rfl⟩
  obtain ⟨u, hu⟩ : ∃ u, u = wL.heap.size + 9 := ⟨_, rfl⟩
  have HRS : Hid (RS wL W8 B l q #[.slice none 0 0, .int .i64 3, .int .i64 0, .int .i64 0, .slice none 0 0] #[.slice none 0 0, .int .i64 0, .int .i64 0, .int .i64 0, .int .i64 3145732, .int .i64 0, .int .i64 1] []) := by
    have := RS.start wL hB (hl.trans (by rw [hB])) (hq.trans (by rw [hB]))
    rw [hW8]
    rw [hB] at this ⊢
    exact this
  rw [← hW8, ← hq, ← hl, ← hp, ← hu]
  have HU : Hid (u = B + 9 ∧ p = B + 15 ∧ l = B + 16 ∧ q = B + 17 ∧ B = wL.heap.size) := ⟨by omega, by omega, by omega, by omega, hB⟩
  clear hW8 hq hl hp hu hB
  have s8 := HRS.out.size
  have HS8 : Hid _ := s8
  have e0 := HRS.out.kl
  have e1 := HRS.out.kw
  have lq : q < W8.heap.size := (Array.getElem?_eq_some_iff.1 e1).1
  have ll : l < W8.heap.size := (Array.getElem?_eq_some_iff.1 e0).1
  have w4 : W8.cell? ⟨q, 4, none⟩ = some (.int .i64 3145732) := cell_arr e1 rfl
  have fq : ∀ j, W8.frozen? ⟨q, j, none⟩ = false := fun j => fz_of e1
  have fl : ∀ j, W8.frozen? ⟨l, j, none⟩ = false := fun j => fz_of e0
  clear s8 e0 e1
  go_upto_region 13 with fail
  rw [HZ.out]
  clear q0 HZ
  have el := HRS.out.kl
  have l0 : W8.cell? ⟨l, 0, none⟩ = some (.slice none 0 0) := cell_arr el rfl
  have l1 : W8.cell? ⟨l, 1, none⟩ = some (.int .i64 3) := cell_arr el rfl
  have l2 : W8.cell? ⟨l, 2, none⟩ = some (.int .i64 0) := cell_arr el rfl
  have l3 : W8.cell? ⟨l, 3, none⟩ = some (.int .i64 0) := cell_arr el rfl
  have l4 : W8.cell? ⟨l, 4, none⟩ = some (.slice none 0 0) := cell_arr el rfl
  have ll1 : l < W8.heap.size + 1 := by omega
  clear el
  go_upto_region 20 with (first
    | (go_at_call 9; refine (HR.out _ _).mono ?_; rintro e w' ⟨rfl, rfl⟩)
    | (go_at_call 10; refine (HS.out _ _).mono ?_; rintro e w' ⟨rfl, rfl⟩))
  obtain ⟨W81, hW81⟩ : ∃ W, W = (((((W8.setCell ⟨l, 1, none⟩ (.int .i64 4)).setCell ⟨l, 2, none⟩ (.int .i64 1)).setCell ⟨l, 3, none⟩ (.int .i64 7)).setCell ⟨l, 4, none⟩ (.slice none 0 0)).alloc (.cells #[.int .i64 1, .int .i64 7] 24)) := ⟨_, rfl⟩
  have h81 : RS wL W81 B l q #[.slice none 0 0, .int .i64 4, .int .i64 1, .int .i64 7, .slice none 0 0] #[.slice none 0 0, .int .i64 0, .int .i64 0, .int .i64 0, .int .i64 3145732, .int .i64 0, .int .i64 1] [.cells #[.int .i64 1, .int .i64 7] 24] := by
    rw [hW81]
    exact ((((HRS.out.setL 1 _).setL 2 _).setL 3 _).setL 4 _).alloc _
  rw [← hW81]
  clear hW81 l0 l1 l2 l3 l4 ll1
  have HR81 : Hid (RS wL W81 B l q #[.slice none 0 0, .int .i64 4, .int .i64 1, .int .i64 7, .slice none 0 0] #[.slice none 0 0, .int .i64 0, .int .i64 0, .int .i64 0, .int .i64 3145732, .int .i64 0, .int .i64 1] [.cells #[.int .i64 1, .int .i64 7] 24]) := h81
  clear h81 lq ll w4 fq fl HRS HS8
  have e1 := HR81.out.kw
  have lq1 : q < W81.heap.size := (Array.getElem?_eq_some_iff.1 e1).1
  have w1 : W81.cell? ⟨q, 4, none⟩ = some (.int .i64 3145732) := cell_arr e1 rfl
  have fq1 : W81.frozen? ⟨q, 4, none⟩ = false := fz_of e1
  clear e1
  go_upto_region 21 with fail
  obtain ⟨W8x20, hnx⟩ : ∃ W, W = W81.setCell ⟨q, 4, none⟩ (.int .i64 3145733) := ⟨_, rfl⟩
  have HR8x20 : Hid (RS wL W8x20 B l q #[.slice none 0 0, .int .i64 4, .int .i64 1, .int .i64 7, .slice none 0 0] #[.slice none 0 0, .int .i64 0, .int .i64 0, .int .i64 0, .int .i64 3145733, .int .i64 0, .int .i64 1] [.cells #[.int .i64 1, .int .i64 7] 24]) := by rw [hnx]; exact HR81.out.setW 4 _
  rw [← hnx]
  clear hnx lq1 w1 fq1 HR81
  have e1 := HR8x20.out.kw
  have lq1 : q < W8x20.heap.size := (Array.getElem?_eq_some_iff.1 e1).1
  have w1 : W8x20.cell? ⟨q, 1, none⟩ = some (.int .i64 0) := cell_arr e1 rfl
  have fq1 : W8x20.frozen? ⟨q, 1, none⟩ = false := fz_of e1
  clear e1
  go_upto_region 22 with fail
  obtain ⟨W8x21, hnx⟩ : ∃ W, W = W8x20.setCell ⟨q, 1, none⟩ (.int .i64 2) := ⟨_, rfl⟩
  have HR8x21 : Hid (RS wL W8x21 B l q #[.slice none 0 0, .int .i64 4, .int .i64 1, .int .i64 7, .slice none 0 0] #[.slice none 0 0, .int .i64 2, .int .i64 0, .int .i64 0, .int .i64 3145733, .int .i64 0, .int .i64 1] [.cells #[.int .i64 1, .int .i64 7] 24]) := by rw [hnx]; exact HR8x20.out.setW 1 _
  rw [← hnx]
  clear hnx lq1 w1 fq1 HR8x20
  have e1 := HR8x21.out.kw
  have lq1 : q < W8x21.heap.size := (Array.getElem?_eq_some_iff.1 e1).1
  have w1 : W8x21.cell? ⟨q, 2, none⟩ = some (.int .i64 0) := cell_arr e1 rfl
  have fq1 : W8x21.frozen? ⟨q, 2, none⟩ = false := fz_of e1
  clear e1
  go_upto_region 23 with fail
  obtain ⟨W8x22, hnx⟩ : ∃ W, W = W8x21.setCell ⟨q, 2, none⟩ (.int .i64 6) := ⟨_, rfl⟩
  have HR8x22 : Hid (RS wL W8x22 B l q #[.slice none 0 0, .int .i64 4, .int .i64 1, .int .i64 7, .slice none 0 0] #[.slice none 0 0, .int .i64 2, .int .i64 6, .int .i64 0, .int .i64 3145733, .int .i64 0, .int .i64 1] [.cells #[.int .i64 1, .int .i64 7] 24]) := by rw [hnx]; exact HR8x21.out.setW 2 _
  rw [← hnx]
  clear hnx lq1 w1 fq1 HR8x21
  have e1 := HR8x22.out.kw
  have lq1 : q < W8x22.heap.size := (Array.getElem?_eq_some_iff.1 e1).1
  have w1 : W8x22.cell? ⟨q, 3, none⟩ = some (.int .i64 0) := cell_arr e1 rfl
  have fq1 : W8x22.frozen? ⟨q, 3, none⟩ = false := fz_of e1
  clear e1
  go_upto_region 29 with fail
  obtain ⟨W8x23, hnx⟩ : ∃ W, W = W8x22.setCell ⟨q, 3, none⟩ (.int .i64 5) := ⟨_, rfl⟩
  have HR8x23 : Hid (RS wL W8x23 B l q #[.slice none 0 0, .int .i64 4, .int .i64 1, .int .i64 7, .slice none 0 0] #[.slice none 0 0, .int .i64 2, .int .i64 6, .int .i64 5, .int .i64 3145733, .int .i64 0, .int .i64 1] [.cells #[.int .i64 1, .int .i64 7] 24]) := by rw [hnx]; exact HR8x22.out.setW 3 _
  rw [← hnx]
  clear hnx lq1 w1 fq1 HR8x22
  obtain ⟨W9, hW9⟩ : ∃ W, W = W8x23 := ⟨_, rfl⟩
  rw [← hW9] at HR8x23 ⊢
  have h9 := HR8x23.out
  clear hW9 HR8x23
  have HRS9 : Hid (RS wL W9 B l q #[.slice none 0 0, .int .i64 4, .int .i64 1, .int .i64 7, .slice none 0 0] #[.slice none 0 0, .int .i64 2, .int .i64 6, .int .i64 5, .int .i64 3145733, .int .i64 0, .int .i64 1] [.cells #[.int .i64 1, .int .i64 7] 24]) := h9
  have x15 : W9.heap[p]? = some (.cells #[.slice (some ⟨B + 13, 0, none⟩) 3 3, .int .i64 1, .int .i64 0, .int .i64 0, .slice (some ⟨B + 14, 0, none⟩) 1 1] 34 (0, 0)) := by rw [HU.out.2.1]; exact h9.low 15 (by simp [reX]) (by omega)
  have x9 : W9.heap[u]? = some (.cells #[.slice (some ⟨B + 6, 0, none⟩) 2 2, .int .i64 2, .int .i64 1, .int .i64 0, .slice (some ⟨B + 8, 0, none⟩) 2 2] 34 (0, 0)) := by rw [HU.out.1]; exact h9.low 9 (by simp [reX]) (by omega)
  have x16 := h9.kl
  have ca0 : W9.cell? ⟨p, 0, none⟩ = some (.slice (some ⟨B + 13, 0, none⟩) 3 3) := cell_arr x15 rfl
  have ca1 : W9.cell? ⟨p, 1, none⟩ = some (.int .i64 1) := cell_arr x15 rfl
  have ca2 : W9.cell? ⟨p, 2, none⟩ = some (.int .i64 0) := cell_arr x15 rfl
  have ca3 : W9.cell? ⟨p, 3, none⟩ = some (.int .i64 0) := cell_arr x15 rfl
  have ca4 : W9.cell? ⟨p, 4, none⟩ = some (.slice (some ⟨B + 14, 0, none⟩) 1 1) := cell_arr x15 rfl
  have cb0 : W9.cell? ⟨u, 0, none⟩ = some (.slice (some ⟨B + 6, 0, none⟩) 2 2) := cell_arr x9 rfl
  have cb1 : W9.cell? ⟨u, 1, none⟩ = some (.int .i64 2) := cell_arr x9 rfl
  have cb2 : W9.cell? ⟨u, 2, none⟩ = some (.int .i64 1) := cell_arr x9 rfl
  have cb3 : W9.cell? ⟨u, 3, none⟩ = some (.int .i64 0) := cell_arr x9 rfl
  have cb4 : W9.cell? ⟨u, 4, none⟩ = some (.slice (some ⟨B + 8, 0, none⟩) 2 2) := cell_arr x9 rfl
  have cc0 : W9.cell? ⟨l, 0, none⟩ = some (.slice none 0 0) := cell_arr x16 rfl
  have cc1 : W9.cell? ⟨l, 1, none⟩ = some (.int .i64 4) := cell_arr x16 rfl
  have cc2 : W9.cell? ⟨l, 2, none⟩ = some (.int .i64 1) := cell_arr x16 rfl
  have cc3 : W9.cell? ⟨l, 3, none⟩ = some (.int .i64 7) := cell_arr x16 rfl
  have cc4 : W9.cell? ⟨l, 4, none⟩ = some (.slice none 0 0) := cell_arr x16 rfl
  have la := (Array.getElem?_eq_some_iff.1 x15).1
  have lb := (Array.getElem?_eq_some_iff.1 x9).1
  have lc := (Array.getElem?_eq_some_iff.1 x16).1
  have HNW : Hid (Calls Tryz.prog 11 #[.agg #[.slice (some ⟨W9.heap.size + 1, 0, none⟩) 1 1, .int .i64 0], .slice none 0 0] ((W9.alloc (.cells #[.slice (some ⟨B + 13, 0, none⟩) 3 3, .int .i64 1, .int .i64 0, .int .i64 0, .slice (some ⟨B + 14, 0, none⟩) 1 1, .slice (some ⟨B + 6, 0, none⟩) 2 2, .int .i64 2, .int .i64 1, .int .i64 0, .slice (some ⟨B + 8, 0, none⟩) 2 2, .slice none 0 0, .int .i64 4, .int .i64 1, .int .i64 7, .slice none 0 0] 34)).alloc (.cells #[.string ⟨#[109, 97, 105, 110]⟩, .slice none 0 0, .int .i64 0, .int .i64 1, .slice (some ⟨W9.heap.size, 0, none⟩) 3 3] 37)) fun e w' => ∃ mb s d, s.ws.mb = mb ∧ e = .returned (.tuple #[.pointer (some ⟨mb, 0, none⟩), .int .i64 0]) ∧ Mca (reF (reL 2)) s d w' (Ma.start [] 0) ∧ (w'.heap[q]? = some (.cells #[.slice none 0 0, .int .i64 2, .int .i64 6, .int .i64 5, .int .i64 3145733, .int .i64 0, .int .i64 1] 48 (0, 0)) ∧ (∀ k, footA s d k → q < k)) ∧ Below w.heap.size w w' ∧ (∀ k, footA s d k → w.heap.size ≤ k)) := by
    have b1 := below_newA W9 (.cells #[.slice (some ⟨B + 13, 0, none⟩) 3 3, .int .i64 1, .int .i64 0, .int .i64 0, .slice (some ⟨B + 14, 0, none⟩) 1 1, .slice (some ⟨B + 6, 0, none⟩) 2 2, .int .i64 2, .int .i64 1, .int .i64 0, .slice (some ⟨B + 8, 0, none⟩) 2 2, .slice none 0 0, .int .i64 4, .int .i64 1, .int .i64 7, .slice none 0 0] 34)
    have b2 := below_newA (W9.alloc (.cells #[.slice (some ⟨B + 13, 0, none⟩) 3 3, .int .i64 1, .int .i64 0, .int .i64 0, .slice (some ⟨B + 14, 0, none⟩) 1 1, .slice (some ⟨B + 6, 0, none⟩) 2 2, .int .i64 2, .int .i64 1, .int .i64 0, .slice (some ⟨B + 8, 0, none⟩) 2 2, .slice none 0 0, .int .i64 4, .int .i64 1, .int .i64 7, .slice none 0 0] 34)) (.cells #[.string ⟨#[109, 97, 105, 110]⟩, .slice none 0 0, .int .i64 0, .int .i64 1, .slice (some ⟨W9.heap.size, 0, none⟩) 3 3] 37)
    have b12 := b1.trans (b2.mono b1.size)
    have bw : Below w.heap.size w W9 := HBL.out.trans (h9.bel.mono (by have := HU.out.2.2.2.2; have := HBL.out.size; omega))
    have b3 := bw.trans (b12.mono bw.size)
    refine (re_ok2.new _ (HT.out.below b3 HT.out.1) (re_afs2 h9 rfl) rfl (ints_noneA _) rfl (by decide)).mono ?_
    rintro e w' ⟨mb, s, d, q1, q2, q3, q4, q5⟩
    have hq9 := (Array.getElem?_eq_some_iff.1 h9.kw).1
    have z := b12.size
    refine ⟨mb, s, d, q1, q2, q3, ⟨(q4.block _ (by omega)).trans ((b12.block _ hq9).trans h9.kw), fun k hk => by have := q5 k hk; omega⟩, b3.trans (q4.mono b3.size), fun k hk => Nat.le_trans b3.size (q5 k hk)⟩
  clear h9 x15 x9 x16 HRS9 HBL HT
  go_upto_region 30 with (go_at_call 11; refine Calls.mono HNW.out ?_; rintro e wN ⟨mb, s, d, hmb, rfl, hM, hkq, bN, hft⟩)
  clear HNW ca0 ca1 ca2 ca3 ca4 cb0 cb1 cb2 cb3 cb4 cc0 cc1 cc2 cc3 cc4 la lb lc
  have HMB : Hid (s.ws.mb = mb) := hmb
  have HRN : Hid (Calls Tryz.prog 13 #[.pointer (some ⟨mb, 0, none⟩), .int .i64 1073741824] wN fun e w' => ∃ (oa : Option Addr) (oc : Nat) (d' : Ady) (MF : Ma) (r : Bool), e = .returned (.tuple #[.agg #[.slice oa K oc, .int .i64 2, .int .i64 6, .int .i64 5, .int .i64 3145733, .int .i64 0, .int .i64 1], .int .i64 0]) ∧ Evs w' oa oc (uev K) ∧ OvA s d'.wd.ve w' MF.wv ∧ MF.wv = reW (uev K) 2 6 5 3145733 r ∧ MF.over = true ∧ w'.heap[q]? = some (.cells #[.slice none 0 0, .int .i64 2, .int .i64 6, .int .i64 5, .int .i64 3145733, .int .i64 0, .int .i64 1] 48 (0, 0)) ∧ Below w.heap.size w w' ∧ True) := by
    refine (hmb ▸ re_run (uev_len K) (re_end2 HKK.out) hM).mono ?_
    rintro e w' ⟨oa, oc, rfl, hE, d', MF, r, h1, h2, h3, h4⟩
    have hq9 := (Array.getElem?_eq_some_iff.1 hkq.1).1
    exact ⟨oa, oc, d', MF, r, rfl, hE, h1, h2, h3, (h4.only.block q hq9 (fun q' => by have := hkq.2 q q'; omega)).trans hkq.1, bN.trans (h4.only.below bN.size hft), trivial⟩
  clear hmb hM hkq bN hft
  go_upto_region 32 with (go_at_call 12; refine (HNM.out _ _).mono ?_; rintro e w9 ⟨rfl, rfl⟩)
  clear HNM HR HS
  go_upto_region 33 with (go_at_call 13; refine Calls.mono HRN.out ?_; rintro e wR ⟨oa, oc, d', MF, r, rfl, hE, hS, hw, ho, hkq, bR, -⟩)
  obtain ⟨W5, hW5⟩ : ∃ W, W = wR.alloc (.cells #[.slice oa K oc, .int .i64 2, .int .i64 6, .int .i64 5, .int .i64 3145733, .int .i64 0, .int .i64 1] 48) := ⟨_, rfl⟩
  obtain ⟨gx, hgx⟩ : ∃ g, g = wR.heap.size := ⟨_, rfl⟩
  rw [← hW5, ← hgx]
  have k5 : W5.heap[gx]? = some (.cells #[.slice oa K oc, .int .i64 2, .int .i64 6, .int .i64 5, .int .i64 3145733, .int .i64 0, .int .i64 1] 48 (0, 0)) := by rw [hW5, hgx]; exact heap_alloc_new _ _
  have b5 : Below wR.heap.size wR W5 := by rw [hW5]; exact below_newA _ _
  have hO5 : OvA s d'.wd.ve W5 MF.wv := hS.below b5
  have HST : Hid (Calls Tryz.prog 17 #[.pointer (some ⟨mb, 0, none⟩)] W5 fun e w' => e = .returned (.bool false) ∧ W5 = w') := (HMB.out ▸ mStep_no hO5 ho).mono fun e w' q => ⟨q.1, q.2.symm⟩
  have HRV : Hid (Calls Tryz.prog 13 #[.pointer (some ⟨mb, 0, none⟩), .int .i64 1099511627776] W5 fun e w' => ∃ ya yc, e = .returned (.tuple #[.agg #[.slice ya K yc, .int .i64 2, .int .i64 6, .int .i64 5, .int .i64 3145733, .int .i64 0, .int .i64 1], .int .i64 0]) ∧ TwoA w (w'.alloc (.cells #[.slice ya K yc, .int .i64 2, .int .i64 6, .int .i64 5, .int .i64 3145733, .int .i64 0, .int .i64 1] 48)) gx w'.heap.size q K 2 6 5 3145733 oa ya oc yc) := by
    refine (HMB.out ▸ re_again (uev_len K) hO5 hw ho).mono ?_
    rintro e w' ⟨ya, yc, rfl, hE', b6⟩
    refine ⟨ya, yc, rfl, ?_⟩
    have hq9 := (Array.getElem?_eq_some_iff.1 hkq).1
    have l5 := (Array.getElem?_eq_some_iff.1 k5).1
    have b7 := below_newA w' (.cells #[.slice ya K yc, .int .i64 2, .int .i64 6, .int .i64 5, .int .i64 3145733, .int .i64 0, .int .i64 1] 48)
    have b67 := b6.trans (b7.mono b6.size)
    have b57 := b5.trans (b67.mono b5.size)
    exact ⟨bR.trans (b57.mono bR.size), (b67.block _ l5).trans k5, heap_alloc_new _ _, (b57.block _ hq9).trans hkq, hE.belowR b57, hE'.belowR b7⟩
  have HWG : Hid (w.heap.size ≤ gx) := by have := bR.size; show w.heap.size ≤ gx; omega
  have HGX : Hid (q < gx) := by have := (Array.getElem?_eq_some_iff.1 hkq).1; show q < gx; omega
  clear hE hS hw ho hkq bR hW5 k5 b5 hO5 HRN HMB hgx
  go_upto_region 34 with (go_at_call 17; refine Calls.mono HST.out ?_; rintro e w6 ⟨rfl, rfl⟩)
  go_upto_region 35 with (go_at_call 13; refine Calls.mono HRV.out ?_; rintro e wV ⟨ya, yc, rfl, hT⟩)
  obtain ⟨W6, hW6⟩ : ∃ W, W = wV.alloc (.cells #[.slice ya K yc, .int .i64 2, .int .i64 6, .int .i64 5, .int .i64 3145733, .int .i64 0, .int .i64 1] 48) := ⟨_, rfl⟩
  obtain ⟨gy, hgy⟩ : ∃ g, g = wV.heap.size := ⟨_, rfl⟩
  rw [← hW6, ← hgy] at hT ⊢
  clear hW6 hgy HST HRV
  have hx6 := hT.kx
  have hy6 := hT.ky
  have o0 : W6.cell? ⟨gx, 0, none⟩ = some (.slice oa K oc) := cell_arr hx6 rfl
  have o1 : W6.cell? ⟨gx, 1, none⟩ = some (.int .i64 2) := cell_arr hx6 rfl
  have o2 : W6.cell? ⟨gx, 2, none⟩ = some (.int .i64 6) := cell_arr hx6 rfl
  have o3 : W6.cell? ⟨gx, 3, none⟩ = some (.int .i64 5) := cell_arr hx6 rfl
  have o4 : W6.cell? ⟨gx, 4, none⟩ = some (.int .i64 3145733) := cell_arr hx6 rfl
  have o5 : W6.cell? ⟨gx, 5, none⟩ = some (.int .i64 0) := cell_arr hx6 rfl
  have o6 : W6.cell? ⟨gx, 6, none⟩ = some (.int .i64 1) := cell_arr hx6 rfl
  have y0 : W6.cell? ⟨gy, 0, none⟩ = some (.slice ya K yc) := cell_arr hy6 rfl
  have y1 : W6.cell? ⟨gy, 1, none⟩ = some (.int .i64 2) := cell_arr hy6 rfl
  have y2 : W6.cell? ⟨gy, 2, none⟩ = some (.int .i64 6) := cell_arr hy6 rfl
  have y3 : W6.cell? ⟨gy, 3, none⟩ = some (.int .i64 5) := cell_arr hy6 rfl
  have y4 : W6.cell? ⟨gy, 4, none⟩ = some (.int .i64 3145733) := cell_arr hy6 rfl
  have y5 : W6.cell? ⟨gy, 5, none⟩ = some (.int .i64 0) := cell_arr hy6 rfl
  have y6 : W6.cell? ⟨gy, 6, none⟩ = some (.int .i64 1) := cell_arr hy6 rfl
  have l1 := (Array.getElem?_eq_some_iff.1 hx6).1
  have l2 := (Array.getElem?_eq_some_iff.1 hy6).1
  have HS1 : Hid (Calls Tryz.prog 18 #[.agg #[.slice oa K oc, .int .i64 2, .int .i64 6, .int .i64 5, .int .i64 3145733, .int .i64 0, .int .i64 1], .agg #[.slice ya K yc, .int .i64 2, .int .i64 6, .int .i64 5, .int .i64 3145733, .int .i64 0, .int .i64 1]] W6 fun e w' => e = .returned (.bool true) ∧ TwoA w w' gx gy q K 2 6 5 3145733 oa ya oc yc) := (sameA_any W6 2 6 5 3145733 0 1 hT.eo hT.ey (uev_len _).symm).mono fun e w' q => ⟨q.1, hT.keep q.2⟩
  have qK : ((K : Int) == 1048576) = true := by have := HKK.out; simp; omega
  have qK2 : ((K : Int) != 1048576) = false := by have := HKK.out; simp; omega
  clear hT hx6 hy6
  go_upto_region 37 with (go_at_call 18; refine Calls.mono HS1.out ?_; rintro e wS ⟨rfl, hT⟩; have HTT : Hid _ := hT; have hx6 := hT.kx; have z0 : wS.cell? ⟨gx, 0, none⟩ = some (.slice oa K oc) := cell_arr hx6 rfl; have lz := (Array.getElem?_eq_some_iff.1 hx6).1; clear hT hx6)
  clear o0 y0 o1 y1 o2 y2 o3 y3 o4 y4 o5 y5 o6 y6 l1 l2 HS1 qK qK2
  have hKm : K ≤ 1048576 := by have := HKK.out; omega
  obtain ⟨eb, eo, e1, hel, -, -⟩ := HTT.out.eo.at (k := 0) (by rw [uev_len]; have := HKK.out; omega)
  subst e1
  have HEV : Hid (∀ i : Nat, i < K → wS.cell? ⟨eb, eo + i * 2, none⟩ = some (.int .i64 1) ∧ wS.cell? ⟨eb, eo + i * 2 + 1, none⟩ = some (.int .i64 (1048576 - (i : Int)))) := fun i hi => by
    have hi' : i < (uev K).length := by rw [uev_len]; exact hi
    obtain ⟨b', o', e1, -, e2, e3⟩ := HTT.out.eo.at (k := i) hi'
    rw [uev_at K i hi'] at e2 e3
    cases e1
    exact ⟨e2, e3⟩
  go_upto_region 38 with fail
  go_loopw [15] (fun v wr => ∃ i : Nat, i ≤ K ∧ v = .int .i64 (i : Int) ∧ wr = wS) (fun v _ => K - (intOf v).toNat)
  case atStart => exact ⟨0, by omega, rfl, rfl⟩
  case round =>
    obtain ⟨i, hi, rfl, rfl⟩ := hrel
    by_cases hlt : i < K
    · obtain ⟨c0, c1⟩ := HEV.out i hlt
      have m1 : IntKind.i64.wrap (1048576 - (i : Int)) = 1048576 - (i : Int) := by rw [IntKind.wrap_i64]; omega
      go_wp2_with fail
      go_roundw
      case rel => exact ⟨i + 1, by omega, by first | go_num | rfl | trivial⟩
      case measure => (simp [intOf]; try omega)
    · obtain rfl : i = K := by omega
      have hx6 := HTT.out.kx
      have fz : wr.frozen? ⟨gx, 0, none⟩ = false := fz_of hx6
      clear hx6
      go_upto_region 43 with fail
      obtain ⟨WZ, hWZ⟩ : ∃ W, W = wr.setCell ⟨gx, 0, none⟩ (.slice none 0 0) := ⟨_, rfl⟩
      rw [← hWZ]
      have kz : WZ.heap[gx]? = some (.cells #[.slice none 0 0, .int .i64 2, .int .i64 6, .int .i64 5, .int .i64 3145733, .int .i64 0, .int .i64 1] 48 (0, 0)) := by rw [hWZ]; exact heap_set_at HTT.out.kx
      have kq : WZ.heap[q]? = some (.cells #[.slice none 0 0, .int .i64 2, .int .i64 6, .int .i64 5, .int .i64 3145733, .int .i64 0, .int .i64 1] 48 (0, 0)) := by rw [hWZ]; exact (heap_set_other (by have := HGX.out; omega)).trans HTT.out.kw
      have bZ : Below w.heap.size w WZ := by
        rw [hWZ]
        exact HTT.out.bel.trans ((Only.of_set wr ⟨gx, 0, none⟩ (.slice none 0 0)).below HTT.out.bel.size (fun k hk => by have e : k = gx := hk; have := HWG.out; omega))
      have o0 : WZ.cell? ⟨gx, 0, none⟩ = some (.slice none 0 0) := cell_arr kz rfl
      have o1 : WZ.cell? ⟨gx, 1, none⟩ = some (.int .i64 2) := cell_arr kz rfl
      have o2 : WZ.cell? ⟨gx, 2, none⟩ = some (.int .i64 6) := cell_arr kz rfl
      have o3 : WZ.cell? ⟨gx, 3, none⟩ = some (.int .i64 5) := cell_arr kz rfl
      have o4 : WZ.cell? ⟨gx, 4, none⟩ = some (.int .i64 3145733) := cell_arr kz rfl
      have o5 : WZ.cell? ⟨gx, 5, none⟩ = some (.int .i64 0) := cell_arr kz rfl
      have o6 : WZ.cell? ⟨gx, 6, none⟩ = some (.int .i64 1) := cell_arr kz rfl
      have g0 : WZ.cell? ⟨q, 0, none⟩ = some (.slice none 0 0) := cell_arr kq rfl
      have g1 : WZ.cell? ⟨q, 1, none⟩ = some (.int .i64 2) := cell_arr kq rfl
      have g2 : WZ.cell? ⟨q, 2, none⟩ = some (.int .i64 6) := cell_arr kq rfl
      have g3 : WZ.cell? ⟨q, 3, none⟩ = some (.int .i64 5) := cell_arr kq rfl
      have g4 : WZ.cell? ⟨q, 4, none⟩ = some (.int .i64 3145733) := cell_arr kq rfl
      have g5 : WZ.cell? ⟨q, 5, none⟩ = some (.int .i64 0) := cell_arr kq rfl
      have g6 : WZ.cell? ⟨q, 6, none⟩ = some (.int .i64 1) := cell_arr kq rfl
      have j1 := (Array.getElem?_eq_some_iff.1 kz).1
      have j2 := (Array.getElem?_eq_some_iff.1 kq).1
      have HS2 : Hid (Calls Tryz.prog 18 #[.agg #[.slice none 0 0, .int .i64 2, .int .i64 6, .int .i64 5, .int .i64 3145733, .int .i64 0, .int .i64 1], .agg #[.slice none 0 0, .int .i64 2, .int .i64 6, .int .i64 5, .int .i64 3145733, .int .i64 0, .int .i64 1]] WZ fun e w' => e = .returned (.bool true) ∧ Below w.heap.size w w') := (sameA_any WZ 2 6 5 3145733 0 1 (evs_nilA WZ) (evs_nilA WZ) rfl).mono fun e w' q => ⟨q.1, bZ.trans (q.2.mono bZ.size)⟩
      clear hWZ kz kq bZ HTT HEV z0 fz
      go_wp2_with (go_at_call 18; refine Calls.mono HS2.out ?_; rintro e wE ⟨rfl, bE⟩)
      go_ret
      exact ⟨rfl, bE⟩
end Go.Proofs.YtegoemeefmjnoaaGreatDoor
