import Derived.Test.YteplldbhfjfbpaaGreatDoorVcV
import Derived.Test.YteplldbhfjfbpaaGreatDoorVcL
set_option linter.unusedVariables false
set_option linter.unusedSimpArgs false
namespace Go.Proofs.YteplldbhfjfbpaaGreatDoor
open Go.ChangeShapes Go.WideShapes Go.ChangeAt Go.RowKit Go.Maps

/-- New of R16Rests' program, and what its machine answers. -/
structure RsM (wN : World) (mp : Value) (Bn : Nat) : Prop where
  first : ∀ W, Below wN.heap.size wN W → Calls Tryz.prog 12 #[mp, .int .i64 1572863] W fun e w' => ∃ ao c x2 x3 x5 x6, e = .returned (.tuple #[.agg #[.slice ao 1048576 c, .int .i64 0, .int .i64 x2, .int .i64 x3, .int .i64 1572863, .int .i64 x5, .int .i64 x6], .int .i64 0]) ∧ Below Bn W w' ∧ ∀ W2, Below w'.heap.size w' W2 → Calls Tryz.prog 12 #[mp, .int .i64 1000] W2 fun e w3 => ∃ ao c x2 x3 x5 x6, e = .returned (.tuple #[.agg #[.slice ao 1048576 c, .int .i64 0, .int .i64 x2, .int .i64 x3, .int .i64 1572864, .int .i64 x5, .int .i64 x6], .int .i64 0]) ∧ (Below Bn W2 w3 ∧ ∀ (k : Nat) (A : Array Value), W2.heap[k]? = some (Obj.cells A 40 (0, 0)) → w3.heap[k]? = W2.heap[k]?) ∧ ∀ W4, Below w3.heap.size w3 W4 → Calls Tryz.prog 19 #[mp] W4 (fun e w5 => e = .returned (.bool false) ∧ w5 = W4) ∧ Calls Tryz.prog 12 #[mp, .int .i64 1099511627776] W4 fun e w5 => ∃ ao c x2 x3 x5 x6, e = .returned (.tuple #[.agg #[.slice ao 1048576 c, .int .i64 0, .int .i64 x2, .int .i64 x3, .int .i64 1572864, .int .i64 x5, .int .i64 x6], .int .i64 0]) ∧ Below W4.heap.size W4 w5
theorem rs_new (W : World) (hTab : Tab W) {op : Int} (ho : op = 37 ∨ op = 38) {g f : Nat} (hC : StsG W (some ⟨g, 0, none⟩) 3 5 ((rsC op).map riv)) (hF : StsG W (some ⟨f, 0, none⟩) 1 5 ((oneF (rsC op) 2).map rfv)) :
    Calls Tryz.prog 9 #[.agg #[.slice (some ⟨g, 0, none⟩) 3 3, .slice (some ⟨f, 0, none⟩) 1 1, .int .i64 0], .slice none 0 0, .agg #[.int .i64 2, .int .i64 0]] W fun e w' => ∃ mb, e = .returned (.tuple #[.pointer (some ⟨mb, 0, none⟩), .int .i64 0]) ∧ Below W.heap.size W w' ∧ RsM w' (.pointer (some ⟨mb, 0, none⟩)) W.heap.size := by
  have hI : Ints W none 0 [] := ⟨Nat.le_refl _, by decide, fun h => absurd rfl h⟩
  have hnum : ∀ x ∈ rsC op, Fits x.n := by
    intro x hx
    unfold rsC at hx
    simp only [List.mem_cons, List.not_mem_nil, or_false] at hx
    rcases hx with rfl | rfl | rfl <;> (unfold Fits; simp)
  refine (newR_go W hTab (some ⟨g, 0, none⟩) 3 3 (some ⟨f, 0, none⟩) 1 1 0 (rsC op) (oneF (rsC op) 2) rfl rfl hC hF (by decide) (by decide) hnum none 0 0 [] rfl hI (by intro x hx; simp at hx) 2 0 (newErr_one (rs_form ho) (by omega) (by omega))).mono ?_
  rintro e w' ⟨s, d, W9, k, fn, rfl, ⟨hk, hf2⟩, ⟨e1, e2, e3, e4⟩, hP, hR, b9, hSt, hft, hst⟩
  have hk0 : k = 0 := by omega
  subst hk0
  have ef : fn = ⟨⟨#[109, 97, 105, 110]⟩, 2, 0, 3, 0⟩ := by
    have : (oneF (rsC op) 2)[0]? = some fn := hf2
    simpa [oneF, rsC] using this.symm
  subst ef
  obtain ⟨d1, hb, hft1⟩ := hSt.base
  have sz := b9.size
  obtain ⟨_, _, _, f3⟩ := hSt.out
  have sz2 := f3.only.size
  have hff : ∀ j, footR s d1 j → W.heap.size ≤ j := fun j hj => by
    rcases hft1 j hj with q | q
    · exact hft j q
    · omega
  refine ⟨s.mb, rfl, b9.trans (f3.only.below b9.size hft), ⟨fun W1 b1 => ?_⟩⟩
  obtain ⟨R2, R4, g1, g2, g3, g4, g5, g6, g7⟩ := rs_go ho
  have hb1 := hb.below b1
  obtain ⟨d2, hb2, hft2⟩ := hb1.base
  have sb1 := b1.size
  have hff2 : ∀ j, footR s d2 j → W.heap.size ≤ j := fun j hj => by
    rcases hft2 j hj with q | q
    · exact hff j q
    · omega
  refine (mRunR_keep hb2 rfl hP hR (K := 1572863) (fuel := 1572863) (Bn := W.heap.size) (by omega) (by omega) (Or.inl rfl) (RF := R2) (by rw [e1, e2, e3, e4]; exact g1) hff2 (by omega)).mono ?_
  rintro e w1 ⟨ao, c, rfl, ⟨d3, hs3, hf3⟩, hR2, hE, hB1, _⟩
  refine ⟨ao, c, R2.kd, R2.vl, R2.words, R2.deep, by rw [g2.ev, g2.fin, g2.steps]; rfl, hB1, fun W2 b2 => ?_⟩
  have hs4 := hs3.below b2
  obtain ⟨d4, hb4, hft4⟩ := hs4.base
  have sb2 := b2.size
  have sbB := hB1.size
  have hff4 : ∀ j, footR s d4 j → W.heap.size ≤ j := fun j hj => by
    rcases hft4 j hj with q | q
    · exact hf3 j q
    · omega
  refine (mRunR_keep hb4 (not_over g2.fin g2.rests) hP hR2 (K := 1000) (fuel := 1000) (Bn := W.heap.size) (by omega) (by omega) (Or.inl rfl) (RF := R4) (by rw [e1, e2, e3, e4]; exact g3) hff4 (by omega)).mono ?_
  rintro e w3 ⟨ao, c, rfl, ⟨d5, hs5, hf5⟩, _, _, hB3, hK3⟩
  refine ⟨ao, c, R4.kd, R4.vl, R4.words, R4.deep, by rw [g5, g7, g6], ⟨hB3, hK3⟩, fun W4 b4 => ?_⟩
  obtain ⟨d6, _, ho6, _⟩ := (hs5.below b4).out
  refine ⟨mStepR_no ho6 g4, ?_⟩
  refine (mRunR_over ho6 g4 (fuel := 1099511627776) (by omega)).mono ?_
  rintro e w5 ⟨v, B, rfl, hRow, _, hB5⟩
  obtain ⟨ao, c, rfl, hE5⟩ := evs_of hRow
  refine ⟨ao, c, R4.kd, R4.vl, R4.words, R4.deep, ?_, hB5⟩
  unfold otvR
  rw [g5, g7, g6]
set_option maxRecDepth 100000 in
set_option maxHeartbeats 8000000 in
theorem r16Rests_in (w : World) (hTab : Tab w) (a b : Int) (h0 : (bits BinOp.and IntKind.i64 a 63 != 0) = false) (op : Int) (ho : op = 37 ∨ op = 38) (h1 : IntKind.i64.wrap (37 + bits BinOp.and IntKind.i64 b 1) = op) : Calls Tryz.prog 8 #[.int .i64 a, .int .i64 b] w fun e w' => e = .returned (.bool true) ∧ Below w.heap.size w w' := by
  have HAL : Hid (Calls Tryz.prog 10 #[] w fun e w' => e = .returned (.bool true) ∧ Below w.heap.size w w') := alive21_any w hTab
  have HNM : Hid (∀ W x, Calls Tryz.prog 11 #[.int .i64 x] W fun e w' => e = .returned (.int .i64 x) ∧ W = w') := numV_any
  have HF0 : Hid (∀ W, Below w.heap.size w W → Calls Tryz.prog 20 #[.int .i64 0] W fun e w' => e = .returned (.bool true) ∧ Below W.heap.size W w') := fun W bW => full_0 W (hTab.below bW hTab.1)
  have HF1 : Hid (∀ W, Below w.heap.size w W → Calls Tryz.prog 20 #[.int .i64 1] W fun e w' => e = .returned (.bool true) ∧ Below W.heap.size W w') := fun W bW => full_1 W (hTab.below bW hTab.1)
  have HF2 : Hid (∀ W, Below w.heap.size w W → Calls Tryz.prog 20 #[.int .i64 2] W fun e w' => e = .returned (.bool true) ∧ Below W.heap.size W w') := fun W bW => full_2 W (hTab.below bW hTab.1)
  have HF3 : Hid (∀ W, Below w.heap.size w W → Calls Tryz.prog 20 #[.int .i64 3] W fun e w' => e = .returned (.bool true) ∧ Below W.heap.size W w') := fun W bW => full_3 W (hTab.below bW hTab.1)
  have HT : Hid (Tab w) := hTab
  have HO : Hid (op = 37 ∨ op = 38) := ho
  clear hTab ho
  go_enter Tryz.func8, Tryz.ntmps8
  go_upto_region 2 with (go_at_call 10; refine Calls.mono HAL.out ?_; rintro e wL ⟨rfl, bL⟩)
  have HBL : Hid (Below w.heap.size w wL) := bL
  clear bL HAL
  go_upto_region 7 with fail
  obtain ⟨g, hg⟩ : ∃ g, g = wL.heap.size := ⟨_, rfl⟩
  obtain ⟨W6, hW6⟩ : ∃ W, W = ((wL.alloc (.cells #[.int .i64 op, .int .i64 1, .int .i64 0, .int .i64 0, .int .i64 0, .int .i64 op, .int .i64 1, .int .i64 0, .int .i64 0, .int .i64 0, .int .i64 21, .int .i64 0, .int .i64 0, .int .i64 0, .int .i64 0] 23)).alloc (.cells #[.string ⟨#[109, 97, 105, 110]⟩, .int .i64 2, .int .i64 0, .int .i64 3, .int .i64 0] 26)).alloc (.cells #[.slice (some ⟨wL.heap.size, 0, none⟩) 3 3, .slice (some ⟨wL.heap.size + 1, 0, none⟩) 1 1, .int .i64 0] 29) := ⟨_, rfl⟩
  have eal : W6 = al wL [.cells #[.int .i64 op, .int .i64 1, .int .i64 0, .int .i64 0, .int .i64 0, .int .i64 op, .int .i64 1, .int .i64 0, .int .i64 0, .int .i64 0, .int .i64 21, .int .i64 0, .int .i64 0, .int .i64 0, .int .i64 0] 23, .cells #[.string ⟨#[109, 97, 105, 110]⟩, .int .i64 2, .int .i64 0, .int .i64 3, .int .i64 0] 26, .cells #[.slice (some ⟨wL.heap.size, 0, none⟩) 3 3, .slice (some ⟨wL.heap.size + 1, 0, none⟩) 1 1, .int .i64 0] 29] := hW6
  have k0 : W6.heap[g]? = some (.cells #[.int .i64 op, .int .i64 1, .int .i64 0, .int .i64 0, .int .i64 0, .int .i64 op, .int .i64 1, .int .i64 0, .int .i64 0, .int .i64 0, .int .i64 21, .int .i64 0, .int .i64 0, .int .i64 0, .int .i64 0] 23 (0, 0)) := by rw [eal, hg]; exact al_at _ wL 0 (by simp)
  have k1 : W6.heap[g + 1]? = some (.cells #[.string ⟨#[109, 97, 105, 110]⟩, .int .i64 2, .int .i64 0, .int .i64 3, .int .i64 0] 26 (0, 0)) := by rw [eal, hg]; exact al_at _ wL 1 (by simp)
  have k2 : W6.heap[g + 1 + 1]? = some (.cells #[.slice (some ⟨g, 0, none⟩) 3 3, .slice (some ⟨g + 1, 0, none⟩) 1 1, .int .i64 0] 29 (0, 0)) := by rw [eal, hg]; exact al_at _ wL 2 (by simp)
  have b6 : Below wL.heap.size wL W6 := by rw [eal]; exact al_below _ wL
  have HB6 : Hid (Below w.heap.size w W6) := HBL.out.trans (b6.mono HBL.out.size)
  rw [← hW6, ← hg]
  have HNE : Hid _ := rs_new W6 (HT.out.below HB6.out HT.out.1) HO.out (stsG_exact (xs := (rsC op).map riv) k0 rfl rfl rfl (by show 3 ≤ _; omega)) (stsG_exact (xs := (oneF (rsC op) 2).map rfv) k1 rfl rfl rfl (by show 1 ≤ _; omega))
  have x0 : W6.cell? ⟨g + 1 + 1, 0, none⟩ = some (.slice (some ⟨g, 0, none⟩) 3 3) := cell_arr k2 rfl
  have x1 : W6.cell? ⟨g + 1 + 1, 1, none⟩ = some (.slice (some ⟨g + 1, 0, none⟩) 1 1) := cell_arr k2 rfl
  have x2 : W6.cell? ⟨g + 1 + 1, 2, none⟩ = some (.int .i64 0) := cell_arr k2 rfl
  have l2 := (Array.getElem?_eq_some_iff.1 k2).1
  clear hW6 hg eal k0 k1 k2 b6 h0 h1 HBL
  go_wp2_with fail
  refine Calls.mono HNE.out ?_
  rintro e wN ⟨mb, rfl, bN, hM⟩
  have HBN : Hid (Below w.heap.size w wN) := HB6.out.trans (bN.mono HB6.out.size)
  have HS6 : Hid (w.heap.size ≤ W6.heap.size) := HB6.out.size
  have HM : Hid _ := hM
  clear bN hM HNE HB6 x0 x1 x2 l2
  go_wp2_with (go_at_call 11; refine (HNM.out _ _).mono ?_; rintro e w9 ⟨rfl, rfl⟩)
  refine Calls.mono (HM.out.first wN (Below.refl _ _)) ?_
  rintro e wA ⟨a1, c1, p2, p3, p5, p6, rfl, bA, hA⟩
  have HBA : Hid (Below w.heap.size w wA) := HBN.out.trans (bA.mono HS6.out)
  go_upto_region 12 with fail
  obtain ⟨pa, hpa⟩ : ∃ p, p = wA.heap.size := ⟨_, rfl⟩
  obtain ⟨wB, hwB⟩ : ∃ W, W = wA.alloc (.cells #[.slice a1 1048576 c1, .int .i64 0, .int .i64 p2, .int .i64 p3, .int .i64 1572863, .int .i64 p5, .int .i64 p6] 40) := ⟨_, rfl⟩
  rw [← hwB, ← hpa]
  have kB : wB.heap[pa]? = some (.cells #[.slice a1 1048576 c1, .int .i64 0, .int .i64 p2, .int .i64 p3, .int .i64 1572863, .int .i64 p5, .int .i64 p6] 40 (0, 0)) := by rw [hwB, hpa]; exact heap_alloc_new _ _
  have bB : Below wA.heap.size wA wB := by rw [hwB]; exact below_newR wA _
  have HKB : Hid _ := kB
  have HBB : Hid (Below w.heap.size w wB) := HBA.out.trans (bB.mono HBA.out.size)
  have HRB : Hid _ := hA wB bB
  clear hwB hpa kB bB bA hA HM HBN HBA
  go_wp2_with fail
  refine Calls.mono HRB.out ?_
  rintro e wC ⟨a2, c2, q2, q3, q5, q6, rfl, ⟨bC, kC⟩, hC⟩
  have HBC : Hid (Below w.heap.size w wC) := HBB.out.trans (bC.mono HS6.out)
  have HKC : Hid _ := (kC _ _ HKB.out).trans HKB.out
  go_upto_region 13 with fail
  obtain ⟨pb, hpb⟩ : ∃ p, p = wC.heap.size := ⟨_, rfl⟩
  obtain ⟨wD, hwD⟩ : ∃ W, W = wC.alloc (.cells #[.slice a2 1048576 c2, .int .i64 0, .int .i64 q2, .int .i64 q3, .int .i64 1572864, .int .i64 q5, .int .i64 q6] 40) := ⟨_, rfl⟩
  rw [← hwD, ← hpb]
  have kD : wD.heap[pb]? = some (.cells #[.slice a2 1048576 c2, .int .i64 0, .int .i64 q2, .int .i64 q3, .int .i64 1572864, .int .i64 q5, .int .i64 q6] 40 (0, 0)) := by rw [hwD, hpb]; exact heap_alloc_new _ _
  have bD : Below wC.heap.size wC wD := by rw [hwD]; exact below_newR wC _
  have HKA : Hid _ := (bD.block _ (Array.getElem?_eq_some_iff.1 HKC.out).1).trans HKC.out
  have HKD : Hid _ := kD
  have HBD : Hid (Below w.heap.size w wD) := HBC.out.trans (bD.mono HBC.out.size)
  have HSD : Hid _ := (hC wD bD).1
  have HRD : Hid _ := (hC wD bD).2
  clear hwD hpb kD bD bC kC hC HKB HBB HRB HBC HKC
  go_wp2_with fail
  refine Calls.mono HSD.out ?_
  rintro e w7 ⟨rfl, rfl⟩
  go_wp2_with fail
  refine Calls.mono HRD.out ?_
  rintro e wE ⟨a3, c3, r2, r3, r5, r6, rfl, bE⟩
  go_upto_region 15 with fail
  obtain ⟨pd, hpd⟩ : ∃ p, p = wE.heap.size := ⟨_, rfl⟩
  obtain ⟨wF, hwF⟩ : ∃ W, W = wE.alloc (.cells #[.slice a3 1048576 c3, .int .i64 0, .int .i64 r2, .int .i64 r3, .int .i64 1572864, .int .i64 r5, .int .i64 r6] 40) := ⟨_, rfl⟩
  rw [← hwF, ← hpd]
  have kF : wF.heap[pd]? = some (.cells #[.slice a3 1048576 c3, .int .i64 0, .int .i64 r2, .int .i64 r3, .int .i64 1572864, .int .i64 r5, .int .i64 r6] 40 (0, 0)) := by rw [hwF, hpd]; exact heap_alloc_new _ _
  have bF : Below w7.heap.size w7 wF := bE.trans (by rw [hwF]; exact (below_newR wE _).mono bE.size)
  have kaF := (bF.block _ (Array.getElem?_eq_some_iff.1 HKA.out).1).trans HKA.out
  have kbF := (bF.block _ (Array.getElem?_eq_some_iff.1 HKD.out).1).trans HKD.out
  have HBF : Hid (Below w.heap.size w wF) := HBD.out.trans (bF.mono HBD.out.size)
  have la := (Array.getElem?_eq_some_iff.1 kaF).1
  have lb := (Array.getElem?_eq_some_iff.1 kbF).1
  have ld := (Array.getElem?_eq_some_iff.1 kF).1
  have x0 : wF.cell? ⟨pa, 0, none⟩ = some (.slice a1 1048576 c1) := cell_arr kaF rfl
  have x1 : wF.cell? ⟨pa, 1, none⟩ = some (.int .i64 0) := cell_arr kaF rfl
  have x4 : wF.cell? ⟨pa, 4, none⟩ = some (.int .i64 1572863) := cell_arr kaF rfl
  have y0 : wF.cell? ⟨pb, 0, none⟩ = some (.slice a2 1048576 c2) := cell_arr kbF rfl
  have y1 : wF.cell? ⟨pb, 1, none⟩ = some (.int .i64 0) := cell_arr kbF rfl
  have y4 : wF.cell? ⟨pb, 4, none⟩ = some (.int .i64 1572864) := cell_arr kbF rfl
  have z0 : wF.cell? ⟨pd, 0, none⟩ = some (.slice a3 1048576 c3) := cell_arr kF rfl
  have z1 : wF.cell? ⟨pd, 1, none⟩ = some (.int .i64 0) := cell_arr kF rfl
  have z4 : wF.cell? ⟨pd, 4, none⟩ = some (.int .i64 1572864) := cell_arr kF rfl
  clear hwF hpd kF bF bE kaF kbF HKA HKD HBD HSD HRD
  go_wp2_with fail
  refine Calls.mono (HF0.out _ HBF.out) ?_
  rintro e wF0 ⟨rfl, bF0⟩
  replace HBF : Hid (Below w.heap.size w wF0) := HBF.out.trans (bF0.mono HBF.out.size)
  clear bF0
  go_wp2_with fail
  refine Calls.mono (HF1.out _ HBF.out) ?_
  rintro e wF1 ⟨rfl, bF1⟩
  replace HBF : Hid (Below w.heap.size w wF1) := HBF.out.trans (bF1.mono HBF.out.size)
  clear bF1
  go_wp2_with fail
  refine Calls.mono (HF2.out _ HBF.out) ?_
  rintro e wF2 ⟨rfl, bF2⟩
  replace HBF : Hid (Below w.heap.size w wF2) := HBF.out.trans (bF2.mono HBF.out.size)
  clear bF2
  go_wp2_with fail
  refine Calls.mono (HF3.out _ HBF.out) ?_
  rintro e wF3 ⟨rfl, bF3⟩
  replace HBF : Hid (Below w.heap.size w wF3) := HBF.out.trans (bF3.mono HBF.out.size)
  clear bF3
  go_wp2_with fail
  go_ret
  exact ⟨rfl, HBF.out⟩
theorem r16Rests_any (w : World) (hTab : Tab w) (a b : Int) : Calls Tryz.prog 8 #[.int .i64 a, .int .i64 b] w fun e w' => e = .returned (.bool true) ∧ Below w.heap.size w w' := by
  cases h0 : (bits BinOp.and IntKind.i64 a 63 != 0) with
  | true =>
    have HAL : Hid (Calls Tryz.prog 10 #[] w fun e w' => e = .returned (.bool true) ∧ Below w.heap.size w w') := alive21_any w hTab
    clear hTab
    go_enter Tryz.func8, Tryz.ntmps8
    go_upto_region 2 with (go_at_call 10; refine Calls.mono HAL.out ?_; rintro e wL ⟨rfl, bL⟩)
    go_wp2_with fail
    go_ret
    exact ⟨rfl, bL⟩
  | false =>
    obtain ⟨j, hj, h1⟩ := andR_small b 1 (by omega)
    have h1' : bits BinOp.and IntKind.i64 b 1 = (j : Int) := h1
    rcases (show j = 0 ∨ j = 1 by omega) with rfl | rfl
    · exact r16Rests_in w hTab a b h0 37 (Or.inl rfl) (by rw [h1', IntKind.wrap_i64]; rfl)
    · exact r16Rests_in w hTab a b h0 38 (Or.inr rfl) (by rw [h1', IntKind.wrap_i64]; rfl)
end Go.Proofs.YteplldbhfjfbpaaGreatDoor
