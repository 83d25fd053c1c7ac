import Derived.Test.YteplldbhfjfbpaaGreatDoorJbb
set_option linter.unusedVariables false
set_option linter.unusedSimpArgs false
namespace Go.Proofs.YteplldbhfjfbpaaGreatDoor
open Go.ChangeShapes Go.WideShapes Go.ChangeAt Go.RowKit Go.Maps

/-- The function main of so many instructions. -/
def oneF (C : List Ri) (fr : Int) : List Rf := [⟨⟨#[109, 97, 105, 110]⟩, fr, 0, C.length, 0⟩]
set_option maxRecDepth 100000 in
set_option maxHeartbeats 4000000 in
/-- one: the outcome of a program of one function. -/
theorem one_any (w : World) (hTab : Tab w) (ca : Option Addr) (cn cc : Nat) (C : List Ri) (hcn : cn = C.length) (hC : StsG w ca cc 5 (C.map riv)) (hlen : cn ≤ 10000000) (hnum : ∀ x ∈ C, Fits x.n) (fr : Int) (S r : Int) (hk : newErr C (oneF C fr) 0 0 S r = 0) (fuel : Nat) (hf : fuel ≤ 100000000) (MF : Rv) (hMF : smG C (oneF C fr) S r fuel ((Rv.zero []).call S ⟨⟨#[109, 97, 105, 110]⟩, fr, 0, C.length, 0⟩ (-1)) = MF) :
    Calls Tryz.prog 13 #[.slice ca cn cc, .int .i64 fr, .agg #[.int .i64 S, .int .i64 r], .slice none 0 0, .int .i64 fuel] w fun e w' => ∃ ao c, e = .returned (.tuple #[.agg #[.slice ao MF.ev.length c, .int .i64 MF.fin, .int .i64 MF.kd, .int .i64 MF.vl, .int .i64 MF.steps, .int .i64 MF.words, .int .i64 MF.deep], .bool true]) ∧ Evs w' ao c MF.ev ∧ Below w.heap.size w w' := by
  subst hcn
  have HNM : Hid (∀ W x, Calls Tryz.prog 11 #[.int .i64 x] W fun e w' => e = .returned (.int .i64 x) ∧ W = w') := numV_any
  have HNW : Hid (∀ W g, Below w.heap.size w W → W.heap[g]? = some (.cells #[.string ⟨#[109, 97, 105, 110]⟩, .int .i64 fr, .int .i64 0, .int .i64 (C.length : Int), .int .i64 0] 26 (0, 0)) → Calls Tryz.prog 9 #[.agg #[.slice ca C.length cc, .slice (some ⟨g, 0, none⟩) 1 1, .int .i64 0], .slice none 0 0, .agg #[.int .i64 S, .int .i64 r]] W fun e w' => ∃ mb, e = .returned (.tuple #[.pointer (some ⟨mb, 0, none⟩), .int .i64 0]) ∧ Below W.heap.size W w' ∧ Calls Tryz.prog 12 #[.pointer (some ⟨mb, 0, none⟩), .int .i64 fuel] w' fun e w2 => ∃ ao c, e = .returned (.tuple #[.agg #[.slice ao MF.ev.length c, .int .i64 MF.fin, .int .i64 MF.kd, .int .i64 MF.vl, .int .i64 MF.steps, .int .i64 MF.words, .int .i64 MF.deep], .int .i64 0]) ∧ (∃ B', Row w2 B' 44 2 (.slice ao MF.ev.length c) (MF.ev.map evc)) ∧ Below W.heap.size W w2) := fun W g bW hg => by
    have hF : StsG W (some ⟨g, 0, none⟩) 1 5 ((oneF C fr).map rfv) := stsG_exact (xs := (oneF C fr).map rfv) hg rfl rfl rfl (by show 1 ≤ _; omega)
    refine (newR_go W (hTab.below bW hTab.1) ca C.length cc (some ⟨g, 0, none⟩) 1 1 0 C (oneF C fr) rfl rfl (hC.below bW (Nat.le_refl _)) hF hlen (by decide) hnum none 0 0 [] rfl ⟨Nat.le_refl _, by decide, fun h => absurd rfl h⟩ (by intro x hx; simp at hx) S r hk).mono ?_
    rintro e w' ⟨s, d, W9, k, f, rfl, ⟨hk, hf2⟩, ⟨e1, e2, e3, e4⟩, hP, hR, b9, hS, hft, hst⟩
    have hk0 : k = 0 := by omega
    subst hk0
    have ef : f = ⟨⟨#[109, 97, 105, 110]⟩, fr, 0, C.length, 0⟩ := by
      have : (oneF C fr)[0]? = some f := hf2
      simpa [oneF] using this.symm
    subst ef
    obtain ⟨d1, _, _, f1⟩ := hS.out
    have bW2 : Below W.heap.size W w' := b9.trans (f1.only.below b9.size hft)
    refine ⟨s.mb, rfl, bW2, ?_⟩
    have T := mRunR_go (fuel := fuel) hS hP hR (by omega)
    rw [runN_smG, e1, e2, e3, e4, hMF] at T
    refine T.mono ?_
    rintro e w2 ⟨v, d', B, rfl, _, _, f2, hB, hRow⟩
    obtain ⟨ao, c, rfl, hE⟩ := evs_of hRow
    exact ⟨ao, c, rfl, ⟨_, hRow⟩, b9.trans (f2.only.below b9.size hft)⟩
  clear hTab hC hnum hk hMF
  go_enter Tryz.func13, Tryz.ntmps13
  go_upto_region 2 with fail
  obtain ⟨W4, hW4⟩ : ∃ W4, W4 = (((w.alloc (.cells #[.int .i64 S, .int .i64 r] 35)).alloc (.cells #[.slice none 0 0, .int .i64 0, .int .i64 0, .int .i64 0, .int .i64 0, .int .i64 0, .int .i64 0] 40)).alloc (.cells #[.string ⟨#[109, 97, 105, 110]⟩, .int .i64 fr, .int .i64 0, .int .i64 (C.length : Int), .int .i64 0] 26)).alloc (.cells #[.slice ca C.length cc, .slice (some ⟨w.heap.size + 1 + 1, 0, none⟩) 1 1, .int .i64 0] 29) := ⟨_, rfl⟩
  rw [← hW4]
  have eal : W4 = al w [.cells #[.int .i64 S, .int .i64 r] 35, .cells #[.slice none 0 0, .int .i64 0, .int .i64 0, .int .i64 0, .int .i64 0, .int .i64 0, .int .i64 0] 40, .cells #[.string ⟨#[109, 97, 105, 110]⟩, .int .i64 fr, .int .i64 0, .int .i64 (C.length : Int), .int .i64 0] 26, .cells #[.slice ca C.length cc, .slice (some ⟨w.heap.size + 1 + 1, 0, none⟩) 1 1, .int .i64 0] 29] := hW4
  have b4 : Below w.heap.size w W4 := by rw [eal]; exact al_below _ w
  obtain ⟨p0, hp0⟩ : ∃ p, p = w.heap.size := ⟨_, rfl⟩
  have k0 : W4.heap[p0]? = some (.cells #[.int .i64 S, .int .i64 r] 35 (0, 0)) := by rw [eal, hp0]; exact al_at _ w 0 (by simp)
  have k1 : W4.heap[p0 + 1]? = some (.cells #[.slice none 0 0, .int .i64 0, .int .i64 0, .int .i64 0, .int .i64 0, .int .i64 0, .int .i64 0] 40 (0, 0)) := by rw [eal, hp0]; exact al_at _ w 1 (by simp)
  have k2 : W4.heap[p0 + 1 + 1]? = some (.cells #[.string ⟨#[109, 97, 105, 110]⟩, .int .i64 fr, .int .i64 0, .int .i64 (C.length : Int), .int .i64 0] 26 (0, 0)) := by rw [eal, hp0]; exact al_at _ w 2 (by simp)
  have k3 : W4.heap[p0 + 1 + 1 + 1]? = some (.cells #[.slice ca C.length cc, .slice (some ⟨p0 + 1 + 1, 0, none⟩) 1 1, .int .i64 0] 29 (0, 0)) := by rw [eal, hp0]; exact al_at _ w 3 (by simp)
  rw [← hp0]
  have l0 := (Array.getElem?_eq_some_iff.1 k0).1
  have l3 := (Array.getElem?_eq_some_iff.1 k3).1
  have x0 : W4.cell? ⟨p0, 0, none⟩ = some (.int .i64 S) := cell_arr k0 rfl
  have x1 : W4.cell? ⟨p0, 1, none⟩ = some (.int .i64 r) := cell_arr k0 rfl
  have y0 : W4.cell? ⟨p0 + 1 + 1 + 1, 0, none⟩ = some (.slice ca C.length cc) := cell_arr k3 rfl
  have y1 : W4.cell? ⟨p0 + 1 + 1 + 1, 1, none⟩ = some (.slice (some ⟨p0 + 1 + 1, 0, none⟩) 1 1) := cell_arr k3 rfl
  have y2 : W4.cell? ⟨p0 + 1 + 1 + 1, 2, none⟩ = some (.int .i64 0) := cell_arr k3 rfl
  have HW : Hid _ := HNW.out W4 (p0 + 1 + 1) b4 k2
  have HK1 : Hid _ := k1
  have HB4 : Hid _ := b4
  have HP0 : Hid _ := hp0
  clear hW4 eal b4 k0 k1 k2 k3 hp0 HNW
  go_wp2_with fail
  refine Calls.mono HW.out ?_
  rintro e wN ⟨mb, rfl, bN, hRun⟩
  have HRN : Hid _ := hRun
  clear bN hRun HW l0 l3 x0 x1 y0 y1 y2
  go_upto_region 5 with (go_at_call 11; refine (HNM.out _ _).mono ?_; rintro e w9 ⟨rfl, rfl⟩)
  go_wp2_with fail
  refine Calls.mono HRN.out ?_
  rintro e wR ⟨ao, c, rfl, ⟨B9, hE⟩, bR⟩
  have k1R : wR.heap[p0 + 1]? = some (.cells #[.slice none 0 0, .int .i64 0, .int .i64 0, .int .i64 0, .int .i64 0, .int .i64 0, .int .i64 0] 40 (0, 0)) := (bR.block _ (Array.getElem?_eq_some_iff.1 HK1.out).1).trans HK1.out
  have bwR : Below w.heap.size w wR := HB4.out.trans (bR.mono HB4.out.size)
  have HBR : Hid _ := bwR
  have HER : Hid (Row wR B9 44 2 (.slice ao MF.ev.length c) (MF.ev.map evc)) := hE
  clear bR bwR hE HRN HB4 HK1
  dsimp only
  obtain ⟨w5, hw5⟩ : ∃ w5, w5 = wR.alloc (.cells #[.slice ao MF.ev.length c, .int .i64 MF.fin, .int .i64 MF.kd, .int .i64 MF.vl, .int .i64 MF.steps, .int .i64 MF.words, .int .i64 MF.deep] 40) := ⟨_, rfl⟩
  obtain ⟨p5, hp5⟩ : ∃ p5, p5 = wR.heap.size := ⟨_, rfl⟩
  have b5 : Below wR.heap.size wR w5 := by rw [hw5]; exact below_newR wR _
  have k5 : w5.heap[p5]? = some (.cells #[.slice ao MF.ev.length c, .int .i64 MF.fin, .int .i64 MF.kd, .int .i64 MF.vl, .int .i64 MF.steps, .int .i64 MF.words, .int .i64 MF.deep] 40 (0, 0)) := by rw [hw5, hp5]; exact heap_alloc_new _ _
  have k1 : w5.heap[p0 + 1]? = some (.cells #[.slice none 0 0, .int .i64 0, .int .i64 0, .int .i64 0, .int .i64 0, .int .i64 0, .int .i64 0] 40 (0, 0)) := (b5.block _ (Array.getElem?_eq_some_iff.1 k1R).1).trans k1R
  have hne : ¬ p5 = p0 + 1 := by have := (Array.getElem?_eq_some_iff.1 k1R).1; omega
  have HW5 : Hid _ := hw5
  have HP5 : Hid _ := hp5
  clear hw5 hp5 k1R b5
  have l5 := (Array.getElem?_eq_some_iff.1 k5).1
  have l1 := (Array.getElem?_eq_some_iff.1 k1).1
  have x0 : w5.cell? ⟨p5, 0, none⟩ = some (.slice ao MF.ev.length c) := cell_arr k5 rfl
  have x1 : w5.cell? ⟨p5, 1, none⟩ = some (.int .i64 MF.fin) := cell_arr k5 rfl
  have x2 : w5.cell? ⟨p5, 2, none⟩ = some (.int .i64 MF.kd) := cell_arr k5 rfl
  have x3 : w5.cell? ⟨p5, 3, none⟩ = some (.int .i64 MF.vl) := cell_arr k5 rfl
  have x4 : w5.cell? ⟨p5, 4, none⟩ = some (.int .i64 MF.steps) := cell_arr k5 rfl
  have x5 : w5.cell? ⟨p5, 5, none⟩ = some (.int .i64 MF.words) := cell_arr k5 rfl
  have x6 : w5.cell? ⟨p5, 6, none⟩ = some (.int .i64 MF.deep) := cell_arr k5 rfl
  have fz : ∀ i, w5.frozen? ⟨p0 + 1, i, none⟩ = false := fun i => fz_of k1
  have t0 : w5.cell? ⟨p0 + 1, 0, none⟩ = some (.slice none 0 0) := cell_arr k1 rfl
  have u0 : w5.frozen? ⟨p0 + 1, 0, none⟩ = false := fz_of k1
  have t1 : w5.cell? ⟨p0 + 1, 1, none⟩ = some (.int .i64 0) := cell_arr k1 rfl
  have u1 : w5.frozen? ⟨p0 + 1, 1, none⟩ = false := fz_of k1
  have t2 : w5.cell? ⟨p0 + 1, 2, none⟩ = some (.int .i64 0) := cell_arr k1 rfl
  have u2 : w5.frozen? ⟨p0 + 1, 2, none⟩ = false := fz_of k1
  have t3 : w5.cell? ⟨p0 + 1, 3, none⟩ = some (.int .i64 0) := cell_arr k1 rfl
  have u3 : w5.frozen? ⟨p0 + 1, 3, none⟩ = false := fz_of k1
  have t4 : w5.cell? ⟨p0 + 1, 4, none⟩ = some (.int .i64 0) := cell_arr k1 rfl
  have u4 : w5.frozen? ⟨p0 + 1, 4, none⟩ = false := fz_of k1
  have t5 : w5.cell? ⟨p0 + 1, 5, none⟩ = some (.int .i64 0) := cell_arr k1 rfl
  have u5 : w5.frozen? ⟨p0 + 1, 5, none⟩ = false := fz_of k1
  have t6 : w5.cell? ⟨p0 + 1, 6, none⟩ = some (.int .i64 0) := cell_arr k1 rfl
  have u6 : w5.frozen? ⟨p0 + 1, 6, none⟩ = false := fz_of k1
  have HK1 : Hid _ := k1
  have HK5 : Hid _ := k5
  clear fz
  clear k1 k5
  obtain ⟨W6, hW6⟩ : ∃ W, W = ((((((w5.setCell ⟨p0 + 1, 0, none⟩ (.slice ao MF.ev.length c)).setCell ⟨p0 + 1, 1, none⟩ (.int .i64 MF.fin)).setCell ⟨p0 + 1, 2, none⟩ (.int .i64 MF.kd)).setCell ⟨p0 + 1, 3, none⟩ (.int .i64 MF.vl)).setCell ⟨p0 + 1, 4, none⟩ (.int .i64 MF.steps)).setCell ⟨p0 + 1, 5, none⟩ (.int .i64 MF.words)).setCell ⟨p0 + 1, 6, none⟩ (.int .i64 MF.deep) := ⟨_, rfl⟩
  have HD : ∀ W : World, ∀ g : Nat, W.drew.heap[g]? = W.heap[g]? := fun W g => rfl
  have HRX : Hid (W6.drew.heap[p0 + 1]? = some (.cells #[.slice ao MF.ev.length c, .int .i64 MF.fin, .int .i64 MF.kd, .int .i64 MF.vl, .int .i64 MF.steps, .int .i64 MF.words, .int .i64 MF.deep] 40 (0, 0))) := by show _ = _; rw [HD, hW6]; exact box_seven HK1.out _ _ _ _ _ _ _
  have hsame : ∀ g, g ≠ p0 + 1 → W6.heap[g]? = w5.heap[g]? := fun g n0 => by
    rw [hW6, heap_set_other n0, heap_set_other n0, heap_set_other n0, heap_set_other n0, heap_set_other n0, heap_set_other n0, heap_set_other n0]
  have HE6 : Hid (Evs W6.drew ao c MF.ev) := by
    have h5 : Row w5 B9 44 2 (.slice ao MF.ev.length c) (MF.ev.map evc) := by
      have := HER.out
      rw [HW5.out]
      exact this.keep (below_newR _ _)
    have h6 : Row W6.drew B9 44 2 (.slice ao MF.ev.length c) (MF.ev.map evc) := h5.move fun g hg => (HD W6 g).trans (hsame g fun q => own_not h5.out HK1.out (by decide) (q ▸ hg))
    obtain ⟨ao', c', e, hE⟩ := evs_of h6
    cases e
    exact hE
  have HB6 : Hid (Below w.heap.size w W6.drew) := by
    have b5 : Below w.heap.size w w5 := HBR.out.trans (by rw [HW5.out]; exact (below_newR wR _).mono HBR.out.size)
    have hp : w.heap.size ≤ p0 + 1 := by rw [HP0.out]; omega
    refine Below.drew ?_
    rw [hW6]
    exact ((((((b5.setCell hp _).setCell hp _).setCell hp _).setCell hp _).setCell hp _).setCell hp _).setCell hp _
  have HW6 : Hid _ := hW6
  clear hW6 HD hsame
  go_upto_region 6 with fail
  rw [← HW5.out, ← HP5.out]
  go_region_with (go_at_call 11; refine (HNM.out _ _).mono ?_; rintro e w9 ⟨rfl, rfl⟩)
  all_goals (go_wp2_with fail)
  all_goals rw [← HW6.out]
  all_goals refine bodyPost_ret (v := .tuple #[.agg #[.slice ao MF.ev.length c, .int .i64 MF.fin, .int .i64 MF.kd, .int .i64 MF.vl, .int .i64 MF.steps, .int .i64 MF.words, .int .i64 MF.deep], .bool true]) ?_ rfl ⟨ao, c, rfl, HE6.out, HB6.out⟩
  all_goals exact results_row_tmp Tryz.results13 _ _ (p0 + 1) 40 _ (0, 0) _ rfl HRX.out Tryz.underlying40 rfl (by kernel_rfl)
end Go.Proofs.YteplldbhfjfbpaaGreatDoor
