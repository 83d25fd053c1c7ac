import Derived.Test.YtfofmmkihhnfmaaGreatDoorVeD
import Derived.Test.YtfofmmkihhnfmaaGreatDoorJbb
import Derived.Test.YtfofmmkihhnfmaaGreatDoorVdF
set_option linter.unusedVariables false
set_option linter.unusedSimpArgs false
namespace Go.Proofs.YtfofmmkihhnfmaaGreatDoor
open Go.ChangeShapes Go.WideShapes Go.ChangeAt Go.RowKit Go.Maps

theorem bs_toListE (S : List UInt8) : (bs S).toList = S := by rw [ByteArray.toList_eq]; simp [bs]
theorem str_eqE {a b : ByteArray} (h : (a.toList == b.toList) = true) : a = b := by
  have e := beq_iff_eq.1 h
  rw [← bs_nml a, ← bs_nml b, bs_toListE, bs_toListE] at e
  exact nml_inj e
theorem lastF_iff (x : Int) : lastF x = true ↔ (x = 21 ∨ x = 27 ∨ x = 35) := by unfold lastF; rw [decide_eq_true_eq]
/-- What the call of instruction reads. -/
def CkQ (wB W : World) (p g cb : Nat) (at_ : Nat) (ca : Option Addr) (cn cc : Nat) (fa : Option Addr) (fn fc : Nat) (m : Int) (s : ByteArray) (fr fi ct pa : Int) (x0 x1 x2 x3 x4 : Int) : Prop :=
  (W.cell? ⟨p, 0, none⟩ = some (.slice ca cn cc) ∧ W.cell? ⟨p, 1, none⟩ = some (.slice fa fn fc) ∧ W.cell? ⟨p, 2, none⟩ = some (.int .i64 m)) ∧ (W.cell? ⟨g, 0, none⟩ = some (.string s) ∧ W.cell? ⟨g, 1, none⟩ = some (.int .i64 fr) ∧ W.cell? ⟨g, 2, none⟩ = some (.int .i64 fi) ∧ W.cell? ⟨g, 3, none⟩ = some (.int .i64 ct) ∧ W.cell? ⟨g, 4, none⟩ = some (.int .i64 pa)) ∧ (W.cell? ⟨cb, at_, none⟩ = some (.int .i64 x0) ∧ W.cell? ⟨cb, at_ + 1, none⟩ = some (.int .i64 x1) ∧ W.cell? ⟨cb, at_ + 2, none⟩ = some (.int .i64 x2) ∧ W.cell? ⟨cb, at_ + 3, none⟩ = some (.int .i64 x3) ∧ W.cell? ⟨cb, at_ + 4, none⟩ = some (.int .i64 x4)) ∧ (p < W.heap.size ∧ g < W.heap.size ∧ cb < W.heap.size) ∧ Hid (Below wB.heap.size wB W)
set_option maxRecDepth 100000 in
set_option maxHeartbeats 16000000 in
theorem rCheck_any (w : World) (ca : Option Addr) (cn cc : Nat) (fa : Option Addr) (fn fc : Nat) (m : Int) (C : List Ri) (FS : List Rf) (hcn : cn = C.length) (hfn : fn = FS.length) (hC : StsG w ca cc 5 (C.map riv)) (hF : StsG w fa fc 5 (FS.map rfv)) (hlen : cn ≤ 1000000000) (hfl : fn ≤ 1000000) (hCn : ∀ x ∈ C, ReI x) (hFn : ∀ f ∈ FS, ReR f) :
    Calls Tryz.prog 13 #[.agg #[.slice ca cn cc, .slice fa fn fc, .int .i64 m]] w fun e w' => e = .returned (.int .i64 (ckE (formR C FS m))) ∧ Below w.heap.size w w' := by
  obtain ⟨E, hE⟩ : ∃ E, E = ckE (formR C FS m) := ⟨_, rfl⟩
  rw [← hE]
  obtain ⟨W1, hW1⟩ : ∃ W, W = w.alloc (.cells #[.slice ca cn cc, .slice fa fn fc, .int .i64 m] 25) := ⟨_, rfl⟩
  obtain ⟨p, hp⟩ : ∃ p, p = w.heap.size := ⟨_, rfl⟩
  have k0 : W1.heap[p]? = some (.cells #[.slice ca cn cc, .slice fa fn fc, .int .i64 m] 25 (0, 0)) := by rw [hW1, hp]; exact heap_alloc_new _ _
  have b1 : Below w.heap.size w W1 := by rw [hW1]; exact below_newR w _
  have HB1 : Hid _ := b1
  have HE : Hid (E = ckE (formR C FS m)) := hE
  have HE0 : Hid (formR C FS m = false → 210 = E) := fun h => by rw [hE, h]; rfl
  have HLE : Hid (cn = C.length ∧ fn = FS.length ∧ cn ≤ 1000000000 ∧ fn ≤ 1000000) := ⟨hcn, hfn, hlen, hfl⟩
  have HRE : Hid ((∀ x ∈ C, ReI x) ∧ ∀ f ∈ FS, ReR f) := ⟨hCn, hFn⟩
  have HW : Hid (∀ W, Below W1.heap.size W1 W → (p < W.heap.size ∧ W.cell? ⟨p, 0, none⟩ = some (.slice ca cn cc) ∧ W.cell? ⟨p, 1, none⟩ = some (.slice fa fn fc) ∧ W.cell? ⟨p, 2, none⟩ = some (.int .i64 m)) ∧ StsG W ca cc 5 (C.map riv) ∧ StsG W fa fc 5 (FS.map rfv)) := fun W bW => by
    have l0 := (Array.getElem?_eq_some_iff.1 k0).1
    have kW := (bW.block _ l0).trans k0
    have sz := bW.size
    have b2 : Below w.heap.size w W := b1.trans (bW.mono b1.size)
    exact ⟨⟨by omega, cell_arr kW rfl, cell_arr kW rfl, cell_arr kW rfl⟩, hC.below b2 (Nat.le_refl _), hF.below b2 (Nat.le_refl _)⟩
  clear hcn hfn hC hF hlen hfl hCn hFn hE k0 b1
  go_enter Tryz.func13, Tryz.ntmps13
  go_upto_region 1 with fail
  rw [← hW1, ← hp]
  have HP : Hid (p = w.heap.size) := hp
  clear hW1 hp
  go_wp2_with fail
  go_loopw [3, 4] (fun v3 v4 wr => ∃ (i next : Nat), i ≤ fn ∧ v3 = .int .i64 (next : Int) ∧ v4 = .int .i64 (i : Int) ∧ Hid (CkI C FS i next) ∧ Hid (Below W1.heap.size W1 wr)) (fun v3 v4 _ => fn - (intOf v4).toNat)
  case atStart => exact ⟨0, 0, Nat.zero_le _, rfl, rfl, CkI.start C FS, Below.refl _ _⟩
  case round =>
    obtain ⟨i, next, hi, rfl, rfl, HI, HR⟩ := hrel
    obtain ⟨⟨l0, c0, c1, c2⟩, _, _⟩ := HW.out _ HR.out
    by_cases hlt : i < fn
    · have hif : i < FS.length := by have := HLE.out; omega
      have HIF : Hid (i < FS.length) := hif
      have HLT : Hid (i < fn ∧ fn ≤ 1000000) := by have := HLE.out; show _ ∧ _; omega
      obtain ⟨fb, fo, e0, hbl, d0, d1, d2, d3, d4⟩ := fnr_at (HW.out _ HR.out).2.2 hif
      subst e0
      obtain ⟨f, hf⟩ : ∃ f, f = FS[i]'HIF.out := ⟨_, rfl⟩
      replace d0 : wr.cell? ⟨fb, fo + i * 5, none⟩ = some (.string f.name) := by rw [hf]; exact d0
      replace d1 : wr.cell? ⟨fb, fo + i * 5 + 1, none⟩ = some (.int .i64 f.fr) := by rw [hf]; exact d1
      replace d2 : wr.cell? ⟨fb, fo + i * 5 + 2, none⟩ = some (.int .i64 f.fi) := by rw [hf]; exact d2
      replace d3 : wr.cell? ⟨fb, fo + i * 5 + 3, none⟩ = some (.int .i64 f.ct) := by rw [hf]; exact d3
      replace d4 : wr.cell? ⟨fb, fo + i * 5 + 4, none⟩ = some (.int .i64 f.pa) := by rw [hf]; exact d4
      have hrf : ReR f := HRE.out.2 f (by rw [hf]; exact List.getElem_mem _)
      have HFF : Hid (f = FS[i]'HIF.out) := hf
      have HRF : Hid (ReR f) := hrf
      obtain ⟨s, hs⟩ : ∃ q, q = f.name := ⟨_, rfl⟩
      obtain ⟨fr, hfr⟩ : ∃ q, q = f.fr := ⟨_, rfl⟩
      obtain ⟨fi, hfi⟩ : ∃ q, q = f.fi := ⟨_, rfl⟩
      obtain ⟨ct, hct⟩ : ∃ q, q = f.ct := ⟨_, rfl⟩
      obtain ⟨pa, hpa⟩ : ∃ q, q = f.pa := ⟨_, rfl⟩
      rw [← hs] at d0
      rw [← hfr] at d1
      rw [← hfi] at d2
      rw [← hct] at d3
      rw [← hpa] at d4
      have HFV : Hid (f = ⟨s, fr, fi, ct, pa⟩) := by show f = _; rw [hs, hfr, hfi, hct, hpa]
      clear hs hfr hfi hct hpa hf hrf
      obtain ⟨wB, hwB⟩ : ∃ W, W = wr.alloc (.cells #[.string s, .int .i64 fr, .int .i64 fi, .int .i64 ct, .int .i64 pa] 59) := ⟨_, rfl⟩
      obtain ⟨g, hg⟩ : ∃ g, g = wr.heap.size := ⟨_, rfl⟩
      have KB : Hid (wB.heap[g]? = some (.cells #[.string s, .int .i64 fr, .int .i64 fi, .int .i64 ct, .int .i64 pa] 59 (0, 0))) := by rw [hwB, hg]; exact heap_alloc_new _ _
      have HRB : Hid (Below W1.heap.size W1 wB) := by
        have bB : Below wr.heap.size wr wB := by rw [hwB]; exact below_newR wr _
        exact HR.out.trans (bB.mono HR.out.size)
      have HEND : Hid (∀ W, Below wB.heap.size wB W → Below w.heap.size w W) := fun W bW => HB1.out.trans ((HRB.out.trans (bW.mono HRB.out.size)).mono HB1.out.size)
      go_upto_region 6 with fail
      rw [← hwB, ← hg]
      clear hwB hg c0 c1 c2 d0 d1 d2 d3 d4 hbl l0 HR
      obtain ⟨⟨l0, c0, c1, c2⟩, _, _⟩ := HW.out _ HRB.out
      have g0 : wB.cell? ⟨g, 0, none⟩ = some (.string s) := cell_arr KB.out rfl
      have g1 : wB.cell? ⟨g, 1, none⟩ = some (.int .i64 fr) := cell_arr KB.out rfl
      have g2 : wB.cell? ⟨g, 2, none⟩ = some (.int .i64 fi) := cell_arr KB.out rfl
      have g3 : wB.cell? ⟨g, 3, none⟩ = some (.int .i64 ct) := cell_arr KB.out rfl
      have g4 : wB.cell? ⟨g, 4, none⟩ = some (.int .i64 pa) := cell_arr KB.out rfl
      have lg := (Array.getElem?_eq_some_iff.1 KB.out).1
      have hnl : next ≤ cn := by have := HI.out.le; have := HLE.out; omega
      have hcl : cn ≤ 1000000000 := HLE.out.2.2.1
      have hw0 : IntKind.i64.wrap ((cn : Int) - (next : Int)) = (cn : Int) - (next : Int) := by rw [IntKind.wrap_i64]; omega
      by_cases hz0 : ¬ fi = (next : Int)
      · have hE1 : 210 = E := HE0.out (HI.out.bad1 HIF.out (by rw [← HFF.out, HFV.out]; show ¬ (fi = (next : Int) ∧ 1 ≤ ct ∧ ct ≤ (C.length : Int) - (next : Int)); have := HLE.out.1; omega))
        subst hE1
        have z0 : (fi != (next : Int)) = true := by simpa using hz0
        have HFIN : Hid (Below w.heap.size w wB) := HEND.out wB (Below.refl _ _)
        clear HE HE0 HI HFV HFF HRF HW HRE KB HEND HRB
        go_wp2_with fail
        go_ret
        exact ⟨rfl, HFIN.out⟩
      have z0 : (fi != (next : Int)) = false := by simpa using hz0
      by_cases hz1 : ct < 1
      · have hE1 : 210 = E := HE0.out (HI.out.bad1 HIF.out (by rw [← HFF.out, HFV.out]; show ¬ (fi = (next : Int) ∧ 1 ≤ ct ∧ ct ≤ (C.length : Int) - (next : Int)); have := HLE.out.1; omega))
        subst hE1
        have z1 : decide (ct < 1) = true := decide_eq_true hz1
        have HFIN : Hid (Below w.heap.size w wB) := HEND.out wB (Below.refl _ _)
        clear HE HE0 HI HFV HFF HRF HW HRE KB HEND HRB
        go_wp2_with fail
        go_ret
        exact ⟨rfl, HFIN.out⟩
      have z1 : decide (ct < 1) = false := decide_eq_false hz1
      by_cases hz2 : (cn : Int) - (next : Int) < ct
      · have hE1 : 210 = E := HE0.out (HI.out.bad1 HIF.out (by rw [← HFF.out, HFV.out]; show ¬ (fi = (next : Int) ∧ 1 ≤ ct ∧ ct ≤ (C.length : Int) - (next : Int)); have := HLE.out.1; omega))
        subst hE1
        have z2 : decide ((cn : Int) - (next : Int) < ct) = true := decide_eq_true hz2
        have y2 : decide (ct > (cn : Int) - (next : Int)) = true := z2
        have HFIN : Hid (Below w.heap.size w wB) := HEND.out wB (Below.refl _ _)
        clear HE HE0 HI HFV HFF HRF HW HRE KB HEND HRB
        go_wp2_with fail
        go_ret
        exact ⟨rfl, HFIN.out⟩
      have z2 : decide ((cn : Int) - (next : Int) < ct) = false := decide_eq_false hz2
      have y2 : decide (ct > (cn : Int) - (next : Int)) = false := z2
      by_cases hz3 : fr < 2
      · have hE1 : 210 = E := HE0.out (form_fun HIF.out (by rw [← HFF.out, HFV.out]; exact funF_bad2 (by show ¬ ((2 ≤ fr ∧ fr ≤ 1099511627776) ∧ 0 ≤ pa ∧ pa ≤ 8); omega)))
        subst hE1
        have z3 : decide (fr < 2) = true := decide_eq_true hz3
        have HFIN : Hid (Below w.heap.size w wB) := HEND.out wB (Below.refl _ _)
        clear HE HE0 HI HFV HFF HRF HW HRE KB HEND HRB
        go_wp2_with fail
        go_ret
        exact ⟨rfl, HFIN.out⟩
      have z3 : decide (fr < 2) = false := decide_eq_false hz3
      by_cases hz4 : 1099511627776 < fr
      · have hE1 : 210 = E := HE0.out (form_fun HIF.out (by rw [← HFF.out, HFV.out]; exact funF_bad2 (by show ¬ ((2 ≤ fr ∧ fr ≤ 1099511627776) ∧ 0 ≤ pa ∧ pa ≤ 8); omega)))
        subst hE1
        have z4 : decide (1099511627776 < fr) = true := decide_eq_true hz4
        have y4 : decide (fr > 1099511627776) = true := z4
        have HFIN : Hid (Below w.heap.size w wB) := HEND.out wB (Below.refl _ _)
        clear HE HE0 HI HFV HFF HRF HW HRE KB HEND HRB
        go_wp2_with fail
        go_ret
        exact ⟨rfl, HFIN.out⟩
      have z4 : decide (1099511627776 < fr) = false := decide_eq_false hz4
      have y4 : decide (fr > 1099511627776) = false := z4
      by_cases hz5 : pa < 0
      · have hE1 : 210 = E := HE0.out (form_fun HIF.out (by rw [← HFF.out, HFV.out]; exact funF_bad2 (by show ¬ ((2 ≤ fr ∧ fr ≤ 1099511627776) ∧ 0 ≤ pa ∧ pa ≤ 8); omega)))
        subst hE1
        have z5 : decide (pa < 0) = true := decide_eq_true hz5
        have HFIN : Hid (Below w.heap.size w wB) := HEND.out wB (Below.refl _ _)
        clear HE HE0 HI HFV HFF HRF HW HRE KB HEND HRB
        go_wp2_with fail
        go_ret
        exact ⟨rfl, HFIN.out⟩
      have z5 : decide (pa < 0) = false := decide_eq_false hz5
      by_cases hz6 : 8 < pa
      · have hE1 : 210 = E := HE0.out (form_fun HIF.out (by rw [← HFF.out, HFV.out]; exact funF_bad2 (by show ¬ ((2 ≤ fr ∧ fr ≤ 1099511627776) ∧ 0 ≤ pa ∧ pa ≤ 8); omega)))
        subst hE1
        have z6 : decide (8 < pa) = true := decide_eq_true hz6
        have y6 : decide (pa > 8) = true := z6
        have HFIN : Hid (Below w.heap.size w wB) := HEND.out wB (Below.refl _ _)
        clear HE HE0 HI HFV HFF HRF HW HRE KB HEND HRB
        go_wp2_with fail
        go_ret
        exact ⟨rfl, HFIN.out⟩
      have z6 : decide (8 < pa) = false := decide_eq_false hz6
      have y6 : decide (pa > 8) = false := z6
      obtain ⟨c, hc⟩ : ∃ c : Nat, ct = ((c + 1 : Nat) : Int) := ⟨(ct - 1).toNat, by omega⟩
      have hfe : fi = (next : Int) := by omega
      subst hfe
      have HCT : Hid (ct = ((c + 1 : Nat) : Int)) := hc
      clear hc
      have HCC : Hid (next + (c + 1) ≤ cn ∧ cn ≤ 1000000000 ∧ cn = C.length) := by have := HLE.out; have := HCT.out; show _ ∧ _ ∧ _; omega
      have HF2 : Hid ((2 ≤ fr ∧ fr ≤ 1099511627776) ∧ 0 ≤ pa ∧ pa ≤ 8) := by show _ ∧ _; omega
      clear hz0 hz1 hz2 hz3 hz4 hz5 hz6
      obtain ⟨RN, hRN⟩ : ∃ R, nmOk (nml s) = R := ⟨_, rfl⟩
      have HFV2 : Hid (f.name.size = (nml s).length) := by show _ = _; rw [HFV.out]; unfold nml; rw [Array.length_toList]; rfl
      have HCN : Hid _ := rIsName_any wB (nml s) s (bs_nml s).symm (by rw [← HFV2.out]; exact Nat.le_trans HRF.out.1 (by omega)) RN hRN
      go_wp2_with fail
      refine Calls.mono HCN.out ?_
      rintro e wN ⟨rfl, bN⟩
      have HBN : Hid (Below wB.heap.size wB wN) := bN
      clear bN HCN c0 c1 c2 g0 g1 g2 g3 g4 lg l0 z0 z1 z2 z3 z4 z5 z6 y2 y4 y6
      cases RN with
      | false =>
        have hE1 : 210 = E := HE0.out (form_names (names_bad HIF.out (by rw [← HFF.out, HFV.out]; exact hRN)))
        subst hE1
        have HFIN : Hid (Below w.heap.size w wN) := HEND.out wN HBN.out
        clear HE HE0 HI HFV HFF HRF HW HRE KB HEND HRB hRN
        go_wp2_with fail
        go_ret
        exact ⟨rfl, HFIN.out⟩
      | true =>
      have HRN : Hid (nmOk (nml s) = true) := hRN
      clear hRN
      have HGC : Hid (∀ W, Below wB.heap.size wB W → (g < W.heap.size ∧ W.cell? ⟨g, 0, none⟩ = some (.string s) ∧ W.cell? ⟨g, 1, none⟩ = some (.int .i64 fr) ∧ W.cell? ⟨g, 2, none⟩ = some (.int .i64 (next : Int)) ∧ W.cell? ⟨g, 3, none⟩ = some (.int .i64 ct) ∧ W.cell? ⟨g, 4, none⟩ = some (.int .i64 pa)) ∧ (p < W.heap.size ∧ W.cell? ⟨p, 0, none⟩ = some (.slice ca cn cc) ∧ W.cell? ⟨p, 1, none⟩ = some (.slice (some ⟨fb, fo, none⟩) fn fc) ∧ W.cell? ⟨p, 2, none⟩ = some (.int .i64 m)) ∧ StsG W ca cc 5 (C.map riv) ∧ StsG W (some ⟨fb, fo, none⟩) fc 5 (FS.map rfv)) := fun W bW => by
        have lb := (Array.getElem?_eq_some_iff.1 KB.out).1
        have kW := (bW.block _ lb).trans KB.out
        have sz := bW.size
        obtain ⟨h1, h2, h3⟩ := HW.out W (HRB.out.trans (bW.mono HRB.out.size))
        exact ⟨⟨by omega, cell_arr kW rfl, cell_arr kW rfl, cell_arr kW rfl, cell_arr kW rfl, cell_arr kW rfl⟩, h1, h2, h3⟩
      go_wp2_with fail
      go_loopw [7] (fun v wr => ∃ j : Nat, j ≤ i ∧ v = .int .i64 (j : Int) ∧ Hid (∀ t (ht : t < FS.length), t < j → ¬ FS[t].name = s) ∧ Hid (Below wB.heap.size wB wr)) (fun v _ => i - (intOf v).toNat)
      case atStart => exact ⟨0, Nat.zero_le _, rfl, fun t ht q => by omega, HBN.out⟩
      case round =>
        obtain ⟨j, hj, rfl, HJ, HR2⟩ := hrel
        obtain ⟨⟨lg, g0, g1, g2, g3, g4⟩, ⟨l0, c0, c1, c2⟩, _, _⟩ := HGC.out _ HR2.out
        by_cases hjl : j < i
        · have hjf : j < FS.length := by have := HIF.out; omega
          have hjn : j < fn := by have := HLT.out; omega
          obtain ⟨fb2, fo2, e2, hbl, d0, _, _, _, _⟩ := fnr_at (HGC.out _ HR2.out).2.2.2 hjf
          cases e2
          have HJF : Hid (j < FS.length) := hjf
          obtain ⟨y, hy⟩ : ∃ y, y = (FS[j]'HJF.out).name := ⟨_, rfl⟩
          replace d0 : wr.cell? ⟨fb, fo + j * 5, none⟩ = some (.string y) := by rw [hy]; exact d0
          have HY : Hid (y = (FS[j]'HJF.out).name) := hy
          have HJL : Hid (j < i) := hjl
          have hjb : j < 1000000 := by have := HLT.out; omega
          clear hy
          by_cases he : (y.toList == s.toList) = true
          · have hys : y = s := str_eqE he
            have hE1 : 210 = E := HE0.out (form_names (names_dup HIF.out HJL.out (by rw [← HY.out, hys, ← HFF.out, HFV.out])))
            subst hE1
            have HFIN : Hid (Below w.heap.size w wr) := HEND.out wr HR2.out
            clear HE HE0 HI HFV HFF HRF HW HRE KB HEND HRB hys HY HJ HGC
            go_wp2_with fail
            go_quiet (fail)
            go_wp2_with fail
            go_ret
            exact ⟨rfl, below_drawnR HFIN.out _⟩
          · have he2 : (y.toList == s.toList) = false := by simpa using he
            have HN2 : Hid (∀ t (ht : t < FS.length), t < j + 1 → ¬ FS[t].name = s) := fun t ht q => by
              rcases Nat.lt_succ_iff_lt_or_eq.1 q with q | rfl
              · exact HJ.out t ht q
              · rw [← HY.out]
                intro e
                rw [e] at he
                exact he (by simp)
            clear he HY HJ
            go_wp2_with fail
            go_quiet (fail)
            go_wp2_with fail
            go_roundw
            case rel => exact ⟨j + 1, by have := HJL.out; omega, by go_num, HN2, below_drawnR HR2.out _⟩
            case measure => have := HJL.out; simp [intOf]; omega
        · have HJA : Hid (∀ t (ht : t < FS.length), t < i → ¬ FS[t].name = s) := fun t ht q => HJ.out t ht (by omega)
          have tj : decide ((j : Int) < (i : Int)) = false := decide_eq_false (by omega)
          clear HJ
          have HCC1 := HCC.out
          have hct := HCT.out
          obtain ⟨en, hen⟩ : ∃ q, q = next + (c + 1) := ⟨_, rfl⟩
          obtain ⟨ln, hln⟩ : ∃ q, q = next + c := ⟨_, rfl⟩
          have HEN : Hid (en = next + (c + 1) ∧ ln = next + c ∧ en ≤ cn ∧ cn ≤ 1000000000 ∧ cn = C.length) := ⟨hen, hln, by omega, by omega, HCC1.2.2⟩
          have u4 : IntKind.i64.wrap ((next : Int) + ct) = (en : Int) := by rw [IntKind.wrap_i64]; omega
          have u5 : IntKind.i64.wrap ((en : Int) - 1) = (ln : Int) := by rw [IntKind.wrap_i64]; omega
          clear HCC1 hct hen hln
          go_wp2_with fail
          go_loopw [8, 9] (fun v8 v9 wr => ∃ t : Nat, next ≤ t ∧ t ≤ en ∧ v8 = .int .i64 (t : Int) ∧ Hid (∀ q (hq : q < C.length), next ≤ q → q < t → (regsF C[q] && numF FS.length f C[q]) = true) ∧ Hid (Below wB.heap.size wB wr)) (fun v8 v9 _ => en - (intOf v8).toNat)
          case atStart => exact ⟨next, Nat.le_refl _, by have := HEN.out; omega, rfl, fun q hq h1 h2 => by omega, HR2.out⟩
          case round =>
            obtain ⟨t, ht1, ht2, rfl, HTJ, HR3⟩ := hrel
            obtain ⟨⟨lg, g0, g1, g2, g3, g4⟩, ⟨l0, c0, c1, c2⟩, _, _⟩ := HGC.out _ HR3.out
            by_cases htl : t < en
            · have HTL : Hid (t < en) := htl
              have htc : t < C.length := by have := HEN.out; omega
              have HTC : Hid (t < C.length) := htc
              have htn : t < cn := by have := HEN.out; omega
              have htb : t < 1000000000 := by have := HEN.out; omega
              have tt1 : decide ((t : Int) < (en : Int)) = true := decide_eq_true (by omega)
              obtain ⟨cb, co, e3, hcl, d0, d1, d2, d3, d4⟩ := ins_at (HGC.out _ HR3.out).2.2.1 htc
              subst e3
              obtain ⟨X, hX⟩ : ∃ X, X = C[t]'HTC.out := ⟨_, rfl⟩
              obtain ⟨x0, hx0⟩ : ∃ q, q = X.op := ⟨_, rfl⟩
              obtain ⟨x1, hx1⟩ : ∃ q, q = X.a := ⟨_, rfl⟩
              obtain ⟨x2, hx2⟩ : ∃ q, q = X.b := ⟨_, rfl⟩
              obtain ⟨x3, hx3⟩ : ∃ q, q = X.c := ⟨_, rfl⟩
              obtain ⟨x4, hx4⟩ : ∃ q, q = X.n := ⟨_, rfl⟩
              replace d0 : wr.cell? ⟨cb, co + t * 5, none⟩ = some (.int .i64 x0) := by rw [hx0, hX]; exact d0
              replace d1 : wr.cell? ⟨cb, co + t * 5 + 1, none⟩ = some (.int .i64 x1) := by rw [hx1, hX]; exact d1
              replace d2 : wr.cell? ⟨cb, co + t * 5 + 2, none⟩ = some (.int .i64 x2) := by rw [hx2, hX]; exact d2
              replace d3 : wr.cell? ⟨cb, co + t * 5 + 3, none⟩ = some (.int .i64 x3) := by rw [hx3, hX]; exact d3
              replace d4 : wr.cell? ⟨cb, co + t * 5 + 4, none⟩ = some (.int .i64 x4) := by rw [hx4, hX]; exact d4
              have HXX : Hid (X = C[t]'HTC.out) := hX
              obtain ⟨TI, hTI⟩ : ∃ T, (regsF X && numF FS.length f X) = T := ⟨_, rfl⟩
              have HTI : Hid ((regsF X && numF FS.length f X) = TI) := hTI
              have HIC : Hid (∀ W, Below wB.heap.size wB W → Calls Tryz.prog 34 #[.agg #[.slice (some ⟨cb, co, none⟩) cn cc, .slice (some ⟨fb, fo, none⟩) fn fc, .int .i64 m], .agg #[.string s, .int .i64 fr, .int .i64 (next : Int), .int .i64 ct, .int .i64 pa], .agg #[.int .i64 x0, .int .i64 x1, .int .i64 x2, .int .i64 x3, .int .i64 x4]] W fun e w' => e = .returned (.bool TI) ∧ Below W.heap.size W w') := fun W bW => by
                have hrx : ReI X := HRE.out.1 X (by rw [hX]; exact List.getElem_mem _)
                have q := rIns_any W (some ⟨cb, co, none⟩) cn cc (some ⟨fb, fo, none⟩) fn fc m f X (by rw [HFV.out]; exact HF2.out.1) (by rw [HFV.out]; show 0 ≤ (next : Int) ∧ 0 ≤ ct ∧ (next : Int) + ct ≤ 100000000000000000; have := HCT.out; have := HEN.out; omega) hrx.2.2.2.2 (T := TI) (by rw [HLE.out.2.1]; exact hTI)
                rw [hx0, hx1, hx2, hx3, hx4]
                rw [HFV.out] at q
                exact q
              have HSQ : Hid (∀ W, Below wB.heap.size wB W → CkQ wB W p g cb (co + t * 5) (some ⟨cb, co, none⟩) cn cc (some ⟨fb, fo, none⟩) fn fc m s fr (next : Int) ct pa x0 x1 x2 x3 x4) := fun W bW => by
                obtain ⟨⟨lg, g0, g1, g2, g3, g4⟩, ⟨l0, c0, c1, c2⟩, hSC, _⟩ := HGC.out _ bW
                obtain ⟨cb2, co2, e4, hcl2, d0, d1, d2, d3, d4⟩ := ins_at hSC HTC.out
                cases e4
                rw [hx0, hx1, hx2, hx3, hx4, hX]
                exact ⟨⟨c0, c1, c2⟩, ⟨g0, g1, g2, g3, g4⟩, ⟨d0, d1, d2, d3, d4⟩, ⟨l0, lg, hcl2⟩, bW⟩
              clear hX hx0 hx1 hx2 hx3 hx4 hTI
              have Sz : CkQ wB wr.drew p g cb (co + t * 5) (some ⟨cb, co, none⟩) cn cc (some ⟨fb, fo, none⟩) fn fc m s fr (next : Int) ct pa x0 x1 x2 x3 x4 := HSQ.out _ HR3.out.drew
              clear d0 d1 d2 d3 d4 c0 c1 c2 g0 g1 g2 g3 g4 l0 lg hcl
              go_upto_region 20 with fail
              refine lec_start (S := (fun w' => CkQ wB w' p g cb (co + t * 5) (some ⟨cb, co, none⟩) cn cc (some ⟨fb, fo, none⟩) fn fc m s fr (next : Int) ct pa x0 x1 x2 x3 x4)) (z := 8) (by kernel_rfl) ?_
              show lec _ _ _ _ _ 9 _ _ _
              try simp only [List.size_toArray, List.length_cons, List.length_nil, Array.replicate]
              refine lec_takeT [7, 8] (i := 0) (v := ?v0r) rfl (by kernel_rfl) (by kernel_rfl) (by kernel_rfl) (by kernel_rfl) (fun _ _ _ h => h) (.inl ⟨by rfl, ?hy0r⟩) Sz ?rest0r
              case hy0r =>
                rintro w' ⟨⟨q0, q1, q2⟩, ⟨q3, q4, q5, q6, q7⟩, ⟨q8, q9, qa, qb, qc⟩, ⟨qd, qe, qf⟩, qg⟩
                go_simp
                all_goals with_reducible rfl
              try simp only [Act.put, List.getElem_toArray, List.getElem_cons_succ, List.getElem_cons_zero, List.setIfInBounds_toArray, List.set_cons_zero, List.set_cons_succ]
              refine lec_takeT [7, 8] (i := 1) (v := ?v1r) rfl (by kernel_rfl) (by kernel_rfl) (by kernel_rfl) (by kernel_rfl) (fun _ _ _ h => h) (.inl ⟨by rfl, ?hy1r⟩) Sz ?rest1r
              case hy1r =>
                rintro w' ⟨⟨q0, q1, q2⟩, ⟨q3, q4, q5, q6, q7⟩, ⟨q8, q9, qa, qb, qc⟩, ⟨qd, qe, qf⟩, qg⟩
                go_simp
                all_goals with_reducible rfl
              try simp only [Act.put, List.getElem_toArray, List.getElem_cons_succ, List.getElem_cons_zero, List.setIfInBounds_toArray, List.set_cons_zero, List.set_cons_succ]
              refine lec_takeP (i := 2) (v := ?v2r) rfl (by kernel_rfl) (by kernel_rfl) (by kernel_rfl) (by kernel_rfl) (fun _ _ _ h => h) (.inl ⟨by rfl, ?hy2r⟩) Sz ?rest2r
              case hy2r =>
                rintro w' _
                go_simp
                all_goals with_reducible rfl
              try simp only [Act.put, List.getElem_toArray, List.getElem_cons_succ, List.getElem_cons_zero, List.setIfInBounds_toArray, List.set_cons_zero, List.set_cons_succ]
              refine lec_takeT [5, 6, 7, 8] (i := 3) (v := ?v3r) rfl (by kernel_rfl) (by kernel_rfl) (by kernel_rfl) (by kernel_rfl) (fun _ _ _ h => h) (.inl ⟨by rfl, ?hy3r⟩) Sz ?rest3r
              case hy3r =>
                rintro w' ⟨⟨q0, q1, q2⟩, ⟨q3, q4, q5, q6, q7⟩, ⟨q8, q9, qa, qb, qc⟩, ⟨qd, qe, qf⟩, qg⟩
                go_simp
                all_goals with_reducible rfl
              try simp only [Act.put, List.getElem_toArray, List.getElem_cons_succ, List.getElem_cons_zero, List.setIfInBounds_toArray, List.set_cons_zero, List.set_cons_succ]
              refine lec_takeP (i := 4) (v := ?v4r) rfl (by kernel_rfl) (by kernel_rfl) (by kernel_rfl) (by kernel_rfl) (fun _ _ _ h => h) (.inl ⟨by rfl, ?hy4r⟩) Sz ?rest4r
              case hy4r =>
                rintro w' _
                go_simp
                all_goals with_reducible rfl
              try simp only [Act.put, List.getElem_toArray, List.getElem_cons_succ, List.getElem_cons_zero, List.setIfInBounds_toArray, List.set_cons_zero, List.set_cons_succ]
              refine lec_takeP (i := 5) (v := ?v5r) rfl (by kernel_rfl) (by kernel_rfl) (by kernel_rfl) (by kernel_rfl) (fun _ _ _ h => h) (.inl ⟨by rfl, ?hy5r⟩) Sz ?rest5r
              case hy5r =>
                rintro w' _
                go_simp
                all_goals with_reducible rfl
              try simp only [Act.put, List.getElem_toArray, List.getElem_cons_succ, List.getElem_cons_zero, List.setIfInBounds_toArray, List.set_cons_zero, List.set_cons_succ]
              refine lec_takeT [7, 8] (i := 6) (v := ?v6r) rfl (by kernel_rfl) (by kernel_rfl) (by kernel_rfl) (by kernel_rfl) (fun _ _ _ h => h) (.inl ⟨by rfl, ?hy6r⟩) Sz ?rest6r
              case hy6r =>
                rintro w' ⟨⟨q0, q1, q2⟩, ⟨q3, q4, q5, q6, q7⟩, ⟨q8, q9, qa, qb, qc⟩, ⟨qd, qe, qf⟩, qg⟩
                go_simp
                all_goals with_reducible rfl
              try simp only [Act.put, List.getElem_toArray, List.getElem_cons_succ, List.getElem_cons_zero, List.setIfInBounds_toArray, List.set_cons_zero, List.set_cons_succ]
              refine lec_one (i := 7) rfl (by kernel_rfl) ?_
              intro K7 hK7
              rw [if_pos (by rfl)]
              go_simp
              refine (HIC.out _ Sz.2.2.2.2.out).mono ?_
              rintro e wX ⟨rfl, bX⟩
              have HBX : Hid (Below wB.heap.size wB wX) := Sz.2.2.2.2.out.trans (bX.mono Sz.2.2.2.2.out.size)
              have Sz : CkQ wB wX p g cb (co + t * 5) (some ⟨cb, co, none⟩) cn cc (some ⟨fb, fo, none⟩) fn fc m s fr (next : Int) ct pa x0 x1 x2 x3 x4 := HSQ.out wX HBX.out
              clear bX
              go_simp
              refine hK7 _ _ (fun _ => Sz) ?_
              clear hK7
              try simp only [Act.put, List.getElem_toArray, List.getElem_cons_succ, List.getElem_cons_zero, List.setIfInBounds_toArray, List.set_cons_zero, List.set_cons_succ]
              refine lec_one (i := 8) rfl (by kernel_rfl) ?_
              intro K8 hK8
              rw [if_pos (by rfl)]
              go_simp
              refine hK8 _ _ (fun _ => Sz) ?_
              clear hK8
              try simp only [Act.put, List.getElem_toArray, List.getElem_cons_succ, List.getElem_cons_zero, List.setIfInBounds_toArray, List.set_cons_zero, List.set_cons_succ]
              refine lec_done (by kernel_rfl) ?_
              cases TI with
              | false =>
                have hE1 : 210 = E := HE0.out (form_fun HIF.out (by rw [← HFF.out]; exact funF_ins (t := t) (by rw [HFV.out]; show 0 ≤ (next : Int); omega) (by rw [HFV.out]; show (next : Int) ≤ (t : Int); omega) (by rw [HFV.out]; show (t : Int) < (next : Int) + ct; have := HCT.out; have := HEN.out; have := HTL.out; omega) HTC.out (by rw [← HXX.out]; exact HTI.out)))
                subst hE1
                have HFIN : Hid (Below w.heap.size w wX) := HEND.out wX HBX.out
                clear HE HE0 HI HFV HFF HRF HW HRE KB HEND HRB HTJ HGC HIC HSQ HTI HXX HJA Sz
                go_wp2_with fail
                go_ret
                exact ⟨rfl, HFIN.out⟩
              | true =>
                have HTN : Hid (∀ q (hq : q < C.length), next ≤ q → q < t + 1 → (regsF C[q] && numF FS.length f C[q]) = true) := fun q hq h1 h2 => by
                  rcases Nat.lt_succ_iff_lt_or_eq.1 h2 with h3 | rfl
                  · exact HTJ.out q hq h1 h3
                  · rw [← HXX.out]; exact HTI.out
                clear HTJ HIC HSQ HTI HXX Sz
                go_wp2_with fail
                go_roundw
                case rel => exact ⟨t + 1, by omega, by have := HTL.out; omega, by go_num, HTN, HBX.out⟩
                case measure => have := HTL.out; simp [intOf]; omega
            · have tt1 : decide ((t : Int) < (en : Int)) = false := decide_eq_false (by omega)
              have hte : t = en := by omega
              have HLC : Hid (ln < C.length) := by have := HEN.out; show _ < _; omega
              have hlnc : ln < cn := by have := HEN.out; omega
              obtain ⟨cb, co, e3, hcl, d0, _, _, _, _⟩ := ins_at (HGC.out _ HR3.out).2.2.1 HLC.out
              subst e3
              obtain ⟨lo, hlo⟩ : ∃ q, q = (C[ln]'HLC.out).op := ⟨_, rfl⟩
              replace d0 : wr.cell? ⟨cb, co + ln * 5, none⟩ = some (.int .i64 lo) := by rw [hlo]; exact d0
              have HLO : Hid (lo = (C[ln]'HLC.out).op) := hlo
              replace HTJ : Hid (∀ q (hq : q < C.length), next ≤ q → q < en → (regsF C[q] && numF FS.length f C[q]) = true) := fun q hq h1 h2 => HTJ.out q hq h1 (by omega)
              clear hlo hte
              by_cases o1 : lo = 21
              · have n1 : (lo != 21) = false := by rw [o1]; rfl
                have HMORE : Hid (CkI C FS (i + 1) en) := by
                  have hf : funF C FS.length f = true := funF_all (p := next) (c := c) (by rw [HFV.out]) (by rw [HFV.out]; exact HCT.out) (by have := HEN.out; omega) (by rw [HFV.out]; exact HF2.out) (fun q hq h1 h2 => HTJ.out q hq h1 (by have := HEN.out; omega)) (by
                    have e : C[next + c]'(by have := HEN.out; omega) = C[ln]'HLC.out := by congr 1; exact HEN.out.2.1.symm
                    rw [e, ← HLO.out]
                    exact (lastF_iff lo).2 (by omega))
                  rw [HEN.out.1]
                  exact HI.out.more HIF.out (by rw [← HFF.out, HFV.out]) (by rw [← HFF.out, HFV.out]; exact HCT.out) (by have := HEN.out; omega) (by rw [← HFF.out, HFV.out]; exact HRN.out) (fun j hj => by rw [← HFF.out, HFV.out]; exact HJA.out j (by have := HIF.out; omega) hj) (by rw [← HFF.out]; exact hf)
                have HRZ : Hid (Below W1.heap.size W1 wr) := HRB.out.trans (HR3.out.mono HRB.out.size)
                have hib : i < 1000000 := by have := HLT.out; omega
                clear HI HFV HFF HRF HW HRE KB HEND HRB HJA HGC HTJ HLO HF2 HRN
                go_wp2_with fail
                go_roundw
                case rel => exact ⟨i + 1, en, by have := HLT.out; omega, rfl, by go_num, HMORE, HRZ⟩
                case measure => have := HLT.out; simp [intOf]; omega
              · have n1 : (lo != 21) = true := by simpa using o1
                by_cases o2 : lo = 27
                · have n2 : (lo != 27) = false := by rw [o2]; rfl
                  have HMORE : Hid (CkI C FS (i + 1) en) := by
                    have hf : funF C FS.length f = true := funF_all (p := next) (c := c) (by rw [HFV.out]) (by rw [HFV.out]; exact HCT.out) (by have := HEN.out; omega) (by rw [HFV.out]; exact HF2.out) (fun q hq h1 h2 => HTJ.out q hq h1 (by have := HEN.out; omega)) (by
                      have e : C[next + c]'(by have := HEN.out; omega) = C[ln]'HLC.out := by congr 1; exact HEN.out.2.1.symm
                      rw [e, ← HLO.out]
                      exact (lastF_iff lo).2 (by omega))
                    rw [HEN.out.1]
                    exact HI.out.more HIF.out (by rw [← HFF.out, HFV.out]) (by rw [← HFF.out, HFV.out]; exact HCT.out) (by have := HEN.out; omega) (by rw [← HFF.out, HFV.out]; exact HRN.out) (fun j hj => by rw [← HFF.out, HFV.out]; exact HJA.out j (by have := HIF.out; omega) hj) (by rw [← HFF.out]; exact hf)
                  have HRZ : Hid (Below W1.heap.size W1 wr) := HRB.out.trans (HR3.out.mono HRB.out.size)
                  have hib : i < 1000000 := by have := HLT.out; omega
                  clear HI HFV HFF HRF HW HRE KB HEND HRB HJA HGC HTJ HLO HF2 HRN 
                  go_wp2_with fail
                  go_roundw
                  case rel => exact ⟨i + 1, en, by have := HLT.out; omega, rfl, by go_num, HMORE, HRZ⟩
                  case measure => have := HLT.out; simp [intOf]; omega
                · have n2 : (lo != 27) = true := by simpa using o2
                  by_cases o3 : lo = 35
                  · have n3 : (lo != 35) = false := by rw [o3]; rfl
                    have HMORE : Hid (CkI C FS (i + 1) en) := by
                      have hf : funF C FS.length f = true := funF_all (p := next) (c := c) (by rw [HFV.out]) (by rw [HFV.out]; exact HCT.out) (by have := HEN.out; omega) (by rw [HFV.out]; exact HF2.out) (fun q hq h1 h2 => HTJ.out q hq h1 (by have := HEN.out; omega)) (by
                        have e : C[next + c]'(by have := HEN.out; omega) = C[ln]'HLC.out := by congr 1; exact HEN.out.2.1.symm
                        rw [e, ← HLO.out]
                        exact (lastF_iff lo).2 (by omega))
                      rw [HEN.out.1]
                      exact HI.out.more HIF.out (by rw [← HFF.out, HFV.out]) (by rw [← HFF.out, HFV.out]; exact HCT.out) (by have := HEN.out; omega) (by rw [← HFF.out, HFV.out]; exact HRN.out) (fun j hj => by rw [← HFF.out, HFV.out]; exact HJA.out j (by have := HIF.out; omega) hj) (by rw [← HFF.out]; exact hf)
                    have HRZ : Hid (Below W1.heap.size W1 wr) := HRB.out.trans (HR3.out.mono HRB.out.size)
                    have hib : i < 1000000 := by have := HLT.out; omega
                    clear HI HFV HFF HRF HW HRE KB HEND HRB HJA HGC HTJ HLO HF2 HRN 
                    go_wp2_with fail
                    go_roundw
                    case rel => exact ⟨i + 1, en, by have := HLT.out; omega, rfl, by go_num, HMORE, HRZ⟩
                    case measure => have := HLT.out; simp [intOf]; omega
                  · have n3 : (lo != 35) = true := by simpa using o3
                    have hE1 : 210 = E := HE0.out (form_fun HIF.out (by
                      rw [← HFF.out]
                      refine funF_last (t := ln) (by rw [HFV.out]; show (ln : Int) = (next : Int) + ct - 1; have := HCT.out; have := HEN.out; omega) HLC.out ?_
                      rw [← HLO.out, ← Bool.not_eq_true, lastF_iff]
                      omega))
                    subst hE1
                    have HFIN : Hid (Below w.heap.size w wr) := HEND.out wr HR3.out
                    clear HE HE0 HI HFV HFF HRF HW HRE KB HEND HRB HTJ HGC HJA HLO
                    go_wp2_with fail
                    go_ret
                    exact ⟨rfl, HFIN.out⟩
    · have hie : i = fn := by omega
      have hfin : formR C FS m = (decide ((next : Int) = (C.length : Int)) && mainF FS m) := by
        have := HI.out
        rw [hie, HLE.out.2.1] at this
        exact this.fin
      have ti : decide ((i : Int) < (fn : Int)) = false := decide_eq_false (by omega)
      have hmz : mainF FS m = (decide (0 ≤ m ∧ m ≤ (FS.length : Int) - 1) && decide ((FS.getD m.toNat ⟨ByteArray.empty, 0, 0, 0, 0⟩).pa = 0)) := rfl
      have hcc : cn = C.length := HLE.out.1
      have hff : fn = FS.length := HLE.out.2.1
      have HCF : Hid (cn = C.length ∧ fn = FS.length) := ⟨hcc, hff⟩
      by_cases w1 : next = cn
      · have v1 : ((next : Int) != (cn : Int)) = false := by rw [w1]; simp
        by_cases w2 : m < 0
        · have v2 : decide (m < 0) = true := decide_eq_true w2
          have hE1 : 210 = E := HE0.out (by rw [hfin, hmz, decide_eq_false (show ¬ (0 ≤ m ∧ m ≤ (FS.length : Int) - 1) by omega)]; simp)
          subst hE1
          have HFIN : Hid (Below w.heap.size w wr) := HB1.out.trans (HR.out.mono HB1.out.size)
          clear HE HE0 HI HW HRE hfin hmz hcc hff
          go_wp2_with fail
          go_ret
          exact ⟨rfl, HFIN.out⟩
        · have v2 : decide (m < 0) = false := decide_eq_false w2
          by_cases w3 : (fn : Int) ≤ m
          · have v3 : decide ((fn : Int) ≤ m) = true := decide_eq_true w3
            have v4 : decide (m ≥ (fn : Int)) = true := v3
            have hE1 : 210 = E := HE0.out (by rw [hfin, hmz, decide_eq_false (show ¬ (0 ≤ m ∧ m ≤ (FS.length : Int) - 1) by omega)]; simp)
            subst hE1
            have HFIN : Hid (Below w.heap.size w wr) := HB1.out.trans (HR.out.mono HB1.out.size)
            clear HE HE0 HI HW HRE hfin hmz hcc hff
            go_wp2_with fail
            go_ret
            exact ⟨rfl, HFIN.out⟩
          · have v3 : decide ((fn : Int) ≤ m) = false := decide_eq_false w3
            have v4 : decide (m ≥ (fn : Int)) = false := v3
            obtain ⟨mk, hmk⟩ : ∃ k : Nat, m = (k : Int) := ⟨m.toNat, by omega⟩
            subst hmk
            have hmf : mk < FS.length := by omega
            have hmn : mk < fn := by omega
            have HMF : Hid (mk < FS.length) := hmf
            obtain ⟨fb, fo, e0, hbl, _, _, _, _, d4⟩ := fnr_at (HW.out _ HR.out).2.2 hmf
            subst e0
            obtain ⟨pa, hpa⟩ : ∃ q, q = (FS[mk]'HMF.out).pa := ⟨_, rfl⟩
            replace d4 : wr.cell? ⟨fb, fo + mk * 5 + 4, none⟩ = some (.int .i64 pa) := by rw [hpa]; exact d4
            have hgd : (FS.getD ((mk : Int)).toNat ⟨ByteArray.empty, 0, 0, 0, 0⟩).pa = pa := by
              rw [hpa]
              show (FS.getD mk _).pa = _
              rw [List.getD, List.getElem?_eq_getElem hmf]
              rfl
            rw [hgd] at hmz
            clear hgd hpa
            by_cases w5 : pa = 0
            · have v5 : (pa != 0) = false := by rw [w5]; rfl
              have hE1 : E = 0 := by
                rw [HE.out, hfin, hmz, decide_eq_true (show (next : Int) = (C.length : Int) by omega), decide_eq_true (show 0 ≤ (mk : Int) ∧ (mk : Int) ≤ (FS.length : Int) - 1 by omega), decide_eq_true w5]
                rfl
              subst hE1
              have HFIN : Hid (Below w.heap.size w wr) := HB1.out.trans (HR.out.mono HB1.out.size)
              clear HE HE0 HI HW HRE hfin hmz hcc hff w5
              go_wp2_with fail
              go_ret
              exact ⟨rfl, HFIN.out⟩
            · have v5 : (pa != 0) = true := by simpa using w5
              have hE1 : 210 = E := HE0.out (by rw [hfin, hmz, decide_eq_false w5]; simp)
              subst hE1
              have HFIN : Hid (Below w.heap.size w wr) := HB1.out.trans (HR.out.mono HB1.out.size)
              clear HE HE0 HI HW HRE hfin hmz hcc hff w5
              go_wp2_with fail
              go_ret
              exact ⟨rfl, HFIN.out⟩
      · have v1 : ((next : Int) != (cn : Int)) = true := by rw [bne_iff_ne]; omega
        have hE1 : 210 = E := HE0.out (by rw [hfin, decide_eq_false (show ¬ (next : Int) = (C.length : Int) by omega)]; simp)
        subst hE1
        have HFIN : Hid (Below w.heap.size w wr) := HB1.out.trans (HR.out.mono HB1.out.size)
        clear HE HE0 HI HW HRE hfin hmz hcc hff
        go_wp2_with fail
        go_ret
        exact ⟨rfl, HFIN.out⟩
end Go.Proofs.YtfofmmkihhnfmaaGreatDoor
