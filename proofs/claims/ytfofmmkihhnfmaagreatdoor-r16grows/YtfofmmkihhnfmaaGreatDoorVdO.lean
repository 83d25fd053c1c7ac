import Derived.Test.YtfofmmkihhnfmaaGreatDoorVdN
import Derived.Test.YtfofmmkihhnfmaaGreatDoorVcL
import Derived.Deep.Cut
import Derived.Deep.CutRange
set_option linter.unusedVariables false
set_option linter.unusedSimpArgs false
namespace Go.Proofs.YtfofmmkihhnfmaaGreatDoor
open Go.ChangeShapes Go.WideShapes Go.ChangeAt Go.RowKit Go.Maps

theorem newErr_lims {C : List Ri} {FS : List Rf} {m : Int} {n : Nat} {S r : Int} (h : newErr C FS m n S r = 0) : ((0 ≤ S ∧ S ≤ 1099511627776) ∧ (0 ≤ r ∧ r ≤ 1099511627776)) ∧ ∀ S' r' : Int, (0 ≤ S' ∧ S' ≤ 1099511627776) → (0 ≤ r' ∧ r' ≤ 1099511627776) → newErr C FS m n S' r' = 0 := by
  unfold newErr at h
  cases e : formR C FS m with
  | false => rw [if_pos e] at h; cases h
  | true =>
    rw [if_neg (by rw [e]; simp)] at h
    by_cases hn : 1048576 < n
    · rw [if_pos hn] at h; cases h
    · rw [if_neg hn] at h
      by_cases hl : (decide (0 ≤ S ∧ S ≤ 1099511627776) && decide (0 ≤ r ∧ r ≤ 1099511627776)) = false
      · rw [if_pos hl] at h; cases h
      · have q : (decide (0 ≤ S ∧ S ≤ 1099511627776) && decide (0 ≤ r ∧ r ≤ 1099511627776)) = true := by revert hl; cases (decide (0 ≤ S ∧ S ≤ 1099511627776) && decide (0 ≤ r ∧ r ≤ 1099511627776)) <;> simp
        simp only [Bool.and_eq_true, decide_eq_true_eq] at q
        refine ⟨q, fun S' r' h1 h2 => ?_⟩
        unfold newErr
        rw [if_neg (by rw [e]; simp), if_neg hn, if_neg (by simp [h1, h2])]
set_option maxRecDepth 100000 in
set_option maxHeartbeats 8000000 in
theorem r16Grows_in (w : World) (hTab : Tab w) (ca : Option Addr) (cc : Nat) (C : List Ri) (fa : Option Addr) (fc : Nat) (FS : List Rf) (m : Int) (hC : StsG w ca cc 5 (C.map riv)) (hCl : C.length ≤ 140737488351232) (hCn : ∀ x ∈ C, ReI x) (hF : StsG w fa fc 5 (FS.map rfv)) (hFl : FS.length ≤ 140737488351232) (hFn : ∀ f ∈ FS, ReR f) (ia : Option Addr) (ic : Nat) (I : List Int) (hI : Ints w ia ic I) (hIl : I.length ≤ 140737488351232) (hIf : ∀ x ∈ I, Fits x) (S r S9 r9 : Int) (hS : Fits S) (hr : Fits r) (a0 : Int) (a s9 q9 : Nat) (ha : bits BinOp.and IntKind.i64 a0 32767 = (a : Int)) (hal : a ≤ 32767) (hs9 : bits BinOp.and IntKind.i64 S9 1048575 = (s9 : Int)) (hs9l : s9 ≤ 1048575) (hq9 : bits BinOp.and IntKind.i64 r9 1048575 = (q9 : Int)) (hq9l : q9 ≤ 1048575) :
    Calls Tryz.prog 3 #[.agg #[.slice ca C.length cc, .slice fa FS.length fc, .int .i64 m], .slice ia I.length ic, .agg #[.int .i64 S, .int .i64 r], .agg #[.int .i64 S9, .int .i64 r9], .int .i64 a0] w fun e w' => e = .returned (.bool true) ∧ Below w.heap.size w w' := by
  obtain ⟨cn, hcn⟩ : ∃ n, n = C.length := ⟨_, rfl⟩
  obtain ⟨fn, hfn⟩ : ∃ n, n = FS.length := ⟨_, rfl⟩
  obtain ⟨n, hin⟩ : ∃ n, n = I.length := ⟨_, rfl⟩
  rw [← hcn, ← hfn, ← hin]
  rw [← hcn] at hCl
  rw [← hfn] at hFl
  rw [← hin] at hIl
  obtain ⟨W1, hW1⟩ : ∃ W, W = ((w.alloc (.cells #[.slice ca cn cc, .slice fa fn fc, .int .i64 m] 25)).alloc (.cells #[.int .i64 S, .int .i64 r] 28)).alloc (.cells #[.int .i64 S9, .int .i64 r9] 28) := ⟨_, rfl⟩
  have eal : W1 = al w [.cells #[.slice ca cn cc, .slice fa fn fc, .int .i64 m] 25, .cells #[.int .i64 S, .int .i64 r] 28, .cells #[.int .i64 S9, .int .i64 r9] 28] := hW1
  obtain ⟨p, hp⟩ : ∃ p, p = w.heap.size := ⟨_, rfl⟩
  have k0 : W1.heap[p]? = some (.cells #[.slice ca cn cc, .slice fa fn fc, .int .i64 m] 25 (0, 0)) := by rw [eal, hp]; exact al_at _ w 0 (by simp)
  have k1 : W1.heap[p + 1]? = some (.cells #[.int .i64 S, .int .i64 r] 28 (0, 0)) := by rw [eal, hp]; exact al_at _ w 1 (by simp)
  have k2 : W1.heap[p + 1 + 1]? = some (.cells #[.int .i64 S9, .int .i64 r9] 28 (0, 0)) := by rw [eal, hp]; exact al_at _ w 2 (by simp)
  have b1 : Below w.heap.size w W1 := by rw [eal]; exact al_below _ w
  have HK0 : Hid _ := k0
  have HK1 : Hid _ := k1
  have HK2 : Hid _ := k2
  have HB1 : Hid _ := b1
  have HFI : Hid _ := fitsV_any W1 ca cn cc fa fn fc m ia n ic FS hfn (hF.below b1 (Nat.le_refl _)) (fun f hf => (hFn f hf).1) hCl hFl hIl
  have HIN : Hid (StsG w ca cc 5 (C.map riv) ∧ StsG w fa fc 5 (FS.map rfv) ∧ Ints w ia ic I) := ⟨hC, hF, hI⟩
  have HNU : Hid ((∀ x ∈ C, Fits x.n) ∧ ∀ x ∈ I, Fits x) := ⟨fun x hx => (hCn x hx).2.2.2.2, hIf⟩
  have HLE : Hid (cn = C.length ∧ fn = FS.length ∧ n = I.length) := ⟨hcn, hfn, hin⟩
  have HT : Hid (Tab w) := hTab
  have HT9 : Hid (Tab w) := hTab
  have HAB : Hid (a ≤ 32767 ∧ s9 ≤ 1048575 ∧ q9 ≤ 1048575) := ⟨hal, hs9l, hq9l⟩
  have HS9 : Hid _ := hs9
  have HQ9 : Hid _ := hq9
  have HNM : Hid (∀ W x, Calls Tryz.prog 10 #[.int .i64 x] W fun e w' => e = .returned (.int .i64 x) ∧ W = w') := numV_any
  clear hcn hfn hin hC hCl hCn hF hFl hFn hI hIl hIf hTab hal hS hr eal k0 k1 k2 b1 hs9 hq9 hs9l hq9l
  go_enter Tryz.func3, Tryz.ntmps3
  go_upto_region 1 with fail
  rw [← hW1, ← hp]
  have HP : Hid (p = w.heap.size) := hp
  clear hW1 hp
  have x0 : W1.cell? ⟨p, 0, none⟩ = some (.slice ca cn cc) := cell_arr HK0.out rfl
  have x1 : W1.cell? ⟨p, 1, none⟩ = some (.slice fa fn fc) := cell_arr HK0.out rfl
  have x2 : W1.cell? ⟨p, 2, none⟩ = some (.int .i64 m) := cell_arr HK0.out rfl
  have l0 := (Array.getElem?_eq_some_iff.1 HK0.out).1
  have l1 := (Array.getElem?_eq_some_iff.1 HK1.out).1
  have l2 := (Array.getElem?_eq_some_iff.1 HK2.out).1
  go_wp2_with fail
  refine Calls.mono HFI.out ?_
  rintro e wF ⟨⟨T, rfl, hT⟩, bF⟩
  have HBF : Hid (Below w.heap.size w wF) := HB1.out.trans (bF.mono HB1.out.size)
  have HKF0 : Hid _ := (bF.block _ l0).trans HK0.out
  have HKF1 : Hid _ := (bF.block _ l1).trans HK1.out
  have HKF2 : Hid _ := (bF.block _ l2).trans HK2.out
  have HLP : Hid (p < wF.heap.size ∧ p + 1 < wF.heap.size ∧ p + 1 + 1 < wF.heap.size) := by have := bF.size; show _ ∧ _ ∧ _; omega
  clear bF HFI x0 x1 x2 HK0 HK1 HK2 l0 l1 l2
  cases T with
  | false =>
    clear HKF0 HKF1 HKF2 HLP HNM HIN HNU
    go_wp2_with fail
    go_ret
    exact ⟨rfl, HBF.out⟩
  | true =>
  have HBD : Hid (cn ≤ 20000 ∧ n ≤ 20000 ∧ fn ≤ 1000) := hT rfl
  clear hT
  have HTF : Hid (Tab wF) := HT.out.below HBF.out HT.out.1
  have HAL : Hid _ := alive21_any wF HTF.out
  clear HTF HT
  go_upto_region 5 with (go_at_call 8; refine Calls.mono HAL.out ?_; rintro e wL ⟨rfl, bL⟩)
  have HBL : Hid (Below w.heap.size w wL) := HBF.out.trans (bL.mono HBF.out.size)
  have HKL0 : Hid _ := (bL.block _ HLP.out.1).trans HKF0.out
  have HKL1 : Hid _ := (bL.block _ HLP.out.2.1).trans HKF1.out
  have HKL2 : Hid _ := (bL.block _ HLP.out.2.2).trans HKF2.out
  have HLP2 : Hid (p < wL.heap.size ∧ p + 1 < wL.heap.size ∧ p + 1 + 1 < wL.heap.size) := by have := bL.size; have := HLP.out; show _ ∧ _ ∧ _; omega
  clear bL HAL HBF HKF0 HKF1 HKF2 HLP
  have x0 : wL.cell? ⟨p, 0, none⟩ = some (.slice ca cn cc) := cell_arr HKL0.out rfl
  have x1 : wL.cell? ⟨p, 1, none⟩ = some (.slice fa fn fc) := cell_arr HKL0.out rfl
  have x2 : wL.cell? ⟨p, 2, none⟩ = some (.int .i64 m) := cell_arr HKL0.out rfl
  have l0 := HLP2.out.1
  have l1 := HLP2.out.2.1
  have l2 := HLP2.out.2.2
  have y0 : wL.cell? ⟨p + 1, 0, none⟩ = some (.int .i64 S) := cell_arr HKL1.out rfl
  have y1 : wL.cell? ⟨p + 1, 1, none⟩ = some (.int .i64 r) := cell_arr HKL1.out rfl
  have y2 : wL.cell? ⟨p + 1 + 1, 0, none⟩ = some (.int .i64 S9) := cell_arr HKL2.out rfl
  have y3 : wL.cell? ⟨p + 1 + 1, 1, none⟩ = some (.int .i64 r9) := cell_arr HKL2.out rfl
  obtain ⟨k, hk⟩ : ∃ k, newErr C FS m n S r = k := ⟨_, rfl⟩
  by_cases hk0 : k = 0
  case neg =>
    have HNB : Hid (∀ W, Below w.heap.size w W → Calls Tryz.prog 9 #[.agg #[.slice ca cn cc, .slice fa fn fc, .int .i64 m], .slice ia n ic, .agg #[.int .i64 S, .int .i64 r]] W fun e w' => e = .returned (.tuple #[.pointer none, .int .i64 k]) ∧ Below W.heap.size W w') := fun W bW =>
      newR_bad W (HT9.out.below bW HT9.out.1) ca cn cc fa fn fc m C FS HLE.out.1 HLE.out.2.1 (HIN.out.1.below bW (Nat.le_refl _)) (HIN.out.2.1.below bW (Nat.le_refl _)) (by have := HBD.out; omega) (by have := HBD.out; omega) ia n ic (by have := HBD.out; omega) S r k hk hk0
    have t0 : (k != 0) = true := by simpa using hk0
    have t2 : (k == 0) = false := by simpa using hk0
    clear hk hk0 HNU HIN HLE HT9 HAB HB1
    go_wp2_with fail
    refine Calls.mono (HNB.out wL HBL.out) ?_
    rintro e wA ⟨rfl, bA⟩
    have HBA : Hid (Below w.heap.size w wA) := HBL.out.trans (bA.mono HBL.out.size)
    clear bA HNB
    go_wp2_with (go_at_call 10; refine (HNM.out _ _).mono ?_; rintro e w9 ⟨rfl, rfl⟩)
    go_ret
    exact ⟨rfl, HBA.out⟩
  case pos =>
  subst hk0
  obtain ⟨mi, f, hmi, hf, _⟩ := form_main (C := C) (FS := FS) (m := m) (by
    unfold newErr at hk
    cases e : formR C FS m with
    | true => rfl
    | false => rw [if_pos e] at hk; cases hk)
  obtain ⟨hLim, hWide⟩ := newErr_lims hk
  have HNG : Hid (∀ W (S r : Int), newErr C FS m n S r = 0 → Below w.heap.size w W → Calls Tryz.prog 9 #[.agg #[.slice ca cn cc, .slice fa fn fc, .int .i64 m], .slice ia n ic, .agg #[.int .i64 S, .int .i64 r]] W fun e w' => ∃ s, e = .returned (.tuple #[.pointer (some ⟨s.mb, 0, none⟩), .int .i64 0]) ∧ (s.C = C ∧ s.FS = FS ∧ s.S = S ∧ s.room = r) ∧ PgR s ∧ RI s 0 ((Rv.zero I).call S f (-1)) ∧ MS s w' ((Rv.zero I).call S f (-1)) (fun k => W.heap.size ≤ k ∧ k < w'.heap.size) ∧ Below W.heap.size W w') := fun W S r hk bW => by
    exact MS.new W (HT9.out.below bW HT9.out.1) ca cn cc fa fn fc m C FS HLE.out.1 HLE.out.2.1 (HIN.out.1.below bW (Nat.le_refl _)) (HIN.out.2.1.below bW (Nat.le_refl _)) (by have := HBD.out; omega) (by have := HBD.out; omega) HNU.out.1 ia n ic I HLE.out.2.2 (HIN.out.2.2.below bW (Nat.le_refl _)) HNU.out.2 S r hk (f := f) (by rw [hmi]; exact hf)
  have HLM : Hid _ := hLim
  have HWD : Hid _ := hWide
  have HEK : Hid _ := hk
  clear hk hmi hf HNU HIN HLE HT9 HB1 hLim hWide
  go_wp2_with fail
  refine Calls.mono (HNG.out wL S r HEK.out HBL.out) ?_
  rintro e wA ⟨sM, rfl, hCM, hPM, hRM, hM, bA⟩
  have HBA : Hid (Below w.heap.size w wA) := HBL.out.trans (bA.mono HBL.out.size)
  have HKA0 : Hid _ := (bA.block _ HLP2.out.1).trans HKL0.out
  have HKA1 : Hid _ := (bA.block _ HLP2.out.2.1).trans HKL1.out
  have HKA2 : Hid _ := (bA.block _ HLP2.out.2.2).trans HKL2.out
  have HLPA : Hid (p < wA.heap.size ∧ p + 1 < wA.heap.size ∧ p + 1 + 1 < wA.heap.size) := by have := bA.size; have := HLP2.out; show _ ∧ _ ∧ _; omega
  have HM : Hid _ := hM
  have HSM : Hid ((sM.C = C ∧ sM.FS = FS ∧ sM.S = S ∧ sM.room = r) ∧ PgR sM ∧ RI sM 0 ((Rv.zero I).call S f (-1))) := ⟨hCM, hPM, hRM⟩
  have HL0 : Hid (w.heap.size ≤ wL.heap.size ∧ wL.heap.size ≤ wA.heap.size) := ⟨HBL.out.size, bA.size⟩
  clear bA hCM hPM hRM hM x0 x1 x2 y0 y1 y2 y3 l0 l1 l2 HKL0 HKL1 HKL2 HLP2 HBL
  have x0 : wA.cell? ⟨p, 0, none⟩ = some (.slice ca cn cc) := cell_arr HKA0.out rfl
  have x1 : wA.cell? ⟨p, 1, none⟩ = some (.slice fa fn fc) := cell_arr HKA0.out rfl
  have x2 : wA.cell? ⟨p, 2, none⟩ = some (.int .i64 m) := cell_arr HKA0.out rfl
  have l0 := HLPA.out.1
  have l1 := HLPA.out.2.1
  have l2 := HLPA.out.2.2
  have y0 : wA.cell? ⟨p + 1, 0, none⟩ = some (.int .i64 S) := cell_arr HKA1.out rfl
  have y1 : wA.cell? ⟨p + 1, 1, none⟩ = some (.int .i64 r) := cell_arr HKA1.out rfl
  have y2 : wA.cell? ⟨p + 1 + 1, 0, none⟩ = some (.int .i64 S9) := cell_arr HKA2.out rfl
  have y3 : wA.cell? ⟨p + 1 + 1, 1, none⟩ = some (.int .i64 r9) := cell_arr HKA2.out rfl
  obtain ⟨pM, hpM⟩ : ∃ q, q = sM.mb := ⟨_, rfl⟩
  have HPM : Hid (pM = sM.mb) := hpM
  rw [← hpM]
  clear hpM
  have hs9 := HS9.out
  have hq9 := HQ9.out
  go_upto_region 9 with (go_at_call 10; refine (HNM.out _ _).mono ?_; rintro e w9 ⟨rfl, rfl⟩)
  obtain ⟨S', hS'⟩ : ∃ S' : Int, (if wrap64 (S + (s9 : Int)) < 1099511627776 then wrap64 (S + (s9 : Int)) else 1099511627776) = S' := ⟨_, rfl⟩
  obtain ⟨r', hr'⟩ : ∃ r' : Int, (if wrap64 (r + (q9 : Int)) < 1099511627776 then wrap64 (r + (q9 : Int)) else 1099511627776) = r' := ⟨_, rfl⟩
  obtain ⟨wB, hwB⟩ : ∃ W, W = wA.alloc (.cells #[.int .i64 S', .int .i64 r'] 28) := ⟨_, rfl⟩
  obtain ⟨q, hq⟩ : ∃ q, q = wA.heap.size := ⟨_, rfl⟩
  rw [hS', hr', ← hwB, ← hq]
  have HSR : Hid ((S ≤ S' ∧ 0 ≤ S' ∧ S' ≤ 1099511627776) ∧ r ≤ r' ∧ 0 ≤ r' ∧ r' ≤ 1099511627776) := by
    obtain ⟨⟨g1, g2⟩, g3, g4⟩ := HLM.out
    obtain ⟨g5, g6, g7⟩ := HAB.out
    have e1 : wrap64 (S + (s9 : Int)) = S + (s9 : Int) := by unfold wrap64; omega
    have e2 : wrap64 (r + (q9 : Int)) = r + (q9 : Int) := by unfold wrap64; omega
    rw [e1] at hS'
    rw [e2] at hr'
    refine ⟨?_, ?_⟩
    · split at hS' <;> omega
    · split at hr' <;> omega
  have bB : Below wA.heap.size wA wB := by rw [hwB]; exact below_newR wA _
  have kB : wB.heap[q]? = some (.cells #[.int .i64 S', .int .i64 r'] 28 (0, 0)) := by rw [hwB, hq]; exact heap_alloc_new _ _
  have HBB : Hid (Below w.heap.size w wB) := HBA.out.trans (bB.mono HBA.out.size)
  have HKB0 : Hid _ := (bB.block _ HLPA.out.1).trans HKA0.out
  have HMB : Hid _ := HM.out.below bB
  have HLB : Hid (w.heap.size ≤ wL.heap.size ∧ wL.heap.size ≤ wA.heap.size ∧ wA.heap.size ≤ wB.heap.size) := ⟨HL0.out.1, HL0.out.2, bB.size⟩
  have HCN : Hid _ := HNG.out wB S' r' (HWD.out S' r' HSR.out.1.2 HSR.out.2.2) HBB.out
  have l3 := (Array.getElem?_eq_some_iff.1 kB).1
  have hl4 : p < wB.heap.size := by have := HLPA.out; have := bB.size; omega
  have HKB2 : Hid _ := kB
  clear hS' hr' hwB hq bB kB x0 x1 x2 y0 y1 y2 y3 l0 l1 l2 hs9 hq9 HKA0 HKA1 HKA2 HLPA HM HL0 HBA HNG HS9 HQ9 HBD HP HLM HWD HEK
  have x0 : wB.cell? ⟨p, 0, none⟩ = some (.slice ca cn cc) := cell_arr HKB0.out rfl
  have x1 : wB.cell? ⟨p, 1, none⟩ = some (.slice fa fn fc) := cell_arr HKB0.out rfl
  have x2 : wB.cell? ⟨p, 2, none⟩ = some (.int .i64 m) := cell_arr HKB0.out rfl
  have y0 : wB.cell? ⟨q, 0, none⟩ = some (.int .i64 S') := cell_arr HKB2.out rfl
  have y1 : wB.cell? ⟨q, 1, none⟩ = some (.int .i64 r') := cell_arr HKB2.out rfl
  go_wp2_with fail
  refine Calls.mono HCN.out ?_
  rintro e wC ⟨sN, rfl, hCN, hPN, hRN, hN, bC⟩
  have HN : Hid _ := hN
  have HSN : Hid ((sN.C = C ∧ sN.FS = FS ∧ sN.S = S' ∧ sN.room = r') ∧ PgR sN ∧ RI sN 0 ((Rv.zero I).call S' f (-1))) := ⟨hCN, hPN, hRN⟩
  have HBC : Hid (Below w.heap.size w wC) := HBB.out.trans (bC.mono HBB.out.size)
  have HMC : Hid _ := HMB.out.below bC
  have HLC : Hid (w.heap.size ≤ wL.heap.size ∧ wL.heap.size ≤ wA.heap.size ∧ wA.heap.size ≤ wB.heap.size ∧ wB.heap.size ≤ wC.heap.size) := ⟨HLB.out.1, HLB.out.2.1, HLB.out.2.2, bC.size⟩
  clear hN hCN hPN hRN bC x0 x1 x2 y0 y1 l3 hl4 HKB0 HKB2 HMB HLB HBB HCN
  obtain ⟨pN, hpN⟩ : ∃ q, q = sN.mb := ⟨_, rfl⟩
  have HPN : Hid (pN = sN.mb) := hpN
  rw [← hpN]
  clear hpN
  obtain ⟨X, hX⟩ : ∃ X, smG C FS S r a ((Rv.zero I).call S f (-1)) = X := ⟨_, rfl⟩
  obtain ⟨Y, hY⟩ : ∃ Y, smG C FS S' r' a ((Rv.zero I).call S' f (-1)) = Y := ⟨_, rfl⟩
  have HG : Hid (Grow X Y) := by rw [← hX, ← hY]; exact run_grow HSR.out.1.1 HSR.out.2.1 C FS a I f
  have HX : Hid _ := hX
  have HY : Hid _ := hY
  clear hX hY
  have HC1 : Hid _ := HMC.out.goes HSM.out.2.1 HSM.out.2.2 (fuel := a) (K := a) (by have := HAB.out; omega) rfl (RF := X) (by obtain ⟨e1, e2, e3, e4⟩ := HSM.out.1; rw [e1, e2, e3, e4]; exact HX.out)
  rw [← HPM.out] at HC1
  go_upto_region 12 with (go_at_call 10; refine (HNM.out _ _).mono ?_; rintro e w9 ⟨rfl, rfl⟩)
  go_wp2_with fail
  refine Calls.mono HC1.out ?_
  rintro e wD ⟨xa, xc, xB, rfl, _, _, hO, hB, hRow, _⟩
  have sz := hO.size
  have hRow2 := rowR_lower hRow (B' := wC.heap.size) (by omega)
  have HND : Hid _ := HN.out.apart hO fun k hk q => by have := HLC.out; omega
  have HBD : Hid (Below w.heap.size w wD) := HBC.out.trans (hO.below HBC.out.size fun k hk => by have := HLC.out; omega)
  have HRD : Hid _ := hRow2
  have HLD : Hid (w.heap.size ≤ wB.heap.size ∧ wB.heap.size ≤ wC.heap.size ∧ wC.heap.size ≤ wD.heap.size) := by have := HLC.out; show _ ∧ _ ∧ _; omega
  clear hO hB hRow hRow2 sz HMC HN HBC HLC HC1
  go_upto_region 13 with fail
  obtain ⟨qx, hqx⟩ : ∃ q, q = wD.heap.size := ⟨_, rfl⟩
  obtain ⟨wE, hwE⟩ : ∃ W, W = wD.alloc (.cells #[.slice xa X.ev.length xc, .int .i64 X.fin, .int .i64 X.kd, .int .i64 X.vl, .int .i64 X.steps, .int .i64 X.words, .int .i64 X.deep] 38) := ⟨_, rfl⟩
  have bE : Below wD.heap.size wD wE := by rw [hwE]; exact below_newR wD _
  have HXE : Hid (SpO wE wC.heap.size qx xa xc X) := by rw [hqx]; exact SpO.new HRD.out HLD.out.2.2 hwE
  rw [← hwE, ← hqx]
  have HNE : Hid _ := HND.out.below bE
  have HBE : Hid (Below w.heap.size w wE) := HBD.out.trans (bE.mono HBD.out.size)
  have HLE2 : Hid (w.heap.size ≤ wB.heap.size ∧ wB.heap.size ≤ wC.heap.size ∧ wC.heap.size ≤ wE.heap.size) := by have := HLD.out; have := bE.size; show _ ∧ _ ∧ _; omega
  clear hwE hqx bE HND HBD HRD HLD
  have HC2 : Hid _ := HNE.out.goes HSN.out.2.1 HSN.out.2.2 (fuel := a) (K := a) (by have := HAB.out; omega) rfl (RF := Y) (by obtain ⟨e1, e2, e3, e4⟩ := HSN.out.1; rw [e1, e2, e3, e4]; exact HY.out)
  rw [← HPN.out] at HC2
  go_wp2_with fail
  refine Calls.mono HC2.out ?_
  rintro e wG ⟨ya, yc, yB, rfl, _, _, hO, hB, hRow, _⟩
  have sz := hO.size
  have hRow2 := rowR_lower hRow (B' := wE.heap.size) (by omega)
  have HXG : Hid _ := HXE.out.apart hO fun k hk => by have := HLE2.out; omega
  have HBG : Hid (Below w.heap.size w wG) := HBE.out.trans (hO.below HBE.out.size fun k hk => by have := HLE2.out; omega)
  have HRG : Hid _ := hRow2
  have HLG : Hid (wE.heap.size ≤ wG.heap.size) := sz
  clear hO hB hRow hRow2 sz HXE HNE HBE HLE2 HC2
  go_upto_region 14 with fail
  obtain ⟨qy, hqy⟩ : ∃ q, q = wG.heap.size := ⟨_, rfl⟩
  obtain ⟨wH, hwH⟩ : ∃ W, W = wG.alloc (.cells #[.slice ya Y.ev.length yc, .int .i64 Y.fin, .int .i64 Y.kd, .int .i64 Y.vl, .int .i64 Y.steps, .int .i64 Y.words, .int .i64 Y.deep] 38) := ⟨_, rfl⟩
  have bH : Below wG.heap.size wG wH := by rw [hwH]; exact below_newR wG _
  have HYH : Hid (SpO wH wE.heap.size qy ya yc Y) := by rw [hqy]; exact SpO.new HRG.out HLG.out hwH
  rw [← hwH, ← hqy]
  have HXH : Hid _ := HXG.out.below bH
  have HBH : Hid (Below w.heap.size w wH) := HBG.out.trans (bH.mono HBG.out.size)
  clear hwH hqy bH HXG HBG HRG HLG
  obtain ⟨nx, hnx⟩ : ∃ q, q = X.ev.length := ⟨_, rfl⟩
  obtain ⟨x1, hx1⟩ : ∃ q, q = X.fin := ⟨_, rfl⟩
  obtain ⟨x2, hx2⟩ : ∃ q, q = X.kd := ⟨_, rfl⟩
  obtain ⟨x3, hx3⟩ : ∃ q, q = X.vl := ⟨_, rfl⟩
  obtain ⟨x4, hx4⟩ : ∃ q, q = X.steps := ⟨_, rfl⟩
  obtain ⟨x5, hx5⟩ : ∃ q, q = X.words := ⟨_, rfl⟩
  obtain ⟨x6, hx6⟩ : ∃ q, q = X.deep := ⟨_, rfl⟩
  have HXV : Hid (nx = X.ev.length ∧ x1 = X.fin ∧ x2 = X.kd ∧ x3 = X.vl ∧ x4 = X.steps ∧ x5 = X.words ∧ x6 = X.deep) := ⟨hnx, hx1, hx2, hx3, hx4, hx5, hx6⟩
  have ex := HXH.out.box
  rw [← hnx, ← hx1, ← hx2, ← hx3, ← hx4, ← hx5, ← hx6] at ex
  obtain ⟨ny, hny⟩ : ∃ q, q = Y.ev.length := ⟨_, rfl⟩
  obtain ⟨y1, hy1⟩ : ∃ q, q = Y.fin := ⟨_, rfl⟩
  obtain ⟨y2, hy2⟩ : ∃ q, q = Y.kd := ⟨_, rfl⟩
  obtain ⟨y3, hy3⟩ : ∃ q, q = Y.vl := ⟨_, rfl⟩
  obtain ⟨y4, hy4⟩ : ∃ q, q = Y.steps := ⟨_, rfl⟩
  obtain ⟨y5, hy5⟩ : ∃ q, q = Y.words := ⟨_, rfl⟩
  obtain ⟨y6, hy6⟩ : ∃ q, q = Y.deep := ⟨_, rfl⟩
  have HYV : Hid (ny = Y.ev.length ∧ y1 = Y.fin ∧ y2 = Y.kd ∧ y3 = Y.vl ∧ y4 = Y.steps ∧ y5 = Y.words ∧ y6 = Y.deep) := ⟨hny, hy1, hy2, hy3, hy4, hy5, hy6⟩
  have ey := HYH.out.box
  rw [← hny, ← hy1, ← hy2, ← hy3, ← hy4, ← hy5, ← hy6] at ey
  have hle : nx ≤ ny := by rw [hnx, hny]; exact HG.out.ev
  have hst : x4 ≤ y4 := by rw [hx4, hy4]; exact HG.out.steps
  have HX1 : Hid (x1 = X.fin) := hx1
  have HX2 : Hid (x2 = X.kd) := hx2
  clear hnx hny hx1 hy1 hx2 hy2 hx3 hy3 hx4 hy4 hx5 hy5 hx6 hy6
  have X0 : wH.cell? ⟨qx, 0, none⟩ = some (.slice xa nx xc) := cell_arr ex rfl
  have X1 : wH.cell? ⟨qx, 1, none⟩ = some (.int .i64 x1) := cell_arr ex rfl
  have X2 : wH.cell? ⟨qx, 2, none⟩ = some (.int .i64 x2) := cell_arr ex rfl
  have X3 : wH.cell? ⟨qx, 3, none⟩ = some (.int .i64 x3) := cell_arr ex rfl
  have X4 : wH.cell? ⟨qx, 4, none⟩ = some (.int .i64 x4) := cell_arr ex rfl
  have X5 : wH.cell? ⟨qx, 5, none⟩ = some (.int .i64 x5) := cell_arr ex rfl
  have X6 : wH.cell? ⟨qx, 6, none⟩ = some (.int .i64 x6) := cell_arr ex rfl
  have Y0 : wH.cell? ⟨qy, 0, none⟩ = some (.slice ya ny yc) := cell_arr ey rfl
  have Y1 : wH.cell? ⟨qy, 1, none⟩ = some (.int .i64 y1) := cell_arr ey rfl
  have Y2 : wH.cell? ⟨qy, 2, none⟩ = some (.int .i64 y2) := cell_arr ey rfl
  have Y3 : wH.cell? ⟨qy, 3, none⟩ = some (.int .i64 y3) := cell_arr ey rfl
  have Y4 : wH.cell? ⟨qy, 4, none⟩ = some (.int .i64 y4) := cell_arr ey rfl
  have Y5 : wH.cell? ⟨qy, 5, none⟩ = some (.int .i64 y5) := cell_arr ey rfl
  have Y6 : wH.cell? ⟨qy, 6, none⟩ = some (.int .i64 y6) := cell_arr ey rfl
  have lx := HXH.out.lt
  have ly := HYH.out.lt
  have g1 : decide ((ny : Int) ≥ (nx : Int)) = true := decide_eq_true (by omega)
  have g2 : decide (y4 ≥ x4) = true := decide_eq_true hst
  have g3 : decide ((nx : Int) ≤ (ny : Int)) = true := g1
  have g4 : decide (x4 ≤ y4) = true := g2
  clear ex ey HSM HSN HPM HPN HX HY HSR HAB HNM
  by_cases h1 : x1 = 2
  · by_cases h7 : x2 = 7
    · have f1 : (x1 == 2) = true := by simpa using h1
      have f2 : (x2 == 7) = true := by simpa using h7
      clear h1 h7
      go_wp2_with fail
      go_ret
      exact ⟨rfl, HBH.out⟩
    · by_cases h8 : x2 = 8
      · have f1 : (x1 == 2) = true := by simpa using h1
        have f2 : (x2 == 7) = false := by simpa using h7
        have f3 : (x2 == 8) = true := by simpa using h8
        clear h1 h7 h8
        go_wp2_with fail
        go_ret
        exact ⟨rfl, HBH.out⟩
      · have eXY : X = Y := HG.out.out.resolve_right (fun q => by have := HX1.out; have := HX2.out; omega)
        have HSV : Hid (Calls Tryz.prog 12 #[.agg #[.slice xa nx xc, .int .i64 x1, .int .i64 x2, .int .i64 x3, .int .i64 x4, .int .i64 x5, .int .i64 x6], .agg #[.slice ya ny yc, .int .i64 y1, .int .i64 y2, .int .i64 y3, .int .i64 y4, .int .i64 y5, .int .i64 y6]] wH fun e w' => e = .returned (.bool true) ∧ Below wH.heap.size wH w') := by
          obtain ⟨q0, q1, q2, q3, q4, q5, q6⟩ := HXV.out
          obtain ⟨p0, p1, p2, p3, p4, p5, p6⟩ := HYV.out
          rw [q0, q1, q2, q3, q4, q5, q6, p0, p1, p2, p3, p4, p5, p6, eXY]
          exact sameV_any wH _ _ _ _ _ _ (by rw [← eXY]; exact HXH.out.evs) HYH.out.evs rfl
        clear eXY
        have f1 : (x1 == 2) = true := by simpa using h1
        have f2 : (x2 == 7) = false := by simpa using h7
        have f3 : (x2 == 8) = false := by simpa using h8
        clear h1 h7 h8
        go_wp2_with fail
        refine Calls.mono HSV.out ?_
        rintro e wZ ⟨rfl, bZ⟩
        have HBZ : Hid (Below w.heap.size w wZ) := HBH.out.trans (bZ.mono HBH.out.size)
        clear bZ
        go_wp2_with fail
        go_ret
        exact ⟨rfl, HBZ.out⟩
  · have eXY : X = Y := HG.out.out.resolve_right (fun q => by have := HX1.out; have := HX2.out; omega)
    have HSV : Hid (Calls Tryz.prog 12 #[.agg #[.slice xa nx xc, .int .i64 x1, .int .i64 x2, .int .i64 x3, .int .i64 x4, .int .i64 x5, .int .i64 x6], .agg #[.slice ya ny yc, .int .i64 y1, .int .i64 y2, .int .i64 y3, .int .i64 y4, .int .i64 y5, .int .i64 y6]] wH fun e w' => e = .returned (.bool true) ∧ Below wH.heap.size wH w') := by
      obtain ⟨q0, q1, q2, q3, q4, q5, q6⟩ := HXV.out
      obtain ⟨p0, p1, p2, p3, p4, p5, p6⟩ := HYV.out
      rw [q0, q1, q2, q3, q4, q5, q6, p0, p1, p2, p3, p4, p5, p6, eXY]
      exact sameV_any wH _ _ _ _ _ _ (by rw [← eXY]; exact HXH.out.evs) HYH.out.evs rfl
    clear eXY
    have f1 : (x1 == 2) = false := by simpa using h1
    clear h1
    go_wp2_with fail
    refine Calls.mono HSV.out ?_
    rintro e wZ ⟨rfl, bZ⟩
    have HBZ : Hid (Below w.heap.size w wZ) := HBH.out.trans (bZ.mono HBH.out.size)
    clear bZ
    go_wp2_with fail
    go_ret
    exact ⟨rfl, HBZ.out⟩
theorem r16Grows_any (w : World) (hTab : Tab w) (ca : Option Addr) (cc : Nat) (C : List Ri) (fa : Option Addr) (fc : Nat) (FS : List Rf) (m : Int) (hC : StsG w ca cc 5 (C.map riv)) (hCl : C.length ≤ 140737488351232) (hCn : ∀ x ∈ C, ReI x) (hF : StsG w fa fc 5 (FS.map rfv)) (hFl : FS.length ≤ 140737488351232) (hFn : ∀ f ∈ FS, ReR f) (ia : Option Addr) (ic : Nat) (I : List Int) (hI : Ints w ia ic I) (hIl : I.length ≤ 140737488351232) (hIf : ∀ x ∈ I, Fits x) (S r S9 r9 : Int) (hS : Fits S) (hr : Fits r) (a0 : Int) :
    Calls Tryz.prog 3 #[.agg #[.slice ca C.length cc, .slice fa FS.length fc, .int .i64 m], .slice ia I.length ic, .agg #[.int .i64 S, .int .i64 r], .agg #[.int .i64 S9, .int .i64 r9], .int .i64 a0] w fun e w' => e = .returned (.bool true) ∧ Below w.heap.size w w' := by
  obtain ⟨a, hal, ha⟩ := andR_small a0 32767 (by omega)
  obtain ⟨s9, hs9l, hs9⟩ := andR_small S9 1048575 (by omega)
  obtain ⟨q9, hq9l, hq9⟩ := andR_small r9 1048575 (by omega)
  exact r16Grows_in w hTab ca cc C fa fc FS m hC hCl hCn hF hFl hFn ia ic I hI hIl hIf S r S9 r9 hS hr a0 a s9 q9 ha hal hs9 hs9l hq9 hq9l
end Go.Proofs.YtfofmmkihhnfmaaGreatDoor
