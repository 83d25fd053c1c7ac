import Derived.Test.YtfofmmkihhnfmaaGreatDoorVeB
import Derived.Test.YtfofmmkihhnfmaaGreatDoorVcO
set_option linter.unusedVariables false
set_option linter.unusedSimpArgs false
namespace Go.Proofs.YtfofmmkihhnfmaaGreatDoor
open Go.ChangeShapes Go.WideShapes Go.ChangeAt Go.RowKit Go.Maps

theorem rcnt_out {op : Int} (h : op < 1 ∨ 38 < op) : rcnt op = -1 := by
  unfold rcnt
  rw [if_neg (by omega), if_neg (by omega), if_neg (by omega), if_neg (by omega)]
theorem rcnt_in {op : Int} (h : 1 ≤ op ∧ op ≤ 38) : 0 ≤ rcnt op := by
  unfold rcnt
  repeat' split
  all_goals omega
theorem numF_no {n : Nat} {f : Rf} {x : Ri} (h : hasN x.op = false) : numF n f x = decide (x.n = 0) := by
  unfold hasN at h
  rw [decide_eq_false_iff_not] at h
  unfold numF
  rw [if_neg (by omega), if_neg (by omega), if_neg (by omega), if_neg (by omega), if_neg (by omega), if_neg (by omega)]
theorem okR_no {cnt i r : Int} (h : r < 0 ∨ 15 < r ∨ (¬ r = 0 ∧ ¬ i < cnt)) : okR cnt i r = false := by
  unfold okR
  split
  · exact decide_eq_false (by omega)
  · exact decide_eq_false (by omega)
theorem okR_yes {cnt i r : Int} (h : 0 ≤ r ∧ r ≤ 15 ∧ (r = 0 ∨ i < cnt)) : okR cnt i r = true := by
  unfold okR
  split
  · exact decide_eq_true (by omega)
  · exact decide_eq_true (by omega)
set_option maxRecDepth 100000 in
set_option maxHeartbeats 4000000 in
theorem rIns_any (w : World) (ca : Option Addr) (cn cc : Nat) (fa : Option Addr) (fn fc : Nat) (m : Int) (f : Rf) (x : Ri) (h1 : 2 ≤ f.fr ∧ f.fr ≤ 1099511627776) (h2 : 0 ≤ f.fi ∧ 0 ≤ f.ct ∧ f.fi + f.ct ≤ 100000000000000000) (hf : Fits x.n) {T : Bool} (hT : (regsF x && numF fn f x) = T) :
    Calls Tryz.prog 34 #[.agg #[.slice ca cn cc, .slice fa fn fc, .int .i64 m], .agg #[.string f.name, .int .i64 f.fr, .int .i64 f.fi, .int .i64 f.ct, .int .i64 f.pa], .agg #[.int .i64 x.op, .int .i64 x.a, .int .i64 x.b, .int .i64 x.c, .int .i64 x.n]] w fun e w' => e = .returned (.bool T) ∧ Below w.heap.size w w' := by
  obtain ⟨W1, hW1⟩ : ∃ W, W = ((w.alloc (.cells #[.slice ca cn cc, .slice fa fn fc, .int .i64 m] 25)).alloc (.cells #[.string f.name, .int .i64 f.fr, .int .i64 f.fi, .int .i64 f.ct, .int .i64 f.pa] 59)).alloc (.cells #[.int .i64 x.op, .int .i64 x.a, .int .i64 x.b, .int .i64 x.c, .int .i64 x.n] 71) := ⟨_, rfl⟩
  have eal : W1 = al w [.cells #[.slice ca cn cc, .slice fa fn fc, .int .i64 m] 25, .cells #[.string f.name, .int .i64 f.fr, .int .i64 f.fi, .int .i64 f.ct, .int .i64 f.pa] 59, .cells #[.int .i64 x.op, .int .i64 x.a, .int .i64 x.b, .int .i64 x.c, .int .i64 x.n] 71] := hW1
  obtain ⟨p, hp⟩ : ∃ p, p = w.heap.size := ⟨_, rfl⟩
  have k0 : W1.heap[p]? = some (.cells #[.slice ca cn cc, .slice fa fn fc, .int .i64 m] 25 (0, 0)) := by rw [eal, hp]; exact al_at _ w 0 (by simp)
  have k1 : W1.heap[p + 1]? = some (.cells #[.string f.name, .int .i64 f.fr, .int .i64 f.fi, .int .i64 f.ct, .int .i64 f.pa] 59 (0, 0)) := by rw [eal, hp]; exact al_at _ w 1 (by simp)
  have k2 : W1.heap[p + 1 + 1]? = some (.cells #[.int .i64 x.op, .int .i64 x.a, .int .i64 x.b, .int .i64 x.c, .int .i64 x.n] 71 (0, 0)) := by rw [eal, hp]; exact al_at _ w 2 (by simp)
  have b1 : Below w.heap.size w W1 := by rw [eal]; exact al_below _ w
  have HB1 : Hid _ := b1
  have HK0 : Hid _ := k0
  have HK1 : Hid _ := k1
  have HK2 : Hid _ := k2
  obtain ⟨s, hs⟩ : ∃ q, q = f.name := ⟨_, rfl⟩
  obtain ⟨fr, hfr⟩ : ∃ q, q = f.fr := ⟨_, rfl⟩
  obtain ⟨fi, hfi⟩ : ∃ q, q = f.fi := ⟨_, rfl⟩
  obtain ⟨ct, hct⟩ : ∃ q, q = f.ct := ⟨_, rfl⟩
  obtain ⟨pa, hpa⟩ : ∃ q, q = f.pa := ⟨_, rfl⟩
  obtain ⟨op, hop⟩ : ∃ q, q = x.op := ⟨_, rfl⟩
  obtain ⟨r0, hr0⟩ : ∃ q, q = x.a := ⟨_, rfl⟩
  obtain ⟨r1, hr1⟩ : ∃ q, q = x.b := ⟨_, rfl⟩
  obtain ⟨r2, hr2⟩ : ∃ q, q = x.c := ⟨_, rfl⟩
  obtain ⟨n, hn⟩ : ∃ q, q = x.n := ⟨_, rfl⟩
  have HF : Hid (f = ⟨s, fr, fi, ct, pa⟩) := by show f = _; rw [hs, hfr, hfi, hct, hpa]
  have HX : Hid (x = ⟨op, r0, r1, r2, n⟩) := by show x = _; rw [hop, hr0, hr1, hr2, hn]
  rw [← hs, ← hfr, ← hfi, ← hct, ← hpa, ← hop, ← hr0, ← hr1, ← hr2, ← hn] at hW1
  rw [← hs, ← hfr, ← hfi, ← hct, ← hpa] at HK1
  rw [← hop, ← hr0, ← hr1, ← hr2, ← hn] at HK2
  rw [← hs, ← hfr, ← hfi, ← hct, ← hpa, ← hop, ← hr0, ← hr1, ← hr2, ← hn]
  have HR : Hid ((decide (0 ≤ rcnt op) && (okR (rcnt op) 0 r0 && (okR (rcnt op) 1 r1 && okR (rcnt op) 2 r2)) && numF fn f x) = T) := by
    show _ = _
    rw [← hT, HX.out]
    rfl
  have HH1 : Hid (2 ≤ f.fr ∧ f.fr ≤ 1099511627776) := h1
  have HH2 : Hid (0 ≤ f.fi ∧ 0 ≤ f.ct ∧ f.fi + f.ct ≤ 100000000000000000) := h2
  have HFT : Hid (Fits x.n) := hf
  have x0 : W1.cell? ⟨p + 1 + 1, 0, none⟩ = some (.int .i64 op) := cell_arr HK2.out rfl
  have l2 := (Array.getElem?_eq_some_iff.1 HK2.out).1
  clear hs hfr hfi hct hpa hop hr0 hr1 hr2 hn h1 h2 hf hT eal k0 k1 k2 b1
  go_enter Tryz.func34, Tryz.ntmps34
  go_upto_region 1 with fail
  rw [← hW1, ← hp]
  clear hW1 hp
  by_cases hio : op < 1 ∨ 38 < op
  · have HC : Hid _ := rFields_no W1 op hio
    have hTf : T = false := by rw [← HR.out, rcnt_out hio]; rfl
    subst hTf
    clear hio HR HH1 HH2 HFT HX HF HK0 HK1 HK2
    go_wp2_with fail
    refine Calls.mono HC.out ?_
    rintro e wF ⟨rfl, bF⟩
    have HBF : Hid (Below w.heap.size w wF) := HB1.out.trans (bF.mono HB1.out.size)
    clear bF HC
    go_wp2_with fail
    go_ret
    exact ⟨rfl, HBF.out.alloc HBF.out.size _⟩
  have hin : 1 ≤ op ∧ op ≤ 38 := by omega
  obtain ⟨k, hk⟩ : ∃ k : Nat, op = (k : Int) := ⟨op.toNat, by omega⟩
  have HOK : Hid (op = (k : Int)) := hk
  have HC : Hid _ := rFields_yes W1 k (by omega) (by omega)
  rw [← hk] at HC
  obtain ⟨cnt, hcnt⟩ : ∃ c, c = rcnt op := ⟨_, rfl⟩
  rw [← hcnt] at HC
  have HCN : Hid (cnt = rcnt op ∧ 0 ≤ cnt) := ⟨hcnt, by rw [hcnt]; exact rcnt_in hin⟩
  obtain ⟨u0, hu0⟩ : ∃ b, b = decide (1 ≤ cnt) := ⟨_, rfl⟩
  obtain ⟨u1, hu1⟩ : ∃ b, b = decide (2 ≤ cnt) := ⟨_, rfl⟩
  obtain ⟨u2, hu2⟩ : ∃ b, b = decide (3 ≤ cnt) := ⟨_, rfl⟩
  obtain ⟨u3, hu3⟩ : ∃ b, b = hasN op := ⟨_, rfl⟩
  rw [← hu0, ← hu1, ← hu2, ← hu3] at HC
  have HU : Hid (u0 = decide (1 ≤ cnt) ∧ u1 = decide (2 ≤ cnt) ∧ u2 = decide (3 ≤ cnt) ∧ u3 = hasN op) := ⟨hu0, hu1, hu2, hu3⟩
  clear hk hio hin hcnt hu0 hu1 hu2 hu3
  go_wp2_with fail
  refine Calls.mono HC.out ?_
  rintro e wF ⟨rfl, bF⟩
  have l0 := (Array.getElem?_eq_some_iff.1 HK0.out).1
  have l1 := (Array.getElem?_eq_some_iff.1 HK1.out).1
  have HBF : Hid (Below w.heap.size w wF) := HB1.out.trans (bF.mono HB1.out.size)
  have HF0 : Hid _ := (bF.block _ l0).trans HK0.out
  have HF1 : Hid _ := (bF.block _ l1).trans HK1.out
  have HF2 : Hid _ := (bF.block _ l2).trans HK2.out
  clear bF HC x0 l2 l0 l1 HK0 HK1 HK2 HB1
  go_upto_region 4 with fail
  obtain ⟨wU, hwU⟩ : ∃ W, W = wF.alloc (.cells #[.bool u0, .bool u1, .bool u2, .bool u3] 110) := ⟨_, rfl⟩
  obtain ⟨ub, hub⟩ : ∃ q, q = wF.heap.size := ⟨_, rfl⟩
  have bU : Below wF.heap.size wF wU := by rw [hwU]; exact below_newR wF _
  have HKU : Hid (wU.heap[ub]? = some (.cells #[.bool u0, .bool u1, .bool u2, .bool u3] 110 (0, 0))) := by rw [hwU, hub]; exact heap_alloc_new _ _
  rw [← hwU, ← hub]
  have HU0 : Hid _ := (bU.block _ (Array.getElem?_eq_some_iff.1 HF0.out).1).trans HF0.out
  have HU1 : Hid _ := (bU.block _ (Array.getElem?_eq_some_iff.1 HF1.out).1).trans HF1.out
  have HU2 : Hid _ := (bU.block _ (Array.getElem?_eq_some_iff.1 HF2.out).1).trans HF2.out
  have HBU : Hid (Below w.heap.size w wU) := HBF.out.trans (bU.mono HBF.out.size)
  clear hwU hub bU HF0 HF1 HF2 HBF
  have x1 : wU.cell? ⟨p + 1 + 1, 1, none⟩ = some (.int .i64 r0) := cell_arr HU2.out rfl
  have x2 : wU.cell? ⟨p + 1 + 1, 2, none⟩ = some (.int .i64 r1) := cell_arr HU2.out rfl
  have x3 : wU.cell? ⟨p + 1 + 1, 3, none⟩ = some (.int .i64 r2) := cell_arr HU2.out rfl
  have l2 := (Array.getElem?_eq_some_iff.1 HU2.out).1
  go_upto_region 5 with fail
  obtain ⟨wL, hwL⟩ : ∃ W, W = wU.alloc (.cells #[.int .i64 r0, .int .i64 r1, .int .i64 r2] 113) := ⟨_, rfl⟩
  obtain ⟨lb, hlb⟩ : ∃ q, q = wU.heap.size := ⟨_, rfl⟩
  have bL : Below wU.heap.size wU wL := by rw [hwL]; exact below_newR wU _
  have KL : wL.heap[lb]? = some (.cells #[.int .i64 r0, .int .i64 r1, .int .i64 r2] 113 (0, 0)) := by rw [hwL, hlb]; exact heap_alloc_new _ _
  rw [← hwL, ← hlb]
  have K0 := (bL.block _ (Array.getElem?_eq_some_iff.1 HU0.out).1).trans HU0.out
  have K1 := (bL.block _ (Array.getElem?_eq_some_iff.1 HU1.out).1).trans HU1.out
  have K2 := (bL.block _ (Array.getElem?_eq_some_iff.1 HU2.out).1).trans HU2.out
  have KU := (bL.block _ (Array.getElem?_eq_some_iff.1 HKU.out).1).trans HKU.out
  have HBL : Hid (Below w.heap.size w wL) := HBU.out.trans (bL.mono HBU.out.size)
  clear hwL hlb bL HU0 HU1 HU2 HKU HBU x1 x2 x3 l2
  have y0 : wL.cell? ⟨lb, 0, none⟩ = some (.int .i64 r0) := cell_arr KL rfl
  have y1 : wL.cell? ⟨lb, 1, none⟩ = some (.int .i64 r1) := cell_arr KL rfl
  have y2 : wL.cell? ⟨lb, 2, none⟩ = some (.int .i64 r2) := cell_arr KL rfl
  have v0 : wL.cell? ⟨ub, 0, none⟩ = some (.bool u0) := cell_arr KU rfl
  have v1 : wL.cell? ⟨ub, 1, none⟩ = some (.bool u1) := cell_arr KU rfl
  have v2 : wL.cell? ⟨ub, 2, none⟩ = some (.bool u2) := cell_arr KU rfl
  have v3 : wL.cell? ⟨ub, 3, none⟩ = some (.bool u3) := cell_arr KU rfl
  have ll := (Array.getElem?_eq_some_iff.1 KL).1
  have lu := (Array.getElem?_eq_some_iff.1 KU).1
  have HL0 : Hid _ := K0
  have HL1 : Hid _ := K1
  have HL2 : Hid _ := K2
  clear K0 K1 K2 KU KL
  go_wp2_with fail
  go_loop [10] (fun v => ∃ i : Nat, i ≤ 3 ∧ v = .int .i64 (i : Int) ∧ Hid ((0 < i → okR cnt 0 r0 = true) ∧ (1 < i → okR cnt 1 r1 = true) ∧ (2 < i → okR cnt 2 r2 = true))) (fun v => 3 - (intOf v).toNat)
  case atStart => exact ⟨0, by omega, rfl, fun h => by omega, fun h => by omega, fun h => by omega⟩
  case round =>
    obtain ⟨i, hi, rfl, HI⟩ := hrel
    rcases (show i = 0 ∨ i = 1 ∨ i = 2 ∨ i = 3 by omega) with rfl | rfl | rfl | rfl
    · by_cases a1 : r0 < 0
      · have b1 : decide (r0 < 0) = true := decide_eq_true a1
        have hTf : T = false := by
          have e : okR cnt 0 r0 = false := okR_no (by omega)
          rw [← HR.out, ← HCN.out.1, e]
          simp
        subst hTf
        clear HI HR HH1 HH2 HFT HX HF HL0 HL1 HL2 HCN HU a1
        go_wp2_with fail
        go_ret
        exact ⟨rfl, HBL.out⟩
      · have b1 : decide (r0 < 0) = false := decide_eq_false a1
        by_cases a2 : 15 < r0
        · have b2 : decide (15 < r0) = true := decide_eq_true a2
          have b3 : decide (r0 > 15) = true := b2
          have hTf : T = false := by
            have e : okR cnt 0 r0 = false := okR_no (by omega)
            rw [← HR.out, ← HCN.out.1, e]
            simp
          subst hTf
          clear HI HR HH1 HH2 HFT HX HF HL0 HL1 HL2 HCN HU a1 a2
          go_wp2_with fail
          go_ret
          exact ⟨rfl, HBL.out⟩
        · have b2 : decide (15 < r0) = false := decide_eq_false a2
          have b3 : decide (r0 > 15) = false := b2
          by_cases a4 : r0 = 0
          · have b4 : (r0 != 0) = false := by rw [a4]; rfl
            have HN : Hid ((0 < 1 → okR cnt 0 r0 = true) ∧ (1 < 1 → okR cnt 1 r1 = true) ∧ (2 < 1 → okR cnt 2 r2 = true)) := by
              have e : okR cnt 0 r0 = true := okR_yes (by omega)
              exact ⟨fun _ => e, fun h => by omega, fun h => by omega⟩
            clear HI a1 a2 a4
            go_wp2_with fail
            go_round
            case rel => exact ⟨1, by omega, by go_num, HN⟩
            case measure => simp [intOf]
          · have b4 : (r0 != 0) = true := by simpa using a4
            by_cases a5 : 1 ≤ cnt
            · have b5 : u0 = true := by rw [HU.out.1]; exact decide_eq_true a5
              have HN : Hid ((0 < 1 → okR cnt 0 r0 = true) ∧ (1 < 1 → okR cnt 1 r1 = true) ∧ (2 < 1 → okR cnt 2 r2 = true)) := by
                have e : okR cnt 0 r0 = true := okR_yes (by omega)
                exact ⟨fun _ => e, fun h => by omega, fun h => by omega⟩
              clear HI a1 a2 a4 a5
              go_wp2_with fail
              go_round
              case rel => exact ⟨1, by omega, by go_num, HN⟩
              case measure => simp [intOf]
            · have b5 : u0 = false := by rw [HU.out.1]; exact decide_eq_false a5
              have hTf : T = false := by
                have e : okR cnt 0 r0 = false := okR_no (by omega)
                rw [← HR.out, ← HCN.out.1, e]
                simp
              subst hTf
              clear HI HR HH1 HH2 HFT HX HF HL0 HL1 HL2 HCN HU a1 a2 a4 a5
              go_wp2_with fail
              go_ret
              exact ⟨rfl, HBL.out⟩
    · by_cases a1 : r1 < 0
      · have b1 : decide (r1 < 0) = true := decide_eq_true a1
        have hTf : T = false := by
          have e : okR cnt 1 r1 = false := okR_no (by omega)
          rw [← HR.out, ← HCN.out.1, e]
          simp
        subst hTf
        clear HI HR HH1 HH2 HFT HX HF HL0 HL1 HL2 HCN HU a1
        go_wp2_with fail
        go_ret
        exact ⟨rfl, HBL.out⟩
      · have b1 : decide (r1 < 0) = false := decide_eq_false a1
        by_cases a2 : 15 < r1
        · have b2 : decide (15 < r1) = true := decide_eq_true a2
          have b3 : decide (r1 > 15) = true := b2
          have hTf : T = false := by
            have e : okR cnt 1 r1 = false := okR_no (by omega)
            rw [← HR.out, ← HCN.out.1, e]
            simp
          subst hTf
          clear HI HR HH1 HH2 HFT HX HF HL0 HL1 HL2 HCN HU a1 a2
          go_wp2_with fail
          go_ret
          exact ⟨rfl, HBL.out⟩
        · have b2 : decide (15 < r1) = false := decide_eq_false a2
          have b3 : decide (r1 > 15) = false := b2
          by_cases a4 : r1 = 0
          · have b4 : (r1 != 0) = false := by rw [a4]; rfl
            have HN : Hid ((0 < 2 → okR cnt 0 r0 = true) ∧ (1 < 2 → okR cnt 1 r1 = true) ∧ (2 < 2 → okR cnt 2 r2 = true)) := by
              have e : okR cnt 1 r1 = true := okR_yes (by omega)
              exact ⟨fun _ => HI.out.1 (by omega), fun _ => e, fun h => by omega⟩
            clear HI a1 a2 a4
            go_wp2_with fail
            go_round
            case rel => exact ⟨2, by omega, by go_num, HN⟩
            case measure => simp [intOf]
          · have b4 : (r1 != 0) = true := by simpa using a4
            by_cases a5 : 2 ≤ cnt
            · have b5 : u1 = true := by rw [HU.out.2.1]; exact decide_eq_true a5
              have HN : Hid ((0 < 2 → okR cnt 0 r0 = true) ∧ (1 < 2 → okR cnt 1 r1 = true) ∧ (2 < 2 → okR cnt 2 r2 = true)) := by
                have e : okR cnt 1 r1 = true := okR_yes (by omega)
                exact ⟨fun _ => HI.out.1 (by omega), fun _ => e, fun h => by omega⟩
              clear HI a1 a2 a4 a5
              go_wp2_with fail
              go_round
              case rel => exact ⟨2, by omega, by go_num, HN⟩
              case measure => simp [intOf]
            · have b5 : u1 = false := by rw [HU.out.2.1]; exact decide_eq_false a5
              have hTf : T = false := by
                have e : okR cnt 1 r1 = false := okR_no (by omega)
                rw [← HR.out, ← HCN.out.1, e]
                simp
              subst hTf
              clear HI HR HH1 HH2 HFT HX HF HL0 HL1 HL2 HCN HU a1 a2 a4 a5
              go_wp2_with fail
              go_ret
              exact ⟨rfl, HBL.out⟩
    · by_cases a1 : r2 < 0
      · have b1 : decide (r2 < 0) = true := decide_eq_true a1
        have hTf : T = false := by
          have e : okR cnt 2 r2 = false := okR_no (by omega)
          rw [← HR.out, ← HCN.out.1, e]
          simp
        subst hTf
        clear HI HR HH1 HH2 HFT HX HF HL0 HL1 HL2 HCN HU a1
        go_wp2_with fail
        go_ret
        exact ⟨rfl, HBL.out⟩
      · have b1 : decide (r2 < 0) = false := decide_eq_false a1
        by_cases a2 : 15 < r2
        · have b2 : decide (15 < r2) = true := decide_eq_true a2
          have b3 : decide (r2 > 15) = true := b2
          have hTf : T = false := by
            have e : okR cnt 2 r2 = false := okR_no (by omega)
            rw [← HR.out, ← HCN.out.1, e]
            simp
          subst hTf
          clear HI HR HH1 HH2 HFT HX HF HL0 HL1 HL2 HCN HU a1 a2
          go_wp2_with fail
          go_ret
          exact ⟨rfl, HBL.out⟩
        · have b2 : decide (15 < r2) = false := decide_eq_false a2
          have b3 : decide (r2 > 15) = false := b2
          by_cases a4 : r2 = 0
          · have b4 : (r2 != 0) = false := by rw [a4]; rfl
            have HN : Hid ((0 < 3 → okR cnt 0 r0 = true) ∧ (1 < 3 → okR cnt 1 r1 = true) ∧ (2 < 3 → okR cnt 2 r2 = true)) := by
              have e : okR cnt 2 r2 = true := okR_yes (by omega)
              exact ⟨fun _ => HI.out.1 (by omega), fun _ => HI.out.2.1 (by omega), fun _ => e⟩
            clear HI a1 a2 a4
            go_wp2_with fail
            go_round
            case rel => exact ⟨3, by omega, by go_num, HN⟩
            case measure => simp [intOf]
          · have b4 : (r2 != 0) = true := by simpa using a4
            by_cases a5 : 3 ≤ cnt
            · have b5 : u2 = true := by rw [HU.out.2.2.1]; exact decide_eq_true a5
              have HN : Hid ((0 < 3 → okR cnt 0 r0 = true) ∧ (1 < 3 → okR cnt 1 r1 = true) ∧ (2 < 3 → okR cnt 2 r2 = true)) := by
                have e : okR cnt 2 r2 = true := okR_yes (by omega)
                exact ⟨fun _ => HI.out.1 (by omega), fun _ => HI.out.2.1 (by omega), fun _ => e⟩
              clear HI a1 a2 a4 a5
              go_wp2_with fail
              go_round
              case rel => exact ⟨3, by omega, by go_num, HN⟩
              case measure => simp [intOf]
            · have b5 : u2 = false := by rw [HU.out.2.2.1]; exact decide_eq_false a5
              have hTf : T = false := by
                have e : okR cnt 2 r2 = false := okR_no (by omega)
                rw [← HR.out, ← HCN.out.1, e]
                simp
              subst hTf
              clear HI HR HH1 HH2 HFT HX HF HL0 HL1 HL2 HCN HU a1 a2 a4 a5
              go_wp2_with fail
              go_ret
              exact ⟨rfl, HBL.out⟩
    · have HRG : Hid (numF fn f x = T) := by
        show _ = _
        rw [← HR.out, ← HCN.out.1, HI.out.1 (by omega), HI.out.2.1 (by omega), HI.out.2.2 (by omega), decide_eq_true HCN.out.2]
        simp
      clear HI HR
      have c4 : wL.cell? ⟨p + 1 + 1, 4, none⟩ = some (.int .i64 n) := cell_arr HL2.out rfl
      have lx := (Array.getElem?_eq_some_iff.1 HL2.out).1
      cases hu : u3 with
      | false =>
        subst hu
        have HTT : Hid (decide (n = 0) = T) := by
          show _ = _
          have e := HRG.out
          rw [numF_no (by rw [HX.out]; exact HU.out.2.2.2.symm), HX.out] at e
          exact e
        by_cases h0 : n = 0
        · have t0 : (n == 0) = true := by simpa using h0
          have hTt : T = true := by rw [← HTT.out]; exact decide_eq_true h0
          subst hTt
          clear h0 HTT HRG HH1 HH2 HFT HX HF HL0 HL1 HL2 HCN HU
          go_wp2_with fail
          go_ret
          exact ⟨rfl, HBL.out⟩
        · have t0 : (n == 0) = false := by simpa using h0
          have hTt : T = false := by rw [← HTT.out]; exact decide_eq_false h0
          subst hTt
          clear h0 HTT HRG HH1 HH2 HFT HX HF HL0 HL1 HL2 HCN HU
          go_wp2_with fail
          go_ret
          exact ⟨rfl, HBL.out⟩
      | true =>
        subst hu
        have HCM : Hid (Calls Tryz.prog 78 #[.agg #[.slice ca cn cc, .slice fa fn fc, .int .i64 m], .agg #[.string s, .int .i64 fr, .int .i64 fi, .int .i64 ct, .int .i64 pa], .int .i64 op, .int .i64 n] wL fun e w' => e = .returned (.bool T) ∧ Below wL.heap.size wL w') := by
          have hx1 := HH1.out
          have hx2 := HH2.out
          have hx3 := HFT.out
          have hx4 := HRG.out
          rw [HF.out] at hx1 hx2 hx4
          have := rNum_any wL ca cn cc fa fn fc m s fr fi ct pa x.n hx1 hx2 x (by rw [HX.out]; exact HU.out.2.2.2.symm) rfl hx3 hx4
          rw [HX.out] at this
          exact this
        have c0 : wL.cell? ⟨p + 1 + 1, 0, none⟩ = some (.int .i64 op) := cell_arr HL2.out rfl
        have d0 : wL.cell? ⟨p, 0, none⟩ = some (.slice ca cn cc) := cell_arr HL0.out rfl
        have d1 : wL.cell? ⟨p, 1, none⟩ = some (.slice fa fn fc) := cell_arr HL0.out rfl
        have d2 : wL.cell? ⟨p, 2, none⟩ = some (.int .i64 m) := cell_arr HL0.out rfl
        have e0 : wL.cell? ⟨p + 1, 0, none⟩ = some (.string s) := cell_arr HL1.out rfl
        have e1 : wL.cell? ⟨p + 1, 1, none⟩ = some (.int .i64 fr) := cell_arr HL1.out rfl
        have e2 : wL.cell? ⟨p + 1, 2, none⟩ = some (.int .i64 fi) := cell_arr HL1.out rfl
        have e3 : wL.cell? ⟨p + 1, 3, none⟩ = some (.int .i64 ct) := cell_arr HL1.out rfl
        have e4 : wL.cell? ⟨p + 1, 4, none⟩ = some (.int .i64 pa) := cell_arr HL1.out rfl
        have l0 := (Array.getElem?_eq_some_iff.1 HL0.out).1
        have l1 := (Array.getElem?_eq_some_iff.1 HL1.out).1
        clear HRG HH1 HH2 HFT HX HF HL0 HL1 HL2 HCN HU
        go_wp2_with fail
        refine Calls.mono HCM.out ?_
        rintro e wN ⟨rfl, bN⟩
        have HBN : Hid (Below w.heap.size w wN) := HBL.out.trans (bN.mono HBL.out.size)
        clear bN HCM
        go_wp2_with fail
        go_ret
        exact ⟨rfl, HBN.out⟩
end Go.Proofs.YtfofmmkihhnfmaaGreatDoor
