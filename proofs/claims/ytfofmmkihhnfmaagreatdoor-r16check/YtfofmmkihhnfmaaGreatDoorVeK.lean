import Derived.Test.YtfofmmkihhnfmaaGreatDoorVeJ
import Derived.Test.YtfofmmkihhnfmaaGreatDoorVdJ
set_option linter.unusedVariables false
set_option linter.unusedSimpArgs false
namespace Go.Proofs.YtfofmmkihhnfmaaGreatDoor
open Go.ChangeShapes Go.WideShapes Go.ChangeAt Go.RowKit Go.Maps

theorem stsE_pre {w : World} {ao : Option Addr} {c z : Nat} {xs ys : List (List Value)} (h : StsG w ao c z (xs ++ ys)) : StsG w ao c z xs := by
  refine ⟨by have := h.le; rw [List.length_append] at this; omega, h.mx, fun x hx => h.len x (List.mem_append_left _ hx), fun u hu => h.one u (by rw [List.flatten_append]; exact List.mem_append_left _ hu), fun hne => ?_⟩
  obtain ⟨b, o, e, hb, hc⟩ := h.out (by simp [hne])
  refine ⟨b, o, e, hb, fun j u hu => hc j u ?_⟩
  rw [List.flatten_append, List.getElem?_append_left (List.getElem?_eq_some_iff.1 hu).1]
  exact hu
theorem rowE_sts {w : World} {B e g n c z : Nat} {xs ys : List (List Value)} (h : Row w B e z (.slice (some ⟨g, 0, none⟩) n c) (xs ++ ys)) (h1 : ∀ u ∈ (xs ++ ys).flatten, u.oneCell' = true) : StsG w (some ⟨g, 0, none⟩) c z xs := by
  obtain ⟨ao, c', ev, hs⟩ := row_sts h h1
  simp only [Value.slice.injEq] at ev
  obtain ⟨rfl, _, rfl⟩ := ev
  exact stsE_pre hs
theorem rivE_one (C : List Ri) : ∀ u ∈ (C.map riv ++ [mkI]).flatten, u.oneCell' = true := by
  intro u hu
  obtain ⟨x, hx, hu'⟩ := List.mem_flatten.1 hu
  rcases List.mem_append.1 hx with hx | hx
  · obtain ⟨r, _, rfl⟩ := List.mem_map.1 hx
    unfold riv at hu'
    simp only [List.mem_cons, List.not_mem_nil, or_false] at hu'
    rcases hu' with rfl | rfl | rfl | rfl | rfl <;> rfl
  · simp only [List.mem_cons, List.not_mem_nil, or_false] at hx
    subst hx
    unfold mkI at hu'
    simp only [List.mem_cons, List.not_mem_nil, or_false] at hu'
    rcases hu' with rfl | rfl | rfl | rfl | rfl <;> rfl
theorem rfvE_one (FS : List Rf) : ∀ u ∈ (FS.map rfv ++ [mkR]).flatten, u.oneCell' = true := by
  intro u hu
  obtain ⟨x, hx, hu'⟩ := List.mem_flatten.1 hu
  rcases List.mem_append.1 hx with hx | hx
  · obtain ⟨r, _, rfl⟩ := List.mem_map.1 hx
    unfold rfv at hu'
    simp only [List.mem_cons, List.not_mem_nil, or_false] at hu'
    rcases hu' with rfl | rfl | rfl | rfl | rfl <;> rfl
  · simp only [List.mem_cons, List.not_mem_nil, or_false] at hx
    subst hx
    unfold mkR at hu'
    simp only [List.mem_cons, List.not_mem_nil, or_false] at hu'
    rcases hu' with rfl | rfl | rfl | rfl | rfl <;> rfl
theorem LnC.sts {w W : World} {g gc h hc n k : Nat} {C : List Ri} {FS : List Rf} (hL : LnC w W (.slice (some ⟨g, 0, none⟩) n gc) (.slice (some ⟨h, 0, none⟩) k hc) (C.map riv ++ [mkI]) (FS.map rfv ++ [mkR])) : StsG W (some ⟨g, 0, none⟩) gc 5 (C.map riv) ∧ StsG W (some ⟨h, 0, none⟩) hc 5 (FS.map rfv) :=
  ⟨rowE_sts hL.ins (rivE_one C), rowE_sts hL.fns (rfvE_one FS)⟩
/-- What was written over code is none. -/
def ovI (n : Nat) : List Ri := List.replicate n ⟨35, 0, 0, 0, 1⟩
def ovF (n : Nat) : List Rf := List.replicate n ⟨⟨#[111, 116, 104, 101, 114]⟩, 0, 0, 0, 0⟩
theorem ovI_map (n : Nat) : List.replicate n o35 = (ovI n).map riv := by unfold ovI; rw [List.map_replicate]; rfl
theorem ovF_map (n : Nat) : List.replicate n oth = (ovF n).map rfv := by unfold ovF; rw [List.map_replicate]; rfl
theorem ov_form (n k : Nat) (m : Int) : formR (ovI n) (ovF k) m = false := by
  cases k with
  | zero =>
    unfold formR
    have : mainF (ovF 0) m = false := by
      unfold mainF ovF
      rw [decide_eq_false (by simp; omega)]
      rfl
    rw [this]
    simp
  | succ k =>
    refine form_cut ?_
    unfold ovF
    rw [List.replicate_succ, cutF_cons, decide_eq_false (by simp)]
    rfl
/-- The memory of the statement. -/
structure CkS (w wR W : World) (p q : Nat) (A B : Array Value) (u v : Value) (xs ys : List (List Value)) : Prop where
  ln : LnC wR W u v xs ys
  kp : W.heap[p]? = some (.cells A 25 (0, 0))
  kq : W.heap[q]? = some (.cells B 25 (0, 0))
  low : Below w.heap.size w W
theorem CkS.keep {w wR W W' p q A B u v xs ys} (s : CkS w wR W p q A B u v xs ys) (b : Below W.heap.size W W') : CkS w wR W' p q A B u v xs ys :=
  ⟨s.ln.keep b, (b.block _ (Array.getElem?_eq_some_iff.1 s.kp).1).trans s.kp, (b.block _ (Array.getElem?_eq_some_iff.1 s.kq).1).trans s.kq, s.low.trans (b.mono s.low.size)⟩
theorem CkS.only {w wR W W' : World} {p q : Nat} {A B : Array Value} {g h n k gc hc : Nat} {xs ys xs' ys' : List (List Value)} (s : CkS w wR W p q A B (.slice (some ⟨g, 0, none⟩) n gc) (.slice (some ⟨h, 0, none⟩) k hc) xs ys) (hb : w.heap.size ≤ wR.heap.size) (hL : LnC wR W' (.slice (some ⟨g, 0, none⟩) n gc) (.slice (some ⟨h, 0, none⟩) k hc) xs' ys') (hO : Only (GH g h) W W') : CkS w wR W' p q A B (.slice (some ⟨g, 0, none⟩) n gc) (.slice (some ⟨h, 0, none⟩) k hc) xs' ys' := by
  have ng : ∀ {b : Nat} {D : Array Value}, W.heap[b]? = some (.cells D 25 (0, 0)) → ¬ GH g h b := fun hk q => by
    rcases q with rfl | rfl
    · exact own_not s.ln.ins.out hk (by decide) rfl
    · exact own_not s.ln.fns.out hk (by decide) rfl
  have hg := (own_block hL.ins.out (g := g) rfl).1
  have hh := (own_block hL.fns.out (g := h) rfl).1
  exact ⟨hL, (hO.block _ (Array.getElem?_eq_some_iff.1 s.kp).1 (ng s.kp)).trans s.kp, (hO.block _ (Array.getElem?_eq_some_iff.1 s.kq).1 (ng s.kq)).trans s.kq, s.low.trans (hO.below s.low.size fun b q => by rcases q with rfl | rfl <;> omega)⟩
set_option maxRecDepth 100000 in
set_option maxHeartbeats 8000000 in
theorem r16Check_any (w : World) (hTab : Tab w) (ca : Option Addr) (cc : Nat) (C : List Ri) (fa : Option Addr) (fc : Nat) (FS : List Rf) (m : Int) (hC : StsG w ca cc 5 (C.map riv)) (hCl : C.length ≤ 140737488351232) (hCn : ∀ x ∈ C, ReI x) (hF : StsG w fa fc 5 (FS.map rfv)) (hFl : FS.length ≤ 140737488351232) (hFn : ∀ f ∈ FS, ReR f) :
    Calls Tryz.prog 4 #[.agg #[.slice ca C.length cc, .slice fa FS.length fc, .int .i64 m]] w fun e w' => e = .returned (.bool true) ∧ Below w.heap.size w w' := by
  obtain ⟨cn, hcn⟩ : ∃ n, n = C.length := ⟨_, rfl⟩
  obtain ⟨fn, hfn⟩ : ∃ n, n = FS.length := ⟨_, rfl⟩
  rw [← hcn, ← hfn]
  rw [← hcn] at hCl
  rw [← hfn] at hFl
  obtain ⟨W1, hW1⟩ : ∃ W, W = w.alloc (.cells #[.slice ca cn cc, .slice fa fn fc, .int .i64 m] 25) := ⟨_, rfl⟩
  obtain ⟨p, hp⟩ : ∃ p, p = w.heap.size := ⟨_, rfl⟩
  have k0 : W1.heap[p]? = some (.cells #[.slice ca cn cc, .slice fa fn fc, .int .i64 m] 25 (0, 0)) := by rw [hW1, hp]; exact heap_alloc_new _ _
  have b1 : Below w.heap.size w W1 := by rw [hW1]; exact below_newR w _
  have HK0 : Hid _ := k0
  have HB1 : Hid _ := b1
  have HFI : Hid _ := fitsV_any W1 ca cn cc fa fn fc m none 0 0 FS hfn (hF.below b1 (Nat.le_refl _)) (fun f hf => (hFn f hf).1) hCl hFl (by omega)
  have HIN : Hid (∀ W, Below w.heap.size w W → StsG W ca cc 5 (C.map riv) ∧ StsG W fa fc 5 (FS.map rfv)) := fun W bW => ⟨hC.below bW (Nat.le_refl _), hF.below bW (Nat.le_refl _)⟩
  have HRE : Hid ((∀ x ∈ C, ReI x) ∧ ∀ f ∈ FS, ReR f) := ⟨hCn, hFn⟩
  have HLE : Hid (cn = C.length ∧ fn = FS.length) := ⟨hcn, hfn⟩
  have HT : Hid (Tab w) := hTab
  have HNM : Hid (∀ W x, Calls Tryz.prog 10 #[.int .i64 x] W fun e w' => e = .returned (.int .i64 x) ∧ W = w') := numV_any
  obtain ⟨E, hE⟩ : ∃ E, E = ckE (formR C FS m) := ⟨_, rfl⟩
  have HE : Hid (E = ckE (formR C FS m)) := hE
  clear hcn hfn hC hCl hCn hF hFl hFn hTab k0 b1 hE
  go_enter Tryz.func4, Tryz.ntmps4
  go_upto_region 1 with fail
  rw [← hW1, ← hp]
  have HP : Hid (p = w.heap.size) := hp
  clear hW1 hp
  have x0 : W1.cell? ⟨p, 0, none⟩ = some (.slice ca cn cc) := cell_arr HK0.out rfl
  have x1 : W1.cell? ⟨p, 1, none⟩ = some (.slice fa fn fc) := cell_arr HK0.out rfl
  have x2 : W1.cell? ⟨p, 2, none⟩ = some (.int .i64 m) := cell_arr HK0.out rfl
  have l0 := (Array.getElem?_eq_some_iff.1 HK0.out).1
  go_wp2_with fail
  refine Calls.mono HFI.out ?_
  rintro e wF ⟨⟨T, rfl, hT⟩, bF⟩
  have HBF : Hid (Below w.heap.size w wF) := HB1.out.trans (bF.mono HB1.out.size)
  have HKF : Hid _ := (bF.block _ l0).trans HK0.out
  clear bF HFI x0 x1 x2 HK0 l0
  cases T with
  | false =>
    clear HKF HNM HIN HRE
    go_wp2_with fail
    go_ret
    exact ⟨rfl, HBF.out⟩
  | true =>
  have HBD : Hid (cn ≤ 20000 ∧ fn ≤ 1000) := ⟨(hT rfl).1, (hT rfl).2.2⟩
  clear hT
  have HAL : Hid _ := alive21_any wF (HT.out.below HBF.out HT.out.1)
  go_upto_region 4 with (go_at_call 8; refine Calls.mono HAL.out ?_; rintro e wL ⟨rfl, bL⟩)
  have HBL : Hid (Below w.heap.size w wL) := HBF.out.trans (bL.mono HBF.out.size)
  have HKL : Hid _ := (bL.block _ (Array.getElem?_eq_some_iff.1 HKF.out).1).trans HKF.out
  clear bL HAL HBF HKF
  have x0 : wL.cell? ⟨p, 0, none⟩ = some (.slice ca cn cc) := cell_arr HKL.out rfl
  have x1 : wL.cell? ⟨p, 1, none⟩ = some (.slice fa fn fc) := cell_arr HKL.out rfl
  have x2 : wL.cell? ⟨p, 2, none⟩ = some (.int .i64 m) := cell_arr HKL.out rfl
  have l0 := (Array.getElem?_eq_some_iff.1 HKL.out).1
  have HCK : Hid _ := rCheck_any wL ca cn cc fa fn fc m C FS HLE.out.1 HLE.out.2 (HIN.out wL HBL.out).1 (HIN.out wL HBL.out).2 (by have := HBD.out; omega) (by have := HBD.out; omega) HRE.out.1 HRE.out.2
  rw [← HE.out] at HCK
  go_wp2_with fail
  refine Calls.mono HCK.out ?_
  rintro e wR ⟨rfl, bR⟩
  have HBR : Hid (Below w.heap.size w wR) := HBL.out.trans (bR.mono HBL.out.size)
  have HKR : Hid _ := (bR.block _ l0).trans HKL.out
  clear bR HCK HBL HKL x0 x1 x2 l0
  have x0 : wR.cell? ⟨p, 0, none⟩ = some (.slice ca cn cc) := cell_arr HKR.out rfl
  have x1 : wR.cell? ⟨p, 1, none⟩ = some (.slice fa fn fc) := cell_arr HKR.out rfl
  have x2 : wR.cell? ⟨p, 2, none⟩ = some (.int .i64 m) := cell_arr HKR.out rfl
  have l0 := (Array.getElem?_eq_some_iff.1 HKR.out).1
  have HLT : Hid _ := rLent_any wR ca cn cc fa fn fc m C FS HLE.out.1 HLE.out.2 (HIN.out wR HBR.out).1 (HIN.out wR HBR.out).2 (by have := HBD.out; omega) (by have := HBD.out; omega)
  go_wp2_with fail
  refine Calls.mono HLT.out ?_
  rintro e wT ⟨g, gc, h, hc, rfl, hL⟩
  have HLN : Hid _ := hL
  have HKT : Hid _ := (hL.low.block _ l0).trans HKR.out
  clear hL HLT HKR x0 x1 x2 l0
  go_upto_region 6 with fail
  obtain ⟨q, hq⟩ : ∃ q, q = wT.heap.size := ⟨_, rfl⟩
  obtain ⟨wX, hwX⟩ : ∃ W, W = wT.alloc (.cells #[.slice (some ⟨g, 0, none⟩) cn gc, .slice (some ⟨h, 0, none⟩) fn hc, .int .i64 m] 25) := ⟨_, rfl⟩
  have bX : Below wT.heap.size wT wX := by rw [hwX]; exact below_newR wT _
  have HSX : Hid (CkS w wR wX p q #[.slice ca cn cc, .slice fa fn fc, .int .i64 m] #[.slice (some ⟨g, 0, none⟩) cn gc, .slice (some ⟨h, 0, none⟩) fn hc, .int .i64 m] (.slice (some ⟨g, 0, none⟩) (cn + 1) gc) (.slice (some ⟨h, 0, none⟩) (fn + 1) hc) (C.map riv ++ [mkI]) (FS.map rfv ++ [mkR])) := by
    have bT : Below w.heap.size w wT := HBR.out.trans (HLN.out.low.mono HBR.out.size)
    exact ⟨HLN.out.keep bX, (bX.block _ (Array.getElem?_eq_some_iff.1 HKT.out).1).trans HKT.out, by rw [hwX, hq]; exact heap_alloc_new _ _, bT.trans (bX.mono bT.size)⟩
  rw [← hwX, ← hq]
  clear hwX hq bX HKT HLN
  have HTX : Hid (∀ W, Below w.heap.size w W → Tab W) := fun W b => HT.out.below b HT.out.1
  have y0 : wX.cell? ⟨q, 0, none⟩ = some (.slice (some ⟨g, 0, none⟩) cn gc) := cell_arr HSX.out.kq rfl
  have y1 : wX.cell? ⟨q, 1, none⟩ = some (.slice (some ⟨h, 0, none⟩) fn hc) := cell_arr HSX.out.kq rfl
  have y2 : wX.cell? ⟨q, 2, none⟩ = some (.int .i64 m) := cell_arr HSX.out.kq rfl
  have lq := (Array.getElem?_eq_some_iff.1 HSX.out.kq).1
  have HC1 : Hid _ := checkR wX (HTX.out wX HSX.out.low) (some ⟨g, 0, none⟩) cn gc (some ⟨h, 0, none⟩) fn hc m C FS HLE.out.1 HLE.out.2 HSX.out.ln.sts.1 HSX.out.ln.sts.2 (by have := HBD.out; omega) (by have := HBD.out; omega)
  have HEE : Hid ((if formR C FS m = true then (0 : Int) else 210) = E) := by show _ = _; rw [HE.out]; rfl
  rw [HEE.out] at HC1
  go_wp2_with fail
  refine Calls.mono HC1.out ?_
  rintro e wY ⟨rfl, bY⟩
  have HSY : Hid _ := HSX.out.keep bY
  clear bY HC1 HSX y0 y1 y2 lq
  have y0 : wY.cell? ⟨q, 0, none⟩ = some (.slice (some ⟨g, 0, none⟩) cn gc) := cell_arr HSY.out.kq rfl
  have y1 : wY.cell? ⟨q, 1, none⟩ = some (.slice (some ⟨h, 0, none⟩) fn hc) := cell_arr HSY.out.kq rfl
  have y2 : wY.cell? ⟨q, 2, none⟩ = some (.int .i64 m) := cell_arr HSY.out.kq rfl
  have lq := (Array.getElem?_eq_some_iff.1 HSY.out.kq).1
  have x0 : wY.cell? ⟨p, 0, none⟩ = some (.slice ca cn cc) := cell_arr HSY.out.kp rfl
  have x1 : wY.cell? ⟨p, 1, none⟩ = some (.slice fa fn fc) := cell_arr HSY.out.kp rfl
  have x2 : wY.cell? ⟨p, 2, none⟩ = some (.int .i64 m) := cell_arr HSY.out.kp rfl
  have lp := (Array.getElem?_eq_some_iff.1 HSY.out.kp).1
  have HKP : Hid _ := rKept_any wR wY g gc h hc m ca cn cc fa fn fc m C FS HLE.out.1 HLE.out.2 (HIN.out wR HBR.out).1 (HIN.out wR HBR.out).2 (by have := HBD.out; omega) (by have := HBD.out; omega) HSY.out.ln
  go_wp2_with fail
  refine Calls.mono HKP.out ?_
  rintro e wZ ⟨rfl, hL, hO⟩
  have HSZ : Hid _ := HSY.out.only HBR.out.size hL hO
  clear hL hO HKP HSY x0 x1 x2 lp y0 y1 y2 lq
  have y0 : wZ.cell? ⟨q, 0, none⟩ = some (.slice (some ⟨g, 0, none⟩) cn gc) := cell_arr HSZ.out.kq rfl
  have y1 : wZ.cell? ⟨q, 1, none⟩ = some (.slice (some ⟨h, 0, none⟩) fn hc) := cell_arr HSZ.out.kq rfl
  have y2 : wZ.cell? ⟨q, 2, none⟩ = some (.int .i64 m) := cell_arr HSZ.out.kq rfl
  have lq := (Array.getElem?_eq_some_iff.1 HSZ.out.kq).1
  have HLZ : Hid (LnC wR wZ (.slice (some ⟨g, 0, none⟩) (cn + 1) gc) (.slice (some ⟨h, 0, none⟩) (fn + 1) hc) ((ovI cn).map riv ++ [mkI]) ((ovF fn).map rfv ++ [mkR])) := by rw [← ovI_map, ← ovF_map]; exact HSZ.out.ln
  have HC2 : Hid _ := checkR wZ (HTX.out wZ HSZ.out.low) (some ⟨g, 0, none⟩) cn gc (some ⟨h, 0, none⟩) fn hc m (ovI cn) (ovF fn) (by unfold ovI; rw [List.length_replicate]) (by unfold ovF; rw [List.length_replicate]) HLZ.out.sts.1 HLZ.out.sts.2 (by have := HBD.out; omega) (by have := HBD.out; omega)
  rw [ov_form, if_neg (by simp)] at HC2
  go_wp2_with fail
  refine Calls.mono HC2.out ?_
  rintro e wA ⟨rfl, bA⟩
  have HSA : Hid _ := HSZ.out.keep bA
  clear bA HC2 HSZ HLZ y0 y1 y2 lq
  have y0 : wA.cell? ⟨q, 0, none⟩ = some (.slice (some ⟨g, 0, none⟩) cn gc) := cell_arr HSA.out.kq rfl
  have y1 : wA.cell? ⟨q, 1, none⟩ = some (.slice (some ⟨h, 0, none⟩) fn hc) := cell_arr HSA.out.kq rfl
  have y2 : wA.cell? ⟨q, 2, none⟩ = some (.int .i64 m) := cell_arr HSA.out.kq rfl
  have lq := (Array.getElem?_eq_some_iff.1 HSA.out.kq).1
  have x0 : wA.cell? ⟨p, 0, none⟩ = some (.slice ca cn cc) := cell_arr HSA.out.kp rfl
  have x1 : wA.cell? ⟨p, 1, none⟩ = some (.slice fa fn fc) := cell_arr HSA.out.kp rfl
  have x2 : wA.cell? ⟨p, 2, none⟩ = some (.int .i64 m) := cell_arr HSA.out.kp rfl
  have lp := (Array.getElem?_eq_some_iff.1 HSA.out.kp).1
  have HFL : Hid _ := rFill_any wR wA g gc h hc m ca cn cc fa fn fc m C FS HLE.out.1 HLE.out.2 (HIN.out wR HBR.out).1 (HIN.out wR HBR.out).2 (by have := HBD.out; omega) (by have := HBD.out; omega) HSA.out.ln
  go_wp2_with fail
  refine Calls.mono HFL.out ?_
  rintro e wB ⟨rfl, hL, hO⟩
  have HSB : Hid _ := HSA.out.only HBR.out.size hL hO
  clear hL hO HFL HSA x0 x1 x2 lp y0 y1 y2 lq
  have y0 : wB.cell? ⟨q, 0, none⟩ = some (.slice (some ⟨g, 0, none⟩) cn gc) := cell_arr HSB.out.kq rfl
  have y1 : wB.cell? ⟨q, 1, none⟩ = some (.slice (some ⟨h, 0, none⟩) fn hc) := cell_arr HSB.out.kq rfl
  have y2 : wB.cell? ⟨q, 2, none⟩ = some (.int .i64 m) := cell_arr HSB.out.kq rfl
  have lq := (Array.getElem?_eq_some_iff.1 HSB.out.kq).1
  have HC3 : Hid _ := checkR wB (HTX.out wB HSB.out.low) (some ⟨g, 0, none⟩) cn gc (some ⟨h, 0, none⟩) fn hc m C FS HLE.out.1 HLE.out.2 HSB.out.ln.sts.1 HSB.out.ln.sts.2 (by have := HBD.out; omega) (by have := HBD.out; omega)
  rw [HEE.out] at HC3
  go_wp2_with fail
  refine Calls.mono HC3.out ?_
  rintro e wC ⟨rfl, bC⟩
  have HFIN : Hid (Below w.heap.size w wC) := HSB.out.low.trans (bC.mono HSB.out.low.size)
  have hee : (E == E) = true := by simp
  clear bC HC3 HSB HTX HEE HE HRE HIN HBD HBR y0 y1 y2 lq
  go_wp2_with (go_at_call 10; refine (HNM.out _ _).mono ?_; rintro e w9 ⟨rfl, rfl⟩)
  go_ret
  exact ⟨rfl, HFIN.out⟩
end Go.Proofs.YtfofmmkihhnfmaaGreatDoor
