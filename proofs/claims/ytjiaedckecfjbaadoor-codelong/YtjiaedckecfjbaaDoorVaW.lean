import Derived.Test.YtjiaedckecfjbaaDoorVaV
set_option linter.unusedVariables false
set_option linter.unusedSimpArgs false
namespace Go.Proofs.YtjiaedckecfjbaaDoor
open Go.ChangeShapes Go.WideShapes Go.ChangeAt Go.RowKit Go.Maps

theorem funFit_any (w : World) (ca : Option Addr) (cn cc : Nat) (fa : Option Addr) (fn fc : Nat) (m : Int) (C : List Ri) (hcn : cn = C.length) (hC : StsG w ca cc 5 (C.map riv)) (hlen : cn ≤ 1000000000) (hfl : fn ≤ 1000000) (f : Rf) (hcut : 0 ≤ f.fi ∧ 1 ≤ f.ct ∧ f.fi + f.ct ≤ (cn : Int)) {T : Bool} (hT : funF C fn f = T) :
    Calls Tryd.prog 39 #[.agg #[.slice ca cn cc, .slice fa fn fc, .int .i64 m], .agg #[.string f.name, .int .i64 f.fr, .int .i64 f.fi, .int .i64 f.ct, .int .i64 f.pa]] w fun e w' => e = .returned (.bool T) ∧ Below w.heap.size w w' := by
  by_cases h : (2 ≤ f.fr ∧ f.fr ≤ 1099511627776) ∧ (0 ≤ f.pa ∧ f.pa ≤ 8)
  · obtain ⟨p, hp⟩ : ∃ p : Nat, f.fi = (p : Int) := ⟨f.fi.toNat, by omega⟩
    obtain ⟨r, hr⟩ : ∃ r : Nat, f.ct = (r : Int) + 1 := ⟨(f.ct - 1).toNat, by omega⟩
    have hl : p < C.length := by omega
    obtain ⟨cb, co, e, _⟩ := ins_at hC hl
    subst e
    rw [hp, hr]
    exact funFit_in w cb co cn cc fa fn fc m C hcn hC hlen hfl f p r hp hr (by omega) h.1 h.2 T hT.symm
  · have e : T = false := by
      rw [← hT]
      unfold funF
      by_cases h1 : 2 ≤ f.fr ∧ f.fr ≤ 1099511627776
      · rw [decide_eq_true h1, decide_eq_false (fun q => h ⟨h1, q⟩)]; rfl
      · rw [decide_eq_false h1]; rfl
    rw [e]
    exact funFit_frame w ca cn cc fa fn fc m f.name f.fr f.fi f.ct f.pa h
/-- Is it code? -/
def formR (C : List Ri) (FS : List Rf) (m : Int) : Bool := cutF C.length 0 FS && (namesP FS && (mainF FS m && FS.all (funF C FS.length)))
theorem Tab.oneR {w W : World} {A : Obj} (h : Tab w) (o : OneR w A W) : Tab W := h.below o.low h.1
set_option maxRecDepth 100000 in
set_option maxHeartbeats 4000000 in
theorem hasFormR (w : World) (hTab : Tab w) (ca : Option Addr) (cn cc : Nat) (fa : Option Addr) (fn fc : Nat) (m : Int) (C : List Ri) (FS : List Rf) (hcn : cn = C.length) (hfn : fn = FS.length) (hC : StsG w ca cc 5 (C.map riv)) (hF : StsG w fa fc 5 (FS.map rfv)) (hlen : cn ≤ 1000000000) (hfl : fn ≤ 1000000) (T : Bool) (hT : formR C FS m = T) :
    Calls Tryd.prog 21 #[.agg #[.slice ca cn cc, .slice fa fn fc, .int .i64 m]] w fun e w' => e = .returned (.bool T) ∧ Below w.heap.size w w' := by
  subst hT
  obtain ⟨A, hA⟩ : ∃ A : Obj, A = .cells #[.slice ca cn cc, .slice fa fn fc, .int .i64 m] 25 := ⟨_, rfl⟩
  have HO0 : Hid (OneR w A (w.alloc A)) := OneR.start w A
  have H1 : Hid (∀ W, OneR w A W → ∀ T, cutF cn 0 FS = T → Calls Tryd.prog 35 #[.agg #[.slice ca cn cc, .slice fa fn fc, .int .i64 m]] W fun e w' => e = .returned (.bool T) ∧ Below W.heap.size W w') := fun W h T hT => isCutR W ca cn cc fa fn fc m FS hfn (hF.below h.low (Nat.le_refl _)) hlen hfl hT
  have H2 : Hid (∀ W, OneR w A W → ∀ T, namesP FS = T → Calls Tryd.prog 36 #[.slice fa fn fc, .func (.func 37) #[] #[]] W fun e w' => e = .returned (.bool T) ∧ Below W.heap.size W w') := fun W h T hT => by subst hT; exact namesAll_any W (hTab.oneR h) fa fn fc FS hfn (hF.below h.low (Nat.le_refl _)) hfl
  have H3 : Hid (∀ W, OneR w A W → ∀ T, mainF FS m = T → Calls Tryd.prog 38 #[.agg #[.slice ca cn cc, .slice fa fn fc, .int .i64 m]] W fun e w' => e = .returned (.bool T) ∧ Below W.heap.size W w') := fun W h T hT => mainFitsR W ca cn cc fa fn fc m FS hfn (hF.below h.low (Nat.le_refl _)) hfl hT
  have H4 : Hid (cutF cn 0 FS = true → ∀ W, OneR w A W → ∀ f ∈ FS, ∀ T, funF C fn f = T → Calls Tryd.prog 39 #[.agg #[.slice ca cn cc, .slice fa fn fc, .int .i64 m], .agg #[.string f.name, .int .i64 f.fr, .int .i64 f.fi, .int .i64 f.ct, .int .i64 f.pa]] W fun e w' => e = .returned (.bool T) ∧ Below W.heap.size W w') := fun hc W h f hf T hT => funFit_any W ca cn cc fa fn fc m C hcn (hC.below h.low (Nat.le_refl _)) hlen hfl f (cutF_all FS 0 (by omega) hc f hf) hT
  obtain ⟨xb, hxb⟩ : ∃ xb, xb = w.heap.size := ⟨_, rfl⟩
  have HC : Hid (∀ W, OneR w A W → xb < W.heap.size ∧ W.cell? ⟨xb, 0, none⟩ = some (.slice ca cn cc) ∧ W.cell? ⟨xb, 1, none⟩ = some (.slice fa fn fc) ∧ W.cell? ⟨xb, 2, none⟩ = some (.int .i64 m)) := fun W h => by
    rw [hxb]
    have e := h.one
    rw [hA] at e
    exact ⟨h.lt, cell_arr e rfl, cell_arr e rfl, cell_arr e rfl⟩
  have HF : Hid (∀ W, OneR w A W → StsG W fa fc 5 (FS.map rfv)) := fun W h => hF.below h.low (Nat.le_refl _)
  have HN : Hid (fn = FS.length) := hfn
  obtain ⟨T, hTT⟩ : ∃ T, T = formR C FS m := ⟨_, rfl⟩
  have HT : Hid (T = (cutF cn 0 FS && (namesP FS && (mainF FS m && FS.all (funF C fn))))) := by
    show _ = _
    rw [hTT, hcn, hfn]
    rfl
  rw [← hTT]
  obtain ⟨W, hW⟩ : ∃ W, W = w.alloc A := ⟨_, rfl⟩
  rw [← hW] at HO0
  obtain ⟨l1, c0, c1, c2⟩ := HC.out W HO0.out
  have HXB : Hid _ := hxb
  clear hTab hC hF hcn hfn hTT hxb
  have HSTART : True := trivial
  cases q1 : cutF cn 0 FS with
  | false =>
    have HTT : Hid (T = false) := by show _ = _; rw [HT.out, q1]; rfl
    have HA1 : Hid _ := H1.out W HO0.out _ q1
    clear H1 H2 H3 H4 HT q1
    go_enter Tryd.func21, Tryd.ntmps21
    go_upto_region 1 with fail
    rw [← hA, ← hW, ← HXB.out]
    clear hW hA
    go_wp2_with fail
    refine Calls.mono HA1.out ?_
    rintro e w1 ⟨rfl, b1⟩
    have HL : Hid _ := (HO0.out.next b1).low
    go_wp2_with fail
    go_ret
    exact ⟨by rw [HTT.out]; rfl, HL.out⟩
  | true =>
  cases q2 : namesP FS with
  | false =>
    have HTT : Hid (T = false) := by show _ = _; rw [HT.out, q1, q2]; rfl
    have HA1 : Hid _ := H1.out W HO0.out _ q1
    have HA2 : Hid _ := fun W h => H2.out W h _ q2
    clear H1 H2 H3 H4 HT q1 q2
    go_enter Tryd.func21, Tryd.ntmps21
    go_upto_region 1 with fail
    rw [← hA, ← hW, ← HXB.out]
    clear hW hA
    go_wp2_with fail
    refine Calls.mono HA1.out ?_
    rintro e w1 ⟨rfl, b1⟩
    have HO1 : Hid _ := HO0.out.next b1
    obtain ⟨m1, d0, d1, d2⟩ := HC.out w1 HO1.out
    go_wp2_with fail
    refine Calls.mono (HA2.out w1 HO1.out) ?_
    rintro e w2 ⟨rfl, b2⟩
    have HL : Hid _ := (HO1.out.next b2).low
    go_wp2_with fail
    go_ret
    exact ⟨by rw [HTT.out]; rfl, HL.out⟩
  | true =>
  cases q3 : mainF FS m with
  | false =>
    have HTT : Hid (T = false) := by show _ = _; rw [HT.out, q1, q2, q3]; rfl
    have HA1 : Hid _ := H1.out W HO0.out _ q1
    have HA2 : Hid _ := fun W h => H2.out W h _ q2
    have HA3 : Hid _ := fun W h => H3.out W h _ q3
    clear H1 H2 H3 H4 HT q1 q2 q3
    go_enter Tryd.func21, Tryd.ntmps21
    go_upto_region 1 with fail
    rw [← hA, ← hW, ← HXB.out]
    clear hW hA
    go_wp2_with fail
    refine Calls.mono HA1.out ?_
    rintro e w1 ⟨rfl, b1⟩
    have HO1 : Hid _ := HO0.out.next b1
    obtain ⟨m1, d0, d1, d2⟩ := HC.out w1 HO1.out
    go_wp2_with fail
    refine Calls.mono (HA2.out w1 HO1.out) ?_
    rintro e w2 ⟨rfl, b2⟩
    have HO2 : Hid _ := HO1.out.next b2
    obtain ⟨n1, e0, e1, e2⟩ := HC.out w2 HO2.out
    go_wp2_with fail
    refine Calls.mono (HA3.out w2 HO2.out) ?_
    rintro e w3 ⟨rfl, b3⟩
    have HL : Hid _ := (HO2.out.next b3).low
    go_wp2_with fail
    go_ret
    exact ⟨by rw [HTT.out]; rfl, HL.out⟩
  | true =>
    have HTT : Hid (T = FS.all (funF C fn)) := by show _ = _; rw [HT.out, q1, q2, q3]; rfl
    have HA1 : Hid _ := H1.out W HO0.out _ q1
    have HA2 : Hid _ := fun W h => H2.out W h _ q2
    have HA3 : Hid _ := fun W h => H3.out W h _ q3
    have HA4 : Hid _ := H4.out q1
    clear H1 H2 H3 H4 HT q1 q2 q3
    go_enter Tryd.func21, Tryd.ntmps21
    go_upto_region 1 with fail
    rw [← hA, ← hW, ← HXB.out]
    clear hW hA
    go_wp2_with fail
    refine Calls.mono HA1.out ?_
    rintro e w1 ⟨rfl, b1⟩
    have HO1 : Hid _ := HO0.out.next b1
    obtain ⟨m1, d0, d1, d2⟩ := HC.out w1 HO1.out
    go_wp2_with fail
    refine Calls.mono (HA2.out w1 HO1.out) ?_
    rintro e w2 ⟨rfl, b2⟩
    have HO2 : Hid _ := HO1.out.next b2
    obtain ⟨n1, e0, e1, e2⟩ := HC.out w2 HO2.out
    go_wp2_with fail
    refine Calls.mono (HA3.out w2 HO2.out) ?_
    rintro e w3 ⟨rfl, b3⟩
    have HO3 : Hid (OneR w A w3) := HO2.out.next b3
    obtain ⟨o1, f0, f1, f2⟩ := HC.out w3 HO3.out
    go_wp2_with fail
    clear b1 b2 b3 m1 n1 o1 l1 c0 c1 c2 d0 d1 d2 e0 e1 e2 f0 f1 f2 HO1 HO2 HA1 HA2 HA3
    go_loopw [22] (fun v wr => ∃ k : Nat, k ≤ fn ∧ v = .int .i64 (k : Int) ∧ Hid (∀ i (h : i < FS.length), i < k → funF C fn FS[i] = true) ∧ Hid (OneR w A wr)) (fun v _ => fn - (intOf v).toNat)
    case atStart => exact ⟨0, by omega, rfl, fun i _ h => absurd h (Nat.not_lt_zero _), HO3.out⟩
    case round =>
      obtain ⟨k, hk, rfl, HE, HO⟩ := hrel
      obtain ⟨wq, rfl⟩ : ∃ wq, wq = wr := ⟨_, rfl⟩
      obtain ⟨l1, c0, c1, c2⟩ := HC.out wq HO.out
      by_cases hlt : k < fn
      · have hk2 : k < FS.length := by have := HN.out; omega
        obtain ⟨b, o, rfl, hlb, q0, q1, q2, q3, q4⟩ := fnr_at (HF.out wq HO.out) hk2
        obtain ⟨f, hf⟩ : ∃ f, f = FS[k] := ⟨_, rfl⟩
        rw [← hf] at q0 q1 q2 q3 q4
        have HFE : Hid (f = FS[k]) := hf
        have hkx : (k : Int) < (fn : Int) := by omega
        have hfx : fn ≤ 9223372036854775807 := by omega
        obtain ⟨W5, hW5⟩ : ∃ W5, W5 = wq.alloc (.cells #[.string f.name, .int .i64 f.fr, .int .i64 f.fi, .int .i64 f.ct, .int .i64 f.pa] 40) := ⟨_, rfl⟩
        have B5 : Below wq.heap.size wq W5 := by rw [hW5]; exact below_newR _ _
        have e5 : W5.heap[wq.heap.size]? = some (.cells #[.string f.name, .int .i64 f.fr, .int .i64 f.fi, .int .i64 f.ct, .int .i64 f.pa] 40 (0, 0)) := by rw [hW5]; exact heap_alloc_new _ _
        obtain ⟨kb, hkb⟩ : ∃ kb, kb = wq.heap.size := ⟨_, rfl⟩
        rw [← hkb] at e5
        have HO5 : Hid (OneR w A W5) := HO.out.next B5
        have r0 : W5.cell? ⟨kb, 0, none⟩ = some (.string f.name) := cell_arr e5 rfl
        have r1 : W5.cell? ⟨kb, 1, none⟩ = some (.int .i64 f.fr) := cell_arr e5 rfl
        have r2 : W5.cell? ⟨kb, 2, none⟩ = some (.int .i64 f.fi) := cell_arr e5 rfl
        have r3 : W5.cell? ⟨kb, 3, none⟩ = some (.int .i64 f.ct) := cell_arr e5 rfl
        have r4 : W5.cell? ⟨kb, 4, none⟩ = some (.int .i64 f.pa) := cell_arr e5 rfl
        have lk : kb < W5.heap.size := (Array.getElem?_eq_some_iff.1 e5).1
        obtain ⟨m1, d0, d1, d2⟩ := HC.out W5 HO5.out
        cases hQ : funF C fn f with
        | false =>
          have HCF : Hid _ := HA4.out W5 HO5.out f (by rw [hf]; exact List.getElem_mem _) _ hQ
          have HF2 : Hid (T = false) := by
            show _ = _
            rw [HTT.out, List.all_eq_false]
            exact ⟨FS[k], List.getElem_mem _, by rw [← hf, hQ]; simp⟩
          clear hf B5 e5 hQ
          go_wp2_with fail
          rw [← hW5, ← hkb]
          clear hW5 hkb q0 q1 q2 q3 q4 c0 c1 c2
          go_wp2_with fail
          refine Calls.mono HCF.out ?_
          rintro e w6 ⟨rfl, b6⟩
          have HL : Hid _ := (HO5.out.next b6).low
          go_wp2_with fail
          go_ret
          exact ⟨by rw [HF2.out]; rfl, HL.out⟩
        | true =>
          have HCF : Hid _ := HA4.out W5 HO5.out f (by rw [hf]; exact List.getElem_mem _) _ hQ
          have HE2 : Hid (∀ i (h : i < FS.length), i < k + 1 → funF C fn FS[i] = true) := fun i h hi => by
            rcases Nat.lt_succ_iff_lt_or_eq.1 hi with q | rfl
            · exact HE.out i h q
            · rw [← hf]; exact hQ
          clear hf B5 e5 hQ HE
          go_wp2_with fail
          rw [← hW5, ← hkb]
          clear hW5 hkb q0 q1 q2 q3 q4 c0 c1 c2
          go_wp2_with fail
          refine Calls.mono HCF.out ?_
          rintro e w6 ⟨rfl, b6⟩
          have HO6 : Hid (OneR w A w6) := HO5.out.next b6
          clear d0 d1 d2 r0 r1 r2 r3 r4
          go_wp2_with fail
          go_roundw
          case rel => exact ⟨k + 1, by omega, by go_num, HE2.out, HO6.out⟩
          case measure => simp [intOf]; omega
      · have hkn : k = fn := by omega
        subst hkn
        have HT2 : Hid (T = true) := by
          show _ = _
          rw [HTT.out, List.all_eq_true]
          intro x hx
          obtain ⟨i, hi, rfl⟩ := List.getElem_of_mem hx
          exact HE.out i hi (by have := HN.out; omega)
        have HL : Hid _ := HO.out.low
        go_wp2_with fail
        go_ret
        exact ⟨by rw [HT2.out]; rfl, HL.out⟩
set_option maxRecDepth 100000 in
/-- Check. -/
theorem checkR (w : World) (hTab : Tab w) (ca : Option Addr) (cn cc : Nat) (fa : Option Addr) (fn fc : Nat) (m : Int) (C : List Ri) (FS : List Rf) (hcn : cn = C.length) (hfn : fn = FS.length) (hC : StsG w ca cc 5 (C.map riv)) (hF : StsG w fa fc 5 (FS.map rfv)) (hlen : cn ≤ 1000000000) (hfl : fn ≤ 1000000) :
    Calls Tryd.prog 16 #[.agg #[.slice ca cn cc, .slice fa fn fc, .int .i64 m]] w fun e w' => e = .returned (.int .i64 (if formR C FS m = true then 0 else 210)) ∧ Below w.heap.size w w' := by
  obtain ⟨A, hA⟩ : ∃ A : Obj, A = .cells #[.slice ca cn cc, .slice fa fn fc, .int .i64 m] 25 := ⟨_, rfl⟩
  have o := OneR.start w A
  obtain ⟨W, hW⟩ : ∃ W, W = w.alloc A := ⟨_, rfl⟩
  rw [← hW] at o
  have e := o.one
  rw [hA] at e
  have c0 : W.cell? ⟨w.heap.size, 0, none⟩ = some (.slice ca cn cc) := cell_arr e rfl
  have c1 : W.cell? ⟨w.heap.size, 1, none⟩ = some (.slice fa fn fc) := cell_arr e rfl
  have c2 : W.cell? ⟨w.heap.size, 2, none⟩ = some (.int .i64 m) := cell_arr e rfl
  have l1 := o.lt
  have HF : Hid (∀ T, formR C FS m = T → Calls Tryd.prog 21 #[.agg #[.slice ca cn cc, .slice fa fn fc, .int .i64 m]] W fun e w' => e = .returned (.bool T) ∧ Below W.heap.size W w') := fun T hT => hasFormR W (hTab.oneR o) ca cn cc fa fn fc m C FS hcn hfn (hC.below o.low (Nat.le_refl _)) (hF.below o.low (Nat.le_refl _)) hlen hfl T hT
  have HB : Hid (∀ W2, Below W.heap.size W W2 → Below w.heap.size w W2) := fun W2 b => o.low.trans (b.mono o.low.size)
  clear hTab hC hF hcn hfn o e
  cases q : formR C FS m with
  | false =>
    have HG : Hid _ := HF.out _ q
    rw [if_neg (by simp)]
    clear HF q
    go_enter Tryd.func16, Tryd.ntmps16
    go_upto_region 1 with fail
    rw [← hA, ← hW]
    clear hW hA
    go_wp2_with fail
    refine Calls.mono HG.out ?_
    rintro e w1 ⟨rfl, b1⟩
    have HL : Hid _ := HB.out _ b1
    go_wp2_with fail
    go_ret
    exact ⟨rfl, HL.out⟩
  | true =>
    have HG : Hid _ := HF.out _ q
    rw [if_pos rfl]
    clear HF q
    go_enter Tryd.func16, Tryd.ntmps16
    go_upto_region 1 with fail
    rw [← hA, ← hW]
    clear hW hA
    go_wp2_with fail
    refine Calls.mono HG.out ?_
    rintro e w1 ⟨rfl, b1⟩
    have HL : Hid _ := HB.out _ b1
    go_wp2_with fail
    go_ret
    exact ⟨rfl, HL.out⟩
end Go.Proofs.YtjiaedckecfjbaaDoor
