import Derived.Test.YtjiaedckecfjbaaDoorVfF
set_option linter.unusedVariables false
set_option linter.unusedSimpArgs false
namespace Go.Proofs.YtjiaedckecfjbaaDoor
open Go.ChangeShapes Go.WideShapes Go.ChangeAt Go.RowKit Go.Maps

/-- The bytes of code. -/
def wrC (C : List Ri) (FS : List Rf) (m : Int) : List Int := [113, 114, 49, 54] ++ lo 4 (FS.length : Int) ++ lo 4 m ++ fwB FS FS.length ++ iwB C C.length
theorem wrC_len (C : List Ri) (FS : List Rf) (m : Int) : (wrC C FS m).length = szC C FS := by
  unfold wrC szC
  simp only [List.length_append, lo_len, List.length_cons, List.length_nil]
theorem fwB_mono (FS : List Rf) {i : Nat} (hi : i < FS.length) : (fwB FS (i + 1)).length ≤ (fwB FS FS.length).length := by
  have : ∀ k, i + 1 + k ≤ FS.length → (fwB FS (i + 1)).length ≤ (fwB FS (i + 1 + k)).length := by
    intro k
    induction k with
    | zero => intro _; exact Nat.le_refl _
    | succ k ih =>
      intro hk
      have := ih (by omega)
      have e := fwB_succ FS (i := i + 1 + k) (by omega)
      show (fwB FS (i + 1)).length ≤ (fwB FS (i + 1 + k + 1)).length
      rw [e, List.length_append]
      omega
  have h := this (FS.length - (i + 1)) (by omega)
  rw [show i + 1 + (FS.length - (i + 1)) = FS.length by omega] at h
  exact h
theorem iwB_mono (C : List Ri) {i : Nat} (hi : i < C.length) : (iwB C (i + 1)).length ≤ (iwB C C.length).length := by
  have : ∀ k, i + 1 + k ≤ C.length → (iwB C (i + 1)).length ≤ (iwB C (i + 1 + k)).length := by
    intro k
    induction k with
    | zero => intro _; exact Nat.le_refl _
    | succ k ih =>
      intro hk
      have := ih (by omega)
      have e := iwB_succ C (i := i + 1 + k) (by omega)
      show (iwB C (i + 1)).length ≤ (iwB C (i + 1 + k + 1)).length
      rw [e, List.length_append]
      omega
  have h := this (C.length - (i + 1)) (by omega)
  rw [show i + 1 + (C.length - (i + 1)) = C.length by omega] at h
  exact h
/-- What is asked of code that is written. -/
structure CdF (C : List Ri) (FS : List Rf) (m : Int) : Prop where
  nm : ∀ f ∈ FS, 1 ≤ f.name.size ∧ f.name.size ≤ 64
  fn : ∀ f ∈ FS, Fits f.fr ∧ Fits f.ct ∧ Fits f.pa
  rg : ∀ x ∈ C, 0 ≤ rcnt x.op
  ins : ∀ x ∈ C, Fits x.op ∧ Fits x.a ∧ Fits x.b ∧ Fits x.c ∧ Fits x.n
  m : Fits m
theorem WrS.src {w00 w W wb b N D} (h : WrS w W wb b N D) (hb : Below w00.heap.size w00 w) (h1 : w00.heap.size ≤ wb) (h2 : w00.heap.size ≤ b) : Below w00.heap.size w00 W :=
  hb.trans (h.only.below hb.size fun q hq => by rcases hq with rfl | rfl <;> omega)
set_option maxRecDepth 100000 in
set_option maxHeartbeats 8000000 in
theorem wCode_any {w00 w0 w : World} {wb b N : Nat} (h : WrS w0 w wb b N []) (hb0 : Below w00.heap.size w00 w) (hwb : w00.heap.size ≤ wb ∧ w00.heap.size ≤ b) (ca : Option Addr) (cn cc : Nat) (fa : Option Addr) (fn fc : Nat) (m : Int) (C : List Ri) (FS : List Rf) (hcn : cn = C.length) (hfn : fn = FS.length) (hC : StsG w00 ca cc 5 (C.map riv)) (hF : StsG w00 fa fc 5 (FS.map rfv)) (hlen : cn ≤ 1000000000) (hfl : fn ≤ 1000000000) (hcd : CdF C FS m) (hN : N = szC C FS) (hN2 : N ≤ 1000000000000000000) :
    Calls Tryd.prog 18 #[.pointer (some ⟨wb, 0, none⟩), .agg #[.slice ca cn cc, .slice fa fn fc, .int .i64 m]] w fun e w' => e = .returned (.tuple #[]) ∧ WrS w0 w' wb b N (wrC C FS m) := by
  obtain ⟨W1, hW1⟩ : ∃ W, W = w.alloc (.cells #[.slice ca cn cc, .slice fa fn fc, .int .i64 m] 25) := ⟨_, rfl⟩
  obtain ⟨p, hp⟩ : ∃ p, p = w.heap.size := ⟨_, rfl⟩
  have k0 : W1.heap[p]? = some (.cells #[.slice ca cn cc, .slice fa fn fc, .int .i64 m] 25 (0, 0)) := by rw [hW1, hp]; exact heap_alloc_new _ _
  have b1 : Below w.heap.size w W1 := by rw [hW1]; exact below_newR w _
  have HB1 : Hid _ := b1
  have HS0 : Hid _ := h
  have HS1 : Hid (WrS W1 W1 wb b N []) := (h.keep b1).rebase
  have HQ : Hid (p ≠ wb ∧ p ≠ b) := by
    have a := (Array.getElem?_eq_some_iff.1 h.wbx).1
    have c := (Array.getElem?_eq_some_iff.1 h.by_).1
    exact ⟨by omega, by omega⟩
  have HK : Hid _ := k0
  have HLE : Hid (cn = C.length ∧ fn = FS.length ∧ cn ≤ 1000000000 ∧ fn ≤ 1000000000) := ⟨hcn, hfn, hlen, hfl⟩
  have HCD : Hid _ := hcd
  have HN : Hid (N = 12 + (fwB FS FS.length).length + (iwB C C.length).length ∧ N ≤ 1000000000000000000) := ⟨hN, hN2⟩
  have HSR : Hid (∀ {W : World} {D : List Int}, WrS W1 W wb b N D → (p < W.heap.size ∧ W.cell? ⟨p, 0, none⟩ = some (.slice ca cn cc) ∧ W.cell? ⟨p, 1, none⟩ = some (.slice fa fn fc) ∧ W.cell? ⟨p, 2, none⟩ = some (.int .i64 m)) ∧ StsG W ca cc 5 (C.map riv) ∧ StsG W fa fc 5 (FS.map rfv)) := fun {W D} hS => by
    have kW := hS.other HK.out HQ.out.1 HQ.out.2
    have b2 := hS.src (hb0.trans (b1.mono hb0.size)) hwb.1 hwb.2
    exact ⟨⟨(Array.getElem?_eq_some_iff.1 kW).1, cell_arr kW rfl, cell_arr kW rfl, cell_arr kW rfl⟩, hC.below b2 (Nat.le_refl _), hF.below b2 (Nat.le_refl _)⟩
  clear h hb0 hwb hcn hfn hC hF hlen hfl hcd hN hN2 k0 b1
  go_enter Tryd.func18, Tryd.ntmps18
  go_upto_region 1 with fail
  rw [← hW1, ← hp]
  clear hW1 hp
  have HC0 : Hid _ := wText_any HS1.out ⟨#[113, 114, 49, 54]⟩ (by have := HN.out; show 0 + 4 ≤ N; omega) (by show 1 ≤ 4; omega) HN.out.2
  go_wp2_with fail
  refine Calls.mono HC0.out ?_
  rintro e W2 ⟨rfl, hS⟩
  have HS2 : Hid (WrS W1 W2 wb b N [113, 114, 49, 54]) := hS
  clear hS HC0
  obtain ⟨⟨l0, c0, c1, c2⟩, _, _⟩ := HSR.out HS2.out
  have HC1 : Hid _ := wNum_any HS2.out (fn : Int) (k := 4) (by have := HN.out; show 4 + 4 ≤ N; omega) (by omega) HN.out.2 (by have := HLE.out; omega)
  go_wp2_with fail
  refine Calls.mono HC1.out ?_
  rintro e W3 ⟨rfl, hS⟩
  have HS3 : Hid _ := hS
  clear hS HC1 l0 c0 c1 c2
  obtain ⟨⟨l0, c0, c1, c2⟩, _, _⟩ := HSR.out HS3.out
  have HC2 : Hid _ := wNum_any HS3.out m (k := 4) (by have := HN.out; simp only [List.length_append, lo_len, List.length_cons, List.length_nil]; omega) (by omega) HN.out.2 HCD.out.m
  go_wp2_with fail
  refine Calls.mono HC2.out ?_
  rintro e W4 ⟨rfl, hS⟩
  obtain ⟨HD, hHD⟩ : ∃ L : List Int, L = [113, 114, 49, 54] ++ lo 4 (fn : Int) ++ lo 4 m := ⟨_, rfl⟩
  have HS4 : Hid (WrS W1 W4 wb b N (HD ++ fwB FS 0)) := by rw [hHD]; show WrS W1 W4 wb b N (_ ++ []); rw [List.append_nil]; exact hS
  have HDL : Hid (HD.length = 12 ∧ HD = [113, 114, 49, 54] ++ lo 4 (fn : Int) ++ lo 4 m) := ⟨by rw [hHD]; simp only [List.length_append, lo_len, List.length_cons, List.length_nil], hHD⟩
  clear hS HC2 l0 c0 c1 c2 hHD HS2 HS3
  obtain ⟨⟨l0, c0, c1, c2⟩, _, _⟩ := HSR.out HS4.out
  go_wp2_with fail
  clear l0 c0 c1 c2
  go_loopw [22] (fun v22 wr => ∃ i : Nat, i ≤ fn ∧ v22 = .int .i64 (i : Int) ∧ Hid (WrS W1 wr wb b N (HD ++ fwB FS i))) (fun v22 _ => fn - (intOf v22).toNat)
  case atStart => exact ⟨0, Nat.zero_le _, rfl, HS4.out⟩
  case round =>
    obtain ⟨i, hi, rfl, HS⟩ := hrel
    by_cases hlt : i < fn
    · have HLT : Hid (i < fn ∧ fn ≤ 1000000000) := ⟨hlt, HLE.out.2.2.2⟩
      have hib : i < 1000000000 := by have := HLE.out; omega
      have hif : i < FS.length := by have := HLE.out; omega
      have HIF : Hid (i < FS.length) := hif
      obtain ⟨fb, fo, e0, hbl, d0, d1, d2, d3, d4⟩ := fnr_at (HSR.out HS.out).2.2 hif
      subst e0
      obtain ⟨X, hX⟩ : ∃ X, X = FS[i]'HIF.out := ⟨_, rfl⟩
      replace d0 : wr.cell? ⟨fb, fo + i * 5, none⟩ = some (.string X.name) := by rw [hX]; exact d0
      replace d1 : wr.cell? ⟨fb, fo + i * 5 + 1, none⟩ = some (.int .i64 X.fr) := by rw [hX]; exact d1
      replace d2 : wr.cell? ⟨fb, fo + i * 5 + 2, none⟩ = some (.int .i64 X.fi) := by rw [hX]; exact d2
      replace d3 : wr.cell? ⟨fb, fo + i * 5 + 3, none⟩ = some (.int .i64 X.ct) := by rw [hX]; exact d3
      replace d4 : wr.cell? ⟨fb, fo + i * 5 + 4, none⟩ = some (.int .i64 X.pa) := by rw [hX]; exact d4
      obtain ⟨wB, hwB⟩ : ∃ W, W = wr.alloc (.cells #[.string X.name, .int .i64 X.fr, .int .i64 X.fi, .int .i64 X.ct, .int .i64 X.pa] 40) := ⟨_, rfl⟩
      obtain ⟨g, hg⟩ : ∃ g, g = wr.heap.size := ⟨_, rfl⟩
      have KB : Hid (wB.heap[g]? = some (.cells #[.string X.name, .int .i64 X.fr, .int .i64 X.fi, .int .i64 X.ct, .int .i64 X.pa] 40 (0, 0))) := by rw [hwB, hg]; exact heap_alloc_new _ _
      have HSB : Hid _ := HS.out.keep (show Below wr.heap.size wr wB by rw [hwB]; exact below_newR wr _)
      have HXM : Hid (X ∈ FS ∧ fwB FS (i + 1) = fwB FS i ++ wrR X) := ⟨by rw [hX]; exact List.getElem_mem _, by rw [fwB_succ FS HIF.out, hX]⟩
      have HC : Hid _ := wFun_any HSB.out X (by have h1 := fwB_mono FS HIF.out; rw [HXM.out.2, List.length_append, wrR_len] at h1; rw [List.length_append, HDL.out.1]; have := HN.out.1; omega) (HCD.out.nm X HXM.out.1) HN.out.2 (HCD.out.fn X HXM.out.1).1 (HCD.out.fn X HXM.out.1).2.1 (HCD.out.fn X HXM.out.1).2.2
      clear hX hif
      go_upto_region 7 with fail
      rw [← hwB, ← hg]
      clear hwB hg d0 d1 d2 d3 d4 hbl
      have g0 : wB.cell? ⟨g, 0, none⟩ = some (.string X.name) := cell_arr KB.out rfl
      have g1 : wB.cell? ⟨g, 1, none⟩ = some (.int .i64 X.fr) := cell_arr KB.out rfl
      have g2 : wB.cell? ⟨g, 2, none⟩ = some (.int .i64 X.fi) := cell_arr KB.out rfl
      have g3 : wB.cell? ⟨g, 3, none⟩ = some (.int .i64 X.ct) := cell_arr KB.out rfl
      have g4 : wB.cell? ⟨g, 4, none⟩ = some (.int .i64 X.pa) := cell_arr KB.out rfl
      have lg := (Array.getElem?_eq_some_iff.1 KB.out).1
      go_wp2_with fail
      refine Calls.mono HC.out ?_
      rintro e W5 ⟨rfl, hS⟩
      have HSN : Hid (WrS W1 W5 wb b N (HD ++ fwB FS (i + 1))) := by rw [HXM.out.2, ← List.append_assoc]; exact hS
      clear hS HC HSB HS KB g0 g1 g2 g3 g4 lg
      go_wp2_with fail
      go_roundw
      case rel => exact ⟨i + 1, by have := HLT.out; omega, by go_num, HSN⟩
      case measure => have := HLT.out; simp [intOf]; omega
    · have hie : i = fn := by omega
      have HS5 : Hid (WrS W1 wr wb b N (HD ++ fwB FS FS.length ++ iwB C 0)) := by
        have := HS.out
        rw [hie, HLE.out.2.1] at this
        show WrS W1 wr wb b N (_ ++ [])
        rw [List.append_nil]
        exact this
      obtain ⟨⟨l0, c0, c1, c2⟩, _, _⟩ := HSR.out HS.out
      clear HS hie
      go_wp2_with fail
      clear l0 c0 c1 c2
      go_loopw [33] (fun v33 wr => ∃ j : Nat, j ≤ cn ∧ v33 = .int .i64 (j : Int) ∧ Hid (WrS W1 wr wb b N (HD ++ fwB FS FS.length ++ iwB C j))) (fun v33 _ => cn - (intOf v33).toNat)
      case atStart => exact ⟨0, Nat.zero_le _, rfl, HS5.out⟩
      case round =>
        obtain ⟨j, hj, rfl, HS⟩ := hrel
        by_cases hjl : j < cn
        · have HJL : Hid (j < cn ∧ cn ≤ 1000000000) := ⟨hjl, HLE.out.2.2.1⟩
          have hjb : j < 1000000000 := by have := HLE.out; omega
          have hjc : j < C.length := by have := HLE.out; omega
          have HJC : Hid (j < C.length) := hjc
          obtain ⟨sb, so, e0, hbl, d0, d1, d2, d3, d4⟩ := ins_at (HSR.out HS.out).2.1 hjc
          subst e0
          obtain ⟨X, hX⟩ : ∃ X, X = C[j]'HJC.out := ⟨_, rfl⟩
          replace d0 : wr.cell? ⟨sb, so + j * 5, none⟩ = some (.int .i64 X.op) := by rw [hX]; exact d0
          replace d1 : wr.cell? ⟨sb, so + j * 5 + 1, none⟩ = some (.int .i64 X.a) := by rw [hX]; exact d1
          replace d2 : wr.cell? ⟨sb, so + j * 5 + 2, none⟩ = some (.int .i64 X.b) := by rw [hX]; exact d2
          replace d3 : wr.cell? ⟨sb, so + j * 5 + 3, none⟩ = some (.int .i64 X.c) := by rw [hX]; exact d3
          replace d4 : wr.cell? ⟨sb, so + j * 5 + 4, none⟩ = some (.int .i64 X.n) := by rw [hX]; exact d4
          obtain ⟨wB, hwB⟩ : ∃ W, W = wr.alloc (.cells #[.int .i64 X.op, .int .i64 X.a, .int .i64 X.b, .int .i64 X.c, .int .i64 X.n] 55) := ⟨_, rfl⟩
          obtain ⟨g, hg⟩ : ∃ g, g = wr.heap.size := ⟨_, rfl⟩
          have KB : Hid (wB.heap[g]? = some (.cells #[.int .i64 X.op, .int .i64 X.a, .int .i64 X.b, .int .i64 X.c, .int .i64 X.n] 55 (0, 0))) := by rw [hwB, hg]; exact heap_alloc_new _ _
          have HSB : Hid _ := HS.out.keep (show Below wr.heap.size wr wB by rw [hwB]; exact below_newR wr _)
          have HXM : Hid (X ∈ C ∧ iwB C (j + 1) = iwB C j ++ wrI X) := ⟨by rw [hX]; exact List.getElem_mem _, by rw [iwB_succ C HJC.out, hX]⟩
          have HC : Hid _ := wIns_any HSB.out X (by have h1 := iwB_mono C HJC.out; rw [HXM.out.2, List.length_append] at h1; rw [List.length_append, List.length_append, HDL.out.1]; have := HN.out.1; omega) HN.out.2 (HCD.out.rg X HXM.out.1) (HCD.out.ins X HXM.out.1)
          clear hX hjc
          go_upto_region 12 with fail
          rw [← hwB, ← hg]
          clear hwB hg d0 d1 d2 d3 d4 hbl
          have g0 : wB.cell? ⟨g, 0, none⟩ = some (.int .i64 X.op) := cell_arr KB.out rfl
          have g1 : wB.cell? ⟨g, 1, none⟩ = some (.int .i64 X.a) := cell_arr KB.out rfl
          have g2 : wB.cell? ⟨g, 2, none⟩ = some (.int .i64 X.b) := cell_arr KB.out rfl
          have g3 : wB.cell? ⟨g, 3, none⟩ = some (.int .i64 X.c) := cell_arr KB.out rfl
          have g4 : wB.cell? ⟨g, 4, none⟩ = some (.int .i64 X.n) := cell_arr KB.out rfl
          have lg := (Array.getElem?_eq_some_iff.1 KB.out).1
          go_wp2_with fail
          refine Calls.mono HC.out ?_
          rintro e W5 ⟨rfl, hS⟩
          have HSN : Hid (WrS W1 W5 wb b N (HD ++ fwB FS FS.length ++ iwB C (j + 1))) := by rw [HXM.out.2, ← List.append_assoc]; exact hS
          clear hS HC HSB HS KB g0 g1 g2 g3 g4 lg
          go_wp2_with fail
          go_roundw
          case rel => exact ⟨j + 1, by have := HJL.out; omega, by go_num, HSN⟩
          case measure => have := HJL.out; simp [intOf]; omega
        · have hje : j = cn := by omega
          have HFIN : Hid (WrS w0 wr wb b N (wrC C FS m)) := by
            have := HS.out
            rw [hje, HLE.out.1, HDL.out.2, HLE.out.2.1] at this
            exact HS0.out.back HB1.out this
          clear HS hje
          go_wp2_with fail
          exact bodyPost_end (v := .tuple #[]) (by simp [results, Tryd.results18, go_sem]) rfl ⟨rfl, HFIN.out⟩
end Go.Proofs.YtjiaedckecfjbaaDoor
