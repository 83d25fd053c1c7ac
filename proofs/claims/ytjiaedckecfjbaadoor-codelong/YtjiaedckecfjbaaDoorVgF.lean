import Derived.Test.YtjiaedckecfjbaaDoorVgE
set_option linter.unusedVariables false
set_option linter.unusedSimpArgs false
namespace Go.Proofs.YtjiaedckecfjbaaDoor
open Go.ChangeShapes Go.WideShapes Go.ChangeAt Go.RowKit Go.Maps Go.WideMaps

/-- A code of the caller's, boxed: what is left of it through calls that make memory only. -/
structure BkS (w W : World) (p : Nat) (ca : Option Addr) (cc : Nat) (fa : Option Addr) (fc : Nat) (m : Int) (C : List Ri) (FS : List Rf) : Prop where
  bx : W.heap[p]? = some (.cells #[.slice ca C.length cc, .slice fa FS.length fc, .int .i64 m] 25 (0, 0))
  c : StsG W ca cc 5 (C.map riv)
  f : StsG W fa fc 5 (FS.map rfv)
  low : Below w.heap.size w W
theorem BkS.keep {w W W' p ca cc fa fc m C FS} (h : BkS w W p ca cc fa fc m C FS) (k : Below W.heap.size W W') : BkS w W' p ca cc fa fc m C FS :=
  ⟨(k.block _ (Array.getElem?_eq_some_iff.1 h.bx).1).trans h.bx, h.c.below k (Nat.le_refl _), h.f.below k (Nat.le_refl _), h.low.trans (k.mono h.low.size)⟩
theorem fr_of {C : List Ri} {FS : List Rf} {m : Int} (hC : ∀ x ∈ C, ReI x) (hF : ∀ f ∈ FS, ReR f) (hm : Fits m) : CdN C FS m :=
  ⟨fun x hx => hC x hx, fun f hf => ⟨(hF f hf).2.1, (hF f hf).2.2.2.1, (hF f hf).2.2.2.2⟩, hm⟩
theorem fwB_bulk : ∀ (FS : List Rf), (∀ f ∈ FS, f.name.size ≤ 64) → (FS.flatMap wrR).length ≤ 78 * FS.length
  | [], _ => by simp
  | f :: FS, h => by
    have := fwB_bulk FS (fun g hg => h g (List.mem_cons_of_mem _ hg))
    have := h f (List.mem_cons_self ..)
    rw [List.flatMap_cons, List.length_append, wrR_len, List.length_cons]
    omega
theorem iwB_bulk : ∀ (C : List Ri), (C.flatMap wrI).length ≤ 12 * C.length
  | [] => by simp
  | x :: C => by
    have := iwB_bulk C
    have h3 := rcntC_le x.op
    rw [List.flatMap_cons, List.length_append, wrI_len, List.length_cons]
    by_cases q : hasNC x.op = true
    · rw [if_pos q]
      omega
    · rw [if_neg q]
      omega
theorem bulk_small {C : List Ri} {FS : List Rf} {m : Int} {cn fn : Nat} (h : formR C FS m = true) (h1 : cn ≤ 50000 ∧ fn ≤ 1000) (h2 : cn = C.length ∧ fn = FS.length) : szC C FS ≤ 268435456 := by
  unfold formR at h
  simp only [Bool.and_eq_true] at h
  obtain ⟨_, h3, _⟩ := h
  unfold namesP at h3
  simp only [Bool.and_eq_true, decide_eq_true_eq, List.all_eq_true] at h3
  unfold szC
  rw [fwB_all, iwB_all]
  have := fwB_bulk FS (fun f hf => (nmOk_size (h3.1 f hf)).2)
  have := iwB_bulk C
  omega
theorem wrC_in {C : List Ri} {FS : List Rf} {m : Int} : ∀ x ∈ wrC C FS m, 0 ≤ x ∧ x < 256 := by
  have lo_in : ∀ k y, ∀ x ∈ lo k y, 0 ≤ x ∧ x < 256 := fun k y x hx => by
    unfold lo at hx
    obtain ⟨i, _, rfl⟩ := List.mem_map.1 hx
    unfold byt
    exact ⟨Int.emod_nonneg _ (by omega), Int.emod_lt_of_pos _ (by omega)⟩
  have tb_in : ∀ s : ByteArray, ∀ x ∈ tby s, 0 ≤ x ∧ x < 256 := fun s x hx => by
    unfold tby at hx
    obtain ⟨c, _, rfl⟩ := List.mem_map.1 hx
    have := c.toNat_lt
    omega
  intro x hx
  unfold wrC at hx
  rw [fwB_all, iwB_all] at hx
  simp only [List.mem_append, List.mem_flatMap] at hx
  rcases hx with (((hx | hx) | hx) | ⟨f, _, hx⟩) | ⟨y, _, hx⟩
  · exact (by decide : ∀ x ∈ ([113, 114, 49, 54] : List Int), 0 ≤ x ∧ x < 256) x hx
  · exact lo_in _ _ x hx
  · exact lo_in _ _ x hx
  · unfold wrR at hx
    simp only [List.mem_append] at hx
    rcases hx with (((hx | hx) | hx) | hx) | hx
    · exact lo_in _ _ x hx
    · exact tb_in _ x hx
    · exact lo_in _ _ x hx
    · exact lo_in _ _ x hx
    · exact lo_in _ _ x hx
  · unfold wrI rgs at hx
    simp only [List.mem_append, List.mem_flatMap] at hx
    rcases hx with (hx | ⟨z, _, hx⟩) | hx
    · exact lo_in _ _ x hx
    · exact lo_in _ _ x hx
    · split at hx
      · exact lo_in _ _ x hx
      · simp at hx
theorem form_some {C : List Ri} {FS : List Rf} {m : Int} (h : formR C FS m = true) : 0 < C.length ∧ 0 < FS.length := by
  unfold formR at h
  simp only [Bool.and_eq_true] at h
  obtain ⟨h1, _, h3, _⟩ := h
  unfold mainF at h3
  simp only [Bool.and_eq_true, decide_eq_true_eq] at h3
  have hf : 0 < FS.length := by omega
  refine ⟨?_, hf⟩
  have q := cutF_all FS 0 (by omega) h1 FS[0] (List.getElem_mem hf)
  omega
/-- A code that was read, boxed. -/
structure BrS (W : World) (p : Nat) (gi gf fc : Nat) (m : Int) (C : List Ri) (FS : List Rf) : Prop where
  bx : W.heap[p]? = some (.cells #[.slice (some ⟨gi, 0, none⟩) C.length C.length, .slice (some ⟨gf, 0, none⟩) FS.length fc, .int .i64 m] 25 (0, 0))
  c : StsG W (some ⟨gi, 0, none⟩) C.length 5 (C.map riv)
  f : StsG W (some ⟨gf, 0, none⟩) fc 5 (FS.map rfv)
theorem riv_one (C : List Ri) : ∀ u ∈ (C.map riv).flatten, u.oneCell' = true := fun u hu => by
  obtain ⟨x, hx, hu⟩ := List.mem_flatten.1 hu
  obtain ⟨f, _, rfl⟩ := List.mem_map.1 hx
  simp [riv] at hu
  rcases hu with rfl | rfl | rfl | rfl | rfl <;> rfl
set_option maxRecDepth 100000 in
set_option maxHeartbeats 8000000 in
theorem codeBack_any (w : World) (hTab : Tab w) (ca : Option Addr) (cc : Nat) (C : List Ri) (fa : Option Addr) (fc : Nat) (FS : List Rf) (m : Int) (hC : StsG w ca cc 5 (C.map riv)) (hCl : C.length ≤ 140737488351232) (hCn : ∀ x ∈ C, ReI x) (hF : StsG w fa fc 5 (FS.map rfv)) (hFl : FS.length ≤ 140737488351232) (hFn : ∀ f ∈ FS, ReR f) (hm : Fits m) :
    Calls Tryd.prog 3 #[.agg #[.slice ca C.length cc, .slice fa FS.length fc, .int .i64 m]] w fun e w' => SamP w w' true e := by
  have HT : Hid (Tab w) := hTab
  have HN : Hid ((∀ x ∈ C, ReI x) ∧ (∀ f ∈ FS, ReR f) ∧ Fits m) := ⟨hCn, hFn, hm⟩
  obtain ⟨p, hp⟩ : ∃ p, p = w.heap.size := ⟨_, rfl⟩
  obtain ⟨cn, hcn⟩ : ∃ cn, cn = C.length := ⟨_, rfl⟩
  obtain ⟨fn, hfn⟩ : ∃ fn, fn = FS.length := ⟨_, rfl⟩
  have HL : Hid (cn = C.length ∧ fn = FS.length) := ⟨hcn, hfn⟩
  obtain ⟨W1, hW1⟩ : ∃ W1, W1 = w.alloc (.cells #[.slice ca cn cc, .slice fa fn fc, .int .i64 m] 25) := ⟨_, rfl⟩
  have HS1 : Hid (BkS w W1 p ca cc fa fc m C FS) := by
    have b : Below w.heap.size w W1 := by rw [hW1]; exact below_newX _ _
    exact ⟨by rw [hW1, hp, ← hcn, ← hfn]; exact heap_alloc_new _ _, hC.below b (Nat.le_refl _), hF.below b (Nat.le_refl _), b⟩
  have HFI : Hid (Calls Tryd.prog 9 #[.agg #[.slice ca cn cc, .slice fa fn fc, .int .i64 m]] W1 fun e w' => FitP W1 w' cn fn e) := fitsC_any W1 ca cn cc fa fn fc m FS hfn HS1.out.f (by omega) (by omega) (fun f hf => (hFn f hf).1)
  have HNU : Hid (∀ W x, Calls Tryd.prog 12 #[.int .i64 x] W fun e w' => e = .returned (.int .i64 x) ∧ W = w') := fun W x => (num_any W x).mono fun e w' h => ⟨h.1, h.2.symm⟩
  rw [← hcn, ← hfn]
  have z0 : W1.cell? ⟨p, 0, none⟩ = some (.slice ca cn cc) := by rw [hcn]; exact cell_arr HS1.out.bx rfl
  have z1 : W1.cell? ⟨p, 1, none⟩ = some (.slice fa fn fc) := by rw [hfn]; exact cell_arr HS1.out.bx rfl
  have z2 : W1.cell? ⟨p, 2, none⟩ = some (.int .i64 m) := cell_arr HS1.out.bx rfl
  have lp := (Array.getElem?_eq_some_iff.1 HS1.out.bx).1
  clear hTab hC hCl hCn hF hFl hFn hm hcn hfn
  go_enter Tryd.func3, Tryd.ntmps3
  go_upto_region 1 with fail
  rw [← hW1, ← hp]
  clear hW1 hp
  go_wp2_with fail
  refine Calls.mono HFI.out ?_
  intro e w2 q
  obtain ⟨T, rfl, hT, b2⟩ := q.out
  have HS2 : Hid (BkS w w2 p ca cc fa fc m C FS) := HS1.out.keep b2
  clear q b2 HFI HS1 z0 z1 z2 lp
  cases T with
  | false =>
    go_wp2_with fail
    go_ret
    exact ⟨⟨rfl, HS2.out.low⟩⟩
  | true =>
    have HSZ : Hid (cn ≤ 50000 ∧ fn ≤ 1000) := hT rfl
    clear hT
    have HAL : Hid (Calls Tryd.prog 10 #[] w2 fun e w' => SamP w2 w' true e) := aliveC_any w2 (HT.out.below HS2.out.low HT.out.1)
    go_wp2_with fail
    refine Calls.mono HAL.out ?_
    intro e w3 q
    have hq := q.out.1
    subst hq
    have HS3 : Hid (BkS w w3 p ca cc fa fc m C FS) := HS2.out.keep q.out.2
    clear q HAL HS2
    have z0 : w3.cell? ⟨p, 0, none⟩ = some (.slice ca cn cc) := by rw [HL.out.1]; exact cell_arr HS3.out.bx rfl
    have z1 : w3.cell? ⟨p, 1, none⟩ = some (.slice fa fn fc) := by rw [HL.out.2]; exact cell_arr HS3.out.bx rfl
    have z2 : w3.cell? ⟨p, 2, none⟩ = some (.int .i64 m) := cell_arr HS3.out.bx rfl
    have lp := (Array.getElem?_eq_some_iff.1 HS3.out.bx).1
    have HWR : Hid (Calls Tryd.prog 11 #[.agg #[.slice ca cn cc, .slice fa fn fc, .int .i64 m]] w3 fun e w' => WrA w3 w' C FS m e) := write_any w3 (HT.out.below HS3.out.low HT.out.1) ca cn cc fa fn fc m C FS HL.out.1 HL.out.2 HS3.out.c HS3.out.f (by have := HSZ.out; omega) (by have := HSZ.out; omega) (fr_of HN.out.1 HN.out.2.1 HN.out.2.2)
    go_wp2_with fail
    refine Calls.mono HWR.out ?_
    intro e w4 q
    have HS4 : Hid (BkS w w4 p ca cc fa fc m C FS) := HS3.out.keep q.low
    cases hfo : formR C FS m with
    | false =>
      have he := q.bad hfo
      subst he
      clear q HWR HS3 z0 z1 z2 lp
      go_wp2_with (go_at_call 12; refine (HNU.out _ _).mono ?_; rintro e w9 ⟨rfl, rfl⟩)
      go_ret
      exact ⟨⟨rfl, HS4.out.low⟩⟩
    | true =>
      have hsz := bulk_small hfo HSZ.out HL.out
      obtain ⟨b, he, hb, hlo⟩ := q.ok hfo hsz
      have HBB : Hid (w4.heap[b]? = some (.cells (u8s (wrC C FS m)) 5 (0, 0))) := hb
      have HFO : Hid (formR C FS m = true ∧ szC C FS ≤ 268435456) := ⟨hfo, hsz⟩
      obtain ⟨N, hN⟩ : ∃ N, N = szC C FS := ⟨_, rfl⟩
      rw [← hN] at he
      have HNN : Hid (N = szC C FS) := hN
      subst he
      clear q HWR HS3 z0 z1 z2 lp hb hlo hfo hsz hN
      have HCF : Hid (0 < C.length ∧ 0 < FS.length) := form_some HFO.out.1
      have HRE : Hid (Calls Tryd.prog 13 #[.slice (some ⟨b, 0, none⟩) N N] w4 fun e w' => ReadP w4 w' N (wrC C FS m) e) := by
        have e : N = (wrC C FS m).length := by rw [HNN.out, wrC_len]
        have q := iby_exact HBB.out wrC_in
        rw [← e] at q
        exact rRead_any q (HT.out.below HS4.out.low HT.out.1) ⟨Nat.le_refl _, by have := HFO.out.2; have := HNN.out; omega, by have := HFO.out.2; have := HNN.out; omega⟩
      go_wp2_with (go_at_call 12; refine (HNU.out _ _).mono ?_; rintro e w9 ⟨rfl, rfl⟩)
      refine Calls.mono HRE.out ?_
      intro e w5 q
      obtain ⟨gi, gf, fc', he, hro, hrf, -⟩ := q.ok (by rw [HNN.out]; exact HFO.out.2) m FS C (rdCode_wr HFO.out.1 (fun x hx => (HN.out.1 x hx).2.2.2.2) (by have := HSZ.out; have := HL.out; omega) (by have := HSZ.out; have := HL.out; omega))
      have HS5 : Hid (BkS w w5 p ca cc fa fc m C FS) := HS4.out.keep q.low
      obtain ⟨W6, hW6⟩ : ∃ W6, W6 = w5.alloc (.cells #[.slice (some ⟨gi, 0, none⟩) cn cn, .slice (some ⟨gf, 0, none⟩) fn fc', .int .i64 m] 25) := ⟨_, rfl⟩
      obtain ⟨p2, hp2⟩ : ∃ p2, p2 = w5.heap.size := ⟨_, rfl⟩
      have b6 : Below w5.heap.size w5 W6 := by rw [hW6]; exact below_newX _ _
      have HS6 : Hid (BkS w W6 p ca cc fa fc m C FS) := HS5.out.keep b6
      have HB6 : Hid (BrS W6 p2 gi gf fc' m C FS) := by
        have z := rowSts (⟨by rw [List.length_map]; exact hro, fun x hx => by obtain ⟨y, _, rfl⟩ := List.mem_map.1 hx; rfl⟩ : Row w5 w4.heap.size 55 5 (.slice (some ⟨gi, 0, none⟩) C.length C.length) (C.map riv)) (by rw [List.length_map]; exact HCF.out.1) (by omega) (riv_one C)
        have z2 := rowSts hrf (by rw [List.length_map]; exact HCF.out.2) (by omega) (rfv_one FS)
        exact ⟨by rw [hW6, hp2, HL.out.1, HL.out.2]; exact heap_alloc_new _ _, z.2.1.below b6 (Nat.le_refl _), z2.2.1.below b6 (Nat.le_refl _)⟩
      rw [← HL.out.1, ← HL.out.2] at he
      subst he
      clear q hro hrf HRE HS4 HS5 b6
      go_upto_region 8 with fail
      rw [← hW6, ← hp2]
      clear hW6 hp2
      have HSA : Hid (Calls Tryd.prog 14 #[.agg #[.slice ca cn cc, .slice fa fn fc, .int .i64 m], .agg #[.slice (some ⟨gi, 0, none⟩) cn cn, .slice (some ⟨gf, 0, none⟩) fn fc', .int .i64 m]] W6 fun e w' => SamP W6 w' true e) := sameC_any W6 ca cn cc fa fn fc m (some ⟨gi, 0, none⟩) cn cn (some ⟨gf, 0, none⟩) fn fc' m C C FS FS ⟨HL.out.1, HL.out.1, HL.out.2, HL.out.2⟩ HS6.out.c (by rw [HL.out.1]; exact HB6.out.c) HS6.out.f HB6.out.f (by unfold sameC; simp)
      have z0 : W6.cell? ⟨p, 0, none⟩ = some (.slice ca cn cc) := by rw [HL.out.1]; exact cell_arr HS6.out.bx rfl
      have z1 : W6.cell? ⟨p, 1, none⟩ = some (.slice fa fn fc) := by rw [HL.out.2]; exact cell_arr HS6.out.bx rfl
      have z2 : W6.cell? ⟨p, 2, none⟩ = some (.int .i64 m) := cell_arr HS6.out.bx rfl
      have lp := (Array.getElem?_eq_some_iff.1 HS6.out.bx).1
      have y0 : W6.cell? ⟨p2, 0, none⟩ = some (.slice (some ⟨gi, 0, none⟩) cn cn) := by rw [HL.out.1]; exact cell_arr HB6.out.bx rfl
      have y1 : W6.cell? ⟨p2, 1, none⟩ = some (.slice (some ⟨gf, 0, none⟩) fn fc') := by rw [HL.out.2]; exact cell_arr HB6.out.bx rfl
      have y2 : W6.cell? ⟨p2, 2, none⟩ = some (.int .i64 m) := cell_arr HB6.out.bx rfl
      have lp2 := (Array.getElem?_eq_some_iff.1 HB6.out.bx).1
      go_wp2_with (first
        | (go_at_call 12; refine (HNU.out _ _).mono ?_; rintro e w9 ⟨rfl, rfl⟩)
        | (go_at_call 14; refine HSA.out.mono ?_; intro e w8 q; have hq := q.out.1; subst hq; have HB8 : Hid _ := q.out.2; clear q))
      go_ret
      exact ⟨⟨rfl, HS6.out.low.trans (HB8.out.mono HS6.out.low.size)⟩⟩
end Go.Proofs.YtjiaedckecfjbaaDoor
