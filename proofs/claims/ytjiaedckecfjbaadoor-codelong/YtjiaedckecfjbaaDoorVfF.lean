import Derived.Test.YtjiaedckecfjbaaDoorVfE
set_option linter.unusedVariables false
set_option linter.unusedSimpArgs false
namespace Go.Proofs.YtjiaedckecfjbaaDoor
open Go.ChangeShapes Go.WideShapes Go.ChangeAt Go.RowKit Go.Maps

/-- The bytes of the first functions, of the first instructions. -/
def fwB (FS : List Rf) (i : Nat) : List Int := (FS.take i).flatMap wrR
def iwB (C : List Ri) (i : Nat) : List Int := (C.take i).flatMap wrI
theorem fwB_succ (FS : List Rf) {i : Nat} (hi : i < FS.length) : fwB FS (i + 1) = fwB FS i ++ wrR FS[i] := by
  unfold fwB
  rw [← List.take_append_getElem hi, List.flatMap_append]
  simp
theorem iwB_succ (C : List Ri) {i : Nat} (hi : i < C.length) : iwB C (i + 1) = iwB C i ++ wrI C[i] := by
  unfold iwB
  rw [← List.take_append_getElem hi, List.flatMap_append]
  simp
theorem fwB_le (FS : List Rf) (h : ∀ f ∈ FS, f.name.size ≤ 64) : ∀ i, i ≤ FS.length → (fwB FS i).length ≤ i * 78
  | 0, _ => by simp [fwB]
  | i + 1, hi => by
    rw [fwB_succ FS (by omega), List.length_append, wrR_len]
    have := fwB_le FS h i (by omega)
    have := h FS[i] (List.getElem_mem _)
    omega
theorem wrI_le (x : Ri) : (wrI x).length ≤ 12 := by
  rw [wrI_len]
  have := rcntC_le x.op
  split <;> omega
theorem iwB_le (C : List Ri) : ∀ i, i ≤ C.length → (iwB C i).length ≤ i * 12
  | 0, _ => by simp [iwB]
  | i + 1, hi => by
    rw [iwB_succ C (by omega), List.length_append]
    have := iwB_le C i (by omega)
    have := wrI_le C[i]
    omega
/-- How many bytes code has. -/
def szC (C : List Ri) (FS : List Rf) : Nat := 12 + (fwB FS FS.length).length + (iwB C C.length).length
set_option maxRecDepth 100000 in
set_option maxHeartbeats 4000000 in
theorem sizeOf_any (w : World) (ca : Option Addr) (cn cc : Nat) (fa : Option Addr) (fn fc : Nat) (m : Int) (C : List Ri) (FS : List Rf) (hcn : cn = C.length) (hfn : fn = FS.length) (hC : StsG w ca cc 5 (C.map riv)) (hF : StsG w fa fc 5 (FS.map rfv)) (hlen : cn ≤ 1000000000) (hfl : fn ≤ 1000000000) (hs : ∀ f ∈ FS, f.name.size ≤ 64) (hr : ∀ x ∈ C, 0 ≤ rcnt x.op) :
    Calls Tryd.prog 17 #[.agg #[.slice ca cn cc, .slice fa fn fc, .int .i64 m]] w fun e w' => e = .returned (.int .i64 (szC C FS : Int)) ∧ Below w.heap.size w w' := by
  obtain ⟨W1, hW1⟩ : ∃ W, W = w.alloc (.cells #[.slice ca cn cc, .slice fa fn fc, .int .i64 m] 25) := ⟨_, rfl⟩
  obtain ⟨p, hp⟩ : ∃ p, p = w.heap.size := ⟨_, rfl⟩
  have k0 : W1.heap[p]? = some (.cells #[.slice ca cn cc, .slice fa fn fc, .int .i64 m] 25 (0, 0)) := by rw [hW1, hp]; exact heap_alloc_new _ _
  have b1 : Below w.heap.size w W1 := by rw [hW1]; exact below_newR w _
  have HB1 : Hid _ := b1
  have HLE : Hid (cn = C.length ∧ fn = FS.length ∧ cn ≤ 1000000000 ∧ fn ≤ 1000000000) := ⟨hcn, hfn, hlen, hfl⟩
  have HSZ : Hid ((∀ f ∈ FS, f.name.size ≤ 64) ∧ ∀ x ∈ C, 0 ≤ rcnt x.op) := ⟨hs, hr⟩
  have HW : Hid (∀ W, Below W1.heap.size W1 W → (p < W.heap.size ∧ W.cell? ⟨p, 0, none⟩ = some (.slice ca cn cc) ∧ W.cell? ⟨p, 1, none⟩ = some (.slice fa fn fc)) ∧ StsG W ca cc 5 (C.map riv) ∧ StsG W fa fc 5 (FS.map rfv)) := fun W bW => by
    have l0 := (Array.getElem?_eq_some_iff.1 k0).1
    have kW := (bW.block _ l0).trans k0
    have sz := bW.size
    have b2 : Below w.heap.size w W := b1.trans (bW.mono b1.size)
    exact ⟨⟨by omega, cell_arr kW rfl, cell_arr kW rfl⟩, hC.below b2 (Nat.le_refl _), hF.below b2 (Nat.le_refl _)⟩
  clear hcn hfn hC hF hlen hfl hs hr k0 b1
  go_enter Tryd.func17, Tryd.ntmps17
  go_upto_region 1 with fail
  rw [← hW1, ← hp]
  clear hW1 hp
  obtain ⟨⟨l0, c0, c1⟩, _, _⟩ := HW.out W1 (Below.refl _ _)
  go_wp2_with fail
  clear l0 c0 c1
  go_loopw [3, 11] (fun v3 v11 wr => ∃ (i z : Nat), i ≤ fn ∧ v3 = .int .i64 (z : Int) ∧ v11 = .int .i64 (i : Int) ∧ Hid (z = 12 + (fwB FS i).length) ∧ Hid (Below W1.heap.size W1 wr)) (fun v3 v11 _ => fn - (intOf v11).toNat)
  case atStart => exact ⟨0, 12, Nat.zero_le _, rfl, rfl, rfl, Below.refl _ _⟩
  case round =>
    obtain ⟨i, z, hi, rfl, rfl, HZ, HR⟩ := hrel
    by_cases hlt : i < fn
    · have HLT : Hid (i < fn ∧ fn ≤ 1000000000) := ⟨hlt, HLE.out.2.2.2⟩
      have hib : i < 1000000000 := by have := HLE.out; omega
      have hif : i < FS.length := by have := HLE.out; omega
      have HIF : Hid (i < FS.length) := hif
      obtain ⟨fb, fo, e0, hbl, d0, d1, d2, d3, d4⟩ := fnr_at (HW.out _ HR.out).2.2 hif
      subst e0
      obtain ⟨s, hs⟩ : ∃ s, s = (FS[i]'HIF.out).name := ⟨_, rfl⟩
      obtain ⟨fr, hfr⟩ : ∃ s, s = (FS[i]'HIF.out).fr := ⟨_, rfl⟩
      obtain ⟨fi, hfi⟩ : ∃ s, s = (FS[i]'HIF.out).fi := ⟨_, rfl⟩
      obtain ⟨ct, hct⟩ : ∃ s, s = (FS[i]'HIF.out).ct := ⟨_, rfl⟩
      obtain ⟨pa, hpa⟩ : ∃ s, s = (FS[i]'HIF.out).pa := ⟨_, rfl⟩
      replace d0 : wr.cell? ⟨fb, fo + i * 5, none⟩ = some (.string s) := by rw [hs]; exact d0
      replace d1 : wr.cell? ⟨fb, fo + i * 5 + 1, none⟩ = some (.int .i64 fr) := by rw [hfr]; exact d1
      replace d2 : wr.cell? ⟨fb, fo + i * 5 + 2, none⟩ = some (.int .i64 fi) := by rw [hfi]; exact d2
      replace d3 : wr.cell? ⟨fb, fo + i * 5 + 3, none⟩ = some (.int .i64 ct) := by rw [hct]; exact d3
      replace d4 : wr.cell? ⟨fb, fo + i * 5 + 4, none⟩ = some (.int .i64 pa) := by rw [hpa]; exact d4
      obtain ⟨y, hy⟩ : ∃ y, y = s.size := ⟨_, rfl⟩
      have hsy : s.size = y := hy.symm
      have hyb : y ≤ 64 := by rw [hy, hs]; exact HSZ.out.1 _ (List.getElem_mem _)
      have hzb : z ≤ 12 + 1000000000 * 78 := by
        have := fwB_le FS HSZ.out.1 i (by omega)
        have := HZ.out
        omega
      have HZN : Hid (z + (14 + y) = 12 + (fwB FS (i + 1)).length) := by
        show _ = _
        rw [fwB_succ FS HIF.out, List.length_append, wrR_len, HZ.out, hy, hs]
        omega
      clear hs hfr hfi hct hpa hy hif
      go_wp2_with fail
      go_roundw
      case rel => exact ⟨i + 1, z + (14 + y), by have := HLT.out; omega, by rw [show ((z + (14 + y) : Nat) : Int) = (z : Int) + (1 + (y : Int) + 8 + 4 + 1) by omega], by go_num, HZN, HR.out.trans ((below_newR wr _).mono HR.out.size)⟩
      case measure => have := HLT.out; simp [intOf]; omega
    · have hie : i = fn := by omega
      have HZ1 : Hid (z = 12 + (fwB FS fn).length) := by have := HZ.out; rw [hie] at this; exact this
      have HR1 : Hid _ := HR.out
      obtain ⟨⟨l0, c0, c1⟩, _, _⟩ := HW.out wr HR.out
      clear HZ HR hie
      go_wp2_with fail
      clear l0 c0 c1
      go_loopw [3, 28] (fun v3 v28 wr => ∃ (j y : Nat), j ≤ cn ∧ v3 = .int .i64 (y : Int) ∧ v28 = .int .i64 (j : Int) ∧ Hid (y = z + (iwB C j).length) ∧ Hid (Below W1.heap.size W1 wr)) (fun v3 v28 _ => cn - (intOf v28).toNat)
      case atStart => exact ⟨0, z, Nat.zero_le _, rfl, rfl, rfl, HR1.out⟩
      case round =>
        obtain ⟨j, y, hj, rfl, rfl, HY, HR⟩ := hrel
        by_cases hjl : j < cn
        · have HJL : Hid (j < cn ∧ cn ≤ 1000000000) := ⟨hjl, HLE.out.2.2.1⟩
          have hjb : j < 1000000000 := by have := HLE.out; omega
          have hjc : j < C.length := by have := HLE.out; omega
          have HJC : Hid (j < C.length) := hjc
          obtain ⟨sb, so, e0, hbl, d0, d1, d2, d3, d4⟩ := ins_at (HW.out _ HR.out).2.1 hjc
          subst e0
          obtain ⟨op, hop⟩ : ∃ s, s = (C[j]'HJC.out).op := ⟨_, rfl⟩
          obtain ⟨r0, hr0⟩ : ∃ s, s = (C[j]'HJC.out).a := ⟨_, rfl⟩
          obtain ⟨r1, hr1⟩ : ∃ s, s = (C[j]'HJC.out).b := ⟨_, rfl⟩
          obtain ⟨r2, hr2⟩ : ∃ s, s = (C[j]'HJC.out).c := ⟨_, rfl⟩
          obtain ⟨nn, hnn⟩ : ∃ s, s = (C[j]'HJC.out).n := ⟨_, rfl⟩
          replace d0 : wr.cell? ⟨sb, so + j * 5, none⟩ = some (.int .i64 op) := by rw [hop]; exact d0
          replace d1 : wr.cell? ⟨sb, so + j * 5 + 1, none⟩ = some (.int .i64 r0) := by rw [hr0]; exact d1
          replace d2 : wr.cell? ⟨sb, so + j * 5 + 2, none⟩ = some (.int .i64 r1) := by rw [hr1]; exact d2
          replace d3 : wr.cell? ⟨sb, so + j * 5 + 3, none⟩ = some (.int .i64 r2) := by rw [hr2]; exact d3
          replace d4 : wr.cell? ⟨sb, so + j * 5 + 4, none⟩ = some (.int .i64 nn) := by rw [hnn]; exact d4
          have hrc : 0 ≤ rcnt op := by rw [hop]; exact HSZ.out.2 _ (List.getElem_mem _)
          obtain ⟨cnt, hcnt⟩ : ∃ c : Nat, rcnt op = (c : Int) := ⟨(rcnt op).toNat, by omega⟩
          obtain ⟨T, hT⟩ : ∃ T, hasNC op = T := ⟨_, rfl⟩
          have hc3 : cnt ≤ 3 := by have := rcntC_le op; omega
          have hyb : y ≤ 12 + 1000000000 * 78 + 1000000000 * 12 := by
            have := fwB_le FS HSZ.out.1 fn (by have := HLE.out; omega)
            have := iwB_le C j (by omega)
            have := HZ1.out
            have := HY.out
            have := HLE.out
            omega
          have HYN : Hid (y + (1 + cnt) + (if T = true then 8 else 0) = z + (iwB C (j + 1)).length) := by
            show _ = _
            rw [iwB_succ C HJC.out, List.length_append, wrI_len, ← hop, hcnt, hT, Int.toNat_natCast, HY.out]
            omega
          have HCR : Hid (∀ W, Calls Tryd.prog 22 #[.int .i64 op] W fun e w' => e = .returned (.int .i64 (cnt : Int)) ∧ W = w') := fun W => (regsOf_any W op hcnt).mono fun e w' h => ⟨h.1, h.2.symm⟩
          have HCH : Hid (∀ W, Calls Tryd.prog 23 #[.int .i64 op] W fun e w' => e = .returned (.bool T) ∧ W = w') := fun W => (hasNum_any W op hT).mono fun e w' h => ⟨h.1, h.2.symm⟩
          clear hop hr0 hr1 hr2 hnn hrc hcnt hT hjc
          cases T with
          | false =>
            go_wp2_with (first | (go_at_call 23; refine Calls.mono (HCH.out _) ?_; rintro e w9 ⟨rfl, rfl⟩) | (go_at_call 22; refine Calls.mono (HCR.out _) ?_; rintro e w9 ⟨rfl, rfl⟩))
            go_roundw
            case rel => exact ⟨j + 1, y + (1 + cnt), by have := HJL.out; omega, by rw [show ((y + (1 + cnt) : Nat) : Int) = (y : Int) + (1 + (cnt : Int)) by omega], by go_num, HYN.out, HR.out.trans ((below_newR wr _).mono HR.out.size)⟩
            case measure => have := HJL.out; simp [intOf]; omega
          | true =>
            go_wp2_with (first | (go_at_call 23; refine Calls.mono (HCH.out _) ?_; rintro e w9 ⟨rfl, rfl⟩) | (go_at_call 22; refine Calls.mono (HCR.out _) ?_; rintro e w9 ⟨rfl, rfl⟩))
            go_roundw
            case rel => exact ⟨j + 1, y + (1 + cnt) + 8, by have := HJL.out; omega, by rw [show ((y + (1 + cnt) + 8 : Nat) : Int) = (y : Int) + (1 + (cnt : Int)) + 8 by omega], by go_num, HYN.out, HR.out.trans ((below_newR wr _).mono HR.out.size)⟩
            case measure => have := HJL.out; simp [intOf]; omega
        · have hje : j = cn := by omega
          have hy : y = szC C FS := by
            rw [HY.out, HZ1.out, hje, HLE.out.2.1, HLE.out.1]
            rfl
          have HFIN : Hid (Below w.heap.size w wr) := HB1.out.trans (HR.out.mono HB1.out.size)
          subst hy
          clear HY HR HZ1 hje
          go_wp2_with fail
          go_ret
          exact ⟨rfl, HFIN.out⟩
end Go.Proofs.YtjiaedckecfjbaaDoor
