import Derived.Test.YtjiaedckecfjbaaDoorVfD
set_option linter.unusedVariables false
set_option linter.unusedSimpArgs false
namespace Go.Proofs.YtjiaedckecfjbaaDoor
open Go.ChangeShapes Go.WideShapes Go.ChangeAt Go.RowKit Go.Maps

/-- The registers that an instruction uses. -/
def rgs (x : Ri) (i : Nat) : List Int := (([x.a, x.b, x.c] : List Int).take i).flatMap (lo 1)
theorem rgs_zero (x : Ri) : rgs x 0 = [] := rfl
theorem rgs_len (x : Ri) {i : Nat} (hi : i ≤ 3) : (rgs x i).length = i := by
  rcases (show i = 0 ∨ i = 1 ∨ i = 2 ∨ i = 3 by omega) with rfl | rfl | rfl | rfl <;> rfl
/-- An instruction's bytes. -/
def wrI (x : Ri) : List Int := lo 1 x.op ++ rgs x (rcnt x.op).toNat ++ (if hasNC x.op = true then lo 8 x.n else [])
theorem rcntC_le (op : Int) : rcnt op ≤ 3 := by
  unfold rcnt
  repeat' split
  all_goals omega
theorem wrI_len (x : Ri) : (wrI x).length = 1 + (rcnt x.op).toNat + (if hasNC x.op = true then 8 else 0) := by
  unfold wrI
  have := rcntC_le x.op
  rw [List.length_append, List.length_append, lo_len, rgs_len x (by omega)]
  congr 1
  split
  · exact lo_len _ _
  · rfl
set_option maxRecDepth 100000 in
theorem run_cut3 (a : Addr) (k : Nat) (hk : k ≤ 3) (w : World) : (Instr.sliceAt 77 (.pointer (some a)) none (some (.int .i64 (k : Int))) none).run Tryd.prog w = .ok (.slice (some a) k 3) w := by
  have e8 : Tryd.prog.arrayLen 77 = 3 := by kernel_rfl
  have := run_sliceAt_array_h (P := Tryd.prog) (t := 77) (a := a) w Tryd.underlying77 .i64 (k : Int) (by omega) (by rw [e8]; omega)
  have hs : (sizeOf (Tryd.prog.elem 77)).run Tryd.prog w = .ok 1 w := by kernel_rfl
  rw [this, hs, e8]
  simp [Result.andThen, slicedAt]
  cases a
  rfl
set_option maxRecDepth 100000 in
set_option maxHeartbeats 4000000 in
theorem wIns_any {w0 w : World} {wb b N : Nat} {D : List Int} (h : WrS w0 w wb b N D) (x : Ri) (hk : D.length + (wrI x).length ≤ N) (hN : N ≤ 1000000000000000000) (hr : 0 ≤ rcnt x.op) (hf : Fits x.op ∧ Fits x.a ∧ Fits x.b ∧ Fits x.c ∧ Fits x.n) :
    Calls Tryd.prog 27 #[.pointer (some ⟨wb, 0, none⟩), .agg #[.int .i64 x.op, .int .i64 x.a, .int .i64 x.b, .int .i64 x.c, .int .i64 x.n]] w fun e w' => e = .returned (.tuple #[]) ∧ WrS w0 w' wb b N (D ++ wrI x) := by
  obtain ⟨W1, hW1⟩ : ∃ W, W = w.alloc (.cells #[.int .i64 x.op, .int .i64 x.a, .int .i64 x.b, .int .i64 x.c, .int .i64 x.n] 55) := ⟨_, rfl⟩
  obtain ⟨q, hq⟩ : ∃ q, q = w.heap.size := ⟨_, rfl⟩
  have k0 : W1.heap[q]? = some (.cells #[.int .i64 x.op, .int .i64 x.a, .int .i64 x.b, .int .i64 x.c, .int .i64 x.n] 55 (0, 0)) := by rw [hW1, hq]; exact heap_alloc_new _ _
  have b1 : Below w.heap.size w W1 := by rw [hW1]; exact below_newR w _
  have HB1 : Hid _ := b1
  have HS0 : Hid _ := h
  have HS1 : Hid (WrS W1 W1 wb b N D) := (h.keep b1).rebase
  have HQ : Hid (q ≠ wb ∧ q ≠ b) := by
    have a := (Array.getElem?_eq_some_iff.1 h.wbx).1
    have c := (Array.getElem?_eq_some_iff.1 h.by_).1
    exact ⟨by omega, by omega⟩
  have HK : Hid _ := k0
  obtain ⟨op, hop⟩ : ∃ s, s = x.op := ⟨_, rfl⟩
  obtain ⟨r0, hr0⟩ : ∃ s, s = x.a := ⟨_, rfl⟩
  obtain ⟨r1, hr1⟩ : ∃ s, s = x.b := ⟨_, rfl⟩
  obtain ⟨r2, hr2⟩ : ∃ s, s = x.c := ⟨_, rfl⟩
  obtain ⟨n, hn⟩ : ∃ s, s = x.n := ⟨_, rfl⟩
  obtain ⟨cnt, hcnt⟩ : ∃ c : Nat, rcnt op = (c : Int) := ⟨(rcnt x.op).toNat, by rw [hop]; omega⟩
  obtain ⟨T, hT⟩ : ∃ T, hasNC op = T := ⟨_, rfl⟩
  have HXE : Hid (x = ⟨op, r0, r1, r2, n⟩) := by show x = _; rw [hop, hr0, hr1, hr2, hn]
  have hc3 : cnt ≤ 3 := by have := rcntC_le op; omega
  have HLEN : Hid (D.length + (1 + cnt + (if T = true then 8 else 0)) ≤ N ∧ N ≤ 1000000000000000000) := by
    rw [wrI_len, ← hop, hcnt, hT, Int.toNat_natCast] at hk
    exact ⟨hk, hN⟩
  have HWI : Hid (wrI x = lo 1 op ++ rgs x cnt ++ (if T = true then lo 8 n else [])) := by show _ = _; unfold wrI; rw [← hop, hcnt, hT, Int.toNat_natCast, hn]
  have HV : Hid (Fits op ∧ Fits r0 ∧ Fits r1 ∧ Fits r2 ∧ Fits n) := by rw [hop, hr0, hr1, hr2, hn]; exact hf
  have HRC : Hid _ := regsOf_any (k := (cnt : Int))
  have HCR : Hid (∀ W, Calls Tryd.prog 22 #[.int .i64 op] W fun e w' => e = .returned (.int .i64 (cnt : Int)) ∧ W = w') := fun W => (regsOf_any W op hcnt).mono fun e w' h => ⟨h.1, h.2.symm⟩
  have HCH : Hid (∀ W, Calls Tryd.prog 23 #[.int .i64 op] W fun e w' => e = .returned (.bool T) ∧ W = w') := fun W => (hasNum_any W op hT).mono fun e w' h => ⟨h.1, h.2.symm⟩
  rw [← hop, ← hr0, ← hr1, ← hr2, ← hn] at hW1 HK
  rw [← hop, ← hr0, ← hr1, ← hr2, ← hn]
  clear h hk hN hr hf k0 b1 hop hr0 hr1 hr2 hn hcnt hT HRC
  go_enter Tryd.func27, Tryd.ntmps27
  go_upto_region 1 with fail
  rw [← hW1, ← hq]
  clear hW1 hq
  have c0 : W1.cell? ⟨q, 0, none⟩ = some (.int .i64 op) := cell_arr HK.out rfl
  have l0 := (Array.getElem?_eq_some_iff.1 HK.out).1
  have HC0 : Hid _ := wNum_any HS1.out op (k := 1) (by have := HLEN.out.1; omega) (by omega) HLEN.out.2 HV.out.1
  go_wp2_with fail
  refine Calls.mono HC0.out ?_
  rintro e W2 ⟨rfl, hS⟩
  have HS2 : Hid _ := hS
  clear hS HC0 c0 l0
  have bx := HS2.out.other HK.out HQ.out.1 HQ.out.2
  have HKX : Hid _ := bx
  have x0 : W2.cell? ⟨q, 0, none⟩ = some (.int .i64 op) := cell_arr bx rfl
  have x1 : W2.cell? ⟨q, 1, none⟩ = some (.int .i64 r0) := cell_arr bx rfl
  have x2 : W2.cell? ⟨q, 2, none⟩ = some (.int .i64 r1) := cell_arr bx rfl
  have x3 : W2.cell? ⟨q, 3, none⟩ = some (.int .i64 r2) := cell_arr bx rfl
  have l1 := (Array.getElem?_eq_some_iff.1 bx).1
  clear bx
  go_upto_region 3 with fail
  obtain ⟨W3, hW3⟩ : ∃ W, W = W2.alloc (.cells #[.int .i64 r0, .int .i64 r1, .int .i64 r2] 77) := ⟨_, rfl⟩
  obtain ⟨p, hp⟩ : ∃ p, p = W2.heap.size := ⟨_, rfl⟩
  have k3 : W3.heap[p]? = some (.cells #[.int .i64 r0, .int .i64 r1, .int .i64 r2] 77 (0, 0)) := by rw [hW3, hp]; exact heap_alloc_new _ _
  have b3 : Below W2.heap.size W2 W3 := by rw [hW3]; exact below_newR W2 _
  have HK3 : Hid _ := k3
  have HKQ : Hid _ := (b3.block _ (Array.getElem?_eq_some_iff.1 HKX.out).1).trans HKX.out
  have HS3 : Hid (WrS W3 W3 wb b N (D ++ lo 1 op ++ rgs x 0)) := by rw [rgs_zero, List.append_nil]; exact (HS2.out.keep b3).rebase
  have HB3 : Hid _ := b3
  have HPN : Hid (p ≠ wb ∧ p ≠ b) := by
    have a := (Array.getElem?_eq_some_iff.1 HS2.out.wbx).1
    have c := (Array.getElem?_eq_some_iff.1 HS2.out.by_).1
    exact ⟨by omega, by omega⟩
  rw [← hW3, ← hp]
  clear hW3 hp k3 b3 x0 x1 x2 x3 l1 HKX
  have y0 : W3.cell? ⟨q, 0, none⟩ = some (.int .i64 op) := cell_arr HKQ.out rfl
  have ly := (Array.getElem?_eq_some_iff.1 HKQ.out).1
  have lp := (Array.getElem?_eq_some_iff.1 HK3.out).1
  have hsl := run_cut3 ⟨p, 0, none⟩ cnt hc3 W3
  go_wp2_with (go_at_call 22; refine Calls.mono (HCR.out _) ?_; rintro e w9 ⟨rfl, rfl⟩)
  clear hsl y0 ly lp
  go_loopw [6, 23] (fun v6 v23 wr => ∃ i : Nat, i ≤ cnt ∧ v23 = .int .i64 (i : Int) ∧ Hid (WrS W3 wr wb b N (D ++ lo 1 op ++ rgs x i))) (fun v6 v23 _ => cnt - (intOf v23).toNat)
  case atStart => exact ⟨0, Nat.zero_le _, rfl, HS3.out⟩
  case round =>
    obtain ⟨i, hi, rfl, HS⟩ := hrel
    have kp := HS.out.other HK3.out HPN.out.1 HPN.out.2
    have kq := HS.out.other HKQ.out HQ.out.1 HQ.out.2
    have hpl := (Array.getElem?_eq_some_iff.1 kp).1
    have hql := (Array.getElem?_eq_some_iff.1 kq).1
    have y0 : wr.cell? ⟨q, 0, none⟩ = some (.int .i64 op) := cell_arr kq rfl
    have y4 : wr.cell? ⟨q, 4, none⟩ = some (.int .i64 n) := cell_arr kq rfl
    by_cases hlt : i < cnt
    · have HLT : Hid (i < cnt ∧ cnt ≤ 3) := ⟨hlt, hc3⟩
      obtain ⟨v, hv, hvf, hnx⟩ : ∃ v : Int, wr.cell? ⟨p, i, none⟩ = some (.int .i64 v) ∧ Fits v ∧ rgs x (i + 1) = rgs x i ++ lo 1 v := by
        rcases (show i = 0 ∨ i = 1 ∨ i = 2 by omega) with rfl | rfl | rfl
        · exact ⟨r0, cell_arr kp rfl, HV.out.2.1, by rw [HXE.out]; rfl⟩
        · exact ⟨r1, cell_arr kp rfl, HV.out.2.2.1, by rw [HXE.out]; rfl⟩
        · exact ⟨r2, cell_arr kp rfl, HV.out.2.2.2.1, by rw [HXE.out]; rfl⟩
      have HNX : Hid _ := hnx
      have HC : Hid _ := wNum_any HS.out v (k := 1) (by have := HLEN.out.1; rw [List.length_append, List.length_append, lo_len, rgs_len x (by omega)]; omega) (by omega) HLEN.out.2 hvf
      clear hnx hvf kp kq y0 y4 hql
      go_wp2_with fail
      refine Calls.mono HC.out ?_
      rintro e W4 ⟨rfl, hS⟩
      have HS4 : Hid (WrS W3 W4 wb b N (D ++ lo 1 op ++ rgs x (i + 1))) := by
        rw [HNX.out, ← List.append_assoc]
        exact hS
      clear hS HC HS
      go_wp2_with fail
      go_roundw
      case rel => exact ⟨i + 1, by have := HLT.out; omega, by go_num, HS4⟩
      case measure => have := HLT.out; simp [intOf]; omega
    · have hie : i = cnt := by omega
      have HSE : Hid (WrS W3 wr wb b N (D ++ lo 1 op ++ rgs x cnt)) := by have := HS.out; rw [hie] at this; exact this
      clear kp kq hpl HS hie
      cases hTT : T with
      | false =>
        subst hTT
        have HF : Hid (WrS w0 wr wb b N (D ++ wrI x)) := by
          have := HS0.out.back HB1.out (HS2.out.back HB3.out HSE.out)
          rw [HWI.out]
          simp only [List.append_assoc, if_neg (show ¬ (false = true) by simp), List.append_nil] at this ⊢
          exact this
        clear HSE
        go_wp2_with (go_at_call 23; refine Calls.mono (HCH.out _) ?_; rintro e w9 ⟨rfl, rfl⟩)
        exact bodyPost_end (v := .tuple #[]) (by simp [results, Tryd.results27, go_sem]) rfl ⟨rfl, HF.out⟩
      | true =>
        subst hTT
        have HC : Hid _ := wNum_any HSE.out n (k := 8) (by have := HLEN.out.1; rw [List.length_append, List.length_append, lo_len, rgs_len x (by omega)]; simp only [if_true] at this; omega) (by omega) HLEN.out.2 HV.out.2.2.2.2
        go_wp2_with (go_at_call 23; refine Calls.mono (HCH.out _) ?_; rintro e w9 ⟨rfl, rfl⟩)
        refine Calls.mono HC.out ?_
        rintro e W4 ⟨rfl, hS⟩
        have HF : Hid (WrS w0 W4 wb b N (D ++ wrI x)) := by
          have := HS0.out.back HB1.out (HS2.out.back HB3.out hS)
          rw [HWI.out]
          simp only [List.append_assoc, if_true] at this ⊢
          exact this
        clear hS HC HSE
        go_wp2_with fail
        exact bodyPost_end (v := .tuple #[]) (by simp [results, Tryd.results27, go_sem]) rfl ⟨rfl, HF.out⟩
end Go.Proofs.YtjiaedckecfjbaaDoor
