import Derived.Test.YtdbkjjelaipcfaaGreatDoorMbc
import Derived.Test.YtdbkjjelaipcfaaGreatDoorMbd
set_option linter.unusedVariables false
set_option linter.unusedSimpArgs false
namespace Go.Proofs.YtdbkjjelaipcfaaGreatDoor
open Go.ChangeShapes Go.WideShapes Go.ChangeAt Go.RowKit Go.Maps
theorem few_rn {f : Fu} (b : Nat) (h : FewF f) : FewF (rnF b f) := by
 have e1 : (rnF b f).blks.length = f.blks.length := by simp [rnF]
 refine ⟨by rw [e1]; exact h.blks, ?_⟩
 have e2 : totK (rnF b f) (rnF b f).blks.length = totK f f.blks.length := by
  rw [e1]
  unfold totK
  have e3 : ((rnF b f).blks.take f.blks.length).map (fun b => b.phis.length + b.body.length) = (f.blks.take f.blks.length).map (fun b => b.phis.length + b.body.length) := by
   simp only [rnF, <- List.map_take, List.map_map]
   congr 1
   funext x
   simp [rnB]
  rw [e3]
  simp [rnF]
 rw [e2]; exact h.tot
structure RI (FS : List Fu) (i : Nat) : Prop where
 out : ∀ j (h : j < FS.length), j < i -> RR FS[j]
theorem RI.more {FS i} (h : RI FS i) (hi : i < FS.length) (hr : RR FS[i]) : RI FS (i + 1) := ⟨fun j h1 h2 => by
 rcases Nat.lt_succ_iff_lt_or_eq.1 h2 with q | rfl
 ·exact h.out j h1 q
 ·exact hr⟩
theorem all_wi {n : Nat} {L : List Int} (h : L.all (wi n) = true) : ∀ x ∈ L, wi n x = true := List.all_eq_true.1 h
set_option maxRecDepth 100000 in
set_option maxHeartbeats 16000000 in
theorem ssaRenamed_in (w : World) (hTab : Tab w) {fa : Option Addr} {fn fc : Nat} {mn : Int} {FS : List Fu} (hF : Fus w fa fc FS) (ef : fn = FS.length) (hb : szS FS <= 1048576) (B : Nat) (hB : B <= 1000) :
 Calls Tryz.prog 5 #[.agg #[.slice fa fn fc, .int .i64 mn], .int .i64 B] w fun e w' => e = .returned (.bool true) /\ Below w.heap.size w w' := by
 obtain ⟨W0, hW0⟩ : ∃ W, W = w.alloc (.cells #[.slice fa fn fc, .int .i64 mn] 24) := ⟨_, rfl⟩
 have b0 : Below w.heap.size w W0 := by rw [hW0]; exact below_new _ _
 have ks : W0.heap[w.heap.size]? = some (.cells #[.slice fa fn fc, .int .i64 mn] 24) := by rw [hW0]; exact heap_alloc_new _ _
 have HW0L : Hid (w.heap.size < W0.heap.size) := (gl ks)
 have HKS : Hid (∀ w', Below W0.heap.size W0 w' -> w'.cell? ⟨w.heap.size, 0, none⟩ = some (.slice fa fn fc) /\ w'.cell? ⟨w.heap.size, 1, none⟩ = some (.int .i64 mn)) := fun w' hb => by
  have e1 := (hb.block _ (gl ks)).trans ks
  exact ⟨cell_arr e1 rfl, cell_arr e1 rfl⟩
 have HTB : Hid (∀ w', Below w.heap.size w w' -> Tab w') := fun w' hb => hTab.below hb hTab.1
 have HF : Hid (∀ w', Below w.heap.size w w' -> Fus w' fa fc FS) := fun w' hb => hF.below hb (Nat.le_refl _)
 have hfx : fn <= fc /\ fc <= 9223372036854775807 := by have := hF.le; have := hF.mx; omega
 have HEF : Hid (fn = FS.length) := ef
 have HBF : Hid (szS FS <= 1048576) := hb
 have HB0 : Hid (Below w.heap.size w W0) := b0
 obtain ⟨a0, a1⟩ := HKS.out W0 (Below.refl _ _)
 clear hTab hF ef hb b0 ks
 go_enter Tryz.func5, Tryz.ntmps5
 go_wp2_with fail
 rw [<- hW0]
 clear hW0
 refine (alive9_any W0 (HTB.out W0 HB0.out)).mono ?_
 rintro e w1 ⟨rfl, b1⟩
 have HB1 : Hid (Below W0.heap.size W0 w1) := b1
 have HW1 : Hid (Below w.heap.size w w1) := HB0.out.trans (b1.mono HB0.out.size)
 obtain ⟨a0, a1⟩ := HKS.out w1 b1
 clear b1
 go_wp2_with fail
 refine (small_any w1 (HF.out w1 HW1.out) HEF.out HBF.out).mono ?_
 rintro e w2 ⟨⟨R1, rfl, hR1⟩, b2⟩
 have HB2 : Hid (Below W0.heap.size W0 w2) := HB1.out.trans (b2.mono HB1.out.size)
 have HW2 : Hid (Below w.heap.size w w2) := HB0.out.trans (HB2.out.mono HB0.out.size)
 have HR1 : Hid (R1 = true -> FS.length <= 300 /\ ∀ f ∈ FS, f.blks.length <= 2000) := hR1
 clear b2 hR1 HB1 HW1 a0 a1
 cases R1 with
 | false =>
   go_wp2_with fail
   go_ret
   exact ⟨rfl, HW2.out⟩
 | true =>
   have h300 : fn <= 300 := by have := (HR1.out rfl).1; have := HEF.out; omega
   have HMAIN : Hid (∀ (B : Nat), B <= 1000 -> (∀ f ∈ FS, RR f) -> ∀ w' : World, Below w.heap.size w w' -> Calls Tryz.prog 14 #[.agg #[.slice fa fn fc, .int .i64 mn], .int .i64 B] w' fun e w'' => ∃ ao c, e = .returned (.agg #[.slice ao fn c, .int .i64 mn]) /\ Fus w'' ao c (FS.map (rnF B)) /\ Below w'.heap.size w' w'') := fun B hB hr w' hb => renamed_any w' (HF.out w' hb) HEF.out (by omega) (few_of HBF.out) hr B hB
   obtain ⟨r1, hr1⟩ : ∃ r, r = checkP FS mn := ⟨_, rfl⟩
   have HC1 : Hid (∀ (w' : World) (a : Option Addr) (c : Nat), Below w.heap.size w w' -> Fus w' a c FS -> Calls Tryz.prog 10 #[.agg #[.slice a fn c, .int .i64 mn]] w' fun e w'' => e = .returned (.int .i64 r1) /\ Below w'.heap.size w' w'') := fun w' a c hb hf => check_any w' (HTB.out w' hb) a fn c FS HEF.out hf (by omega) (fewF_of HBF.out (HR1.out rfl).2) mn r1 hr1.symm
   have HC2 : Hid (∀ (B : Nat) (w' : World) (a : Option Addr) (c : Nat), (∀ f ∈ FS, RR f) -> Below w.heap.size w w' -> Fus w' a c (FS.map (rnF B)) -> Calls Tryz.prog 10 #[.agg #[.slice a fn c, .int .i64 mn]] w' fun e w'' => e = .returned (.int .i64 r1) /\ Below w'.heap.size w' w'') := fun B w' a c hr hb hf => check_any w' (HTB.out w' hb) a fn c (FS.map (rnF B)) (by rw [List.length_map]; exact HEF.out) hf (by omega) (fun g hg => by
    obtain ⟨f, hf1, rfl⟩ := List.mem_map.1 hg
    exact few_rn B (fewF_of HBF.out (HR1.out rfl).2 f hf1)) mn r1 (by rw [check_same (rnP_of B hr) mn]; exact hr1.symm)
   have hd1 : decide ((B : Int) < 0) = false := by simp
   have hd2 : decide (1000 < (B : Int)) = false := by simp; omega
   clear hr1
   go_upto_region 7 with fail
   go_wp2_with fail
   go_loopw [7] (fun v wr => ∃ k : Nat, k <= fn /\ v = .int .i64 k /\ Hid (RI FS k) /\ Hid (Below W0.heap.size W0 wr)) (fun v _ => fn - (intOf v).toNat)
   case atStart => exact ⟨0, by omega, rfl, ⟨fun j _ h => by omega⟩, HB2⟩
   case round =>
    clear HB2 HW2
    obtain ⟨k, hk, rfl, HRI, HB⟩ := hrel
    obtain ⟨wo, rfl⟩ : ∃ wo, wo = wr := ⟨_, rfl⟩
    obtain ⟨a0, a1⟩ := HKS.out wo HB.out
    have HWo : Hid (Below w.heap.size w wo) := HB0.out.trans (HB.out.mono HB0.out.size)
    have hwl : w.heap.size < wo.heap.size := by have := HW0L.out; have := HB.out.size; omega
    by_cases hlt : k < fn
    ·have hkf : k < FS.length := by have := HEF.out; omega
     obtain ⟨b', o', ka, kc, la, lc, ma, mc, ea, hlt0, d0, d1, d2, d3, d4, j1, j2, j3⟩ := (HF.out wo HWo.out).at hkf
     rw [ea] at a0
     obtain ⟨f, hf⟩ : ∃ f, f = FS[k] := ⟨_, rfl⟩
     rw [<- hf] at d0 d1 d2 d3 d4 j1 j2 j3
     obtain ⟨pn, hpn⟩ : ∃ n, n = f.params.length := ⟨_, rfl⟩
     obtain ⟨vn, hvn⟩ : ∃ n, n = f.vals.length := ⟨_, rfl⟩
     obtain ⟨bn, hbn⟩ : ∃ n, n = f.blks.length := ⟨_, rfl⟩
     obtain ⟨s, hs⟩ : ∃ n, n = f.name := ⟨_, rfl⟩
     obtain ⟨r, hr⟩ : ∃ n, n = f.result := ⟨_, rfl⟩
     rw [<- hs] at d0
     rw [<- hpn] at d1
     rw [<- hr] at d2
     rw [<- hvn] at d3
     rw [<- hbn] at d4
     obtain ⟨W5, hW5⟩ : ∃ W, W = wo.alloc (.cells #[.string s, .slice ka pn kc, .int .i64 r, .slice la vn lc, .slice ma bn mc] 38) := ⟨_, rfl⟩
     have b5 : Below wo.heap.size wo W5 := by rw [hW5]; exact below_new _ _
     have k5 : W5.heap[wo.heap.size]? = some (.cells #[.string s, .slice ka pn kc, .int .i64 r, .slice la vn lc, .slice ma bn mc] 38 (0, 0)) := by rw [hW5]; exact heap_alloc_new _ _
     obtain ⟨FB, hFB⟩ : ∃ B, B = wo.heap.size := ⟨_, rfl⟩
     rw [<- hFB] at k5
     have HB5 : Hid (Below W0.heap.size W0 W5) := HB.out.trans (b5.mono HB.out.size)
     have HW5 : Hid (Below w.heap.size w W5) := HB0.out.trans (HB5.out.mono HB0.out.size)
     have HE : Hid (f = FS[k] /\ vn = f.vals.length /\ bn = f.blks.length) := ⟨hf, hvn, hbn⟩
     have HCT : Hid (∀ w', Below W5.heap.size W5 w' -> LF w' ka pn kc la vn lc ma bn mc f) := fun w' hb => (LF.below ⟨hpn, hvn, hbn, j1, j2, j3⟩ b5).below hb
     have HZC : Hid (∀ w', Below W5.heap.size W5 w' -> w'.heap[FB]? = some (.cells #[.string s, .slice ka pn kc, .int .i64 r, .slice la vn lc, .slice ma bn mc] 38 (0, 0))) := fun w' hb => (hb.block FB (gl k5)).trans k5
     have m3 : vn <= lc /\ lc <= 9223372036854775807 := by have := j2.le; have := j2.mx; omega
     have m4 : bn <= mc /\ mc <= 9223372036854775807 := by have := j3.le; have := j3.mx; omega
     have hbl : b' < wo.heap.size := hlt0
     have n1 := numbers_any W5 ka pn kc vn f.params hpn (HCT.out W5 (Below.refl _ _)).hp
     obtain ⟨T1, hT1⟩ : ∃ T, T = f.params.all (wi vn) := ⟨_, rfl⟩
     rw [<- hT1] at n1
     have N1 : Hid _ := n1
     have HT1 : Hid (T1 = f.params.all (wi vn)) := hT1
     have z1 : W5.cell? ⟨FB, 1, none⟩ = some (.slice ka pn kc) := cell_arr k5 rfl
     have z3 : W5.cell? ⟨FB, 3, none⟩ = some (.slice la vn lc) := cell_arr k5 rfl
     have hFl : FB < W5.heap.size := (gl k5)
     clear hf hpn hvn hbn hs hr j1 j2 j3 b5 k5 ea n1 hT1
     go_upto_region 11 with fail
     rw [<- hW5]
     rw [<- hFB]
     clear hW5 hFB d0 d1 d2 d3 d4 a0 a1
     go_wp2_with fail
     refine Calls.mono N1.out ?_
     rintro e w9 ⟨rfl, h9⟩
     rw [h9]
     clear h9 w9 z1 z3
     cases T1 with
     | false =>
       go_wp2_with fail
       go_ret
       exact ⟨rfl, HW5.out⟩
     | true =>
       go_wp2_with fail
       go_loopw [9] (fun v wr => ∃ i : Nat, i <= vn /\ v = .int .i64 i /\ Hid (∀ j (h : j < f.vals.length), j < i -> f.vals[j].args.all (wi vn) = true) /\ Hid (Below W5.heap.size W5 wr)) (fun v _ => vn - (intOf v).toNat)
       case atStart => exact ⟨0, by omega, rfl, fun j _ h => by omega, Below.refl _ _⟩
       case round =>
        obtain ⟨i, hi, rfl, HAI, HB6⟩ := hrel
        obtain ⟨wq, rfl⟩ : ∃ wq, wq = wr := ⟨_, rfl⟩
        have z3 : wq.cell? ⟨FB, 3, none⟩ = some (.slice la vn lc) := cell_arr (HZC.out wq HB6.out) rfl
        have hFq : FB < wq.heap.size := (Array.getElem?_eq_some_iff.1 (HZC.out wq HB6.out)).1
        by_cases hiv : i < vn
        ·have hif : i < f.vals.length := by have := HE.out.2.1; omega
         obtain ⟨bv, ov, aa, ac, ea, hlv, r0, r1', r2, r3, ri⟩ := (HCT.out wq HB6.out).hv.at4 hif
         rw [ea] at z3
         obtain ⟨T2, hT2⟩ : ∃ T, T = f.vals[i].args.all (wi vn) := ⟨_, rfl⟩
         have HT2 : Hid (T2 = f.vals[i].args.all (wi vn)) := hT2
         have HN2 : Hid (∀ q, Calls Tryz.prog 13 #[.slice aa f.vals[i].args.length ac, .int .i64 vn] (wq.drewN q) fun e w'' => e = .returned (.bool T2) /\ w'' = wq.drewN q) := fun q => by
          have := numbers_any (wq.drewN q) aa _ ac vn f.vals[i].args rfl (ri.below (below_drawn (Below.refl _ _) q) (Nat.le_refl _))
          rw [<- hT2] at this
          exact this
         have HN3 : Hid (Calls Tryz.prog 13 #[.slice aa f.vals[i].args.length ac, .int .i64 vn] wq.drew fun e w'' => e = .returned (.bool T2) /\ w'' = wq.drew) := by
          have := numbers_any wq.drew aa _ ac vn f.vals[i].args rfl (ri.below (Below.refl _ _).drew (Nat.le_refl _))
          rw [<- hT2] at this
          exact this
         generalize f.vals[i].args.length = al at r3 HN2 HN3
         have HB7 : Hid (∀ q, Below W5.heap.size W5 (wq.drewN q)) := fun q => below_drawn HB6.out q
         have HW7 : Hid (∀ q, Below w.heap.size w (wq.drewN q)) := fun q => HW5.out.trans ((HB7.out q).mono HW5.out.size)
         have hbvl : bv < wq.heap.size := hlv
         clear r0 r1' r2 ri hT2 ea
         cases T2 with
         | false =>
           go_wp2_with fail
           go_quiet (first | (go_at_call 13; first | exact Calls.quiet_of_same (HN2.out _) | exact Calls.quiet_of_same HN3.out))
           go_wp2_with fail
           go_ret
           exact ⟨rfl, HW7.out _⟩
         | true =>
           have HAJ : Hid (∀ j (h : j < f.vals.length), j < i + 1 -> f.vals[j].args.all (wi vn) = true) := fun j h1 h2 => by
            rcases Nat.lt_succ_iff_lt_or_eq.1 h2 with q | rfl
            ·exact HAI.out j h1 q
            ·exact HT2.out.symm
           go_wp2_with fail
           go_quiet (first | (go_at_call 13; first | exact Calls.quiet_of_same (HN2.out _) | exact Calls.quiet_of_same HN3.out))
           go_wp2_with fail
           go_roundw
           case rel => exact ⟨i + 1, by omega, by go_num, HAJ.out, HB7.out _⟩
           case measure => simp [intOf]; omega
        ·have HAA : Hid (∀ v ∈ f.vals, v.args.all (wi vn) = true) := fun v hv => by
          obtain ⟨j, hj, rfl⟩ := List.getElem_of_mem hv
          exact HAI.out j hj (by have := HE.out.2.1; omega)
         go_wp2_with fail
         clear z3 HAI
         go_loopw [10] (fun v wr => ∃ i : Nat, i <= bn /\ v = .int .i64 i /\ Hid (∀ j (h : j < f.blks.length), j < i -> f.blks[j].phis.all (wi vn) = true /\ f.blks[j].body.all (wi vn) = true /\ f.blks[j].val < (vn : Int)) /\ Hid (Below W5.heap.size W5 wr)) (fun v _ => bn - (intOf v).toNat)
         case atStart => exact ⟨0, by omega, rfl, fun j _ h => by omega, HB6⟩
         case round =>
          clear HB6
          obtain ⟨i, hi, rfl, HBI, HB6⟩ := hrel
          obtain ⟨wq, rfl⟩ : ∃ wq, wq = wr := ⟨_, rfl⟩
          have z4 : wq.cell? ⟨FB, 4, none⟩ = some (.slice ma bn mc) := cell_arr (HZC.out wq HB6.out) rfl
          have hFq : FB < wq.heap.size := (Array.getElem?_eq_some_iff.1 (HZC.out wq HB6.out)).1
          by_cases hib : i < bn
          ·have hif : i < f.blks.length := by have := HE.out.2.2; omega
           obtain ⟨xb, xo, k1a, k1c, k2a, k2c, k3a, k3c, k4a, k4c, ea, hlx, r0, r1', r2, r3, r4, r5, i1, i2, i3, i4⟩ := (HCT.out wq HB6.out).hb.at hif
           rw [ea] at z4
           obtain ⟨bk, hbk⟩ : ∃ x, x = f.blks[i] := ⟨_, rfl⟩
           rw [<- hbk] at r0 r1' r2 r3 r4 r5 i1 i2 i3 i4
           obtain ⟨W6, hW6⟩ : ∃ W, W = wq.alloc (.cells #[.slice k1a bk.phis.length k1c, .slice k2a bk.body.length k2c, .int .i64 bk.kind, .int .i64 bk.val, .slice k3a bk.ways.length k3c, .slice k4a bk.preds.length k4c] 46) := ⟨_, rfl⟩
           obtain ⟨BB, hBB⟩ : ∃ B, B = wq.heap.size := ⟨_, rfl⟩
           have b6 : Below wq.heap.size wq W6 := by rw [hW6]; exact below_new _ _
           have k6 : W6.heap[BB]? = some (.cells #[.slice k1a bk.phis.length k1c, .slice k2a bk.body.length k2c, .int .i64 bk.kind, .int .i64 bk.val, .slice k3a bk.ways.length k3c, .slice k4a bk.preds.length k4c] 46 (0, 0)) := by rw [hW6, hBB]; exact heap_alloc_new _ _
           have HB8 : Hid (Below W5.heap.size W5 W6) := HB6.out.trans (b6.mono HB6.out.size)
           have HW8 : Hid (Below w.heap.size w W6) := HW5.out.trans (HB8.out.mono HW5.out.size)
           have n1 := numbers_any W6 k1a _ k1c vn bk.phis rfl (i1.below b6 (Nat.le_refl _))
           have n2 := numbers_any W6 k2a _ k2c vn bk.body rfl (i2.below b6 (Nat.le_refl _))
           obtain ⟨T1, hT1⟩ : ∃ T, T = bk.phis.all (wi vn) := ⟨_, rfl⟩
           obtain ⟨T2, hT2⟩ : ∃ T, T = bk.body.all (wi vn) := ⟨_, rfl⟩
           rw [<- hT1] at n1
           rw [<- hT2] at n2
           have HBN : Hid (T1 = true -> T2 = true -> bk.val < (vn : Int) -> ∀ j (h : j < f.blks.length), j < i + 1 -> f.blks[j].phis.all (wi vn) = true /\ f.blks[j].body.all (wi vn) = true /\ f.blks[j].val < (vn : Int)) := fun q1 q2 q3 j h1 h2 => by
            rcases Nat.lt_succ_iff_lt_or_eq.1 h2 with q | rfl
            ·exact HBI.out j h1 q
            ·rw [<- hbk]; exact ⟨by rw [<- hT1]; exact q1, by rw [<- hT2]; exact q2, q3⟩
           generalize bk.phis.length = l1 at r0 hW6 k6 n1
           generalize bk.body.length = l2 at r1' hW6 k6 n2
           generalize bk.ways.length = l3 at r4 hW6 k6
           generalize bk.preds.length = l4 at r5 hW6 k6
           generalize bk.kind = kd at r2 hW6 k6
           generalize bk.val = vl at r3 hW6 k6 HBN
           have N1 : Hid _ := n1
           have N2 : Hid _ := n2
           have y0 : W6.cell? ⟨BB, 0, none⟩ = some (.slice k1a l1 k1c) := cell_arr k6 rfl
           have y1 : W6.cell? ⟨BB, 1, none⟩ = some (.slice k2a l2 k2c) := cell_arr k6 rfl
           have y3 : W6.cell? ⟨BB, 3, none⟩ = some (.int .i64 vl) := cell_arr k6 rfl
           have z3 : W6.cell? ⟨FB, 3, none⟩ = some (.slice la vn lc) := cell_arr (HZC.out W6 HB8.out) rfl
           have hxl : xb < wq.heap.size := hlx
           have hBl : BB < W6.heap.size := (gl k6)
           clear i1 i2 i3 i4 n1 n2 hT1 hT2 b6 k6 hbk ea
           go_upto_region 22 with fail
           rw [<- hW6]
           rw [<- hBB]
           clear hW6 hBB r0 r1' r2 r3 r4 r5 z4
           go_wp2_with fail
           refine Calls.mono N1.out ?_
           rintro e w9 ⟨rfl, h9⟩
           rw [h9]
           clear h9 w9
           cases T1 with
           | false =>
             go_wp2_with fail
             go_ret
             exact ⟨rfl, HW8.out⟩
           | true =>
             go_wp2_with fail
             refine Calls.mono N2.out ?_
             rintro e w9 ⟨rfl, h9⟩
             rw [h9]
             clear h9 w9
             cases T2 with
             | false =>
               go_wp2_with fail
               go_ret
               exact ⟨rfl, HW8.out⟩
             | true =>
               by_cases hv : vl < (vn : Int)
               ·have hd : decide ((vn : Int) <= vl) = false := by simp; omega
                have HBM : Hid _ := HBN.out (by simp) (by simp) hv
                go_wp2_with fail
                go_roundw
                case rel => exact ⟨i + 1, by omega, by go_num, HBM.out, HB8.out⟩
                case measure => simp [intOf]; omega
               ·have hd : decide ((vn : Int) <= vl) = true := by simp; omega
                go_wp2_with fail
                go_ret
                exact ⟨rfl, HW8.out⟩
          ·have HRK : Hid (RI FS (k + 1)) := HRI.out.more hkf (by
            rw [<- HE.out.1]
            refine ⟨?_, fun v hv => ?_, fun b hb => ?_⟩
            ·rw [<- HE.out.2.1]; exact all_wi HT1.out.symm
            ·rw [<- HE.out.2.1]; exact all_wi (HAA.out v hv)
            ·obtain ⟨j, hj, rfl⟩ := List.getElem_of_mem hb
             obtain ⟨q1, q2, q3⟩ := HBI.out j hj (by have := HE.out.2.2; omega)
             rw [<- HE.out.2.1]
             exact ⟨all_wi q1, all_wi q2, q3⟩)
           have HBO : Hid (Below W0.heap.size W0 wq) := HB5.out.trans (HB6.out.mono HB5.out.size)
           go_wp2_with fail
           go_roundw
           case rel => exact ⟨k + 1, by omega, by go_num, HRK.out, HBO.out⟩
           case measure => simp [intOf]; omega
    ·have hRR : ∀ f ∈ FS, RR f := fun f hf => by
      obtain ⟨j, hj, rfl⟩ := List.getElem_of_mem hf
      exact HRI.out.out j hj (by have := HEF.out; omega)
     have HL1 : Hid _ := lent_any wo (mn := mn) (HF.out wo HWo.out) HEF.out (by omega) (few_of HBF.out)
     have HREN : Hid (∀ w', Below w.heap.size w w' -> Calls Tryz.prog 14 #[.agg #[.slice fa fn fc, .int .i64 mn], .int .i64 B] w' fun e w'' => ∃ ao c, e = .returned (.agg #[.slice ao fn c, .int .i64 mn]) /\ Fus w'' ao c (FS.map (rnF B)) /\ Below w'.heap.size w' w'') := fun w' hb => HMAIN.out B (by omega) hRR w' hb
     have HCK : Hid (∀ (w' : World) (a : Option Addr) (c : Nat), Below w.heap.size w w' -> Fus w' a c (FS.map (rnF B)) -> Calls Tryz.prog 10 #[.agg #[.slice a fn c, .int .i64 mn]] w' fun e w'' => e = .returned (.int .i64 r1) /\ Below w'.heap.size w' w'') := fun w' a c hb hf => HC2.out B w' a c hRR hb hf
     clear hRR
     go_wp2_with fail
     refine Calls.mono HL1.out ?_
     rintro e w4 ⟨fb, fc2, rfl, L4, k4, b4⟩
     obtain ⟨lb, hlb⟩ : ∃ lb, lb = wo.heap.size + 1 := ⟨_, rfl⟩
     rw [<- hlb] at k4 ⊢
     rw [<- HEF.out] at k4
     have HL4 : Hid (LM w4 wo.heap.size fb fc2 FS) := L4
     have HB4 : Hid (Below W0.heap.size W0 w4) := HB.out.trans (b4.mono HB.out.size)
     have HW4 : Hid (Below w.heap.size w w4) := HB0.out.trans (HB4.out.mono HB0.out.size)
     have l0 : w4.cell? ⟨lb, 0, none⟩ = some (.slice (some ⟨fb, 0, none⟩) fn fc2) := cell_arr k4 rfl
     have l1 : w4.cell? ⟨lb, 1, none⟩ = some (.int .i64 mn) := cell_arr k4 rfl
     have hl4 := (gl k4)
     clear L4 k4 b4 hlb HL1 a0 a1
     go_wp2_with fail
     refine (HC1.out w4 _ _ HW4.out HL4.out.fus).mono ?_
     rintro e w5 ⟨rfl, b5⟩
     have HB5 : Hid (Below W0.heap.size W0 w5) := HB4.out.trans (b5.mono HB4.out.size)
     have HW5 : Hid (Below w.heap.size w w5) := HB0.out.trans (HB5.out.mono HB0.out.size)
     obtain ⟨a0, a1⟩ := HKS.out w5 HB5.out
     clear b5 HL4 HB4 HW4 l0 l1 hl4
     go_wp2_with fail
     refine (HREN.out w5 HW5.out).mono ?_
     rintro e w6 ⟨ao, c6, rfl, hF6, b6⟩
     have HF6 : Hid (Fus w6 ao c6 (FS.map (rnF B))) := hF6
     have HW6 : Hid (Below w.heap.size w w6) := HW5.out.trans (b6.mono HW5.out.size)
     clear hF6 b6 a0 a1
     go_wp2_with fail
     refine (HCK.out w6 ao c6 HW6.out HF6.out).mono ?_
     rintro e w7 ⟨rfl, b7⟩
     have HW7 : Hid (Below w.heap.size w w7) := HW6.out.trans (b7.mono HW6.out.size)
     have er1 : (r1 == r1) = true := by simp
     clear b7
     go_wp2_with fail
     go_ret
     exact ⟨rfl, HW7.out⟩
set_option maxRecDepth 100000 in
set_option maxHeartbeats 16000000 in
theorem ssaRenamed_lo (w : World) (hTab : Tab w) {fa : Option Addr} {fn fc : Nat} {mn : Int} {FS : List Fu} (hF : Fus w fa fc FS) (ef : fn = FS.length) (hb : szS FS <= 1048576) (y : Int) (hy : y < 0) :
 Calls Tryz.prog 5 #[.agg #[.slice fa fn fc, .int .i64 mn], .int .i64 y] w fun e w' => e = .returned (.bool true) /\ Below w.heap.size w w' := by
 obtain ⟨W0, hW0⟩ : ∃ W, W = w.alloc (.cells #[.slice fa fn fc, .int .i64 mn] 24) := ⟨_, rfl⟩
 have b0 : Below w.heap.size w W0 := by rw [hW0]; exact below_new _ _
 have ks : W0.heap[w.heap.size]? = some (.cells #[.slice fa fn fc, .int .i64 mn] 24) := by rw [hW0]; exact heap_alloc_new _ _
 have HW0L : Hid (w.heap.size < W0.heap.size) := (gl ks)
 have HKS : Hid (∀ w', Below W0.heap.size W0 w' -> w'.cell? ⟨w.heap.size, 0, none⟩ = some (.slice fa fn fc) /\ w'.cell? ⟨w.heap.size, 1, none⟩ = some (.int .i64 mn)) := fun w' hb => by
  have e1 := (hb.block _ (gl ks)).trans ks
  exact ⟨cell_arr e1 rfl, cell_arr e1 rfl⟩
 have HTB : Hid (∀ w', Below w.heap.size w w' -> Tab w') := fun w' hb => hTab.below hb hTab.1
 have HF : Hid (∀ w', Below w.heap.size w w' -> Fus w' fa fc FS) := fun w' hb => hF.below hb (Nat.le_refl _)
 have hfx : fn <= fc /\ fc <= 9223372036854775807 := by have := hF.le; have := hF.mx; omega
 have HEF : Hid (fn = FS.length) := ef
 have HBF : Hid (szS FS <= 1048576) := hb
 have HB0 : Hid (Below w.heap.size w W0) := b0
 obtain ⟨a0, a1⟩ := HKS.out W0 (Below.refl _ _)
 clear hTab hF ef hb b0 ks
 go_enter Tryz.func5, Tryz.ntmps5
 go_wp2_with fail
 rw [<- hW0]
 clear hW0
 refine (alive9_any W0 (HTB.out W0 HB0.out)).mono ?_
 rintro e w1 ⟨rfl, b1⟩
 have HB1 : Hid (Below W0.heap.size W0 w1) := b1
 have HW1 : Hid (Below w.heap.size w w1) := HB0.out.trans (b1.mono HB0.out.size)
 obtain ⟨a0, a1⟩ := HKS.out w1 b1
 clear b1
 go_wp2_with fail
 refine (small_any w1 (HF.out w1 HW1.out) HEF.out HBF.out).mono ?_
 rintro e w2 ⟨⟨R1, rfl, hR1⟩, b2⟩
 have HB2 : Hid (Below W0.heap.size W0 w2) := HB1.out.trans (b2.mono HB1.out.size)
 have HW2 : Hid (Below w.heap.size w w2) := HB0.out.trans (HB2.out.mono HB0.out.size)
 have HR1 : Hid (R1 = true -> FS.length <= 300 /\ ∀ f ∈ FS, f.blks.length <= 2000) := hR1
 clear b2 hR1 HB1 HW1 a0 a1
 cases R1 with
 | false =>
   go_wp2_with fail
   go_ret
   exact ⟨rfl, HW2.out⟩
 | true =>
   have h300 : fn <= 300 := by have := (HR1.out rfl).1; have := HEF.out; omega
   have HMAIN : Hid (∀ (B : Nat), B <= 1000 -> (∀ f ∈ FS, RR f) -> ∀ w' : World, Below w.heap.size w w' -> Calls Tryz.prog 14 #[.agg #[.slice fa fn fc, .int .i64 mn], .int .i64 B] w' fun e w'' => ∃ ao c, e = .returned (.agg #[.slice ao fn c, .int .i64 mn]) /\ Fus w'' ao c (FS.map (rnF B)) /\ Below w'.heap.size w' w'') := fun B hB hr w' hb => renamed_any w' (HF.out w' hb) HEF.out (by omega) (few_of HBF.out) hr B hB
   obtain ⟨r1, hr1⟩ : ∃ r, r = checkP FS mn := ⟨_, rfl⟩
   have HC1 : Hid (∀ (w' : World) (a : Option Addr) (c : Nat), Below w.heap.size w w' -> Fus w' a c FS -> Calls Tryz.prog 10 #[.agg #[.slice a fn c, .int .i64 mn]] w' fun e w'' => e = .returned (.int .i64 r1) /\ Below w'.heap.size w' w'') := fun w' a c hb hf => check_any w' (HTB.out w' hb) a fn c FS HEF.out hf (by omega) (fewF_of HBF.out (HR1.out rfl).2) mn r1 hr1.symm
   have HC2 : Hid (∀ (B : Nat) (w' : World) (a : Option Addr) (c : Nat), (∀ f ∈ FS, RR f) -> Below w.heap.size w w' -> Fus w' a c (FS.map (rnF B)) -> Calls Tryz.prog 10 #[.agg #[.slice a fn c, .int .i64 mn]] w' fun e w'' => e = .returned (.int .i64 r1) /\ Below w'.heap.size w' w'') := fun B w' a c hr hb hf => check_any w' (HTB.out w' hb) a fn c (FS.map (rnF B)) (by rw [List.length_map]; exact HEF.out) hf (by omega) (fun g hg => by
    obtain ⟨f, hf1, rfl⟩ := List.mem_map.1 hg
    exact few_rn B (fewF_of HBF.out (HR1.out rfl).2 f hf1)) mn r1 (by rw [check_same (rnP_of B hr) mn]; exact hr1.symm)
   have hd1 : decide (y < 0) = true := by simp; omega
   clear hr1
   go_upto_region 7 with fail
   go_wp2_with fail
   go_loopw [7] (fun v wr => ∃ k : Nat, k <= fn /\ v = .int .i64 k /\ Hid (RI FS k) /\ Hid (Below W0.heap.size W0 wr)) (fun v _ => fn - (intOf v).toNat)
   case atStart => exact ⟨0, by omega, rfl, ⟨fun j _ h => by omega⟩, HB2⟩
   case round =>
    clear HB2 HW2
    obtain ⟨k, hk, rfl, HRI, HB⟩ := hrel
    obtain ⟨wo, rfl⟩ : ∃ wo, wo = wr := ⟨_, rfl⟩
    obtain ⟨a0, a1⟩ := HKS.out wo HB.out
    have HWo : Hid (Below w.heap.size w wo) := HB0.out.trans (HB.out.mono HB0.out.size)
    have hwl : w.heap.size < wo.heap.size := by have := HW0L.out; have := HB.out.size; omega
    by_cases hlt : k < fn
    ·have hkf : k < FS.length := by have := HEF.out; omega
     obtain ⟨b', o', ka, kc, la, lc, ma, mc, ea, hlt0, d0, d1, d2, d3, d4, j1, j2, j3⟩ := (HF.out wo HWo.out).at hkf
     rw [ea] at a0
     obtain ⟨f, hf⟩ : ∃ f, f = FS[k] := ⟨_, rfl⟩
     rw [<- hf] at d0 d1 d2 d3 d4 j1 j2 j3
     obtain ⟨pn, hpn⟩ : ∃ n, n = f.params.length := ⟨_, rfl⟩
     obtain ⟨vn, hvn⟩ : ∃ n, n = f.vals.length := ⟨_, rfl⟩
     obtain ⟨bn, hbn⟩ : ∃ n, n = f.blks.length := ⟨_, rfl⟩
     obtain ⟨s, hs⟩ : ∃ n, n = f.name := ⟨_, rfl⟩
     obtain ⟨r, hr⟩ : ∃ n, n = f.result := ⟨_, rfl⟩
     rw [<- hs] at d0
     rw [<- hpn] at d1
     rw [<- hr] at d2
     rw [<- hvn] at d3
     rw [<- hbn] at d4
     obtain ⟨W5, hW5⟩ : ∃ W, W = wo.alloc (.cells #[.string s, .slice ka pn kc, .int .i64 r, .slice la vn lc, .slice ma bn mc] 38) := ⟨_, rfl⟩
     have b5 : Below wo.heap.size wo W5 := by rw [hW5]; exact below_new _ _
     have k5 : W5.heap[wo.heap.size]? = some (.cells #[.string s, .slice ka pn kc, .int .i64 r, .slice la vn lc, .slice ma bn mc] 38 (0, 0)) := by rw [hW5]; exact heap_alloc_new _ _
     obtain ⟨FB, hFB⟩ : ∃ B, B = wo.heap.size := ⟨_, rfl⟩
     rw [<- hFB] at k5
     have HB5 : Hid (Below W0.heap.size W0 W5) := HB.out.trans (b5.mono HB.out.size)
     have HW5 : Hid (Below w.heap.size w W5) := HB0.out.trans (HB5.out.mono HB0.out.size)
     have HE : Hid (f = FS[k] /\ vn = f.vals.length /\ bn = f.blks.length) := ⟨hf, hvn, hbn⟩
     have HCT : Hid (∀ w', Below W5.heap.size W5 w' -> LF w' ka pn kc la vn lc ma bn mc f) := fun w' hb => (LF.below ⟨hpn, hvn, hbn, j1, j2, j3⟩ b5).below hb
     have HZC : Hid (∀ w', Below W5.heap.size W5 w' -> w'.heap[FB]? = some (.cells #[.string s, .slice ka pn kc, .int .i64 r, .slice la vn lc, .slice ma bn mc] 38 (0, 0))) := fun w' hb => (hb.block FB (gl k5)).trans k5
     have m3 : vn <= lc /\ lc <= 9223372036854775807 := by have := j2.le; have := j2.mx; omega
     have m4 : bn <= mc /\ mc <= 9223372036854775807 := by have := j3.le; have := j3.mx; omega
     have hbl : b' < wo.heap.size := hlt0
     have n1 := numbers_any W5 ka pn kc vn f.params hpn (HCT.out W5 (Below.refl _ _)).hp
     obtain ⟨T1, hT1⟩ : ∃ T, T = f.params.all (wi vn) := ⟨_, rfl⟩
     rw [<- hT1] at n1
     have N1 : Hid _ := n1
     have HT1 : Hid (T1 = f.params.all (wi vn)) := hT1
     have z1 : W5.cell? ⟨FB, 1, none⟩ = some (.slice ka pn kc) := cell_arr k5 rfl
     have z3 : W5.cell? ⟨FB, 3, none⟩ = some (.slice la vn lc) := cell_arr k5 rfl
     have hFl : FB < W5.heap.size := (gl k5)
     clear hf hpn hvn hbn hs hr j1 j2 j3 b5 k5 ea n1 hT1
     go_upto_region 11 with fail
     rw [<- hW5]
     rw [<- hFB]
     clear hW5 hFB d0 d1 d2 d3 d4 a0 a1
     go_wp2_with fail
     refine Calls.mono N1.out ?_
     rintro e w9 ⟨rfl, h9⟩
     rw [h9]
     clear h9 w9 z1 z3
     cases T1 with
     | false =>
       go_wp2_with fail
       go_ret
       exact ⟨rfl, HW5.out⟩
     | true =>
       go_wp2_with fail
       go_loopw [9] (fun v wr => ∃ i : Nat, i <= vn /\ v = .int .i64 i /\ Hid (∀ j (h : j < f.vals.length), j < i -> f.vals[j].args.all (wi vn) = true) /\ Hid (Below W5.heap.size W5 wr)) (fun v _ => vn - (intOf v).toNat)
       case atStart => exact ⟨0, by omega, rfl, fun j _ h => by omega, Below.refl _ _⟩
       case round =>
        obtain ⟨i, hi, rfl, HAI, HB6⟩ := hrel
        obtain ⟨wq, rfl⟩ : ∃ wq, wq = wr := ⟨_, rfl⟩
        have z3 : wq.cell? ⟨FB, 3, none⟩ = some (.slice la vn lc) := cell_arr (HZC.out wq HB6.out) rfl
        have hFq : FB < wq.heap.size := (Array.getElem?_eq_some_iff.1 (HZC.out wq HB6.out)).1
        by_cases hiv : i < vn
        ·have hif : i < f.vals.length := by have := HE.out.2.1; omega
         obtain ⟨bv, ov, aa, ac, ea, hlv, r0, r1', r2, r3, ri⟩ := (HCT.out wq HB6.out).hv.at4 hif
         rw [ea] at z3
         obtain ⟨T2, hT2⟩ : ∃ T, T = f.vals[i].args.all (wi vn) := ⟨_, rfl⟩
         have HT2 : Hid (T2 = f.vals[i].args.all (wi vn)) := hT2
         have HN2 : Hid (∀ q, Calls Tryz.prog 13 #[.slice aa f.vals[i].args.length ac, .int .i64 vn] (wq.drewN q) fun e w'' => e = .returned (.bool T2) /\ w'' = wq.drewN q) := fun q => by
          have := numbers_any (wq.drewN q) aa _ ac vn f.vals[i].args rfl (ri.below (below_drawn (Below.refl _ _) q) (Nat.le_refl _))
          rw [<- hT2] at this
          exact this
         have HN3 : Hid (Calls Tryz.prog 13 #[.slice aa f.vals[i].args.length ac, .int .i64 vn] wq.drew fun e w'' => e = .returned (.bool T2) /\ w'' = wq.drew) := by
          have := numbers_any wq.drew aa _ ac vn f.vals[i].args rfl (ri.below (Below.refl _ _).drew (Nat.le_refl _))
          rw [<- hT2] at this
          exact this
         generalize f.vals[i].args.length = al at r3 HN2 HN3
         have HB7 : Hid (∀ q, Below W5.heap.size W5 (wq.drewN q)) := fun q => below_drawn HB6.out q
         have HW7 : Hid (∀ q, Below w.heap.size w (wq.drewN q)) := fun q => HW5.out.trans ((HB7.out q).mono HW5.out.size)
         have hbvl : bv < wq.heap.size := hlv
         clear r0 r1' r2 ri hT2 ea
         cases T2 with
         | false =>
           go_wp2_with fail
           go_quiet (first | (go_at_call 13; first | exact Calls.quiet_of_same (HN2.out _) | exact Calls.quiet_of_same HN3.out))
           go_wp2_with fail
           go_ret
           exact ⟨rfl, HW7.out _⟩
         | true =>
           have HAJ : Hid (∀ j (h : j < f.vals.length), j < i + 1 -> f.vals[j].args.all (wi vn) = true) := fun j h1 h2 => by
            rcases Nat.lt_succ_iff_lt_or_eq.1 h2 with q | rfl
            ·exact HAI.out j h1 q
            ·exact HT2.out.symm
           go_wp2_with fail
           go_quiet (first | (go_at_call 13; first | exact Calls.quiet_of_same (HN2.out _) | exact Calls.quiet_of_same HN3.out))
           go_wp2_with fail
           go_roundw
           case rel => exact ⟨i + 1, by omega, by go_num, HAJ.out, HB7.out _⟩
           case measure => simp [intOf]; omega
        ·have HAA : Hid (∀ v ∈ f.vals, v.args.all (wi vn) = true) := fun v hv => by
          obtain ⟨j, hj, rfl⟩ := List.getElem_of_mem hv
          exact HAI.out j hj (by have := HE.out.2.1; omega)
         go_wp2_with fail
         clear z3 HAI
         go_loopw [10] (fun v wr => ∃ i : Nat, i <= bn /\ v = .int .i64 i /\ Hid (∀ j (h : j < f.blks.length), j < i -> f.blks[j].phis.all (wi vn) = true /\ f.blks[j].body.all (wi vn) = true /\ f.blks[j].val < (vn : Int)) /\ Hid (Below W5.heap.size W5 wr)) (fun v _ => bn - (intOf v).toNat)
         case atStart => exact ⟨0, by omega, rfl, fun j _ h => by omega, HB6⟩
         case round =>
          clear HB6
          obtain ⟨i, hi, rfl, HBI, HB6⟩ := hrel
          obtain ⟨wq, rfl⟩ : ∃ wq, wq = wr := ⟨_, rfl⟩
          have z4 : wq.cell? ⟨FB, 4, none⟩ = some (.slice ma bn mc) := cell_arr (HZC.out wq HB6.out) rfl
          have hFq : FB < wq.heap.size := (Array.getElem?_eq_some_iff.1 (HZC.out wq HB6.out)).1
          by_cases hib : i < bn
          ·have hif : i < f.blks.length := by have := HE.out.2.2; omega
           obtain ⟨xb, xo, k1a, k1c, k2a, k2c, k3a, k3c, k4a, k4c, ea, hlx, r0, r1', r2, r3, r4, r5, i1, i2, i3, i4⟩ := (HCT.out wq HB6.out).hb.at hif
           rw [ea] at z4
           obtain ⟨bk, hbk⟩ : ∃ x, x = f.blks[i] := ⟨_, rfl⟩
           rw [<- hbk] at r0 r1' r2 r3 r4 r5 i1 i2 i3 i4
           obtain ⟨W6, hW6⟩ : ∃ W, W = wq.alloc (.cells #[.slice k1a bk.phis.length k1c, .slice k2a bk.body.length k2c, .int .i64 bk.kind, .int .i64 bk.val, .slice k3a bk.ways.length k3c, .slice k4a bk.preds.length k4c] 46) := ⟨_, rfl⟩
           obtain ⟨BB, hBB⟩ : ∃ B, B = wq.heap.size := ⟨_, rfl⟩
           have b6 : Below wq.heap.size wq W6 := by rw [hW6]; exact below_new _ _
           have k6 : W6.heap[BB]? = some (.cells #[.slice k1a bk.phis.length k1c, .slice k2a bk.body.length k2c, .int .i64 bk.kind, .int .i64 bk.val, .slice k3a bk.ways.length k3c, .slice k4a bk.preds.length k4c] 46 (0, 0)) := by rw [hW6, hBB]; exact heap_alloc_new _ _
           have HB8 : Hid (Below W5.heap.size W5 W6) := HB6.out.trans (b6.mono HB6.out.size)
           have HW8 : Hid (Below w.heap.size w W6) := HW5.out.trans (HB8.out.mono HW5.out.size)
           have n1 := numbers_any W6 k1a _ k1c vn bk.phis rfl (i1.below b6 (Nat.le_refl _))
           have n2 := numbers_any W6 k2a _ k2c vn bk.body rfl (i2.below b6 (Nat.le_refl _))
           obtain ⟨T1, hT1⟩ : ∃ T, T = bk.phis.all (wi vn) := ⟨_, rfl⟩
           obtain ⟨T2, hT2⟩ : ∃ T, T = bk.body.all (wi vn) := ⟨_, rfl⟩
           rw [<- hT1] at n1
           rw [<- hT2] at n2
           have HBN : Hid (T1 = true -> T2 = true -> bk.val < (vn : Int) -> ∀ j (h : j < f.blks.length), j < i + 1 -> f.blks[j].phis.all (wi vn) = true /\ f.blks[j].body.all (wi vn) = true /\ f.blks[j].val < (vn : Int)) := fun q1 q2 q3 j h1 h2 => by
            rcases Nat.lt_succ_iff_lt_or_eq.1 h2 with q | rfl
            ·exact HBI.out j h1 q
            ·rw [<- hbk]; exact ⟨by rw [<- hT1]; exact q1, by rw [<- hT2]; exact q2, q3⟩
           generalize bk.phis.length = l1 at r0 hW6 k6 n1
           generalize bk.body.length = l2 at r1' hW6 k6 n2
           generalize bk.ways.length = l3 at r4 hW6 k6
           generalize bk.preds.length = l4 at r5 hW6 k6
           generalize bk.kind = kd at r2 hW6 k6
           generalize bk.val = vl at r3 hW6 k6 HBN
           have N1 : Hid _ := n1
           have N2 : Hid _ := n2
           have y0 : W6.cell? ⟨BB, 0, none⟩ = some (.slice k1a l1 k1c) := cell_arr k6 rfl
           have y1 : W6.cell? ⟨BB, 1, none⟩ = some (.slice k2a l2 k2c) := cell_arr k6 rfl
           have y3 : W6.cell? ⟨BB, 3, none⟩ = some (.int .i64 vl) := cell_arr k6 rfl
           have z3 : W6.cell? ⟨FB, 3, none⟩ = some (.slice la vn lc) := cell_arr (HZC.out W6 HB8.out) rfl
           have hxl : xb < wq.heap.size := hlx
           have hBl : BB < W6.heap.size := (gl k6)
           clear i1 i2 i3 i4 n1 n2 hT1 hT2 b6 k6 hbk ea
           go_upto_region 22 with fail
           rw [<- hW6]
           rw [<- hBB]
           clear hW6 hBB r0 r1' r2 r3 r4 r5 z4
           go_wp2_with fail
           refine Calls.mono N1.out ?_
           rintro e w9 ⟨rfl, h9⟩
           rw [h9]
           clear h9 w9
           cases T1 with
           | false =>
             go_wp2_with fail
             go_ret
             exact ⟨rfl, HW8.out⟩
           | true =>
             go_wp2_with fail
             refine Calls.mono N2.out ?_
             rintro e w9 ⟨rfl, h9⟩
             rw [h9]
             clear h9 w9
             cases T2 with
             | false =>
               go_wp2_with fail
               go_ret
               exact ⟨rfl, HW8.out⟩
             | true =>
               by_cases hv : vl < (vn : Int)
               ·have hd : decide ((vn : Int) <= vl) = false := by simp; omega
                have HBM : Hid _ := HBN.out (by simp) (by simp) hv
                go_wp2_with fail
                go_roundw
                case rel => exact ⟨i + 1, by omega, by go_num, HBM.out, HB8.out⟩
                case measure => simp [intOf]; omega
               ·have hd : decide ((vn : Int) <= vl) = true := by simp; omega
                go_wp2_with fail
                go_ret
                exact ⟨rfl, HW8.out⟩
          ·have HRK : Hid (RI FS (k + 1)) := HRI.out.more hkf (by
            rw [<- HE.out.1]
            refine ⟨?_, fun v hv => ?_, fun b hb => ?_⟩
            ·rw [<- HE.out.2.1]; exact all_wi HT1.out.symm
            ·rw [<- HE.out.2.1]; exact all_wi (HAA.out v hv)
            ·obtain ⟨j, hj, rfl⟩ := List.getElem_of_mem hb
             obtain ⟨q1, q2, q3⟩ := HBI.out j hj (by have := HE.out.2.2; omega)
             rw [<- HE.out.2.1]
             exact ⟨all_wi q1, all_wi q2, q3⟩)
           have HBO : Hid (Below W0.heap.size W0 wq) := HB5.out.trans (HB6.out.mono HB5.out.size)
           go_wp2_with fail
           go_roundw
           case rel => exact ⟨k + 1, by omega, by go_num, HRK.out, HBO.out⟩
           case measure => simp [intOf]; omega
    ·have hRR : ∀ f ∈ FS, RR f := fun f hf => by
      obtain ⟨j, hj, rfl⟩ := List.getElem_of_mem hf
      exact HRI.out.out j hj (by have := HEF.out; omega)
     have HL1 : Hid _ := lent_any wo (mn := mn) (HF.out wo HWo.out) HEF.out (by omega) (few_of HBF.out)
     have HREN : Hid (∀ w', Below w.heap.size w w' -> Calls Tryz.prog 14 #[.agg #[.slice fa fn fc, .int .i64 mn], .int .i64 1] w' fun e w'' => ∃ ao c, e = .returned (.agg #[.slice ao fn c, .int .i64 mn]) /\ Fus w'' ao c (FS.map (rnF 1)) /\ Below w'.heap.size w' w'') := fun w' hb => HMAIN.out 1 (by omega) hRR w' hb
     have HCK : Hid (∀ (w' : World) (a : Option Addr) (c : Nat), Below w.heap.size w w' -> Fus w' a c (FS.map (rnF 1)) -> Calls Tryz.prog 10 #[.agg #[.slice a fn c, .int .i64 mn]] w' fun e w'' => e = .returned (.int .i64 r1) /\ Below w'.heap.size w' w'') := fun w' a c hb hf => HC2.out 1 w' a c hRR hb hf
     clear hRR
     go_wp2_with fail
     refine Calls.mono HL1.out ?_
     rintro e w4 ⟨fb, fc2, rfl, L4, k4, b4⟩
     obtain ⟨lb, hlb⟩ : ∃ lb, lb = wo.heap.size + 1 := ⟨_, rfl⟩
     rw [<- hlb] at k4 ⊢
     rw [<- HEF.out] at k4
     have HL4 : Hid (LM w4 wo.heap.size fb fc2 FS) := L4
     have HB4 : Hid (Below W0.heap.size W0 w4) := HB.out.trans (b4.mono HB.out.size)
     have HW4 : Hid (Below w.heap.size w w4) := HB0.out.trans (HB4.out.mono HB0.out.size)
     have l0 : w4.cell? ⟨lb, 0, none⟩ = some (.slice (some ⟨fb, 0, none⟩) fn fc2) := cell_arr k4 rfl
     have l1 : w4.cell? ⟨lb, 1, none⟩ = some (.int .i64 mn) := cell_arr k4 rfl
     have hl4 := (gl k4)
     clear L4 k4 b4 hlb HL1 a0 a1
     go_wp2_with fail
     refine (HC1.out w4 _ _ HW4.out HL4.out.fus).mono ?_
     rintro e w5 ⟨rfl, b5⟩
     have HB5 : Hid (Below W0.heap.size W0 w5) := HB4.out.trans (b5.mono HB4.out.size)
     have HW5 : Hid (Below w.heap.size w w5) := HB0.out.trans (HB5.out.mono HB0.out.size)
     obtain ⟨a0, a1⟩ := HKS.out w5 HB5.out
     clear b5 HL4 HB4 HW4 l0 l1 hl4
     go_wp2_with fail
     refine (HREN.out w5 HW5.out).mono ?_
     rintro e w6 ⟨ao, c6, rfl, hF6, b6⟩
     have HF6 : Hid (Fus w6 ao c6 (FS.map (rnF 1))) := hF6
     have HW6 : Hid (Below w.heap.size w w6) := HW5.out.trans (b6.mono HW5.out.size)
     clear hF6 b6 a0 a1
     go_wp2_with fail
     refine (HCK.out w6 ao c6 HW6.out HF6.out).mono ?_
     rintro e w7 ⟨rfl, b7⟩
     have HW7 : Hid (Below w.heap.size w w7) := HW6.out.trans (b7.mono HW6.out.size)
     have er1 : (r1 == r1) = true := by simp
     clear b7
     go_wp2_with fail
     go_ret
     exact ⟨rfl, HW7.out⟩
set_option maxRecDepth 100000 in
set_option maxHeartbeats 16000000 in
theorem ssaRenamed_hi (w : World) (hTab : Tab w) {fa : Option Addr} {fn fc : Nat} {mn : Int} {FS : List Fu} (hF : Fus w fa fc FS) (ef : fn = FS.length) (hb : szS FS <= 1048576) (y : Int) (hy : 1000 < y) :
 Calls Tryz.prog 5 #[.agg #[.slice fa fn fc, .int .i64 mn], .int .i64 y] w fun e w' => e = .returned (.bool true) /\ Below w.heap.size w w' := by
 obtain ⟨W0, hW0⟩ : ∃ W, W = w.alloc (.cells #[.slice fa fn fc, .int .i64 mn] 24) := ⟨_, rfl⟩
 have b0 : Below w.heap.size w W0 := by rw [hW0]; exact below_new _ _
 have ks : W0.heap[w.heap.size]? = some (.cells #[.slice fa fn fc, .int .i64 mn] 24) := by rw [hW0]; exact heap_alloc_new _ _
 have HW0L : Hid (w.heap.size < W0.heap.size) := (gl ks)
 have HKS : Hid (∀ w', Below W0.heap.size W0 w' -> w'.cell? ⟨w.heap.size, 0, none⟩ = some (.slice fa fn fc) /\ w'.cell? ⟨w.heap.size, 1, none⟩ = some (.int .i64 mn)) := fun w' hb => by
  have e1 := (hb.block _ (gl ks)).trans ks
  exact ⟨cell_arr e1 rfl, cell_arr e1 rfl⟩
 have HTB : Hid (∀ w', Below w.heap.size w w' -> Tab w') := fun w' hb => hTab.below hb hTab.1
 have HF : Hid (∀ w', Below w.heap.size w w' -> Fus w' fa fc FS) := fun w' hb => hF.below hb (Nat.le_refl _)
 have hfx : fn <= fc /\ fc <= 9223372036854775807 := by have := hF.le; have := hF.mx; omega
 have HEF : Hid (fn = FS.length) := ef
 have HBF : Hid (szS FS <= 1048576) := hb
 have HB0 : Hid (Below w.heap.size w W0) := b0
 obtain ⟨a0, a1⟩ := HKS.out W0 (Below.refl _ _)
 clear hTab hF ef hb b0 ks
 go_enter Tryz.func5, Tryz.ntmps5
 go_wp2_with fail
 rw [<- hW0]
 clear hW0
 refine (alive9_any W0 (HTB.out W0 HB0.out)).mono ?_
 rintro e w1 ⟨rfl, b1⟩
 have HB1 : Hid (Below W0.heap.size W0 w1) := b1
 have HW1 : Hid (Below w.heap.size w w1) := HB0.out.trans (b1.mono HB0.out.size)
 obtain ⟨a0, a1⟩ := HKS.out w1 b1
 clear b1
 go_wp2_with fail
 refine (small_any w1 (HF.out w1 HW1.out) HEF.out HBF.out).mono ?_
 rintro e w2 ⟨⟨R1, rfl, hR1⟩, b2⟩
 have HB2 : Hid (Below W0.heap.size W0 w2) := HB1.out.trans (b2.mono HB1.out.size)
 have HW2 : Hid (Below w.heap.size w w2) := HB0.out.trans (HB2.out.mono HB0.out.size)
 have HR1 : Hid (R1 = true -> FS.length <= 300 /\ ∀ f ∈ FS, f.blks.length <= 2000) := hR1
 clear b2 hR1 HB1 HW1 a0 a1
 cases R1 with
 | false =>
   go_wp2_with fail
   go_ret
   exact ⟨rfl, HW2.out⟩
 | true =>
   have h300 : fn <= 300 := by have := (HR1.out rfl).1; have := HEF.out; omega
   have HMAIN : Hid (∀ (B : Nat), B <= 1000 -> (∀ f ∈ FS, RR f) -> ∀ w' : World, Below w.heap.size w w' -> Calls Tryz.prog 14 #[.agg #[.slice fa fn fc, .int .i64 mn], .int .i64 B] w' fun e w'' => ∃ ao c, e = .returned (.agg #[.slice ao fn c, .int .i64 mn]) /\ Fus w'' ao c (FS.map (rnF B)) /\ Below w'.heap.size w' w'') := fun B hB hr w' hb => renamed_any w' (HF.out w' hb) HEF.out (by omega) (few_of HBF.out) hr B hB
   obtain ⟨r1, hr1⟩ : ∃ r, r = checkP FS mn := ⟨_, rfl⟩
   have HC1 : Hid (∀ (w' : World) (a : Option Addr) (c : Nat), Below w.heap.size w w' -> Fus w' a c FS -> Calls Tryz.prog 10 #[.agg #[.slice a fn c, .int .i64 mn]] w' fun e w'' => e = .returned (.int .i64 r1) /\ Below w'.heap.size w' w'') := fun w' a c hb hf => check_any w' (HTB.out w' hb) a fn c FS HEF.out hf (by omega) (fewF_of HBF.out (HR1.out rfl).2) mn r1 hr1.symm
   have HC2 : Hid (∀ (B : Nat) (w' : World) (a : Option Addr) (c : Nat), (∀ f ∈ FS, RR f) -> Below w.heap.size w w' -> Fus w' a c (FS.map (rnF B)) -> Calls Tryz.prog 10 #[.agg #[.slice a fn c, .int .i64 mn]] w' fun e w'' => e = .returned (.int .i64 r1) /\ Below w'.heap.size w' w'') := fun B w' a c hr hb hf => check_any w' (HTB.out w' hb) a fn c (FS.map (rnF B)) (by rw [List.length_map]; exact HEF.out) hf (by omega) (fun g hg => by
    obtain ⟨f, hf1, rfl⟩ := List.mem_map.1 hg
    exact few_rn B (fewF_of HBF.out (HR1.out rfl).2 f hf1)) mn r1 (by rw [check_same (rnP_of B hr) mn]; exact hr1.symm)
   have hd1 : decide (y < 0) = false := by simp; omega
   have hd2 : decide (1000 < y) = true := by simp; omega
   clear hr1
   go_upto_region 7 with fail
   go_wp2_with fail
   go_loopw [7] (fun v wr => ∃ k : Nat, k <= fn /\ v = .int .i64 k /\ Hid (RI FS k) /\ Hid (Below W0.heap.size W0 wr)) (fun v _ => fn - (intOf v).toNat)
   case atStart => exact ⟨0, by omega, rfl, ⟨fun j _ h => by omega⟩, HB2⟩
   case round =>
    clear HB2 HW2
    obtain ⟨k, hk, rfl, HRI, HB⟩ := hrel
    obtain ⟨wo, rfl⟩ : ∃ wo, wo = wr := ⟨_, rfl⟩
    obtain ⟨a0, a1⟩ := HKS.out wo HB.out
    have HWo : Hid (Below w.heap.size w wo) := HB0.out.trans (HB.out.mono HB0.out.size)
    have hwl : w.heap.size < wo.heap.size := by have := HW0L.out; have := HB.out.size; omega
    by_cases hlt : k < fn
    ·have hkf : k < FS.length := by have := HEF.out; omega
     obtain ⟨b', o', ka, kc, la, lc, ma, mc, ea, hlt0, d0, d1, d2, d3, d4, j1, j2, j3⟩ := (HF.out wo HWo.out).at hkf
     rw [ea] at a0
     obtain ⟨f, hf⟩ : ∃ f, f = FS[k] := ⟨_, rfl⟩
     rw [<- hf] at d0 d1 d2 d3 d4 j1 j2 j3
     obtain ⟨pn, hpn⟩ : ∃ n, n = f.params.length := ⟨_, rfl⟩
     obtain ⟨vn, hvn⟩ : ∃ n, n = f.vals.length := ⟨_, rfl⟩
     obtain ⟨bn, hbn⟩ : ∃ n, n = f.blks.length := ⟨_, rfl⟩
     obtain ⟨s, hs⟩ : ∃ n, n = f.name := ⟨_, rfl⟩
     obtain ⟨r, hr⟩ : ∃ n, n = f.result := ⟨_, rfl⟩
     rw [<- hs] at d0
     rw [<- hpn] at d1
     rw [<- hr] at d2
     rw [<- hvn] at d3
     rw [<- hbn] at d4
     obtain ⟨W5, hW5⟩ : ∃ W, W = wo.alloc (.cells #[.string s, .slice ka pn kc, .int .i64 r, .slice la vn lc, .slice ma bn mc] 38) := ⟨_, rfl⟩
     have b5 : Below wo.heap.size wo W5 := by rw [hW5]; exact below_new _ _
     have k5 : W5.heap[wo.heap.size]? = some (.cells #[.string s, .slice ka pn kc, .int .i64 r, .slice la vn lc, .slice ma bn mc] 38 (0, 0)) := by rw [hW5]; exact heap_alloc_new _ _
     obtain ⟨FB, hFB⟩ : ∃ B, B = wo.heap.size := ⟨_, rfl⟩
     rw [<- hFB] at k5
     have HB5 : Hid (Below W0.heap.size W0 W5) := HB.out.trans (b5.mono HB.out.size)
     have HW5 : Hid (Below w.heap.size w W5) := HB0.out.trans (HB5.out.mono HB0.out.size)
     have HE : Hid (f = FS[k] /\ vn = f.vals.length /\ bn = f.blks.length) := ⟨hf, hvn, hbn⟩
     have HCT : Hid (∀ w', Below W5.heap.size W5 w' -> LF w' ka pn kc la vn lc ma bn mc f) := fun w' hb => (LF.below ⟨hpn, hvn, hbn, j1, j2, j3⟩ b5).below hb
     have HZC : Hid (∀ w', Below W5.heap.size W5 w' -> w'.heap[FB]? = some (.cells #[.string s, .slice ka pn kc, .int .i64 r, .slice la vn lc, .slice ma bn mc] 38 (0, 0))) := fun w' hb => (hb.block FB (gl k5)).trans k5
     have m3 : vn <= lc /\ lc <= 9223372036854775807 := by have := j2.le; have := j2.mx; omega
     have m4 : bn <= mc /\ mc <= 9223372036854775807 := by have := j3.le; have := j3.mx; omega
     have hbl : b' < wo.heap.size := hlt0
     have n1 := numbers_any W5 ka pn kc vn f.params hpn (HCT.out W5 (Below.refl _ _)).hp
     obtain ⟨T1, hT1⟩ : ∃ T, T = f.params.all (wi vn) := ⟨_, rfl⟩
     rw [<- hT1] at n1
     have N1 : Hid _ := n1
     have HT1 : Hid (T1 = f.params.all (wi vn)) := hT1
     have z1 : W5.cell? ⟨FB, 1, none⟩ = some (.slice ka pn kc) := cell_arr k5 rfl
     have z3 : W5.cell? ⟨FB, 3, none⟩ = some (.slice la vn lc) := cell_arr k5 rfl
     have hFl : FB < W5.heap.size := (gl k5)
     clear hf hpn hvn hbn hs hr j1 j2 j3 b5 k5 ea n1 hT1
     go_upto_region 11 with fail
     rw [<- hW5]
     rw [<- hFB]
     clear hW5 hFB d0 d1 d2 d3 d4 a0 a1
     go_wp2_with fail
     refine Calls.mono N1.out ?_
     rintro e w9 ⟨rfl, h9⟩
     rw [h9]
     clear h9 w9 z1 z3
     cases T1 with
     | false =>
       go_wp2_with fail
       go_ret
       exact ⟨rfl, HW5.out⟩
     | true =>
       go_wp2_with fail
       go_loopw [9] (fun v wr => ∃ i : Nat, i <= vn /\ v = .int .i64 i /\ Hid (∀ j (h : j < f.vals.length), j < i -> f.vals[j].args.all (wi vn) = true) /\ Hid (Below W5.heap.size W5 wr)) (fun v _ => vn - (intOf v).toNat)
       case atStart => exact ⟨0, by omega, rfl, fun j _ h => by omega, Below.refl _ _⟩
       case round =>
        obtain ⟨i, hi, rfl, HAI, HB6⟩ := hrel
        obtain ⟨wq, rfl⟩ : ∃ wq, wq = wr := ⟨_, rfl⟩
        have z3 : wq.cell? ⟨FB, 3, none⟩ = some (.slice la vn lc) := cell_arr (HZC.out wq HB6.out) rfl
        have hFq : FB < wq.heap.size := (Array.getElem?_eq_some_iff.1 (HZC.out wq HB6.out)).1
        by_cases hiv : i < vn
        ·have hif : i < f.vals.length := by have := HE.out.2.1; omega
         obtain ⟨bv, ov, aa, ac, ea, hlv, r0, r1', r2, r3, ri⟩ := (HCT.out wq HB6.out).hv.at4 hif
         rw [ea] at z3
         obtain ⟨T2, hT2⟩ : ∃ T, T = f.vals[i].args.all (wi vn) := ⟨_, rfl⟩
         have HT2 : Hid (T2 = f.vals[i].args.all (wi vn)) := hT2
         have HN2 : Hid (∀ q, Calls Tryz.prog 13 #[.slice aa f.vals[i].args.length ac, .int .i64 vn] (wq.drewN q) fun e w'' => e = .returned (.bool T2) /\ w'' = wq.drewN q) := fun q => by
          have := numbers_any (wq.drewN q) aa _ ac vn f.vals[i].args rfl (ri.below (below_drawn (Below.refl _ _) q) (Nat.le_refl _))
          rw [<- hT2] at this
          exact this
         have HN3 : Hid (Calls Tryz.prog 13 #[.slice aa f.vals[i].args.length ac, .int .i64 vn] wq.drew fun e w'' => e = .returned (.bool T2) /\ w'' = wq.drew) := by
          have := numbers_any wq.drew aa _ ac vn f.vals[i].args rfl (ri.below (Below.refl _ _).drew (Nat.le_refl _))
          rw [<- hT2] at this
          exact this
         generalize f.vals[i].args.length = al at r3 HN2 HN3
         have HB7 : Hid (∀ q, Below W5.heap.size W5 (wq.drewN q)) := fun q => below_drawn HB6.out q
         have HW7 : Hid (∀ q, Below w.heap.size w (wq.drewN q)) := fun q => HW5.out.trans ((HB7.out q).mono HW5.out.size)
         have hbvl : bv < wq.heap.size := hlv
         clear r0 r1' r2 ri hT2 ea
         cases T2 with
         | false =>
           go_wp2_with fail
           go_quiet (first | (go_at_call 13; first | exact Calls.quiet_of_same (HN2.out _) | exact Calls.quiet_of_same HN3.out))
           go_wp2_with fail
           go_ret
           exact ⟨rfl, HW7.out _⟩
         | true =>
           have HAJ : Hid (∀ j (h : j < f.vals.length), j < i + 1 -> f.vals[j].args.all (wi vn) = true) := fun j h1 h2 => by
            rcases Nat.lt_succ_iff_lt_or_eq.1 h2 with q | rfl
            ·exact HAI.out j h1 q
            ·exact HT2.out.symm
           go_wp2_with fail
           go_quiet (first | (go_at_call 13; first | exact Calls.quiet_of_same (HN2.out _) | exact Calls.quiet_of_same HN3.out))
           go_wp2_with fail
           go_roundw
           case rel => exact ⟨i + 1, by omega, by go_num, HAJ.out, HB7.out _⟩
           case measure => simp [intOf]; omega
        ·have HAA : Hid (∀ v ∈ f.vals, v.args.all (wi vn) = true) := fun v hv => by
          obtain ⟨j, hj, rfl⟩ := List.getElem_of_mem hv
          exact HAI.out j hj (by have := HE.out.2.1; omega)
         go_wp2_with fail
         clear z3 HAI
         go_loopw [10] (fun v wr => ∃ i : Nat, i <= bn /\ v = .int .i64 i /\ Hid (∀ j (h : j < f.blks.length), j < i -> f.blks[j].phis.all (wi vn) = true /\ f.blks[j].body.all (wi vn) = true /\ f.blks[j].val < (vn : Int)) /\ Hid (Below W5.heap.size W5 wr)) (fun v _ => bn - (intOf v).toNat)
         case atStart => exact ⟨0, by omega, rfl, fun j _ h => by omega, HB6⟩
         case round =>
          clear HB6
          obtain ⟨i, hi, rfl, HBI, HB6⟩ := hrel
          obtain ⟨wq, rfl⟩ : ∃ wq, wq = wr := ⟨_, rfl⟩
          have z4 : wq.cell? ⟨FB, 4, none⟩ = some (.slice ma bn mc) := cell_arr (HZC.out wq HB6.out) rfl
          have hFq : FB < wq.heap.size := (Array.getElem?_eq_some_iff.1 (HZC.out wq HB6.out)).1
          by_cases hib : i < bn
          ·have hif : i < f.blks.length := by have := HE.out.2.2; omega
           obtain ⟨xb, xo, k1a, k1c, k2a, k2c, k3a, k3c, k4a, k4c, ea, hlx, r0, r1', r2, r3, r4, r5, i1, i2, i3, i4⟩ := (HCT.out wq HB6.out).hb.at hif
           rw [ea] at z4
           obtain ⟨bk, hbk⟩ : ∃ x, x = f.blks[i] := ⟨_, rfl⟩
           rw [<- hbk] at r0 r1' r2 r3 r4 r5 i1 i2 i3 i4
           obtain ⟨W6, hW6⟩ : ∃ W, W = wq.alloc (.cells #[.slice k1a bk.phis.length k1c, .slice k2a bk.body.length k2c, .int .i64 bk.kind, .int .i64 bk.val, .slice k3a bk.ways.length k3c, .slice k4a bk.preds.length k4c] 46) := ⟨_, rfl⟩
           obtain ⟨BB, hBB⟩ : ∃ B, B = wq.heap.size := ⟨_, rfl⟩
           have b6 : Below wq.heap.size wq W6 := by rw [hW6]; exact below_new _ _
           have k6 : W6.heap[BB]? = some (.cells #[.slice k1a bk.phis.length k1c, .slice k2a bk.body.length k2c, .int .i64 bk.kind, .int .i64 bk.val, .slice k3a bk.ways.length k3c, .slice k4a bk.preds.length k4c] 46 (0, 0)) := by rw [hW6, hBB]; exact heap_alloc_new _ _
           have HB8 : Hid (Below W5.heap.size W5 W6) := HB6.out.trans (b6.mono HB6.out.size)
           have HW8 : Hid (Below w.heap.size w W6) := HW5.out.trans (HB8.out.mono HW5.out.size)
           have n1 := numbers_any W6 k1a _ k1c vn bk.phis rfl (i1.below b6 (Nat.le_refl _))
           have n2 := numbers_any W6 k2a _ k2c vn bk.body rfl (i2.below b6 (Nat.le_refl _))
           obtain ⟨T1, hT1⟩ : ∃ T, T = bk.phis.all (wi vn) := ⟨_, rfl⟩
           obtain ⟨T2, hT2⟩ : ∃ T, T = bk.body.all (wi vn) := ⟨_, rfl⟩
           rw [<- hT1] at n1
           rw [<- hT2] at n2
           have HBN : Hid (T1 = true -> T2 = true -> bk.val < (vn : Int) -> ∀ j (h : j < f.blks.length), j < i + 1 -> f.blks[j].phis.all (wi vn) = true /\ f.blks[j].body.all (wi vn) = true /\ f.blks[j].val < (vn : Int)) := fun q1 q2 q3 j h1 h2 => by
            rcases Nat.lt_succ_iff_lt_or_eq.1 h2 with q | rfl
            ·exact HBI.out j h1 q
            ·rw [<- hbk]; exact ⟨by rw [<- hT1]; exact q1, by rw [<- hT2]; exact q2, q3⟩
           generalize bk.phis.length = l1 at r0 hW6 k6 n1
           generalize bk.body.length = l2 at r1' hW6 k6 n2
           generalize bk.ways.length = l3 at r4 hW6 k6
           generalize bk.preds.length = l4 at r5 hW6 k6
           generalize bk.kind = kd at r2 hW6 k6
           generalize bk.val = vl at r3 hW6 k6 HBN
           have N1 : Hid _ := n1
           have N2 : Hid _ := n2
           have y0 : W6.cell? ⟨BB, 0, none⟩ = some (.slice k1a l1 k1c) := cell_arr k6 rfl
           have y1 : W6.cell? ⟨BB, 1, none⟩ = some (.slice k2a l2 k2c) := cell_arr k6 rfl
           have y3 : W6.cell? ⟨BB, 3, none⟩ = some (.int .i64 vl) := cell_arr k6 rfl
           have z3 : W6.cell? ⟨FB, 3, none⟩ = some (.slice la vn lc) := cell_arr (HZC.out W6 HB8.out) rfl
           have hxl : xb < wq.heap.size := hlx
           have hBl : BB < W6.heap.size := (gl k6)
           clear i1 i2 i3 i4 n1 n2 hT1 hT2 b6 k6 hbk ea
           go_upto_region 22 with fail
           rw [<- hW6]
           rw [<- hBB]
           clear hW6 hBB r0 r1' r2 r3 r4 r5 z4
           go_wp2_with fail
           refine Calls.mono N1.out ?_
           rintro e w9 ⟨rfl, h9⟩
           rw [h9]
           clear h9 w9
           cases T1 with
           | false =>
             go_wp2_with fail
             go_ret
             exact ⟨rfl, HW8.out⟩
           | true =>
             go_wp2_with fail
             refine Calls.mono N2.out ?_
             rintro e w9 ⟨rfl, h9⟩
             rw [h9]
             clear h9 w9
             cases T2 with
             | false =>
               go_wp2_with fail
               go_ret
               exact ⟨rfl, HW8.out⟩
             | true =>
               by_cases hv : vl < (vn : Int)
               ·have hd : decide ((vn : Int) <= vl) = false := by simp; omega
                have HBM : Hid _ := HBN.out (by simp) (by simp) hv
                go_wp2_with fail
                go_roundw
                case rel => exact ⟨i + 1, by omega, by go_num, HBM.out, HB8.out⟩
                case measure => simp [intOf]; omega
               ·have hd : decide ((vn : Int) <= vl) = true := by simp; omega
                go_wp2_with fail
                go_ret
                exact ⟨rfl, HW8.out⟩
          ·have HRK : Hid (RI FS (k + 1)) := HRI.out.more hkf (by
            rw [<- HE.out.1]
            refine ⟨?_, fun v hv => ?_, fun b hb => ?_⟩
            ·rw [<- HE.out.2.1]; exact all_wi HT1.out.symm
            ·rw [<- HE.out.2.1]; exact all_wi (HAA.out v hv)
            ·obtain ⟨j, hj, rfl⟩ := List.getElem_of_mem hb
             obtain ⟨q1, q2, q3⟩ := HBI.out j hj (by have := HE.out.2.2; omega)
             rw [<- HE.out.2.1]
             exact ⟨all_wi q1, all_wi q2, q3⟩)
           have HBO : Hid (Below W0.heap.size W0 wq) := HB5.out.trans (HB6.out.mono HB5.out.size)
           go_wp2_with fail
           go_roundw
           case rel => exact ⟨k + 1, by omega, by go_num, HRK.out, HBO.out⟩
           case measure => simp [intOf]; omega
    ·have hRR : ∀ f ∈ FS, RR f := fun f hf => by
      obtain ⟨j, hj, rfl⟩ := List.getElem_of_mem hf
      exact HRI.out.out j hj (by have := HEF.out; omega)
     have HL1 : Hid _ := lent_any wo (mn := mn) (HF.out wo HWo.out) HEF.out (by omega) (few_of HBF.out)
     have HREN : Hid (∀ w', Below w.heap.size w w' -> Calls Tryz.prog 14 #[.agg #[.slice fa fn fc, .int .i64 mn], .int .i64 1] w' fun e w'' => ∃ ao c, e = .returned (.agg #[.slice ao fn c, .int .i64 mn]) /\ Fus w'' ao c (FS.map (rnF 1)) /\ Below w'.heap.size w' w'') := fun w' hb => HMAIN.out 1 (by omega) hRR w' hb
     have HCK : Hid (∀ (w' : World) (a : Option Addr) (c : Nat), Below w.heap.size w w' -> Fus w' a c (FS.map (rnF 1)) -> Calls Tryz.prog 10 #[.agg #[.slice a fn c, .int .i64 mn]] w' fun e w'' => e = .returned (.int .i64 r1) /\ Below w'.heap.size w' w'') := fun w' a c hb hf => HC2.out 1 w' a c hRR hb hf
     clear hRR
     go_wp2_with fail
     refine Calls.mono HL1.out ?_
     rintro e w4 ⟨fb, fc2, rfl, L4, k4, b4⟩
     obtain ⟨lb, hlb⟩ : ∃ lb, lb = wo.heap.size + 1 := ⟨_, rfl⟩
     rw [<- hlb] at k4 ⊢
     rw [<- HEF.out] at k4
     have HL4 : Hid (LM w4 wo.heap.size fb fc2 FS) := L4
     have HB4 : Hid (Below W0.heap.size W0 w4) := HB.out.trans (b4.mono HB.out.size)
     have HW4 : Hid (Below w.heap.size w w4) := HB0.out.trans (HB4.out.mono HB0.out.size)
     have l0 : w4.cell? ⟨lb, 0, none⟩ = some (.slice (some ⟨fb, 0, none⟩) fn fc2) := cell_arr k4 rfl
     have l1 : w4.cell? ⟨lb, 1, none⟩ = some (.int .i64 mn) := cell_arr k4 rfl
     have hl4 := (gl k4)
     clear L4 k4 b4 hlb HL1 a0 a1
     go_wp2_with fail
     refine (HC1.out w4 _ _ HW4.out HL4.out.fus).mono ?_
     rintro e w5 ⟨rfl, b5⟩
     have HB5 : Hid (Below W0.heap.size W0 w5) := HB4.out.trans (b5.mono HB4.out.size)
     have HW5 : Hid (Below w.heap.size w w5) := HB0.out.trans (HB5.out.mono HB0.out.size)
     obtain ⟨a0, a1⟩ := HKS.out w5 HB5.out
     clear b5 HL4 HB4 HW4 l0 l1 hl4
     go_wp2_with fail
     refine (HREN.out w5 HW5.out).mono ?_
     rintro e w6 ⟨ao, c6, rfl, hF6, b6⟩
     have HF6 : Hid (Fus w6 ao c6 (FS.map (rnF 1))) := hF6
     have HW6 : Hid (Below w.heap.size w w6) := HW5.out.trans (b6.mono HW5.out.size)
     clear hF6 b6 a0 a1
     go_wp2_with fail
     refine (HCK.out w6 ao c6 HW6.out HF6.out).mono ?_
     rintro e w7 ⟨rfl, b7⟩
     have HW7 : Hid (Below w.heap.size w w7) := HW6.out.trans (b7.mono HW6.out.size)
     have er1 : (r1 == r1) = true := by simp
     clear b7
     go_wp2_with fail
     go_ret
     exact ⟨rfl, HW7.out⟩
theorem ssaRenamed_any (w : World) (hTab : Tab w) {fa : Option Addr} {fn fc : Nat} {mn : Int} {FS : List Fu} (hF : Fus w fa fc FS) (ef : fn = FS.length) (hb : szS FS <= 1048576) (y : Int) :
 Calls Tryz.prog 5 #[.agg #[.slice fa fn fc, .int .i64 mn], .int .i64 y] w fun e w' => e = .returned (.bool true) /\ Below w.heap.size w w' := by
 by_cases h1 : y < 0
 ·exact ssaRenamed_lo w hTab hF ef hb y h1
 ·by_cases h2 : 1000 < y
  ·exact ssaRenamed_hi w hTab hF ef hb y h2
  ·obtain ⟨B, rfl⟩ : ∃ B : Nat, y = B := ⟨y.toNat, by omega⟩
   exact ssaRenamed_in w hTab hF ef hb B (by omega)
end Go.Proofs.YtdbkjjelaipcfaaGreatDoor
