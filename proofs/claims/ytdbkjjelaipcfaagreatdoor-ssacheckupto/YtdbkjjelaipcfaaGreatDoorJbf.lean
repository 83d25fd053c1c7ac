import Derived.Test.YtdbkjjelaipcfaaGreatDoorJbe
set_option linter.unusedVariables false
set_option linter.unusedSimpArgs false
namespace Go.Proofs.YtdbkjjelaipcfaaGreatDoor
open Go.ChangeShapes Go.WideShapes Go.ChangeAt Go.RowKit Go.Maps
theorem af1_f5 {w w' : World} {s : ByteArray} {pa : Option Addr} {pn pc : Nat} {r : Int} {va : Option Addr} {vn vc : Nat} {ba : Option Addr} {bn bc : Nat} (h : Af1 w (.cells #[.string s, .slice pa pn pc, .int .i64 r, .slice va vn vc, .slice ba bn bc] 38) w') :
 w'.cell? ⟨w.heap.size, 0, none⟩ = some (.string s) /\ w'.cell? ⟨w.heap.size, 1, none⟩ = some (.slice pa pn pc) /\ w'.cell? ⟨w.heap.size, 2, none⟩ = some (.int .i64 r) /\ w'.cell? ⟨w.heap.size, 3, none⟩ = some (.slice va vn vc) /\ w'.cell? ⟨w.heap.size, 4, none⟩ = some (.slice ba bn bc) /\ w.heap.size < w'.heap.size :=
 ⟨cell_arr h.one rfl, cell_arr h.one rfl, cell_arr h.one rfl, cell_arr h.one rfl, cell_arr h.one rfl, by have := h.size; omega⟩
set_option maxRecDepth 100000 in
set_option maxHeartbeats 8000000 in
theorem rPhis_any (w : World) {fa : Option Addr} {fn fc : Nat} {s : ByteArray} {pa : Option Addr} {pn pc : Nat} {r : Int} {va : Option Addr} {vn vc : Nat} {ba : Option Addr} {bn bc : Nat} {FS : List Fu} {f : Fu} (X : RX w fa fn fc s pa pn pc r va vn vc ba bn bc FS f) (hf : formP FS f = true) :
 Calls Tryz.prog 45 #[.agg #[.string s, .slice pa pn pc, .int .i64 r, .slice va vn vc, .slice ba bn bc]] w fun e w' => e = .returned (.bool (phisP f)) /\ Below w.heap.size w w' := by
 have hpos := (formP_blocks hf).1
 have hbl := (formP_blocks hf).2
 have hx : phisP f = (evr (fun _ b => phiB f b) 0 f.blks && decide ((f.blks.getD 0 noB).phis.length = 0)) := by
  rw [evr_plain (phiB f), phisP, Bool.and_comm]
 rw [hx]
 obtain ⟨RC, hRC⟩ : ∃ R, evr (fun _ b => phiB f b) 0 f.blks = R := ⟨_, rfl⟩
 rw [hRC]
 have HC0 : Hid (EvR (fun _ b => phiB f b) f.blks 0 RC) := ⟨by simpa using hRC⟩
 obtain ⟨RZ, hRZ⟩ : ∃ R, decide ((f.blks.getD 0 noB).phis.length = 0) = R := ⟨_, rfl⟩
 rw [hRZ]
 have HRZ : Hid (decide ((f.blks.getD 0 noB).phis.length = 0) = RZ) := hRZ
 have HX : Hid (RX w fa fn fc s pa pn pc r va vn vc ba bn bc FS f) := X
 have HPO : Hid (0 < f.blks.length) := hpos
 have HBL : Hid (∀ b ∈ f.blks, blockP f b = true) := hbl
 have hbx : bn <= 9223372036854775807 := by have := X.hB.le; have := X.hB.mx; have := X.eb; omega
 have hvx : vn <= 9223372036854775807 := by have := X.hV.le; have := X.hV.mx; have := X.ev; omega
 have A0 : Af1 w (.cells #[.string s, .slice pa pn pc, .int .i64 r, .slice va vn vc, .slice ba bn bc] 38) (w.alloc (.cells #[.string s, .slice pa pn pc, .int .i64 r, .slice va vn vc, .slice ba bn bc] 38)) := Af1.refl _ _
 clear hRC hRZ X hf hpos hbl hx
 go_enter Tryz.func45, Tryz.ntmps45
 go_wp2_with fail
 go_loopw [3] (fun v wr => ∃ k : Nat, k <= bn /\ v = .int .i64 k /\ Hid (EvR (fun _ b => phiB f b) f.blks k RC) /\ Hid (Af1 w (.cells #[.string s, .slice pa pn pc, .int .i64 r, .slice va vn vc, .slice ba bn bc] 38) wr)) (fun v _ => bn - (intOf v).toNat)
 case atStart => exact ⟨0, by omega, rfl, HC0, A0⟩
 case round =>
  clear HC0 A0
  obtain ⟨k, hk, rfl, HP, HA⟩ := hrel
  obtain ⟨y0, y1, y2, y3, y4, xs⟩ := af1_f5 HA.out
  by_cases hlt : k < bn
  ·have hkf : k < f.blks.length := by have := HX.out.eb; omega
   obtain ⟨b', o', ka, kc, la, lc, ma, mc, na, nc, rfl, hlt', c0, c1, c2, c3, c4, c5, j1, j2, j3, j4⟩ := (HX.out.hB.below HA.out.low (Nat.le_refl _)).at hkf
   have HN := HP.out.next hkf
   have hbp := blockP_ph (HBL.out _ (List.getElem_mem hkf))
   generalize f.blks[k] = b at c0 c1 c2 c3 c4 c5 j1 j2 j3 j4 HN hbp
   obtain ⟨PH, BO, kd, vl, WY, PR⟩ := b
   simp only at c0 c1 c2 c3 c4 c5 j1 j2 j3 j4 hbp
   obtain ⟨l1, hl1⟩ : ∃ l, l = PH.length := ⟨_, rfl⟩
   obtain ⟨l2, hl2⟩ : ∃ l, l = BO.length := ⟨_, rfl⟩
   obtain ⟨l3, hl3⟩ : ∃ l, l = WY.length := ⟨_, rfl⟩
   obtain ⟨l4, hl4⟩ : ∃ l, l = PR.length := ⟨_, rfl⟩
   rw [<- hl1] at c0
   rw [<- hl2] at c1
   rw [<- hl3] at c4
   rw [<- hl4] at c5
   obtain ⟨R5, hR5⟩ : ∃ A, evr (fun _ x => phP f l4 x) 0 PH = A := ⟨_, rfl⟩
   obtain ⟨R6, hR6⟩ : ∃ A, evr (fun _ x => !isPh f x) 0 BO = A := ⟨_, rfl⟩
   have hrb : phiB f ⟨PH, BO, kd, vl, WY, PR⟩ = (R5 && R6) := by
    unfold phiB
    rw [<- hR5, <- hR6, evr_plain (phP f l4), evr_plain (fun x => !isPh f x), hl4]
   rw [hrb] at HN
   have HNX : Hid (R5 = true -> R6 = true -> EvR (fun _ b => phiB f b) f.blks (k + 1) RC) := fun h5 h6 => HN.1 (by rw [h5, h6]; rfl)
   have HNO : Hid ((R5 && R6) = false -> RC = false) := HN.2
   have HE5 : Hid (EvR (fun _ x => phP f l4 x) PH 0 R5) := ⟨by simpa using hR5⟩
   have HE6 : Hid (EvR (fun _ x => !isPh f x) BO 0 R6) := ⟨by simpa using hR6⟩
   have HL1 : Hid (l1 = PH.length) := hl1
   have HL2 : Hid (l2 = BO.length) := hl2
   have hm1 : l1 <= 9223372036854775807 := by have := j1.le; have := j1.mx; omega
   have hm2 : l2 <= 9223372036854775807 := by have := j2.le; have := j2.mx; omega
   have HV1 : Hid (∀ x ∈ PH, wi f.vals.length x = true) := hbp.1
   have HV2 : Hid (∀ x ∈ BO, wi f.vals.length x = true) := hbp.2
   obtain ⟨W, hW⟩ : ∃ W, W = wr.alloc (.cells #[.slice ka l1 kc, .slice la l2 lc, .int .i64 kd, .int .i64 vl, .slice ma l3 mc, .slice na l4 nc] 46) := ⟨_, rfl⟩
   have hba : Below wr.heap.size wr W := by rw [hW]; exact below_new _ _
   have HAW : Hid (Af1 w _ W) := HA.out.next hba
   have HXW : Hid _ := HX.out.below HAW.out.low
   have hbx1 : W.heap[wr.heap.size]? = some (.cells #[.slice ka l1 kc, .slice la l2 lc, .int .i64 kd, .int .i64 vl, .slice ma l3 mc, .slice na l4 nc] 46) := by rw [hW]; exact heap_alloc_new wr _
   have HLT : Hid (wr.heap.size < W.heap.size) := by rw [hW]; show _ < _; simp
   have HI1 : Hid (Ints W ka kc PH) := j1.below hba (Nat.le_refl _)
   have HI2 : Hid (Ints W la lc BO) := j2.below hba (Nat.le_refl _)
   clear hR5 hR6 hrb HN hl1 hl2 hl3 hl4 j1 j2 j3 j4 HP hbp hba
   obtain ⟨B3, hB3⟩ : ∃ B, B = wr.heap.size := ⟨_, rfl⟩
   go_wp2_with fail
   rw [<- hW]
   clear hW
   rw [<- hB3] at hbx1 HLT ⊢
   have d0 : W.cell? ⟨B3, 0, none⟩ = some (.slice ka l1 kc) := cell_arr hbx1 rfl
   have d1 : W.cell? ⟨B3, 1, none⟩ = some (.slice la l2 lc) := cell_arr hbx1 rfl
   have d3 : W.cell? ⟨B3, 5, none⟩ = some (.slice na l4 nc) := cell_arr hbx1 rfl
   have HD0 : Hid _ := d0
   have HD1 : Hid _ := d1
   have HD3 : Hid _ := d3
   have e3 : W.cell? ⟨w.heap.size, 3, none⟩ = some (.slice va vn vc) := cell_arr HAW.out.one rfl
   have HE3 : Hid _ := e3
   have HLW : Hid (w.heap.size < W.heap.size) := by have := HAW.out.size; show _ < _; omega
   clear hbx1 hB3 c0 c1 c2 c3 c4 c5 y0 y1 y2 y3 y4 xs hlt'
   go_wp2_with fail
   go_loopw [5] (fun v wr => ∃ j : Nat, j <= l1 /\ v = .int .i64 j /\ Hid (EvR (fun _ x => phP f l4 x) PH j R5) /\ Hid (Below W.heap.size W wr)) (fun v _ => l1 - (intOf v).toNat)
   case atStart => exact ⟨0, by omega, rfl, HE5, Below.refl _ _⟩
   case round =>
    clear d0 d1 d3 e3
    obtain ⟨j, hj, rfl, HPj, HBW⟩ := hrel
    have d0 : wr.cell? ⟨B3, 0, none⟩ = some (.slice ka l1 kc) := (HBW.out.cell (p := ⟨B3, 0, none⟩) HLT.out).trans HD0.out
    have d1 : wr.cell? ⟨B3, 1, none⟩ = some (.slice la l2 lc) := (HBW.out.cell (p := ⟨B3, 1, none⟩) HLT.out).trans HD1.out
    have d3 : wr.cell? ⟨B3, 5, none⟩ = some (.slice na l4 nc) := (HBW.out.cell (p := ⟨B3, 5, none⟩) HLT.out).trans HD3.out
    have hlb : B3 < wr.heap.size := by have := HBW.out.size; have := HLT.out; omega
    have hlw : w.heap.size < wr.heap.size := by have := HBW.out.size; have := HLW.out; omega
    have e3 : wr.cell? ⟨w.heap.size, 3, none⟩ = some (.slice va vn vc) := (HBW.out.cell (p := ⟨w.heap.size, 3, none⟩) HLW.out).trans HE3.out
    by_cases hjl : j < l1
    ·have hjf : j < PH.length := by have := HL1.out; omega
     obtain ⟨pb, po, rfl, q0⟩ := (HI1.out.below HBW.out (Nat.le_refl _)).at hjf
     have hwi := HV1.out _ (List.getElem_mem hjf)
     have HN := HPj.out.next hjf
     obtain ⟨x, hx⟩ : ∃ x : Nat, PH[j] = (x : Int) := ⟨PH[j].toNat, by simp only [wi, decide_eq_true_eq] at hwi; omega⟩
     rw [hx] at q0 hwi HN
     have hxf : x < f.vals.length := by simp only [wi, decide_eq_true_eq] at hwi; omega
     have hxv : x < vn := by have := HXW.out.ev; omega
     have eg : gv f (x : Int) = f.vals[x] := by simp [gv, List.getD_eq_getElem?_getD, hxf]
     obtain ⟨bv, ov, ta, tc, rfl, hlt2, q1, q2, q3, q4, g⟩ := (HXW.out.below HBW.out).hV.at4 hxf
     unfold phP isPh at HN
     rw [eg] at HN
     clear hwi hx eg
     generalize f.vals[x] = v at q1 q2 q3 q4 g HN
     obtain ⟨op, ty, imm, A⟩ := v
     simp only at q1 q2 q3 q4 g HN
     obtain ⟨al, hal⟩ : ∃ al, al = A.length := ⟨_, rfl⟩
     rw [<- hal] at q4 HN
     have hax : al <= 9223372036854775807 := by have := g.le; have := g.mx; omega
     have HN1 : Hid (op = 32 /\ al = l4 -> EvR (fun _ x => phP f l4 x) PH (j + 1) R5) := fun h => HN.1 (by simp [h.1, h.2])
     have HN2 : Hid (¬ (op = 32 /\ al = l4) -> R5 = false) := fun h => HN.2 (by simpa using h)
     have S0 : (fun w' : World => w'.cell? ⟨B3, 0, none⟩ = some (.slice (some ⟨pb, po, none⟩) l1 kc) /\ w'.cell? ⟨w.heap.size, 3, none⟩ = some (.slice (some ⟨bv, ov, none⟩) vn vc) /\ w'.cell? ⟨pb, po + j, none⟩ = some (.int .i64 (x : Int)) /\ w'.cell? ⟨bv, ov + x * 4, none⟩ = some (.int .i64 op) /\ w'.cell? ⟨bv, ov + x * 4 + 1, none⟩ = some (.int .i64 ty) /\ w'.cell? ⟨bv, ov + x * 4 + 2, none⟩ = some (.int .i64 imm) /\ w'.cell? ⟨bv, ov + x * 4 + 3, none⟩ = some (.slice ta al tc)) wr.drew := ⟨d0, e3, q0, q1, q2, q3, q4⟩
     have S1 : (fun w' : World => w'.cell? ⟨B3, 0, none⟩ = some (.slice (some ⟨pb, po, none⟩) l1 kc) /\ w'.cell? ⟨w.heap.size, 3, none⟩ = some (.slice (some ⟨bv, ov, none⟩) vn vc) /\ w'.cell? ⟨pb, po + j, none⟩ = some (.int .i64 (x : Int)) /\ w'.cell? ⟨bv, ov + x * 4, none⟩ = some (.int .i64 op) /\ w'.cell? ⟨bv, ov + x * 4 + 1, none⟩ = some (.int .i64 ty) /\ w'.cell? ⟨bv, ov + x * 4 + 2, none⟩ = some (.int .i64 imm) /\ w'.cell? ⟨bv, ov + x * 4 + 3, none⟩ = some (.slice ta al tc)) (wr.drew.alloc (.cells #[.int .i64 0, .int .i64 0, .int .i64 0, .slice none 0 0] 42)) := ⟨cellA (cellD d0), cellA (cellD e3), cellA (cellD q0), cellA (cellD q1), cellA (cellD q2), cellA (cellD q3), cellA (cellD q4)⟩
     clear g HN hal
     have HAN : Hid (Below W.heap.size W (wr.alloc (.cells #[.int .i64 op, .int .i64 ty, .int .i64 imm, .slice ta al tc] 42)).drew) := HBW.out.trans ((((Below.refl _ _).alloc (Nat.le_refl _) _).drew).mono HBW.out.size)
     go_wp2_with fail
     refine led_start (S := fun w' : World => w'.cell? ⟨B3, 0, none⟩ = some (.slice (some ⟨pb, po, none⟩) l1 kc) /\ w'.cell? ⟨w.heap.size, 3, none⟩ = some (.slice (some ⟨bv, ov, none⟩) vn vc) /\ w'.cell? ⟨pb, po + j, none⟩ = some (.int .i64 (x : Int)) /\ w'.cell? ⟨bv, ov + x * 4, none⟩ = some (.int .i64 op) /\ w'.cell? ⟨bv, ov + x * 4 + 1, none⟩ = some (.int .i64 ty) /\ w'.cell? ⟨bv, ov + x * 4 + 2, none⟩ = some (.int .i64 imm) /\ w'.cell? ⟨bv, ov + x * 4 + 3, none⟩ = some (.slice ta al tc)) (z := 10) (by kernel_rfl) ?_
     refine led_n 0 S0 ?_
     refine led_n 1 S0 ?_
     refine led_n 2 S0 ?_
     refine led_n 3 S0 ?_
     refine led_n 4 S0 ?_
     refine led_n 5 S0 ?_
     refine led_n 6 S0 ?_
     refine led_n 7 S0 ?_
     refine led_n 8 S0 ?_
     refine led_one (i := 9) rfl (by kernel_rfl) ?_
     intro K9 hK9
     rw [if_pos (by rfl)]
     go_simp
     refine hK9 _ _ (fun _ => S1) ?_
     clear hK9
     try simp only [Act.put, zi, zz, zs]
     refine led_one (i := 10) rfl (by kernel_rfl) ?_
     intro K3 hK3
     rw [if_pos (by rfl)]
     go_simp
     refine hK3 _ _ (fun h => absurd rfl h) ?_
     clear hK3 S0 S1
     try simp only [Act.put, zi, zz, zs]
     refine led_done (by kernel_rfl) ?_
     by_cases h33 : op = 32
     ·subst h33
      by_cases him : al = l4
      ·have him' : ((al : Int) = l4) := by omega
       subst him
       go_wp2_with fail
       go_roundw
       case rel => exact ⟨j + 1, by omega, by go_num, HN1.out ⟨rfl, rfl⟩, HAN⟩
       case measure => simp [intOf]; omega
      ·have him' : ¬ ((al : Int) = l4) := by omega
       go_wp2_with fail
       go_ret
       exact ⟨ret_bl (by rw [HNO.out (by rw [HN2.out (fun h => him h.2)]; rfl)]; rfl), (HAW.out.next HAN.out).low⟩
     ·go_wp2_with fail
      go_ret
      exact ⟨ret_bl (by rw [HNO.out (by rw [HN2.out (fun h => h33 h.1)]; rfl)]; rfl), (HAW.out.next HAN.out).low⟩
    ·obtain rfl : R5 = true := HPj.out.fin (by have := HL1.out; omega)
     obtain rfl : l1 = j := by omega
     clear HPj
     go_wp2_with fail
     go_loopw [7] (fun v wr => ∃ j : Nat, j <= l2 /\ v = .int .i64 j /\ Hid (EvR (fun _ x => !isPh f x) BO j R6) /\ Hid (Below W.heap.size W wr)) (fun v _ => l2 - (intOf v).toNat)
     case atStart => exact ⟨0, by omega, rfl, HE6, HBW⟩
     case round =>
      clear HBW d0 d1 d3 e3 hlb hlw
      obtain ⟨j, hj, rfl, HPj, HBW⟩ := hrel
      have d0 : wr.cell? ⟨B3, 0, none⟩ = some (.slice ka l1 kc) := (HBW.out.cell (p := ⟨B3, 0, none⟩) HLT.out).trans HD0.out
      have d1 : wr.cell? ⟨B3, 1, none⟩ = some (.slice la l2 lc) := (HBW.out.cell (p := ⟨B3, 1, none⟩) HLT.out).trans HD1.out
      have d3 : wr.cell? ⟨B3, 5, none⟩ = some (.slice na l4 nc) := (HBW.out.cell (p := ⟨B3, 5, none⟩) HLT.out).trans HD3.out
      have hlb : B3 < wr.heap.size := by have := HBW.out.size; have := HLT.out; omega
      have hlw : w.heap.size < wr.heap.size := by have := HBW.out.size; have := HLW.out; omega
      have e3 : wr.cell? ⟨w.heap.size, 3, none⟩ = some (.slice va vn vc) := (HBW.out.cell (p := ⟨w.heap.size, 3, none⟩) HLW.out).trans HE3.out
      by_cases hjl : j < l2
      ·have hjf : j < BO.length := by have := HL2.out; omega
       obtain ⟨pb, po, rfl, q0⟩ := (HI2.out.below HBW.out (Nat.le_refl _)).at hjf
       have hwi := HV2.out _ (List.getElem_mem hjf)
       have HN := HPj.out.next hjf
       obtain ⟨x, hx⟩ : ∃ x : Nat, BO[j] = (x : Int) := ⟨BO[j].toNat, by simp only [wi, decide_eq_true_eq] at hwi; omega⟩
       rw [hx] at q0 hwi HN
       have hxf : x < f.vals.length := by simp only [wi, decide_eq_true_eq] at hwi; omega
       have hxv : x < vn := by have := HXW.out.ev; omega
       have eg : gv f (x : Int) = f.vals[x] := by simp [gv, List.getD_eq_getElem?_getD, hxf]
       obtain ⟨bv, ov, ta, tc, rfl, hlt2, q1, _, _, _, _⟩ := (HXW.out.below HBW.out).hV.at4 hxf
       unfold isPh at HN
       rw [eg] at HN
       clear hwi hx eg
       generalize f.vals[x].op = op at q1 HN
       have HN1 : Hid (¬ op = 32 -> EvR (fun _ x => !isPh f x) BO (j + 1) R6) := fun h => HN.1 (by simpa using h)
       have HN2 : Hid (op = 32 -> R6 = false) := fun h => HN.2 (by simpa using h)
       clear HN
       by_cases h33 : op = 32
       ·subst h33
        go_wp2_with fail
        go_quiet (fail)
        go_wp2_with fail
        go_ret
        exact ⟨ret_bl (by rw [HNO.out (by rw [HN2.out (by first | trivial | rfl)]; rfl)]; rfl), by first | exact (HAW.out.next HBW.out).low | exact below_drawn (HAW.out.next HBW.out).low _⟩
       ·go_wp2_with fail
        go_quiet (fail)
        go_wp2_with fail
        go_roundw
        case rel => exact ⟨j + 1, by omega, by go_num, HN1.out h33, by first | exact HBW.out | exact below_drawn HBW.out _⟩
        case measure => simp [intOf]; omega
      ·obtain rfl : R6 = true := HPj.out.fin (by have := HL2.out; omega)
       obtain rfl : l2 = j := by omega
       clear HPj
       go_wp2_with fail
       go_roundw
       case rel => exact ⟨k + 1, by omega, by go_num, HNX.out (by first | trivial | rfl) (by first | trivial | rfl), HAW.out.next HBW.out⟩
       case measure => simp [intOf]; omega
  ·obtain rfl : RC = true := HP.out.fin (by have := HX.out.eb; omega)
   obtain rfl : bn = k := by omega
   clear HP hlt hk
   obtain ⟨b', o', ka, kc, la, lc, ma, mc, na, nc, rfl, hlt', c0, _⟩ := (HX.out.hB.below HA.out.low (Nat.le_refl _)).at HPO.out
   have c0' : wr.cell? ⟨b', o', none⟩ = some (.slice ka (f.blks[0]'HPO.out).phis.length kc) := by simpa using c0
   have e : decide ((f.blks[0]'HPO.out).phis.length = 0) = RZ := by
    rw [<- HRZ.out]
    rw [List.getD_eq_getElem?_getD, List.getElem?_eq_getElem HPO.out]
    rfl
   generalize (f.blks[0]'HPO.out).phis.length = m at c0' e
   have HEE : Hid (decide (m = 0) = RZ) := e
   have hb0 : 0 < bn := by have := HPO.out; have := HX.out.eb; omega
   clear c0 e y0 y1 y2 y3
   go_wp2_with fail
   go_ret
   exact ⟨ret_bl (by rw [<- HEE.out]; by_cases hm : m = 0 <;> simp [hm]), HA.out.low⟩
end Go.Proofs.YtdbkjjelaipcfaaGreatDoor
