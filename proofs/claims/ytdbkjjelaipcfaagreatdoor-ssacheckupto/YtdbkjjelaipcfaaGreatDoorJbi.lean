import Derived.Test.YtdbkjjelaipcfaaGreatDoorJbh
set_option linter.unusedVariables false
set_option linter.unusedSimpArgs false
namespace Go.Proofs.YtdbkjjelaipcfaaGreatDoor
open Go.ChangeShapes Go.WideShapes Go.ChangeAt Go.RowKit Go.Maps
theorem fill_next {α : Type} (a b : α) (n k : Nat) (hk : k < n) : (List.replicate k a ++ List.replicate (n - k) b).set k a = List.replicate (k + 1) a ++ List.replicate (n - (k + 1)) b := by
 rw [List.set_append_right _ _ (by simp), List.length_replicate, Nat.sub_self, show n - k = (n - (k + 1)) + 1 by omega, List.replicate_succ (n := n - (k + 1)), List.set_cons_zero, List.replicate_succ', List.append_assoc]
 rfl
theorem zero_same (n k : Nat) : (List.replicate n (0 : Int)).set k 0 = List.replicate n 0 := by
 apply List.ext_getElem?
 intro i
 rw [List.getElem?_set, List.getElem?_replicate]
 split
 ·next e => subst e; split <;> simp_all
 ·rfl
set_option maxRecDepth 100000 in
set_option maxHeartbeats 8000000 in
theorem rPlaces_any (w : World) {fa : Option Addr} {fn fc : Nat} {s : ByteArray} {pa : Option Addr} {pn pc : Nat} {r : Int} {va : Option Addr} {vn vc : Nat} {ba : Option Addr} {bn bc : Nat} {FS : List Fu} {f : Fu} (X : RX w fa fn fc s pa pn pc r va vn vc ba bn bc FS f) (hf : formP FS f = true) (hbn : bn <= 1000000) (hbulk : totK f f.blks.length <= 1000000000) :
 Calls Tryz.prog 46 #[.agg #[.string s, .slice pa pn pc, .int .i64 r, .slice va vn vc, .slice ba bn bc]] w fun e w' => ∃ g, e = .returned (.slice (some ⟨g, 0, none⟩) vn vn) /\ T3 w' g vn (qlK f f.blks.length) (cntAll f) /\ Below w.heap.size w w' := by
 obtain ⟨hpr, hvl, hpl⟩ := formP_params hf
 have hvn : vn <= 300000 := by have := X.ev; omega
 have hmk := run_places3 vn (by omega)
 have hpn : pn <= 8 := by have := X.ep; omega
 have HX : Hid (RX w fa fn fc s pa pn pc r va vn vc ba bn bc FS f) := X
 have HPR : Hid (∀ x ∈ f.params, wi f.vals.length x = true) := hpr
 have HWI : Hid (∀ b ∈ f.blks, blockP f b = true) := (formP_blocks hf).2
 have HTOT : Hid (∀ k, totK f k <= 1000000000) := fun k => Nat.le_trans (totK_mono f k) hbulk
 obtain ⟨w2, hw2⟩ : ∃ w2, w2 = (w.alloc (.cells #[.string s, .slice pa pn pc, .int .i64 r, .slice va vn vc, .slice ba bn bc] 38)).alloc (.cells (madeCells #[.int .i64 0, .int .i64 0, .int .i64 0] (vn * 3)) 77) := ⟨_, rfl⟩
 have b2 : Af1 w (.cells #[.string s, .slice pa pn pc, .int .i64 r, .slice va vn vc, .slice ba bn bc] 38) w2 := by rw [hw2]; exact (Af1.refl w _).next (below_new _ _)
 have HW0 : Hid (P3 w w2 (.cells #[.string s, .slice pa pn pc, .int .i64 r, .slice va vn vc, .slice ba bn bc] 38) vn (List.replicate vn (0, 0)) (List.replicate vn 0)) := ⟨b2.one, by
  have := T3.start (w.alloc (.cells #[.string s, .slice pa pn pc, .int .i64 r, .slice va vn vc, .slice ba bn bc] 38)) vn
  rw [hw2]
  simpa using this, b2.low⟩
 obtain ⟨y0, y1, y2, y3, y4, xs⟩ := af1_f5 (Af1.refl w (.cells #[.string s, .slice pa pn pc, .int .i64 r, .slice va vn vc, .slice ba bn bc] 38))
 clear X hf hpr hvl hpl hbulk b2
 go_enter Tryz.func46, Tryz.ntmps46
 go_wp2_with fail
 rw [<- hw2]
 go_wp2_with fail
 clear hw2 hmk y0 y1 y2 y3 y4 xs
 go_loopw [4] (fun v wr => ∃ k : Nat, k <= vn /\ v = .int .i64 k /\ Hid (P3 w wr (.cells #[.string s, .slice pa pn pc, .int .i64 r, .slice va vn vc, .slice ba bn bc] 38) vn (List.replicate k (-2, -1) ++ List.replicate (vn - k) (0, 0)) (List.replicate vn 0))) (fun v _ => vn - (intOf v).toNat)
 case atStart => exact ⟨0, by omega, rfl, by simpa using HW0⟩
 case round =>
  clear HW0
  obtain ⟨k, hk, rfl, HW⟩ := hrel
  by_cases hlt : k < vn
  ·obtain ⟨t1, t2, t3, f1, f2, f3⟩ := HW.out.row.cell hlt
   have HP2 : Hid _ := HW.out.put hlt (-2) (-1) 0
   rw [fill_next _ _ _ _ hlt, zero_same] at HP2
   have hg : w.heap.size + 1 < wr.heap.size := HW.out.row.lt
   clear HW
   go_wp2_with fail
   go_roundw
   case rel => exact ⟨k + 1, by omega, by go_num, HP2⟩
   case measure => simp [intOf]; omega
  ·obtain rfl : vn = k := by omega
   have hW := HW.out
   rw [Nat.sub_self, List.replicate_zero, List.append_nil] at hW
   have HW1 : Hid _ := hW
   clear HW hW
   go_wp2_with fail
   go_loopw [5] (fun v wr => ∃ k : Nat, k <= pn /\ v = .int .i64 k /\ Hid (P3 w wr (.cells #[.string s, .slice pa pn pc, .int .i64 r, .slice va vn vc, .slice ba bn bc] 38) vn (plL (-1, -1) (f.params.take k) (List.replicate vn (-2, -1))) (cntL (List.replicate vn 0) (f.params.take k)))) (fun v _ => pn - (intOf v).toNat)
   case atStart => exact ⟨0, by omega, rfl, by simpa [plL, cntL] using HW1⟩
   case round =>
    clear HW1 hk hlt
    obtain ⟨k, hk, rfl, HW⟩ := hrel
    have y1 : wr.cell? ⟨w.heap.size, 1, none⟩ = some (.slice pa pn pc) := cell_arr HW.out.fo rfl
    have y4 : wr.cell? ⟨w.heap.size, 4, none⟩ = some (.slice ba bn bc) := cell_arr HW.out.fo rfl
    by_cases hlt : k < pn
    ·have hjf : k < f.params.length := by have := HX.out.ep; omega
     obtain ⟨pb, po, rfl, q0⟩ := (HX.out.hP.below HW.out.low (Nat.le_refl _)).at hjf
     have hwi := HPR.out _ (List.getElem_mem hjf)
     obtain ⟨x, hx⟩ : ∃ x : Nat, f.params[k] = (x : Int) := ⟨f.params[k].toNat, by simp only [wi, decide_eq_true_eq] at hwi; omega⟩
     rw [hx] at q0 hwi
     have hxf : x < f.vals.length := by simp only [wi, decide_eq_true_eq] at hwi; omega
     have hxv : x < vn := by have := HX.out.ev; omega
     obtain ⟨t1, t2, t3, f1, f2, f3⟩ := HW.out.row.cell hxv
     have hbd := cntL_bd (f.params.take k) (List.replicate vn 0) 0 (fun j => by rw [show (List.replicate vn (0 : Int)).getD j 0 = 0 by rw [List.getD_eq_getElem?_getD, List.getElem?_replicate]; split <;> rfl]; simp) x
     have HQN : Hid (plL (-1, -1) (f.params.take (k + 1)) (List.replicate vn (-2, -1)) = (plL (-1, -1) (f.params.take k) (List.replicate vn (-2, -1))).set x (-1, -1)) := by
      show _ = _
      rw [plL_take _ _ _ hjf, hx, Int.toNat_natCast]
     have HON : Hid (cntL (List.replicate vn 0) (f.params.take (k + 1)) = (cntL (List.replicate vn 0) (f.params.take k)).set x ((cntL (List.replicate vn 0) (f.params.take k)).getD x 0 + 1)) := by
      show _ = _
      rw [cntL_take _ _ hjf, hx, Int.toNat_natCast]
     generalize hc : List.getD (cntL (List.replicate vn 0) (f.params.take k)) x 0 = c at t3 hbd
     have HCC : Hid (List.getD (cntL (List.replicate vn 0) (f.params.take k)) x 0 = c) := hc
     have hc1 : 0 <= c := hbd.1
     have h8 : (f.params.take k).length <= 8 := by rw [List.length_take]; omega
     have hc2 : c <= 3000000000 := by have := hbd.2; omega
     have HP2 : Hid _ := HW.out.put hxv (-1) (-1) (c + 1)
     have hg : w.heap.size + 1 < wr.heap.size := HW.out.row.lt
     have S0 : (fun w' : World => w'.cell? ⟨w.heap.size, 1, none⟩ = some (.slice (some ⟨pb, po, none⟩) pn pc) /\ w'.cell? ⟨pb, po + k, none⟩ = some (.int .i64 (x : Int)) /\ w'.cell? ⟨w.heap.size + 1, x * 3 + 2, none⟩ = some (.int .i64 c)) wr.drew := ⟨y1, q0, t3⟩
     clear hx hwi hbd hc
     go_wp2_with fail
     refine led_start (S := fun w' : World => w'.cell? ⟨w.heap.size, 1, none⟩ = some (.slice (some ⟨pb, po, none⟩) pn pc) /\ w'.cell? ⟨pb, po + k, none⟩ = some (.int .i64 (x : Int)) /\ w'.cell? ⟨w.heap.size + 1, x * 3 + 2, none⟩ = some (.int .i64 c)) (z := 18) (by kernel_rfl) ?_
     refine led_n 0 S0 ?_
     refine led_n 1 S0 ?_
     refine led_n 2 S0 ?_
     refine led_n 3 S0 ?_
     refine led_n 4 S0 ?_
     refine led_n 5 S0 ?_
     refine led_n 6 S0 ?_
     refine led_n 7 S0 ?_
     refine led_n 8 S0 ?_
     refine led_n 9 S0 ?_
     refine led_n 10 S0 ?_
     refine led_n 11 S0 ?_
     refine led_n 12 S0 ?_
     refine led_n 13 S0 ?_
     refine led_n 14 S0 ?_
     refine led_n 15 S0 ?_
     refine led_n 16 S0 ?_
     refine led_one (i := 17) rfl (by kernel_rfl) ?_
     intro K9 hK9
     rw [if_pos (by rfl)]
     go_simp
     refine hK9 _ _ (fun _ => S0) ?_
     clear hK9
     try simp only [Act.put, zi, zz, zs]
     refine led_one (i := 18) rfl (by kernel_rfl) ?_
     intro K3 hK3
     rw [if_pos (by rfl)]
     go_simp
     refine hK3 _ _ (fun h => absurd rfl h) ?_
     clear hK3 S0
     try simp only [Act.put, zi, zz, zs]
     refine led_done (by kernel_rfl) ?_
     go_wp2_with fail
     go_roundw
     case rel => exact ⟨k + 1, by omega, by go_num, by rw [HQN.out, HON.out, HCC.out]; first | exact HP2.out | exact HP2.out.next (Below.refl _ _).drew⟩
     case measure => simp [intOf]; omega
    ·obtain rfl : pn = k := by omega
     have hW := HW.out
     have e0 : f.params.take pn = f.params := List.take_of_length_le (by have := HX.out.ep; omega)
     rw [e0] at hW
     have e1 : plL (-1, -1) f.params (List.replicate vn (-2, -1)) = qlK f 0 := by rw [HX.out.ev]; rfl
     have e2 : cntL (List.replicate vn 0) f.params = cntK f 0 := by rw [HX.out.ev]; rfl
     rw [e1, e2] at hW
     have HW1 : Hid _ := hW
     clear HW hW e0 e1 e2
     go_wp2_with fail
     go_loopw [6] (fun v wr => ∃ k : Nat, k <= bn /\ v = .int .i64 k /\ Hid (P3 w wr (.cells #[.string s, .slice pa pn pc, .int .i64 r, .slice va vn vc, .slice ba bn bc] 38) vn (qlK f k) (cntK f k))) (fun v _ => bn - (intOf v).toNat)
     case atStart => exact ⟨0, by omega, rfl, HW1⟩
     case round =>
      clear HW1 hk hlt y1 y4
      obtain ⟨k, hk, rfl, HW⟩ := hrel
      have y4 : wr.cell? ⟨w.heap.size, 4, none⟩ = some (.slice ba bn bc) := cell_arr HW.out.fo rfl
      by_cases hlt : k < bn
      ·have hkf : k < f.blks.length := by have := HX.out.eb; omega
       obtain ⟨b', o', ka, kc, la, lc, ma, mc, na, nc, rfl, hlt0, d0, d1, d2, d3, d4, d5, j1, j2, _, _⟩ := HX.out.hB.at hkf
       have c0 := (HW.out.low.cell (p := ⟨b', o' + k * 6, none⟩) hlt0).trans d0
       have c1 := (HW.out.low.cell (p := ⟨b', o' + k * 6 + 1, none⟩) hlt0).trans d1
       have c2 := (HW.out.low.cell (p := ⟨b', o' + k * 6 + 2, none⟩) hlt0).trans d2
       have c3 := (HW.out.low.cell (p := ⟨b', o' + k * 6 + 3, none⟩) hlt0).trans d3
       have c4 := (HW.out.low.cell (p := ⟨b', o' + k * 6 + 4, none⟩) hlt0).trans d4
       have c5 := (HW.out.low.cell (p := ⟨b', o' + k * 6 + 5, none⟩) hlt0).trans d5
       have hlt' : b' < wr.heap.size := by have := HW.out.low.size; omega
       clear d0 d1 d2 d3 d4 d5
       have hbp := blockP_ph (HWI.out _ (List.getElem_mem hkf))
       have HQK : Hid (qlK f (k + 1) = plS k f.blks[k] (qlK f k)) := by show _ = _; simp [qlK, hkf]
       have HOK : Hid (cntK f (k + 1) = cntB (cntK f k) f.blks[k]) := cntK_next f hkf
       have htt : totK f k + (f.blks[k].phis.length + f.blks[k].body.length) <= 1000000000 := by have := HTOT.out (k + 1); rw [totK_next f hkf] at this; exact this
       have HBD : Hid (∀ i, 0 <= (cntK f k).getD i 0 /\ (cntK f k).getD i 0 <= (totK f k : Int)) := cntK_bd f k (by omega)
       generalize f.blks[k] = b at c0 c1 c2 c3 c4 c5 j1 j2 hbp HQK HOK htt
       obtain ⟨PH, BO, kd, vl, WY, PR⟩ := b
       simp only at c0 c1 c2 c3 c4 c5 j1 j2 hbp htt
       obtain ⟨l1, hl1⟩ : ∃ l, l = PH.length := ⟨_, rfl⟩
       obtain ⟨l2, hl2⟩ : ∃ l, l = BO.length := ⟨_, rfl⟩
       obtain ⟨l3, hl3⟩ : ∃ l, l = WY.length := ⟨_, rfl⟩
       obtain ⟨l4, hl4⟩ : ∃ l, l = PR.length := ⟨_, rfl⟩
       rw [<- hl1] at c0
       rw [<- hl2] at c1
       rw [<- hl3] at c4
       rw [<- hl4] at c5
       have HL1 : Hid (l1 = PH.length) := hl1
       have HL2 : Hid (l2 = BO.length) := hl2
       have hm1 : l1 <= 1000000000 := by omega
       have hm2 : l2 <= 1000000000 := by omega
       have HTT : Hid (totK f k + (PH.length + BO.length) <= 1000000000) := htt
       have HV1 : Hid (∀ x ∈ PH, wi f.vals.length x = true) := hbp.1
       have HV2 : Hid (∀ x ∈ BO, wi f.vals.length x = true) := hbp.2
       have HI1 : Hid (Ints w ka kc PH) := j1
       have HI2 : Hid (Ints w la lc BO) := j2
       obtain ⟨W, hW⟩ : ∃ W, W = wr.alloc (.cells #[.slice ka l1 kc, .slice la l2 lc, .int .i64 kd, .int .i64 vl, .slice ma l3 mc, .slice na l4 nc] 46) := ⟨_, rfl⟩
       obtain ⟨B3, hB3⟩ : ∃ B, B = wr.heap.size := ⟨_, rfl⟩
       have HW5 : Hid (P3 w W (.cells #[.string s, .slice pa pn pc, .int .i64 r, .slice va vn vc, .slice (some ⟨b', o', none⟩) bn bc] 38) vn (qlK f k) (cntK f k)) := by rw [hW]; exact HW.out.next (below_new _ _)
       have HK5 : Hid (W.heap[B3]? = some (.cells #[.slice ka l1 kc, .slice la l2 lc, .int .i64 kd, .int .i64 vl, .slice ma l3 mc, .slice na l4 nc] 46)) := by rw [hW, hB3]; exact heap_alloc_new wr _
       have hkB : w.heap.size + 1 < B3 := by rw [hB3]; exact HW.out.row.lt
       clear hl1 hl2 hl3 hl4 j1 j2 hbp htt HW
       go_wp2_with fail
       rw [<- hW]
       clear hW
       rw [<- hB3]
       clear hB3 c0 c1 c2 c3 c4 c5 y4 hlt'
       have d0 : W.cell? ⟨B3, 0, none⟩ = some (.slice ka l1 kc) := cell_arr HK5.out rfl
       go_wp2_with fail
       go_loopw [8] (fun v wr => ∃ j : Nat, j <= l1 /\ v = .int .i64 j /\ Hid (P3 w wr (.cells #[.string s, .slice pa pn pc, .int .i64 r, .slice va vn vc, .slice (some ⟨b', o', none⟩) bn bc] 38) vn (plL ((k : Int), -1) (PH.take j) (qlK f k)) (cntL (cntK f k) (PH.take j))) /\ Hid (wr.heap[B3]? = some (.cells #[.slice ka l1 kc, .slice la l2 lc, .int .i64 kd, .int .i64 vl, .slice ma l3 mc, .slice na l4 nc] 46))) (fun v _ => l1 - (intOf v).toNat)
       case atStart => exact ⟨0, by omega, rfl, by simpa [plL, cntL] using HW5, HK5⟩
       case round =>
        clear HW5 HK5 d0
        obtain ⟨j, hj, rfl, HW, HK⟩ := hrel
        have d0 : wr.cell? ⟨B3, 0, none⟩ = some (.slice ka l1 kc) := cell_arr HK.out rfl
        have d1 : wr.cell? ⟨B3, 1, none⟩ = some (.slice la l2 lc) := cell_arr HK.out rfl
        have hlb : B3 < wr.heap.size := (gl HK.out)
        by_cases hjl : j < l1
        ·have hjf : j < PH.length := by have := HL1.out; omega
         obtain ⟨pb, po, rfl, q0⟩ := (HI1.out.below HW.out.low (Nat.le_refl _)).at hjf
         have hwi := HV1.out _ (List.getElem_mem hjf)
         obtain ⟨x, hx⟩ : ∃ x : Nat, PH[j] = (x : Int) := ⟨PH[j].toNat, by simp only [wi, decide_eq_true_eq] at hwi; omega⟩
         rw [hx] at q0 hwi
         have hxf : x < f.vals.length := by simp only [wi, decide_eq_true_eq] at hwi; omega
         have hxv : x < vn := by have := HX.out.ev; omega
         obtain ⟨t1, t2, t3, f1, f2, f3⟩ := HW.out.row.cell hxv
         have hbd := cntL_bd (PH.take j) (cntK f k) (totK f k) HBD.out x
         have HQN : Hid (plL ((k : Int), -1) (PH.take (j + 1)) (qlK f k) = (plL ((k : Int), -1) (PH.take j) (qlK f k)).set x ((k : Int), -1)) := by
          show _ = _
          rw [plL_take _ _ _ hjf, hx, Int.toNat_natCast]
         have HON : Hid (cntL (cntK f k) (PH.take (j + 1)) = (cntL (cntK f k) (PH.take j)).set x ((cntL (cntK f k) (PH.take j)).getD x 0 + 1)) := by
          show _ = _
          rw [cntL_take _ _ hjf, hx, Int.toNat_natCast]
         generalize hc : List.getD (cntL (cntK f k) (PH.take j)) x 0 = c at t3 hbd
         have HCC : Hid (List.getD (cntL (cntK f k) (PH.take j)) x 0 = c) := hc
         have hc1 : 0 <= c := hbd.1
         have h8 : (PH.take j).length <= PH.length := by rw [List.length_take]; omega
         have hc2 : c <= 3000000000 := by have := hbd.2; have := HTT.out; omega
         have HP2 : Hid _ := HW.out.put hxv (k : Int) (-1) (c + 1)
         have hg : w.heap.size + 1 < wr.heap.size := HW.out.row.lt
         have HK2 : Hid ((((wr.setCell ⟨w.heap.size + 1, x * 3, none⟩ (.int .i64 (k : Int))).setCell ⟨w.heap.size + 1, x * 3 + 1, none⟩ (.int .i64 (-1))).setCell ⟨w.heap.size + 1, x * 3 + 2, none⟩ (.int .i64 (c + 1))).heap[B3]? = _) := (heap_set_other (by omega)).trans ((heap_set_other (by omega)).trans ((heap_set_other (by omega)).trans HK.out))
         have S0 : (fun w' : World => w'.cell? ⟨B3, 0, none⟩ = some (.slice (some ⟨pb, po, none⟩) l1 kc) /\ w'.cell? ⟨pb, po + j, none⟩ = some (.int .i64 (x : Int)) /\ w'.cell? ⟨w.heap.size + 1, x * 3 + 2, none⟩ = some (.int .i64 c)) wr.drew := ⟨d0, q0, t3⟩
         clear hx hwi hbd hc
         go_wp2_with fail
         refine led_start (S := fun w' : World => w'.cell? ⟨B3, 0, none⟩ = some (.slice (some ⟨pb, po, none⟩) l1 kc) /\ w'.cell? ⟨pb, po + j, none⟩ = some (.int .i64 (x : Int)) /\ w'.cell? ⟨w.heap.size + 1, x * 3 + 2, none⟩ = some (.int .i64 c)) (z := 19) (by kernel_rfl) ?_
         refine led_n 0 S0 ?_
         refine led_n 1 S0 ?_
         refine led_n 2 S0 ?_
         refine led_n 3 S0 ?_
         refine led_n 4 S0 ?_
         refine led_n 5 S0 ?_
         refine led_n 6 S0 ?_
         refine led_n 7 S0 ?_
         refine led_n 8 S0 ?_
         refine led_n 9 S0 ?_
         refine led_n 10 S0 ?_
         refine led_n 11 S0 ?_
         refine led_n 12 S0 ?_
         refine led_n 13 S0 ?_
         refine led_n 14 S0 ?_
         refine led_n 15 S0 ?_
         refine led_n 16 S0 ?_
         refine led_n 17 S0 ?_
         refine led_one (i := 18) rfl (by kernel_rfl) ?_
         intro K9 hK9
         rw [if_pos (by rfl)]
         go_simp
         refine hK9 _ _ (fun _ => S0) ?_
         clear hK9
         try simp only [Act.put, zi, zz, zs]
         refine led_one (i := 19) rfl (by kernel_rfl) ?_
         intro K3 hK3
         rw [if_pos (by rfl)]
         go_simp
         refine hK3 _ _ (fun h => absurd rfl h) ?_
         clear hK3 S0
         try simp only [Act.put, zi, zz, zs]
         refine led_done (by kernel_rfl) ?_
         go_wp2_with fail
         go_roundw
         case rel => exact ⟨j + 1, by omega, by go_num, by rw [HQN.out, HON.out, HCC.out]; first | exact HP2.out | exact HP2.out.next (Below.refl _ _).drew, HK2.out⟩
         case measure => simp [intOf]; omega
        ·obtain rfl : l1 = j := by omega
         have hW := HW.out
         rw [show PH.take l1 = PH from List.take_of_length_le (by have := HL1.out; omega)] at hW
         have HW6 : Hid _ := hW
         clear HW hW
         go_wp2_with fail
         go_loopw [9] (fun v wr => ∃ j : Nat, j <= l2 /\ v = .int .i64 j /\ Hid (P3 w wr (.cells #[.string s, .slice pa pn pc, .int .i64 r, .slice va vn vc, .slice (some ⟨b', o', none⟩) bn bc] 38) vn (plB (k : Int) BO j (plL ((k : Int), -1) PH (qlK f k))) (cntL (cntL (cntK f k) PH) (BO.take j))) /\ Hid (wr.heap[B3]? = some (.cells #[.slice ka l1 kc, .slice la l2 lc, .int .i64 kd, .int .i64 vl, .slice ma l3 mc, .slice na l4 nc] 46))) (fun v _ => l2 - (intOf v).toNat)
         case atStart => exact ⟨0, by omega, rfl, by simpa [plB, cntL] using HW6, HK⟩
         case round =>
          clear HW6 HK d0 d1 hlb hj hjl
          obtain ⟨j, hj, rfl, HW, HK⟩ := hrel
          have d1 : wr.cell? ⟨B3, 1, none⟩ = some (.slice la l2 lc) := cell_arr HK.out rfl
          have hlb : B3 < wr.heap.size := (gl HK.out)
          by_cases hjl : j < l2
          ·have hjf : j < BO.length := by have := HL2.out; omega
           obtain ⟨pb, po, rfl, q0⟩ := (HI2.out.below HW.out.low (Nat.le_refl _)).at hjf
           have hwi := HV2.out _ (List.getElem_mem hjf)
           obtain ⟨x, hx⟩ : ∃ x : Nat, BO[j] = (x : Int) := ⟨BO[j].toNat, by simp only [wi, decide_eq_true_eq] at hwi; omega⟩
           rw [hx] at q0 hwi
           have hxf : x < f.vals.length := by simp only [wi, decide_eq_true_eq] at hwi; omega
           have hxv : x < vn := by have := HX.out.ev; omega
           obtain ⟨t1, t2, t3, f1, f2, f3⟩ := HW.out.row.cell hxv
           have hbd := cntL_bd (BO.take j) (cntL (cntK f k) PH) (totK f k + PH.length) (cntL_bd PH (cntK f k) (totK f k) HBD.out) x
           have HQN : Hid (plB (k : Int) BO (j + 1) (plL ((k : Int), -1) PH (qlK f k)) = (plB (k : Int) BO j (plL ((k : Int), -1) PH (qlK f k))).set x ((k : Int), (j : Int))) := by
            show _ = _
            rw [plB, show gn BO j = (x : Int) by rw [<- hx]; simp [gn, List.getD_eq_getElem?_getD, hjf], Int.toNat_natCast]
           have HON : Hid (cntL (cntL (cntK f k) PH) (BO.take (j + 1)) = (cntL (cntL (cntK f k) PH) (BO.take j)).set x ((cntL (cntL (cntK f k) PH) (BO.take j)).getD x 0 + 1)) := by
            show _ = _
            rw [cntL_take _ _ hjf, hx, Int.toNat_natCast]
           generalize hc : List.getD (cntL (cntL (cntK f k) PH) (BO.take j)) x 0 = c at t3 hbd
           have HCC : Hid (List.getD (cntL (cntL (cntK f k) PH) (BO.take j)) x 0 = c) := hc
           have hc1 : 0 <= c := hbd.1
           have h8 : (BO.take j).length <= BO.length := by rw [List.length_take]; omega
           have hc2 : c <= 3000000000 := by have := hbd.2; have := HTT.out; omega
           have HP2 : Hid _ := HW.out.put hxv (k : Int) (j : Int) (c + 1)
           have hg : w.heap.size + 1 < wr.heap.size := HW.out.row.lt
           have HK2 : Hid ((((wr.setCell ⟨w.heap.size + 1, x * 3, none⟩ (.int .i64 (k : Int))).setCell ⟨w.heap.size + 1, x * 3 + 1, none⟩ (.int .i64 (j : Int))).setCell ⟨w.heap.size + 1, x * 3 + 2, none⟩ (.int .i64 (c + 1))).heap[B3]? = _) := (heap_set_other (by omega)).trans ((heap_set_other (by omega)).trans ((heap_set_other (by omega)).trans HK.out))
           have S0 : (fun w' : World => w'.cell? ⟨B3, 1, none⟩ = some (.slice (some ⟨pb, po, none⟩) l2 lc) /\ w'.cell? ⟨pb, po + j, none⟩ = some (.int .i64 (x : Int)) /\ w'.cell? ⟨w.heap.size + 1, x * 3 + 2, none⟩ = some (.int .i64 c)) wr.drew := ⟨d1, q0, t3⟩
           clear hx hwi hbd hc
           go_wp2_with fail
           refine led_start (S := fun w' : World => w'.cell? ⟨B3, 1, none⟩ = some (.slice (some ⟨pb, po, none⟩) l2 lc) /\ w'.cell? ⟨pb, po + j, none⟩ = some (.int .i64 (x : Int)) /\ w'.cell? ⟨w.heap.size + 1, x * 3 + 2, none⟩ = some (.int .i64 c)) (z := 20) (by kernel_rfl) ?_
           refine led_n 0 S0 ?_
           refine led_n 1 S0 ?_
           refine led_n 2 S0 ?_
           refine led_n 3 S0 ?_
           refine led_n 4 S0 ?_
           refine led_n 5 S0 ?_
           refine led_n 6 S0 ?_
           refine led_n 7 S0 ?_
           refine led_n 8 S0 ?_
           refine led_n 9 S0 ?_
           refine led_n 10 S0 ?_
           refine led_n 11 S0 ?_
           refine led_n 12 S0 ?_
           refine led_n 13 S0 ?_
           refine led_n 14 S0 ?_
           refine led_n 15 S0 ?_
           refine led_n 16 S0 ?_
           refine led_n 17 S0 ?_
           refine led_n 18 S0 ?_
           refine led_one (i := 19) rfl (by kernel_rfl) ?_
           intro K9 hK9
           rw [if_pos (by rfl)]
           go_simp
           refine hK9 _ _ (fun _ => S0) ?_
           clear hK9
           try simp only [Act.put, zi, zz, zs]
           refine led_one (i := 20) rfl (by kernel_rfl) ?_
           intro K3 hK3
           rw [if_pos (by rfl)]
           go_simp
           refine hK3 _ _ (fun h => absurd rfl h) ?_
           clear hK3 S0
           try simp only [Act.put, zi, zz, zs]
           refine led_done (by kernel_rfl) ?_
           go_wp2_with fail
           go_roundw
           case rel => exact ⟨j + 1, by omega, by go_num, by rw [HQN.out, HON.out, HCC.out]; first | exact HP2.out | exact HP2.out.next (Below.refl _ _).drew, HK2.out⟩
           case measure => simp [intOf]; omega
          ·obtain rfl : l2 = j := by omega
           have hW := HW.out
           rw [show BO.take l2 = BO from List.take_of_length_le (by have := HL2.out; omega)] at hW
           have e1 : plB (k : Int) BO l2 (plL ((k : Int), -1) PH (qlK f k)) = qlK f (k + 1) := by rw [HQK.out, HL2.out]; rfl
           have e2 : cntL (cntL (cntK f k) PH) BO = cntK f (k + 1) := by rw [HOK.out]; rfl
           rw [e1, e2] at hW
           have HW6 : Hid _ := hW
           clear HW hW e1 e2
           go_wp2_with fail
           go_roundw
           case rel => exact ⟨k + 1, by omega, by go_num, HW6⟩
           case measure => simp [intOf]; omega
      ·have hkb : f.blks.length = k := by have := HX.out.eb; omega
       obtain rfl : bn = k := by omega
       go_wp2_with fail
       go_ret
       have hW := HW.out
       refine ⟨_, rfl, ?_, hW.low⟩
       rw [hkb]
       unfold cntAll
       rw [hkb]
       exact hW.row
end Go.Proofs.YtdbkjjelaipcfaaGreatDoor
