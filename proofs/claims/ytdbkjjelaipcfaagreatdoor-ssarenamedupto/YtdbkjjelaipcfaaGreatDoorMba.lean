import Derived.Test.YtdbkjjelaipcfaaGreatDoorMay
import Derived.Test.YtdbkjjelaipcfaaGreatDoorMaz
set_option linter.unusedVariables false
set_option linter.unusedSimpArgs false
namespace Go.Proofs.YtdbkjjelaipcfaaGreatDoor
open Go.ChangeShapes Go.WideShapes Go.ChangeAt Go.RowKit Go.Maps
structure Few9 (f : Fu) : Prop where
 p : f.params.length <= 10000000
 v : f.vals.length <= 10000000
 a : ∀ v ∈ f.vals, v.args.length <= 10000000
 b : f.blks.length <= 10000000
 l : ∀ b ∈ f.blks, b.phis.length <= 10000000 /\ b.body.length <= 10000000 /\ b.ways.length <= 10000000 /\ b.preds.length <= 10000000
theorem info_fn : (Tryz.prog.info? 38).map (fun i => (i.zero, i.size, i.bytes)) = some (some (.agg #[.string ByteArray.empty, .slice none 0 0, .int .i64 0, .slice none 0 0, .slice none 0 0]), 5, 96) := by kernel_rfl
theorem info_bk9 : (Tryz.prog.info? 46).map (fun i => (i.zero, i.size, i.bytes)) = some (some (.agg #[.slice none 0 0, .slice none 0 0, .int .i64 0, .int .i64 0, .slice none 0 0, .slice none 0 0]), 6, 112) := by kernel_rfl
theorem info_vl9 : (Tryz.prog.info? 42).map (fun i => (i.zero, i.size, i.bytes)) = some (some (.agg #[.int .i64 0, .int .i64 0, .int .i64 0, .slice none 0 0]), 4, 48) := by kernel_rfl
theorem box_five {w : World} {gb : Nat} {x0 x1 x2 x3 x4 : Value} (h : w.heap[gb]? = some (.cells #[x0, x1, x2, x3, x4] 38 (0, 0))) (a b c d e : Value) : (((((w.setCell ⟨gb, 0, none⟩ a).setCell ⟨gb, 1, none⟩ b).setCell ⟨gb, 2, none⟩ c).setCell ⟨gb, 3, none⟩ d).setCell ⟨gb, 4, none⟩ e).heap[gb]? = some (.cells #[a, b, c, d, e] 38 (0, 0)) := by
 have h0 := heap_set_at (i := 0) (v := a) h
 have h1 := heap_set_at (i := 1) (v := b) h0
 have h2 := heap_set_at (i := 2) (v := c) h1
 have h3 := heap_set_at (i := 3) (v := d) h2
 have h4 := heap_set_at (i := 4) (v := e) h3
 rw [h4]; rfl
theorem LV2.start {wr W1 wc : World} {A gb s pa pn pc r f} (hk : W1.heap[wr.heap.size]? = some (.cells A 38 (0, 0))) (b1 : Below wr.heap.size wr W1) (hs : W1.heap.size = wr.heap.size + 1) (hb : Below W1.heap.size W1 wc) (hg : W1.heap.size <= gb) (hbox : wc.heap[gb]? = some (.cells #[.string s, .slice pa pn pc, .int .i64 r, .slice none 0 0, .slice none 0 0] 38 (0, 0))) (hp : IM wc W1.heap.size pa pc f.params) : LV2 wr wc A gb s pa pn pc r (.slice none 0 0) [] f 0 :=
 ⟨hbox, (hb.block _ (by omega)).trans hk, by omega, Row.nil _ _ _ _, rfl, fun i h => by simp at h, hp.lower (by omega), b1.trans (hb.mono (by omega))⟩
theorem cells_new9 (w : World) (cs : List Value) (t : TypeId) : ∀ j u, cs[j]? = some u -> (w.alloc (.cells cs.toArray t)).cell? ((⟨w.heap.size, 0, none⟩ : Addr).add j) = some u := by
 intro j u hj
 rw [add_none, Nat.zero_add]
 exact cell_arr (heap_alloc_new _ _) (by simpa using hj)
set_option maxRecDepth 100000 in
set_option maxHeartbeats 60000000 in
theorem lent_any (w : World) {fa : Option Addr} {fn fc : Nat} {mn : Int} {FS : List Fu} (hF : Fus w fa fc FS) (ef : fn = FS.length) (hfn : fn <= 10000000) (hfew : ∀ f ∈ FS, Few9 f) :
 Calls Tryz.prog 9 #[.agg #[.slice fa fn fc, .int .i64 mn]] w fun e w' => ∃ b c, e = .returned (.pointer (some ⟨w.heap.size + 1, 0, none⟩)) /\ LM w' w.heap.size b c FS /\ w'.heap[w.heap.size + 1]? = some (.cells #[.slice (some ⟨b, 0, none⟩) FS.length c, .int .i64 mn] 32 (0, 0)) /\ Below w.heap.size w w' := by
 obtain ⟨W0, hW0⟩ : ∃ W, W = (w.alloc (.cells #[.slice fa fn fc, .int .i64 mn] 24)).alloc (.cells #[.slice none 0 0, .int .i64 0] 32) := ⟨_, rfl⟩
 have HL0 : Hid (LO w W0 fa fn fc mn (.slice none 0 0) [] FS 0) := by
  rw [hW0]
  refine ⟨?_, ?_, Row.nil _ _ _ _, rfl, fun i h => by simp at h, ((Below.refl _ _).alloc (Nat.le_refl _) _).alloc (by simp) _⟩
  ·rw [heap_alloc_old _ _ (by simp)]; exact heap_alloc_new _ _
  ·have := heap_alloc_new (w.alloc (.cells #[.slice fa fn fc, .int .i64 mn] 24)) (.cells #[.slice none 0 0, .int .i64 0] 32)
   simpa using this
 have HF : Hid (Fus w fa fc FS) := hF
 have HEF : Hid (fn = FS.length) := ef
 have HFW : Hid (∀ f ∈ FS, Few9 f) := hfew
 clear hF ef hfew
 go_enter Tryz.func9, Tryz.ntmps9
 go_wp2_with fail
 rw [<- hW0]
 clear hW0
 go_loopw [4] (fun v wr => ∃ (k : Nat) (lv : Value) (xs : List (List Value)), k <= fn /\ v = .int .i64 k /\ Hid (LO w wr fa fn fc mn lv xs FS k)) (fun v _ => fn - (intOf v).toNat)
 case atStart => exact ⟨0, _, _, by omega, rfl, HL0⟩
 case round =>
  clear HL0
  obtain ⟨wo, rfl⟩ : ∃ wo, wo = wr := ⟨_, rfl⟩
  obtain ⟨k, lv, xs, hk, rfl, HO⟩ := hrel
  have k0 : wo.cell? ⟨w.heap.size, 0, none⟩ = some (.slice fa fn fc) := cell_arr HO.out.src rfl
  have hl0 : w.heap.size < wo.heap.size := (gl HO.out.src)
  have hl1 : w.heap.size + 1 < wo.heap.size := (gl HO.out.box)
  by_cases hlt : k < fn
  ·have hkf : k < FS.length := by have := HEF.out; omega
   obtain ⟨b', o', ka, kc, la, lc, ma, mc, rfl, hlt0, d0, d1, d2, d3, d4, j1, j2, j3⟩ := HF.out.at hkf
   have hlw := HO.out.bel
   have c0 := (hlw.cell (p := ⟨b', o' + k * 5, none⟩) hlt0).trans d0
   have c1 := (hlw.cell (p := ⟨b', o' + k * 5 + 1, none⟩) hlt0).trans d1
   have c2 := (hlw.cell (p := ⟨b', o' + k * 5 + 2, none⟩) hlt0).trans d2
   have c3 := (hlw.cell (p := ⟨b', o' + k * 5 + 3, none⟩) hlt0).trans d3
   have c4 := (hlw.cell (p := ⟨b', o' + k * 5 + 4, none⟩) hlt0).trans d4
   have hlt' : b' < wo.heap.size := by have := hlw.size; omega
   have hfw := HFW.out _ (List.getElem_mem hkf)
   obtain ⟨f, hf⟩ : ∃ f, f = FS[k] := ⟨_, rfl⟩
   rw [<- hf] at c0 c1 c2 c3 c4 j1 j2 j3 hfw
   obtain ⟨pn, hpn⟩ : ∃ n, n = f.params.length := ⟨_, rfl⟩
   obtain ⟨vn, hvn⟩ : ∃ n, n = f.vals.length := ⟨_, rfl⟩
   obtain ⟨bn, hbn⟩ : ∃ n, n = f.blks.length := ⟨_, rfl⟩
   obtain ⟨s, hs⟩ : ∃ n, n = f.name := ⟨_, rfl⟩
   obtain ⟨r, hr⟩ : ∃ n, n = f.result := ⟨_, rfl⟩
   rw [<- hs] at c0
   rw [<- hpn] at c1
   rw [<- hr] at c2
   rw [<- hvn] at c3
   rw [<- hbn] at c4
   have hpm : pn <= 10000000 := by have := hfw.p; omega
   have hvm : vn <= 10000000 := by have := hfw.v; omega
   have hbm : bn <= 10000000 := by have := hfw.b; omega
   have HE : Hid (f = FS[k] /\ pn = f.params.length /\ vn = f.vals.length /\ bn = f.blks.length /\ s = f.name /\ r = f.result) := ⟨hf, hpn, hvn, hbn, hs, hr⟩
   have HW9 : Hid (Few9 f) := hfw
   have HJ1 : Hid (Ints w ka kc f.params) := j1
   have HJ2 : Hid (Vls w la lc f.vals) := j2
   have HJ3 : Hid (Bks w ma mc f.blks) := j3
   have hlac : vn <= lc := by have := j2.le; omega
   have hlcm : lc <= 9223372036854775807 := j2.mx
   have hmac : bn <= mc := by have := j3.le; omega
   have hmcm : mc <= 9223372036854775807 := j3.mx
   have hkap : pn <= kc := by have := j1.le; omega
   have hkcm : kc <= 9223372036854775807 := j1.mx
   obtain ⟨AA, hAA⟩ : ∃ A : Array Value, A = #[.string s, .slice ka pn kc, .int .i64 r, .slice la vn lc, .slice ma bn mc] := ⟨_, rfl⟩
   have HAA : Hid (AA = #[.string s, .slice ka pn kc, .int .i64 r, .slice la vn lc, .slice ma bn mc]) := hAA
   clear hAA
   obtain ⟨W1, hW1⟩ : ∃ W, W = wo.alloc (.cells #[.string s, .slice ka pn kc, .int .i64 r, .slice la vn lc, .slice ma bn mc] 38) := ⟨_, rfl⟩
   obtain ⟨B3, hB3⟩ : ∃ B, B = wo.heap.size := ⟨_, rfl⟩
   have b1 : Below wo.heap.size wo W1 := by rw [hW1]; exact below_new _ _
   have HB1 : Hid (Below wo.heap.size wo W1) := b1
   have HK1 : Hid (W1.heap[B3]? = some (.cells #[.string s, .slice ka pn kc, .int .i64 r, .slice la vn lc, .slice ma bn mc] 38 (0, 0))) := by rw [hW1, hB3]; exact heap_alloc_new wo _
   have HS1 : Hid (W1.heap.size = wo.heap.size + 1) := by rw [hW1]; show _ = _; simp
   have HBE : Hid (B3 = wo.heap.size) := hB3
   have HRM : Hid (∀ w', Below W1.heap.size W1 w' -> Calls Tryz.prog 17 #[.slice ka pn kc] w' fun e w'' => ∃ xa xc, e = .returned (.slice xa pn xc) /\ IM w'' w'.heap.size xa xc f.params /\ Below w'.heap.size w' w'') := fun w' hb => room_any w' ((HJ1.out.below (HO.out.bel.trans (HB1.out.mono (by have := HO.out.bel.size; omega))) (Nat.le_refl _)).below (hb.mono (by have := HO.out.bel.size; have := HB1.out.size; omega)) (Nat.le_refl _)) HE.out.2.1 hpm
   have HSS : Hid (∀ w', Below W1.heap.size W1 w' -> (fun w' : World => w'.cell? ⟨B3, 0, none⟩ = some (.string s) /\ w'.cell? ⟨B3, 2, none⟩ = some (.int .i64 r) /\ w'.cell? ⟨B3, 1, none⟩ = some (.slice ka pn kc)) w') := fun w' hb => by
    have := (hb.block B3 (by have := HS1.out; have := HBE.out; omega)).trans HK1.out
    exact ⟨cell_arr this rfl, cell_arr this rfl, cell_arr this rfl⟩
   have S0 : (fun w' : World => w'.cell? ⟨B3, 0, none⟩ = some (.string s) /\ w'.cell? ⟨B3, 2, none⟩ = some (.int .i64 r) /\ w'.cell? ⟨B3, 1, none⟩ = some (.slice ka pn kc)) W1.drew := HSS.out _ (Below.refl _ _).drew
   clear hf hpn hvn hbn hs hr hfw j1 j2 j3 d0 d1 d2 d3 d4 hlw
   go_wp2_with fail
   rw [<- hW1]
   rw [<- hB3]
   clear hW1 hB3 b1 c0 c1 c2 c3 c4 k0
   go_cut [6] from 25 to 32 (fun gv wc => ∃ (gb : Nat) (pa : Option Addr) (pc : Nat), gv = .pointer (some ⟨gb, 0, none⟩) /\ Hid (LV2 wo wc AA gb s pa pn pc r (.slice none 0 0) [] f 0))
   case first =>
    refine led_start (S := fun w' : World => w'.cell? ⟨B3, 0, none⟩ = some (.string s) /\ w'.cell? ⟨B3, 2, none⟩ = some (.int .i64 r) /\ w'.cell? ⟨B3, 1, none⟩ = some (.slice ka pn kc)) (z := 100) (by kernel_rfl) ?_
    show led _ _ _ _ _ 10 _ _ _
    refine led_nF 0 S0 ?_
    refine led_nF 1 S0 ?_
    refine led_nF 2 S0 ?_
    refine led_nF 3 S0 ?_
    refine led_nF 4 S0 ?_
    refine led_nF 5 S0 ?_
    refine led_two (i := 6) (j := 8) rfl rfl (by kernel_rfl) ?_ ?_
    ·intro K6 hK6
     rw [if_pos (by rfl)]
     go_simp
     refine (HRM.out W1.drew (Below.refl _ _).drew).mono ?_
     rintro e w2 ⟨xa, xc, rfl, hM, hb2⟩
     have hb12 : Below W1.heap.size W1 w2 := ((Below.refl W1.heap.size W1).drew).trans hb2
     have SA := HSS.out w2 hb12
     refine hK6 _ _ (fun _ => SA) ?_
     clear hK6
     try simp only [Act.put, zi, zz, zs]
     refine led_nF 7 SA ?_
     refine led_one (i := 8) rfl (by kernel_rfl) ?_
     intro K8 hK8
     rw [if_pos (by rfl)]
     go_simp
     have hb13 : Below W1.heap.size W1 (w2.alloc (.cells #[.string ⟨#[]⟩, .slice none 0 0, .int .i64 0, .slice none 0 0, .slice none 0 0] 38)) := hb12.alloc hb12.size _
     have SB := HSS.out _ hb13
     refine hK8 _ _ (fun _ => SB) ?_
     clear hK8
     try simp only [Act.put, zi, zz, zs]
     have hb14 : Below W1.heap.size W1 (w2.alloc (.cells #[.string s, .slice xa pn xc, .int .i64 r, .slice none 0 0, .slice none 0 0] 38)) := hb12.alloc hb12.size _
     have SC := HSS.out _ hb14
     have HVV : Hid (LV2 wo (w2.alloc (.cells #[.string s, .slice xa pn xc, .int .i64 r, .slice none 0 0, .slice none 0 0] 38)) AA w2.heap.size s xa pn xc r (.slice none 0 0) [] f 0) := LV2.start (by rw [<- HBE.out, HAA.out]; exact HK1.out) HB1.out HS1.out hb14 hb12.size (heap_alloc_new _ _) (hM.below (below_new _ _))
     refine led_one (i := 9) rfl (by kernel_rfl) ?_
     intro K9 hK9
     rw [if_pos (by rfl)]
     go_simp
     refine hK9 _ _ (fun _ => SC) ?_
     clear hK9 SA SB SC S0 hM hb2 hb12 hb13 hb14
     try simp only [Act.put, zi, zz, zs]
     refine led_done (by kernel_rfl) ?_
     go_wp2_with fail
     go_meet
     case rel => exact ⟨_, _, _, rfl, HVV⟩
    ·intro K8 hK8
     rw [if_pos (by rfl)]
     go_simp
     obtain ⟨WZ, hWZ⟩ : ∃ W, W = (W1.alloc (.cells #[.string ⟨#[]⟩, .slice none 0 0, .int .i64 0, .slice none 0 0, .slice none 0 0] 38)).drew := ⟨_, rfl⟩
     have hbz : Below W1.heap.size W1 WZ := by rw [hWZ]; exact ((Below.refl _ _).alloc (Nat.le_refl _) _).drew
     have hkz : WZ.heap[W1.heap.size]? = some (.cells #[.string ⟨#[]⟩, .slice none 0 0, .int .i64 0, .slice none 0 0, .slice none 0 0] 38) := by rw [hWZ]; exact heap_alloc_new W1 _
     have SA := HSS.out WZ hbz
     rw [<- hWZ]
     refine hK8 _ _ (fun _ => SA) ?_
     clear hK8 hWZ
     try simp only [Act.put, zi, zz, zs]
     refine led_one (i := 6) rfl (by kernel_rfl) ?_
     intro K6 hK6
     rw [if_pos (by rfl)]
     go_simp
     refine (HRM.out WZ hbz).mono ?_
     rintro e w2 ⟨xa, xc, rfl, hM, hb2⟩
     have hb12 : Below W1.heap.size W1 w2 := hbz.trans (hb2.mono hbz.size)
     have hk2 : w2.heap[W1.heap.size]? = some (.cells #[.string ⟨#[]⟩, .slice none 0 0, .int .i64 0, .slice none 0 0, .slice none 0 0] 38) := (hb2.block _ (gl hkz)).trans hkz
     have SB := HSS.out w2 hb12
     refine hK6 _ _ (fun _ => SB) ?_
     clear hK6
     try simp only [Act.put, zi, zz, zs]
     refine led_one (i := 7) rfl (by kernel_rfl) ?_
     intro K7 hK7
     rw [if_pos (by rfl)]
     go_simp
     refine hK7 _ _ (fun _ => SB) ?_
     clear hK7
     try simp only [Act.put, zi, zz, zs]
     obtain ⟨GB, hGB⟩ : ∃ G, G = W1.heap.size := ⟨_, rfl⟩
     rw [<- hGB] at hk2
     obtain ⟨wz, hwz⟩ : ∃ W, W = ((((w2.setCell ⟨GB, 0, none⟩ (.string s)).setCell ⟨GB, 1, none⟩ (.slice xa pn xc)).setCell ⟨GB, 2, none⟩ (.int .i64 r)).setCell ⟨GB, 3, none⟩ (.slice none 0 0)).setCell ⟨GB, 4, none⟩ (.slice none 0 0) := ⟨_, rfl⟩
     have hbw : Below W1.heap.size W1 wz := by
      rw [hwz]
      have hg : W1.heap.size <= GB := by omega
      exact ((((hb12.setCell hg _).setCell hg _).setCell hg _).setCell hg _).setCell hg _
     have hbx := box_five hk2 (.string s) (.slice xa pn xc) (.int .i64 r) (.slice none 0 0) (.slice none 0 0)
     rw [<- hwz] at hbx
     have HVV : Hid (LV2 wo wz AA GB s xa pn xc r (.slice none 0 0) [] f 0) := LV2.start (by rw [<- HBE.out, HAA.out]; exact HK1.out) HB1.out HS1.out hbw (by omega) hbx (by
      refine (hM.lower hbz.size).move fun b cs hb e => ?_
      have hne : b ≠ GB := blk_type e hk2 (by decide)
      rw [hwz, heap_set_other hne, heap_set_other hne, heap_set_other hne, heap_set_other hne, heap_set_other hne])
     have SC := HSS.out wz hbw
     have q0 : w2.cell? ⟨GB, 0, none⟩ = some (.string ⟨#[]⟩) := cell_arr hk2 rfl
     have q1 : w2.cell? ⟨GB, 1, none⟩ = some (.slice none 0 0) := cell_arr hk2 rfl
     have q2 : w2.cell? ⟨GB, 2, none⟩ = some (.int .i64 0) := cell_arr hk2 rfl
     have q3 : w2.cell? ⟨GB, 3, none⟩ = some (.slice none 0 0) := cell_arr hk2 rfl
     have q4 : w2.cell? ⟨GB, 4, none⟩ = some (.slice none 0 0) := cell_arr hk2 rfl
     have z0 : w2.frozen? ⟨GB, 0, none⟩ = false := fz_of hk2
     have z1 : w2.frozen? ⟨GB, 1, none⟩ = false := fz_of hk2
     have z2 : w2.frozen? ⟨GB, 2, none⟩ = false := fz_of hk2
     have z3 : w2.frozen? ⟨GB, 3, none⟩ = false := fz_of hk2
     have z4 : w2.frozen? ⟨GB, 4, none⟩ = false := fz_of hk2
     refine led_one (i := 9) rfl (by kernel_rfl) ?_
     intro K9 hK9
     rw [if_pos (by rfl)]
     rw [<- hGB]
     have HWZ : Hid _ := hwz
     clear hGB hwz hb12 hbz hb2 hbw hM
     go_simp
     rw [<- HWZ.out]
     refine hK9 _ _ (fun _ => SC) ?_
     clear hK9 SA SB SC S0 hkz hk2 hbx HWZ q0 q1 q2 q3 q4 z0 z1 z2 z3 z4
     try simp only [Act.put, zi, zz, zs]
     refine led_done (by kernel_rfl) ?_
     go_wp2_with fail
     go_meet
     case rel => exact ⟨_, _, _, rfl, HVV⟩
   case rest =>
    obtain ⟨gb, pa, pc, rfl, HV⟩ := hcut
    clear S0 HSS HRM
    go_wp2_with fail
    go_loopw [7] (fun v wq => ∃ (j : Nat) (vv : Value) (ys : List (List Value)), j <= vn /\ v = .int .i64 j /\ Hid (LV2 wo wq AA gb s pa pn pc r vv ys f j)) (fun v _ => vn - (intOf v).toNat)
    case atStart => exact ⟨0, _, _, by omega, rfl, HV⟩
    case round =>
     clear HV
     obtain ⟨wq, rfl⟩ : ∃ wq, wq = wr := ⟨_, rfl⟩
     obtain ⟨j, vv, ys, hj, rfl, HV⟩ := hrel
     have kq : wq.cell? ⟨B3, 3, none⟩ = some (.slice la vn lc) := cell_arr (by rw [HBE.out]; exact HV.out.src) (by rw [HAA.out]; rfl)
     have hB3l : B3 < wq.heap.size := by rw [HBE.out]; exact (gl HV.out.src)
     have hgl : gb < wq.heap.size := (gl HV.out.box)
     have hBW : Below w.heap.size w wq := HO.out.bel.trans (HV.out.bel.mono HO.out.bel.size)
     have HBW : Hid (Below w.heap.size w wq) := hBW
     by_cases hjv : j < vn
     ·have hjf : j < f.vals.length := by have := HE.out.2.2.1; omega
      obtain ⟨bv, ov, aa, ac, rfl, hlv, r0, r1, r2, r3, ri⟩ := HJ2.out.at4 hjf
      have p0 := (hBW.cell (p := ⟨bv, ov + j * 4, none⟩) hlv).trans r0
      have p1 := (hBW.cell (p := ⟨bv, ov + j * 4 + 1, none⟩) hlv).trans r1
      have p2 := (hBW.cell (p := ⟨bv, ov + j * 4 + 2, none⟩) hlv).trans r2
      have p3 := (hBW.cell (p := ⟨bv, ov + j * 4 + 3, none⟩) hlv).trans r3
      have hbvl : bv < wq.heap.size := by have := hBW.size; omega
      have hal9 := HW9.out.a _ (List.getElem_mem hjf)
      obtain ⟨op, hop⟩ : ∃ x, x = f.vals[j].op := ⟨_, rfl⟩
      obtain ⟨ty, hty⟩ : ∃ x, x = f.vals[j].ty := ⟨_, rfl⟩
      obtain ⟨imm, him⟩ : ∃ x, x = f.vals[j].imm := ⟨_, rfl⟩
      obtain ⟨al, hal⟩ : ∃ x, x = f.vals[j].args.length := ⟨_, rfl⟩
      rw [<- hop] at p0
      rw [<- hty] at p1
      rw [<- him] at p2
      rw [<- hal] at p3 hal9
      have hacl : al <= ac := by have := ri.le; omega
      have hacm : ac <= 9223372036854775807 := ri.mx
      obtain ⟨W2, hW2⟩ : ∃ W, W = wq.alloc (.cells #[.int .i64 op, .int .i64 ty, .int .i64 imm, .slice aa al ac] 42) := ⟨_, rfl⟩
      obtain ⟨VB, hVB⟩ : ∃ B, B = wq.heap.size := ⟨_, rfl⟩
      have b2 : Below wq.heap.size wq W2 := by rw [hW2]; exact below_new _ _
      have hs2 : W2.heap.size = wq.heap.size + 1 := by rw [hW2]; simp
      have hk2 : W2.heap[VB]? = some (.cells #[.int .i64 op, .int .i64 ty, .int .i64 imm, .slice aa al ac] 42) := by rw [hW2, hVB]; exact heap_alloc_new wq _
      have HV2 : Hid (LV2 wo W2 AA gb s pa pn pc r vv ys f j) := HV.out.keep b2
      have HRM : Hid (∀ w', Below W2.heap.size W2 w' -> Calls Tryz.prog 17 #[.slice aa al ac] w' fun e w'' => ∃ xa xc, e = .returned (.slice xa al xc) /\ IM w'' w'.heap.size xa xc f.vals[j].args /\ Below w'.heap.size w' w'') := fun w' hb => room_any w' ((ri.below (hBW.trans (b2.mono hBW.size)) (Nat.le_refl _)).below (hb.mono (by have := hBW.size; have := b2.size; omega)) (Nat.le_refl _)) hal hal9
      have hS : ∀ w', Below W2.heap.size W2 w' -> (fun w' : World => w'.cell? ⟨gb, 3, none⟩ = some vv /\ w'.cell? ⟨VB, 0, none⟩ = some (.int .i64 op) /\ w'.cell? ⟨VB, 1, none⟩ = some (.int .i64 ty) /\ w'.cell? ⟨VB, 2, none⟩ = some (.int .i64 imm) /\ w'.cell? ⟨VB, 3, none⟩ = some (.slice aa al ac)) w' := fun w' hb => by
       have e1 := (hb.block gb (by omega)).trans HV2.out.box
       have e2 := (hb.block VB (by omega)).trans hk2
       exact ⟨cell_arr e1 rfl, cell_arr e2 rfl, cell_arr e2 rfl, cell_arr e2 rfl, cell_arr e2 rfl⟩
      have HSS : Hid (∀ w', Below W2.heap.size W2 w' -> (fun w' : World => w'.cell? ⟨gb, 3, none⟩ = some vv /\ w'.cell? ⟨VB, 0, none⟩ = some (.int .i64 op) /\ w'.cell? ⟨VB, 1, none⟩ = some (.int .i64 ty) /\ w'.cell? ⟨VB, 2, none⟩ = some (.int .i64 imm) /\ w'.cell? ⟨VB, 3, none⟩ = some (.slice aa al ac)) w') := hS
      have HPT : Hid (∀ (w3 : World) (xa : Option Addr) (xc : Nat), Below W2.heap.size W2 w3 -> IM w3 W2.drew.heap.size xa xc f.vals[j].args -> ∀ v5 w5, Row w5 wo.heap.size 42 4 v5 (ys ++ [[.int .i64 op, .int .i64 ty, .int .i64 imm, .slice xa al xc]]) -> GI wo.heap.size (w3.alloc (.cells #[.int .i64 op, .int .i64 ty, .int .i64 imm, .slice xa al xc] 42)) w5 vv v5 -> LV2 wo (w5.setCell ⟨gb, 3, none⟩ v5) AA gb s pa pn pc r v5 (ys ++ [[.int .i64 op, .int .i64 ty, .int .i64 imm, .slice xa al xc]]) f (j + 1) /\ (fun w' : World => w'.cell? ⟨gb, 3, none⟩ = some vv /\ w'.cell? ⟨VB, 0, none⟩ = some (.int .i64 op) /\ w'.cell? ⟨VB, 1, none⟩ = some (.int .i64 ty) /\ w'.cell? ⟨VB, 2, none⟩ = some (.int .i64 imm) /\ w'.cell? ⟨VB, 3, none⟩ = some (.slice aa al ac)) w5 /\ w5.frozen? ⟨gb, 3, none⟩ = false) := by
       intro w3 xa xc hb hM v5 w5 h5 g5
       have hb4 : Below W2.heap.size W2 (w3.alloc (.cells #[.int .i64 op, .int .i64 ty, .int .i64 imm, .slice xa al xc] 42)) := hb.alloc hb.size _
       have h4 := HV2.out.keep hb4
       have hE : VE (w3.alloc (.cells #[.int .i64 op, .int .i64 ty, .int .i64 imm, .slice xa al xc] 42)) wo.heap.size [.int .i64 op, .int .i64 ty, .int .i64 imm, .slice xa al xc] f.vals[j] := ⟨xa, xc, by rw [hop, hty, him, hal], (hM.below (below_new _ _)).lower (by have := HV2.out.bel.size; simpa using this)⟩
       have kb5 : w5.heap[gb]? = _ := (g5.blk gb (gl h4.box) (own_not h4.row.out h4.box (by decide))).trans h4.box
       have kv5 : w5.heap[VB]? = some (.cells #[.int .i64 op, .int .i64 ty, .int .i64 imm, .slice aa al ac] 42) := by
        have e2 := (hb4.block VB (by omega)).trans hk2
        refine (g5.blk VB (gl e2) fun q => ?_).trans e2
        have := (own_block HV.out.row.out q).2
        omega
       exact ⟨h4.more hjf h5 g5 hE, ⟨cell_arr kb5 rfl, cell_arr kv5 rfl, cell_arr kv5 rfl, cell_arr kv5 rfl, cell_arr kv5 rfl⟩, fz_of kb5⟩
      have S0 : (fun w' : World => w'.cell? ⟨gb, 3, none⟩ = some vv /\ w'.cell? ⟨VB, 0, none⟩ = some (.int .i64 op) /\ w'.cell? ⟨VB, 1, none⟩ = some (.int .i64 ty) /\ w'.cell? ⟨VB, 2, none⟩ = some (.int .i64 imm) /\ w'.cell? ⟨VB, 3, none⟩ = some (.slice aa al ac)) W2.drew := hS _ (Below.refl _ _).drew
      clear hS hk2 hs2 b2 hop hty him hal hBW r0 r1 r2 r3 ri
      go_wp2_with fail
      rw [<- hW2]
      rw [<- hVB]
      clear hW2 hVB p0 p1 p2 p3 kq
      refine led_start (S := fun w' : World => w'.cell? ⟨gb, 3, none⟩ = some vv /\ w'.cell? ⟨VB, 0, none⟩ = some (.int .i64 op) /\ w'.cell? ⟨VB, 1, none⟩ = some (.int .i64 ty) /\ w'.cell? ⟨VB, 2, none⟩ = some (.int .i64 imm) /\ w'.cell? ⟨VB, 3, none⟩ = some (.slice aa al ac)) (z := 15) (by kernel_rfl) ?_
      refine led_n 0 S0 ?_
      refine led_n 1 S0 ?_
      refine led_n 2 S0 ?_
      refine led_n 3 S0 ?_
      refine led_n 4 S0 ?_
      refine led_n 5 S0 ?_
      refine led_n 6 S0 ?_
      refine led_n 7 S0 ?_
      refine led_n 8 S0 ?_
      refine led_n 9 S0 ?_
      refine led_one (i := 10) rfl (by kernel_rfl) ?_
      intro K10 hK10
      rw [if_pos (by rfl)]
      go_simp
      refine (HRM.out W2.drew (Below.refl _ _).drew).mono ?_
      rintro e w3 ⟨xa, xc, rfl, hM, hb3⟩
      have hb23 : Below W2.heap.size W2 w3 := ((Below.refl W2.heap.size W2).drew).trans hb3
      have SA := HSS.out w3 hb23
      refine hK10 _ _ (fun _ => SA) ?_
      clear hK10
      try simp only [Act.put, zi, zz, zs]
      refine led_one (i := 11) rfl (by kernel_rfl) ?_
      intro K11 hK11
      rw [if_pos (by rfl)]
      go_simp
      refine hK11 _ _ (fun _ => SA) ?_
      clear hK11
      try simp only [Act.put, zi, zz, zs]
      refine led_one (i := 12) rfl (by kernel_rfl) ?_
      intro K12 hK12
      rw [if_pos (by rfl)]
      go_simp
      have hb24 : Below W2.heap.size W2 (w3.alloc (.cells #[.int .i64 op, .int .i64 ty, .int .i64 imm, .slice xa al xc] 42)) := hb23.alloc hb23.size _
      have SB := HSS.out _ hb24
      refine hK12 _ _ (fun _ => SB) ?_
      clear hK12
      try simp only [Act.put, zi, zz, zs]
      have HRW : Hid (Row (w3.alloc (.cells #[.int .i64 op, .int .i64 ty, .int .i64 imm, .slice xa al xc] 42)) wo.heap.size 42 4 vv ys) := HV2.out.row.keep hb24
      have HP3 : Hid _ := HPT.out w3 xa xc hb23 hM
      have hsz4 : wo.heap.size <= (w3.alloc (.cells #[.int .i64 op, .int .i64 ty, .int .i64 imm, .slice xa al xc] 42)).heap.size := by have := HV2.out.bel.size; have := hb24.size; omega
      refine led_one (i := 13) rfl (by kernel_rfl) ?_
      intro K13 hK13
      refine step_append_row rfl _ _ 35 42 4 _ 48 rfl Tryz.underlying35 info_vl9 rfl (by decide) (by decide) wo.heap.size vv ys (by simp [Act.eval]) HRW.out w3.heap.size (by simp [Act.eval]) [.int .i64 op, .int .i64 ty, .int .i64 imm, .slice xa al xc] rfl (cells_new9 w3 [.int .i64 op, .int .i64 ty, .int .i64 imm, .slice xa al xc] _) (fun u hu => by simp at hu; rcases hu with rfl | rfl | rfl | rfl <;> rfl) (by have := HV2.out.len; omega) hsz4 ?_
      intro v5 w5 h5 g5
      obtain ⟨a5, c5, e5, _, _⟩ := own_slice h5.out
      obtain ⟨n5, hn5⟩ : ∃ n, n = (ys ++ [([.int .i64 op, .int .i64 ty, .int .i64 imm, .slice xa al xc] : List Value)]).length := ⟨_, rfl⟩
      rw [<- hn5] at e5
      clear hn5
      subst e5
      have N := HP3.out _ w5 h5 g5
      have N1 : Hid _ := N.1
      have SC := N.2.1
      have fz5 := N.2.2
      have k5 := SC.1
      refine hK13 _ _ (fun _ => SC) ?_
      clear hK13 N
      try simp only [Act.put, zi, zz, zs]
      refine led_one (i := 14) rfl (by kernel_rfl) ?_
      intro K14 hK14
      rw [if_pos (by rfl)]
      go_simp
      refine hK14 _ _ (fun _ => SC) ?_
      clear hK14
      try simp only [Act.put, zi, zz, zs]
      refine led_one (i := 15) rfl (by kernel_rfl) ?_
      intro K15 hK15
      rw [if_pos (by rfl)]
      go_simp
      refine hK15 _ _ (fun h => absurd rfl h) ?_
      clear hK15 S0 SA SB SC fz5 k5 h5 g5 hM hb3 hb23 hb24 HP3 HRW
      refine led_done (by kernel_rfl) ?_
      go_wp2_with fail
      go_roundw
      case rel => exact ⟨j + 1, _, _, by omega, by go_num, N1.out⟩
      case measure => simp [intOf]; omega
     ·have hjv2 : j = vn := by omega
      have hsl : (vn : Int) <= (lc : Int) := by omega
      have b9 : Below wq.heap.size wq (wq.alloc (.cells #[.int .i64 (-71), .int .i64 0, .int .i64 0, .slice none 0 0] 42)).drew := (below_new wq _).drew
      have hS : ∀ w', Below wq.heap.size wq w' -> (fun w' : World => w'.cell? ⟨gb, 3, none⟩ = some vv /\ w'.cell? ⟨B3, 3, none⟩ = some (.slice la vn lc)) w' := fun w' hb => by
       have e1 := (hb.block gb (by omega)).trans HV.out.box
       have e2 := (hb.block B3 (by omega)).trans (show wq.heap[B3]? = some (.cells AA 38 (0, 0)) by rw [HBE.out]; exact HV.out.src)
       exact ⟨cell_arr e1 rfl, cell_arr e2 (by rw [HAA.out]; rfl)⟩
      have HSB : Hid ((fun w' : World => w'.cell? ⟨gb, 3, none⟩ = some vv /\ w'.cell? ⟨B3, 3, none⟩ = some (.slice la vn lc)) (wq.alloc (.cells #[.int .i64 (-71), .int .i64 0, .int .i64 0, .slice none 0 0] 42)).drew) := hS _ b9
      have HRW : Hid (Row (wq.alloc (.cells #[.int .i64 (-71), .int .i64 0, .int .i64 0, .slice none 0 0] 42)).drew wo.heap.size 42 4 vv ys) := HV.out.row.keep b9
      have HNC : Hid (∀ j u, ([.int .i64 (-71), .int .i64 0, .int .i64 0, .slice none 0 0] : List Value)[j]? = some u -> (wq.alloc (.cells #[.int .i64 (-71), .int .i64 0, .int .i64 0, .slice none 0 0] 42)).drew.cell? ((⟨wq.heap.size, 0, none⟩ : Addr).add j) = some u) := fun j u hu => cells_new9 wq [.int .i64 (-71), .int .i64 0, .int .i64 0, .slice none 0 0] _ j u hu
      have hsz4 : wo.heap.size <= (wq.alloc (.cells #[.int .i64 (-71), .int .i64 0, .int .i64 0, .slice none 0 0] 42)).drew.heap.size := by have := HV.out.bel.size; have := b9.size; omega
      have HPT : Hid (∀ v5 w5, Row w5 wo.heap.size 42 4 v5 (ys ++ [[.int .i64 (-71), .int .i64 0, .int .i64 0, .slice none 0 0]]) -> GI wo.heap.size (wq.alloc (.cells #[.int .i64 (-71), .int .i64 0, .int .i64 0, .slice none 0 0] 42)).drew w5 vv v5 -> ∃ vb vc, v5 = .slice (some ⟨vb, 0, none⟩) (vn + 1) vc /\ vn + 1 <= vc /\ vc <= 9223372036854775807 /\ LB2 wo (w5.setCell ⟨gb, 3, none⟩ (.slice (some ⟨vb, 0, none⟩) vn vc)) AA gb s pa pn pc r vb vn vc (.slice none 0 0) [] f 0 /\ (fun w' : World => w'.cell? ⟨gb, 3, none⟩ = some vv /\ w'.cell? ⟨B3, 3, none⟩ = some (.slice la vn lc)) w5 /\ w5.frozen? ⟨gb, 3, none⟩ = false) := by
       intro v5 w5 h5 g5
       have h4 := HV.out.keep b9
       have evn := HE.out.2.2.1
       have h4' : LV2 wo (wq.alloc (.cells #[.int .i64 (-71), .int .i64 0, .int .i64 0, .slice none 0 0] 42)).drew AA gb s pa pn pc r vv ys f f.vals.length := by rw [<- evn, <- hjv2]; exact h4
       obtain ⟨vb, vc, e, q1, q2, q3⟩ := h4'.done h5 g5
       rw [<- evn] at e q1 q3
       have kb5 : w5.heap[gb]? = _ := (g5.blk gb (gl h4.box) (own_not h4.row.out h4.box (by decide))).trans h4.box
       have ks5 : w5.heap[B3]? = some (.cells AA 38 (0, 0)) := by rw [HBE.out]; exact (g5.blk _ (gl h4.src) (own_not h4.row.out h4.src (by decide))).trans h4.src
       exact ⟨vb, vc, e, q1, q2, q3, ⟨cell_arr kb5 rfl, cell_arr ks5 (by rw [HAA.out]; rfl)⟩, fz_of kb5⟩
      have S0 : (fun w' : World => w'.cell? ⟨gb, 3, none⟩ = some vv /\ w'.cell? ⟨B3, 3, none⟩ = some (.slice la vn lc)) wq.drew := hS _ (Below.refl _ _).drew
      clear hS b9 hBW
      go_wp2_with fail
      clear kq
      refine led_start (S := fun w' : World => w'.cell? ⟨gb, 3, none⟩ = some vv /\ w'.cell? ⟨B3, 3, none⟩ = some (.slice la vn lc)) (z := 10) (by kernel_rfl) ?_
      refine led_n 0 S0 ?_
      refine led_n 1 S0 ?_
      refine led_n 2 S0 ?_
      refine led_n 5 S0 ?_
      refine led_n 6 S0 ?_
      refine led_n 7 S0 ?_
      refine led_one (i := 3) rfl (by kernel_rfl) ?_
      intro K3 hK3
      rw [if_pos (by rfl)]
      go_simp
      have SB := HSB.out
      refine hK3 _ _ (fun _ => SB) ?_
      clear hK3
      try simp only [Act.put, zi, zz, zs]
      refine led_one (i := 4) rfl (by kernel_rfl) ?_
      intro K4 hK4
      refine step_append_row rfl _ _ 35 42 4 _ 48 rfl Tryz.underlying35 info_vl9 rfl (by decide) (by decide) wo.heap.size vv ys (by simp [Act.eval]) HRW.out wq.heap.size (by simp [Act.eval]) [.int .i64 (-71), .int .i64 0, .int .i64 0, .slice none 0 0] rfl (HNC.out) (fun u hu => by simp at hu; rcases hu with rfl | rfl | rfl | rfl <;> rfl) (by have := HV.out.len; omega) hsz4 ?_
      intro v5 w5 h5 g5
      obtain ⟨nb5, nc5, e5, hn51, hn52, N⟩ := HPT.out v5 w5 h5 g5
      subst e5
      have N1 : Hid _ := N.1
      have SC := N.2.1
      have fz5 := N.2.2
      have k5 := SC.1
      refine hK4 _ _ (fun _ => SC) ?_
      clear hK4 N
      try simp only [Act.put, zi, zz, zs]
      have hsa : vn <= nc5 := by omega
      have hsb : (vn : Int) <= (nc5 : Int) := by omega
      refine led_one (i := 8) rfl (by kernel_rfl) ?_
      intro K8 hK8
      rw [if_pos (by rfl)]
      go_simp
      refine hK8 _ _ (fun _ => SC) ?_
      clear hK8
      try simp only [Act.put, zi, zz, zs]
      refine led_one (i := 9) rfl (by kernel_rfl) ?_
      intro K9 hK9
      rw [if_pos (by rfl)]
      go_simp
      refine hK9 _ _ (fun _ => SC) ?_
      clear hK9
      try simp only [Act.put, zi, zz, zs]
      refine led_one (i := 10) rfl (by kernel_rfl) ?_
      intro K10 hK10
      rw [if_pos (by rfl)]
      go_simp
      refine hK10 _ _ (fun h => absurd rfl h) ?_
      clear hK10 S0 SB SC fz5 k5 h5 g5 HPT HRW HNC HSB
      refine led_done (by kernel_rfl) ?_
      clear HV
      go_wp2_with fail
      go_loopw [9] (fun v wq => ∃ (i : Nat) (bv : Value) (zs : List (List Value)), i <= bn /\ v = .int .i64 i /\ Hid (LB2 wo wq AA gb s pa pn pc r nb5 vn nc5 bv zs f i)) (fun v _ => bn - (intOf v).toNat)
      case atStart => exact ⟨0, _, _, by omega, rfl, N1⟩
      case round =>
       clear N1 HBW
       obtain ⟨wq, rfl⟩ : ∃ wq, wq = wr := ⟨_, rfl⟩
       obtain ⟨i, bv, zs, hi, rfl, HV⟩ := hrel
       have kq : wq.cell? ⟨B3, 4, none⟩ = some (.slice ma bn mc) := cell_arr (by rw [HBE.out]; exact HV.out.src) (by rw [HAA.out]; rfl)
       have hB3l : B3 < wq.heap.size := by rw [HBE.out]; exact (gl HV.out.src)
       have hgl : gb < wq.heap.size := (gl HV.out.box)
       have hBW : Below w.heap.size w wq := HO.out.bel.trans (HV.out.bel.mono HO.out.bel.size)
       by_cases hib : i < bn
       ·have hif : i < f.blks.length := by have := HE.out.2.2.2.1; omega
        obtain ⟨xb, xo, k1a, k1c, k2a, k2c, k3a, k3c, k4a, k4c, rfl, hlx, r0, r1, r2, r3, r4, r5, i1, i2, i3, i4⟩ := HJ3.out.at hif
        have p0 := (hBW.cell (p := ⟨xb, xo + i * 6, none⟩) hlx).trans r0
        have p1 := (hBW.cell (p := ⟨xb, xo + i * 6 + 1, none⟩) hlx).trans r1
        have p2 := (hBW.cell (p := ⟨xb, xo + i * 6 + 2, none⟩) hlx).trans r2
        have p3 := (hBW.cell (p := ⟨xb, xo + i * 6 + 3, none⟩) hlx).trans r3
        have p4 := (hBW.cell (p := ⟨xb, xo + i * 6 + 4, none⟩) hlx).trans r4
        have p5 := (hBW.cell (p := ⟨xb, xo + i * 6 + 5, none⟩) hlx).trans r5
        have hxbl : xb < wq.heap.size := by have := hBW.size; omega
        obtain ⟨hm1, hm2, hm3, hm4⟩ := HW9.out.l _ (List.getElem_mem hif)
        obtain ⟨l1, e1⟩ : ∃ x, x = f.blks[i].phis.length := ⟨_, rfl⟩
        obtain ⟨l2, e2⟩ : ∃ x, x = f.blks[i].body.length := ⟨_, rfl⟩
        obtain ⟨l3, e3⟩ : ∃ x, x = f.blks[i].ways.length := ⟨_, rfl⟩
        obtain ⟨l4, e4⟩ : ∃ x, x = f.blks[i].preds.length := ⟨_, rfl⟩
        obtain ⟨kd, e5⟩ : ∃ x, x = f.blks[i].kind := ⟨_, rfl⟩
        obtain ⟨vl, e6⟩ : ∃ x, x = f.blks[i].val := ⟨_, rfl⟩
        rw [<- e1] at p0 hm1
        rw [<- e2] at p1 hm2
        rw [<- e5] at p2
        rw [<- e6] at p3
        rw [<- e3] at p4 hm3
        rw [<- e4] at p5 hm4
        have hq1 : l1 <= k1c := by have := i1.le; omega
        have hq2 : l2 <= k2c := by have := i2.le; omega
        have hq3 : l3 <= k3c := by have := i3.le; omega
        have hq4 : l4 <= k4c := by have := i4.le; omega
        have hx1 : k1c <= 9223372036854775807 := i1.mx
        have hx2 : k2c <= 9223372036854775807 := i2.mx
        have hx3 : k3c <= 9223372036854775807 := i3.mx
        have hx4 : k4c <= 9223372036854775807 := i4.mx
        obtain ⟨W2, hW2⟩ : ∃ W, W = wq.alloc (.cells #[.slice k1a l1 k1c, .slice k2a l2 k2c, .int .i64 kd, .int .i64 vl, .slice k3a l3 k3c, .slice k4a l4 k4c] 46) := ⟨_, rfl⟩
        obtain ⟨BB, hBB⟩ : ∃ B, B = wq.heap.size := ⟨_, rfl⟩
        have b2 : Below wq.heap.size wq W2 := by rw [hW2]; exact below_new _ _
        have hs2 : W2.heap.size = wq.heap.size + 1 := by rw [hW2]; simp
        have hk2 : W2.heap[BB]? = some (.cells #[.slice k1a l1 k1c, .slice k2a l2 k2c, .int .i64 kd, .int .i64 vl, .slice k3a l3 k3c, .slice k4a l4 k4c] 46) := by rw [hW2, hBB]; exact heap_alloc_new wq _
        have HV2 : Hid (LB2 wo W2 AA gb s pa pn pc r nb5 vn nc5 bv zs f i) := HV.out.keep b2
        have hWW : ∀ w', Below W2.heap.size W2 w' -> Below w.heap.size w w' := fun w' hb => (hBW.trans (b2.mono hBW.size)).trans (hb.mono (by have := hBW.size; omega))
        have HRM1 : Hid (∀ w', Below W2.heap.size W2 w' -> Calls Tryz.prog 17 #[.slice k1a l1 k1c] w' fun e w'' => ∃ xa xc, e = .returned (.slice xa l1 xc) /\ IM w'' w'.heap.size xa xc f.blks[i].phis /\ Below w'.heap.size w' w'') := fun w' hb => room_any w' (i1.below (hWW w' hb) (Nat.le_refl _)) e1 hm1
        have HRM2 : Hid (∀ w', Below W2.heap.size W2 w' -> Calls Tryz.prog 17 #[.slice k2a l2 k2c] w' fun e w'' => ∃ xa xc, e = .returned (.slice xa l2 xc) /\ IM w'' w'.heap.size xa xc f.blks[i].body /\ Below w'.heap.size w' w'') := fun w' hb => room_any w' (i2.below (hWW w' hb) (Nat.le_refl _)) e2 hm2
        have HRM3 : Hid (∀ w', Below W2.heap.size W2 w' -> Calls Tryz.prog 17 #[.slice k3a l3 k3c] w' fun e w'' => ∃ xa xc, e = .returned (.slice xa l3 xc) /\ IM w'' w'.heap.size xa xc f.blks[i].ways /\ Below w'.heap.size w' w'') := fun w' hb => room_any w' (i3.below (hWW w' hb) (Nat.le_refl _)) e3 hm3
        have HRM4 : Hid (∀ w', Below W2.heap.size W2 w' -> Calls Tryz.prog 17 #[.slice k4a l4 k4c] w' fun e w'' => ∃ xa xc, e = .returned (.slice xa l4 xc) /\ IM w'' w'.heap.size xa xc f.blks[i].preds /\ Below w'.heap.size w' w'') := fun w' hb => room_any w' (i4.below (hWW w' hb) (Nat.le_refl _)) e4 hm4
        have hS : ∀ w', Below W2.heap.size W2 w' -> (fun w' : World => w'.cell? ⟨gb, 4, none⟩ = some bv /\ w'.cell? ⟨BB, 0, none⟩ = some (.slice k1a l1 k1c) /\ w'.cell? ⟨BB, 1, none⟩ = some (.slice k2a l2 k2c) /\ w'.cell? ⟨BB, 2, none⟩ = some (.int .i64 kd) /\ w'.cell? ⟨BB, 3, none⟩ = some (.int .i64 vl) /\ w'.cell? ⟨BB, 4, none⟩ = some (.slice k3a l3 k3c) /\ w'.cell? ⟨BB, 5, none⟩ = some (.slice k4a l4 k4c)) w' := fun w' hb => by
         have q1 := (hb.block gb (by omega)).trans HV2.out.box
         have q2 := (hb.block BB (by omega)).trans hk2
         exact ⟨cell_arr q1 rfl, cell_arr q2 rfl, cell_arr q2 rfl, cell_arr q2 rfl, cell_arr q2 rfl, cell_arr q2 rfl, cell_arr q2 rfl⟩
        have HSS : Hid (∀ w', Below W2.heap.size W2 w' -> (fun w' : World => w'.cell? ⟨gb, 4, none⟩ = some bv /\ w'.cell? ⟨BB, 0, none⟩ = some (.slice k1a l1 k1c) /\ w'.cell? ⟨BB, 1, none⟩ = some (.slice k2a l2 k2c) /\ w'.cell? ⟨BB, 2, none⟩ = some (.int .i64 kd) /\ w'.cell? ⟨BB, 3, none⟩ = some (.int .i64 vl) /\ w'.cell? ⟨BB, 4, none⟩ = some (.slice k3a l3 k3c) /\ w'.cell? ⟨BB, 5, none⟩ = some (.slice k4a l4 k4c)) w') := hS
        have HPT : Hid (∀ (z3 : World) (x1 : Option Addr) (y1 : Nat) (x2 : Option Addr) (y2 : Nat) (x3 : Option Addr) (y3 : Nat) (x4 : Option Addr) (y4 : Nat), Below W2.heap.size W2 z3 -> IM z3 W2.heap.size x1 y1 f.blks[i].phis -> IM z3 W2.heap.size x2 y2 f.blks[i].body -> IM z3 W2.heap.size x3 y3 f.blks[i].ways -> IM z3 W2.heap.size x4 y4 f.blks[i].preds -> ∀ v5 w5, Row w5 wo.heap.size 46 6 v5 (zs ++ [[.slice x1 l1 y1, .slice x2 l2 y2, .int .i64 kd, .int .i64 vl, .slice x3 l3 y3, .slice x4 l4 y4]]) -> GI wo.heap.size (z3.alloc (.cells #[.slice x1 l1 y1, .slice x2 l2 y2, .int .i64 kd, .int .i64 vl, .slice x3 l3 y3, .slice x4 l4 y4] 46)) w5 bv v5 -> LB2 wo (w5.setCell ⟨gb, 4, none⟩ v5) AA gb s pa pn pc r nb5 vn nc5 v5 (zs ++ [[.slice x1 l1 y1, .slice x2 l2 y2, .int .i64 kd, .int .i64 vl, .slice x3 l3 y3, .slice x4 l4 y4]]) f (i + 1) /\ (fun w' : World => w'.cell? ⟨gb, 4, none⟩ = some bv /\ w'.cell? ⟨BB, 0, none⟩ = some (.slice k1a l1 k1c) /\ w'.cell? ⟨BB, 1, none⟩ = some (.slice k2a l2 k2c) /\ w'.cell? ⟨BB, 2, none⟩ = some (.int .i64 kd) /\ w'.cell? ⟨BB, 3, none⟩ = some (.int .i64 vl) /\ w'.cell? ⟨BB, 4, none⟩ = some (.slice k3a l3 k3c) /\ w'.cell? ⟨BB, 5, none⟩ = some (.slice k4a l4 k4c)) w5 /\ w5.frozen? ⟨gb, 4, none⟩ = false) := by
         intro z3 x1 y1 x2 y2 x3 y3 x4 y4 hb m1 m2 m3 m4 v5 w5 h5 g5
         have hb4 : Below W2.heap.size W2 (z3.alloc (.cells #[.slice x1 l1 y1, .slice x2 l2 y2, .int .i64 kd, .int .i64 vl, .slice x3 l3 y3, .slice x4 l4 y4] 46)) := hb.alloc hb.size _
         have h4 := HV2.out.keep hb4
         have hlo := HV2.out.bel.size
         have hE : BE (z3.alloc (.cells #[.slice x1 l1 y1, .slice x2 l2 y2, .int .i64 kd, .int .i64 vl, .slice x3 l3 y3, .slice x4 l4 y4] 46)) wo.heap.size [.slice x1 l1 y1, .slice x2 l2 y2, .int .i64 kd, .int .i64 vl, .slice x3 l3 y3, .slice x4 l4 y4] f.blks[i] := ⟨x1, y1, x2, y2, x3, y3, x4, y4, by rw [e1, e2, e3, e4, e5, e6], (m1.below (below_new _ _)).lower hlo, (m2.below (below_new _ _)).lower hlo, (m3.below (below_new _ _)).lower hlo, (m4.below (below_new _ _)).lower hlo⟩
         have kb5 : w5.heap[gb]? = _ := (g5.blk gb (gl h4.box) (own_not h4.row.out h4.box (by decide))).trans h4.box
         have kv5 : w5.heap[BB]? = some (.cells #[.slice k1a l1 k1c, .slice k2a l2 k2c, .int .i64 kd, .int .i64 vl, .slice k3a l3 k3c, .slice k4a l4 k4c] 46) := by
          have q2 := (hb4.block BB (by omega)).trans hk2
          refine (g5.blk BB (gl q2) fun q => ?_).trans q2
          have := (own_block HV.out.row.out q).2
          omega
         exact ⟨h4.more hif h5 g5 hE, ⟨cell_arr kb5 rfl, cell_arr kv5 rfl, cell_arr kv5 rfl, cell_arr kv5 rfl, cell_arr kv5 rfl, cell_arr kv5 rfl, cell_arr kv5 rfl⟩, fz_of kb5⟩
        have S0 : (fun w' : World => w'.cell? ⟨gb, 4, none⟩ = some bv /\ w'.cell? ⟨BB, 0, none⟩ = some (.slice k1a l1 k1c) /\ w'.cell? ⟨BB, 1, none⟩ = some (.slice k2a l2 k2c) /\ w'.cell? ⟨BB, 2, none⟩ = some (.int .i64 kd) /\ w'.cell? ⟨BB, 3, none⟩ = some (.int .i64 vl) /\ w'.cell? ⟨BB, 4, none⟩ = some (.slice k3a l3 k3c) /\ w'.cell? ⟨BB, 5, none⟩ = some (.slice k4a l4 k4c)) W2.drew := hS _ (Below.refl _ _).drew
        clear hS hk2 hs2 b2 e1 e2 e3 e4 e5 e6 hBW hWW r0 r1 r2 r3 r4 r5 i1 i2 i3 i4
        go_wp2_with fail
        rw [<- hW2]
        rw [<- hBB]
        clear hW2 hBB p0 p1 p2 p3 p4 p5 kq
        refine led_start (S := fun w' : World => w'.cell? ⟨gb, 4, none⟩ = some bv /\ w'.cell? ⟨BB, 0, none⟩ = some (.slice k1a l1 k1c) /\ w'.cell? ⟨BB, 1, none⟩ = some (.slice k2a l2 k2c) /\ w'.cell? ⟨BB, 2, none⟩ = some (.int .i64 kd) /\ w'.cell? ⟨BB, 3, none⟩ = some (.int .i64 vl) /\ w'.cell? ⟨BB, 4, none⟩ = some (.slice k3a l3 k3c) /\ w'.cell? ⟨BB, 5, none⟩ = some (.slice k4a l4 k4c)) (z := 26) (by kernel_rfl) ?_
        refine led_n 0 S0 ?_
        refine led_n 1 S0 ?_
        refine led_n 2 S0 ?_
        refine led_n 3 S0 ?_
        refine led_n 5 S0 ?_
        refine led_n 6 S0 ?_
        refine led_n 8 S0 ?_
        refine led_n 9 S0 ?_
        refine led_n 11 S0 ?_
        refine led_n 12 S0 ?_
        refine led_n 13 S0 ?_
        refine led_n 14 S0 ?_
        refine led_n 15 S0 ?_
        refine led_n 16 S0 ?_
        refine led_n 17 S0 ?_
        refine led_n 18 S0 ?_
        refine led_n 19 S0 ?_
        refine led_one (i := 4) rfl (by kernel_rfl) ?_
        intro K4 hK4
        rw [if_pos (by rfl)]
        go_simp
        refine (HRM1.out W2.drew (Below.refl _ _).drew).mono ?_
        rintro e z1 ⟨x1, y1, rfl, hM1, hc1⟩
        have hbz1 : Below W2.heap.size W2 z1 := ((Below.refl W2.heap.size W2).drew).trans hc1
        have SA1 := HSS.out z1 hbz1
        refine hK4 _ _ (fun _ => SA1) ?_
        clear hK4
        try simp only [Act.put, zi, zz, zs]
        refine led_one (i := 7) rfl (by kernel_rfl) ?_
        intro K7 hK7
        rw [if_pos (by rfl)]
        go_simp
        refine (HRM2.out z1 hbz1).mono ?_
        rintro e z2 ⟨x2, y2, rfl, hM2, hc2⟩
        have hbz2 : Below W2.heap.size W2 z2 := hbz1.trans (hc2.mono hbz1.size)
        have SA2 := HSS.out z2 hbz2
        refine hK7 _ _ (fun _ => SA2) ?_
        clear hK7
        try simp only [Act.put, zi, zz, zs]
        refine led_one (i := 10) rfl (by kernel_rfl) ?_
        intro K10 hK10
        rw [if_pos (by rfl)]
        go_simp
        refine (HRM4.out z2 hbz2).mono ?_
        rintro e z4 ⟨x4, y4, rfl, hM4, hc4⟩
        have hbz4 : Below W2.heap.size W2 z4 := hbz2.trans (hc4.mono hbz2.size)
        have SA4 := HSS.out z4 hbz4
        refine hK10 _ _ (fun _ => SA4) ?_
        clear hK10
        try simp only [Act.put, zi, zz, zs]
        refine led_one (i := 20) rfl (by kernel_rfl) ?_
        intro K20 hK20
        rw [if_pos (by rfl)]
        go_simp
        refine (HRM3.out z4 hbz4).mono ?_
        rintro e z3 ⟨x3, y3, rfl, hM3, hc3⟩
        have hbz3 : Below W2.heap.size W2 z3 := hbz4.trans (hc3.mono hbz4.size)
        have SA3 := HSS.out z3 hbz3
        refine hK20 _ _ (fun _ => SA3) ?_
        clear hK20
        try simp only [Act.put, zi, zz, zs]
        refine led_one (i := 21) rfl (by kernel_rfl) ?_
        intro K21 hK21
        rw [if_pos (by rfl)]
        go_simp
        refine hK21 _ _ (fun _ => SA3) ?_
        clear hK21
        try simp only [Act.put, zi, zz, zs]
        refine led_one (i := 22) rfl (by kernel_rfl) ?_
        intro K22 hK22
        rw [if_pos (by rfl)]
        go_simp
        refine hK22 _ _ (fun _ => SA3) ?_
        clear hK22
        try simp only [Act.put, zi, zz, zs]
        have hb24 : Below W2.heap.size W2 (z3.alloc (.cells #[.slice x1 l1 y1, .slice x2 l2 y2, .int .i64 kd, .int .i64 vl, .slice x3 l3 y3, .slice x4 l4 y4] 46)) := hbz3.alloc hbz3.size _
        have SB := HSS.out _ hb24
        refine led_one (i := 23) rfl (by kernel_rfl) ?_
        intro K23 hK23
        rw [if_pos (by rfl)]
        go_simp
        refine hK23 _ _ (fun _ => SB) ?_
        clear hK23
        try simp only [Act.put, zi, zz, zs]
        have HRW : Hid (Row (z3.alloc (.cells #[.slice x1 l1 y1, .slice x2 l2 y2, .int .i64 kd, .int .i64 vl, .slice x3 l3 y3, .slice x4 l4 y4] 46)) wo.heap.size 46 6 bv zs) := HV2.out.row.keep hb24
        have HP3 : Hid _ := HPT.out z3 x1 y1 x2 y2 x3 y3 x4 y4 hbz3 ((((hM1.lower (by simp)).below hc2).below hc4).below hc3) (((hM2.lower hbz1.size).below hc4).below hc3) (hM3.lower hbz4.size) ((hM4.lower hbz2.size).below hc3)
        have hsz4 : wo.heap.size <= (z3.alloc (.cells #[.slice x1 l1 y1, .slice x2 l2 y2, .int .i64 kd, .int .i64 vl, .slice x3 l3 y3, .slice x4 l4 y4] 46)).heap.size := by have := HV2.out.bel.size; have := hb24.size; omega
        refine led_one (i := 24) rfl (by kernel_rfl) ?_
        intro K24 hK24
        refine step_append_row rfl _ _ 36 46 6 _ 112 rfl Tryz.underlying36 info_bk9 rfl (by decide) (by decide) wo.heap.size bv zs (by simp [Act.eval]) HRW.out z3.heap.size (by simp [Act.eval]) [.slice x1 l1 y1, .slice x2 l2 y2, .int .i64 kd, .int .i64 vl, .slice x3 l3 y3, .slice x4 l4 y4] rfl (cells_new9 z3 [.slice x1 l1 y1, .slice x2 l2 y2, .int .i64 kd, .int .i64 vl, .slice x3 l3 y3, .slice x4 l4 y4] _) (fun u hu => by simp at hu; rcases hu with rfl | rfl | rfl | rfl | rfl | rfl <;> rfl) (by have := HV2.out.len; omega) hsz4 ?_
        intro v5 w5 h5 g5
        obtain ⟨a5, c5, e5, _, _⟩ := own_slice h5.out
        obtain ⟨n5, hn5⟩ : ∃ n, n = (zs ++ [([.slice x1 l1 y1, .slice x2 l2 y2, .int .i64 kd, .int .i64 vl, .slice x3 l3 y3, .slice x4 l4 y4] : List Value)]).length := ⟨_, rfl⟩
        rw [<- hn5] at e5
        clear hn5
        subst e5
        have N := HP3.out _ w5 h5 g5
        have N1 : Hid _ := N.1
        have SC := N.2.1
        have fz5 := N.2.2
        have k5 := SC.1
        refine hK24 _ _ (fun _ => SC) ?_
        clear hK24 N
        try simp only [Act.put, zi, zz, zs]
        refine led_one (i := 25) rfl (by kernel_rfl) ?_
        intro K25 hK25
        rw [if_pos (by rfl)]
        go_simp
        refine hK25 _ _ (fun _ => SC) ?_
        clear hK25
        try simp only [Act.put, zi, zz, zs]
        refine led_one (i := 26) rfl (by kernel_rfl) ?_
        intro K26 hK26
        rw [if_pos (by rfl)]
        go_simp
        refine hK26 _ _ (fun h => absurd rfl h) ?_
        clear hK26 S0 SA1 SA2 SA3 SA4 SB SC fz5 k5 h5 g5 hM1 hM2 hM3 hM4 hc1 hc2 hc3 hc4 hbz1 hbz2 hbz3 hbz4 hb24 HP3 HRW
        refine led_done (by kernel_rfl) ?_
        go_wp2_with fail
        go_roundw
        case rel => exact ⟨i + 1, _, _, by omega, by go_num, N1.out⟩
        case measure => simp [intOf]; omega
       ·have hib2 : i = bn := by omega
        have b9 : Below wq.heap.size wq (wq.alloc (.cells #[.slice none 0 0, .slice none 0 0, .int .i64 (-71), .int .i64 0, .slice none 0 0, .slice none 0 0] 46)).drew := (below_new wq _).drew
        have hS : ∀ w', Below wq.heap.size wq w' -> (fun w' : World => w'.cell? ⟨gb, 4, none⟩ = some bv /\ w'.cell? ⟨B3, 4, none⟩ = some (.slice ma bn mc)) w' := fun w' hb => by
         have e1 := (hb.block gb (by omega)).trans HV.out.box
         have e2 := (hb.block B3 (by omega)).trans (show wq.heap[B3]? = some (.cells AA 38 (0, 0)) by rw [HBE.out]; exact HV.out.src)
         exact ⟨cell_arr e1 rfl, cell_arr e2 (by rw [HAA.out]; rfl)⟩
        have HSB : Hid ((fun w' : World => w'.cell? ⟨gb, 4, none⟩ = some bv /\ w'.cell? ⟨B3, 4, none⟩ = some (.slice ma bn mc)) (wq.alloc (.cells #[.slice none 0 0, .slice none 0 0, .int .i64 (-71), .int .i64 0, .slice none 0 0, .slice none 0 0] 46)).drew) := hS _ b9
        have HRW : Hid (Row (wq.alloc (.cells #[.slice none 0 0, .slice none 0 0, .int .i64 (-71), .int .i64 0, .slice none 0 0, .slice none 0 0] 46)).drew wo.heap.size 46 6 bv zs) := HV.out.row.keep b9
        have HNC : Hid (∀ j u, ([.slice none 0 0, .slice none 0 0, .int .i64 (-71), .int .i64 0, .slice none 0 0, .slice none 0 0] : List Value)[j]? = some u -> (wq.alloc (.cells #[.slice none 0 0, .slice none 0 0, .int .i64 (-71), .int .i64 0, .slice none 0 0, .slice none 0 0] 46)).drew.cell? ((⟨wq.heap.size, 0, none⟩ : Addr).add j) = some u) := fun j u hu => cells_new9 wq [.slice none 0 0, .slice none 0 0, .int .i64 (-71), .int .i64 0, .slice none 0 0, .slice none 0 0] _ j u hu
        have hsz4 : wo.heap.size <= (wq.alloc (.cells #[.slice none 0 0, .slice none 0 0, .int .i64 (-71), .int .i64 0, .slice none 0 0, .slice none 0 0] 46)).drew.heap.size := by have := HV.out.bel.size; have := b9.size; omega
        have HPT : Hid (∀ v5 w5, Row w5 wo.heap.size 46 6 v5 (zs ++ [[.slice none 0 0, .slice none 0 0, .int .i64 (-71), .int .i64 0, .slice none 0 0, .slice none 0 0]]) -> GI wo.heap.size (wq.alloc (.cells #[.slice none 0 0, .slice none 0 0, .int .i64 (-71), .int .i64 0, .slice none 0 0, .slice none 0 0] 46)).drew w5 bv v5 -> ∃ mb5 mc5, v5 = .slice (some ⟨mb5, 0, none⟩) (bn + 1) mc5 /\ bn + 1 <= mc5 /\ mc5 <= 9223372036854775807 /\ LF2 wo (w5.setCell ⟨gb, 4, none⟩ (.slice (some ⟨mb5, 0, none⟩) bn mc5)) AA gb [.string s, .slice pa pn pc, .int .i64 r, .slice (some ⟨nb5, 0, none⟩) vn nc5, .slice (some ⟨mb5, 0, none⟩) bn mc5] f /\ (fun w' : World => w'.cell? ⟨gb, 4, none⟩ = some bv /\ w'.cell? ⟨B3, 4, none⟩ = some (.slice ma bn mc)) w5 /\ w5.frozen? ⟨gb, 4, none⟩ = false) := by
         intro v5 w5 h5 g5
         have h4 := HV.out.keep b9
         obtain ⟨_, epn, evn, ebn, es, er⟩ := HE.out
         have h4' : LB2 wo (wq.alloc (.cells #[.slice none 0 0, .slice none 0 0, .int .i64 (-71), .int .i64 0, .slice none 0 0, .slice none 0 0] 46)).drew AA gb f.name pa f.params.length pc f.result nb5 f.vals.length nc5 bv zs f f.blks.length := by rw [<- ebn, <- hib2, <- evn, <- epn, <- es, <- er]; exact h4
         obtain ⟨vb, vc, e, q1, q2, q3⟩ := h4'.done h5 g5
         rw [<- ebn] at e q1
         rw [<- ebn, <- evn, <- epn, <- es, <- er] at q3
         have kb5 : w5.heap[gb]? = _ := (g5.blk gb (gl h4.box) (own_not h4.row.out h4.box (by decide))).trans h4.box
         have ks5 : w5.heap[B3]? = some (.cells AA 38 (0, 0)) := by rw [HBE.out]; exact (g5.blk _ (gl h4.src) (own_not h4.row.out h4.src (by decide))).trans h4.src
         exact ⟨vb, vc, e, q1, q2, q3, ⟨cell_arr kb5 rfl, cell_arr ks5 (by rw [HAA.out]; rfl)⟩, fz_of kb5⟩
        have S0 : (fun w' : World => w'.cell? ⟨gb, 4, none⟩ = some bv /\ w'.cell? ⟨B3, 4, none⟩ = some (.slice ma bn mc)) wq.drew := hS _ (Below.refl _ _).drew
        clear hS b9 hBW
        go_wp2_with fail
        clear kq
        refine led_start (S := fun w' : World => w'.cell? ⟨gb, 4, none⟩ = some bv /\ w'.cell? ⟨B3, 4, none⟩ = some (.slice ma bn mc)) (z := 11) (by kernel_rfl) ?_
        refine led_n 0 S0 ?_
        refine led_n 1 S0 ?_
        refine led_n 2 S0 ?_
        refine led_n 3 S0 ?_
        refine led_n 6 S0 ?_
        refine led_n 7 S0 ?_
        refine led_n 8 S0 ?_
        refine led_one (i := 4) rfl (by kernel_rfl) ?_
        intro K4 hK4
        rw [if_pos (by rfl)]
        go_simp
        have SB := HSB.out
        refine hK4 _ _ (fun _ => SB) ?_
        clear hK4
        try simp only [Act.put, zi, zz, zs]
        refine led_one (i := 5) rfl (by kernel_rfl) ?_
        intro K5 hK5
        refine step_append_row rfl _ _ 36 46 6 _ 112 rfl Tryz.underlying36 info_bk9 rfl (by decide) (by decide) wo.heap.size bv zs (by simp [Act.eval]) HRW.out wq.heap.size (by simp [Act.eval]) [.slice none 0 0, .slice none 0 0, .int .i64 (-71), .int .i64 0, .slice none 0 0, .slice none 0 0] rfl (HNC.out) (fun u hu => by simp at hu; rcases hu with rfl | rfl | rfl | rfl | rfl | rfl <;> rfl) (by have := HV.out.len; omega) hsz4 ?_
        intro v5 w5 h5 g5
        obtain ⟨mb5, mc5, e5, hn51, hn52, N⟩ := HPT.out v5 w5 h5 g5
        subst e5
        have N1 : Hid _ := N.1
        have SC := N.2.1
        have fz5 := N.2.2
        have k5 := SC.1
        refine hK5 _ _ (fun _ => SC) ?_
        clear hK5 N
        try simp only [Act.put, zi, zz, zs]
        have hsa : bn <= mc5 := by omega
        have hsb : (bn : Int) <= (mc5 : Int) := by omega
        refine led_one (i := 9) rfl (by kernel_rfl) ?_
        intro K9 hK9
        rw [if_pos (by rfl)]
        go_simp
        refine hK9 _ _ (fun _ => SC) ?_
        clear hK9
        try simp only [Act.put, zi, zz, zs]
        refine led_one (i := 10) rfl (by kernel_rfl) ?_
        intro K10 hK10
        rw [if_pos (by rfl)]
        go_simp
        refine hK10 _ _ (fun _ => SC) ?_
        clear hK10
        try simp only [Act.put, zi, zz, zs]
        refine led_one (i := 11) rfl (by kernel_rfl) ?_
        intro K11 hK11
        rw [if_pos (by rfl)]
        go_simp
        refine hK11 _ _ (fun h => absurd rfl h) ?_
        clear hK11 S0 SB SC fz5 k5 h5 g5 HPT HRW HNC HSB
        refine led_done (by kernel_rfl) ?_
        clear HV
        obtain ⟨W6, hW6⟩ : ∃ W, W = w5.setCell ⟨gb, 4, none⟩ (.slice (some ⟨mb5, 0, none⟩) bn mc5) := ⟨_, rfl⟩
        rw [<- hW6] at N1 ⊢
        clear hW6
        obtain ⟨LB, hLB⟩ : ∃ B, B = w.heap.size + 1 := ⟨_, rfl⟩
        have hO6 := HO.out.keep N1.out.bel
        have b9 : Below W6.heap.size W6 (W6.alloc (.cells #[.string s, .slice pa pn pc, .int .i64 r, .slice (some ⟨nb5, 0, none⟩) vn nc5, .slice (some ⟨mb5, 0, none⟩) bn mc5] 38)).drew := (below_new W6 _).drew
        have hgl6 : gb < W6.heap.size := (gl N1.out.box)
        have hll6 : LB < W6.heap.size := by rw [hLB]; exact (gl hO6.box)
        have hS : ∀ w', Below W6.heap.size W6 w' -> (fun w' : World => w'.cell? ⟨LB, 0, none⟩ = some lv /\ w'.cell? ⟨gb, 0, none⟩ = some (.string s) /\ w'.cell? ⟨gb, 1, none⟩ = some (.slice pa pn pc) /\ w'.cell? ⟨gb, 2, none⟩ = some (.int .i64 r) /\ w'.cell? ⟨gb, 3, none⟩ = some (.slice (some ⟨nb5, 0, none⟩) vn nc5) /\ w'.cell? ⟨gb, 4, none⟩ = some (.slice (some ⟨mb5, 0, none⟩) bn mc5)) w' := fun w' hb => by
         have e1 := (hb.block LB hll6).trans (show W6.heap[LB]? = some (.cells #[lv, .int .i64 0] 32 (0, 0)) by rw [hLB]; exact hO6.box)
         have e2 := (hb.block gb hgl6).trans N1.out.box
         exact ⟨cell_arr e1 rfl, cell_arr e2 rfl, cell_arr e2 rfl, cell_arr e2 rfl, cell_arr e2 rfl, cell_arr e2 rfl⟩
        have HSB : Hid ((fun w' : World => w'.cell? ⟨LB, 0, none⟩ = some lv /\ w'.cell? ⟨gb, 0, none⟩ = some (.string s) /\ w'.cell? ⟨gb, 1, none⟩ = some (.slice pa pn pc) /\ w'.cell? ⟨gb, 2, none⟩ = some (.int .i64 r) /\ w'.cell? ⟨gb, 3, none⟩ = some (.slice (some ⟨nb5, 0, none⟩) vn nc5) /\ w'.cell? ⟨gb, 4, none⟩ = some (.slice (some ⟨mb5, 0, none⟩) bn mc5)) (W6.alloc (.cells #[.string s, .slice pa pn pc, .int .i64 r, .slice (some ⟨nb5, 0, none⟩) vn nc5, .slice (some ⟨mb5, 0, none⟩) bn mc5] 38)).drew) := hS _ b9
        have HRW : Hid (Row (W6.alloc (.cells #[.string s, .slice pa pn pc, .int .i64 r, .slice (some ⟨nb5, 0, none⟩) vn nc5, .slice (some ⟨mb5, 0, none⟩) bn mc5] 38)).drew w.heap.size 38 5 lv xs) := hO6.row.keep b9
        have HNC : Hid (∀ j u, ([.string s, .slice pa pn pc, .int .i64 r, .slice (some ⟨nb5, 0, none⟩) vn nc5, .slice (some ⟨mb5, 0, none⟩) bn mc5] : List Value)[j]? = some u -> (W6.alloc (.cells #[.string s, .slice pa pn pc, .int .i64 r, .slice (some ⟨nb5, 0, none⟩) vn nc5, .slice (some ⟨mb5, 0, none⟩) bn mc5] 38)).drew.cell? ((⟨W6.heap.size, 0, none⟩ : Addr).add j) = some u) := fun j u hu => cells_new9 W6 [.string s, .slice pa pn pc, .int .i64 r, .slice (some ⟨nb5, 0, none⟩) vn nc5, .slice (some ⟨mb5, 0, none⟩) bn mc5] _ j u hu
        have hsz4 : w.heap.size <= (W6.alloc (.cells #[.string s, .slice pa pn pc, .int .i64 r, .slice (some ⟨nb5, 0, none⟩) vn nc5, .slice (some ⟨mb5, 0, none⟩) bn mc5] 38)).drew.heap.size := by have := hO6.bel.size; have := b9.size; omega
        have HPT : Hid (∀ v5 w5, Row w5 w.heap.size 38 5 v5 (xs ++ [[.string s, .slice pa pn pc, .int .i64 r, .slice (some ⟨nb5, 0, none⟩) vn nc5, .slice (some ⟨mb5, 0, none⟩) bn mc5]]) -> GI w.heap.size (W6.alloc (.cells #[.string s, .slice pa pn pc, .int .i64 r, .slice (some ⟨nb5, 0, none⟩) vn nc5, .slice (some ⟨mb5, 0, none⟩) bn mc5] 38)).drew w5 lv v5 -> LO w (w5.setCell ⟨LB, 0, none⟩ v5) (some ⟨b', o', none⟩) fn fc mn v5 (xs ++ [[.string s, .slice pa pn pc, .int .i64 r, .slice (some ⟨nb5, 0, none⟩) vn nc5, .slice (some ⟨mb5, 0, none⟩) bn mc5]]) FS (k + 1) /\ (fun w' : World => w'.cell? ⟨LB, 0, none⟩ = some lv /\ w'.cell? ⟨gb, 0, none⟩ = some (.string s) /\ w'.cell? ⟨gb, 1, none⟩ = some (.slice pa pn pc) /\ w'.cell? ⟨gb, 2, none⟩ = some (.int .i64 r) /\ w'.cell? ⟨gb, 3, none⟩ = some (.slice (some ⟨nb5, 0, none⟩) vn nc5) /\ w'.cell? ⟨gb, 4, none⟩ = some (.slice (some ⟨mb5, 0, none⟩) bn mc5)) w5 /\ w5.frozen? ⟨LB, 0, none⟩ = false) := by
         intro v5 w5 h5 g5
         have h4 := hO6.keep b9
         have hE : FE (W6.alloc (.cells #[.string s, .slice pa pn pc, .int .i64 r, .slice (some ⟨nb5, 0, none⟩) vn nc5, .slice (some ⟨mb5, 0, none⟩) bn mc5] 38)).drew w.heap.size [.string s, .slice pa pn pc, .int .i64 r, .slice (some ⟨nb5, 0, none⟩) vn nc5, .slice (some ⟨mb5, 0, none⟩) bn mc5] FS[k] := by rw [<- HE.out.1]; exact (N1.out.fe.below b9).lower HO.out.bel.size
         have e2 := (b9.block gb hgl6).trans N1.out.box
         have kb5 : w5.heap[gb]? = _ := (g5.blk gb (gl e2) (fun q => by have h1 := (own_block HO.out.row.out q).2; have h2 := N1.out.lo; omega)).trans e2
         have ks5 : w5.heap[w.heap.size + 1]? = _ := (g5.blk _ (gl h4.box) (own_not h4.row.out h4.box (by decide))).trans h4.box
         rw [hLB]
         exact ⟨h4.more hkf h5 g5 hE, ⟨cell_arr ks5 rfl, cell_arr kb5 rfl, cell_arr kb5 rfl, cell_arr kb5 rfl, cell_arr kb5 rfl, cell_arr kb5 rfl⟩, fz_of ks5⟩
        have S0 : (fun w' : World => w'.cell? ⟨LB, 0, none⟩ = some lv /\ w'.cell? ⟨gb, 0, none⟩ = some (.string s) /\ w'.cell? ⟨gb, 1, none⟩ = some (.slice pa pn pc) /\ w'.cell? ⟨gb, 2, none⟩ = some (.int .i64 r) /\ w'.cell? ⟨gb, 3, none⟩ = some (.slice (some ⟨nb5, 0, none⟩) vn nc5) /\ w'.cell? ⟨gb, 4, none⟩ = some (.slice (some ⟨mb5, 0, none⟩) bn mc5)) W6.drew := hS _ (Below.refl _ _).drew
        have HLB : Hid (LB = w.heap.size + 1) := hLB
        clear hS b9 hO6
        go_wp2_with fail
        rw [<- hLB]
        clear hLB
        refine led_start (S := fun w' : World => w'.cell? ⟨LB, 0, none⟩ = some lv /\ w'.cell? ⟨gb, 0, none⟩ = some (.string s) /\ w'.cell? ⟨gb, 1, none⟩ = some (.slice pa pn pc) /\ w'.cell? ⟨gb, 2, none⟩ = some (.int .i64 r) /\ w'.cell? ⟨gb, 3, none⟩ = some (.slice (some ⟨nb5, 0, none⟩) vn nc5) /\ w'.cell? ⟨gb, 4, none⟩ = some (.slice (some ⟨mb5, 0, none⟩) bn mc5)) (z := 12) (by kernel_rfl) ?_
        refine led_n 0 S0 ?_
        refine led_n 1 S0 ?_
        refine led_n 2 S0 ?_
        refine led_n 3 S0 ?_
        refine led_n 4 S0 ?_
        refine led_n 5 S0 ?_
        refine led_n 6 S0 ?_
        refine led_one (i := 7) rfl (by kernel_rfl) ?_
        intro K7 hK7
        rw [if_pos (by rfl)]
        go_simp
        refine hK7 _ _ (fun _ => HSB.out) ?_
        clear hK7
        try simp only [Act.put, zi, zz, zs]
        refine led_one (i := 8) rfl (by kernel_rfl) ?_
        intro K8 hK8
        refine step_append_row rfl _ _ 22 38 5 _ 96 rfl Tryz.underlying22 info_fn rfl (by decide) (by decide) w.heap.size lv xs (by simp [Act.eval]) HRW.out W6.heap.size (by simp [Act.eval]) [.string s, .slice pa pn pc, .int .i64 r, .slice (some ⟨nb5, 0, none⟩) vn nc5, .slice (some ⟨mb5, 0, none⟩) bn mc5] rfl HNC.out (fun u hu => by simp at hu; rcases hu with rfl | rfl | rfl | rfl | rfl <;> rfl) (by have := HO.out.len; omega) hsz4 ?_
        intro v7 w7 h7 g7
        obtain ⟨a7, c7, e7, _, _⟩ := own_slice h7.out
        obtain ⟨n7, hn7⟩ : ∃ n, n = (xs ++ [([.string s, .slice pa pn pc, .int .i64 r, .slice (some ⟨nb5, 0, none⟩) vn nc5, .slice (some ⟨mb5, 0, none⟩) bn mc5] : List Value)]).length := ⟨_, rfl⟩
        rw [<- hn7] at e7
        clear hn7
        subst e7
        have N := HPT.out _ w7 h7 g7
        have N9 : Hid _ := N.1
        have SC := N.2.1
        have fz5 := N.2.2
        have k5 := SC.1
        refine hK8 _ _ (fun _ => SC) ?_
        clear hK8 N
        try simp only [Act.put, zi, zz, zs]
        refine led_one (i := 9) rfl (by kernel_rfl) ?_
        intro K9 hK9
        rw [if_pos (by rfl)]
        go_simp
        refine hK9 _ _ (fun _ => SC) ?_
        clear hK9
        try simp only [Act.put, zi, zz, zs]
        refine led_one (i := 10) rfl (by kernel_rfl) ?_
        intro K10 hK10
        rw [if_pos (by rfl)]
        go_simp
        refine hK10 _ _ (fun _ => SC) ?_
        clear hK10
        try simp only [Act.put, zi, zz, zs]
        refine led_one (i := 11) rfl (by kernel_rfl) ?_
        intro K11 hK11
        rw [if_pos (by rfl)]
        go_simp
        refine hK11 _ _ (fun _ => SC) ?_
        clear hK11
        try simp only [Act.put, zi, zz, zs]
        refine led_one (i := 12) rfl (by kernel_rfl) ?_
        intro K12 hK12
        rw [if_pos (by rfl)]
        go_simp
        refine hK12 _ _ (fun h => absurd rfl h) ?_
        clear hK12 S0 SC fz5 k5 h7 g7 HPT HRW HNC HSB
        refine led_done (by kernel_rfl) ?_
        rw [HLB.out]
        go_wp2_with fail
        go_roundw
        case rel => exact ⟨k + 1, _, _, by omega, by go_num, by have := N9.out; rw [HLB.out] at this; exact this⟩
        case measure => simp [intOf]; omega
  ·have hk2 : k = fn := by omega
   obtain ⟨LB, hLB⟩ : ∃ B, B = w.heap.size + 1 := ⟨_, rfl⟩
   have hfc : fn <= fc := by have := HF.out.le; have := HEF.out; omega
   have hfm : fc <= 9223372036854775807 := HF.out.mx
   have b9 : Below wo.heap.size wo (wo.alloc (.cells #[.string ⟨#[109, 97, 114, 107]⟩, .slice none 0 0, .int .i64 0, .slice none 0 0, .slice none 0 0] 38)).drew := (below_new wo _).drew
   have hS : ∀ w', Below wo.heap.size wo w' -> (fun w' : World => w'.cell? ⟨LB, 0, none⟩ = some lv /\ w'.cell? ⟨w.heap.size, 0, none⟩ = some (.slice fa fn fc)) w' := fun w' hb => by
    have e1 := (hb.block LB (by omega)).trans (show wo.heap[LB]? = some (.cells #[lv, .int .i64 0] 32 (0, 0)) by rw [hLB]; exact HO.out.box)
    have e2 := (hb.block w.heap.size (by omega)).trans HO.out.src
    exact ⟨cell_arr e1 rfl, cell_arr e2 rfl⟩
   have HSB : Hid ((fun w' : World => w'.cell? ⟨LB, 0, none⟩ = some lv /\ w'.cell? ⟨w.heap.size, 0, none⟩ = some (.slice fa fn fc)) (wo.alloc (.cells #[.string ⟨#[109, 97, 114, 107]⟩, .slice none 0 0, .int .i64 0, .slice none 0 0, .slice none 0 0] 38)).drew) := hS _ b9
   have HRW : Hid (Row (wo.alloc (.cells #[.string ⟨#[109, 97, 114, 107]⟩, .slice none 0 0, .int .i64 0, .slice none 0 0, .slice none 0 0] 38)).drew w.heap.size 38 5 lv xs) := HO.out.row.keep b9
   have HNC : Hid (∀ j u, ([.string ⟨#[109, 97, 114, 107]⟩, .slice none 0 0, .int .i64 0, .slice none 0 0, .slice none 0 0] : List Value)[j]? = some u -> (wo.alloc (.cells #[.string ⟨#[109, 97, 114, 107]⟩, .slice none 0 0, .int .i64 0, .slice none 0 0, .slice none 0 0] 38)).drew.cell? ((⟨wo.heap.size, 0, none⟩ : Addr).add j) = some u) := fun j u hu => cells_new9 wo [.string ⟨#[109, 97, 114, 107]⟩, .slice none 0 0, .int .i64 0, .slice none 0 0, .slice none 0 0] _ j u hu
   have hsz4 : w.heap.size <= (wo.alloc (.cells #[.string ⟨#[109, 97, 114, 107]⟩, .slice none 0 0, .int .i64 0, .slice none 0 0, .slice none 0 0] 38)).drew.heap.size := by have := b9.size; omega
   have HPT : Hid (∀ v5 w5, Row w5 w.heap.size 38 5 v5 (xs ++ [[.string ⟨#[109, 97, 114, 107]⟩, .slice none 0 0, .int .i64 0, .slice none 0 0, .slice none 0 0]]) -> GI w.heap.size (wo.alloc (.cells #[.string ⟨#[109, 97, 114, 107]⟩, .slice none 0 0, .int .i64 0, .slice none 0 0, .slice none 0 0] 38)).drew w5 lv v5 -> ∃ b c, v5 = .slice (some ⟨b, 0, none⟩) (fn + 1) c /\ fn + 1 <= c /\ c <= 9223372036854775807 /\ (LM ((w5.setCell ⟨LB, 0, none⟩ (.slice (some ⟨b, 0, none⟩) fn c)).setCell ⟨LB, 1, none⟩ (.int .i64 mn)) w.heap.size b c FS /\ ((w5.setCell ⟨LB, 0, none⟩ (.slice (some ⟨b, 0, none⟩) fn c)).setCell ⟨LB, 1, none⟩ (.int .i64 mn)).heap[w.heap.size + 1]? = some (.cells #[.slice (some ⟨b, 0, none⟩) fn c, .int .i64 mn] 32 (0, 0)) /\ Below w.heap.size w ((w5.setCell ⟨LB, 0, none⟩ (.slice (some ⟨b, 0, none⟩) fn c)).setCell ⟨LB, 1, none⟩ (.int .i64 mn)) /\ (w5.setCell ⟨LB, 0, none⟩ (.slice (some ⟨b, 0, none⟩) fn c)).cell? ⟨w.heap.size, 1, none⟩ = some (.int .i64 mn) /\ (∃ z, (w5.setCell ⟨LB, 0, none⟩ (.slice (some ⟨b, 0, none⟩) fn c)).cell? ⟨LB, 1, none⟩ = some z) /\ (w5.setCell ⟨LB, 0, none⟩ (.slice (some ⟨b, 0, none⟩) fn c)).frozen? ⟨LB, 1, none⟩ = false) /\ (fun w' : World => w'.cell? ⟨LB, 0, none⟩ = some lv /\ w'.cell? ⟨w.heap.size, 0, none⟩ = some (.slice fa fn fc)) w5 /\ w5.frozen? ⟨LB, 0, none⟩ = false) := by
    intro v5 w5 h5 g5
    have h4 := HO.out.keep b9
    have efn := HEF.out
    have h4' : LO w (wo.alloc (.cells #[.string ⟨#[109, 97, 114, 107]⟩, .slice none 0 0, .int .i64 0, .slice none 0 0, .slice none 0 0] 38)).drew fa fn fc mn lv xs FS FS.length := by
     have ekk : k = FS.length := by omega
     rw [<- ekk]; exact h4
    obtain ⟨b, c, e, q1, q2, q3, q4, q5, q6, q7⟩ := h4'.done h5 g5
    rw [<- efn] at e q1 q3 q4 q5
    have hbx := heap_set_at (i := 0) (v := .slice (some ⟨b, 0, none⟩) fn c) q7
    rw [hLB]
    exact ⟨b, c, e, q1, q2, ⟨q3, q4, q5, (World.cell?_of_block (w := w5) (heap_set_other (show w.heap.size ≠ w.heap.size + 1 by omega))).trans (cell_arr q6 rfl), ⟨_, cell_arr hbx rfl⟩, fz_of hbx⟩, ⟨cell_arr q7 rfl, cell_arr q6 rfl⟩, fz_of q7⟩
   have S0 : (fun w' : World => w'.cell? ⟨LB, 0, none⟩ = some lv /\ w'.cell? ⟨w.heap.size, 0, none⟩ = some (.slice fa fn fc)) wo.drew := hS _ (Below.refl _ _).drew
   have HLB : Hid (LB = w.heap.size + 1) := hLB
   clear hS b9
   go_wp2_with fail
   rw [<- hLB]
   clear hLB k0
   refine led_start (S := fun w' : World => w'.cell? ⟨LB, 0, none⟩ = some lv /\ w'.cell? ⟨w.heap.size, 0, none⟩ = some (.slice fa fn fc)) (z := 16) (by kernel_rfl) ?_
   refine led_n 0 S0 ?_
   refine led_n 1 S0 ?_
   refine led_n 2 S0 ?_
   refine led_n 3 S0 ?_
   refine led_n 4 S0 ?_
   refine led_n 5 S0 ?_
   refine led_n 6 S0 ?_
   refine led_n 9 S0 ?_
   refine led_n 10 S0 ?_
   refine led_n 11 S0 ?_
   refine led_one (i := 7) rfl (by kernel_rfl) ?_
   intro K7 hK7
   rw [if_pos (by rfl)]
   go_simp
   have SB := HSB.out
   refine hK7 _ _ (fun _ => SB) ?_
   clear hK7
   try simp only [Act.put, zi, zz, zs]
   refine led_one (i := 8) rfl (by kernel_rfl) ?_
   intro K8 hK8
   refine step_append_row rfl _ _ 22 38 5 _ 96 rfl Tryz.underlying22 info_fn rfl (by decide) (by decide) w.heap.size lv xs (by simp [Act.eval]) HRW.out wo.heap.size (by simp [Act.eval]) [.string ⟨#[109, 97, 114, 107]⟩, .slice none 0 0, .int .i64 0, .slice none 0 0, .slice none 0 0] rfl (HNC.out) (fun u hu => by simp at hu; rcases hu with rfl | rfl | rfl | rfl | rfl <;> rfl) (by have := HO.out.len; omega) hsz4 ?_
   intro v5 w5 h5 g5
   obtain ⟨nb5, nc5, e5, hn51, hn52, N⟩ := HPT.out v5 w5 h5 g5
   subst e5
   have N1 : Hid _ := N.1
   have SC := N.2.1
   have fz5 := N.2.2
   have k5 := SC.1
   refine hK8 _ _ (fun _ => SC) ?_
   clear hK8 N
   try simp only [Act.put, zi, zz, zs]
   have hsa : fn <= nc5 := by omega
   have hsb : (fn : Int) <= (nc5 : Int) := by omega
   refine led_one (i := 12) rfl (by kernel_rfl) ?_
   intro K12 hK12
   rw [if_pos (by rfl)]
   go_simp
   refine hK12 _ _ (fun _ => SC) ?_
   clear hK12
   try simp only [Act.put, zi, zz, zs]
   refine led_one (i := 13) rfl (by kernel_rfl) ?_
   intro K13 hK13
   rw [if_pos (by rfl)]
   go_simp
   refine hK13 _ _ (fun _ => SC) ?_
   clear hK13
   try simp only [Act.put, zi, zz, zs]
   refine led_one (i := 14) rfl (by kernel_rfl) ?_
   intro K14 hK14
   rw [if_pos (by rfl)]
   go_simp
   refine hK14 _ _ (fun _ => SC) ?_
   clear hK14
   try simp only [Act.put, zi, zz, zs]
   refine led_one (i := 15) rfl (by kernel_rfl) ?_
   intro K15 hK15
   rw [if_pos (by rfl)]
   go_simp
   refine hK15 _ _ (fun _ => SC) ?_
   clear hK15
   try simp only [Act.put, zi, zz, zs]
   refine led_one (i := 16) rfl (by kernel_rfl) ?_
   intro K16 hK16
   rw [if_pos (by rfl)]
   go_simp
   refine hK16 _ _ (fun h => absurd rfl h) ?_
   clear hK16 S0 SB SC fz5 k5 h5 g5 HPT HRW HNC HSB
   refine led_done (by kernel_rfl) ?_
   obtain ⟨m1, m2, m3, m4, ⟨z6, m5⟩, m6⟩ := N1.out
   obtain ⟨W6, hW6⟩ : ∃ W, W = w5.setCell ⟨LB, 0, none⟩ (.slice (some ⟨nb5, 0, none⟩) fn nc5) := ⟨_, rfl⟩
   rw [<- hW6] at m1 m2 m3 m4 m5 m6 ⊢
   have HM : Hid _ := And.intro m1 (And.intro m2 m3)
   clear hW6 N1 m1 m2 m3
   go_wp2_with fail
   go_ret
   obtain ⟨m1, m2, m3⟩ := HM.out
   exact ⟨nb5, nc5, by rw [HLB.out]; rfl, m1, by rw [<- HEF.out]; exact m2, m3⟩
end Go.Proofs.YtdbkjjelaipcfaaGreatDoor
