import Derived.Test.YtdbkjjelaipcfaaGreatDoorMaz
import Derived.Test.YtdbkjjelaipcfaaGreatDoorMbb
set_option linter.unusedVariables false
set_option linter.unusedSimpArgs false
namespace Go.Proofs.YtdbkjjelaipcfaaGreatDoor
open Go.ChangeShapes Go.WideShapes Go.ChangeAt Go.RowKit Go.Maps
def zv (n : Nat) : List (List Value) := List.replicate n [.int .i64 0, .int .i64 0, .int .i64 0, .slice none 0 0]
theorem zv_z (n : Nat) : ∀ x ∈ zv n, x.length = 4 := fun x hx => by rw [List.eq_of_mem_replicate hx]; rfl
theorem made_vals (n : Nat) : madeCells #[.int .i64 0, .int .i64 0, .int .i64 0, .slice none 0 0] (n * 4) = (zv n).flatten.toArray := by
 have hl : (zv n).flatten.length = n * 4 := by rw [flat_len _ (zv_z n)]; simp [zv]
 apply Array.ext
 ·rw [size_madeCells]; simp [hl]
 ·intro i h1 h2
  rw [size_madeCells] at h1
  have h3 : i < (zv n).flatten.length := by rw [hl]; exact h1
  have e1 : (madeCells #[.int .i64 0, .int .i64 0, .int .i64 0, .slice none 0 0] (n * 4))[i] = #[Value.int .i64 0, .int .i64 0, .int .i64 0, .slice none 0 0][i % 4]! := by
   simp only [madeCells, Array.getElem_map, Array.getElem_range]
   rfl
  rw [e1]
  have h4 := flat_at (zv n) (zv_z n) (i / 4) (by simp [zv]; omega) (i % 4) (by omega)
  rw [show i / 4 * 4 + i % 4 = i by omega, List.getElem?_eq_getElem h3] at h4
  have e2 : (zv n)[i / 4]'(by simp [zv]; omega) = [.int .i64 0, .int .i64 0, .int .i64 0, .slice none 0 0] := by simp [zv]
  rw [e2] at h4
  simp only [List.getElem_toArray]
  rcases (by omega : i % 4 = 0 \/ i % 4 = 1 \/ i % 4 = 2 \/ i % 4 = 3) with e | e | e | e <;> rw [e] at h4 ⊢ <;> exact (Option.some.inj h4).symm
theorem run_vals (n : Nat) (h : n <= 100000000) (w : World) : (Instr.makeSlice 35 (.int .i64 (n : Int)) (.int .i64 (n : Int))).run Tryz.prog w = .ok (.slice (some ⟨w.heap.size, 0, none⟩) n n) (w.alloc (.cells (zv n).flatten.toArray 42)) := by
 obtain ⟨i0, hi, hz0, hz1, hz2⟩ := info_parts info_vl9
 have hr := run_make (P := Tryz.prog) w 35 42 i0 (.agg #[.int .i64 0, .int .i64 0, .int .i64 0, .slice none 0 0]) Tryz.underlying35 hi hz0 .i64 .i64 n n (by omega) (by omega) (by rw [hz2]; omega) (by omega)
 simp only [Int.toNat_natCast, hz1] at hr
 rw [<- made_vals]
 exact hr
structure MK (W X : World) (vb gb : Nat) (xa : Option Addr) (xc n : Nat) (L : List Int) : Prop where
 bel : Below W.heap.size W X
 kv : X.heap[vb]? = some (.cells (zv n).flatten.toArray 42 (0, 0))
 kg : X.heap[gb]? = some (.cells #[.string ⟨#[]⟩, .slice none 0 0, .int .i64 0, .slice none 0 0, .slice none 0 0] 38 (0, 0))
 kp : IN X W.heap.size xa xc L
 lv : W.heap.size <= vb
 lg : W.heap.size <= gb
structure MT (W X : World) (tb : Nat) (xa : Option Addr) (xc : Nat) (L : List Int) : Prop where
 bel : Below W.heap.size W X
 kt : X.heap[tb]? = some (.cells #[.int .i64 0, .int .i64 0, .slice none 0 0] 44 (0, 0))
 kp : IN X W.heap.size xa xc L
 lt : W.heap.size <= tb
theorem box_three {w : World} {gb : Nat} {x0 x1 x2 : Value} (h : w.heap[gb]? = some (.cells #[x0, x1, x2] 44 (0, 0))) (a b c : Value) : (((w.setCell ⟨gb, 0, none⟩ a).setCell ⟨gb, 1, none⟩ b).setCell ⟨gb, 2, none⟩ c).heap[gb]? = some (.cells #[a, b, c] 44 (0, 0)) := by
 have h0 := heap_set_at (i := 0) (v := a) h
 have h1 := heap_set_at (i := 1) (v := b) h0
 have h2 := heap_set_at (i := 2) (v := c) h1
 rw [h2]; rfl
theorem list_ways {A G : Nat -> Option Addr -> Nat -> World -> Prop} {p : Prop} (h : (∀ v a c X, A v a c X -> G v a c X) -> p) (g : ∀ v a c X, A v a c X -> G v a c X) : p := h g
theorem three_ways {A G : Nat -> Nat -> Option Addr -> Nat -> World -> Prop} {p : Prop} (h : (∀ v g a c X, A v g a c X -> G v g a c X) -> p) (g : ∀ v g a c X, A v g a c X -> G v g a c X) : p := h g
theorem NV.start {wo W1 X : World} {A : Array Value} {vb gb n xc pn : Nat} {xa : Option Addr} {s : ByteArray} {r : Int} {f : Fu} {b : Nat} (hk : W1.heap[wo.heap.size]? = some (.cells A 38 (0, 0))) (b1 : Below wo.heap.size wo W1) (hs : wo.heap.size < W1.heap.size) (hn : n = f.vals.length) (M : MK W1 X vb gb xa xc n (f.params.map (rnI f.vals.length b))) :
 NV wo (((((X.setCell ⟨gb, 0, none⟩ (.string s)).setCell ⟨gb, 1, none⟩ (.slice xa pn xc)).setCell ⟨gb, 2, none⟩ (.int .i64 r)).setCell ⟨gb, 3, none⟩ (.slice (some ⟨vb, 0, none⟩) n n)).setCell ⟨gb, 4, none⟩ (.slice none 0 0)) A gb vb s xa pn xc r n (zv n) f b 0 := by
 have ho : ∀ x, x ≠ gb -> (((((X.setCell ⟨gb, 0, none⟩ (.string s)).setCell ⟨gb, 1, none⟩ (.slice xa pn xc)).setCell ⟨gb, 2, none⟩ (.int .i64 r)).setCell ⟨gb, 3, none⟩ (.slice (some ⟨vb, 0, none⟩) n n)).setCell ⟨gb, 4, none⟩ (.slice none 0 0)).heap[x]? = X.heap[x]? := fun x hne => by
  rw [heap_set_other hne, heap_set_other hne, heap_set_other hne, heap_set_other hne, heap_set_other hne]
 have hlo := M.lg
 have hlv := M.lv
 have hb : Below wo.heap.size wo X := b1.trans (M.bel.mono b1.size)
 have h1 : wo.heap.size <= gb := by omega
 refine ⟨box_five M.kg _ _ _ _ _, (ho _ (by omega)).trans ((M.bel.block _ hs).trans hk), by omega, ⟨(ho vb (blk_type M.kv M.kg (by decide))).trans M.kv, by omega, by simp [zv, hn], zv_z n, fun i _ h => by omega⟩, (M.kp.lower (by omega)).move fun b' cs _ e => ho b' (blk_type e M.kg (by decide)), ((((hb.setCell h1 _).setCell h1 _).setCell h1 _).setCell h1 _).setCell h1 _⟩
set_option maxRecDepth 100000 in
set_option maxHeartbeats 60000000 in
theorem renamed_any (w : World) {fa : Option Addr} {fn fc : Nat} {mn : Int} {FS : List Fu} (hF : Fus w fa fc FS) (ef : fn = FS.length) (hfn : fn <= 10000000) (hfew : ∀ f ∈ FS, Few9 f) (hrr : ∀ f ∈ FS, RR f) (b : Nat) (hb : b <= 1000) :
 Calls Tryz.prog 14 #[.agg #[.slice fa fn fc, .int .i64 mn], .int .i64 b] w fun e w' => ∃ ao c, e = .returned (.agg #[.slice ao fn c, .int .i64 mn]) /\ Fus w' ao c (FS.map (rnF b)) /\ Below w.heap.size w w' := by
 obtain ⟨W0, hW0⟩ : ∃ W, W = ((w.alloc (.cells #[.slice fa fn fc, .int .i64 mn] 24)).alloc (.cells #[.slice none 0 0, .int .i64 0] 24)).alloc (.cells #[.slice none 0 0, .int .i64 mn] 24) := ⟨_, rfl⟩
 have HL0 : Hid (NO w W0 fa fn fc mn (.slice none 0 0) [] FS b 0) := by
  rw [hW0]
  refine ⟨?_, ?_, ?_, Row.nil _ _ _ _, rfl, fun i h => by simp at h, (((Below.refl _ _).alloc (Nat.le_refl _) _).alloc (by simp) _).alloc (by simp; omega) _⟩
  ·rw [heap_alloc_old _ _ (by simp; omega), heap_alloc_old _ _ (by simp)]; exact heap_alloc_new _ _
  ·rw [heap_alloc_old _ _ (by simp)]
   have := heap_alloc_new (w.alloc (.cells #[.slice fa fn fc, .int .i64 mn] 24)) (.cells #[.slice none 0 0, .int .i64 0] 24)
   simpa using this
  ·have := heap_alloc_new ((w.alloc (.cells #[.slice fa fn fc, .int .i64 mn] 24)).alloc (.cells #[.slice none 0 0, .int .i64 0] 24)) (.cells #[.slice none 0 0, .int .i64 mn] 24)
   simpa using this
 have HF : Hid (Fus w fa fc FS) := hF
 have HEF : Hid (fn = FS.length) := ef
 have HFW : Hid (∀ f ∈ FS, Few9 f) := hfew
 have HRR : Hid (∀ f ∈ FS, RR f) := hrr
 have hfx : fn <= fc /\ fc <= 9223372036854775807 := by have := hF.le; have := hF.mx; omega
 clear hF ef hfew hrr
 go_enter Tryz.func14, Tryz.ntmps14
 go_upto_region 2 with fail
 rw [<- hW0]
 clear hW0
 try simp only [World.alloc_size]
 go_wp2_with fail
 go_loopw [6] (fun v wr => ∃ (k : Nat) (lv : Value) (xs : List (List Value)), k <= fn /\ v = .int .i64 k /\ Hid (NO w wr fa fn fc mn lv xs FS b k)) (fun v _ => fn - (intOf v).toNat)
 case atStart => exact ⟨0, _, _, by omega, rfl, HL0⟩
 case round =>
  clear HL0
  obtain ⟨wo, rfl⟩ : ∃ wo, wo = wr := ⟨_, rfl⟩
  obtain ⟨k, lv, xs, hk, rfl, HO⟩ := hrel
  have k0 : wo.cell? ⟨w.heap.size, 0, none⟩ = some (.slice fa fn fc) := cell_arr HO.out.src rfl
  have hl0 : w.heap.size < wo.heap.size := (gl HO.out.src)
  have hl1 : w.heap.size + 1 < wo.heap.size := (gl HO.out.res)
  have hl2 : w.heap.size + 2 < wo.heap.size := (gl HO.out.box)
  by_cases hlt : k < fn
  ·have hkf : k < FS.length := by have := HEF.out; omega
   obtain ⟨b0, o0, ka, kc, la, lc, ma, mc, ea, hlt0, d0, d1, d2, d3, d4, j1, j2, j3⟩ := HF.out.at hkf
   rw [ea] at k0
   have hlw := HO.out.bel
   have c0 := (hlw.cell (p := ⟨b0, o0 + k * 5, none⟩) hlt0).trans d0
   have c1 := (hlw.cell (p := ⟨b0, o0 + k * 5 + 1, none⟩) hlt0).trans d1
   have c2 := (hlw.cell (p := ⟨b0, o0 + k * 5 + 2, none⟩) hlt0).trans d2
   have c3 := (hlw.cell (p := ⟨b0, o0 + k * 5 + 3, none⟩) hlt0).trans d3
   have c4 := (hlw.cell (p := ⟨b0, o0 + k * 5 + 4, none⟩) hlt0).trans d4
   have hb0 : b0 < wo.heap.size := by have := hlw.size; omega
   have hfw := HFW.out _ (List.getElem_mem hkf)
   have hrf := HRR.out _ (List.getElem_mem hkf)
   obtain ⟨f, hf⟩ : ∃ f, f = FS[k] := ⟨_, rfl⟩
   rw [<- hf] at c0 c1 c2 c3 c4 j1 j2 j3 hfw hrf
   obtain ⟨pn, hpn⟩ : ∃ n, n = f.params.length := ⟨_, rfl⟩
   obtain ⟨vn, hvn⟩ : ∃ n, n = f.vals.length := ⟨_, rfl⟩
   obtain ⟨bn, hbn⟩ : ∃ n, n = f.blks.length := ⟨_, rfl⟩
   obtain ⟨s, hs⟩ : ∃ n, n = f.name := ⟨_, rfl⟩
   obtain ⟨r, hr⟩ : ∃ n, n = f.result := ⟨_, rfl⟩
   rw [<- hs] at c0
   rw [<- hpn] at c1
   rw [<- hr] at c2
   rw [<- hvn] at c3
   rw [<- hbn] at c4
   have hpm : pn <= 10000000 := by have := hfw.p; omega
   have hvm : vn <= 10000000 := by have := hfw.v; omega
   have hbm : bn <= 10000000 := by have := hfw.b; omega
   have HE : Hid (f = FS[k] /\ pn = f.params.length /\ vn = f.vals.length /\ bn = f.blks.length /\ s = f.name /\ r = f.result) := ⟨hf, hpn, hvn, hbn, hs, hr⟩
   have HW9 : Hid (Few9 f) := hfw
   have HRF : Hid (RR f) := hrf
   have HJ1 : Hid (Ints w ka kc f.params) := j1
   have HJ2 : Hid (Vls w la lc f.vals) := j2
   have HJ3 : Hid (Bks w ma mc f.blks) := j3
   have hlac : vn <= lc /\ lc <= 9223372036854775807 := by have := j2.le; have := j2.mx; omega
   have hmac : bn <= mc /\ mc <= 9223372036854775807 := by have := j3.le; have := j3.mx; omega
   obtain ⟨AA, hAA⟩ : ∃ A : Array Value, A = #[.string s, .slice ka pn kc, .int .i64 r, .slice la vn lc, .slice ma bn mc] := ⟨_, rfl⟩
   have HAA : Hid (AA = #[.string s, .slice ka pn kc, .int .i64 r, .slice la vn lc, .slice ma bn mc]) := hAA
   clear hAA
   obtain ⟨W1, hW1⟩ : ∃ W, W = wo.alloc (.cells #[.string s, .slice ka pn kc, .int .i64 r, .slice la vn lc, .slice ma bn mc] 38) := ⟨_, rfl⟩
   obtain ⟨B3, hB3⟩ : ∃ B, B = wo.heap.size := ⟨_, rfl⟩
   have HB1 : Hid (Below wo.heap.size wo W1) := by rw [hW1]; exact below_new _ _
   have HK1 : Hid (W1.heap[B3]? = some (.cells #[.string s, .slice ka pn kc, .int .i64 r, .slice la vn lc, .slice ma bn mc] 38 (0, 0))) := by rw [hW1, hB3]; exact heap_alloc_new wo _
   have HS1 : Hid (wo.heap.size < W1.heap.size) := by rw [hW1]; show _ < _; simp
   have HBE : Hid (B3 = wo.heap.size) := hB3
   have HWW : Hid (∀ w', Below W1.heap.size W1 w' -> Below w.heap.size w w') := fun w' hb => (HO.out.bel.trans (HB1.out.mono HO.out.bel.size)).trans (hb.mono (by have := HO.out.bel.size; have := HB1.out.size; omega))
   have HRM : Hid (∀ w', Below W1.heap.size W1 w' -> Calls Tryz.prog 23 #[.slice ka pn kc, .int .i64 vn, .int .i64 b] w' fun e w'' => ∃ xa xc, e = .returned (.slice xa pn xc) /\ pn <= xc /\ xc <= 9223372036854775807 /\ IN w'' w'.heap.size xa xc (f.params.map (rnI f.vals.length b)) /\ Below w'.heap.size w' w'') := fun w' hb => by
    have := others_any w' (HJ1.out.below (HWW.out w' hb) (Nat.le_refl _)) HE.out.2.1 hpm vn b (by rw [HE.out.2.2.1]; exact HRF.out.rp) hvm (by omega)
    rw [HE.out.2.2.1] at this
    rw [HE.out.2.2.1]
    exact this
   have HSS : Hid (∀ w', Below W1.heap.size W1 w' -> (fun w' : World => w'.cell? ⟨B3, 0, none⟩ = some (.string s) /\ w'.cell? ⟨B3, 2, none⟩ = some (.int .i64 r) /\ w'.cell? ⟨B3, 1, none⟩ = some (.slice ka pn kc)) w') := fun w' hb => by
    have := (hb.block B3 (by have := HS1.out; have := HBE.out; omega)).trans HK1.out
    exact ⟨cell_arr this rfl, cell_arr this rfl, cell_arr this rfl⟩
   clear hf hpn hvn hbn hs hr hfw hrf j1 j2 j3 d0 d1 d2 d3 d4 hlw ea
   go_upto_region 6 with fail
   rw [<- hW1]
   rw [<- hB3]
   clear hW1 hB3 c0 c1 c2 c3 c4 k0
   have y3 : W1.cell? ⟨B3, 3, none⟩ = some (.slice la vn lc) := cell_arr HK1.out rfl
   have hB3l : B3 < W1.heap.size := (gl HK1.out)
   go_upto_region 7 with fail
   clear y3
   go_cut [9] from 33 to 44 (fun gv wc => ∃ (gb vb : Nat) (pa : Option Addr) (pc : Nat), gv = .pointer (some ⟨gb, 0, none⟩) /\ Hid (NV wo wc AA gb vb s pa pn pc r vn (zv vn) f b 0))
   case first =>
    refine led_startS (z := 100) HSS.out (by kernel_rfl) ?_
    show led _ _ _ _ _ 14 _ _ _
    have hmk := run_vals vn (by omega)
    obtain ⟨Z0, hZ0⟩ : ∃ W, W = W1.drew := ⟨_, rfl⟩
    have hbZ0 : Below W1.heap.size W1 Z0 := by rw [hZ0]; exact (Below.refl _ _).drew
    rw [<- hZ0]
    clear hZ0
    have S0 := HSS.out Z0 hbZ0
    refine led_nF 0 S0 ?_
    refine led_nF 1 S0 ?_
    refine led_nF 2 S0 ?_
    refine led_nF 3 S0 ?_
    refine led_nF 4 S0 ?_
    refine led_nF 6 S0 ?_
    refine led_nF 7 S0 ?_
    refine led_nF 8 S0 ?_
    refine led_nF 9 S0 ?_
    apply three_ways (A := fun vb gb xa xc X => MK W1 X vb gb xa xc vn (f.params.map (rnI f.vals.length b)))
    case h =>
     intro key
     refine led_three (i := 5) (j := 10) (m := 12) rfl rfl rfl (by kernel_rfl) ?_ ?_ ?_
     ·intro K5 hK5
      rw [if_pos (by rfl)]
      go_simp
      obtain ⟨Y1, hY1⟩ : ∃ W, W = Z0.alloc (.cells (zv vn).flatten.toArray 42) := ⟨_, rfl⟩
      have hc : Below Z0.heap.size Z0 Y1 := by rw [hY1]; exact below_new _ _
      have hbY1 : Below W1.heap.size W1 Y1 := hbZ0.trans (hc.mono hbZ0.size)
      obtain ⟨vb, hvb⟩ : ∃ B, B = Z0.heap.size := ⟨_, rfl⟩
      have kv : Y1.heap[vb]? = some (.cells (zv vn).flatten.toArray 42 (0, 0)) := by rw [hY1, hvb]; exact heap_alloc_new _ _
      have lvb : W1.heap.size <= vb := by have := hbZ0.size; omega
      rw [<- hY1, <- hvb]
      clear hY1 hvb
      have SY1 := HSS.out Y1 hbY1
      clear hc
      refine hK5 _ _ (fun _ => SY1) ?_
      clear hK5
      try simp only [Act.put, zi, zz, zs]
      refine led_two (i := 10) (j := 12) rfl rfl (by kernel_rfl) ?_ ?_
      ·intro K10 hK10
       rw [if_pos (by rfl)]
       go_simp
       refine (HRM.out Y1 hbY1).mono ?_
       rintro e Y2 ⟨xa, xc, rfl, hx1, hx2, hM, hc⟩
       have hbY2 : Below W1.heap.size W1 Y2 := hbY1.trans (hc.mono hbY1.size)
       have kp : IN Y2 W1.heap.size xa xc (f.params.map (rnI f.vals.length b)) := hM.lower hbY1.size
       replace kv := (hc.block _ (gl kv)).trans kv
       have SY2 := HSS.out Y2 hbY2
       clear hc
       refine hK10 _ _ (fun _ => SY2) ?_
       clear hK10
       try simp only [Act.put, zi, zz, zs]
       refine led_nF 11 SY2 ?_
       refine led_one (i := 12) rfl (by kernel_rfl) ?_
       intro K12 hK12
       rw [if_pos (by rfl)]
       go_simp
       obtain ⟨Y3, hY3⟩ : ∃ W, W = Y2.alloc (.cells #[.string ⟨#[]⟩, .slice none 0 0, .int .i64 0, .slice none 0 0, .slice none 0 0] 38) := ⟨_, rfl⟩
       have hc : Below Y2.heap.size Y2 Y3 := by rw [hY3]; exact below_new _ _
       have hbY3 : Below W1.heap.size W1 Y3 := hbY2.trans (hc.mono hbY2.size)
       obtain ⟨gb, hgb⟩ : ∃ B, B = Y2.heap.size := ⟨_, rfl⟩
       have kg : Y3.heap[gb]? = some (.cells #[.string ⟨#[]⟩, .slice none 0 0, .int .i64 0, .slice none 0 0, .slice none 0 0] 38 (0, 0)) := by rw [hY3, hgb]; exact heap_alloc_new _ _
       have lgb : W1.heap.size <= gb := by have := hbY2.size; omega
       rw [<- hY3, <- hgb]
       clear hY3 hgb
       replace kv := (hc.block _ (gl kv)).trans kv
       replace kp := kp.below hc
       have SY3 := HSS.out Y3 hbY3
       clear hc
       refine hK12 _ _ (fun _ => SY3) ?_
       clear hK12
       try simp only [Act.put, zi, zz, zs]
       refine led_l (l' := #[true, true, true, true, true, true, true, true, true, true, true, true, true, false]) (by kernel_rfl) ?_
       exact key vb gb xa xc Y3 ⟨hbY3, kv, kg, kp, lvb, lgb⟩
      ·intro K12 hK12
       rw [if_pos (by rfl)]
       go_simp
       obtain ⟨Y2, hY2⟩ : ∃ W, W = Y1.alloc (.cells #[.string ⟨#[]⟩, .slice none 0 0, .int .i64 0, .slice none 0 0, .slice none 0 0] 38) := ⟨_, rfl⟩
       have hc : Below Y1.heap.size Y1 Y2 := by rw [hY2]; exact below_new _ _
       have hbY2 : Below W1.heap.size W1 Y2 := hbY1.trans (hc.mono hbY1.size)
       obtain ⟨gb, hgb⟩ : ∃ B, B = Y1.heap.size := ⟨_, rfl⟩
       have kg : Y2.heap[gb]? = some (.cells #[.string ⟨#[]⟩, .slice none 0 0, .int .i64 0, .slice none 0 0, .slice none 0 0] 38 (0, 0)) := by rw [hY2, hgb]; exact heap_alloc_new _ _
       have lgb : W1.heap.size <= gb := by have := hbY1.size; omega
       rw [<- hY2, <- hgb]
       clear hY2 hgb
       replace kv := (hc.block _ (gl kv)).trans kv
       have SY2 := HSS.out Y2 hbY2
       clear hc
       refine hK12 _ _ (fun _ => SY2) ?_
       clear hK12
       try simp only [Act.put, zi, zz, zs]
       refine led_one (i := 10) rfl (by kernel_rfl) ?_
       intro K10 hK10
       rw [if_pos (by rfl)]
       go_simp
       refine (HRM.out Y2 hbY2).mono ?_
       rintro e Y3 ⟨xa, xc, rfl, hx1, hx2, hM, hc⟩
       have hbY3 : Below W1.heap.size W1 Y3 := hbY2.trans (hc.mono hbY2.size)
       have kp : IN Y3 W1.heap.size xa xc (f.params.map (rnI f.vals.length b)) := hM.lower hbY2.size
       replace kv := (hc.block _ (gl kv)).trans kv
       replace kg := (hc.block _ (gl kg)).trans kg
       have SY3 := HSS.out Y3 hbY3
       clear hc
       refine hK10 _ _ (fun _ => SY3) ?_
       clear hK10
       try simp only [Act.put, zi, zz, zs]
       refine led_nF 11 SY3 ?_
       refine led_l (l' := #[true, true, true, true, true, true, true, true, true, true, true, true, true, false]) (by kernel_rfl) ?_
       exact key vb gb xa xc Y3 ⟨hbY3, kv, kg, kp, lvb, lgb⟩
     ·intro K10 hK10
      rw [if_pos (by rfl)]
      go_simp
      refine (HRM.out Z0 hbZ0).mono ?_
      rintro e Y1 ⟨xa, xc, rfl, hx1, hx2, hM, hc⟩
      have hbY1 : Below W1.heap.size W1 Y1 := hbZ0.trans (hc.mono hbZ0.size)
      have kp : IN Y1 W1.heap.size xa xc (f.params.map (rnI f.vals.length b)) := hM.lower hbZ0.size
      have SY1 := HSS.out Y1 hbY1
      clear hc
      refine hK10 _ _ (fun _ => SY1) ?_
      clear hK10
      try simp only [Act.put, zi, zz, zs]
      refine led_two (i := 5) (j := 12) rfl rfl (by kernel_rfl) ?_ ?_
      ·intro K5 hK5
       rw [if_pos (by rfl)]
       go_simp
       obtain ⟨Y2, hY2⟩ : ∃ W, W = Y1.alloc (.cells (zv vn).flatten.toArray 42) := ⟨_, rfl⟩
       have hc : Below Y1.heap.size Y1 Y2 := by rw [hY2]; exact below_new _ _
       have hbY2 : Below W1.heap.size W1 Y2 := hbY1.trans (hc.mono hbY1.size)
       obtain ⟨vb, hvb⟩ : ∃ B, B = Y1.heap.size := ⟨_, rfl⟩
       have kv : Y2.heap[vb]? = some (.cells (zv vn).flatten.toArray 42 (0, 0)) := by rw [hY2, hvb]; exact heap_alloc_new _ _
       have lvb : W1.heap.size <= vb := by have := hbY1.size; omega
       rw [<- hY2, <- hvb]
       clear hY2 hvb
       replace kp := kp.below hc
       have SY2 := HSS.out Y2 hbY2
       clear hc
       refine hK5 _ _ (fun _ => SY2) ?_
       clear hK5
       try simp only [Act.put, zi, zz, zs]
       refine led_nF 11 SY2 ?_
       refine led_one (i := 12) rfl (by kernel_rfl) ?_
       intro K12 hK12
       rw [if_pos (by rfl)]
       go_simp
       obtain ⟨Y3, hY3⟩ : ∃ W, W = Y2.alloc (.cells #[.string ⟨#[]⟩, .slice none 0 0, .int .i64 0, .slice none 0 0, .slice none 0 0] 38) := ⟨_, rfl⟩
       have hc : Below Y2.heap.size Y2 Y3 := by rw [hY3]; exact below_new _ _
       have hbY3 : Below W1.heap.size W1 Y3 := hbY2.trans (hc.mono hbY2.size)
       obtain ⟨gb, hgb⟩ : ∃ B, B = Y2.heap.size := ⟨_, rfl⟩
       have kg : Y3.heap[gb]? = some (.cells #[.string ⟨#[]⟩, .slice none 0 0, .int .i64 0, .slice none 0 0, .slice none 0 0] 38 (0, 0)) := by rw [hY3, hgb]; exact heap_alloc_new _ _
       have lgb : W1.heap.size <= gb := by have := hbY2.size; omega
       rw [<- hY3, <- hgb]
       clear hY3 hgb
       replace kp := kp.below hc
       replace kv := (hc.block _ (gl kv)).trans kv
       have SY3 := HSS.out Y3 hbY3
       clear hc
       refine hK12 _ _ (fun _ => SY3) ?_
       clear hK12
       try simp only [Act.put, zi, zz, zs]
       refine led_l (l' := #[true, true, true, true, true, true, true, true, true, true, true, true, true, false]) (by kernel_rfl) ?_
       exact key vb gb xa xc Y3 ⟨hbY3, kv, kg, kp, lvb, lgb⟩
      ·intro K12 hK12
       rw [if_pos (by rfl)]
       go_simp
       obtain ⟨Y2, hY2⟩ : ∃ W, W = Y1.alloc (.cells #[.string ⟨#[]⟩, .slice none 0 0, .int .i64 0, .slice none 0 0, .slice none 0 0] 38) := ⟨_, rfl⟩
       have hc : Below Y1.heap.size Y1 Y2 := by rw [hY2]; exact below_new _ _
       have hbY2 : Below W1.heap.size W1 Y2 := hbY1.trans (hc.mono hbY1.size)
       obtain ⟨gb, hgb⟩ : ∃ B, B = Y1.heap.size := ⟨_, rfl⟩
       have kg : Y2.heap[gb]? = some (.cells #[.string ⟨#[]⟩, .slice none 0 0, .int .i64 0, .slice none 0 0, .slice none 0 0] 38 (0, 0)) := by rw [hY2, hgb]; exact heap_alloc_new _ _
       have lgb : W1.heap.size <= gb := by have := hbY1.size; omega
       rw [<- hY2, <- hgb]
       clear hY2 hgb
       replace kp := kp.below hc
       have SY2 := HSS.out Y2 hbY2
       clear hc
       refine hK12 _ _ (fun _ => SY2) ?_
       clear hK12
       try simp only [Act.put, zi, zz, zs]
       refine led_one (i := 5) rfl (by kernel_rfl) ?_
       intro K5 hK5
       rw [if_pos (by rfl)]
       go_simp
       obtain ⟨Y3, hY3⟩ : ∃ W, W = Y2.alloc (.cells (zv vn).flatten.toArray 42) := ⟨_, rfl⟩
       have hc : Below Y2.heap.size Y2 Y3 := by rw [hY3]; exact below_new _ _
       have hbY3 : Below W1.heap.size W1 Y3 := hbY2.trans (hc.mono hbY2.size)
       obtain ⟨vb, hvb⟩ : ∃ B, B = Y2.heap.size := ⟨_, rfl⟩
       have kv : Y3.heap[vb]? = some (.cells (zv vn).flatten.toArray 42 (0, 0)) := by rw [hY3, hvb]; exact heap_alloc_new _ _
       have lvb : W1.heap.size <= vb := by have := hbY2.size; omega
       rw [<- hY3, <- hvb]
       clear hY3 hvb
       replace kp := kp.below hc
       replace kg := (hc.block _ (gl kg)).trans kg
       have SY3 := HSS.out Y3 hbY3
       clear hc
       refine hK5 _ _ (fun _ => SY3) ?_
       clear hK5
       try simp only [Act.put, zi, zz, zs]
       refine led_nF 11 SY3 ?_
       refine led_l (l' := #[true, true, true, true, true, true, true, true, true, true, true, true, true, false]) (by kernel_rfl) ?_
       exact key vb gb xa xc Y3 ⟨hbY3, kv, kg, kp, lvb, lgb⟩
     ·intro K12 hK12
      rw [if_pos (by rfl)]
      go_simp
      obtain ⟨Y1, hY1⟩ : ∃ W, W = Z0.alloc (.cells #[.string ⟨#[]⟩, .slice none 0 0, .int .i64 0, .slice none 0 0, .slice none 0 0] 38) := ⟨_, rfl⟩
      have hc : Below Z0.heap.size Z0 Y1 := by rw [hY1]; exact below_new _ _
      have hbY1 : Below W1.heap.size W1 Y1 := hbZ0.trans (hc.mono hbZ0.size)
      obtain ⟨gb, hgb⟩ : ∃ B, B = Z0.heap.size := ⟨_, rfl⟩
      have kg : Y1.heap[gb]? = some (.cells #[.string ⟨#[]⟩, .slice none 0 0, .int .i64 0, .slice none 0 0, .slice none 0 0] 38 (0, 0)) := by rw [hY1, hgb]; exact heap_alloc_new _ _
      have lgb : W1.heap.size <= gb := by have := hbZ0.size; omega
      rw [<- hY1, <- hgb]
      clear hY1 hgb
      have SY1 := HSS.out Y1 hbY1
      clear hc
      refine hK12 _ _ (fun _ => SY1) ?_
      clear hK12
      try simp only [Act.put, zi, zz, zs]
      refine led_two (i := 5) (j := 10) rfl rfl (by kernel_rfl) ?_ ?_
      ·intro K5 hK5
       rw [if_pos (by rfl)]
       go_simp
       obtain ⟨Y2, hY2⟩ : ∃ W, W = Y1.alloc (.cells (zv vn).flatten.toArray 42) := ⟨_, rfl⟩
       have hc : Below Y1.heap.size Y1 Y2 := by rw [hY2]; exact below_new _ _
       have hbY2 : Below W1.heap.size W1 Y2 := hbY1.trans (hc.mono hbY1.size)
       obtain ⟨vb, hvb⟩ : ∃ B, B = Y1.heap.size := ⟨_, rfl⟩
       have kv : Y2.heap[vb]? = some (.cells (zv vn).flatten.toArray 42 (0, 0)) := by rw [hY2, hvb]; exact heap_alloc_new _ _
       have lvb : W1.heap.size <= vb := by have := hbY1.size; omega
       rw [<- hY2, <- hvb]
       clear hY2 hvb
       replace kg := (hc.block _ (gl kg)).trans kg
       have SY2 := HSS.out Y2 hbY2
       clear hc
       refine hK5 _ _ (fun _ => SY2) ?_
       clear hK5
       try simp only [Act.put, zi, zz, zs]
       refine led_one (i := 10) rfl (by kernel_rfl) ?_
       intro K10 hK10
       rw [if_pos (by rfl)]
       go_simp
       refine (HRM.out Y2 hbY2).mono ?_
       rintro e Y3 ⟨xa, xc, rfl, hx1, hx2, hM, hc⟩
       have hbY3 : Below W1.heap.size W1 Y3 := hbY2.trans (hc.mono hbY2.size)
       have kp : IN Y3 W1.heap.size xa xc (f.params.map (rnI f.vals.length b)) := hM.lower hbY2.size
       replace kg := (hc.block _ (gl kg)).trans kg
       replace kv := (hc.block _ (gl kv)).trans kv
       have SY3 := HSS.out Y3 hbY3
       clear hc
       refine hK10 _ _ (fun _ => SY3) ?_
       clear hK10
       try simp only [Act.put, zi, zz, zs]
       refine led_nF 11 SY3 ?_
       refine led_l (l' := #[true, true, true, true, true, true, true, true, true, true, true, true, true, false]) (by kernel_rfl) ?_
       exact key vb gb xa xc Y3 ⟨hbY3, kv, kg, kp, lvb, lgb⟩
      ·intro K10 hK10
       rw [if_pos (by rfl)]
       go_simp
       refine (HRM.out Y1 hbY1).mono ?_
       rintro e Y2 ⟨xa, xc, rfl, hx1, hx2, hM, hc⟩
       have hbY2 : Below W1.heap.size W1 Y2 := hbY1.trans (hc.mono hbY1.size)
       have kp : IN Y2 W1.heap.size xa xc (f.params.map (rnI f.vals.length b)) := hM.lower hbY1.size
       replace kg := (hc.block _ (gl kg)).trans kg
       have SY2 := HSS.out Y2 hbY2
       clear hc
       refine hK10 _ _ (fun _ => SY2) ?_
       clear hK10
       try simp only [Act.put, zi, zz, zs]
       refine led_one (i := 5) rfl (by kernel_rfl) ?_
       intro K5 hK5
       rw [if_pos (by rfl)]
       go_simp
       obtain ⟨Y3, hY3⟩ : ∃ W, W = Y2.alloc (.cells (zv vn).flatten.toArray 42) := ⟨_, rfl⟩
       have hc : Below Y2.heap.size Y2 Y3 := by rw [hY3]; exact below_new _ _
       have hbY3 : Below W1.heap.size W1 Y3 := hbY2.trans (hc.mono hbY2.size)
       obtain ⟨vb, hvb⟩ : ∃ B, B = Y2.heap.size := ⟨_, rfl⟩
       have kv : Y3.heap[vb]? = some (.cells (zv vn).flatten.toArray 42 (0, 0)) := by rw [hY3, hvb]; exact heap_alloc_new _ _
       have lvb : W1.heap.size <= vb := by have := hbY2.size; omega
       rw [<- hY3, <- hvb]
       clear hY3 hvb
       replace kg := (hc.block _ (gl kg)).trans kg
       replace kp := kp.below hc
       have SY3 := HSS.out Y3 hbY3
       clear hc
       refine hK5 _ _ (fun _ => SY3) ?_
       clear hK5
       try simp only [Act.put, zi, zz, zs]
       refine led_nF 11 SY3 ?_
       refine led_l (l' := #[true, true, true, true, true, true, true, true, true, true, true, true, true, false]) (by kernel_rfl) ?_
       exact key vb gb xa xc Y3 ⟨hbY3, kv, kg, kp, lvb, lgb⟩
    case g =>
     intro vb gb xa xc X M
     have SX := HSS.out X M.bel
     obtain ⟨wz, hwz⟩ : ∃ W, W = ((((X.setCell ⟨gb, 0, none⟩ (.string s)).setCell ⟨gb, 1, none⟩ (.slice xa pn xc)).setCell ⟨gb, 2, none⟩ (.int .i64 r)).setCell ⟨gb, 3, none⟩ (.slice (some ⟨vb, 0, none⟩) vn vn)).setCell ⟨gb, 4, none⟩ (.slice none 0 0) := ⟨_, rfl⟩
     have HVV : Hid (NV wo wz AA gb vb s xa pn xc r vn (zv vn) f b 0) := by rw [hwz]; exact NV.start (by rw [<- HBE.out, HAA.out]; exact HK1.out) HB1.out HS1.out HE.out.2.2.1 M
     have Sz := HSS.out wz (by rw [hwz]; have := M.lg; exact ((((M.bel.setCell this _).setCell this _).setCell this _).setCell this _).setCell this _)
     have q0 : X.cell? ⟨gb, 0, none⟩ = some (.string ⟨#[]⟩) := cell_arr M.kg rfl
     have q1 : X.cell? ⟨gb, 1, none⟩ = some (.slice none 0 0) := cell_arr M.kg rfl
     have q2 : X.cell? ⟨gb, 2, none⟩ = some (.int .i64 0) := cell_arr M.kg rfl
     have q3 : X.cell? ⟨gb, 3, none⟩ = some (.slice none 0 0) := cell_arr M.kg rfl
     have q4 : X.cell? ⟨gb, 4, none⟩ = some (.slice none 0 0) := cell_arr M.kg rfl
     have z0 : X.frozen? ⟨gb, 0, none⟩ = false := fz_of M.kg
     have z1 : X.frozen? ⟨gb, 1, none⟩ = false := fz_of M.kg
     have z2 : X.frozen? ⟨gb, 2, none⟩ = false := fz_of M.kg
     have z3 : X.frozen? ⟨gb, 3, none⟩ = false := fz_of M.kg
     have z4 : X.frozen? ⟨gb, 4, none⟩ = false := fz_of M.kg
     have HWZ : Hid _ := hwz
     clear hwz M
     refine led_one (i := 13) rfl (by kernel_rfl) ?_
     intro K13 hK13
     rw [if_pos (by rfl)]
     go_simp
     rw [<- HWZ.out]
     refine hK13 _ _ (fun _ => Sz) ?_
     clear hK13 HWZ q0 q1 q2 q3 q4 z0 z1 z2 z3 z4 S0 SX Sz hmk
     try simp only [Act.put, zi, zz, zs]
     refine led_done (by kernel_rfl) ?_
     go_wp2_with fail
     go_meet
     case rel => exact ⟨_, _, _, _, rfl, HVV⟩
   case rest =>
    obtain ⟨gb, vb, pa, pc, rfl, HV⟩ := hcut
    clear HSS HRM
    go_wp2_with fail
    go_loopw [10] (fun v wq => ∃ (j : Nat) (xs : List (List Value)), j <= vn /\ v = .int .i64 j /\ Hid (NV wo wq AA gb vb s pa pn pc r vn xs f b j)) (fun v _ => vn - (intOf v).toNat)
    case atStart => exact ⟨0, _, by omega, rfl, HV⟩
    case round =>
     clear HV
     obtain ⟨wq, rfl⟩ : ∃ wq, wq = wr := ⟨_, rfl⟩
     obtain ⟨j, xs2, hj, rfl, HV⟩ := hrel
     have kq : wq.cell? ⟨B3, 3, none⟩ = some (.slice la vn lc) := cell_arr (by rw [HBE.out]; exact HV.out.src) (by rw [HAA.out]; rfl)
     have hB3q : B3 < wq.heap.size := by rw [HBE.out]; exact (gl HV.out.src)
     have hgl : gb < wq.heap.size := (gl HV.out.box)
     have HBW : Hid (Below w.heap.size w wq) := HO.out.bel.trans (HV.out.bel.mono HO.out.bel.size)
     by_cases hjv : j < vn
     ·have hjf : j < f.vals.length := by have := HE.out.2.2.1; omega
      obtain ⟨bv, ov, aa, ac, ea, hlv, r0, r1, r2, r3, ri⟩ := HJ2.out.at4 hjf
      rw [ea] at kq
      have p0 := (HBW.out.cell (p := ⟨bv, ov + j * 4, none⟩) hlv).trans r0
      have p1 := (HBW.out.cell (p := ⟨bv, ov + j * 4 + 1, none⟩) hlv).trans r1
      have p2 := (HBW.out.cell (p := ⟨bv, ov + j * 4 + 2, none⟩) hlv).trans r2
      have p3 := (HBW.out.cell (p := ⟨bv, ov + j * 4 + 3, none⟩) hlv).trans r3
      have hbvl : bv < wq.heap.size := by have := HBW.out.size; omega
      have hal9 := HW9.out.a _ (List.getElem_mem hjf)
      obtain ⟨op, hop⟩ : ∃ x, x = f.vals[j].op := ⟨_, rfl⟩
      obtain ⟨ty, hty⟩ : ∃ x, x = f.vals[j].ty := ⟨_, rfl⟩
      obtain ⟨imm, him⟩ : ∃ x, x = f.vals[j].imm := ⟨_, rfl⟩
      obtain ⟨al, hal⟩ : ∃ x, x = f.vals[j].args.length := ⟨_, rfl⟩
      rw [<- hop] at p0
      rw [<- hty] at p1
      rw [<- him] at p2
      rw [<- hal] at p3 hal9
      obtain ⟨W2, hW2⟩ : ∃ W, W = wq.alloc (.cells #[.int .i64 op, .int .i64 ty, .int .i64 imm, .slice aa al ac] 42) := ⟨_, rfl⟩
      obtain ⟨VB, hVB⟩ : ∃ B, B = wq.heap.size := ⟨_, rfl⟩
      have b2 : Below wq.heap.size wq W2 := by rw [hW2]; exact below_new _ _
      have hk2 : W2.heap[VB]? = some (.cells #[.int .i64 op, .int .i64 ty, .int .i64 imm, .slice aa al ac] 42) := by rw [hW2, hVB]; exact heap_alloc_new wq _
      have HD2 : Hid (NV wo W2 AA gb vb s pa pn pc r vn xs2 f b j) := HV.out.keep b2
      have HVE : Hid (op = f.vals[j].op /\ ty = f.vals[j].ty /\ imm = f.vals[j].imm /\ al = f.vals[j].args.length) := ⟨hop, hty, him, hal⟩
      have htn := rnI_tn f.vals.length b
      have hjw : wi f.vals.length (j : Int) = true := by simp only [wi, decide_eq_true_eq]; omega
      have hj2w := htn.rg _ hjw
      simp only [wi, decide_eq_true_eq] at hj2w
      obtain ⟨j2, hj2⟩ : ∃ x : Nat, rnI f.vals.length b (j : Int) = x := ⟨(rnI f.vals.length b (j : Int)).toNat, by omega⟩
      have HRJ : Hid (rnI f.vals.length b (j : Int) = j2) := hj2
      have hj2v : j2 < vn := by have := HE.out.2.2.1; omega
      have HTU : Hid (∀ w' : World, Calls Tryz.prog 24 #[.int .i64 j, .int .i64 vn, .int .i64 b] w' fun e w'' => e = .returned (.int .i64 (j2 : Int)) /\ w'' = w') := fun w' => by
       have := turned_any w' (j : Int) vn b (by omega) hvm (by omega)
       rw [show rnI vn b (j : Int) = j2 by rw [HE.out.2.2.1]; exact hj2] at this
       exact this
      have HOT : Hid (∀ w', Below W2.heap.size W2 w' -> Calls Tryz.prog 23 #[.slice aa al ac, .int .i64 vn, .int .i64 b] w' fun e w'' => ∃ xa xc, e = .returned (.slice xa al xc) /\ al <= xc /\ xc <= 9223372036854775807 /\ IN w'' w'.heap.size xa xc (f.vals[j].args.map (rnI f.vals.length b)) /\ Below w'.heap.size w' w'') := fun w' hb' => by
       have hB : Below w.heap.size w w' := (HBW.out.trans (b2.mono HBW.out.size)).trans (hb'.mono (by have := HBW.out.size; have := b2.size; omega))
       have := others_any w' (ri.below hB (Nat.le_refl _)) hal hal9 vn b (by rw [HE.out.2.2.1]; exact HRF.out.ra _ (List.getElem_mem hjf)) hvm (by omega)
       rw [HE.out.2.2.1] at this
       rw [HE.out.2.2.1]
       exact this
      have HSS : Hid (∀ w', Below W2.heap.size W2 w' -> (fun w' : World => w'.cell? ⟨gb, 3, none⟩ = some (.slice (some ⟨vb, 0, none⟩) vn vn) /\ w'.cell? ⟨VB, 0, none⟩ = some (.int .i64 op) /\ w'.cell? ⟨VB, 1, none⟩ = some (.int .i64 ty) /\ w'.cell? ⟨VB, 2, none⟩ = some (.int .i64 imm) /\ w'.cell? ⟨VB, 3, none⟩ = some (.slice aa al ac)) w') := fun w' hb => by
       have e1 := (hb.block gb (gl HD2.out.box)).trans HD2.out.box
       have e2 := (hb.block VB (gl hk2)).trans hk2
       exact ⟨cell_arr e1 rfl, cell_arr e2 rfl, cell_arr e2 rfl, cell_arr e2 rfl, cell_arr e2 rfl⟩
      have HANY : Hid (∀ w', Below W2.heap.size W2 w' -> (∃ z, w'.cell? ⟨vb, j2 * 4, none⟩ = some z) /\ (∃ z, w'.cell? ⟨vb, j2 * 4 + 1, none⟩ = some z) /\ (∃ z, w'.cell? ⟨vb, j2 * 4 + 2, none⟩ = some z) /\ (∃ z, w'.cell? ⟨vb, j2 * 4 + 3, none⟩ = some z)) := fun w' hb' => by
       have D := (HD2.out.keep hb').vr
       have hx : j2 < xs2.length := by rw [D.len, <- HE.out.2.2.1]; exact hj2v
       have h4 := D.z _ (List.getElem_mem hx)
       have e : xs2.getD j2 [] = xs2[j2] := by simp [hx]
       have hj3 : j2 < f.vals.length := by rw [<- HE.out.2.2.1]; exact hj2v
       have g : ∀ r (hr : r < 4), ∃ z, w'.cell? ⟨vb, j2 * 4 + r, none⟩ = some z := fun r hr => ⟨_, D.cell hj3 hr (by rw [e]; exact List.getElem?_eq_getElem (by omega))⟩
       have g0 := g 0 (by omega)
       rw [Nat.add_zero] at g0
       exact ⟨g0, g 1 (by omega), g 2 (by omega), g 3 (by omega)⟩
      clear hk2 b2 hop hty him hal r0 r1 r2 r3 ri hj2 hj2w hjw htn ea
      go_upto_region 12 with fail
      rw [<- hW2]
      rw [<- hVB]
      clear hW2 hVB p0 p1 p2 p3 kq
      refine led_startS (z := 19) HSS.out (by kernel_rfl) ?_
      obtain ⟨Z0, hZ0⟩ : ∃ W, W = W2.drew := ⟨_, rfl⟩
      have hbZ0 : Below W2.heap.size W2 Z0 := by rw [hZ0]; exact (Below.refl _ _).drew
      rw [<- hZ0]
      clear hZ0
      have S0 := HSS.out Z0 hbZ0
      refine led_n 0 S0 ?_
      refine led_n 1 S0 ?_
      refine led_n 2 S0 ?_
      refine led_n 3 S0 ?_
      refine led_n 4 S0 ?_
      refine led_n 6 S0 ?_
      refine led_n 7 S0 ?_
      refine led_n 8 S0 ?_
      refine led_n 9 S0 ?_
      refine led_n 10 S0 ?_
      refine led_n 11 S0 ?_
      refine led_n 12 S0 ?_
      refine led_n 13 S0 ?_
      refine led_n 14 S0 ?_
      refine led_n 15 S0 ?_
      refine led_one (i := 5) rfl (by kernel_rfl) ?_
      intro K5 hK5
      rw [if_pos (by rfl)]
      go_simp
      refine (HTU.out Z0).mono ?_
      rintro e w9 ⟨rfl, h9⟩
      rw [h9]
      clear h9 w9
      refine hK5 _ _ (fun _ => S0) ?_
      clear hK5
      try simp only [Act.put, zi, zz, zs]
      refine led_one (i := 16) rfl (by kernel_rfl) ?_
      intro K16 hK16
      rw [if_pos (by rfl)]
      go_simp
      refine (HOT.out Z0 hbZ0).mono ?_
      rintro e w3 ⟨xa, xc, rfl, hx1, hx2, hM, hc⟩
      have hb3 : Below W2.heap.size W2 w3 := hbZ0.trans (hc.mono hbZ0.size)
      have S3 := HSS.out w3 hb3
      refine hK16 _ _ (fun _ => S3) ?_
      clear hK16
      try simp only [Act.put, zi, zz, zs]
      refine led_n 17 S3 ?_
      have D3 := HD2.out.keep hb3
      have hE : VN w3 wo.heap.size [.int .i64 op, .int .i64 ty, .int .i64 imm, .slice xa al xc] (rnV (rnI f.vals.length b) f.vals[j]) := by
       refine ⟨xa, xc, ?_, (hM.lower (by have := hbZ0.size; have := HD2.out.bel.size; omega))⟩
       rw [HVE.out.1, HVE.out.2.1, HVE.out.2.2.1, HVE.out.2.2.2]
       simp [rnV]
      have HDN : Hid _ := D3.put hjf HRJ.out hE
      obtain ⟨⟨t0, q0⟩, ⟨t1, q1⟩, ⟨t2, q2⟩, ⟨t3, q3⟩⟩ := HANY.out w3 hb3
      have fz := fz_of (i := j2 * 4) D3.vr.row
      have fz1 := fz_of (i := j2 * 4 + 1) D3.vr.row
      have fz2 := fz_of (i := j2 * 4 + 2) D3.vr.row
      have fz3 := fz_of (i := j2 * 4 + 3) D3.vr.row
      have hvl : vb < w3.heap.size := D3.vr.lt
      clear D3 hE
      refine led_one (i := 18) rfl (by kernel_rfl) ?_
      intro K18 hK18
      rw [if_pos (by rfl)]
      go_simp
      refine hK18 _ _ (fun _ => S3) ?_
      clear hK18
      try simp only [Act.put, zi, zz, zs]
      refine led_one (i := 19) rfl (by kernel_rfl) ?_
      intro K19 hK19
      rw [if_pos (by rfl)]
      go_simp
      refine hK19 _ _ (fun h => absurd rfl h) ?_
      clear hK19 S0 S3 hM hc hbZ0 hb3 q0 q1 q2 q3 fz fz1 fz2 fz3
      refine led_done (by kernel_rfl) ?_
      go_wp2_with fail
      go_roundw
      case rel => exact ⟨j + 1, _, by omega, by go_num, HDN.out⟩
      case measure => simp [intOf]; omega
     ·go_wp2_with fail
      have HNB : Hid (NB wo wq AA gb vb s pa pn pc r vn xs2 (.slice none 0 0) [] f b 0) := by
       have e : j = f.vals.length := by have := HE.out.2.2.1; omega
       have := HV.out
       rw [e] at this
       exact this.done
      clear HV kq
      go_loopw [12] (fun v wq => ∃ (i : Nat) (bv : Value) (ys : List (List Value)), i <= bn /\ v = .int .i64 i /\ Hid (NB wo wq AA gb vb s pa pn pc r vn xs2 bv ys f b i)) (fun v _ => bn - (intOf v).toNat)
      case atStart => exact ⟨0, _, _, by omega, rfl, HNB⟩
      case round =>
       clear HNB HBW
       obtain ⟨wq, rfl⟩ : ∃ wq, wq = wr := ⟨_, rfl⟩
       obtain ⟨i, bv, ys, hi, rfl, HV⟩ := hrel
       have kq : wq.cell? ⟨B3, 4, none⟩ = some (.slice ma bn mc) := cell_arr (by rw [HBE.out]; exact HV.out.src) (by rw [HAA.out]; rfl)
       have hB3q : B3 < wq.heap.size := by rw [HBE.out]; exact (gl HV.out.src)
       have hgl : gb < wq.heap.size := (gl HV.out.box)
       have HBW : Hid (Below w.heap.size w wq) := HO.out.bel.trans (HV.out.bel.mono HO.out.bel.size)
       by_cases hib : i < bn
       ·have hif : i < f.blks.length := by have := HE.out.2.2.2.1; omega
        obtain ⟨xb, xo, k1a, k1c, k2a, k2c, k3a, k3c, k4a, k4c, ea, hlx, r0, r1, r2, r3, r4, r5, i1, i2, i3, i4⟩ := HJ3.out.at hif
        rw [ea] at kq
        have p0 := (HBW.out.cell (p := ⟨xb, xo + i * 6, none⟩) hlx).trans r0
        have p1 := (HBW.out.cell (p := ⟨xb, xo + i * 6 + 1, none⟩) hlx).trans r1
        have p2 := (HBW.out.cell (p := ⟨xb, xo + i * 6 + 2, none⟩) hlx).trans r2
        have p3 := (HBW.out.cell (p := ⟨xb, xo + i * 6 + 3, none⟩) hlx).trans r3
        have p4 := (HBW.out.cell (p := ⟨xb, xo + i * 6 + 4, none⟩) hlx).trans r4
        have p5 := (HBW.out.cell (p := ⟨xb, xo + i * 6 + 5, none⟩) hlx).trans r5
        have hxbl : xb < wq.heap.size := by have := HBW.out.size; omega
        obtain ⟨hm1, hm2, hm3, hm4⟩ := HW9.out.l _ (List.getElem_mem hif)
        obtain ⟨rr1, rr2, rr3⟩ := HRF.out.rb _ (List.getElem_mem hif)
        obtain ⟨bk, hbk⟩ : ∃ x, x = f.blks[i] := ⟨_, rfl⟩
        rw [<- hbk] at p0 p1 p2 p3 p4 p5 hm1 hm2 hm3 hm4 rr1 rr2 rr3 i1 i2 i3 i4
        obtain ⟨l1, e1⟩ : ∃ x, x = bk.phis.length := ⟨_, rfl⟩
        obtain ⟨l2, e2⟩ : ∃ x, x = bk.body.length := ⟨_, rfl⟩
        obtain ⟨l3, e3⟩ : ∃ x, x = bk.ways.length := ⟨_, rfl⟩
        obtain ⟨l4, e4⟩ : ∃ x, x = bk.preds.length := ⟨_, rfl⟩
        obtain ⟨kd, e5⟩ : ∃ x, x = bk.kind := ⟨_, rfl⟩
        obtain ⟨vl, e6⟩ : ∃ x, x = bk.val := ⟨_, rfl⟩
        rw [<- e1] at p0 hm1
        rw [<- e2] at p1 hm2
        rw [<- e5] at p2
        rw [<- e6] at p3
        rw [<- e3] at p4 hm3
        rw [<- e4] at p5 hm4
        obtain ⟨W2, hW2⟩ : ∃ W, W = wq.alloc (.cells #[.slice k1a l1 k1c, .slice k2a l2 k2c, .int .i64 kd, .int .i64 vl, .slice k3a l3 k3c, .slice k4a l4 k4c] 46) := ⟨_, rfl⟩
        obtain ⟨BB, hBB⟩ : ∃ B, B = wq.heap.size := ⟨_, rfl⟩
        have HBBQ : Hid (wq.heap.size <= BB) := by show _ <= _; omega
        have b2 : Below wq.heap.size wq W2 := by rw [hW2]; exact below_new _ _
        have hk2 : W2.heap[BB]? = some (.cells #[.slice k1a l1 k1c, .slice k2a l2 k2c, .int .i64 kd, .int .i64 vl, .slice k3a l3 k3c, .slice k4a l4 k4c] 46) := by rw [hW2, hBB]; exact heap_alloc_new wq _
        have HKB : Hid (W2.heap[BB]? = some (.cells #[.slice k1a l1 k1c, .slice k2a l2 k2c, .int .i64 kd, .int .i64 vl, .slice k3a l3 k3c, .slice k4a l4 k4c] 46)) := hk2
        have HD2 : Hid (NB wo W2 AA gb vb s pa pn pc r vn xs2 bv ys f b i) := HV.out.keep b2
        have HLN : Hid (l1 = bk.phis.length /\ l2 = bk.body.length /\ l3 = bk.ways.length /\ l4 = bk.preds.length /\ kd = bk.kind /\ vl = bk.val /\ bk = f.blks[i]) := ⟨e1, e2, e3, e4, e5, e6, hbk⟩
        have hWW : ∀ w', Below W2.heap.size W2 w' -> Below w.heap.size w w' := fun w' hb => (HBW.out.trans (b2.mono HBW.out.size)).trans (hb.mono (by have := HBW.out.size; have := b2.size; omega))
        obtain ⟨tv, htv⟩ : ∃ x, x = rnI f.vals.length b vl := ⟨_, rfl⟩
        have HTV : Hid (tv = rnI f.vals.length b vl) := htv
        have HTU : Hid (∀ w' : World, Calls Tryz.prog 24 #[.int .i64 vl, .int .i64 vn, .int .i64 b] w' fun e w'' => e = .returned (.int .i64 tv) /\ w'' = w') := fun w' => by
         have := turned_any w' vl vn b (by have := HE.out.2.2.1; omega) hvm (by omega)
         rw [show rnI vn b vl = tv by rw [htv, HE.out.2.2.1]] at this
         exact this
        have HO1 : Hid (∀ w', Below W2.heap.size W2 w' -> Calls Tryz.prog 23 #[.slice k1a l1 k1c, .int .i64 vn, .int .i64 b] w' fun e w'' => ∃ xa xc, e = .returned (.slice xa l1 xc) /\ l1 <= xc /\ xc <= 9223372036854775807 /\ IN w'' w'.heap.size xa xc (bk.phis.map (rnI f.vals.length b)) /\ Below w'.heap.size w' w'') := fun w' hb' => by
         have := others_any w' (i1.below (hWW w' hb') (Nat.le_refl _)) e1 hm1 vn b (by rw [HE.out.2.2.1]; exact rr1) hvm (by omega)
         rw [HE.out.2.2.1] at this
         rw [HE.out.2.2.1]
         exact this
        have HO2 : Hid (∀ w', Below W2.heap.size W2 w' -> Calls Tryz.prog 23 #[.slice k2a l2 k2c, .int .i64 vn, .int .i64 b] w' fun e w'' => ∃ xa xc, e = .returned (.slice xa l2 xc) /\ l2 <= xc /\ xc <= 9223372036854775807 /\ IN w'' w'.heap.size xa xc (bk.body.map (rnI f.vals.length b)) /\ Below w'.heap.size w' w'') := fun w' hb' => by
         have := others_any w' (i2.below (hWW w' hb') (Nat.le_refl _)) e2 hm2 vn b (by rw [HE.out.2.2.1]; exact rr2) hvm (by omega)
         rw [HE.out.2.2.1] at this
         rw [HE.out.2.2.1]
         exact this
        have HI3 : Hid (∀ w', Below W2.heap.size W2 w' -> Ints w' k3a k3c bk.ways) := fun w' hb' => i3.below (hWW w' hb') (Nat.le_refl _)
        have HI4 : Hid (∀ w', Below W2.heap.size W2 w' -> Ints w' k4a k4c bk.preds) := fun w' hb' => i4.below (hWW w' hb') (Nat.le_refl _)
        have HSS : Hid (∀ w', Below W2.heap.size W2 w' -> (fun w' : World => w'.cell? ⟨BB, 2, none⟩ = some (.int .i64 kd) /\ w'.cell? ⟨BB, 3, none⟩ = some (.int .i64 vl) /\ w'.cell? ⟨BB, 4, none⟩ = some (.slice k3a l3 k3c)) w') := fun w' hb => by
         have e2 := (hb.block BB (gl HKB.out)).trans HKB.out
         exact ⟨cell_arr e2 rfl, cell_arr e2 rfl, cell_arr e2 rfl⟩
        clear hk2 b2 e1 e2 e3 e4 e5 e6 hbk r0 r1 r2 r3 r4 r5 i1 i2 i3 i4 ea htv hWW rr1 rr2 rr3
        go_upto_region 17 with fail
        rw [<- hW2]
        rw [<- hBB]
        clear hW2 hBB p0 p1 p2 p3 p4 p5 kq
        go_cut [14] from 86 to 99 (fun gv wc => ∃ (tb : Nat) (xa : Option Addr) (xc : Nat), gv = .pointer (some ⟨tb, 0, none⟩) /\ Hid (wc.heap[tb]? = some (.cells #[.int .i64 kd, .int .i64 tv, .slice xa l3 xc] 44 (0, 0))) /\ Hid (IN wc W2.heap.size xa xc bk.ways) /\ Hid (Below W2.heap.size W2 wc))
        case first =>
         refine led_startS (z := 100) HSS.out (by kernel_rfl) ?_
         show led _ _ _ _ _ 16 _ _ _
         obtain ⟨Z0, hZ0⟩ : ∃ W, W = W2.drew := ⟨_, rfl⟩
         have hbZ0 : Below W2.heap.size W2 Z0 := by rw [hZ0]; exact (Below.refl _ _).drew
         rw [<- hZ0]
         clear hZ0
         have SZ0 := HSS.out Z0 hbZ0
         refine led_nF 0 SZ0 ?_
         refine led_nF 1 SZ0 ?_
         refine led_nF 2 SZ0 ?_
         refine led_nF 3 SZ0 ?_
         refine led_nF 4 SZ0 ?_
         refine led_nF 5 SZ0 ?_
         refine led_nF 6 SZ0 ?_
         refine led_nF 7 SZ0 ?_
         refine led_nF 9 SZ0 ?_
         refine led_nF 10 SZ0 ?_
         refine led_nF 11 SZ0 ?_
         apply list_ways (A := fun tb xa xc X => MT W2 X tb xa xc bk.ways)
         case h =>
          intro key
          refine led_two (i := 8) (j := 14) rfl rfl (by kernel_rfl) ?_ ?_
          ·intro K8 hK8
           rw [if_pos (by rfl)]
           go_simp
           refine (HTU.out Z0).mono ?_
           rintro e w9 ⟨rfl, h9⟩
           rw [h9]
           clear h9 w9
           refine hK8 _ _ (fun _ => SZ0) ?_
           clear hK8
           try simp only [Act.put, zi, zz, zs]
           refine led_two (i := 12) (j := 14) rfl rfl (by kernel_rfl) ?_ ?_
           ·intro K12 hK12
            refine step_append_manyG rfl _ _ rfl Z0.heap.size (.slice none 0 0) 0 [] rfl (OwnI.nil _ _) k3a l3 k3c bk.ways rfl HLN.out.2.2.1 (HI3.out Z0 hbZ0) (by omega) (Nat.le_refl _) ?_
            intro v5 Y2 h5 g5
            rw [Nat.zero_add, List.nil_append] at h5
            obtain ⟨xa, xc, e5, hx1, hx2, hM⟩ := IN.of_own h5
            subst e5
            have hc : Below Z0.heap.size Z0 Y2 := g5.bel
            have hbY2 : Below W2.heap.size W2 Y2 := hbZ0.trans (hc.mono hbZ0.size)
            have kp : IN Y2 W2.heap.size xa xc bk.ways := hM.lower hbZ0.size
            clear h5 g5
            have SY2 := HSS.out Y2 hbY2
            clear hc
            refine hK12 _ _ (fun _ => SY2) ?_
            clear hK12
            try simp only [Act.put, zi, zz, zs]
            refine led_nF 13 SY2 ?_
            refine led_one (i := 14) rfl (by kernel_rfl) ?_
            intro K14 hK14
            rw [if_pos (by rfl)]
            go_simp
            obtain ⟨Y3, hY3⟩ : ∃ W, W = Y2.alloc (.cells #[.int .i64 0, .int .i64 0, .slice none 0 0] 44) := ⟨_, rfl⟩
            have hc : Below Y2.heap.size Y2 Y3 := by rw [hY3]; exact below_new _ _
            have hbY3 : Below W2.heap.size W2 Y3 := hbY2.trans (hc.mono hbY2.size)
            obtain ⟨tb, htb⟩ : ∃ B, B = Y2.heap.size := ⟨_, rfl⟩
            have kt : Y3.heap[tb]? = some (.cells #[.int .i64 0, .int .i64 0, .slice none 0 0] 44 (0, 0)) := by rw [hY3, htb]; exact heap_alloc_new _ _
            have ltb : W2.heap.size <= tb := by have := hbY2.size; omega
            rw [<- hY3, <- htb]
            clear hY3 htb
            replace kp := kp.below hc
            have SY3 := HSS.out Y3 hbY3
            clear hc
            refine hK14 _ _ (fun _ => SY3) ?_
            clear hK14
            try simp only [Act.put, zi, zz, zs]
            refine led_l (l' := #[true, true, true, true, true, true, true, true, true, true, true, true, true, true, true, false]) (by kernel_rfl) ?_
            exact key tb xa xc Y3 ⟨hbY3, kt, kp, ltb⟩
           ·intro K14 hK14
            rw [if_pos (by rfl)]
            go_simp
            obtain ⟨Y2, hY2⟩ : ∃ W, W = Z0.alloc (.cells #[.int .i64 0, .int .i64 0, .slice none 0 0] 44) := ⟨_, rfl⟩
            have hc : Below Z0.heap.size Z0 Y2 := by rw [hY2]; exact below_new _ _
            have hbY2 : Below W2.heap.size W2 Y2 := hbZ0.trans (hc.mono hbZ0.size)
            obtain ⟨tb, htb⟩ : ∃ B, B = Z0.heap.size := ⟨_, rfl⟩
            have kt : Y2.heap[tb]? = some (.cells #[.int .i64 0, .int .i64 0, .slice none 0 0] 44 (0, 0)) := by rw [hY2, htb]; exact heap_alloc_new _ _
            have ltb : W2.heap.size <= tb := by have := hbZ0.size; omega
            rw [<- hY2, <- htb]
            clear hY2 htb
            have SY2 := HSS.out Y2 hbY2
            clear hc
            refine hK14 _ _ (fun _ => SY2) ?_
            clear hK14
            try simp only [Act.put, zi, zz, zs]
            refine led_one (i := 12) rfl (by kernel_rfl) ?_
            intro K12 hK12
            refine step_append_manyG rfl _ _ rfl Y2.heap.size (.slice none 0 0) 0 [] rfl (OwnI.nil _ _) k3a l3 k3c bk.ways rfl HLN.out.2.2.1 (HI3.out Y2 hbY2) (by omega) (Nat.le_refl _) ?_
            intro v5 Y3 h5 g5
            rw [Nat.zero_add, List.nil_append] at h5
            obtain ⟨xa, xc, e5, hx1, hx2, hM⟩ := IN.of_own h5
            subst e5
            have hc : Below Y2.heap.size Y2 Y3 := g5.bel
            have hbY3 : Below W2.heap.size W2 Y3 := hbY2.trans (hc.mono hbY2.size)
            have kp : IN Y3 W2.heap.size xa xc bk.ways := hM.lower hbY2.size
            clear h5 g5
            replace kt := (hc.block _ (gl kt)).trans kt
            have SY3 := HSS.out Y3 hbY3
            clear hc
            refine hK12 _ _ (fun _ => SY3) ?_
            clear hK12
            try simp only [Act.put, zi, zz, zs]
            refine led_nF 13 SY3 ?_
            refine led_l (l' := #[true, true, true, true, true, true, true, true, true, true, true, true, true, true, true, false]) (by kernel_rfl) ?_
            exact key tb xa xc Y3 ⟨hbY3, kt, kp, ltb⟩
          ·intro K14 hK14
           rw [if_pos (by rfl)]
           go_simp
           obtain ⟨Y1, hY1⟩ : ∃ W, W = Z0.alloc (.cells #[.int .i64 0, .int .i64 0, .slice none 0 0] 44) := ⟨_, rfl⟩
           have hc : Below Z0.heap.size Z0 Y1 := by rw [hY1]; exact below_new _ _
           have hbY1 : Below W2.heap.size W2 Y1 := hbZ0.trans (hc.mono hbZ0.size)
           obtain ⟨tb, htb⟩ : ∃ B, B = Z0.heap.size := ⟨_, rfl⟩
           have kt : Y1.heap[tb]? = some (.cells #[.int .i64 0, .int .i64 0, .slice none 0 0] 44 (0, 0)) := by rw [hY1, htb]; exact heap_alloc_new _ _
           have ltb : W2.heap.size <= tb := by have := hbZ0.size; omega
           rw [<- hY1, <- htb]
           clear hY1 htb
           have SY1 := HSS.out Y1 hbY1
           clear hc
           refine hK14 _ _ (fun _ => SY1) ?_
           clear hK14
           try simp only [Act.put, zi, zz, zs]
           refine led_one (i := 8) rfl (by kernel_rfl) ?_
           intro K8 hK8
           rw [if_pos (by rfl)]
           go_simp
           refine (HTU.out Y1).mono ?_
           rintro e w9 ⟨rfl, h9⟩
           rw [h9]
           clear h9 w9
           refine hK8 _ _ (fun _ => SY1) ?_
           clear hK8
           try simp only [Act.put, zi, zz, zs]
           refine led_one (i := 12) rfl (by kernel_rfl) ?_
           intro K12 hK12
           refine step_append_manyG rfl _ _ rfl Y1.heap.size (.slice none 0 0) 0 [] rfl (OwnI.nil _ _) k3a l3 k3c bk.ways rfl HLN.out.2.2.1 (HI3.out Y1 hbY1) (by omega) (Nat.le_refl _) ?_
           intro v5 Y3 h5 g5
           rw [Nat.zero_add, List.nil_append] at h5
           obtain ⟨xa, xc, e5, hx1, hx2, hM⟩ := IN.of_own h5
           subst e5
           have hc : Below Y1.heap.size Y1 Y3 := g5.bel
           have hbY3 : Below W2.heap.size W2 Y3 := hbY1.trans (hc.mono hbY1.size)
           have kp : IN Y3 W2.heap.size xa xc bk.ways := hM.lower hbY1.size
           clear h5 g5
           replace kt := (hc.block _ (gl kt)).trans kt
           have SY3 := HSS.out Y3 hbY3
           clear hc
           refine hK12 _ _ (fun _ => SY3) ?_
           clear hK12
           try simp only [Act.put, zi, zz, zs]
           refine led_nF 13 SY3 ?_
           refine led_l (l' := #[true, true, true, true, true, true, true, true, true, true, true, true, true, true, true, false]) (by kernel_rfl) ?_
           exact key tb xa xc Y3 ⟨hbY3, kt, kp, ltb⟩
         case g =>
          intro tb xa xc X M
          have SX := HSS.out X M.bel
          obtain ⟨wz, hwz⟩ : ∃ W, W = ((X.setCell ⟨tb, 0, none⟩ (.int .i64 kd)).setCell ⟨tb, 1, none⟩ (.int .i64 tv)).setCell ⟨tb, 2, none⟩ (.slice xa l3 xc) := ⟨_, rfl⟩
          have hlt9 := M.lt
          have hbz : Below W2.heap.size W2 wz := by rw [hwz]; exact ((M.bel.setCell hlt9 _).setCell hlt9 _).setCell hlt9 _
          have HTB : Hid (wz.heap[tb]? = some (.cells #[.int .i64 kd, .int .i64 tv, .slice xa l3 xc] 44 (0, 0))) := by rw [hwz]; exact box_three M.kt _ _ _
          have HTP : Hid (IN wz W2.heap.size xa xc bk.ways) := M.kp.move fun b' cs _ e => by
           have hne : b' ≠ tb := blk_type e M.kt (by decide)
           rw [hwz, heap_set_other hne, heap_set_other hne, heap_set_other hne]
          have HBZ : Hid (Below W2.heap.size W2 wz) := hbz
          have Sz := HSS.out wz hbz
          have q0 : X.cell? ⟨tb, 0, none⟩ = some (.int .i64 0) := cell_arr M.kt rfl
          have q1 : X.cell? ⟨tb, 1, none⟩ = some (.int .i64 0) := cell_arr M.kt rfl
          have q2 : X.cell? ⟨tb, 2, none⟩ = some (.slice none 0 0) := cell_arr M.kt rfl
          have z0 : X.frozen? ⟨tb, 0, none⟩ = false := fz_of M.kt
          have z1 : X.frozen? ⟨tb, 1, none⟩ = false := fz_of M.kt
          have z2 : X.frozen? ⟨tb, 2, none⟩ = false := fz_of M.kt
          have HWZ : Hid _ := hwz
          clear hwz M hbz
          refine led_one (i := 15) rfl (by kernel_rfl) ?_
          intro K15 hK15
          rw [if_pos (by rfl)]
          go_simp
          rw [<- HWZ.out]
          refine hK15 _ _ (fun _ => Sz) ?_
          clear hK15 HWZ q0 q1 q2 z0 z1 z2 SZ0 SX Sz
          try simp only [Act.put, zi, zz, zs]
          refine led_done (by kernel_rfl) ?_
          go_wp2_with fail
          go_meet
          case rel => exact ⟨_, _, _, rfl, HTB, HTP, HBZ⟩
        case rest =>
         obtain ⟨tb, xa, xc, rfl, HTB, HTP, HBZ⟩ := hcut
         obtain ⟨Wc, rfl⟩ : ∃ W, W = wc := ⟨_, rfl⟩
         clear HSS HTU
         have HDc : Hid (NB wo Wc AA gb vb s pa pn pc r vn xs2 bv ys f b i) := HD2.out.keep HBZ.out
         have HS8 : Hid (∀ w', Below Wc.heap.size Wc w' -> (fun w' : World => w'.cell? ⟨gb, 4, none⟩ = some bv /\ w'.cell? ⟨BB, 0, none⟩ = some (.slice k1a l1 k1c) /\ w'.cell? ⟨BB, 1, none⟩ = some (.slice k2a l2 k2c) /\ w'.cell? ⟨BB, 5, none⟩ = some (.slice k4a l4 k4c) /\ w'.cell? ⟨tb, 0, none⟩ = some (.int .i64 kd) /\ w'.cell? ⟨tb, 1, none⟩ = some (.int .i64 tv) /\ w'.cell? ⟨tb, 2, none⟩ = some (.slice xa l3 xc)) w') := fun w' hb => by
          have e1 := (hb.block gb (gl HDc.out.box)).trans HDc.out.box
          have e2 := ((HBZ.out.trans (hb.mono HBZ.out.size)).block BB (gl HKB.out)).trans HKB.out
          have e3 := (hb.block tb (gl HTB.out)).trans HTB.out
          exact ⟨cell_arr e1 rfl, cell_arr e2 rfl, cell_arr e2 rfl, cell_arr e2 rfl, cell_arr e3 rfl, cell_arr e3 rfl, cell_arr e3 rfl⟩
         have HPT : Hid (∀ (z4 : World) (x1 : Option Addr) (y1 : Nat) (x2 : Option Addr) (y2 : Nat) (x4 : Option Addr) (y4 : Nat), Below Wc.heap.size Wc z4 -> IN z4 Wc.heap.size x1 y1 (bk.phis.map (rnI f.vals.length b)) -> IN z4 Wc.heap.size x2 y2 (bk.body.map (rnI f.vals.length b)) -> IN z4 Wc.heap.size x4 y4 bk.preds -> ∀ v5 w5, Row w5 wo.heap.size 46 6 v5 (ys ++ [[.slice x1 l1 y1, .slice x2 l2 y2, .int .i64 kd, .int .i64 tv, .slice xa l3 xc, .slice x4 l4 y4]]) -> GI wo.heap.size (z4.alloc (.cells #[.slice x1 l1 y1, .slice x2 l2 y2, .int .i64 kd, .int .i64 tv, .slice xa l3 xc, .slice x4 l4 y4] 46)) w5 bv v5 -> NB wo (w5.setCell ⟨gb, 4, none⟩ v5) AA gb vb s pa pn pc r vn xs2 v5 (ys ++ [[.slice x1 l1 y1, .slice x2 l2 y2, .int .i64 kd, .int .i64 tv, .slice xa l3 xc, .slice x4 l4 y4]]) f b (i + 1) /\ (fun w' : World => w'.cell? ⟨gb, 4, none⟩ = some bv /\ w'.cell? ⟨BB, 0, none⟩ = some (.slice k1a l1 k1c) /\ w'.cell? ⟨BB, 1, none⟩ = some (.slice k2a l2 k2c) /\ w'.cell? ⟨BB, 5, none⟩ = some (.slice k4a l4 k4c) /\ w'.cell? ⟨tb, 0, none⟩ = some (.int .i64 kd) /\ w'.cell? ⟨tb, 1, none⟩ = some (.int .i64 tv) /\ w'.cell? ⟨tb, 2, none⟩ = some (.slice xa l3 xc)) w5 /\ w5.frozen? ⟨gb, 4, none⟩ = false) := by
          intro z4 x1 y1 x2 y2 x4 y4 hb m1 m2 m4 v5 w5 h5 g5
          have hb4 : Below Wc.heap.size Wc (z4.alloc (.cells #[.slice x1 l1 y1, .slice x2 l2 y2, .int .i64 kd, .int .i64 tv, .slice xa l3 xc, .slice x4 l4 y4] 46)) := hb.alloc hb.size _
          have h4 := HDc.out.keep hb4
          have hsz : wo.heap.size <= Wc.heap.size := HDc.out.bel.size
          have hE : BN (z4.alloc (.cells #[.slice x1 l1 y1, .slice x2 l2 y2, .int .i64 kd, .int .i64 tv, .slice xa l3 xc, .slice x4 l4 y4] 46)) wo.heap.size [.slice x1 l1 y1, .slice x2 l2 y2, .int .i64 kd, .int .i64 tv, .slice xa l3 xc, .slice x4 l4 y4] (rnB (rnI f.vals.length b) f.blks[i]) := by
           have e7 := HLN.out.2.2.2.2.2.2
           rw [<- e7]
           refine ⟨x1, y1, x2, y2, xa, xc, x4, y4, ?_, (m1.below (below_new _ _)).lower hsz, (m2.below (below_new _ _)).lower hsz, ((HTP.out.below hb).below (below_new _ _)).lower (by have := HD2.out.bel.size; omega), (m4.below (below_new _ _)).lower hsz⟩
           rw [HTV.out, HLN.out.1, HLN.out.2.1, HLN.out.2.2.1, HLN.out.2.2.2.1, HLN.out.2.2.2.2.1, HLN.out.2.2.2.2.2.1]
           simp [rnB]
          have nb : ∀ {x : Nat} {cs : Array Value} {t : TypeId}, (z4.alloc (.cells #[.slice x1 l1 y1, .slice x2 l2 y2, .int .i64 kd, .int .i64 tv, .slice xa l3 xc, .slice x4 l4 y4] 46)).heap[x]? = some (.cells cs t (0, 0)) -> t ≠ 46 -> w5.heap[x]? = some (.cells cs t (0, 0)) := fun {x cs t} e ht => (g5.blk x (gl e) (own_not h4.row.out e (fun q => ht q.symm))).trans e
          have kb5 := nb h4.box (by decide)
          have kt5 := nb ((hb4.block tb (gl HTB.out)).trans HTB.out) (by decide)
          have kB4 := ((HBZ.out.trans (hb4.mono HBZ.out.size)).block BB (gl HKB.out)).trans HKB.out
          have kB5 : w5.heap[BB]? = some (.cells #[.slice k1a l1 k1c, .slice k2a l2 k2c, .int .i64 kd, .int .i64 vl, .slice k3a l3 k3c, .slice k4a l4 k4c] 46) := by
           refine (g5.blk BB (gl kB4) fun q => ?_).trans kB4
           have := (own_block HV.out.row.out q).2
           have h9 := (gl HKB.out)
           have h8 := HBBQ.out
           omega
          exact ⟨h4.more hif h5 g5 hE, ⟨cell_arr kb5 rfl, cell_arr kB5 rfl, cell_arr kB5 rfl, cell_arr kB5 rfl, cell_arr kt5 rfl, cell_arr kt5 rfl, cell_arr kt5 rfl⟩, fz_of kb5⟩
         clear HTP HD2 HKB
         go_wp2_with fail
         refine led_startS (z := 20) HS8.out (by kernel_rfl) ?_
         obtain ⟨Z0, hZ0⟩ : ∃ W, W = Wc.drew := ⟨_, rfl⟩
         have hbZ0 : Below Wc.heap.size Wc Z0 := by rw [hZ0]; exact (Below.refl _ _).drew
         rw [<- hZ0]
         clear hZ0
         have S0 := HS8.out Z0 hbZ0
         refine led_n 0 S0 ?_
         refine led_n 1 S0 ?_
         refine led_n 2 S0 ?_
         refine led_n 3 S0 ?_
         refine led_n 4 S0 ?_
         refine led_n 5 S0 ?_
         refine led_n 7 S0 ?_
         refine led_n 8 S0 ?_
         refine led_n 9 S0 ?_
         refine led_n 10 S0 ?_
         refine led_n 12 S0 ?_
         refine led_n 13 S0 ?_
         refine led_n 15 S0 ?_
         refine led_one (i := 6) rfl (by kernel_rfl) ?_
         intro K6 hK6
         rw [if_pos (by rfl)]
         go_simp
         refine (HO1.out Z0 (HBZ.out.trans (hbZ0.mono HBZ.out.size))).mono ?_
         rintro e z1 ⟨x1, y1, rfl, u1, v1, hM1, hc1⟩
         have hbz1 : Below Wc.heap.size Wc z1 := hbZ0.trans (hc1.mono hbZ0.size)
         have SA1 := HS8.out z1 hbz1
         refine hK6 _ _ (fun _ => SA1) ?_
         clear hK6
         try simp only [Act.put, zi, zz, zs]
         refine led_one (i := 11) rfl (by kernel_rfl) ?_
         intro K11 hK11
         rw [if_pos (by rfl)]
         go_simp
         refine (HO2.out z1 (HBZ.out.trans (hbz1.mono HBZ.out.size))).mono ?_
         rintro e z2 ⟨x2, y2, rfl, u2, v2, hM2, hc2⟩
         have hbz2 : Below Wc.heap.size Wc z2 := hbz1.trans (hc2.mono hbz1.size)
         have SA2 := HS8.out z2 hbz2
         refine hK11 _ _ (fun _ => SA2) ?_
         clear hK11
         try simp only [Act.put, zi, zz, zs]
         refine led_one (i := 14) rfl (by kernel_rfl) ?_
         intro K14 hK14
         refine step_append_manyG rfl _ _ rfl z2.heap.size (.slice none 0 0) 0 [] rfl (OwnI.nil _ _) k4a l4 k4c bk.preds rfl HLN.out.2.2.2.1 (HI4.out z2 (HBZ.out.trans (hbz2.mono HBZ.out.size))) (by omega) (Nat.le_refl _) ?_
         intro v5 z4 h5 g5
         rw [Nat.zero_add, List.nil_append] at h5
         obtain ⟨x4, y4, e5, u4, v4, hM4⟩ := IN.of_own h5
         subst e5
         have hc4 : Below z2.heap.size z2 z4 := g5.bel
         have hbz4 : Below Wc.heap.size Wc z4 := hbz2.trans (hc4.mono hbz2.size)
         have SA4 := HS8.out z4 hbz4
         clear h5 g5
         refine hK14 _ _ (fun _ => SA4) ?_
         clear hK14
         try simp only [Act.put, zi, zz, zs]
         refine led_n 16 SA4 ?_
         have hb24 : Below Wc.heap.size Wc (z4.alloc (.cells #[.slice x1 l1 y1, .slice x2 l2 y2, .int .i64 kd, .int .i64 tv, .slice xa l3 xc, .slice x4 l4 y4] 46)) := hbz4.alloc hbz4.size _
         have SB := HS8.out _ hb24
         refine led_one (i := 17) rfl (by kernel_rfl) ?_
         intro K17 hK17
         rw [if_pos (by rfl)]
         go_simp
         refine hK17 _ _ (fun _ => SB) ?_
         clear hK17
         try simp only [Act.put, zi, zz, zs]
         have HRW : Hid (Row (z4.alloc (.cells #[.slice x1 l1 y1, .slice x2 l2 y2, .int .i64 kd, .int .i64 tv, .slice xa l3 xc, .slice x4 l4 y4] 46)) wo.heap.size 46 6 bv ys) := HDc.out.row.keep hb24
         have HP3 : Hid _ := HPT.out z4 x1 y1 x2 y2 x4 y4 hbz4 (((hM1.lower hbZ0.size).below hc2).below hc4) ((hM2.lower hbz1.size).below hc4) (hM4.lower hbz2.size)
         have hsz4 : wo.heap.size <= (z4.alloc (.cells #[.slice x1 l1 y1, .slice x2 l2 y2, .int .i64 kd, .int .i64 tv, .slice xa l3 xc, .slice x4 l4 y4] 46)).heap.size := by have := HDc.out.bel.size; have := hb24.size; omega
         refine led_one (i := 18) rfl (by kernel_rfl) ?_
         intro K18 hK18
         refine step_append_row rfl _ _ 36 46 6 _ 112 rfl Tryz.underlying36 info_bk9 rfl (by decide) (by decide) wo.heap.size bv ys (by simp [Act.eval]) HRW.out z4.heap.size (by simp [Act.eval]) [.slice x1 l1 y1, .slice x2 l2 y2, .int .i64 kd, .int .i64 tv, .slice xa l3 xc, .slice x4 l4 y4] rfl (cells_new9 z4 [.slice x1 l1 y1, .slice x2 l2 y2, .int .i64 kd, .int .i64 tv, .slice xa l3 xc, .slice x4 l4 y4] _) (fun u hu => by simp at hu; rcases hu with rfl | rfl | rfl | rfl | rfl | rfl <;> rfl) (by have := HDc.out.len; omega) hsz4 ?_
         intro v5 w5 h5 g5
         obtain ⟨a5, c5, e5, _, _⟩ := own_slice h5.out
         obtain ⟨n5, hn5⟩ : ∃ n, n = (ys ++ [([.slice x1 l1 y1, .slice x2 l2 y2, .int .i64 kd, .int .i64 tv, .slice xa l3 xc, .slice x4 l4 y4] : List Value)]).length := ⟨_, rfl⟩
         rw [<- hn5] at e5
         clear hn5
         subst e5
         have N := HP3.out _ w5 h5 g5
         have N1 : Hid _ := N.1
         have SC := N.2.1
         have fz5 := N.2.2
         have k5 := SC.1
         refine hK18 _ _ (fun _ => SC) ?_
         clear hK18 N
         try simp only [Act.put, zi, zz, zs]
         refine led_one (i := 19) rfl (by kernel_rfl) ?_
         intro K19 hK19
         rw [if_pos (by rfl)]
         go_simp
         refine hK19 _ _ (fun _ => SC) ?_
         clear hK19
         try simp only [Act.put, zi, zz, zs]
         refine led_one (i := 20) rfl (by kernel_rfl) ?_
         intro K20 hK20
         rw [if_pos (by rfl)]
         go_simp
         refine hK20 _ _ (fun h => absurd rfl h) ?_
         clear hK20 S0 SA1 SA2 SA4 SB SC fz5 k5 h5 g5 hM1 hM2 hM4 hc1 hc2 hc4 hbz1 hbz2 hbz4 hb24 HP3 HRW hbZ0
         refine led_done (by kernel_rfl) ?_
         go_wp2_with fail
         go_roundw
         case rel => exact ⟨i + 1, _, _, by omega, by go_num, N1.out⟩
         case measure => simp [intOf]; omega
       ·have hib2 : ¬ i < bn := hib
        have HOq : Hid (NO w wq fa fn fc mn lv xs FS b k) := HO.out.keep HV.out.bel
        have hFN : FN wq wo.heap.size [.string s, .slice pa pn pc, .int .i64 r, .slice (some ⟨vb, 0, none⟩) vn vn, bv] f b := by
         have h := HV.out
         obtain ⟨_, e1, e2, e3, e4, e5⟩ := HE.out
         have ei : i = f.blks.length := by omega
         subst e1 e2 e3 e4 e5 ei
         exact h.fn
        have HPT : Hid (∀ v7 w7, Row w7 w.heap.size 38 5 v7 (xs ++ [[.string s, .slice pa pn pc, .int .i64 r, .slice (some ⟨vb, 0, none⟩) vn vn, bv]]) -> GI w.heap.size (wq.alloc (.cells #[.string s, .slice pa pn pc, .int .i64 r, .slice (some ⟨vb, 0, none⟩) vn vn, bv] 38)) w7 lv v7 -> NO w (w7.setCell ⟨w.heap.size + 1 + 1, 0, none⟩ v7) fa fn fc mn v7 (xs ++ [[.string s, .slice pa pn pc, .int .i64 r, .slice (some ⟨vb, 0, none⟩) vn vn, bv]]) FS b (k + 1) /\ w7.cell? ⟨w.heap.size + 1 + 1, 0, none⟩ = some lv /\ w7.frozen? ⟨w.heap.size + 1 + 1, 0, none⟩ = false) := by
         intro v7 w7 h7 g7
         have h4 := HOq.out.keep (below_new wq (.cells #[.string s, .slice pa pn pc, .int .i64 r, .slice (some ⟨vb, 0, none⟩) vn vn, bv] 38))
         have hE : FN (wq.alloc (.cells #[.string s, .slice pa pn pc, .int .i64 r, .slice (some ⟨vb, 0, none⟩) vn vn, bv] 38)) w.heap.size [.string s, .slice pa pn pc, .int .i64 r, .slice (some ⟨vb, 0, none⟩) vn vn, bv] FS[k] b := by
          rw [<- HE.out.1]
          exact (hFN.move fun b' cs t _ e _ => (below_new wq _).block b' (gl e)).lower (by have := HO.out.bel.size; omega)
         have kb7 : w7.heap[w.heap.size + 2]? = _ := (g7.blk _ (gl h4.box) (own_not h4.row.out h4.box (by decide))).trans h4.box
         exact ⟨h4.more hkf h7 g7 hE, cell_arr kb7 rfl, fz_of kb7⟩
        obtain ⟨ab, cb, ebv, _, _⟩ := own_slice HV.out.row.out
        have HBV : Hid (Value.oneCell' bv = true) := by rw [ebv]; rfl
        clear ebv
        have HRW : Hid (Row (wq.alloc (.cells #[.string s, .slice pa pn pc, .int .i64 r, .slice (some ⟨vb, 0, none⟩) vn vn, bv] 38)) w.heap.size 38 5 lv xs) := HOq.out.row.keep (below_new _ _)
        have HNC : Hid (∀ j u, ([.string s, .slice pa pn pc, .int .i64 r, .slice (some ⟨vb, 0, none⟩) vn vn, bv] : List Value)[j]? = some u -> (wq.alloc (.cells #[.string s, .slice pa pn pc, .int .i64 r, .slice (some ⟨vb, 0, none⟩) vn vn, bv] 38)).cell? ((⟨wq.heap.size, 0, none⟩ : Addr).add j) = some u) := cells_new9 wq [.string s, .slice pa pn pc, .int .i64 r, .slice (some ⟨vb, 0, none⟩) vn vn, bv] _
        have hsz4 : w.heap.size <= (wq.alloc (.cells #[.string s, .slice pa pn pc, .int .i64 r, .slice (some ⟨vb, 0, none⟩) vn vn, bv] 38)).heap.size := by have := HOq.out.bel.size; simp; omega
        have hxl : xs.length + 1 <= 1000000000 := by have := HO.out.len; omega
        have n0 : wq.cell? ⟨w.heap.size + 1 + 1, 0, none⟩ = some lv := cell_arr HOq.out.box rfl
        have g0 : wq.cell? ⟨gb, 0, none⟩ = some (.string s) := cell_arr HV.out.box rfl
        have g1 : wq.cell? ⟨gb, 1, none⟩ = some (.slice pa pn pc) := cell_arr HV.out.box rfl
        have g2 : wq.cell? ⟨gb, 2, none⟩ = some (.int .i64 r) := cell_arr HV.out.box rfl
        have g3 : wq.cell? ⟨gb, 3, none⟩ = some (.slice (some ⟨vb, 0, none⟩) vn vn) := cell_arr HV.out.box rfl
        have g4 : wq.cell? ⟨gb, 4, none⟩ = some bv := cell_arr HV.out.box rfl
        have hwl2 : w.heap.size + 1 + 1 < wq.heap.size := (gl HOq.out.box)
        clear hFN
        go_upto_region 19 with fail
        clear kq
        go_wp2_with (first
         | (at_builtin; refine wpList_step fun K hK => ?_; refine step_append_row rfl _ _ 22 38 5 _ 96 rfl Tryz.underlying22 info_fn rfl (by decide) (by decide) w.heap.size lv xs rfl HRW.out wq.heap.size rfl [.string s, .slice pa pn pc, .int .i64 r, .slice (some ⟨vb, 0, none⟩) vn vn, bv] rfl HNC.out (fun u hu => by simp at hu; rcases hu with rfl | rfl | rfl | rfl | rfl <;> first | rfl | exact HBV.out) hxl hsz4 ?_; intro v7 w7 h7 g7; refine hK _ _ ?_; clear hK
            obtain ⟨a7, c7, e7, _, _⟩ := own_slice h7.out
            obtain ⟨n7, hn7⟩ : ∃ n, n = (xs ++ [([.string s, .slice pa pn pc, .int .i64 r, .slice (some ⟨vb, 0, none⟩) vn vn, bv] : List Value)]).length := ⟨_, rfl⟩
            rw [<- hn7] at e7
            clear hn7
            subst e7
            have N := HPT.out _ w7 h7 g7
            have N9 : Hid _ := N.1
            have k7 := N.2.1
            have fz7 := N.2.2
            clear N h7 g7)
         | go_in)
        go_roundw
        case rel => exact ⟨k + 1, _, _, by omega, by go_num, N9.out⟩
        case measure => simp [intOf]; omega
  ·have hkn : ¬ k < fn := hlt
   obtain ⟨ao, c, el, hFu⟩ := fus_of HO.out.row (by have := HO.out.len; have := HEF.out; omega) HO.out.el (fun f hf => (HFW.out f hf).v)
   subst el
   have n0 : wo.cell? ⟨w.heap.size + 1 + 1, 0, none⟩ = some (.slice ao FS.length c) := cell_arr HO.out.box rfl
   have n1 : wo.cell? ⟨w.heap.size + 1 + 1, 1, none⟩ = some (.int .i64 mn) := cell_arr HO.out.box rfl
   have m0 : wo.cell? ⟨w.heap.size + 1, 0, none⟩ = some (.slice none 0 0) := cell_arr HO.out.res rfl
   have m1 : wo.cell? ⟨w.heap.size + 1, 1, none⟩ = some (.int .i64 0) := cell_arr HO.out.res rfl
   have z0 : wo.frozen? ⟨w.heap.size + 1, 0, none⟩ = false := fz_of HO.out.res
   have z1 : wo.frozen? ⟨w.heap.size + 1, 1, none⟩ = false := fz_of HO.out.res
   have hl3 : w.heap.size + 1 + 1 < wo.heap.size := hl2
   obtain ⟨WX, hWX⟩ : ∃ W, W = (wo.setCell ⟨w.heap.size + 1, 0, none⟩ (.slice ao FS.length c)).setCell ⟨w.heap.size + 1, 1, none⟩ (.int .i64 mn) := ⟨_, rfl⟩
   have hoth : ∀ x, x ≠ w.heap.size + 1 -> WX.heap[x]? = wo.heap[x]? := fun x hne => by rw [hWX, heap_set_other hne, heap_set_other hne]
   have HFX : Hid (Fus WX ao c (FS.map (rnF b))) := by
    obtain ⟨ao2, c2, e2, h2⟩ := fus_of (wr := WX) (B := w.heap.size) (b := b) (HO.out.row.move fun g hg => hoth g fun q => own_not HO.out.row.out HO.out.res (by decide) (q ▸ hg)) (by have := HO.out.len; have := HEF.out; omega) (fun i h1 h2 => (HO.out.el i h1 h2).move fun b' cs t _ e hq => hoth b' (blk_type e HO.out.res (by rcases hq with rfl | rfl | rfl <;> decide))) (fun f hf => (HFW.out f hf).v)
    cases e2
    exact h2
   have HBX : Hid (Below w.heap.size w WX) := by rw [hWX]; exact (HO.out.bel.setCell (by show w.heap.size <= w.heap.size + 1; omega) _).setCell (by show w.heap.size <= w.heap.size + 1; omega) _
   have HRX : Hid (WX.heap[w.heap.size + 1]? = some (.cells #[.slice ao FS.length c, .int .i64 mn] 24 (0, 0))) := by
    have e1 := heap_set_at (i := 0) (v := .slice ao FS.length c) HO.out.res
    have e2 := heap_set_at (i := 1) (v := .int .i64 mn) e1
    rw [hWX, e2]; rfl
   have HWX : Hid _ := hWX
   have hln : Hid (FS.length = fn) := HEF.out.symm
   clear hWX hoth hFu
   go_wp2_with fail
   rw [<- HWX.out]
   refine bodyPost_ret (v := .agg #[.slice ao FS.length c, .int .i64 mn]) ?_ rfl ⟨ao, c, by rw [hln.out], HFX.out, HBX.out⟩
   exact results_cell_row Tryz.results14 _ _ (w.heap.size + 1) 24 _ (0, 0) _ rfl HRX.out Tryz.underlying24 rfl (by kernel_rfl)
end Go.Proofs.YtdbkjjelaipcfaaGreatDoor
