import Derived.Test.YtdbkjjelaipcfaaGreatDoorKaz
set_option linter.unusedVariables false
set_option linter.unusedSimpArgs false
namespace Go.Proofs.YtdbkjjelaipcfaaGreatDoor
open Go.ChangeShapes Go.WideShapes Go.ChangeAt Go.RowKit Go.Maps
theorem led_startM {P : Program} {id : Nat} {ops : Array Oper} {Q : Exit -> Act -> World -> Prop} {S : World -> Prop} {W w : World} {B z : Nat} {a : Act} (hS : ∀ w', Below B W w' -> S w') (hm : P.follows .mixedOrders = true) (h : led P ops Q S z ops.size (Array.replicate ops.size false) a w.drew) : (Code.region id ops true).wp P Q a w := led_start hm h
theorem info_pd : (Tryz.prog.info? 61).map (fun i => (i.zero, i.size, i.bytes)) = some (some (.agg #[.int .i64 0, .int .i64 0]), 2, 16) := by kernel_rfl
theorem run_placed (n : Nat) (h : n <= 100000000) (w : World) : (Instr.makeSlice 59 (.int .i64 (n : Int)) (.int .i64 (n : Int))).run Tryz.prog w = .ok (.slice (some ⟨w.heap.size, 0, none⟩) n n) (w.alloc (.cells (pvs (List.replicate n (0, 0))).toArray 61)) := by
 obtain ⟨i0, hi, hz0, hz1, hz2⟩ := info_parts info_pd
 have hr := run_make (P := Tryz.prog) w 59 61 i0 (.agg #[.int .i64 0, .int .i64 0]) Tryz.underlying59 hi hz0 .i64 .i64 n n (by omega) (by omega) (by rw [hz2]; omega) (by omega)
 simp only [Int.toNat_natCast, hz1] at hr
 rw [<- made_pairs]
 exact hr
structure MD (w wr : World) (A : Obj) (BB : Nat) (X : Obj) (gp gt n : Nat) (P : List (Int × Int)) (O : List Int) (K : Nat) : Prop where
 box : wr.heap[w.heap.size]? = some A
 bx : wr.heap[BB]? = some X
 pl : Pl wr gp n 61 P
 row : wr.heap[gt]? = some (.cells (ivs O).toArray 3 (0, 0))
 len : O.length = n
 bd : ∀ i, 0 <= O.getD i 0 /\ O.getD i 0 <= (K : Int)
 bel : Below w.heap.size w wr
theorem MD.next {w wr w' A BB X gp gt n P O K} (h : MD w wr A BB X gp gt n P O K) (hb : Below wr.heap.size wr w') : MD w w' A BB X gp gt n P O K :=
 ⟨(hb.block _ (gl h.box)).trans h.box, (hb.block _ (gl h.bx)).trans h.bx, h.pl.keep hb, (hb.block _ (gl h.row)).trans h.row, h.len, h.bd, h.bel.trans (hb.mono h.bel.size)⟩
theorem MD.rebox {w wr A BB X gp gt n P O K} (h : MD w wr A BB X gp gt n P O K) {B2 : Nat} {Y : Obj} (hk : wr.heap[B2]? = some Y) : MD w wr A B2 Y gp gt n P O K := ⟨h.box, hk, h.pl, h.row, h.len, h.bd, h.bel⟩
theorem MD.putP {w wr A BB X gp gt n P O K} (h : MD w wr A BB X gp gt n P O K) (h1 : w.heap.size < gp) (h2 : gt ≠ gp) (h3 : BB ≠ gp) {i : Nat} (hi : i < n) (a b : Int) : MD w ((wr.setCell ⟨gp, i * 2, none⟩ (.int .i64 a)).setCell ⟨gp, i * 2 + 1, none⟩ (.int .i64 b)) A BB X gp gt n (P.set i (a, b)) O K :=
 ⟨(heap_set_other (by omega)).trans ((heap_set_other (by omega)).trans h.box), (heap_set_other h3).trans ((heap_set_other h3).trans h.bx), h.pl.put hi a b, (heap_set_other h2).trans ((heap_set_other h2).trans h.row), h.len, h.bd, (h.bel.setCell (by show w.heap.size <= gp; omega) _).setCell (by show w.heap.size <= gp; omega) _⟩
theorem MD.putT {w wr A BB X gp gt n P O K} (h : MD w wr A BB X gp gt n P O K) (h1 : w.heap.size < gt) (h2 : gp ≠ gt) (h3 : BB ≠ gt) {i : Nat} (hi : i < n) : MD w (wr.setCell ⟨gt, i, none⟩ (.int .i64 (O.getD i 0 + 1))) A BB X gp gt n P (O.set i (O.getD i 0 + 1)) (K + 1) := by
 refine ⟨(heap_set_other (by omega)).trans h.box, (heap_set_other h3).trans h.bx, ⟨(heap_set_other h2).trans h.pl.row, h.pl.len⟩, ?_, by simpa using h.len, fun j => ?_, h.bel.setCell (by show w.heap.size <= gt; omega) _⟩
 ·have := heap_set_at (i := i) (v := .int .i64 (O.getD i 0 + 1)) h.row
  rw [this, ivs_set]
 ·have h4 := h.bd i
  have h5 := h.bd j
  simp only [List.getD_eq_getElem?_getD, List.getElem?_set] at h4 h5 ⊢
  split
  ·split
   ·simp only [Option.getD_some]; omega
   ·simp only [Option.getD_none]; omega
  ·omega
theorem MD.cellT {w wr A BB X gp gt n P O K} (h : MD w wr A BB X gp gt n P O K) {i : Nat} (hi : i < n) : wr.cell? ⟨gt, i, none⟩ = some (.int .i64 (O.getD i 0)) /\ wr.frozen? ⟨gt, i, none⟩ = false :=
 ⟨cell_arr h.row (by have := h.len; simp [ivs, List.getD_eq_getElem?_getD, show i < O.length by omega]), fz_of h.row⟩
theorem Pl.two {w : World} {g n t L} (h : Pl w g n t L) {i : Nat} (hi : i < n) : w.cell? ⟨g, i * 2, none⟩ = some (.int .i64 (L.getD i (0, 0)).1) /\ w.cell? ⟨g, i * 2 + 1, none⟩ = some (.int .i64 (L.getD i (0, 0)).2) := by
 have hi' : i < L.length := by have := h.len; omega
 obtain ⟨h1, h2⟩ := pvs_at L i hi'
 have e : L.getD i (0, 0) = L[i] := by simp [hi']
 rw [e]
 exact ⟨cell_arr h.row (by simpa using h1), cell_arr h.row (by simpa using h2)⟩
set_option maxRecDepth 100000 in
set_option maxHeartbeats 40000000 in
theorem made_any (w : World) {s : ByteArray} {pa : Option Addr} {pn pc : Nat} {r : Int} {va : Option Addr} {vn vc : Nat} {ba : Option Addr} {bn bc : Nat} {f : Fu} (C : LF w pa pn pc va vn vc ba bn bc f) (M : MF f) (hbn : bn <= 60) (hvn : vn <= 300) (hbulk : totK f f.blks.length <= 1000000000) :
 Calls Tryz.prog 15 #[.agg #[.string s, .slice pa pn pc, .int .i64 r, .slice va vn vc, .slice ba bn bc]] w fun e w' => e = .returned (.bool true) /\ Below w.heap.size w w' := by
 have hmk1 := run_placed vn (by omega)
 have hmk2 := run_make_row' (P := Tryz.prog) 34 3 (.int .i64 0) 8 Tryz.underlying34 info3d rfl .i64 .i64 vn (by omega) (by omega)
 have hvx : vn <= vc /\ vc <= 9223372036854775807 := by have := C.hv.le; have := C.hv.mx; have := C.ev; omega
 have hbx : bn <= bc /\ bc <= 9223372036854775807 := by have := C.hb.le; have := C.hb.mx; have := C.eb; omega
 have hpx : pn <= pc /\ pc <= 9223372036854775807 := by have := C.hp.le; have := C.hp.mx; have := C.ep; omega
 have HC : Hid (∀ w', Below w.heap.size w w' -> LF w' pa pn pc va vn vc ba bn bc f) := fun w' hb => C.below hb
 have HCW : Hid (LF w pa pn pc va vn vc ba bn bc f) := C
 have HM : Hid (MF f) := M
 have HBK : Hid (totK f f.blks.length <= 1000000000) := hbulk
 have HEP : Hid (pn = f.params.length) := C.ep
 have HEV : Hid (vn = f.vals.length) := C.ev
 have HEB : Hid (bn = f.blks.length) := C.eb
 obtain ⟨W0, hW0⟩ : ∃ W, W = w.alloc (.cells #[.string s, .slice pa pn pc, .int .i64 r, .slice va vn vc, .slice ba bn bc] 38) := ⟨_, rfl⟩
 have A0 : Af1 w (.cells #[.string s, .slice pa pn pc, .int .i64 r, .slice va vn vc, .slice ba bn bc] 38) W0 := by rw [hW0]; exact Af1.refl _ _
 have HRG : Hid (Calls Tryz.prog 25 #[.agg #[.string s, .slice pa pn pc, .int .i64 r, .slice va vn vc, .slice ba bn bc]] W0 fun e w' => e = .returned (.bool true) /\ Below W0.heap.size W0 w') := ranges_any W0 (C.below A0.low) M.rg
 have x0 : W0.cell? ⟨w.heap.size, 0, none⟩ = some (.string s) := cell_arr A0.one rfl
 have x1 : W0.cell? ⟨w.heap.size, 1, none⟩ = some (.slice pa pn pc) := cell_arr A0.one rfl
 have x2 : W0.cell? ⟨w.heap.size, 2, none⟩ = some (.int .i64 r) := cell_arr A0.one rfl
 have x3 : W0.cell? ⟨w.heap.size, 3, none⟩ = some (.slice va vn vc) := cell_arr A0.one rfl
 have x4 : W0.cell? ⟨w.heap.size, 4, none⟩ = some (.slice ba bn bc) := cell_arr A0.one rfl
 have HA0 : Hid (Af1 w (.cells #[.string s, .slice pa pn pc, .int .i64 r, .slice va vn vc, .slice ba bn bc] 38) W0) := A0
 clear C M hbulk A0
 go_enter Tryz.func15, Tryz.ntmps15
 go_upto_region 1 with fail
 rw [<- hW0]
 clear hW0
 go_wp2_with fail
 refine Calls.mono HRG.out ?_
 rintro e w1 ⟨rfl, hb1⟩
 have A1 : Af1 w (.cells #[.string s, .slice pa pn pc, .int .i64 r, .slice va vn vc, .slice ba bn bc] 38) w1 := HA0.out.next hb1
 have HA1 : Hid (Af1 w (.cells #[.string s, .slice pa pn pc, .int .i64 r, .slice va vn vc, .slice ba bn bc] 38) w1) := A1
 have hw1 : w.heap.size < w1.heap.size := by have := A1.size; omega
 have y3 : w1.cell? ⟨w.heap.size, 3, none⟩ = some (.slice va vn vc) := cell_arr A1.one rfl
 clear hb1 A1 x0 x1 x2 x3 x4 HRG HA0
 go_upto_region 5 with fail
 obtain ⟨gp, hgp⟩ : ∃ g, g = w1.heap.size := ⟨_, rfl⟩
 obtain ⟨gt, hgt⟩ : ∃ g, g = w1.heap.size + 1 := ⟨_, rfl⟩
 obtain ⟨W2, hW2⟩ : ∃ W, W = (w1.alloc (.cells (pvs (List.replicate vn (0, 0))).toArray 61)).alloc (.cells (madeCells #[.int .i64 0] vn) 3) := ⟨_, rfl⟩
 have HD0 : Hid (MD w W2 (.cells #[.string s, .slice pa pn pc, .int .i64 r, .slice va vn vc, .slice ba bn bc] 38) w.heap.size (.cells #[.string s, .slice pa pn pc, .int .i64 r, .slice va vn vc, .slice ba bn bc] 38) gp gt vn (List.replicate vn (0, 0)) (List.replicate vn 0) 0) := by
  have b2 : Below w1.heap.size w1 W2 := by rw [hW2]; exact (below_new _ _).alloc (by simp) _
  have k0 : W2.heap[w.heap.size]? = _ := (b2.block _ hw1).trans HA1.out.one
  refine ⟨k0, k0, ⟨?_, by simp⟩, ?_, by simp, fun i => ?_, HA1.out.low.trans (b2.mono HA1.out.low.size)⟩
  ·rw [hW2, hgp, heap_alloc_old _ _ (by simp)]; exact heap_alloc_new _ _
  ·have e : madeCells #[.int .i64 0] vn = (ivs (List.replicate vn 0)).toArray := by
    apply Array.toList_inj.1
    rw [toList_madeCells_one]
    simp [ivs]
   have := heap_alloc_new (w1.alloc (.cells (pvs (List.replicate vn (0, 0))).toArray 61)) (.cells (ivs (List.replicate vn 0)).toArray 3)
   rw [hW2, hgt, e]
   simpa using this
  ·have : (List.replicate vn (0 : Int)).getD i 0 = 0 := by rw [List.getD_eq_getElem?_getD, List.getElem?_replicate]; split <;> rfl
   rw [this]; exact ⟨by omega, by simp⟩
 rw [<- hW2]
 try simp only [World.alloc_size]
 rw [<- hgt, <- hgp]
 have g1 : w.heap.size < gp := by omega
 have g2 : gp < gt := by omega
 clear hW2 hgp hgt hmk1 hmk2 y3 hw1 HA1
 go_wp2_with fail
 go_loopw [5] (fun v wr => ∃ k : Nat, k <= pn /\ v = .int .i64 k /\ Hid (MD w wr (.cells #[.string s, .slice pa pn pc, .int .i64 r, .slice va vn vc, .slice ba bn bc] 38) w.heap.size (.cells #[.string s, .slice pa pn pc, .int .i64 r, .slice va vn vc, .slice ba bn bc] 38) gp gt vn (plL (-1, -1) (f.params.take k) (List.replicate vn (0, 0))) (cntL (List.replicate vn 0) (f.params.take k)) k)) (fun v _ => pn - (intOf v).toNat)
 case atStart => exact ⟨0, by omega, rfl, HD0⟩
 case round =>
  clear HD0
  obtain ⟨k, hk, rfl, HD⟩ := hrel
  obtain ⟨wq, rfl⟩ : ∃ wq, wq = wr := ⟨_, rfl⟩
  have x1 : wq.cell? ⟨w.heap.size, 1, none⟩ = some (.slice pa pn pc) := cell_arr HD.out.box rfl
  have xs : w.heap.size < wq.heap.size := (gl HD.out.box)
  by_cases hlt : k < pn
  ·have hkf : k < f.params.length := by have := HEP.out; omega
   obtain ⟨b1, o1, ea, kx0⟩ := HCW.out.hp.at hkf
   have hx := List.all_eq_true.1 HM.out.rg.p _ (List.getElem_mem hkf)
   simp only [wi, decide_eq_true_eq] at hx
   obtain ⟨p, hp⟩ : ∃ p : Nat, f.params[k] = p := ⟨f.params[k].toNat, by omega⟩
   have hpv : p < vn := by have := HEV.out; omega
   rw [hp] at kx0
   have hbw : b1 < w.heap.size := block_lt_of_cell kx0
   have kx := (HD.out.bel.cell (p := ⟨b1, o1 + k, none⟩) hbw).trans kx0
   have HN1 : Hid (∀ P, plL (-1, -1) (f.params.take (k + 1)) P = (plL (-1, -1) (f.params.take k) P).set p (-1, -1)) := fun P => by rw [plL_take _ _ _ hkf, hp, Int.toNat_natCast]
   have HN2 : Hid (∀ O, cntL O (f.params.take (k + 1)) = (cntL O (f.params.take k)).set p ((cntL O (f.params.take k)).getD p 0 + 1)) := fun O => by rw [cntL_take _ _ hkf, hp, Int.toNat_natCast]
   have hpl := HD.out.pl
   obtain ⟨⟨z1, q1⟩, ⟨z2, q2⟩, q3, q4, q5⟩ := hpl.cell hpv
   have D1 := HD.out.putP g1 (by omega) (by omega) hpv (-1) (-1)
   obtain ⟨W3, hW3⟩ : ∃ W, W = (wq.setCell ⟨gp, p * 2, none⟩ (.int .i64 (-1))).setCell ⟨gp, p * 2 + 1, none⟩ (.int .i64 (-1)) := ⟨_, rfl⟩
   rw [<- hW3] at D1
   have HD1 : Hid _ := D1
   subst ea
   have hb1l : b1 < wq.heap.size := by have := HD.out.bel.size; omega
   clear hx hp D1 hpl
   go_upto_region 9 with fail
   rw [<- hW3]
   clear hW3 x1 kx q1 q2 q3 q4 q5
   have x1 : W3.cell? ⟨w.heap.size, 1, none⟩ = some (.slice (some ⟨b1, o1, none⟩) pn pc) := cell_arr HD1.out.box rfl
   have kx := (HD1.out.bel.cell (p := ⟨b1, o1 + k, none⟩) hbw).trans kx0
   obtain ⟨t1, t2⟩ := HD1.out.cellT hpv
   have hbd := HD1.out.bd p
   have D2 := HD1.out.putT (by omega) (by omega) (by omega) hpv
   have hb1l : b1 < W3.heap.size := by have := HD1.out.bel.size; omega
   have hxl : w.heap.size < W3.heap.size := (gl HD1.out.box)
   have hgl : gt < W3.heap.size := (gl HD1.out.row)
   rw [<- HN1.out, <- HN2.out] at D2
   have HD2 : Hid _ := D2
   generalize (cntL (List.replicate vn 0) (f.params.take k)).getD p 0 = y at t1 hbd HD2
   clear D2 HD HD1 kx0
   go_wp2_with fail
   go_roundw
   case rel => exact ⟨k + 1, by omega, by go_num, HD2.out⟩
   case measure => simp [intOf]; omega
  ·have hkp : k = pn := by omega
   have HD1 : Hid (MD w wq (.cells #[.string s, .slice pa pn pc, .int .i64 r, .slice va vn vc, .slice ba bn bc] 38) w.heap.size (.cells #[.string s, .slice pa pn pc, .int .i64 r, .slice va vn vc, .slice ba bn bc] 38) gp gt vn (lwK f 0) (cntK f 0) (totK f 0)) := by
    have h := HD.out
    have e5 : f.params.take pn = f.params := List.take_of_length_le (by have := HEP.out; omega)
    rw [hkp, e5] at h
    have e0 : totK f 0 = pn := by rw [HEP.out]; simp [totK]
    rw [e0]
    have e1 : lwK f 0 = plL (-1, -1) f.params (List.replicate vn (0, 0)) := by rw [HEV.out]; rfl
    have e2 : cntK f 0 = cntL (List.replicate vn 0) f.params := by rw [HEV.out]; simp [cntK]
    rw [e1, e2]
    exact h
   clear hkp
   go_wp2_with fail
   clear HD x1
   go_loopw [6] (fun v wr => ∃ i : Nat, i <= bn /\ v = .int .i64 i /\ Hid (MD w wr (.cells #[.string s, .slice pa pn pc, .int .i64 r, .slice va vn vc, .slice ba bn bc] 38) w.heap.size (.cells #[.string s, .slice pa pn pc, .int .i64 r, .slice va vn vc, .slice ba bn bc] 38) gp gt vn (lwK f i) (cntK f i) (totK f i))) (fun v _ => bn - (intOf v).toNat)
   case atStart => exact ⟨0, by omega, rfl, HD1⟩
   case round =>
    clear HD1
    obtain ⟨i, hi, rfl, HD⟩ := hrel
    obtain ⟨wo, rfl⟩ : ∃ wo, wo = wr := ⟨_, rfl⟩
    have x4 : wo.cell? ⟨w.heap.size, 4, none⟩ = some (.slice ba bn bc) := cell_arr HD.out.box rfl
    have xs : w.heap.size < wo.heap.size := (gl HD.out.box)
    by_cases hlt : i < bn
    ·have hif : i < f.blks.length := by have := HEB.out; omega
     have hlt0' : i < bn := hlt
     obtain ⟨b0, o0, ka, kc, la, lc, ma, mc, na, nc, eba, hlt0, c0, c1, c2, c3, c4, c5, i1, i2, i3, i4⟩ := HCW.out.hb.at hif
     have hmb : f.blks[i] ∈ f.blks := List.getElem_mem hif
     obtain ⟨r1, r2, r3, r4, r5⟩ := HM.out.rg.b _ hmb
     replace c0 := (HD.out.bel.cell (p := ⟨b0, o0 + i * 6, none⟩) hlt0).trans c0
     replace c1 := (HD.out.bel.cell (p := ⟨b0, o0 + i * 6 + 1, none⟩) hlt0).trans c1
     replace c2 := (HD.out.bel.cell (p := ⟨b0, o0 + i * 6 + 2, none⟩) hlt0).trans c2
     replace c3 := (HD.out.bel.cell (p := ⟨b0, o0 + i * 6 + 3, none⟩) hlt0).trans c3
     replace c4 := (HD.out.bel.cell (p := ⟨b0, o0 + i * 6 + 4, none⟩) hlt0).trans c4
     replace c5 := (HD.out.bel.cell (p := ⟨b0, o0 + i * 6 + 5, none⟩) hlt0).trans c5
     rw [eba] at x4
     obtain ⟨bk, hbk⟩ : ∃ x, x = f.blks[i] := ⟨_, rfl⟩
     rw [<- hbk] at c0 c1 c2 c3 c4 c5 i1 i2 i3 i4 r1 r2 r3 r4 r5
     obtain ⟨l1, hl1⟩ : ∃ x, x = bk.phis.length := ⟨_, rfl⟩
     obtain ⟨l2, hl2⟩ : ∃ x, x = bk.body.length := ⟨_, rfl⟩
     obtain ⟨l3, hl3⟩ : ∃ x, x = bk.ways.length := ⟨_, rfl⟩
     obtain ⟨l4, hl4⟩ : ∃ x, x = bk.preds.length := ⟨_, rfl⟩
     obtain ⟨kd, hkd⟩ : ∃ x, x = bk.kind := ⟨_, rfl⟩
     obtain ⟨vl, hvl⟩ : ∃ x, x = bk.val := ⟨_, rfl⟩
     rw [<- hl1] at c0
     rw [<- hl2] at c1
     rw [<- hkd] at c2
     rw [<- hvl] at c3
     rw [<- hl3] at c4
     rw [<- hl4] at c5
     have m1 : l1 <= kc /\ kc <= 9223372036854775807 := by have := i1.le; have := i1.mx; omega
     have m2 : l2 <= lc /\ lc <= 9223372036854775807 := by have := i2.le; have := i2.mx; omega
     have m4 : l4 <= nc /\ nc <= 9223372036854775807 := by have := i4.le; have := i4.mx; omega
     obtain ⟨BB, hBB⟩ : ∃ B, B = wo.heap.size := ⟨_, rfl⟩
     obtain ⟨W2, hW2⟩ : ∃ W, W = wo.alloc (.cells #[.slice ka l1 kc, .slice la l2 lc, .int .i64 kd, .int .i64 vl, .slice ma l3 mc, .slice na l4 nc] 46) := ⟨_, rfl⟩
     have b2 : Below wo.heap.size wo W2 := by rw [hW2]; exact below_new _ _
     have HDB : Hid (MD w W2 (.cells #[.string s, .slice pa pn pc, .int .i64 r, .slice va vn vc, .slice ba bn bc] 38) BB (.cells #[.slice ka l1 kc, .slice la l2 lc, .int .i64 kd, .int .i64 vl, .slice ma l3 mc, .slice na l4 nc] 46) gp gt vn (lwK f i) (cntK f i) (totK f i)) := (HD.out.next b2).rebox (by rw [hW2, hBB]; exact heap_alloc_new _ _)
     have g3 : gt < BB := by have := (gl HD.out.row); omega
     have HBK1 : Hid (bk = f.blks[i] /\ l1 = bk.phis.length /\ l2 = bk.body.length /\ l4 = bk.preds.length /\ vl = bk.val) := ⟨hbk, hl1, hl2, hl4, hvl⟩
     have HI1 : Hid (Ints w ka kc bk.phis) := i1
     have HI2 : Hid (Ints w la lc bk.body) := i2
     have HI4 : Hid (Ints w na nc bk.preds) := i4
     have HR1 : Hid (bk.phis.all (wi f.vals.length) = true) := r1
     have HR2 : Hid (bk.body.all (wi f.vals.length) = true) := r2
     have HR4 : Hid (bk.preds.all (wi f.blks.length) = true) := r3
     have HRV : Hid (bk.val < f.vals.length) := r5
     have hb0 : b0 < wo.heap.size := by have := HD.out.bel.size; omega
     clear i1 i2 i3 i4 r1 r2 r3 r4 r5 hbk hl1 hl2 hl3 hl4 hkd hvl b2 eba hmb
     go_upto_region 14 with fail
     rw [<- hW2]
     rw [<- hBB]
     clear hW2 hBB c0 c1 c2 c3 c4 c5 x4 HD
     go_wp2_with fail
     go_loopw [8] (fun v wr => ∃ j : Nat, j <= l1 /\ v = .int .i64 j /\ Hid (MD w wr (.cells #[.string s, .slice pa pn pc, .int .i64 r, .slice va vn vc, .slice ba bn bc] 38) BB (.cells #[.slice ka l1 kc, .slice la l2 lc, .int .i64 kd, .int .i64 vl, .slice ma l3 mc, .slice na l4 nc] 46) gp gt vn (plL ((i : Int), -1) (bk.phis.take j) (lwK f i)) (cntL (cntK f i) (bk.phis.take j)) (totK f i + j))) (fun v _ => l1 - (intOf v).toNat)
     case atStart => exact ⟨0, by omega, rfl, HDB⟩
     case round =>
      clear HDB
      obtain ⟨j, hj, rfl, HD⟩ := hrel
      obtain ⟨wq, rfl⟩ : ∃ wq, wq = wr := ⟨_, rfl⟩
      have xb : wq.cell? ⟨BB, 0, none⟩ = some (.slice ka l1 kc) := cell_arr HD.out.bx rfl
      have xs : BB < wq.heap.size := (gl HD.out.bx)
      by_cases hlt : j < l1
      ·have hjf : j < bk.phis.length := by have := HBK1.out.2.1; omega
       obtain ⟨b1, o1, ea, kx0⟩ := HI1.out.at hjf
       have hx := List.all_eq_true.1 HR1.out _ (List.getElem_mem hjf)
       simp only [wi, decide_eq_true_eq] at hx
       obtain ⟨p, hp⟩ : ∃ p : Nat, bk.phis[j] = p := ⟨bk.phis[j].toNat, by omega⟩
       have hpv : p < vn := by have := HEV.out; omega
       rw [hp] at kx0
       have hbw : b1 < w.heap.size := block_lt_of_cell kx0
       have kx := (HD.out.bel.cell (p := ⟨b1, o1 + j, none⟩) hbw).trans kx0
       have HN1 : Hid (∀ P, plL ((i : Int), -1) (bk.phis.take (j + 1)) P = (plL ((i : Int), -1) (bk.phis.take j) P).set p ((i : Int), -1)) := fun P => by rw [plL_take _ _ _ hjf, hp, Int.toNat_natCast]
       have HN2 : Hid (∀ O, cntL O (bk.phis.take (j + 1)) = (cntL O (bk.phis.take j)).set p ((cntL O (bk.phis.take j)).getD p 0 + 1)) := fun O => by rw [cntL_take _ _ hjf, hp, Int.toNat_natCast]
       have hpl := HD.out.pl
       obtain ⟨⟨z1, q1⟩, ⟨z2, q2⟩, q3, q4, q5⟩ := hpl.cell hpv
       have D1 := HD.out.putP g1 (by omega) (by omega) hpv (i : Int) (-1)
       obtain ⟨W3, hW3⟩ : ∃ W, W = (wq.setCell ⟨gp, p * 2, none⟩ (.int .i64 (i : Int))).setCell ⟨gp, p * 2 + 1, none⟩ (.int .i64 (-1)) := ⟨_, rfl⟩
       rw [<- hW3] at D1
       have HD1 : Hid _ := D1
       subst ea
       have hb1l : b1 < wq.heap.size := by have := HD.out.bel.size; omega
       clear hx hp D1 hpl
       go_upto_region 18 with fail
       rw [<- hW3]
       clear hW3 xb kx q1 q2 q3 q4 q5
       have xb : W3.cell? ⟨BB, 0, none⟩ = some (.slice (some ⟨b1, o1, none⟩) l1 kc) := cell_arr HD1.out.bx rfl
       have kx := (HD1.out.bel.cell (p := ⟨b1, o1 + j, none⟩) hbw).trans kx0
       obtain ⟨t1, t2⟩ := HD1.out.cellT hpv
       have hbd := HD1.out.bd p
       have D2 := HD1.out.putT (by omega) (by omega) (by omega) hpv
       have hb1l : b1 < W3.heap.size := by have := HD1.out.bel.size; omega
       have hxl : BB < W3.heap.size := (gl HD1.out.bx)
       have hgl : gt < W3.heap.size := (gl HD1.out.row)
       rw [<- HN1.out, <- HN2.out] at D2
       have HD2 : Hid _ := D2
       have hKb : (totK f i + j) + 1 <= 1000000000 := by have := HBK.out; have := totK_next f hif; have := totK_mono f (i + 1); have := HBK1.out.1; have := HBK1.out.2.1; have := HBK1.out.2.2.1; rw [HBK1.out.1] at *; omega
       generalize (cntL (cntK f i) (bk.phis.take j)).getD p 0 = y at t1 hbd HD2
       have hy0 : 0 <= y := hbd.1
       have hy1 : y <= 1000000000 := by have := hbd.2; omega
       clear D2 HD HD1 kx0 hbd hKb
       go_wp2_with fail
       go_roundw
       case rel => exact ⟨j + 1, by omega, by go_num, HD2.out⟩
       case measure => simp [intOf]; omega
      ·have hjl : j = l1 := by omega
       have HD4 : Hid (MD w wq (.cells #[.string s, .slice pa pn pc, .int .i64 r, .slice va vn vc, .slice ba bn bc] 38) BB (.cells #[.slice ka l1 kc, .slice la l2 lc, .int .i64 kd, .int .i64 vl, .slice ma l3 mc, .slice na l4 nc] 46) gp gt vn (plB (i : Int) bk.body 0 (plL ((i : Int), -1) bk.phis (lwK f i))) (cntL (cntL (cntK f i) bk.phis) (bk.body.take 0)) (totK f i + l1 + 0)) := by
        have h := HD.out
        rw [hjl] at h
        have e4 : bk.phis.take l1 = bk.phis := List.take_of_length_le (by have := HBK1.out.2.1; omega)
        rw [e4] at h
        exact h
       clear hjl
       go_wp2_with fail
       clear HD xb
       go_loopw [9] (fun v wr => ∃ j : Nat, j <= l2 /\ v = .int .i64 j /\ Hid (MD w wr (.cells #[.string s, .slice pa pn pc, .int .i64 r, .slice va vn vc, .slice ba bn bc] 38) BB (.cells #[.slice ka l1 kc, .slice la l2 lc, .int .i64 kd, .int .i64 vl, .slice ma l3 mc, .slice na l4 nc] 46) gp gt vn (plB (i : Int) bk.body j (plL ((i : Int), -1) bk.phis (lwK f i))) (cntL (cntL (cntK f i) bk.phis) (bk.body.take j)) (totK f i + l1 + j))) (fun v _ => l2 - (intOf v).toNat)
       case atStart => exact ⟨0, by omega, rfl, HD4⟩
       case round =>
        clear HD4
        obtain ⟨j, hj, rfl, HD⟩ := hrel
        obtain ⟨wq, rfl⟩ : ∃ wq, wq = wr := ⟨_, rfl⟩
        have xb : wq.cell? ⟨BB, 1, none⟩ = some (.slice la l2 lc) := cell_arr HD.out.bx rfl
        have xs : BB < wq.heap.size := (gl HD.out.bx)
        by_cases hlt : j < l2
        ·have hjf : j < bk.body.length := by have := HBK1.out.2.2.1; omega
         obtain ⟨b1, o1, ea, kx0⟩ := HI2.out.at hjf
         have hx := List.all_eq_true.1 HR2.out _ (List.getElem_mem hjf)
         simp only [wi, decide_eq_true_eq] at hx
         obtain ⟨p, hp⟩ : ∃ p : Nat, bk.body[j] = p := ⟨bk.body[j].toNat, by omega⟩
         have hpv : p < vn := by have := HEV.out; omega
         rw [hp] at kx0
         have hbw : b1 < w.heap.size := block_lt_of_cell kx0
         have kx := (HD.out.bel.cell (p := ⟨b1, o1 + j, none⟩) hbw).trans kx0
         have HN1 : Hid (∀ P, plB (i : Int) bk.body (j + 1) P = (plB (i : Int) bk.body j P).set p ((i : Int), (j : Int))) := fun P => by
          have e : gn bk.body j = (p : Int) := by rw [<- hp]; simp [gn, List.getD_eq_getElem?_getD, hjf]
          show (plB (i : Int) bk.body j P).set (gn bk.body j).toNat _ = _
          rw [e, Int.toNat_natCast]
         have HN2 : Hid (∀ O, cntL O (bk.body.take (j + 1)) = (cntL O (bk.body.take j)).set p ((cntL O (bk.body.take j)).getD p 0 + 1)) := fun O => by rw [cntL_take _ _ hjf, hp, Int.toNat_natCast]
         have hpl := HD.out.pl
         obtain ⟨⟨z1, q1⟩, ⟨z2, q2⟩, q3, q4, q5⟩ := hpl.cell hpv
         have D1 := HD.out.putP g1 (by omega) (by omega) hpv (i : Int) (j : Int)
         obtain ⟨W3, hW3⟩ : ∃ W, W = (wq.setCell ⟨gp, p * 2, none⟩ (.int .i64 (i : Int))).setCell ⟨gp, p * 2 + 1, none⟩ (.int .i64 ((j : Int))) := ⟨_, rfl⟩
         rw [<- hW3] at D1
         have HD1 : Hid _ := D1
         subst ea
         have hb1l : b1 < wq.heap.size := by have := HD.out.bel.size; omega
         clear hx hp D1 hpl
         go_upto_region 23 with fail
         rw [<- hW3]
         clear hW3 xb kx q1 q2 q3 q4 q5
         have xb : W3.cell? ⟨BB, 1, none⟩ = some (.slice (some ⟨b1, o1, none⟩) l2 lc) := cell_arr HD1.out.bx rfl
         have kx := (HD1.out.bel.cell (p := ⟨b1, o1 + j, none⟩) hbw).trans kx0
         obtain ⟨t1, t2⟩ := HD1.out.cellT hpv
         have hbd := HD1.out.bd p
         have D2 := HD1.out.putT (by omega) (by omega) (by omega) hpv
         have hb1l : b1 < W3.heap.size := by have := HD1.out.bel.size; omega
         have hxl : BB < W3.heap.size := (gl HD1.out.bx)
         have hgl : gt < W3.heap.size := (gl HD1.out.row)
         rw [<- HN1.out, <- HN2.out] at D2
         have HD2 : Hid _ := D2
         have hKb : (totK f i + l1 + j) + 1 <= 1000000000 := by have := HBK.out; have := totK_next f hif; have := totK_mono f (i + 1); have := HBK1.out.1; have := HBK1.out.2.1; have := HBK1.out.2.2.1; rw [HBK1.out.1] at *; omega
         generalize (cntL (cntL (cntK f i) bk.phis) (bk.body.take j)).getD p 0 = y at t1 hbd HD2
         have hy0 : 0 <= y := hbd.1
         have hy1 : y <= 1000000000 := by have := hbd.2; omega
         clear D2 HD HD1 kx0 hbd hKb
         go_wp2_with fail
         go_roundw
         case rel => exact ⟨j + 1, by omega, by go_num, HD2.out⟩
         case measure => simp [intOf]; omega
        ·have hjl : j = l2 := by omega
         have HD5 : Hid (MD w wq (.cells #[.string s, .slice pa pn pc, .int .i64 r, .slice va vn vc, .slice ba bn bc] 38) w.heap.size (.cells #[.string s, .slice pa pn pc, .int .i64 r, .slice va vn vc, .slice ba bn bc] 38) gp gt vn (lwK f (i + 1)) (cntK f (i + 1)) (totK f (i + 1))) := by
          have h := HD.out
          have e0 : f.blks.getD i noB = bk := by rw [HBK1.out.1]; simp [List.getD_eq_getElem?_getD, hif]
          have e1 : lwK f (i + 1) = plB (i : Int) bk.body bk.body.length (plL ((i : Int), -1) bk.phis (lwK f i)) := by
           show plS i (f.blks.getD i noB) (lwK f i) = _
           rw [e0]; rfl
          have e2 : cntK f (i + 1) = cntL (cntL (cntK f i) bk.phis) bk.body := by rw [cntK_next f hif, <- HBK1.out.1]; rfl
          have e3 : totK f (i + 1) = totK f i + l1 + l2 := by rw [totK_next f hif, <- HBK1.out.1, HBK1.out.2.1, HBK1.out.2.2.1]; omega
          rw [hjl] at h
          rw [e1, e2, e3, <- HBK1.out.2.2.1]
          have e4 : bk.body.take l2 = bk.body := List.take_of_length_le (by have := HBK1.out.2.2.1; omega)
          rw [e4] at h
          exact h.rebox h.box
         have HME : Hid (Calls Tryz.prog 26 #[.agg #[.string s, .slice pa pn pc, .int .i64 r, .slice va vn vc, .slice ba bn bc], .int .i64 i, .int .i64 (-1)] wq fun e w' => e = .returned (.bool true) /\ Below wq.heap.size wq w') := by
          have := met_any wq (s := s) (r := r) (HC.out wq HD.out.bel) HM.out.gd (by omega) i hlt0' (-1)
          rw [decide_eq_true (HM.out.re i hif)] at this
          exact this
         have x0 : wq.cell? ⟨w.heap.size, 0, none⟩ = some (.string s) := cell_arr HD.out.box rfl
         have x1 : wq.cell? ⟨w.heap.size, 1, none⟩ = some (.slice pa pn pc) := cell_arr HD.out.box rfl
         have x2 : wq.cell? ⟨w.heap.size, 2, none⟩ = some (.int .i64 r) := cell_arr HD.out.box rfl
         have x3 : wq.cell? ⟨w.heap.size, 3, none⟩ = some (.slice va vn vc) := cell_arr HD.out.box rfl
         have x4 : wq.cell? ⟨w.heap.size, 4, none⟩ = some (.slice ba bn bc) := cell_arr HD.out.box rfl
         clear hjl
         go_wp2_with fail
         refine Calls.mono HME.out ?_
         rintro e w9 ⟨rfl, hb9⟩
         have HD6 : Hid _ := HD5.out.next hb9
         clear hb9 x0 x1 x2 x3 x4
         go_wp2_with fail
         go_roundw
         case rel => exact ⟨i + 1, by omega, by go_num, HD6.out⟩
         case measure => simp [intOf]; omega
    ·have hib : ¬ i < bn := hlt
     have HD5 : Hid (MD w wo (.cells #[.string s, .slice pa pn pc, .int .i64 r, .slice va vn vc, .slice ba bn bc] 38) w.heap.size (.cells #[.string s, .slice pa pn pc, .int .i64 r, .slice va vn vc, .slice ba bn bc] 38) gp gt vn (lwP f) (cntAll f) (totK f bn)) := by
      have e : i = bn := by omega
      have h := HD.out
      rw [e] at h
      unfold lwP cntAll
      rw [<- HEB.out]
      exact h
     go_wp2_with fail
     clear HD x4
     go_loop [10] (fun v => ∃ k : Nat, k <= vn /\ v = .int .i64 k) (fun v => vn - (intOf v).toNat)
     case atStart => exact ⟨0, by omega, rfl⟩
     case round =>
      obtain ⟨k, hk, rfl⟩ := hrel
      by_cases hkv : k < vn
      ·obtain ⟨t1, _⟩ := HD5.out.cellT hkv
       rw [HM.out.once k (by have := HEV.out; omega)] at t1
       have hgl : gt < wo.heap.size := (gl HD5.out.row)
       go_wp2_with fail
       go_round
       case rel => exact ⟨k + 1, by omega, by go_num⟩
       case measure => simp [intOf]; omega
      ·go_wp2_with fail
       go_loopw [11] (fun v wr => ∃ i : Nat, i <= bn /\ v = .int .i64 i /\ Hid (MD w wr (.cells #[.string s, .slice pa pn pc, .int .i64 r, .slice va vn vc, .slice ba bn bc] 38) w.heap.size (.cells #[.string s, .slice pa pn pc, .int .i64 r, .slice va vn vc, .slice ba bn bc] 38) gp gt vn (lwP f) (cntAll f) (totK f bn))) (fun v _ => bn - (intOf v).toNat)
       case atStart => exact ⟨0, by omega, rfl, HD5⟩
       case round =>
        clear HD5
        obtain ⟨i, hi, rfl, HD⟩ := hrel
        obtain ⟨wo, rfl⟩ : ∃ wo, wo = wr := ⟨_, rfl⟩
        have x4 : wo.cell? ⟨w.heap.size, 4, none⟩ = some (.slice ba bn bc) := cell_arr HD.out.box rfl
        have xs : w.heap.size < wo.heap.size := (gl HD.out.box)
        by_cases hlt : i < bn
        ·have hif : i < f.blks.length := by have := HEB.out; omega
         have hlt0' : i < bn := hlt
         obtain ⟨b0, o0, ka, kc, la, lc, ma, mc, na, nc, eba, hlt0, c0, c1, c2, c3, c4, c5, i1, i2, i3, i4⟩ := HCW.out.hb.at hif
         have hmb : f.blks[i] ∈ f.blks := List.getElem_mem hif
         obtain ⟨r1, r2, r3, r4, r5⟩ := HM.out.rg.b _ hmb
         replace c0 := (HD.out.bel.cell (p := ⟨b0, o0 + i * 6, none⟩) hlt0).trans c0
         replace c1 := (HD.out.bel.cell (p := ⟨b0, o0 + i * 6 + 1, none⟩) hlt0).trans c1
         replace c2 := (HD.out.bel.cell (p := ⟨b0, o0 + i * 6 + 2, none⟩) hlt0).trans c2
         replace c3 := (HD.out.bel.cell (p := ⟨b0, o0 + i * 6 + 3, none⟩) hlt0).trans c3
         replace c4 := (HD.out.bel.cell (p := ⟨b0, o0 + i * 6 + 4, none⟩) hlt0).trans c4
         replace c5 := (HD.out.bel.cell (p := ⟨b0, o0 + i * 6 + 5, none⟩) hlt0).trans c5
         rw [eba] at x4
         obtain ⟨bk, hbk⟩ : ∃ x, x = f.blks[i] := ⟨_, rfl⟩
         rw [<- hbk] at c0 c1 c2 c3 c4 c5 i1 i2 i3 i4 r1 r2 r3 r4 r5
         obtain ⟨l1, hl1⟩ : ∃ x, x = bk.phis.length := ⟨_, rfl⟩
         obtain ⟨l2, hl2⟩ : ∃ x, x = bk.body.length := ⟨_, rfl⟩
         obtain ⟨l3, hl3⟩ : ∃ x, x = bk.ways.length := ⟨_, rfl⟩
         obtain ⟨l4, hl4⟩ : ∃ x, x = bk.preds.length := ⟨_, rfl⟩
         obtain ⟨kd, hkd⟩ : ∃ x, x = bk.kind := ⟨_, rfl⟩
         obtain ⟨vl, hvl⟩ : ∃ x, x = bk.val := ⟨_, rfl⟩
         rw [<- hl1] at c0
         rw [<- hl2] at c1
         rw [<- hkd] at c2
         rw [<- hvl] at c3
         rw [<- hl3] at c4
         rw [<- hl4] at c5
         have m1 : l1 <= kc /\ kc <= 9223372036854775807 := by have := i1.le; have := i1.mx; omega
         have m2 : l2 <= lc /\ lc <= 9223372036854775807 := by have := i2.le; have := i2.mx; omega
         have m4 : l4 <= nc /\ nc <= 9223372036854775807 := by have := i4.le; have := i4.mx; omega
         obtain ⟨BB, hBB⟩ : ∃ B, B = wo.heap.size := ⟨_, rfl⟩
         obtain ⟨W2, hW2⟩ : ∃ W, W = wo.alloc (.cells #[.slice ka l1 kc, .slice la l2 lc, .int .i64 kd, .int .i64 vl, .slice ma l3 mc, .slice na l4 nc] 46) := ⟨_, rfl⟩
         have b2 : Below wo.heap.size wo W2 := by rw [hW2]; exact below_new _ _
         have HDB : Hid (MD w W2 (.cells #[.string s, .slice pa pn pc, .int .i64 r, .slice va vn vc, .slice ba bn bc] 38) BB (.cells #[.slice ka l1 kc, .slice la l2 lc, .int .i64 kd, .int .i64 vl, .slice ma l3 mc, .slice na l4 nc] 46) gp gt vn (lwP f) (cntAll f) (totK f bn)) := (HD.out.next b2).rebox (by rw [hW2, hBB]; exact heap_alloc_new _ _)
         have g3 : gt < BB := by have := (gl HD.out.row); omega
         have HBK1 : Hid (bk = f.blks[i] /\ l1 = bk.phis.length /\ l2 = bk.body.length /\ l4 = bk.preds.length /\ vl = bk.val) := ⟨hbk, hl1, hl2, hl4, hvl⟩
         have HI1 : Hid (Ints w ka kc bk.phis) := i1
         have HI2 : Hid (Ints w la lc bk.body) := i2
         have HI4 : Hid (Ints w na nc bk.preds) := i4
         have HR1 : Hid (bk.phis.all (wi f.vals.length) = true) := r1
         have HR2 : Hid (bk.body.all (wi f.vals.length) = true) := r2
         have HR4 : Hid (bk.preds.all (wi f.blks.length) = true) := r3
         have HRV : Hid (bk.val < f.vals.length) := r5
         have hb0 : b0 < wo.heap.size := by have := HD.out.bel.size; omega
         clear i1 i2 i3 i4 r1 r2 r3 r4 r5 hbk hl1 hl2 hl3 hl4 hkd hvl b2 eba hmb
         go_upto_region 35 with fail
         rw [<- hW2]
         rw [<- hBB]
         clear hW2 hBB c0 c1 c2 c3 c4 c5 x4 HD
         go_wp2_with fail
         go_loopw [13] (fun v wr => ∃ j : Nat, j <= l1 /\ v = .int .i64 j /\ Hid (MD w wr (.cells #[.string s, .slice pa pn pc, .int .i64 r, .slice va vn vc, .slice ba bn bc] 38) BB (.cells #[.slice ka l1 kc, .slice la l2 lc, .int .i64 kd, .int .i64 vl, .slice ma l3 mc, .slice na l4 nc] 46) gp gt vn (lwP f) (cntAll f) (totK f bn))) (fun v _ => l1 - (intOf v).toNat)
         case atStart => exact ⟨0, by omega, rfl, HDB⟩
         case round =>
          clear HDB
          obtain ⟨j, hj, rfl, HD⟩ := hrel
          obtain ⟨wq, rfl⟩ : ∃ wq, wq = wr := ⟨_, rfl⟩
          have xb : wq.cell? ⟨BB, 0, none⟩ = some (.slice ka l1 kc) := cell_arr HD.out.bx rfl
          have xs : BB < wq.heap.size := (gl HD.out.bx)
          by_cases hlt : j < l1
          ·have hjf : j < bk.phis.length := by have := HBK1.out.2.1; omega
           obtain ⟨b1, o1, ea, kx0⟩ := HI1.out.at hjf
           have hx := List.all_eq_true.1 HR1.out _ (List.getElem_mem hjf)
           simp only [wi, decide_eq_true_eq] at hx
           obtain ⟨p, hp⟩ : ∃ p : Nat, bk.phis[j] = p := ⟨bk.phis[j].toNat, by omega⟩
           have hpv : p < vn := by have := HEV.out; omega
           have hpf : p < f.vals.length := by have := HEV.out; omega
           obtain ⟨AR, hAR⟩ : ∃ x, x = f.vals[p].args := ⟨_, rfl⟩
           have eg : gv f bk.phis[j] = f.vals[p] := by rw [hp]; exact gv_at f p hpf
           have hmm : bk.phis[j] ∈ f.blks[i].phis := by rw [<- HBK1.out.1]; exact List.getElem_mem hjf
           have hph := HM.out.phi i hif _ hmm
           rw [eg, <- hAR] at hph
           rw [<- HBK1.out.1] at hph
           have HAE0 : Hid (AR.length = bk.preds.length) := hph.1
           have HPH : Hid (∀ m (hm : m < AR.length), thL f (lwP f) AR[m].toNat (gn bk.preds m).toNat = true) := hph.2
           clear hph hmm
           have HAW : Hid (AR.all (wi f.vals.length) = true) := by rw [hAR]; exact HM.out.rg.a _ (List.getElem_mem hpf)
           rw [hp] at kx0
           have hbw : b1 < w.heap.size := block_lt_of_cell kx0
           have kx := (HD.out.bel.cell (p := ⟨b1, o1 + j, none⟩) hbw).trans kx0
           obtain ⟨b3, o3, aa, ac, eva, hl3', v0, v1, v2, v3, iA⟩ := HCW.out.hv.at4 hpf
           have x3 : wq.cell? ⟨w.heap.size, 3, none⟩ = some (.slice (some ⟨b3, o3, none⟩) vn vc) := by rw [<- eva]; exact cell_arr HD.out.box rfl
           replace v3 := (HD.out.bel.cell (p := ⟨b3, o3 + p * 4 + 3, none⟩) hl3').trans v3
           rw [<- hAR] at v3 iA
           obtain ⟨al, hal⟩ : ∃ x, x = AR.length := ⟨_, rfl⟩
           rw [<- hal] at v3
           have HAI : Hid (Ints w aa ac AR) := iA
           have HAL : Hid (al = AR.length) := hal
           have hac : al <= ac /\ ac <= 9223372036854775807 := by have := iA.le; have := iA.mx; omega
           have xw : w.heap.size < wq.heap.size := (gl HD.out.box)
           have hb3l : b3 < wq.heap.size := by have := HD.out.bel.size; omega
           have hb1l : b1 < wq.heap.size := by have := HD.out.bel.size; omega
           rw [ea] at xb
           clear hx hp eg hAR v0 v1 v2 iA kx0 eva hal ea
           go_wp2_with fail
           go_quiet (fail)
           go_wp2_with fail
           clear kx v3 x3 xb
           have hae : l4 = al := by have := HAL.out; have := HAE0.out; have := HBK1.out.2.2.2.1; omega
           subst hae
           go_loopw [15] (fun v wr => ∃ m : Nat, m <= l4 /\ v = .int .i64 m /\ Hid (MD w wr (.cells #[.string s, .slice pa pn pc, .int .i64 r, .slice va vn vc, .slice ba bn bc] 38) BB (.cells #[.slice ka l1 kc, .slice la l2 lc, .int .i64 kd, .int .i64 vl, .slice ma l3 mc, .slice na l4 nc] 46) gp gt vn (lwP f) (cntAll f) (totK f bn))) (fun v _ => l4 - (intOf v).toNat)
           case atStart => exact ⟨0, by omega, rfl, HD.out.next (below_drawn (Below.refl _ _) _)⟩
           case round =>
            obtain ⟨m, hm, rfl, HE⟩ := hrel
            obtain ⟨wv, rfl⟩ : ∃ wv, wv = wr := ⟨_, rfl⟩
            by_cases hml : m < l4
            ·have hmf : m < AR.length := by have := HAL.out; omega
             obtain ⟨b5, o5, e5, ky0⟩ := HAI.out.at hmf
             have hy := List.all_eq_true.1 HAW.out _ (List.getElem_mem hmf)
             simp only [wi, decide_eq_true_eq] at hy
             obtain ⟨yn, hyn⟩ : ∃ y : Nat, AR[m] = y := ⟨AR[m].toNat, by omega⟩
             have hyv : yn < vn := by have := HEV.out; omega
             rw [hyn] at ky0
             have hb5 : b5 < w.heap.size := block_lt_of_cell ky0
             subst e5
             have hm4 : m < bk.preds.length := by have := HBK1.out.2.2.2.1; omega
             obtain ⟨b6, o6, e6, kq0⟩ := HI4.out.at hm4
             have hq := List.all_eq_true.1 HR4.out _ (List.getElem_mem hm4)
             simp only [wi, decide_eq_true_eq] at hq
             obtain ⟨qn, hqn⟩ : ∃ y : Nat, bk.preds[m] = y := ⟨bk.preds[m].toNat, by omega⟩
             have hqb : qn < bn := by have := HEB.out; omega
             rw [hqn] at kq0
             have hb6 : b6 < w.heap.size := block_lt_of_cell kq0
             subst e6
             have hth : thL f (lwP f) yn qn = true := by
              have h1 := HPH.out m hmf
              have e1 : gn bk.preds m = (qn : Int) := by rw [<- hqn]; simp [gn, List.getD_eq_getElem?_getD, hm4]
              rw [hyn, e1, Int.toNat_natCast, Int.toNat_natCast] at h1
              exact h1
             have HTH : Hid (Calls Tryz.prog 27 #[.agg #[.string s, .slice pa pn pc, .int .i64 r, .slice va vn vc, .slice ba bn bc], .slice (some ⟨gp, 0, none⟩) vn vn, .int .i64 yn, .int .i64 qn] wv.drew fun e w' => e = .returned (.bool true) /\ Below wv.drew.heap.size wv.drew w') := there_any wv.drew (HC.out wv.drew HE.out.bel.drew) HM.out.gd (by omega) (by rw [HM.out.len]; exact HEV.out) ((HE.out.next (Below.refl _ _).drew).pl.prs (by omega)) yn qn hyv hqb true hth
             have HS : Hid (∀ w1, Below wv.heap.size wv w1 -> (fun w' : World => w'.cell? ⟨w.heap.size, 0, none⟩ = some (.string s) /\ w'.cell? ⟨w.heap.size, 1, none⟩ = some (.slice pa pn pc) /\ w'.cell? ⟨w.heap.size, 2, none⟩ = some (.int .i64 r) /\ w'.cell? ⟨w.heap.size, 3, none⟩ = some (.slice va vn vc) /\ w'.cell? ⟨w.heap.size, 4, none⟩ = some (.slice ba bn bc) /\ w'.cell? ⟨BB, 5, none⟩ = some (.slice (some ⟨b6, o6, none⟩) l4 nc) /\ w'.cell? ⟨b5, o5 + m, none⟩ = some (.int .i64 yn) /\ w'.cell? ⟨b6, o6 + m, none⟩ = some (.int .i64 qn)) w1) := fun w1 h => by
              have d := HE.out.next h
              exact ⟨cell_arr d.box rfl, cell_arr d.box rfl, cell_arr d.box rfl, cell_arr d.box rfl, cell_arr d.box rfl, cell_arr d.bx rfl, (d.bel.cell (p := ⟨b5, o5 + m, none⟩) hb5).trans ky0, (d.bel.cell (p := ⟨b6, o6 + m, none⟩) hb6).trans kq0⟩
             have S0 := HS.out wv.drew (Below.refl _ _).drew
             have HNX : Hid (∀ w1, Below wv.drew.heap.size wv.drew w1 -> Below wv.heap.size wv w1) := fun w1 h => (Below.refl wv.heap.size wv).drew.trans h
             clear hy hyn hq hqn hth ky0 kq0
             go_wp2_with fail
             go_region_held (fun w' => w'.cell? ⟨w.heap.size, 0, none⟩ = some (.string s) /\ w'.cell? ⟨w.heap.size, 1, none⟩ = some (.slice pa pn pc) /\ w'.cell? ⟨w.heap.size, 2, none⟩ = some (.int .i64 r) /\ w'.cell? ⟨w.heap.size, 3, none⟩ = some (.slice va vn vc) /\ w'.cell? ⟨w.heap.size, 4, none⟩ = some (.slice ba bn bc) /\ w'.cell? ⟨BB, 5, none⟩ = some (.slice (some ⟨b6, o6, none⟩) l4 nc) /\ w'.cell? ⟨b5, o5 + m, none⟩ = some (.int .i64 yn) /\ w'.cell? ⟨b6, o6 + m, none⟩ = some (.int .i64 qn)) (first | exact S0 | exact S1)
              (first | (go_at_call 27; refine Calls.mono HTH.out ?_; rintro e w1 ⟨rfl, hb1⟩; have B1 := HNX.out w1 hb1; have S1 := HS.out w1 B1))
             all_goals have HE1 : Hid _ := HE.out.next B1
             all_goals clear S0 S1 B1 hb1
             all_goals go_wp2_with fail
             all_goals go_roundw
             all_goals first
              | exact ⟨m + 1, by omega, by go_num, HE1.out⟩
              | (simp [intOf]; omega)
            ·go_wp2_with fail
             go_roundw
             case rel => exact ⟨j + 1, by omega, by go_num, HE.out⟩
             case measure => simp [intOf]; omega
          ·go_wp2_with fail
           clear xb
           go_loopw [16] (fun v wr => ∃ j : Nat, j <= l2 /\ v = .int .i64 j /\ Hid (MD w wr (.cells #[.string s, .slice pa pn pc, .int .i64 r, .slice va vn vc, .slice ba bn bc] 38) BB (.cells #[.slice ka l1 kc, .slice la l2 lc, .int .i64 kd, .int .i64 vl, .slice ma l3 mc, .slice na l4 nc] 46) gp gt vn (lwP f) (cntAll f) (totK f bn))) (fun v _ => l2 - (intOf v).toNat)
           case atStart => exact ⟨0, by omega, rfl, HD⟩
           case round =>
            clear HD
            obtain ⟨j, hj, rfl, HD⟩ := hrel
            obtain ⟨wq, rfl⟩ : ∃ wq, wq = wr := ⟨_, rfl⟩
            have xb : wq.cell? ⟨BB, 1, none⟩ = some (.slice la l2 lc) := cell_arr HD.out.bx rfl
            have xs : BB < wq.heap.size := (gl HD.out.bx)
            by_cases hlt : j < l2
            ·have hjf : j < bk.body.length := by have := HBK1.out.2.2.1; omega
             obtain ⟨b1, o1, ea, kx0⟩ := HI2.out.at hjf
             have hx := List.all_eq_true.1 HR2.out _ (List.getElem_mem hjf)
             simp only [wi, decide_eq_true_eq] at hx
             obtain ⟨p, hp⟩ : ∃ p : Nat, bk.body[j] = p := ⟨bk.body[j].toNat, by omega⟩
             have hpv : p < vn := by have := HEV.out; omega
             have hpf : p < f.vals.length := by have := HEV.out; omega
             obtain ⟨AR, hAR⟩ : ∃ x, x = f.vals[p].args := ⟨_, rfl⟩
             have eg : gv f bk.body[j] = f.vals[p] := by rw [hp]; exact gv_at f p hpf
             have HBO : Hid (∀ y ∈ AR, (((lwP f).getD y.toNat (0, 0)).1 = (i : Int) -> ((lwP f).getD y.toNat (0, 0)).2 < (j : Int)) /\ (((lwP f).getD y.toNat (0, 0)).1 ≠ (i : Int) -> thL f (lwP f) y.toNat i = true)) := by
              intro y hy
              have hbo := HM.out.body i hif
              rw [<- HBK1.out.1] at hbo
              exact hbo j hjf y (by rw [eg, <- hAR]; exact hy)
             have HAW : Hid (AR.all (wi f.vals.length) = true) := by rw [hAR]; exact HM.out.rg.a _ (List.getElem_mem hpf)
             rw [hp] at kx0
             have hbw : b1 < w.heap.size := block_lt_of_cell kx0
             have kx := (HD.out.bel.cell (p := ⟨b1, o1 + j, none⟩) hbw).trans kx0
             obtain ⟨b3, o3, aa, ac, eva, hl3', v0, v1, v2, v3, iA⟩ := HCW.out.hv.at4 hpf
             have x3 : wq.cell? ⟨w.heap.size, 3, none⟩ = some (.slice (some ⟨b3, o3, none⟩) vn vc) := by rw [<- eva]; exact cell_arr HD.out.box rfl
             replace v3 := (HD.out.bel.cell (p := ⟨b3, o3 + p * 4 + 3, none⟩) hl3').trans v3
             rw [<- hAR] at v3 iA
             obtain ⟨al, hal⟩ : ∃ x, x = AR.length := ⟨_, rfl⟩
             rw [<- hal] at v3
             have HAI : Hid (Ints w aa ac AR) := iA
             have HAL : Hid (al = AR.length) := hal
             have hac : al <= ac /\ ac <= 9223372036854775807 := by have := iA.le; have := iA.mx; omega
             have xw : w.heap.size < wq.heap.size := (gl HD.out.box)
             have hb3l : b3 < wq.heap.size := by have := HD.out.bel.size; omega
             have hb1l : b1 < wq.heap.size := by have := HD.out.bel.size; omega
             rw [ea] at xb
             clear hx hp eg hAR v0 v1 v2 iA kx0 eva hal ea
             go_wp2_with fail
             go_quiet (fail)
             go_wp2_with fail
             clear kx v3 x3 xb
             go_loopw [18] (fun v wr => ∃ m : Nat, m <= al /\ v = .int .i64 m /\ Hid (MD w wr (.cells #[.string s, .slice pa pn pc, .int .i64 r, .slice va vn vc, .slice ba bn bc] 38) BB (.cells #[.slice ka l1 kc, .slice la l2 lc, .int .i64 kd, .int .i64 vl, .slice ma l3 mc, .slice na l4 nc] 46) gp gt vn (lwP f) (cntAll f) (totK f bn))) (fun v _ => al - (intOf v).toNat)
             case atStart => exact ⟨0, by omega, rfl, HD.out.next (below_drawn (Below.refl _ _) _)⟩
             case round =>
              obtain ⟨m, hm, rfl, HE⟩ := hrel
              obtain ⟨wv, rfl⟩ : ∃ wv, wv = wr := ⟨_, rfl⟩
              by_cases hml : m < al
              ·have hmf : m < AR.length := by have := HAL.out; omega
               obtain ⟨b5, o5, e5, ky0⟩ := HAI.out.at hmf
               have hy := List.all_eq_true.1 HAW.out _ (List.getElem_mem hmf)
               simp only [wi, decide_eq_true_eq] at hy
               obtain ⟨yn, hyn⟩ : ∃ y : Nat, AR[m] = y := ⟨AR[m].toNat, by omega⟩
               have hyv : yn < vn := by have := HEV.out; omega
               rw [hyn] at ky0
               have hb5 : b5 < w.heap.size := block_lt_of_cell ky0
               subst e5
               have ky := (HE.out.bel.cell (p := ⟨b5, o5 + m, none⟩) hb5).trans ky0
               obtain ⟨t1, t2⟩ := HE.out.pl.two hyv
               obtain ⟨hA, hB⟩ := HBO.out _ (List.getElem_mem hmf)
               rw [hyn, Int.toNat_natCast] at hA hB
               have hgl : gp < wv.heap.size := (gl HE.out.pl.row)
               have hb5l : b5 < wv.heap.size := by have := HE.out.bel.size; omega
               obtain ⟨u1, hu1⟩ : ∃ x, x = ((lwP f).getD yn (0, 0)).1 := ⟨_, rfl⟩
               obtain ⟨u2, hu2⟩ : ∃ x, x = ((lwP f).getD yn (0, 0)).2 := ⟨_, rfl⟩
               rw [<- hu1] at t1 hA hB
               rw [<- hu2] at t2 hA
               obtain ⟨QB, hQB⟩ : ∃ B, B = wv.heap.size := ⟨_, rfl⟩
               obtain ⟨W4, hW4⟩ : ∃ W, W = wv.alloc (.cells #[.int .i64 u1, .int .i64 u2] 61) := ⟨_, rfl⟩
               have kQ : W4.heap[QB]? = some (.cells #[.int .i64 u1, .int .i64 u2] 61 (0, 0)) := by rw [hW4, hQB]; exact heap_alloc_new _ _
               have HE4 : Hid (MD w W4 _ BB _ gp gt vn (lwP f) (cntAll f) (totK f bn)) := HE.out.next (by rw [hW4]; exact below_new _ _)
               clear hu1 hu2
               go_upto_region 52 with fail
               rw [<- hW4]
               rw [<- hQB]
               clear hW4 hQB ky t1 t2
               have q0 : W4.cell? ⟨QB, 0, none⟩ = some (.int .i64 u1) := cell_arr kQ rfl
               have q1 : W4.cell? ⟨QB, 1, none⟩ = some (.int .i64 u2) := cell_arr kQ rfl
               have hQl : QB < W4.heap.size := (gl kQ)
               by_cases hu : u1 = (i : Int)
               ·have h2 := hA hu
                have hd2 : decide ((j : Int) <= u2) = false := by simp; omega
                have hd3 : decide (u2 < (j : Int)) = true := by simp; omega
                have he : (u1 == (i : Int)) = true := by simp [hu]
                clear hA hB hy hyn ky0
                go_quiet (fail)
                go_wp2_with fail
                go_roundw
                case rel => exact ⟨m + 1, by omega, by go_num, HE4.out.next (below_drawn (Below.refl _ _) _)⟩
                case measure => simp [intOf]; omega
               ·have hth := hB hu
                have he : (u1 == (i : Int)) = false := by simp [hu]
                have hne : ¬ u1 = (i : Int) := hu
                have hnb : (u1 != (i : Int)) = true := by simp [hu]
                have HTH : Hid (∀ w', Below W4.heap.size W4 w' -> Calls Tryz.prog 27 #[.agg #[.string s, .slice pa pn pc, .int .i64 r, .slice va vn vc, .slice ba bn bc], .slice (some ⟨gp, 0, none⟩) vn vn, .int .i64 yn, .int .i64 i] w' fun e w'' => e = .returned (.bool true) /\ Below w'.heap.size w' w'') := fun w' hb => there_any w' (HC.out w' (HE4.out.next hb).bel) HM.out.gd (by omega) (by rw [HM.out.len]; exact HEV.out) ((HE4.out.next hb).pl.prs (by omega)) yn i hyv hlt0' true hth
                have HS : Hid (∀ w1, Below W4.heap.size W4 w1 -> (fun w' : World => w'.cell? ⟨w.heap.size, 0, none⟩ = some (.string s) /\ w'.cell? ⟨w.heap.size, 1, none⟩ = some (.slice pa pn pc) /\ w'.cell? ⟨w.heap.size, 2, none⟩ = some (.int .i64 r) /\ w'.cell? ⟨w.heap.size, 3, none⟩ = some (.slice va vn vc) /\ w'.cell? ⟨w.heap.size, 4, none⟩ = some (.slice ba bn bc) /\ w'.cell? ⟨QB, 0, none⟩ = some (.int .i64 u1) /\ w'.cell? ⟨b5, o5 + m, none⟩ = some (.int .i64 yn)) w1) := fun w1 h => by
                 have d := HE4.out.next h
                 exact ⟨cell_arr d.box rfl, cell_arr d.box rfl, cell_arr d.box rfl, cell_arr d.box rfl, cell_arr d.box rfl, (h.cell (p := ⟨QB, 0, none⟩) hQl).trans q0, (d.bel.cell (p := ⟨b5, o5 + m, none⟩) hb5).trans ky0⟩
                have S0 := HS.out W4.drew (Below.refl _ _).drew
                clear hA hB hy hyn ky0 hth q1
                refine led_startM (z := 100) HS.out (by kernel_rfl) ?_
                show led _ _ _ _ _ 27 _ _ _
                refine led_tF (i := 0) (v := ?v0z) rfl (by kernel_rfl) (.inl ⟨by rfl, ?hy0z⟩) S0 ?rest0z
                case hy0z =>
                 rintro w' ⟨h0, h1, h2, h3, h4, h5, h6⟩
                 go_simp
                 all_goals with_reducible rfl
                try simp only [Act.put, List.getElem_toArray, List.getElem_cons_succ, List.getElem_cons_zero, List.setIfInBounds_toArray, List.set_cons_zero, List.set_cons_succ]
                refine led_tF (i := 1) (v := ?v1z) rfl (by kernel_rfl) (.inl ⟨by rfl, ?hy1z⟩) S0 ?rest1z
                case hy1z =>
                 rintro w' ⟨h0, h1, h2, h3, h4, h5, h6⟩
                 go_simp
                 all_goals with_reducible rfl
                try simp only [Act.put, List.getElem_toArray, List.getElem_cons_succ, List.getElem_cons_zero, List.setIfInBounds_toArray, List.set_cons_zero, List.set_cons_succ]
                refine led_tF (i := 2) (v := ?v2z) rfl (by kernel_rfl) (.inl ⟨by rfl, ?hy2z⟩) S0 ?rest2z
                case hy2z =>
                 rintro w' ⟨h0, h1, h2, h3, h4, h5, h6⟩
                 go_simp
                 all_goals with_reducible rfl
                try simp only [Act.put, List.getElem_toArray, List.getElem_cons_succ, List.getElem_cons_zero, List.setIfInBounds_toArray, List.set_cons_zero, List.set_cons_succ]
                refine led_tF (i := 3) (v := ?v3z) rfl (by kernel_rfl) (.inl ⟨by rfl, ?hy3z⟩) S0 ?rest3z
                case hy3z =>
                 rintro w' ⟨h0, h1, h2, h3, h4, h5, h6⟩
                 go_simp
                 all_goals with_reducible rfl
                try simp only [Act.put, List.getElem_toArray, List.getElem_cons_succ, List.getElem_cons_zero, List.setIfInBounds_toArray, List.set_cons_zero, List.set_cons_succ]
                refine led_tF (i := 4) (v := ?v4z) rfl (by kernel_rfl) (.inl ⟨by rfl, ?hy4z⟩) S0 ?rest4z
                case hy4z =>
                 rintro w' ⟨h0, h1, h2, h3, h4, h5, h6⟩
                 go_simp
                 all_goals with_reducible rfl
                try simp only [Act.put, List.getElem_toArray, List.getElem_cons_succ, List.getElem_cons_zero, List.setIfInBounds_toArray, List.set_cons_zero, List.set_cons_succ]
                refine led_tF (i := 5) (v := undef) rfl (by kernel_rfl) (.inr ⟨by kernel_rfl, rfl⟩) S0 ?_
                try simp only [Act.put, List.getElem_toArray, List.getElem_cons_succ, List.getElem_cons_zero, List.setIfInBounds_toArray, List.set_cons_zero, List.set_cons_succ]
                refine led_tF (i := 6) (v := undef) rfl (by kernel_rfl) (.inr ⟨by kernel_rfl, rfl⟩) S0 ?_
                try simp only [Act.put, List.getElem_toArray, List.getElem_cons_succ, List.getElem_cons_zero, List.setIfInBounds_toArray, List.set_cons_zero, List.set_cons_succ]
                refine led_tF (i := 7) (v := undef) rfl (by kernel_rfl) (.inr ⟨by kernel_rfl, rfl⟩) S0 ?_
                try simp only [Act.put, List.getElem_toArray, List.getElem_cons_succ, List.getElem_cons_zero, List.setIfInBounds_toArray, List.set_cons_zero, List.set_cons_succ]
                refine led_tF (i := 8) (v := undef) rfl (by kernel_rfl) (.inr ⟨by kernel_rfl, rfl⟩) S0 ?_
                try simp only [Act.put, List.getElem_toArray, List.getElem_cons_succ, List.getElem_cons_zero, List.setIfInBounds_toArray, List.set_cons_zero, List.set_cons_succ]
                refine led_tF (i := 9) (v := ?v9z) rfl (by kernel_rfl) (.inl ⟨by rfl, ?hy9z⟩) S0 ?rest9z
                case hy9z =>
                 rintro w' ⟨h0, h1, h2, h3, h4, h5, h6⟩
                 go_simp
                 all_goals with_reducible rfl
                try simp only [Act.put, List.getElem_toArray, List.getElem_cons_succ, List.getElem_cons_zero, List.setIfInBounds_toArray, List.set_cons_zero, List.set_cons_succ]
                refine led_tF (i := 10) (v := ?v10z) rfl (by kernel_rfl) (.inl ⟨by rfl, ?hy10z⟩) S0 ?rest10z
                case hy10z =>
                 rintro w' ⟨h0, h1, h2, h3, h4, h5, h6⟩
                 go_simp
                 all_goals with_reducible rfl
                try simp only [Act.put, List.getElem_toArray, List.getElem_cons_succ, List.getElem_cons_zero, List.setIfInBounds_toArray, List.set_cons_zero, List.set_cons_succ]
                refine led_tF (i := 11) (v := ?v11z) rfl (by kernel_rfl) (.inl ⟨by kernel_rfl, ?hy11z⟩) S0 ?rest11z
                case hy11z =>
                 rintro w' ⟨h0, h1, h2, h3, h4, h5, h6⟩
                 go_simp
                 all_goals with_reducible rfl
                try simp only [Act.put, List.getElem_toArray, List.getElem_cons_succ, List.getElem_cons_zero, List.setIfInBounds_toArray, List.set_cons_zero, List.set_cons_succ]
                refine led_tF (i := 12) (v := ?v12z) rfl (by kernel_rfl) (.inl ⟨by kernel_rfl, ?hy12z⟩) S0 ?rest12z
                case hy12z =>
                 rintro w' ⟨h0, h1, h2, h3, h4, h5, h6⟩
                 go_simp
                 all_goals with_reducible rfl
                try simp only [Act.put, List.getElem_toArray, List.getElem_cons_succ, List.getElem_cons_zero, List.setIfInBounds_toArray, List.set_cons_zero, List.set_cons_succ]
                refine led_tF (i := 13) (v := ?v13z) rfl (by kernel_rfl) (.inl ⟨by kernel_rfl, ?hy13z⟩) S0 ?rest13z
                case hy13z =>
                 rintro w' ⟨h0, h1, h2, h3, h4, h5, h6⟩
                 go_simp
                 all_goals with_reducible rfl
                try simp only [Act.put, List.getElem_toArray, List.getElem_cons_succ, List.getElem_cons_zero, List.setIfInBounds_toArray, List.set_cons_zero, List.set_cons_succ]
                refine led_tF (i := 14) (v := ?v14z) rfl (by kernel_rfl) (.inl ⟨by kernel_rfl, ?hy14z⟩) S0 ?rest14z
                case hy14z =>
                 rintro w' ⟨h0, h1, h2, h3, h4, h5, h6⟩
                 go_simp
                 all_goals with_reducible rfl
                try simp only [Act.put, List.getElem_toArray, List.getElem_cons_succ, List.getElem_cons_zero, List.setIfInBounds_toArray, List.set_cons_zero, List.set_cons_succ]
                refine led_tF (i := 15) (v := ?v15z) rfl (by kernel_rfl) (.inl ⟨by kernel_rfl, ?hy15z⟩) S0 ?rest15z
                case hy15z =>
                 rintro w' ⟨h0, h1, h2, h3, h4, h5, h6⟩
                 go_simp
                 all_goals with_reducible rfl
                try simp only [Act.put, List.getElem_toArray, List.getElem_cons_succ, List.getElem_cons_zero, List.setIfInBounds_toArray, List.set_cons_zero, List.set_cons_succ]
                refine led_tF (i := 16) (v := ?v16z) rfl (by kernel_rfl) (.inl ⟨by kernel_rfl, ?hy16z⟩) S0 ?rest16z
                case hy16z =>
                 rintro w' ⟨h0, h1, h2, h3, h4, h5, h6⟩
                 go_simp
                 all_goals with_reducible rfl
                try simp only [Act.put, List.getElem_toArray, List.getElem_cons_succ, List.getElem_cons_zero, List.setIfInBounds_toArray, List.set_cons_zero, List.set_cons_succ]
                refine led_tF (i := 17) (v := ?v17z) rfl (by kernel_rfl) (.inl ⟨by kernel_rfl, ?hy17z⟩) S0 ?rest17z
                case hy17z =>
                 rintro w' ⟨h0, h1, h2, h3, h4, h5, h6⟩
                 go_simp
                 all_goals with_reducible rfl
                try simp only [Act.put, List.getElem_toArray, List.getElem_cons_succ, List.getElem_cons_zero, List.setIfInBounds_toArray, List.set_cons_zero, List.set_cons_succ]
                refine led_tF (i := 18) (v := ?v18z) rfl (by kernel_rfl) (.inl ⟨by kernel_rfl, ?hy18z⟩) S0 ?rest18z
                case hy18z =>
                 rintro w' ⟨h0, h1, h2, h3, h4, h5, h6⟩
                 go_simp
                 all_goals with_reducible rfl
                try simp only [Act.put, List.getElem_toArray, List.getElem_cons_succ, List.getElem_cons_zero, List.setIfInBounds_toArray, List.set_cons_zero, List.set_cons_succ]
                refine led_tF (i := 19) (v := ?v19z) rfl (by kernel_rfl) (.inl ⟨by kernel_rfl, ?hy19z⟩) S0 ?rest19z
                case hy19z =>
                 rintro w' ⟨h0, h1, h2, h3, h4, h5, h6⟩
                 go_simp
                 all_goals with_reducible rfl
                try simp only [Act.put, List.getElem_toArray, List.getElem_cons_succ, List.getElem_cons_zero, List.setIfInBounds_toArray, List.set_cons_zero, List.set_cons_succ]
                refine led_tF (i := 20) (v := ?v20z) rfl (by kernel_rfl) (.inl ⟨by kernel_rfl, ?hy20z⟩) S0 ?rest20z
                case hy20z =>
                 rintro w' ⟨h0, h1, h2, h3, h4, h5, h6⟩
                 go_simp
                 all_goals with_reducible rfl
                try simp only [Act.put, List.getElem_toArray, List.getElem_cons_succ, List.getElem_cons_zero, List.setIfInBounds_toArray, List.set_cons_zero, List.set_cons_succ]
                refine led_tF (i := 21) (v := ?v21z) rfl (by kernel_rfl) (.inl ⟨by kernel_rfl, ?hy21z⟩) S0 ?rest21z
                case hy21z =>
                 rintro w' ⟨h0, h1, h2, h3, h4, h5, h6⟩
                 go_simp
                 all_goals with_reducible rfl
                try simp only [Act.put, List.getElem_toArray, List.getElem_cons_succ, List.getElem_cons_zero, List.setIfInBounds_toArray, List.set_cons_zero, List.set_cons_succ]
                refine led_tF (i := 22) (v := ?v22z) rfl (by kernel_rfl) (.inl ⟨by kernel_rfl, ?hy22z⟩) S0 ?rest22z
                case hy22z =>
                 rintro w' ⟨h0, h1, h2, h3, h4, h5, h6⟩
                 go_simp
                 all_goals with_reducible rfl
                try simp only [Act.put, List.getElem_toArray, List.getElem_cons_succ, List.getElem_cons_zero, List.setIfInBounds_toArray, List.set_cons_zero, List.set_cons_succ]
                refine led_one (i := 23) rfl (by kernel_rfl) ?_
                intro K23 hK23
                rw [if_pos (by kernel_rfl)]
                go_simp
                refine (HTH.out W4.drew (Below.refl _ _).drew).mono ?_
                rintro e w1 ⟨rfl, hb1⟩
                have B1 : Below W4.heap.size W4 w1 := (Below.refl W4.heap.size W4).drew.trans hb1
                have S1 := HS.out w1 B1
                refine hK23 _ _ (fun _ => S1) ?_
                clear hK23
                try simp only [Act.put, List.getElem_toArray, List.getElem_cons_succ, List.getElem_cons_zero, List.setIfInBounds_toArray, List.set_cons_zero, List.set_cons_succ]
                refine led_tF (i := 24) (v := ?v24z) rfl (by kernel_rfl) (.inl ⟨by kernel_rfl, ?hy24z⟩) S1 ?rest24z
                case hy24z =>
                 rintro w' ⟨h0, h1, h2, h3, h4, h5, h6⟩
                 go_simp
                 all_goals with_reducible rfl
                try simp only [Act.put, List.getElem_toArray, List.getElem_cons_succ, List.getElem_cons_zero, List.setIfInBounds_toArray, List.set_cons_zero, List.set_cons_succ]
                refine led_tF (i := 25) (v := ?v25z) rfl (by kernel_rfl) (.inl ⟨by kernel_rfl, ?hy25z⟩) S1 ?rest25z
                case hy25z =>
                 rintro w' ⟨h0, h1, h2, h3, h4, h5, h6⟩
                 go_simp
                 all_goals with_reducible rfl
                try simp only [Act.put, List.getElem_toArray, List.getElem_cons_succ, List.getElem_cons_zero, List.setIfInBounds_toArray, List.set_cons_zero, List.set_cons_succ]
                refine led_tF (i := 26) (v := ?v26z) rfl (by kernel_rfl) (.inl ⟨by rfl, ?hy26z⟩) S1 ?rest26z
                case hy26z =>
                 rintro w' ⟨h0, h1, h2, h3, h4, h5, h6⟩
                 go_simp
                 all_goals with_reducible rfl
                try simp only [Act.put, List.getElem_toArray, List.getElem_cons_succ, List.getElem_cons_zero, List.setIfInBounds_toArray, List.set_cons_zero, List.set_cons_succ]
                have HE5 : Hid _ := HE4.out.next B1
                clear S0 S1 B1 hb1 q0
                refine led_done (by kernel_rfl) ?_
                go_wp2_with fail
                go_roundw
                case rel => exact ⟨m + 1, by omega, by go_num, HE5.out⟩
                case measure => simp [intOf]; omega
              ·go_wp2_with fail
               go_roundw
               case rel => exact ⟨j + 1, by omega, by go_num, HE.out⟩
               case measure => simp [intOf]; omega
            ·have xv : wq.cell? ⟨BB, 3, none⟩ = some (.int .i64 vl) := cell_arr HD.out.bx rfl
             by_cases hv0 : vl < 0
             ·have hd : decide (0 <= vl) = false := by simp; omega
              have HD7 : Hid _ := HD.out.rebox HD.out.box
              go_wp2_with fail
              go_roundw
              case rel => exact ⟨i + 1, by omega, by go_num, HD7.out⟩
              case measure => simp [intOf]; omega
             ·obtain ⟨vv, rfl⟩ : ∃ v : Nat, vl = v := ⟨vl.toNat, by omega⟩
              have hvv : vv < vn := by have := HRV.out; have := HBK1.out.2.2.2.2; have := HEV.out; omega
              have hth : thL f (lwP f) vv i = true := by
               have h1 := HM.out.term i hif
               rw [<- HBK1.out.1, <- HBK1.out.2.2.2.2] at h1
               have := h1 (by omega)
               rw [Int.toNat_natCast] at this
               exact this
              have HTH : Hid (Calls Tryz.prog 27 #[.agg #[.string s, .slice pa pn pc, .int .i64 r, .slice va vn vc, .slice ba bn bc], .slice (some ⟨gp, 0, none⟩) vn vn, .int .i64 vv, .int .i64 i] wq fun e w' => e = .returned (.bool true) /\ Below wq.heap.size wq w') := there_any wq (HC.out wq HD.out.bel) HM.out.gd (by omega) (by rw [HM.out.len]; exact HEV.out) (HD.out.pl.prs (by omega)) vv i hvv hlt0' true hth
              have x0 : wq.cell? ⟨w.heap.size, 0, none⟩ = some (.string s) := cell_arr HD.out.box rfl
              have x1 : wq.cell? ⟨w.heap.size, 1, none⟩ = some (.slice pa pn pc) := cell_arr HD.out.box rfl
              have x2 : wq.cell? ⟨w.heap.size, 2, none⟩ = some (.int .i64 r) := cell_arr HD.out.box rfl
              have x3 : wq.cell? ⟨w.heap.size, 3, none⟩ = some (.slice va vn vc) := cell_arr HD.out.box rfl
              have x4 : wq.cell? ⟨w.heap.size, 4, none⟩ = some (.slice ba bn bc) := cell_arr HD.out.box rfl
              have hd : decide (0 <= (vv : Int)) = true := by simp
              clear hth
              go_wp2_with fail
              refine Calls.mono HTH.out ?_
              rintro e w9 ⟨rfl, hb9⟩
              have HD7 : Hid _ := (HD.out.next hb9).rebox (HD.out.next hb9).box
              clear hb9 x0 x1 x2 x3 x4 xv xb
              go_wp2_with fail
              go_roundw
              case rel => exact ⟨i + 1, by omega, by go_num, HD7.out⟩
              case measure => simp [intOf]; omega
        ·have HLO : Hid (Below w.heap.size w wo) := HD.out.bel
         go_wp2_with fail
         go_ret
         exact ⟨rfl, HLO.out⟩
end Go.Proofs.YtdbkjjelaipcfaaGreatDoor
