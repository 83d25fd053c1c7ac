import Derived.Test.YtdbkjjelaipcfaaGreatDoorJbg
import Derived.Test.YtdbkjjelaipcfaaGreatDoorJbo
set_option linter.unusedVariables false
set_option linter.unusedSimpArgs false
namespace Go.Proofs.YtdbkjjelaipcfaaGreatDoor
open Go.ChangeShapes Go.WideShapes Go.ChangeAt Go.RowKit Go.Maps
theorem box5 {w : World} {gb : Nat} {x0 x1 x2 x3 x4 : Value} (h : w.heap[gb]? = some (.cells #[x0, x1, x2, x3, x4] 38 (0, 0))) (y0 y1 y2 y3 y4 : Value) : (((((w.setCell ⟨gb, 0, none⟩ y0).setCell ⟨gb, 1, none⟩ y1).setCell ⟨gb, 2, none⟩ y2).setCell ⟨gb, 3, none⟩ y3).setCell ⟨gb, 4, none⟩ y4).heap[gb]? = some (.cells #[y0, y1, y2, y3, y4] 38 (0, 0)) := by
 have h0 := heap_set_at (i := 0) (v := y0) h
 have h1 := heap_set_at (i := 1) (v := y1) h0
 have h2 := heap_set_at (i := 2) (v := y2) h1
 have h3 := heap_set_at (i := 3) (v := y3) h2
 have h4 := heap_set_at (i := 4) (v := y4) h3
 rw [h4]; rfl
theorem box5_o {w : World} {gb k : Nat} (h : k ≠ gb) (y0 y1 y2 y3 y4 : Value) : (((((w.setCell ⟨gb, 0, none⟩ y0).setCell ⟨gb, 1, none⟩ y1).setCell ⟨gb, 2, none⟩ y2).setCell ⟨gb, 3, none⟩ y3).setCell ⟨gb, 4, none⟩ y4).heap[k]? = w.heap[k]? := by
 rw [heap_set_other h, heap_set_other h, heap_set_other h, heap_set_other h, heap_set_other h]
theorem box4 {w : World} {gb : Nat} {x0 x1 x2 x3 : Value} (h : w.heap[gb]? = some (.cells #[x0, x1, x2, x3] 42 (0, 0))) (y0 y1 y2 y3 : Value) : ((((w.setCell ⟨gb, 0, none⟩ y0).setCell ⟨gb, 1, none⟩ y1).setCell ⟨gb, 2, none⟩ y2).setCell ⟨gb, 3, none⟩ y3).heap[gb]? = some (.cells #[y0, y1, y2, y3] 42 (0, 0)) := by
 have h0 := heap_set_at (i := 0) (v := y0) h
 have h1 := heap_set_at (i := 1) (v := y1) h0
 have h2 := heap_set_at (i := 2) (v := y2) h1
 have h3 := heap_set_at (i := 3) (v := y3) h2
 rw [h3]; rfl
theorem box4_o {w : World} {gb k : Nat} (h : k ≠ gb) (y0 y1 y2 y3 : Value) : ((((w.setCell ⟨gb, 0, none⟩ y0).setCell ⟨gb, 1, none⟩ y1).setCell ⟨gb, 2, none⟩ y2).setCell ⟨gb, 3, none⟩ y3).heap[k]? = w.heap[k]? := by
 rw [heap_set_other h, heap_set_other h, heap_set_other h, heap_set_other h]
theorem box6 {w : World} {gb : Nat} {x0 x1 x2 x3 x4 x5 : Value} (h : w.heap[gb]? = some (.cells #[x0, x1, x2, x3, x4, x5] 46 (0, 0))) (y0 y1 y2 y3 y4 y5 : Value) : ((((((w.setCell ⟨gb, 0, none⟩ y0).setCell ⟨gb, 1, none⟩ y1).setCell ⟨gb, 2, none⟩ y2).setCell ⟨gb, 3, none⟩ y3).setCell ⟨gb, 4, none⟩ y4).setCell ⟨gb, 5, none⟩ y5).heap[gb]? = some (.cells #[y0, y1, y2, y3, y4, y5] 46 (0, 0)) := by
 have h0 := heap_set_at (i := 0) (v := y0) h
 have h1 := heap_set_at (i := 1) (v := y1) h0
 have h2 := heap_set_at (i := 2) (v := y2) h1
 have h3 := heap_set_at (i := 3) (v := y3) h2
 have h4 := heap_set_at (i := 4) (v := y4) h3
 have h5 := heap_set_at (i := 5) (v := y5) h4
 rw [h5]; rfl
theorem box6_o {w : World} {gb k : Nat} (h : k ≠ gb) (y0 y1 y2 y3 y4 y5 : Value) : ((((((w.setCell ⟨gb, 0, none⟩ y0).setCell ⟨gb, 1, none⟩ y1).setCell ⟨gb, 2, none⟩ y2).setCell ⟨gb, 3, none⟩ y3).setCell ⟨gb, 4, none⟩ y4).setCell ⟨gb, 5, none⟩ y5).heap[k]? = w.heap[k]? := by
 rw [heap_set_other h, heap_set_other h, heap_set_other h, heap_set_other h, heap_set_other h, heap_set_other h]
structure TB (W X : World) (P Q : Nat) (z : Obj) : Prop where
 bel : Below W.heap.size W X
 kf : X.heap[P]? = some z
 kg : X.heap[Q]? = some z
 ne : Q ≠ P
 hp : W.heap.size <= P
 hq : W.heap.size <= Q
theorem TB.swap {W X : World} {P Q : Nat} {z : Obj} (h : TB W X P Q z) : TB W X Q P z := ⟨h.bel, h.kg, h.kf, h.ne.symm, h.hq, h.hp⟩
theorem TB.of (W : World) (z : Obj) : TB W ((W.alloc z).drew.alloc z) W.heap.size (W.alloc z).drew.heap.size z := by
 have h : (W.alloc z).drew.heap.size = W.heap.size + 1 := by simp
 refine ⟨(below_new _ _).drew.alloc (by omega) _, ?_, heap_alloc_new _ _, by omega, by omega, by omega⟩
 rw [heap_alloc_old _ _ (by omega)]
 exact heap_alloc_new W z
theorem two_ways {A G : Nat -> Nat -> World -> Prop} {p : Prop} (h : (∀ P Q X, A P Q X -> G P Q X) -> p) (g : ∀ P Q X, A P Q X -> G P Q X) : p := h g
theorem led_l {P : Program} {ops : Array Oper} {Q : Exit -> Act -> World -> Prop} {S : World -> Prop} {z k : Nat} {l l' : Array Bool} {a : Act} {w : World} (h : l = l') (g : led P ops Q S z k l' a w) : led P ops Q S z k l a w := h ▸ g
theorem led_startS {P : Program} {id : Nat} {ops : Array Oper} {Q : Exit -> Act -> World -> Prop} {S : World -> Prop} {W w : World} {B z : Nat} {a : Act} (hS : ∀ w', Below B W w' -> S w') (hm : P.follows .mixedOrders = true) (h : led P ops Q S z ops.size (Array.replicate ops.size false) a w.drew) : (Code.region id ops true).wp P Q a w := led_start hm h
set_option maxRecDepth 100000 in
set_option maxHeartbeats 40000000 in
theorem stays_any (w : World) {B b c lb : Nat} {FS : List Fu} {m1 : Int} {fa : Option Addr} {fn fc : Nat} {mn : Int} (hL : LM w B b c FS) (hbox : w.heap[lb]? = some (.cells #[.slice (some ⟨b, 0, none⟩) fn c, .int .i64 m1] 32 (0, 0))) (hF : Fus w fa fc FS) (ef : fn = FS.length) (hsz : fn <= 10000000) (hfew : ∀ f ∈ FS, Few9 f) :
 Calls Tryz.prog 12 #[.pointer (some ⟨lb, 0, none⟩), .agg #[.slice fa fn fc, .int .i64 mn]] w fun e w' => e = .returned (.bool true) /\ Below w.heap.size w w' := by
 obtain ⟨W0, hW0⟩ : ∃ W, W = w.alloc (.cells #[.slice fa fn fc, .int .i64 mn] 24) := ⟨_, rfl⟩
 have b0 : Below w.heap.size w W0 := by rw [hW0]; exact below_new _ _
 have ks : W0.heap[w.heap.size]? = some (.cells #[.slice fa fn fc, .int .i64 mn] 24) := by rw [hW0]; exact heap_alloc_new _ _
 have hs0 : W0.heap.size = w.heap.size + 1 := by rw [hW0]; simp
 have hlb := (gl hbox)
 have hcl : fn + 1 <= c := by have := hL.le; omega
 have hcm : c <= 9223372036854775807 := hL.mx
 have hci : ((fn : Int) + 1) <= (c : Int) := by omega
 have hbl := hL.lt
 have HKS : Hid (∀ w', Below W0.heap.size W0 w' -> w'.cell? ⟨w.heap.size, 0, none⟩ = some (.slice fa fn fc) /\ w'.cell? ⟨lb, 0, none⟩ = some (.slice (some ⟨b, 0, none⟩) fn c)) := fun w' hb => by
  have e1 := (hb.block _ (gl ks)).trans ks
  have e2 := (hb.block lb (by omega)).trans ((b0.block lb hlb).trans hbox)
  exact ⟨cell_arr e1 rfl, cell_arr e2 rfl⟩
 have HBW : Hid (∀ w', Below W0.heap.size W0 w' -> Below w.heap.size w w') := fun w' hb => b0.trans (hb.mono b0.size)
 have HL : Hid (∀ w', Below w.heap.size w w' -> LM w' B b c FS) := fun w' hb => hL.below hb
 have HF : Hid (Fus w fa fc FS) := hF
 have HEF : Hid (fn = FS.length) := ef
 have HFW : Hid (∀ f ∈ FS, Few9 f) := hfew
 have mk : W0.cell? ⟨b, fn * 5, none⟩ = some (.string ⟨#[109, 97, 114, 107]⟩) := by rw [ef]; exact (hL.below b0).mark
 have hfc : fn <= fc := by have := hF.le; omega
 have hfm : fc <= 9223372036854775807 := hF.mx
 have HW0 : Hid (w.heap.size < W0.heap.size) := by show _ < _; omega
 obtain ⟨s0, l0⟩ := HKS.out W0 (Below.refl _ _)
 clear hL hbox hF ef hfew b0 ks
 go_enter Tryz.func12, Tryz.ntmps12
 go_wp2_with fail
 rw [<- hW0]
 clear hW0
 go_quiet (fail)
 go_wp2_with fail
 clear s0 l0 mk
 go_loopw [5] (fun v wr => ∃ i : Nat, i <= fn /\ v = .int .i64 i /\ Hid (Below W0.heap.size W0 wr)) (fun v _ => fn - (intOf v).toNat)
 case atStart => exact ⟨0, by omega, rfl, by first | exact Below.refl _ _ | exact below_drawn (Below.refl _ _) _⟩
 case round =>
  obtain ⟨wo, rfl⟩ : ∃ wo, wo = wr := ⟨_, rfl⟩
  obtain ⟨i, hi, rfl, HB⟩ := hrel
  obtain ⟨s0, l0⟩ := HKS.out wo HB.out
  have hwl : w.heap.size < wo.heap.size := by have := HB.out.size; have := HW0.out; omega
  by_cases hlt : i < fn
  ·have hif : i < FS.length := by have := HEF.out; omega
   have hBw := HBW.out wo HB.out
   obtain ⟨b', o', ka, kc, la, lc, ma, mc, rfl, hlt0, d0, d1, d2, d3, d4, j1, j2, j3⟩ := HF.out.at hif
   have c0 := (hBw.cell (p := ⟨b', o' + i * 5, none⟩) hlt0).trans d0
   have c1 := (hBw.cell (p := ⟨b', o' + i * 5 + 1, none⟩) hlt0).trans d1
   have c2 := (hBw.cell (p := ⟨b', o' + i * 5 + 2, none⟩) hlt0).trans d2
   have c3 := (hBw.cell (p := ⟨b', o' + i * 5 + 3, none⟩) hlt0).trans d3
   have c4 := (hBw.cell (p := ⟨b', o' + i * 5 + 4, none⟩) hlt0).trans d4
   have hLo := HL.out wo hBw
   obtain ⟨xs, hxl, hE, hx⟩ := hLo.row
   obtain ⟨pa, pc, vb, vc, bb, bc, ex, hIM, hVM, hBM⟩ := (hE i hif (by omega)).out
   have hx' := hx i (by omega)
   rw [ex] at hx'
   have g0 := hx' 0 _ (by omega) rfl
   have g1 := hx' 1 _ (by omega) rfl
   have g2 := hx' 2 _ (by omega) rfl
   have g3 := hx' 3 _ (by omega) rfl
   have g4 := hx' 4 _ (by omega) rfl
   rw [Nat.add_zero] at g0
   have hfw := HFW.out _ (List.getElem_mem hif)
   obtain ⟨f, hf⟩ : ∃ f, f = FS[i] := ⟨_, rfl⟩
   rw [<- hf] at c0 c1 c2 c3 c4 g0 g1 g2 g3 g4 j1 j2 j3 hIM hVM hBM hfw
   obtain ⟨pn, hpn⟩ : ∃ n, n = f.params.length := ⟨_, rfl⟩
   obtain ⟨vn, hvn⟩ : ∃ n, n = f.vals.length := ⟨_, rfl⟩
   obtain ⟨bn, hbn⟩ : ∃ n, n = f.blks.length := ⟨_, rfl⟩
   obtain ⟨s, hs⟩ : ∃ n, n = f.name := ⟨_, rfl⟩
   obtain ⟨r, hr⟩ : ∃ n, n = f.result := ⟨_, rfl⟩
   rw [<- hs] at c0 g0
   rw [<- hpn] at c1 g1
   rw [<- hr] at c2 g2
   rw [<- hvn] at c3 g3
   rw [<- hbn] at c4 g4
   have HE : Hid (pn = f.params.length /\ vn = f.vals.length /\ bn = f.blks.length) := ⟨hpn, hvn, hbn⟩
   have hb'l : b' < wo.heap.size := by have := hBw.size; omega
   have hbl2 : b < wo.heap.size := hLo.lt
   have hll : lb < wo.heap.size := block_lt_of_cell l0
   have hS : ∀ w', Below wo.heap.size wo w' -> (fun w' : World => w'.cell? ⟨w.heap.size, 0, none⟩ = some (.slice (some ⟨b', o', none⟩) fn fc) /\ w'.cell? ⟨lb, 0, none⟩ = some (.slice (some ⟨b, 0, none⟩) fn c) /\ w'.cell? ⟨b', o' + i * 5, none⟩ = some (.string s) /\ w'.cell? ⟨b', o' + i * 5 + 1, none⟩ = some (.slice ka pn kc) /\ w'.cell? ⟨b', o' + i * 5 + 2, none⟩ = some (.int .i64 r) /\ w'.cell? ⟨b', o' + i * 5 + 3, none⟩ = some (.slice la vn lc) /\ w'.cell? ⟨b', o' + i * 5 + 4, none⟩ = some (.slice ma bn mc) /\ w'.cell? ⟨b, i * 5, none⟩ = some (.string s) /\ w'.cell? ⟨b, i * 5 + 1, none⟩ = some (.slice pa pn pc) /\ w'.cell? ⟨b, i * 5 + 2, none⟩ = some (.int .i64 r) /\ w'.cell? ⟨b, i * 5 + 3, none⟩ = some (.slice (some ⟨vb, 0, none⟩) vn vc) /\ w'.cell? ⟨b, i * 5 + 4, none⟩ = some (.slice (some ⟨bb, 0, none⟩) bn bc)) w' := fun w' hb => ⟨(hb.cell (p := ⟨w.heap.size, 0, none⟩) hwl).trans s0, (hb.cell (p := ⟨lb, 0, none⟩) hll).trans l0, (hb.cell (p := ⟨b', o' + i * 5, none⟩) hb'l).trans c0, (hb.cell (p := ⟨b', o' + i * 5 + 1, none⟩) hb'l).trans c1, (hb.cell (p := ⟨b', o' + i * 5 + 2, none⟩) hb'l).trans c2, (hb.cell (p := ⟨b', o' + i * 5 + 3, none⟩) hb'l).trans c3, (hb.cell (p := ⟨b', o' + i * 5 + 4, none⟩) hb'l).trans c4, (hb.cell (p := ⟨b, i * 5, none⟩) hbl2).trans g0, (hb.cell (p := ⟨b, i * 5 + 1, none⟩) hbl2).trans g1, (hb.cell (p := ⟨b, i * 5 + 2, none⟩) hbl2).trans g2, (hb.cell (p := ⟨b, i * 5 + 3, none⟩) hbl2).trans g3, (hb.cell (p := ⟨b, i * 5 + 4, none⟩) hbl2).trans g4⟩
   have HSS : Hid _ := hS
   have S0 := hS wo.drew (Below.refl _ _).drew
   have HJ1 : Hid (∀ w', Below wo.heap.size wo w' -> Ints w' ka kc f.params /\ IM w' B pa pc f.params) := fun w' hb => ⟨(j1.below hBw (Nat.le_refl _)).below hb (Nat.le_refl _), hIM.below hb⟩
   have HJ2 : Hid (∀ w', Below wo.heap.size wo w' -> Vls w' la lc f.vals /\ VM w' B vb vc f.vals) := fun w' hb => ⟨(j2.below hBw (Nat.le_refl _)).below hb (Nat.le_refl _), hVM.move (fun b cs _ e => hb.block b (gl e)) (hb.block vb hVM.lt)⟩
   have HJ3 : Hid (∀ w', Below wo.heap.size wo w' -> Bks w' ma mc f.blks /\ BM w' B bb bc f.blks) := fun w' hb => ⟨(j3.below hBw (Nat.le_refl _)).below hb (Nat.le_refl _), hBM.move (fun b cs _ e => hb.block b (gl e)) (hb.block bb hBM.lt)⟩
   have q1 : vn + 1 <= vc := by have := hVM.le; omega
   have q2 : vc <= 9223372036854775807 := hVM.mx
   have q3 : bn + 1 <= bc := by have := hBM.le; omega
   have q4 : bc <= 9223372036854775807 := hBM.mx
   have q5 : ((vn : Int) + 1) <= (vc : Int) := by omega
   have q6 : ((bn : Int) + 1) <= (bc : Int) := by omega
   have q7 : vn <= lc /\ lc <= 9223372036854775807 := ⟨by have := j2.le; omega, j2.mx⟩
   have q8 : bn <= mc /\ mc <= 9223372036854775807 := ⟨by have := j3.le; omega, j3.mx⟩
   clear hf hpn hvn hbn hs hr j1 j2 j3 hIM hVM hBM d0 d1 d2 d3 d4 hBw hLo hxl hE hx hx' ex hfw hS
   go_wp2_with fail
   clear c0 c1 c2 c3 c4 g0 g1 g2 g3 g4 s0 l0
   go_cut [6, 7] from 50 to 62 (fun fv gv wc => ∃ P Q : Nat, fv = .pointer (some ⟨P, 0, none⟩) /\ gv = .pointer (some ⟨Q, 0, none⟩) /\ Hid (wc.heap[P]? = some (.cells #[.string s, .slice ka pn kc, .int .i64 r, .slice la vn lc, .slice ma bn mc] 38 (0, 0))) /\ Hid (wc.heap[Q]? = some (.cells #[.string s, .slice pa pn pc, .int .i64 r, .slice (some ⟨vb, 0, none⟩) vn vc, .slice (some ⟨bb, 0, none⟩) bn bc] 38 (0, 0))) /\ Hid (Below wo.heap.size wo wc))
   case first =>
    refine led_startS (z := 100) HSS.out (by kernel_rfl) ?_
    show led _ _ _ _ _ 17 _ _ _
    refine led_nF 0 S0 ?_
    refine led_nF 1 S0 ?_
    refine led_nF 2 S0 ?_
    refine led_nF 3 S0 ?_
    refine led_nF 4 S0 ?_
    refine led_nF 5 S0 ?_
    refine led_nF 6 S0 ?_
    refine led_nF 7 S0 ?_
    refine led_nF 8 S0 ?_
    refine led_nF 9 S0 ?_
    refine led_nF 10 S0 ?_
    refine led_nF 11 S0 ?_
    refine led_nF 12 S0 ?_
    apply two_ways (A := fun P Q X => TB wo X P Q (.cells #[.string ⟨#[]⟩, .slice none 0 0, .int .i64 0, .slice none 0 0, .slice none 0 0] 38))
    case h =>
     intro key
     refine led_two (i := 13) (j := 14) rfl rfl (by kernel_rfl) ?_ ?_
     ·intro K13 hK13
      rw [if_pos (by rfl)]
      go_simp
      obtain ⟨WY, hWY⟩ : ∃ W, W = (wo.alloc (.cells #[.string ⟨#[]⟩, .slice none 0 0, .int .i64 0, .slice none 0 0, .slice none 0 0] 38)).drew := ⟨_, rfl⟩
      have SY := HSS.out WY (by rw [hWY]; exact (below_new _ _).drew)
      rw [<- hWY]
      refine hK13 _ _ (fun _ => SY) ?_
      have HWY : Hid _ := hWY
      clear hK13 hWY
      try simp only [Act.put, zi, zz, zs]
      refine led_one (i := 14) rfl (by kernel_rfl) ?_
      intro K14 hK14
      rw [if_pos (by rfl)]
      go_simp
      have T := TB.of wo (.cells #[.string ⟨#[]⟩, .slice none 0 0, .int .i64 0, .slice none 0 0, .slice none 0 0] 38)
      rw [<- HWY.out] at T
      obtain ⟨WX, hWX⟩ : ∃ W, W = WY.alloc (.cells #[.string ⟨#[]⟩, .slice none 0 0, .int .i64 0, .slice none 0 0, .slice none 0 0] 38) := ⟨_, rfl⟩
      rw [<- hWX] at T ⊢
      refine hK14 _ _ (fun _ => HSS.out WX T.bel) ?_
      clear hK14 hWX
      try simp only [Act.put, zi, zz, zs]
      obtain ⟨P1, hP1⟩ : ∃ P, P = wo.heap.size := ⟨_, rfl⟩
      obtain ⟨P2, hP2⟩ : ∃ P, P = WY.heap.size := ⟨_, rfl⟩
      rw [<- hP1, <- hP2] at T ⊢
      refine led_l (l' := #[true, true, true, true, true, true, true, true, true, true, true, true, true, true, true, false, false]) (by kernel_rfl) ?_
      exact key P1 P2 WX T
     ·intro K14 hK14
      rw [if_pos (by rfl)]
      go_simp
      obtain ⟨WY, hWY⟩ : ∃ W, W = (wo.alloc (.cells #[.string ⟨#[]⟩, .slice none 0 0, .int .i64 0, .slice none 0 0, .slice none 0 0] 38)).drew := ⟨_, rfl⟩
      have SY := HSS.out WY (by rw [hWY]; exact (below_new _ _).drew)
      rw [<- hWY]
      refine hK14 _ _ (fun _ => SY) ?_
      have HWY : Hid _ := hWY
      clear hK14 hWY
      try simp only [Act.put, zi, zz, zs]
      refine led_one (i := 13) rfl (by kernel_rfl) ?_
      intro K13 hK13
      rw [if_pos (by rfl)]
      go_simp
      have T := TB.of wo (.cells #[.string ⟨#[]⟩, .slice none 0 0, .int .i64 0, .slice none 0 0, .slice none 0 0] 38)
      rw [<- HWY.out] at T
      obtain ⟨WX, hWX⟩ : ∃ W, W = WY.alloc (.cells #[.string ⟨#[]⟩, .slice none 0 0, .int .i64 0, .slice none 0 0, .slice none 0 0] 38) := ⟨_, rfl⟩
      rw [<- hWX] at T ⊢
      refine hK13 _ _ (fun _ => HSS.out WX T.bel) ?_
      clear hK13 hWX
      try simp only [Act.put, zi, zz, zs]
      obtain ⟨P1, hP1⟩ : ∃ P, P = wo.heap.size := ⟨_, rfl⟩
      obtain ⟨P2, hP2⟩ : ∃ P, P = WY.heap.size := ⟨_, rfl⟩
      rw [<- hP1, <- hP2] at T ⊢
      refine led_l (l' := #[true, true, true, true, true, true, true, true, true, true, true, true, true, true, true, false, false]) (by kernel_rfl) ?_
      exact key P2 P1 WX T.swap
    case g =>
     intro P8 Q8 WX T
     obtain ⟨W3a, hW3a⟩ : ∃ W, W = (((((WX.setCell ⟨P8, 0, none⟩ (.string s)).setCell ⟨P8, 1, none⟩ (.slice ka pn kc)).setCell ⟨P8, 2, none⟩ (.int .i64 r)).setCell ⟨P8, 3, none⟩ (.slice la vn lc)).setCell ⟨P8, 4, none⟩ (.slice ma bn mc)) := ⟨_, rfl⟩
     have knf := box5 T.kf (.string s) (.slice ka pn kc) (.int .i64 r) (.slice la vn lc) (.slice ma bn mc)
     rw [<- hW3a] at knf
     have kg3 : W3a.heap[Q8]? = some (.cells #[.string ⟨#[]⟩, .slice none 0 0, .int .i64 0, .slice none 0 0, .slice none 0 0] 38) := by rw [hW3a, box5_o T.ne]; exact T.kg
     have hb3 : Below wo.heap.size wo W3a := by rw [hW3a]; exact (((((T.bel.setCell T.hp _).setCell T.hp _).setCell T.hp _).setCell T.hp _).setCell T.hp _)
     have Sf := HSS.out W3a hb3
     have cf0 : WX.cell? ⟨P8, 0, none⟩ = some (.string ⟨#[]⟩) := cell_arr T.kf rfl
     have cf1 : WX.cell? ⟨P8, 1, none⟩ = some (.slice none 0 0) := cell_arr T.kf rfl
     have cf2 : WX.cell? ⟨P8, 2, none⟩ = some (.int .i64 0) := cell_arr T.kf rfl
     have cf3 : WX.cell? ⟨P8, 3, none⟩ = some (.slice none 0 0) := cell_arr T.kf rfl
     have cf4 : WX.cell? ⟨P8, 4, none⟩ = some (.slice none 0 0) := cell_arr T.kf rfl
     have df0 : WX.frozen? ⟨P8, 0, none⟩ = false := fz_of T.kf
     have df1 : WX.frozen? ⟨P8, 1, none⟩ = false := fz_of T.kf
     have df2 : WX.frozen? ⟨P8, 2, none⟩ = false := fz_of T.kf
     have df3 : WX.frozen? ⟨P8, 3, none⟩ = false := fz_of T.kf
     have df4 : WX.frozen? ⟨P8, 4, none⟩ = false := fz_of T.kf
     have HEf : Hid _ := hW3a
     clear hW3a
     refine led_one (i := 15) rfl (by kernel_rfl) ?_
     intro K15 hK15
     rw [if_pos (by rfl)]
     go_simp
     rw [<- HEf.out]
     refine hK15 _ _ (fun _ => Sf) ?_
     clear hK15 HEf cf0 df0 cf1 df1 cf2 df2 cf3 df3 cf4 df4
     try simp only [Act.put, zi, zz, zs]
     obtain ⟨W4a, hW4a⟩ : ∃ W, W = (((((W3a.setCell ⟨Q8, 0, none⟩ (.string s)).setCell ⟨Q8, 1, none⟩ (.slice pa pn pc)).setCell ⟨Q8, 2, none⟩ (.int .i64 r)).setCell ⟨Q8, 3, none⟩ (.slice (some ⟨vb, 0, none⟩) vn vc)).setCell ⟨Q8, 4, none⟩ (.slice (some ⟨bb, 0, none⟩) bn bc)) := ⟨_, rfl⟩
     have kng := box5 kg3 (.string s) (.slice pa pn pc) (.int .i64 r) (.slice (some ⟨vb, 0, none⟩) vn vc) (.slice (some ⟨bb, 0, none⟩) bn bc)
     rw [<- hW4a] at kng
     have kf4 := knf
     rw [<- box5_o T.ne.symm (.string s) (.slice pa pn pc) (.int .i64 r) (.slice (some ⟨vb, 0, none⟩) vn vc) (.slice (some ⟨bb, 0, none⟩) bn bc), <- hW4a] at kf4
     have hb4 : Below wo.heap.size wo W4a := by rw [hW4a]; exact (((((hb3.setCell T.hq _).setCell T.hq _).setCell T.hq _).setCell T.hq _).setCell T.hq _)
     have Sg := HSS.out W4a hb4
     have cg0 : W3a.cell? ⟨Q8, 0, none⟩ = some (.string ⟨#[]⟩) := cell_arr kg3 rfl
     have cg1 : W3a.cell? ⟨Q8, 1, none⟩ = some (.slice none 0 0) := cell_arr kg3 rfl
     have cg2 : W3a.cell? ⟨Q8, 2, none⟩ = some (.int .i64 0) := cell_arr kg3 rfl
     have cg3 : W3a.cell? ⟨Q8, 3, none⟩ = some (.slice none 0 0) := cell_arr kg3 rfl
     have cg4 : W3a.cell? ⟨Q8, 4, none⟩ = some (.slice none 0 0) := cell_arr kg3 rfl
     have dg0 : W3a.frozen? ⟨Q8, 0, none⟩ = false := fz_of kg3
     have dg1 : W3a.frozen? ⟨Q8, 1, none⟩ = false := fz_of kg3
     have dg2 : W3a.frozen? ⟨Q8, 2, none⟩ = false := fz_of kg3
     have dg3 : W3a.frozen? ⟨Q8, 3, none⟩ = false := fz_of kg3
     have dg4 : W3a.frozen? ⟨Q8, 4, none⟩ = false := fz_of kg3
     have HEg : Hid _ := hW4a
     clear hW4a
     refine led_one (i := 16) rfl (by kernel_rfl) ?_
     intro K16 hK16
     rw [if_pos (by rfl)]
     go_simp
     rw [<- HEg.out]
     refine hK16 _ _ (fun _ => Sg) ?_
     clear hK16 HEg cg0 dg0 cg1 dg1 cg2 dg2 cg3 dg3 cg4 dg4
     try simp only [Act.put, zi, zz, zs]
     refine led_done (by kernel_rfl) ?_
     go_wp2_with fail
     go_meet
     case rel => exact ⟨_, _, rfl, rfl, kf4, kng, hb4⟩
   case rest =>
    obtain ⟨P, Q, rfl, rfl, HP, HQ, HC⟩ := hcut
    have f0 : wc.cell? ⟨P, 0, none⟩ = some (.string s) := cell_arr HP.out rfl
    have f1 : wc.cell? ⟨P, 1, none⟩ = some (.slice ka pn kc) := cell_arr HP.out rfl
    have f2 : wc.cell? ⟨P, 2, none⟩ = some (.int .i64 r) := cell_arr HP.out rfl
    have g0 : wc.cell? ⟨Q, 0, none⟩ = some (.string s) := cell_arr HQ.out rfl
    have g1 : wc.cell? ⟨Q, 1, none⟩ = some (.slice pa pn pc) := cell_arr HQ.out rfl
    have g2 : wc.cell? ⟨Q, 2, none⟩ = some (.int .i64 r) := cell_arr HQ.out rfl
    have HKP : Hid _ := kept_any wc (HJ1.out wc HC.out).2 (HJ1.out wc HC.out).1 HE.out.1
    clear S0 HSS
    go_wp2_with fail
    refine Calls.mono HKP.out ?_
    rintro e w9 ⟨rfl, m9, rfl⟩
    obtain ⟨wd, hwd⟩ : ∃ W, W = wc.drewN m9 := ⟨_, rfl⟩
    rw [<- hwd]
    have bd : Below wc.heap.size wc wd := by rw [hwd]; exact below_drewN (Below.refl _ _) m9
    have HCd : Hid (Below wo.heap.size wo wd) := HC.out.trans (bd.mono HC.out.size)
    have HPd : Hid (wd.heap[P]? = some (.cells #[.string s, .slice ka pn kc, .int .i64 r, .slice la vn lc, .slice ma bn mc] 38 (0, 0))) := (bd.block P (gl HP.out)).trans HP.out
    have HQd : Hid (wd.heap[Q]? = some (.cells #[.string s, .slice pa pn pc, .int .i64 r, .slice (some ⟨vb, 0, none⟩) vn vc, .slice (some ⟨bb, 0, none⟩) bn bc] 38 (0, 0))) := (bd.block Q (gl HQ.out)).trans HQ.out
    have f3 : wd.cell? ⟨P, 3, none⟩ = some (.slice la vn lc) := cell_arr HPd.out rfl
    have f4 : wd.cell? ⟨P, 4, none⟩ = some (.slice ma bn mc) := cell_arr HPd.out rfl
    have g3 : wd.cell? ⟨Q, 3, none⟩ = some (.slice (some ⟨vb, 0, none⟩) vn vc) := cell_arr HQd.out rfl
    have g4 : wd.cell? ⟨Q, 4, none⟩ = some (.slice (some ⟨bb, 0, none⟩) bn bc) := cell_arr HQd.out rfl
    have mv : wd.cell? ⟨vb, vn * 4, none⟩ = some (.int .i64 (-71)) := by rw [HE.out.2.1]; exact (HJ2.out wd HCd.out).2.mark
    have mbk : wd.cell? ⟨bb, bn * 6 + 2, none⟩ = some (.int .i64 (-71)) := by rw [HE.out.2.2]; exact (HJ3.out wd HCd.out).2.mark
    clear hwd bd HP HQ HC HKP f0 f1 f2 g0 g1 g2
    go_wp2_with fail
    go_quiet (fail)
    go_wp2_with fail
    clear f3 f4 g3 g4 mv mbk
    go_loopw [8] (fun v wr => ∃ j : Nat, j <= vn /\ v = .int .i64 j /\ Hid (Below wd.heap.size wd wr)) (fun v _ => vn - (intOf v).toNat)
    case atStart => exact ⟨0, by omega, rfl, by first | exact Below.refl _ _ | exact below_drawn (Below.refl _ _) _⟩
    case round =>
     obtain ⟨wq, rfl⟩ : ∃ wq, wq = wr := ⟨_, rfl⟩
     obtain ⟨j, hj, rfl, HB2⟩ := hrel
     have HCq : Hid (Below wo.heap.size wo wq) := HCd.out.trans (HB2.out.mono HCd.out.size)
     have HPq : Hid (wq.heap[P]? = some (.cells #[.string s, .slice ka pn kc, .int .i64 r, .slice la vn lc, .slice ma bn mc] 38 (0, 0))) := (HB2.out.block P (gl HPd.out)).trans HPd.out
     have HQq : Hid (wq.heap[Q]? = some (.cells #[.string s, .slice pa pn pc, .int .i64 r, .slice (some ⟨vb, 0, none⟩) vn vc, .slice (some ⟨bb, 0, none⟩) bn bc] 38 (0, 0))) := (HB2.out.block Q (gl HQd.out)).trans HQd.out
     have f3 : wq.cell? ⟨P, 3, none⟩ = some (.slice la vn lc) := cell_arr HPq.out rfl
     have g3 : wq.cell? ⟨Q, 3, none⟩ = some (.slice (some ⟨vb, 0, none⟩) vn vc) := cell_arr HQq.out rfl
     have hPl := (gl HPq.out)
     have hQl := (gl HQq.out)
     by_cases hjv : j < vn
     ·have hjf : j < f.vals.length := by have := HE.out.2.1; omega
      have hV := HJ2.out wq HCq.out
      obtain ⟨xb, xo, a1, k1, rfl, hxl, p0, p1, p2, p3, pI⟩ := hV.1.at4 hjf
      obtain ⟨a2, k2, n0, n1, n2, n3, nI⟩ := hV.2.cell j hjf
      have hvl := hV.2.lt
      obtain ⟨op, hop⟩ : ∃ x, x = f.vals[j].op := ⟨_, rfl⟩
      obtain ⟨ty, hty⟩ : ∃ x, x = f.vals[j].ty := ⟨_, rfl⟩
      obtain ⟨im, him⟩ : ∃ x, x = f.vals[j].imm := ⟨_, rfl⟩
      obtain ⟨al, hal⟩ : ∃ x, x = f.vals[j].args.length := ⟨_, rfl⟩
      rw [<- hop] at p0 n0
      rw [<- hty] at p1 n1
      rw [<- him] at p2 n2
      rw [<- hal] at p3 n3
      have hS : ∀ w', Below wq.heap.size wq w' -> (fun w' : World => w'.cell? ⟨P, 3, none⟩ = some (.slice (some ⟨xb, xo, none⟩) vn lc) /\ w'.cell? ⟨Q, 3, none⟩ = some (.slice (some ⟨vb, 0, none⟩) vn vc) /\ w'.cell? ⟨xb, xo + j * 4, none⟩ = some (.int .i64 op) /\ w'.cell? ⟨xb, xo + j * 4 + 1, none⟩ = some (.int .i64 ty) /\ w'.cell? ⟨xb, xo + j * 4 + 2, none⟩ = some (.int .i64 im) /\ w'.cell? ⟨xb, xo + j * 4 + 3, none⟩ = some (.slice a1 al k1) /\ w'.cell? ⟨vb, j * 4, none⟩ = some (.int .i64 op) /\ w'.cell? ⟨vb, j * 4 + 1, none⟩ = some (.int .i64 ty) /\ w'.cell? ⟨vb, j * 4 + 2, none⟩ = some (.int .i64 im) /\ w'.cell? ⟨vb, j * 4 + 3, none⟩ = some (.slice a2 al k2)) w' := fun w' hb => ⟨(hb.cell (p := ⟨P, 3, none⟩) hPl).trans f3, (hb.cell (p := ⟨Q, 3, none⟩) hQl).trans g3, (hb.cell (p := ⟨xb, xo + j * 4, none⟩) hxl).trans p0, (hb.cell (p := ⟨xb, xo + j * 4 + 1, none⟩) hxl).trans p1, (hb.cell (p := ⟨xb, xo + j * 4 + 2, none⟩) hxl).trans p2, (hb.cell (p := ⟨xb, xo + j * 4 + 3, none⟩) hxl).trans p3, (hb.cell (p := ⟨vb, j * 4, none⟩) hvl).trans n0, (hb.cell (p := ⟨vb, j * 4 + 1, none⟩) hvl).trans n1, (hb.cell (p := ⟨vb, j * 4 + 2, none⟩) hvl).trans n2, (hb.cell (p := ⟨vb, j * 4 + 3, none⟩) hvl).trans n3⟩
      have HSS : Hid _ := hS
      have S0 := hS wq.drew (Below.refl _ _).drew
      have HKT : Hid (∀ w', Below wq.heap.size wq w' -> Calls Tryz.prog 22 #[.slice a2 al k2, .slice a1 al k1] w' fun e w'' => e = .returned (.bool true) /\ ∃ m, w'' = w'.drewN m) := fun w' hb => kept_any w' (nI.below hb) (pI.below hb (Nat.le_refl _)) hal
      clear hS hop hty him hal pI nI hV p0 p1 p2 p3 n0 n1 n2 n3
      go_wp2_with fail
      clear f3 g3
      go_cut [9, 10] from 139 to 148 (fun fv gv wc => ∃ P2 Q2 : Nat, fv = .pointer (some ⟨P2, 0, none⟩) /\ gv = .pointer (some ⟨Q2, 0, none⟩) /\ Hid (wc.heap[P2]? = some (.cells #[.int .i64 op, .int .i64 ty, .int .i64 im, .slice a1 al k1] 42 (0, 0))) /\ Hid (wc.heap[Q2]? = some (.cells #[.int .i64 op, .int .i64 ty, .int .i64 im, .slice a2 al k2] 42 (0, 0))) /\ Hid (Below wq.heap.size wq wc))
      case first =>
       refine led_startS (z := 100) HSS.out (by kernel_rfl) ?_
       show led _ _ _ _ _ 14 _ _ _
       refine led_nF 0 S0 ?_
       refine led_nF 1 S0 ?_
       refine led_nF 2 S0 ?_
       refine led_nF 3 S0 ?_
       refine led_nF 4 S0 ?_
       refine led_nF 5 S0 ?_
       refine led_nF 6 S0 ?_
       refine led_nF 7 S0 ?_
       refine led_nF 8 S0 ?_
       refine led_nF 9 S0 ?_
       apply two_ways (A := fun P Q X => TB wq X P Q (.cells #[.int .i64 0, .int .i64 0, .int .i64 0, .slice none 0 0] 42))
       case h =>
        intro key
        refine led_two (i := 10) (j := 11) rfl rfl (by kernel_rfl) ?_ ?_
        ·intro K10 hK10
         rw [if_pos (by rfl)]
         go_simp
         obtain ⟨WY, hWY⟩ : ∃ W, W = (wq.alloc (.cells #[.int .i64 0, .int .i64 0, .int .i64 0, .slice none 0 0] 42)).drew := ⟨_, rfl⟩
         have SY := HSS.out WY (by rw [hWY]; exact (below_new _ _).drew)
         rw [<- hWY]
         refine hK10 _ _ (fun _ => SY) ?_
         have HWY : Hid _ := hWY
         clear hK10 hWY
         try simp only [Act.put, zi, zz, zs]
         refine led_one (i := 11) rfl (by kernel_rfl) ?_
         intro K11 hK11
         rw [if_pos (by rfl)]
         go_simp
         have T := TB.of wq (.cells #[.int .i64 0, .int .i64 0, .int .i64 0, .slice none 0 0] 42)
         rw [<- HWY.out] at T
         obtain ⟨WX, hWX⟩ : ∃ W, W = WY.alloc (.cells #[.int .i64 0, .int .i64 0, .int .i64 0, .slice none 0 0] 42) := ⟨_, rfl⟩
         rw [<- hWX] at T ⊢
         refine hK11 _ _ (fun _ => HSS.out WX T.bel) ?_
         clear hK11 hWX
         try simp only [Act.put, zi, zz, zs]
         obtain ⟨P1, hP1⟩ : ∃ P, P = wq.heap.size := ⟨_, rfl⟩
         obtain ⟨P2, hP2⟩ : ∃ P, P = WY.heap.size := ⟨_, rfl⟩
         rw [<- hP1, <- hP2] at T ⊢
         refine led_l (l' := #[true, true, true, true, true, true, true, true, true, true, true, true, false, false]) (by kernel_rfl) ?_
         exact key P1 P2 WX T
        ·intro K11 hK11
         rw [if_pos (by rfl)]
         go_simp
         obtain ⟨WY, hWY⟩ : ∃ W, W = (wq.alloc (.cells #[.int .i64 0, .int .i64 0, .int .i64 0, .slice none 0 0] 42)).drew := ⟨_, rfl⟩
         have SY := HSS.out WY (by rw [hWY]; exact (below_new _ _).drew)
         rw [<- hWY]
         refine hK11 _ _ (fun _ => SY) ?_
         have HWY : Hid _ := hWY
         clear hK11 hWY
         try simp only [Act.put, zi, zz, zs]
         refine led_one (i := 10) rfl (by kernel_rfl) ?_
         intro K10 hK10
         rw [if_pos (by rfl)]
         go_simp
         have T := TB.of wq (.cells #[.int .i64 0, .int .i64 0, .int .i64 0, .slice none 0 0] 42)
         rw [<- HWY.out] at T
         obtain ⟨WX, hWX⟩ : ∃ W, W = WY.alloc (.cells #[.int .i64 0, .int .i64 0, .int .i64 0, .slice none 0 0] 42) := ⟨_, rfl⟩
         rw [<- hWX] at T ⊢
         refine hK10 _ _ (fun _ => HSS.out WX T.bel) ?_
         clear hK10 hWX
         try simp only [Act.put, zi, zz, zs]
         obtain ⟨P1, hP1⟩ : ∃ P, P = wq.heap.size := ⟨_, rfl⟩
         obtain ⟨P2, hP2⟩ : ∃ P, P = WY.heap.size := ⟨_, rfl⟩
         rw [<- hP1, <- hP2] at T ⊢
         refine led_l (l' := #[true, true, true, true, true, true, true, true, true, true, true, true, false, false]) (by kernel_rfl) ?_
         exact key P2 P1 WX T.swap
       case g =>
        intro P8 Q8 WX T
        obtain ⟨W3b, hW3b⟩ : ∃ W, W = ((((WX.setCell ⟨P8, 0, none⟩ (.int .i64 op)).setCell ⟨P8, 1, none⟩ (.int .i64 ty)).setCell ⟨P8, 2, none⟩ (.int .i64 im)).setCell ⟨P8, 3, none⟩ (.slice a1 al k1)) := ⟨_, rfl⟩
        have knf := box4 T.kf (.int .i64 op) (.int .i64 ty) (.int .i64 im) (.slice a1 al k1)
        rw [<- hW3b] at knf
        have kg3 : W3b.heap[Q8]? = some (.cells #[.int .i64 0, .int .i64 0, .int .i64 0, .slice none 0 0] 42) := by rw [hW3b, box4_o T.ne]; exact T.kg
        have hb3 : Below wq.heap.size wq W3b := by rw [hW3b]; exact ((((T.bel.setCell T.hp _).setCell T.hp _).setCell T.hp _).setCell T.hp _)
        have Sf := HSS.out W3b hb3
        have cf0 : WX.cell? ⟨P8, 0, none⟩ = some (.int .i64 0) := cell_arr T.kf rfl
        have cf1 : WX.cell? ⟨P8, 1, none⟩ = some (.int .i64 0) := cell_arr T.kf rfl
        have cf2 : WX.cell? ⟨P8, 2, none⟩ = some (.int .i64 0) := cell_arr T.kf rfl
        have cf3 : WX.cell? ⟨P8, 3, none⟩ = some (.slice none 0 0) := cell_arr T.kf rfl
        have df0 : WX.frozen? ⟨P8, 0, none⟩ = false := fz_of T.kf
        have df1 : WX.frozen? ⟨P8, 1, none⟩ = false := fz_of T.kf
        have df2 : WX.frozen? ⟨P8, 2, none⟩ = false := fz_of T.kf
        have df3 : WX.frozen? ⟨P8, 3, none⟩ = false := fz_of T.kf
        have HEf : Hid _ := hW3b
        clear hW3b
        refine led_one (i := 12) rfl (by kernel_rfl) ?_
        intro K12 hK12
        rw [if_pos (by rfl)]
        go_simp
        rw [<- HEf.out]
        refine hK12 _ _ (fun _ => Sf) ?_
        clear hK12 HEf cf0 df0 cf1 df1 cf2 df2 cf3 df3
        try simp only [Act.put, zi, zz, zs]
        obtain ⟨W4b, hW4b⟩ : ∃ W, W = ((((W3b.setCell ⟨Q8, 0, none⟩ (.int .i64 op)).setCell ⟨Q8, 1, none⟩ (.int .i64 ty)).setCell ⟨Q8, 2, none⟩ (.int .i64 im)).setCell ⟨Q8, 3, none⟩ (.slice a2 al k2)) := ⟨_, rfl⟩
        have kng := box4 kg3 (.int .i64 op) (.int .i64 ty) (.int .i64 im) (.slice a2 al k2)
        rw [<- hW4b] at kng
        have kf4 := knf
        rw [<- box4_o T.ne.symm (.int .i64 op) (.int .i64 ty) (.int .i64 im) (.slice a2 al k2), <- hW4b] at kf4
        have hb4 : Below wq.heap.size wq W4b := by rw [hW4b]; exact ((((hb3.setCell T.hq _).setCell T.hq _).setCell T.hq _).setCell T.hq _)
        have Sg := HSS.out W4b hb4
        have cg0 : W3b.cell? ⟨Q8, 0, none⟩ = some (.int .i64 0) := cell_arr kg3 rfl
        have cg1 : W3b.cell? ⟨Q8, 1, none⟩ = some (.int .i64 0) := cell_arr kg3 rfl
        have cg2 : W3b.cell? ⟨Q8, 2, none⟩ = some (.int .i64 0) := cell_arr kg3 rfl
        have cg3 : W3b.cell? ⟨Q8, 3, none⟩ = some (.slice none 0 0) := cell_arr kg3 rfl
        have dg0 : W3b.frozen? ⟨Q8, 0, none⟩ = false := fz_of kg3
        have dg1 : W3b.frozen? ⟨Q8, 1, none⟩ = false := fz_of kg3
        have dg2 : W3b.frozen? ⟨Q8, 2, none⟩ = false := fz_of kg3
        have dg3 : W3b.frozen? ⟨Q8, 3, none⟩ = false := fz_of kg3
        have HEg : Hid _ := hW4b
        clear hW4b
        refine led_one (i := 13) rfl (by kernel_rfl) ?_
        intro K13 hK13
        rw [if_pos (by rfl)]
        go_simp
        rw [<- HEg.out]
        refine hK13 _ _ (fun _ => Sg) ?_
        clear hK13 HEg cg0 dg0 cg1 dg1 cg2 dg2 cg3 dg3
        try simp only [Act.put, zi, zz, zs]
        refine led_done (by kernel_rfl) ?_
        go_wp2_with fail
        go_meet
        case rel => exact ⟨_, _, rfl, rfl, kf4, kng, hb4⟩
      case rest =>
       clear S0 HSS
       obtain ⟨P2, Q2, rfl, rfl, HP2, HQ2, HC2⟩ := hcut
       have u0 : wc.cell? ⟨P2, 0, none⟩ = some (.int .i64 op) := cell_arr HP2.out rfl
       have u1 : wc.cell? ⟨P2, 1, none⟩ = some (.int .i64 ty) := cell_arr HP2.out rfl
       have u2 : wc.cell? ⟨P2, 2, none⟩ = some (.int .i64 im) := cell_arr HP2.out rfl
       have u3 : wc.cell? ⟨P2, 3, none⟩ = some (.slice a1 al k1) := cell_arr HP2.out rfl
       have v0 : wc.cell? ⟨Q2, 0, none⟩ = some (.int .i64 op) := cell_arr HQ2.out rfl
       have v1 : wc.cell? ⟨Q2, 1, none⟩ = some (.int .i64 ty) := cell_arr HQ2.out rfl
       have v2 : wc.cell? ⟨Q2, 2, none⟩ = some (.int .i64 im) := cell_arr HQ2.out rfl
       have v3 : wc.cell? ⟨Q2, 3, none⟩ = some (.slice a2 al k2) := cell_arr HQ2.out rfl
       have HK2 : Hid _ := HKT.out wc HC2.out
       go_wp2_with fail
       refine Calls.mono HK2.out ?_
       rintro e w8 ⟨rfl, m8, rfl⟩
       have HBN : Hid (Below wd.heap.size wd (wc.drewN m8)) := below_drewN (HB2.out.trans (HC2.out.mono HB2.out.size)) m8
       go_wp2_with fail
       go_roundw
       case rel => exact ⟨j + 1, by omega, by go_num, HBN.out⟩
       case measure => simp [intOf]; omega
     ·go_wp2_with fail
      clear f3 g3 hPl hQl
      go_loopw [11] (fun v wr => ∃ j : Nat, j <= bn /\ v = .int .i64 j /\ Hid (Below wd.heap.size wd wr)) (fun v _ => bn - (intOf v).toNat)
      case atStart => exact ⟨0, by omega, rfl, HB2⟩
      case round =>
       clear HB2 HCq HPq HQq
       obtain ⟨wq, rfl⟩ : ∃ wq, wq = wr := ⟨_, rfl⟩
       obtain ⟨j, hj, rfl, HB2⟩ := hrel
       have HCq : Hid (Below wo.heap.size wo wq) := HCd.out.trans (HB2.out.mono HCd.out.size)
       have HPq : Hid (wq.heap[P]? = some (.cells #[.string s, .slice ka pn kc, .int .i64 r, .slice la vn lc, .slice ma bn mc] 38 (0, 0))) := (HB2.out.block P (gl HPd.out)).trans HPd.out
       have HQq : Hid (wq.heap[Q]? = some (.cells #[.string s, .slice pa pn pc, .int .i64 r, .slice (some ⟨vb, 0, none⟩) vn vc, .slice (some ⟨bb, 0, none⟩) bn bc] 38 (0, 0))) := (HB2.out.block Q (gl HQd.out)).trans HQd.out
       have f4 : wq.cell? ⟨P, 4, none⟩ = some (.slice ma bn mc) := cell_arr HPq.out rfl
       have g4 : wq.cell? ⟨Q, 4, none⟩ = some (.slice (some ⟨bb, 0, none⟩) bn bc) := cell_arr HQq.out rfl
       have hPl := (gl HPq.out)
       have hQl := (gl HQq.out)
       by_cases hjb : j < bn
       ·have hjf : j < f.blks.length := by have := HE.out.2.2; omega
        have hV := HJ3.out wq HCq.out
        obtain ⟨xb, xo, a1, k1, a2, k2, a3, k3, a4, k4, rfl, hxl, p0, p1, p2, p3, p4, p5, i1, i2, i3, i4⟩ := hV.1.at hjf
        obtain ⟨e1, t1, e2, t2, e3, t3, e4, t4, n0, n1, n2, n3, n4, n5, y1, y2, y3, y4⟩ := hV.2.cell j hjf
        have hvl := hV.2.lt
        obtain ⟨l1, d1⟩ : ∃ x, x = f.blks[j].phis.length := ⟨_, rfl⟩
        obtain ⟨l2, d2⟩ : ∃ x, x = f.blks[j].body.length := ⟨_, rfl⟩
        obtain ⟨l3, d3⟩ : ∃ x, x = f.blks[j].ways.length := ⟨_, rfl⟩
        obtain ⟨l4, d4⟩ : ∃ x, x = f.blks[j].preds.length := ⟨_, rfl⟩
        obtain ⟨kd, d5⟩ : ∃ x, x = f.blks[j].kind := ⟨_, rfl⟩
        obtain ⟨vl, d6⟩ : ∃ x, x = f.blks[j].val := ⟨_, rfl⟩
        rw [<- d1] at p0 n0
        rw [<- d2] at p1 n1
        rw [<- d5] at p2 n2
        rw [<- d6] at p3 n3
        rw [<- d3] at p4 n4
        rw [<- d4] at p5 n5
        have hS : ∀ w', Below wq.heap.size wq w' -> (fun w' : World => w'.cell? ⟨P, 4, none⟩ = some (.slice (some ⟨xb, xo, none⟩) bn mc) /\ w'.cell? ⟨Q, 4, none⟩ = some (.slice (some ⟨bb, 0, none⟩) bn bc) /\ w'.cell? ⟨xb, xo + j * 6, none⟩ = some (.slice a1 l1 k1) /\ w'.cell? ⟨xb, xo + j * 6 + 1, none⟩ = some (.slice a2 l2 k2) /\ w'.cell? ⟨xb, xo + j * 6 + 2, none⟩ = some (.int .i64 kd) /\ w'.cell? ⟨xb, xo + j * 6 + 3, none⟩ = some (.int .i64 vl) /\ w'.cell? ⟨xb, xo + j * 6 + 4, none⟩ = some (.slice a3 l3 k3) /\ w'.cell? ⟨xb, xo + j * 6 + 5, none⟩ = some (.slice a4 l4 k4) /\ w'.cell? ⟨bb, j * 6, none⟩ = some (.slice e1 l1 t1) /\ w'.cell? ⟨bb, j * 6 + 1, none⟩ = some (.slice e2 l2 t2) /\ w'.cell? ⟨bb, j * 6 + 2, none⟩ = some (.int .i64 kd) /\ w'.cell? ⟨bb, j * 6 + 3, none⟩ = some (.int .i64 vl) /\ w'.cell? ⟨bb, j * 6 + 4, none⟩ = some (.slice e3 l3 t3) /\ w'.cell? ⟨bb, j * 6 + 5, none⟩ = some (.slice e4 l4 t4)) w' := fun w' hb => ⟨(hb.cell (p := ⟨P, 4, none⟩) hPl).trans f4, (hb.cell (p := ⟨Q, 4, none⟩) hQl).trans g4, (hb.cell (p := ⟨xb, xo + j * 6, none⟩) hxl).trans p0, (hb.cell (p := ⟨xb, xo + j * 6 + 1, none⟩) hxl).trans p1, (hb.cell (p := ⟨xb, xo + j * 6 + 2, none⟩) hxl).trans p2, (hb.cell (p := ⟨xb, xo + j * 6 + 3, none⟩) hxl).trans p3, (hb.cell (p := ⟨xb, xo + j * 6 + 4, none⟩) hxl).trans p4, (hb.cell (p := ⟨xb, xo + j * 6 + 5, none⟩) hxl).trans p5, (hb.cell (p := ⟨bb, j * 6, none⟩) hvl).trans n0, (hb.cell (p := ⟨bb, j * 6 + 1, none⟩) hvl).trans n1, (hb.cell (p := ⟨bb, j * 6 + 2, none⟩) hvl).trans n2, (hb.cell (p := ⟨bb, j * 6 + 3, none⟩) hvl).trans n3, (hb.cell (p := ⟨bb, j * 6 + 4, none⟩) hvl).trans n4, (hb.cell (p := ⟨bb, j * 6 + 5, none⟩) hvl).trans n5⟩
        have HSS : Hid _ := hS
        have S0 := hS wq.drew (Below.refl _ _).drew
        have HK1 : Hid (∀ w', Below wq.heap.size wq w' -> Calls Tryz.prog 22 #[.slice e1 l1 t1, .slice a1 l1 k1] w' fun e w'' => e = .returned (.bool true) /\ ∃ m, w'' = w'.drewN m) := fun w' hb => kept_any w' (y1.below hb) (i1.below hb (Nat.le_refl _)) d1
        have HK2 : Hid (∀ w', Below wq.heap.size wq w' -> Calls Tryz.prog 22 #[.slice e2 l2 t2, .slice a2 l2 k2] w' fun e w'' => e = .returned (.bool true) /\ ∃ m, w'' = w'.drewN m) := fun w' hb => kept_any w' (y2.below hb) (i2.below hb (Nat.le_refl _)) d2
        have HK3 : Hid (∀ w', Below wq.heap.size wq w' -> Calls Tryz.prog 22 #[.slice e3 l3 t3, .slice a3 l3 k3] w' fun e w'' => e = .returned (.bool true) /\ ∃ m, w'' = w'.drewN m) := fun w' hb => kept_any w' (y3.below hb) (i3.below hb (Nat.le_refl _)) d3
        have HK4 : Hid (∀ w', Below wq.heap.size wq w' -> Calls Tryz.prog 22 #[.slice e4 l4 t4, .slice a4 l4 k4] w' fun e w'' => e = .returned (.bool true) /\ ∃ m, w'' = w'.drewN m) := fun w' hb => kept_any w' (y4.below hb) (i4.below hb (Nat.le_refl _)) d4
        clear hS d1 d2 d3 d4 d5 d6 i1 i2 i3 i4 y1 y2 y3 y4 hV p0 p1 p2 p3 p4 p5 n0 n1 n2 n3 n4 n5
        go_wp2_with fail
        clear f4 g4
        go_cut [12, 13] from 183 to 192 (fun fv gv wc => ∃ P2 Q2 : Nat, fv = .pointer (some ⟨P2, 0, none⟩) /\ gv = .pointer (some ⟨Q2, 0, none⟩) /\ Hid (wc.heap[P2]? = some (.cells #[.slice a1 l1 k1, .slice a2 l2 k2, .int .i64 kd, .int .i64 vl, .slice a3 l3 k3, .slice a4 l4 k4] 46 (0, 0))) /\ Hid (wc.heap[Q2]? = some (.cells #[.slice e1 l1 t1, .slice e2 l2 t2, .int .i64 kd, .int .i64 vl, .slice e3 l3 t3, .slice e4 l4 t4] 46 (0, 0))) /\ Hid (Below wq.heap.size wq wc))
        case first =>
         refine led_startS (z := 100) HSS.out (by kernel_rfl) ?_
         show led _ _ _ _ _ 14 _ _ _
         refine led_nF 0 S0 ?_
         refine led_nF 1 S0 ?_
         refine led_nF 2 S0 ?_
         refine led_nF 3 S0 ?_
         refine led_nF 4 S0 ?_
         refine led_nF 5 S0 ?_
         refine led_nF 6 S0 ?_
         refine led_nF 7 S0 ?_
         refine led_nF 8 S0 ?_
         refine led_nF 9 S0 ?_
         apply two_ways (A := fun P Q X => TB wq X P Q (.cells #[.slice none 0 0, .slice none 0 0, .int .i64 0, .int .i64 0, .slice none 0 0, .slice none 0 0] 46))
         case h =>
          intro key
          refine led_two (i := 10) (j := 11) rfl rfl (by kernel_rfl) ?_ ?_
          ·intro K10 hK10
           rw [if_pos (by rfl)]
           go_simp
           obtain ⟨WY, hWY⟩ : ∃ W, W = (wq.alloc (.cells #[.slice none 0 0, .slice none 0 0, .int .i64 0, .int .i64 0, .slice none 0 0, .slice none 0 0] 46)).drew := ⟨_, rfl⟩
           have SY := HSS.out WY (by rw [hWY]; exact (below_new _ _).drew)
           rw [<- hWY]
           refine hK10 _ _ (fun _ => SY) ?_
           have HWY : Hid _ := hWY
           clear hK10 hWY
           try simp only [Act.put, zi, zz, zs]
           refine led_one (i := 11) rfl (by kernel_rfl) ?_
           intro K11 hK11
           rw [if_pos (by rfl)]
           go_simp
           have T := TB.of wq (.cells #[.slice none 0 0, .slice none 0 0, .int .i64 0, .int .i64 0, .slice none 0 0, .slice none 0 0] 46)
           rw [<- HWY.out] at T
           obtain ⟨WX, hWX⟩ : ∃ W, W = WY.alloc (.cells #[.slice none 0 0, .slice none 0 0, .int .i64 0, .int .i64 0, .slice none 0 0, .slice none 0 0] 46) := ⟨_, rfl⟩
           rw [<- hWX] at T ⊢
           refine hK11 _ _ (fun _ => HSS.out WX T.bel) ?_
           clear hK11 hWX
           try simp only [Act.put, zi, zz, zs]
           obtain ⟨P1, hP1⟩ : ∃ P, P = wq.heap.size := ⟨_, rfl⟩
           obtain ⟨P2, hP2⟩ : ∃ P, P = WY.heap.size := ⟨_, rfl⟩
           rw [<- hP1, <- hP2] at T ⊢
           refine led_l (l' := #[true, true, true, true, true, true, true, true, true, true, true, true, false, false]) (by kernel_rfl) ?_
           exact key P1 P2 WX T
          ·intro K11 hK11
           rw [if_pos (by rfl)]
           go_simp
           obtain ⟨WY, hWY⟩ : ∃ W, W = (wq.alloc (.cells #[.slice none 0 0, .slice none 0 0, .int .i64 0, .int .i64 0, .slice none 0 0, .slice none 0 0] 46)).drew := ⟨_, rfl⟩
           have SY := HSS.out WY (by rw [hWY]; exact (below_new _ _).drew)
           rw [<- hWY]
           refine hK11 _ _ (fun _ => SY) ?_
           have HWY : Hid _ := hWY
           clear hK11 hWY
           try simp only [Act.put, zi, zz, zs]
           refine led_one (i := 10) rfl (by kernel_rfl) ?_
           intro K10 hK10
           rw [if_pos (by rfl)]
           go_simp
           have T := TB.of wq (.cells #[.slice none 0 0, .slice none 0 0, .int .i64 0, .int .i64 0, .slice none 0 0, .slice none 0 0] 46)
           rw [<- HWY.out] at T
           obtain ⟨WX, hWX⟩ : ∃ W, W = WY.alloc (.cells #[.slice none 0 0, .slice none 0 0, .int .i64 0, .int .i64 0, .slice none 0 0, .slice none 0 0] 46) := ⟨_, rfl⟩
           rw [<- hWX] at T ⊢
           refine hK10 _ _ (fun _ => HSS.out WX T.bel) ?_
           clear hK10 hWX
           try simp only [Act.put, zi, zz, zs]
           obtain ⟨P1, hP1⟩ : ∃ P, P = wq.heap.size := ⟨_, rfl⟩
           obtain ⟨P2, hP2⟩ : ∃ P, P = WY.heap.size := ⟨_, rfl⟩
           rw [<- hP1, <- hP2] at T ⊢
           refine led_l (l' := #[true, true, true, true, true, true, true, true, true, true, true, true, false, false]) (by kernel_rfl) ?_
           exact key P2 P1 WX T.swap
         case g =>
          intro P8 Q8 WX T
          obtain ⟨W3c, hW3c⟩ : ∃ W, W = ((((((WX.setCell ⟨P8, 0, none⟩ (.slice a1 l1 k1)).setCell ⟨P8, 1, none⟩ (.slice a2 l2 k2)).setCell ⟨P8, 2, none⟩ (.int .i64 kd)).setCell ⟨P8, 3, none⟩ (.int .i64 vl)).setCell ⟨P8, 4, none⟩ (.slice a3 l3 k3)).setCell ⟨P8, 5, none⟩ (.slice a4 l4 k4)) := ⟨_, rfl⟩
          have knf := box6 T.kf (.slice a1 l1 k1) (.slice a2 l2 k2) (.int .i64 kd) (.int .i64 vl) (.slice a3 l3 k3) (.slice a4 l4 k4)
          rw [<- hW3c] at knf
          have kg3 : W3c.heap[Q8]? = some (.cells #[.slice none 0 0, .slice none 0 0, .int .i64 0, .int .i64 0, .slice none 0 0, .slice none 0 0] 46) := by rw [hW3c, box6_o T.ne]; exact T.kg
          have hb3 : Below wq.heap.size wq W3c := by rw [hW3c]; exact ((((((T.bel.setCell T.hp _).setCell T.hp _).setCell T.hp _).setCell T.hp _).setCell T.hp _).setCell T.hp _)
          have Sf := HSS.out W3c hb3
          have cf0 : WX.cell? ⟨P8, 0, none⟩ = some (.slice none 0 0) := cell_arr T.kf rfl
          have cf1 : WX.cell? ⟨P8, 1, none⟩ = some (.slice none 0 0) := cell_arr T.kf rfl
          have cf2 : WX.cell? ⟨P8, 2, none⟩ = some (.int .i64 0) := cell_arr T.kf rfl
          have cf3 : WX.cell? ⟨P8, 3, none⟩ = some (.int .i64 0) := cell_arr T.kf rfl
          have cf4 : WX.cell? ⟨P8, 4, none⟩ = some (.slice none 0 0) := cell_arr T.kf rfl
          have cf5 : WX.cell? ⟨P8, 5, none⟩ = some (.slice none 0 0) := cell_arr T.kf rfl
          have df0 : WX.frozen? ⟨P8, 0, none⟩ = false := fz_of T.kf
          have df1 : WX.frozen? ⟨P8, 1, none⟩ = false := fz_of T.kf
          have df2 : WX.frozen? ⟨P8, 2, none⟩ = false := fz_of T.kf
          have df3 : WX.frozen? ⟨P8, 3, none⟩ = false := fz_of T.kf
          have df4 : WX.frozen? ⟨P8, 4, none⟩ = false := fz_of T.kf
          have df5 : WX.frozen? ⟨P8, 5, none⟩ = false := fz_of T.kf
          have HEf : Hid _ := hW3c
          clear hW3c
          refine led_one (i := 12) rfl (by kernel_rfl) ?_
          intro K12 hK12
          rw [if_pos (by rfl)]
          go_simp
          rw [<- HEf.out]
          refine hK12 _ _ (fun _ => Sf) ?_
          clear hK12 HEf cf0 df0 cf1 df1 cf2 df2 cf3 df3 cf4 df4 cf5 df5
          try simp only [Act.put, zi, zz, zs]
          obtain ⟨W4c, hW4c⟩ : ∃ W, W = ((((((W3c.setCell ⟨Q8, 0, none⟩ (.slice e1 l1 t1)).setCell ⟨Q8, 1, none⟩ (.slice e2 l2 t2)).setCell ⟨Q8, 2, none⟩ (.int .i64 kd)).setCell ⟨Q8, 3, none⟩ (.int .i64 vl)).setCell ⟨Q8, 4, none⟩ (.slice e3 l3 t3)).setCell ⟨Q8, 5, none⟩ (.slice e4 l4 t4)) := ⟨_, rfl⟩
          have kng := box6 kg3 (.slice e1 l1 t1) (.slice e2 l2 t2) (.int .i64 kd) (.int .i64 vl) (.slice e3 l3 t3) (.slice e4 l4 t4)
          rw [<- hW4c] at kng
          have kf4 := knf
          rw [<- box6_o T.ne.symm (.slice e1 l1 t1) (.slice e2 l2 t2) (.int .i64 kd) (.int .i64 vl) (.slice e3 l3 t3) (.slice e4 l4 t4), <- hW4c] at kf4
          have hb4 : Below wq.heap.size wq W4c := by rw [hW4c]; exact ((((((hb3.setCell T.hq _).setCell T.hq _).setCell T.hq _).setCell T.hq _).setCell T.hq _).setCell T.hq _)
          have Sg := HSS.out W4c hb4
          have cg0 : W3c.cell? ⟨Q8, 0, none⟩ = some (.slice none 0 0) := cell_arr kg3 rfl
          have cg1 : W3c.cell? ⟨Q8, 1, none⟩ = some (.slice none 0 0) := cell_arr kg3 rfl
          have cg2 : W3c.cell? ⟨Q8, 2, none⟩ = some (.int .i64 0) := cell_arr kg3 rfl
          have cg3 : W3c.cell? ⟨Q8, 3, none⟩ = some (.int .i64 0) := cell_arr kg3 rfl
          have cg4 : W3c.cell? ⟨Q8, 4, none⟩ = some (.slice none 0 0) := cell_arr kg3 rfl
          have cg5 : W3c.cell? ⟨Q8, 5, none⟩ = some (.slice none 0 0) := cell_arr kg3 rfl
          have dg0 : W3c.frozen? ⟨Q8, 0, none⟩ = false := fz_of kg3
          have dg1 : W3c.frozen? ⟨Q8, 1, none⟩ = false := fz_of kg3
          have dg2 : W3c.frozen? ⟨Q8, 2, none⟩ = false := fz_of kg3
          have dg3 : W3c.frozen? ⟨Q8, 3, none⟩ = false := fz_of kg3
          have dg4 : W3c.frozen? ⟨Q8, 4, none⟩ = false := fz_of kg3
          have dg5 : W3c.frozen? ⟨Q8, 5, none⟩ = false := fz_of kg3
          have HEg : Hid _ := hW4c
          clear hW4c
          refine led_one (i := 13) rfl (by kernel_rfl) ?_
          intro K13 hK13
          rw [if_pos (by rfl)]
          go_simp
          rw [<- HEg.out]
          refine hK13 _ _ (fun _ => Sg) ?_
          clear hK13 HEg cg0 dg0 cg1 dg1 cg2 dg2 cg3 dg3 cg4 dg4 cg5 dg5
          try simp only [Act.put, zi, zz, zs]
          refine led_done (by kernel_rfl) ?_
          go_wp2_with fail
          go_meet
          case rel => exact ⟨_, _, rfl, rfl, kf4, kng, hb4⟩
        case rest =>
         clear S0 HSS
         obtain ⟨P2, Q2, rfl, rfl, HP2, HQ2, HC2⟩ := hcut
         have u0 : wc.cell? ⟨P2, 0, none⟩ = some (.slice a1 l1 k1) := cell_arr HP2.out rfl
         have u1 : wc.cell? ⟨P2, 1, none⟩ = some (.slice a2 l2 k2) := cell_arr HP2.out rfl
         have u2 : wc.cell? ⟨P2, 2, none⟩ = some (.int .i64 kd) := cell_arr HP2.out rfl
         have u3 : wc.cell? ⟨P2, 3, none⟩ = some (.int .i64 vl) := cell_arr HP2.out rfl
         have u4 : wc.cell? ⟨P2, 4, none⟩ = some (.slice a3 l3 k3) := cell_arr HP2.out rfl
         have u5 : wc.cell? ⟨P2, 5, none⟩ = some (.slice a4 l4 k4) := cell_arr HP2.out rfl
         have v0 : wc.cell? ⟨Q2, 0, none⟩ = some (.slice e1 l1 t1) := cell_arr HQ2.out rfl
         have v1 : wc.cell? ⟨Q2, 1, none⟩ = some (.slice e2 l2 t2) := cell_arr HQ2.out rfl
         have v2 : wc.cell? ⟨Q2, 2, none⟩ = some (.int .i64 kd) := cell_arr HQ2.out rfl
         have v3 : wc.cell? ⟨Q2, 3, none⟩ = some (.int .i64 vl) := cell_arr HQ2.out rfl
         have v4 : wc.cell? ⟨Q2, 4, none⟩ = some (.slice e3 l3 t3) := cell_arr HQ2.out rfl
         have v5 : wc.cell? ⟨Q2, 5, none⟩ = some (.slice e4 l4 t4) := cell_arr HQ2.out rfl
         have HX : Hid _ := HK1.out wc HC2.out
         go_wp2_with fail
         refine Calls.mono HX.out ?_
         rintro e w8 ⟨rfl, m1, rfl⟩
         obtain ⟨z1, hz1⟩ : ∃ W, W = wc.drewN m1 := ⟨_, rfl⟩
         rw [<- hz1]
         have bz1 : Below wc.heap.size wc z1 := by rw [hz1]; exact below_drewN (Below.refl _ _) m1
         have HZ1 : Hid (Below wq.heap.size wq z1) := HC2.out.trans (bz1.mono HC2.out.size)
         have HP2z1 : Hid (z1.heap[P2]? = some (.cells #[.slice a1 l1 k1, .slice a2 l2 k2, .int .i64 kd, .int .i64 vl, .slice a3 l3 k3, .slice a4 l4 k4] 46 (0, 0))) := (bz1.block P2 (gl HP2.out)).trans HP2.out
         have HQ2z1 : Hid (z1.heap[Q2]? = some (.cells #[.slice e1 l1 t1, .slice e2 l2 t2, .int .i64 kd, .int .i64 vl, .slice e3 l3 t3, .slice e4 l4 t4] 46 (0, 0))) := (bz1.block Q2 (gl HQ2.out)).trans HQ2.out
         have u0 : z1.cell? ⟨P2, 0, none⟩ = some (.slice a1 l1 k1) := cell_arr HP2z1.out rfl
         have u1 : z1.cell? ⟨P2, 1, none⟩ = some (.slice a2 l2 k2) := cell_arr HP2z1.out rfl
         have u2 : z1.cell? ⟨P2, 2, none⟩ = some (.int .i64 kd) := cell_arr HP2z1.out rfl
         have u3 : z1.cell? ⟨P2, 3, none⟩ = some (.int .i64 vl) := cell_arr HP2z1.out rfl
         have u4 : z1.cell? ⟨P2, 4, none⟩ = some (.slice a3 l3 k3) := cell_arr HP2z1.out rfl
         have u5 : z1.cell? ⟨P2, 5, none⟩ = some (.slice a4 l4 k4) := cell_arr HP2z1.out rfl
         have v0 : z1.cell? ⟨Q2, 0, none⟩ = some (.slice e1 l1 t1) := cell_arr HQ2z1.out rfl
         have v1 : z1.cell? ⟨Q2, 1, none⟩ = some (.slice e2 l2 t2) := cell_arr HQ2z1.out rfl
         have v2 : z1.cell? ⟨Q2, 2, none⟩ = some (.int .i64 kd) := cell_arr HQ2z1.out rfl
         have v3 : z1.cell? ⟨Q2, 3, none⟩ = some (.int .i64 vl) := cell_arr HQ2z1.out rfl
         have v4 : z1.cell? ⟨Q2, 4, none⟩ = some (.slice e3 l3 t3) := cell_arr HQ2z1.out rfl
         have v5 : z1.cell? ⟨Q2, 5, none⟩ = some (.slice e4 l4 t4) := cell_arr HQ2z1.out rfl
         clear hz1 bz1
         have HX : Hid _ := HK2.out z1 HZ1.out
         go_wp2_with fail
         refine Calls.mono HX.out ?_
         rintro e w8 ⟨rfl, m2, rfl⟩
         obtain ⟨z2, hz2⟩ : ∃ W, W = z1.drewN m2 := ⟨_, rfl⟩
         rw [<- hz2]
         have bz2 : Below z1.heap.size z1 z2 := by rw [hz2]; exact below_drewN (Below.refl _ _) m2
         have HZ2 : Hid (Below wq.heap.size wq z2) := HZ1.out.trans (bz2.mono HZ1.out.size)
         have HP2z2 : Hid (z2.heap[P2]? = some (.cells #[.slice a1 l1 k1, .slice a2 l2 k2, .int .i64 kd, .int .i64 vl, .slice a3 l3 k3, .slice a4 l4 k4] 46 (0, 0))) := (bz2.block P2 (gl HP2z1.out)).trans HP2z1.out
         have HQ2z2 : Hid (z2.heap[Q2]? = some (.cells #[.slice e1 l1 t1, .slice e2 l2 t2, .int .i64 kd, .int .i64 vl, .slice e3 l3 t3, .slice e4 l4 t4] 46 (0, 0))) := (bz2.block Q2 (gl HQ2z1.out)).trans HQ2z1.out
         have u0 : z2.cell? ⟨P2, 0, none⟩ = some (.slice a1 l1 k1) := cell_arr HP2z2.out rfl
         have u1 : z2.cell? ⟨P2, 1, none⟩ = some (.slice a2 l2 k2) := cell_arr HP2z2.out rfl
         have u2 : z2.cell? ⟨P2, 2, none⟩ = some (.int .i64 kd) := cell_arr HP2z2.out rfl
         have u3 : z2.cell? ⟨P2, 3, none⟩ = some (.int .i64 vl) := cell_arr HP2z2.out rfl
         have u4 : z2.cell? ⟨P2, 4, none⟩ = some (.slice a3 l3 k3) := cell_arr HP2z2.out rfl
         have u5 : z2.cell? ⟨P2, 5, none⟩ = some (.slice a4 l4 k4) := cell_arr HP2z2.out rfl
         have v0 : z2.cell? ⟨Q2, 0, none⟩ = some (.slice e1 l1 t1) := cell_arr HQ2z2.out rfl
         have v1 : z2.cell? ⟨Q2, 1, none⟩ = some (.slice e2 l2 t2) := cell_arr HQ2z2.out rfl
         have v2 : z2.cell? ⟨Q2, 2, none⟩ = some (.int .i64 kd) := cell_arr HQ2z2.out rfl
         have v3 : z2.cell? ⟨Q2, 3, none⟩ = some (.int .i64 vl) := cell_arr HQ2z2.out rfl
         have v4 : z2.cell? ⟨Q2, 4, none⟩ = some (.slice e3 l3 t3) := cell_arr HQ2z2.out rfl
         have v5 : z2.cell? ⟨Q2, 5, none⟩ = some (.slice e4 l4 t4) := cell_arr HQ2z2.out rfl
         clear hz2 bz2
         have HX : Hid _ := HK4.out z2 HZ2.out
         go_wp2_with fail
         refine Calls.mono HX.out ?_
         rintro e w8 ⟨rfl, m3, rfl⟩
         obtain ⟨z3, hz3⟩ : ∃ W, W = z2.drewN m3 := ⟨_, rfl⟩
         rw [<- hz3]
         have bz3 : Below z2.heap.size z2 z3 := by rw [hz3]; exact below_drewN (Below.refl _ _) m3
         have HZ3 : Hid (Below wq.heap.size wq z3) := HZ2.out.trans (bz3.mono HZ2.out.size)
         have HP2z3 : Hid (z3.heap[P2]? = some (.cells #[.slice a1 l1 k1, .slice a2 l2 k2, .int .i64 kd, .int .i64 vl, .slice a3 l3 k3, .slice a4 l4 k4] 46 (0, 0))) := (bz3.block P2 (gl HP2z2.out)).trans HP2z2.out
         have HQ2z3 : Hid (z3.heap[Q2]? = some (.cells #[.slice e1 l1 t1, .slice e2 l2 t2, .int .i64 kd, .int .i64 vl, .slice e3 l3 t3, .slice e4 l4 t4] 46 (0, 0))) := (bz3.block Q2 (gl HQ2z2.out)).trans HQ2z2.out
         have u0 : z3.cell? ⟨P2, 0, none⟩ = some (.slice a1 l1 k1) := cell_arr HP2z3.out rfl
         have u1 : z3.cell? ⟨P2, 1, none⟩ = some (.slice a2 l2 k2) := cell_arr HP2z3.out rfl
         have u2 : z3.cell? ⟨P2, 2, none⟩ = some (.int .i64 kd) := cell_arr HP2z3.out rfl
         have u3 : z3.cell? ⟨P2, 3, none⟩ = some (.int .i64 vl) := cell_arr HP2z3.out rfl
         have u4 : z3.cell? ⟨P2, 4, none⟩ = some (.slice a3 l3 k3) := cell_arr HP2z3.out rfl
         have u5 : z3.cell? ⟨P2, 5, none⟩ = some (.slice a4 l4 k4) := cell_arr HP2z3.out rfl
         have v0 : z3.cell? ⟨Q2, 0, none⟩ = some (.slice e1 l1 t1) := cell_arr HQ2z3.out rfl
         have v1 : z3.cell? ⟨Q2, 1, none⟩ = some (.slice e2 l2 t2) := cell_arr HQ2z3.out rfl
         have v2 : z3.cell? ⟨Q2, 2, none⟩ = some (.int .i64 kd) := cell_arr HQ2z3.out rfl
         have v3 : z3.cell? ⟨Q2, 3, none⟩ = some (.int .i64 vl) := cell_arr HQ2z3.out rfl
         have v4 : z3.cell? ⟨Q2, 4, none⟩ = some (.slice e3 l3 t3) := cell_arr HQ2z3.out rfl
         have v5 : z3.cell? ⟨Q2, 5, none⟩ = some (.slice e4 l4 t4) := cell_arr HQ2z3.out rfl
         clear hz3 bz3
         have HX : Hid _ := HK3.out z3 HZ3.out
         go_wp2_with fail
         refine Calls.mono HX.out ?_
         rintro e w8 ⟨rfl, m4, rfl⟩
         obtain ⟨z4, hz4⟩ : ∃ W, W = z3.drewN m4 := ⟨_, rfl⟩
         rw [<- hz4]
         have bz4 : Below z3.heap.size z3 z4 := by rw [hz4]; exact below_drewN (Below.refl _ _) m4
         have HZ4 : Hid (Below wq.heap.size wq z4) := HZ3.out.trans (bz4.mono HZ3.out.size)
         have HP2z4 : Hid (z4.heap[P2]? = some (.cells #[.slice a1 l1 k1, .slice a2 l2 k2, .int .i64 kd, .int .i64 vl, .slice a3 l3 k3, .slice a4 l4 k4] 46 (0, 0))) := (bz4.block P2 (gl HP2z3.out)).trans HP2z3.out
         have HQ2z4 : Hid (z4.heap[Q2]? = some (.cells #[.slice e1 l1 t1, .slice e2 l2 t2, .int .i64 kd, .int .i64 vl, .slice e3 l3 t3, .slice e4 l4 t4] 46 (0, 0))) := (bz4.block Q2 (gl HQ2z3.out)).trans HQ2z3.out
         have u0 : z4.cell? ⟨P2, 0, none⟩ = some (.slice a1 l1 k1) := cell_arr HP2z4.out rfl
         have u1 : z4.cell? ⟨P2, 1, none⟩ = some (.slice a2 l2 k2) := cell_arr HP2z4.out rfl
         have u2 : z4.cell? ⟨P2, 2, none⟩ = some (.int .i64 kd) := cell_arr HP2z4.out rfl
         have u3 : z4.cell? ⟨P2, 3, none⟩ = some (.int .i64 vl) := cell_arr HP2z4.out rfl
         have u4 : z4.cell? ⟨P2, 4, none⟩ = some (.slice a3 l3 k3) := cell_arr HP2z4.out rfl
         have u5 : z4.cell? ⟨P2, 5, none⟩ = some (.slice a4 l4 k4) := cell_arr HP2z4.out rfl
         have v0 : z4.cell? ⟨Q2, 0, none⟩ = some (.slice e1 l1 t1) := cell_arr HQ2z4.out rfl
         have v1 : z4.cell? ⟨Q2, 1, none⟩ = some (.slice e2 l2 t2) := cell_arr HQ2z4.out rfl
         have v2 : z4.cell? ⟨Q2, 2, none⟩ = some (.int .i64 kd) := cell_arr HQ2z4.out rfl
         have v3 : z4.cell? ⟨Q2, 3, none⟩ = some (.int .i64 vl) := cell_arr HQ2z4.out rfl
         have v4 : z4.cell? ⟨Q2, 4, none⟩ = some (.slice e3 l3 t3) := cell_arr HQ2z4.out rfl
         have v5 : z4.cell? ⟨Q2, 5, none⟩ = some (.slice e4 l4 t4) := cell_arr HQ2z4.out rfl
         clear hz4 bz4
         have HBN : Hid (Below wd.heap.size wd z4) := HB2.out.trans (HZ4.out.mono HB2.out.size)
         go_wp2_with fail
         go_roundw
         case rel => exact ⟨j + 1, by omega, by go_num, HBN.out⟩
         case measure => simp [intOf]; omega
       ·have HBO : Hid (Below W0.heap.size W0 wq) := HB.out.trans (HCq.out.mono HB.out.size)
        go_wp2_with fail
        go_roundw
        case rel => exact ⟨i + 1, by omega, by go_num, HBO.out⟩
        case measure => simp [intOf]; omega
  ·go_wp2_with fail
   go_ret
   exact ⟨rfl, HBW.out wo HB.out⟩
end Go.Proofs.YtdbkjjelaipcfaaGreatDoor
