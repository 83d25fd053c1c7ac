import Derived.Deep.RegionHeld3
import Derived.Test.YtdbkjjelaipcfaaGreatDoorKay
set_option linter.unusedVariables false
set_option linter.unusedSimpArgs false
namespace Go.Proofs.YtdbkjjelaipcfaaGreatDoor
open Go.ChangeShapes Go.WideShapes Go.ChangeAt Go.RowKit Go.Maps
structure MQ (w wr : World) (A : Obj) (gm n : Nat) (Ls : List (List Int)) (out : Int) (q : Nat) (ml : List Int) (h g o l cap : Nat) (R : List Int) : Prop where
 que : OwnQ wr (gm + 1) g o l cap ml
 met : MR wr gm n ml
 box : wr.heap[w.heap.size]? = some A
 wq : WQ n ml
 run : woRun Ls out q ml h = R
 hq : q = n - h
 hh : h <= ml.length
 bel : Below w.heap.size w wr
structure MI (w wr : World) (A : Obj) (gm n : Nat) (out : Int) (ml0 row : List Int) (h j : Nat) (ml : List Int) (g o l cap : Nat) : Prop where
 que : OwnQ wr (gm + 1) g o l cap ml
 met : MR wr gm n ml
 box : wr.heap[w.heap.size]? = some A
 wq : WQ n ml
 run : ml = woIn out ml0 (row.take j)
 hh : h + 1 <= ml.length
 bel : Below w.heap.size w wr
theorem MI.keep {w wr w' A gm n out ml0 row h j ml g o l cap} (x : MI w wr A gm n out ml0 row h j ml g o l cap) (hb : Below wr.heap.size wr w') : MI w w' A gm n out ml0 row h j ml g o l cap :=
 ⟨x.que.move (hb.block g x.que.lt), (hb.block gm (gl x.met)).trans x.met, (hb.block _ (gl x.box)).trans x.box, x.wq, x.run, x.hh, x.bel.trans (hb.mono x.bel.size)⟩
set_option maxRecDepth 100000 in
set_option maxHeartbeats 8000000 in
theorem met_any (w : World) {s : ByteArray} {pa : Option Addr} {pn pc : Nat} {r : Int} {va : Option Addr} {vn vc : Nat} {ba : Option Addr} {bn bc : Nat} {f : Fu} (C : LF w pa pn pc va vn vc ba bn bc f) (hg : goodP (waysP f) = true) (hsz : bn <= 100000000) (t : Nat) (ht : t < bn) (out : Int) :
 Calls Tryz.prog 26 #[.agg #[.string s, .slice pa pn pc, .int .i64 r, .slice va vn vc, .slice ba bn bc], .int .i64 t, .int .i64 out] w fun e w' => e = .returned (.bool (decide ((t : Int) ∈ woP (waysP f) out))) /\ Below w.heap.size w w' := by
 have hmk := run_make_row' (P := Tryz.prog) 70 4 (.bool false) 1 Tryz.underlying70 infoBool rfl .i64 .i64 bn (by omega) (by omega)
 have hpos : 0 < bn := by omega
 obtain ⟨gm, hgm⟩ : ∃ gm, gm = w.heap.size + 1 := ⟨_, rfl⟩
 obtain ⟨w1, hw1⟩ : ∃ w1, w1 = (w.alloc (.cells #[.string s, .slice pa pn pc, .int .i64 r, .slice va vn vc, .slice ba bn bc] 38)).alloc (.cells (madeCells #[.bool false] bn) 4) := ⟨_, rfl⟩
 have M1 : MR w1 gm bn [] := by
  unfold MR
  have e : madeCells #[.bool false] bn = ((rch bn []).map Value.bool).toArray := by
   apply Array.toList_inj.1
   rw [toList_madeCells_one, rch_nil]
   simp
  have := heap_alloc_new (w.alloc (.cells #[.string s, .slice pa pn pc, .int .i64 r, .slice va vn vc, .slice ba bn bc] 38)) (.cells ((rch bn []).map Value.bool).toArray 4)
  rw [hw1, e, hgm]
  simpa using this
 have b1 : Af1 w (.cells #[.string s, .slice pa pn pc, .int .i64 r, .slice va vn vc, .slice ba bn bc] 38) w1 := by rw [hw1]; exact (Af1.refl _ _).next (below_new _ _)
 have hs1 : w1.heap.size = w.heap.size + 2 := by rw [hw1]; simp
 have hbx : bn <= bc /\ bc <= 9223372036854775807 := by have := C.hb.le; have := C.hb.mx; have := C.eb; omega
 have x4 : (w.alloc (.cells #[.string s, .slice pa pn pc, .int .i64 r, .slice va vn vc, .slice ba bn bc] 38)).cell? ⟨w.heap.size, 4, none⟩ = some (.slice ba bn bc) := cell_arr (Af1.refl w (.cells #[.string s, .slice pa pn pc, .int .i64 r, .slice va vn vc, .slice ba bn bc] 38)).one rfl
 have HC : Hid (Bks w ba bc f.blks) := C.hb
 have HEB : Hid (bn = f.blks.length) := C.eb
 have HG : Hid (goodP (waysP f) = true) := hg
 have HM1 : Hid (MR w1 gm bn []) := M1
 have HB1 : Hid (Af1 w (.cells #[.string s, .slice pa pn pc, .int .i64 r, .slice va vn vc, .slice ba bn bc] 38) w1) := b1
 obtain ⟨T, hT⟩ : ∃ T, T = decide ((t : Int) ∈ woP (waysP f) out) := ⟨_, rfl⟩
 rw [<- hT]
 have HT : Hid (T = decide ((t : Int) ∈ woP (waysP f) out)) := hT
 clear C hg M1 b1 hT
 go_enter Tryz.func26, Tryz.ntmps26
 go_upto_region 2 with fail
 rw [<- hw1]
 try simp only [World.alloc_size]
 rw [<- hgm]
 have hg1 : gm <= w.heap.size + 1 := by omega
 have hg2 : w.heap.size + 1 <= gm := by omega
 have hs2 : w1.heap.size <= w.heap.size + 2 := by omega
 have hs3 : w.heap.size + 2 <= w1.heap.size := by omega
 clear hw1 hmk x4 hgm hs1
 by_cases ho : out = 0
 ·have HW : Hid (false = T) := by show _ = _; rw [HT.out]; unfold woP; rw [if_pos ho]; simp
  have hq : (out == 0) = true := by simp [ho]
  go_wp2_with fail
  go_ret
  exact ⟨ret_bl HW.out, HB1.out.low⟩
 ·have hq : (out == 0) = false := by simp [ho]
  have HW : Hid (woP (waysP f) out = woRun (waysP f) out bn [0] 0) := by show _ = _; unfold woP; rw [if_neg ho, HEB.out]; simp [waysP]
  obtain ⟨z0, k0⟩ : ∃ z, w1.cell? ⟨gm, 0, none⟩ = some z := ⟨_, MR.cell HM1.out hpos⟩
  have f0 : w1.frozen? ⟨gm, 0, none⟩ = false := fz_of HM1.out
  obtain ⟨R, hR⟩ : ∃ R, R = woRun (waysP f) out bn [0] 0 := ⟨_, rfl⟩
  obtain ⟨w2, hw2⟩ : ∃ w2, w2 = (w1.setCell ⟨gm, 0, none⟩ (.bool true)).alloc (.cells #[.int .i64 0] 3) := ⟨_, rfl⟩
  have hgl : gm < w1.heap.size := by omega
  have hss : (w1.setCell ⟨gm, 0, none⟩ (.bool true)).heap.size = w1.heap.size := by simp [World.setCell]
  have hst : MQ w w2 (.cells #[.string s, .slice pa pn pc, .int .i64 r, .slice va vn vc, .slice ba bn bc] 38) gm bn (waysP f) out bn [0] 0 w1.heap.size 0 1 1 R := by
   rw [hw2]
   refine ⟨⟨by omega, rfl, Nat.le_refl _, #[.int .i64 0], ?_, fun _ => by simp, fun i hi => ?_⟩, ?_, ?_, ⟨by simp, fun x hx => by simp at hx; subst hx; omega⟩, hR.symm, by omega, by simp, ?_⟩
   ·rw [<- hss]; exact heap_alloc_new _ _
   ·simp at hi; subst hi; rfl
   ·unfold MR
    rw [heap_alloc_old _ _ (by rw [hss]; exact hgl)]
    exact MR.set (b := 0) HM1.out
   ·rw [heap_alloc_old _ _ (by rw [hss]; omega), heap_set_other (by omega)]
    exact HB1.out.one
   ·exact (HB1.out.low.setCell (by show w.heap.size <= gm; omega) _).alloc (by rw [hss]; omega) _
  have HST : Hid _ := hst
  have HSS : Hid ((w1.setCell ⟨gm, 0, none⟩ (.bool true)).heap.size = w1.heap.size) := hss
  have HR : Hid (R = woRun (waysP f) out bn [0] 0) := hR
  have HW2 : Hid (w2 = (w1.setCell ⟨gm, 0, none⟩ (.bool true)).alloc (.cells #[.int .i64 0] 3)) := hw2
  clear hst hR hss hw2
  go_wp2_with fail
  rw [<- HW2.out]
  try rw [HSS.out]
  clear k0 f0
  go_loopg [8, 9] bn (fun q lv iv wr => ∃ (ml : List Int) (h g o l cap : Nat), lv = .slice (some ⟨g, o, none⟩) l cap /\ iv = .int .i64 (h : Int) /\ Hid (MQ w wr (.cells #[.string s, .slice pa pn pc, .int .i64 r, .slice va vn vc, .slice ba bn bc] 38) gm bn (waysP f) out q ml h g o l cap R))
  case atStart => exact ⟨[0], 0, _, _, _, _, rfl, rfl, HST.out⟩
  case round =>
   clear HST
   obtain ⟨ml, hd, g, o, l, cap, rfl, rfl, HH⟩ := hrel
   obtain ⟨wq, rfl⟩ : ∃ wq, wq = wr := ⟨_, rfl⟩
   have hlm : l = ml.length := HH.out.que.ln
   have HLM : Hid (l = ml.length) := hlm
   have hlc : l <= cap := HH.out.que.lc
   have hlb : l <= 100000000 := by have := HH.out.wq.le; omega
   clear hlm
   by_cases he : hd < l
   ·have hel : hd < ml.length := by have := HLM.out; omega
    obtain ⟨x, hx⟩ : ∃ x, x = ml[hd] := ⟨_, rfl⟩
    have hxr := HH.out.wq.rng x (hx ▸ List.getElem_mem hel)
    obtain ⟨bm, rfl⟩ : ∃ bm : Nat, x = (bm : Int) := ⟨x.toNat, by have := hxr.1; omega⟩
    have hbm : bm < bn := by have := hxr.2; omega
    have hbf : bm < f.blks.length := by have := HEB.out; omega
    have kq : wq.cell? ⟨g, o + hd, none⟩ = some (.int .i64 (bm : Int)) := by rw [hx]; exact HH.out.que.cell hel
    obtain ⟨G, rfl⟩ : ∃ G, gk = G + 1 := ⟨gk - 1, by have := HH.out.hq; have := HH.out.wq.le; have := HLM.out; omega⟩
    obtain ⟨b', o', ka, kc, la, lc, ma, mc, na, nc, ea, hlt', _, _, _, _, c4, _, _, _, g3, _⟩ := HC.out.at hbf
    have x4 : wq.cell? ⟨w.heap.size, 4, none⟩ = some (.slice (some ⟨b', o', none⟩) bn bc) := by rw [<- ea]; exact cell_arr HH.out.box rfl
    replace c4 := (HH.out.bel.cell (p := ⟨b', o' + bm * 6 + 4, none⟩) hlt').trans c4
    obtain ⟨row, hrow⟩ : ∃ row, row = f.blks[bm].ways := ⟨_, rfl⟩
    rw [<- hrow] at c4 g3
    obtain ⟨rl, hrl⟩ : ∃ rl, rl = row.length := ⟨_, rfl⟩
    rw [<- hrl] at c4
    have hrc : rl <= mc /\ mc <= 9223372036854775807 := by have := g3.le; have := g3.mx; omega
    have HXE : Hid ((bm : Int) = ml[hd]) := hx
    have HRO : Hid (row = f.blks[bm].ways) := hrow
    have HRL : Hid (rl = row.length) := hrl
    have HIR : Hid (Ints w ma mc row) := g3
    have MI0 : Hid (∀ w', Below wq.heap.size wq w' -> MI w w' (.cells #[.string s, .slice pa pn pc, .int .i64 r, .slice va vn vc, .slice ba bn bc] 38) gm bn out ml row hd 0 ml g o l cap) := fun w' hb =>
     MI.keep ⟨HH.out.que, HH.out.met, HH.out.box, HH.out.wq, by simp [woIn], hel, HH.out.bel⟩ hb
    have hgl2 : g < wq.heap.size := HH.out.que.lt
    have hwl : w.heap.size < wq.heap.size := (gl HH.out.box)
    have hbl2 : b' < wq.heap.size := by omega
    clear hx hxr hrow hrl g3 ea
    go_wp2_with fail
    go_quiet (fail)
    go_wp2_with fail
    clear kq x4 c4
    go_loopg [8, 11] rl (fun q lv iv wr' => ∃ (j : Nat) (ml' : List Int) (g' o' l' cap' : Nat), j <= rl /\ q = rl - j /\ lv = .slice (some ⟨g', o', none⟩) l' cap' /\ iv = .int .i64 (j : Int) /\ Hid (MI w wr' (.cells #[.string s, .slice pa pn pc, .int .i64 r, .slice va vn vc, .slice ba bn bc] 38) gm bn out ml row hd j ml' g' o' l' cap'))
    case atStart => exact ⟨0, ml, _, _, _, _, by omega, by omega, rfl, rfl, MI0.out _ (below_drawn (Below.refl _ _) _)⟩
    case round =>
     clear MI0
     obtain ⟨j, ml', g', o2, l', cap', hj, rfl, rfl, rfl, HL⟩ := hrel
     obtain ⟨wv, rfl⟩ : ∃ wv, wv = wr := ⟨_, rfl⟩
     by_cases hlt : j < rl
     ·have hjr : j < row.length := by have := HRL.out; omega
      obtain ⟨x, hx⟩ : ∃ x, x = row[j] := ⟨_, rfl⟩
      obtain ⟨xb, xo, rfl, kx0⟩ := HIR.out.at hjr
      rw [<- hx] at kx0
      have hxw : xb < w.heap.size := block_lt_of_cell kx0
      have kx := (HL.out.bel.cell (p := ⟨xb, xo + j, none⟩) hxw).trans kx0
      have hxr : 0 <= x /\ x < bn := by
       have h1 := goodP_yes HG.out (k := bm) (by simp [waysP]; exact hbf) (j := j) (by simp [waysP]; rw [<- HRO.out]; exact hjr)
       simp only [waysP, List.getElem_map, <- HRO.out, List.length_map, <- HEB.out] at h1
       rw [hx]; exact h1
      obtain ⟨xn, rfl⟩ : ∃ xn : Nat, x = (xn : Int) := ⟨x.toNat, by have := hxr.1; omega⟩
      have hxn : xn < bn := by have := hxr.2; omega
      have km := MR.cell HL.out.met hxn
      have fm : wv.frozen? ⟨gm, xn, none⟩ = false := fz_of HL.out.met
      have HX : Hid ((xn : Int) = row[j]) := hx
      clear hx hxr kx0
      have STAY : ¬ ((xn : Int) ≠ out /\ (xn : Int) ∉ ml') -> MI w wv (.cells #[.string s, .slice pa pn pc, .int .i64 r, .slice va vn vc, .slice ba bn bc] 38) gm bn out ml row hd (j + 1) ml' g' o2 l' cap' := fun hno => by
       refine ⟨HL.out.que, HL.out.met, HL.out.box, HL.out.wq, ?_, HL.out.hh, HL.out.bel⟩
       rw [woIn_take _ _ _ hjr, <- HL.out.run, <- HX.out, if_neg hno]
      have HSTAY : Hid _ := STAY
      clear STAY
      by_cases hxo : (xn : Int) = out
      ·have hq2 : ((xn : Int) == out) = true := by simp [hxo]
       go_wp2_with fail
       go_roundg (rl - (j + 1))
       case rel => exact ⟨j + 1, ml', _, _, _, _, by omega, rfl, rfl, by go_num, HSTAY.out fun e => e.1 hxo⟩
       case measure => omega
      ·have hq2 : ((xn : Int) == out) = false := by simp [hxo]
       by_cases hxm : (xn : Int) ∈ ml'
       ·rw [decide_eq_true hxm] at km
        go_wp2_with fail
        go_roundg (rl - (j + 1))
        case rel => exact ⟨j + 1, ml', _, _, _, _, by omega, rfl, rfl, by go_num, HSTAY.out fun e => e.2 hxm⟩
        case measure => omega
       ·rw [decide_eq_false hxm] at km
        clear HSTAY
        obtain ⟨w3, hw3⟩ : ∃ w3, w3 = wv.setCell ⟨gm, xn, none⟩ (.bool true) := ⟨_, rfl⟩
        have hgg : g' ≠ gm := by have := HL.out.que.lo; omega
        have Q2 : OwnQ w3 (gm + 1) g' o2 l' cap' ml' := HL.out.que.move (by rw [hw3]; exact heap_set_other hgg)
        have M2 : MR w3 gm bn (ml' ++ [(xn : Int)]) := by rw [hw3]; exact MR.set HL.out.met
        have X2 : w3.heap[w.heap.size]? = some (.cells #[.string s, .slice pa pn pc, .int .i64 r, .slice va vn vc, .slice ba bn bc] 38) := by rw [hw3, heap_set_other (by omega)]; exact HL.out.box
        have B2 : Below w.heap.size w w3 := by rw [hw3]; exact HL.out.bel.setCell (by show w.heap.size <= gm; omega) _
        have hB2 : gm + 1 <= w3.heap.size := by have := Q2.lt; have := Q2.lo; omega
        have HS2 : Hid (w3.heap.size = wv.heap.size) := by show w3.heap.size = _; rw [hw3]; simp [World.setCell]
        have hl2 : l' + 1 <= 17592186044416 := by have := Q2.ln; have := HL.out.wq.le; omega
        have NEXT : ∀ g2 o3 c2 w4, OwnQ w4 (gm + 1) g2 o3 (l' + 1) c2 (ml' ++ [(xn : Int)]) -> Only (fun k => k = g') w3 w4 -> MI w w4 (.cells #[.string s, .slice pa pn pc, .int .i64 r, .slice va vn vc, .slice ba bn bc] 38) gm bn out ml row hd (j + 1) (ml' ++ [(xn : Int)]) g2 o3 (l' + 1) c2 := by
         intro g2 o3 c2 w4 h1 h2
         refine ⟨h1, ?_, (h2.block _ (gl X2) (by have := Q2.lo; omega)).trans X2, HL.out.wq.more hxm (by omega), ?_, by have := HL.out.hh; simp; omega, B2.trans (h2.below (by omega) fun k e => by have := Q2.lo; omega)⟩
         ·unfold MR at M2 ⊢
          rw [h2.block gm (by omega) fun e => hgg e.symm]
          exact M2
         ·rw [woIn_take _ _ _ hjr, <- HL.out.run, <- HX.out, if_pos ⟨hxo, hxm⟩]
        have HNX : Hid _ := NEXT
        have HQ2 : Hid _ := Q2
        have HE2 : Hid (w3 = wv.setCell ⟨gm, xn, none⟩ (.bool true)) := hw3
        have hxg : xb ≠ gm := by omega
        clear NEXT Q2 M2 B2 hw3 X2
        go_wp2_with (first
         | (at_builtin; rw [<- HE2.out]; refine wpList_append_q (w0 := w3) rfl _ _ rfl (gm + 1) g' o2 l' cap' ml' (xn : Int) rfl HQ2.out (by rw [HS2.out]; rfl) hl2 hB2 ?_; intro g2 o3 c2 w4 h1 h2 _
            have H7 : Hid _ := HNX.out g2 o3 c2 w4 h1 h2
            clear h1 h2 HNX)
         | go_in)
        go_roundg (rl - (j + 1))
        case rel => exact ⟨j + 1, ml' ++ [(xn : Int)], _, _, _, _, by omega, rfl, rfl, by go_num, H7.out⟩
        case measure => omega
     ·have hjr : j = rl := by omega
      subst hjr
      have HNX : Hid (MQ w wv (.cells #[.string s, .slice pa pn pc, .int .i64 r, .slice va vn vc, .slice ba bn bc] 38) gm bn (waysP f) out G ml' (hd + 1) g' o2 l' cap' R) := by
       have hr := HH.out.run
       rw [woRun, if_pos hel] at hr
       have e1 : rowOf (waysP f) (gn ml hd) = row := by
        rw [HRO.out]
        have e2 : gn ml hd = (bm : Int) := by rw [HXE.out]; simp [gn, hel]
        rw [e2]
        simp [rowOf, waysP, hbf]
       have e3 := HL.out.run
       rw [List.take_of_length_le (by have := HRL.out; omega)] at e3
       rw [e1, <- e3] at hr
       exact ⟨HL.out.que, HL.out.met, HL.out.box, HL.out.wq, hr, by have := HH.out.hq; omega, HL.out.hh, HL.out.bel⟩
      go_wp2_with fail
      go_roundg G
      case rel => exact ⟨ml', hd + 1, _, _, _, _, rfl, by go_num, HNX.out⟩
      case measure => omega
   ·have hel : ¬ hd < ml.length := by have := HLM.out; omega
    have eR : R = ml := by
     rw [<- HH.out.run]
     cases gk with
     | zero => rfl
     | succ k => rw [woRun, if_neg hel]
    have HER : Hid (decide ((t : Int) ∈ ml) = T) := by show _ = _; rw [HT.out, HW.out, <- HR.out, eR]
    have km := MR.cell HH.out.met ht
    have HBL : Hid (Below w.heap.size w wq) := HH.out.bel
    generalize decide ((t : Int) ∈ ml) = T2 at km HER
    clear eR HW
    go_wp2_with fail
    try rw [Exit.noGoto_ret]
    go_ret
    exact ⟨ret_bl HER.out, HBL.out⟩
def lwK (f : Fu) : Nat -> List (Int × Int)
 | 0 => plL (-1, -1) f.params (List.replicate f.vals.length (0, 0))
 | k + 1 => plS k (f.blks.getD k noB) (lwK f k)
def lwP (f : Fu) : List (Int × Int) := lwK f f.blks.length
theorem lw_all (f : Fu) : ∀ k, k <= f.blks.length -> QP f.vals.length (lwK f k) (plK f k) (cntK f k)
 | 0, _ => by
   have h0 : QP f.vals.length (List.replicate f.vals.length (0, 0)) (List.replicate f.vals.length (0, 0)) (List.replicate f.vals.length 0) := by
    refine ⟨by simp, by simp, by simp, fun x => ?_⟩
    have : (List.replicate f.vals.length (0 : Int)).getD x 0 = 0 := by
     rw [List.getD_eq_getElem?_getD, List.getElem?_replicate]; split <;> rfl
    rw [this]; exact ⟨by omega, .inl rfl⟩
   have := QP.plL (a := (-1, -1)) (b := (-1, 0)) ⟨.inr ⟨rfl, rfl⟩⟩ f.params h0
   simpa [lwK, plK, cntK] using this
 | k + 1, hk => by
   have ih := lw_all f k (by omega)
   rw [cntK_next f (by omega : k < f.blks.length)]
   have e : f.blks.getD k noB = f.blks[k]'(by omega) := by simp [List.getD_eq_getElem?_getD, show k < f.blks.length by omega]
   show QP _ (plS k (f.blks.getD k noB) (lwK f k)) (plS k (f.blks.getD k noB) (plK f k)) _
   rw [e]
   unfold plS cntB
   have h1 := QP.plL (a := ((k : Int), -1)) (b := ((k : Int), -1)) ⟨.inl rfl⟩ (f.blks[k]'(by omega)).phis ih
   have h2 := QP.plB (k : Int) (f.blks[k]'(by omega)).body h1 (f.blks[k]'(by omega)).body.length (Nat.le_refl _)
   rw [List.take_of_length_le (Nat.le_refl _)] at h2
   exact h2
theorem cnt_one {f : Fu} (h : onceP f = true) (x : Nat) (hx : x < f.vals.length) : (cntAll f).getD x 0 = 1 := by
 have q := lw_all f f.blks.length (Nat.le_refl _)
 unfold onceP at h
 rw [List.all_eq_true] at h
 have hl : x < (cntAll f).length := by unfold cntAll; rw [q.lo]; exact hx
 have := h _ (List.getElem_mem hl)
 rw [List.getD_eq_getElem?_getD, List.getElem?_eq_getElem hl]
 simpa using this
theorem lw_same {f : Fu} (h : onceP f = true) (x : Nat) (hx : x < f.vals.length) : Sm ((lwP f).getD x (0, 0)) ((placesP f).getD x (0, 0)) := by
 have q := lw_all f f.blks.length (Nat.le_refl _)
 rcases (q.out x).2 with h0 | h0
 ·exfalso
  have := cnt_one h x hx
  unfold cntAll at this
  rw [h0] at this
  omega
 ·exact h0
theorem lw_ok {f : Fu} (h0 : 0 < f.blks.length) (ho : onceP f = true) {v : Nat} (hv : v < f.vals.length) : ((lwP f).getD v (0, 0)).1 = -1 \/ (0 <= ((lwP f).getD v (0, 0)).1 /\ ((lwP f).getD v (0, 0)).1 < f.blks.length) := by
 have hs := lw_same ho v hv
 have hok := (plK_ok (f := f) h0 f.blks.length (Nat.le_refl _)).ok v
 unfold placesP at hs
 rcases hs.out with e | e
 ·rw [e]; exact hok
 ·exact .inl e.1
theorem lw_ql {f : Fu} (ho : onceP f = true) {v : Nat} (hv : v < f.vals.length) : (lwP f).getD v (0, 0) = (qlK f f.blks.length).getD v (0, 0) \/ (((lwP f).getD v (0, 0)).1 = -1 /\ ((qlK f f.blks.length).getD v (0, 0)).1 = -1) := by
 have h1 := lw_same ho v hv
 have h2 := places_same ho v hv
 rcases h1.out with e1 | e1 <;> rcases h2.out with e2 | e2
 ·exact .inl (e1.trans e2.symm)
 ·exact .inr ⟨by rw [e1]; exact e2.2, e2.1⟩
 ·exact .inr ⟨e1.1, by rw [e2]; exact e1.2⟩
 ·exact .inr ⟨e1.1, e2.1⟩
def thL (f : Fu) (P : List (Int × Int)) (v k : Nat) : Bool := decide ((P.getD v (0, 0)).1 < 0) || !decide ((k : Int) ∈ woP (waysP f) (P.getD v (0, 0)).1)
theorem th_rt {f : Fu} (h0 : 0 < f.blks.length) (ho : onceP f = true) {v : Nat} (hv : v < f.vals.length) (k : Nat) : thL f (lwP f) v k = rtP f (v : Int) (k : Int) := by
 have h1 := lw_ok h0 ho hv
 have h2 := lw_ql ho hv
 unfold thL rtP
 rw [Int.toNat_natCast]
 rcases h2 with e | ⟨e1, e2⟩
 ·rw [<- e]
  rcases h1 with h | ⟨h, _⟩
  ·rw [h]; rfl
  ·rw [if_neg (by omega), decide_eq_false (by omega : ¬ ((lwP f).getD v (0, 0)).1 < 0)]; rfl
 ·rw [if_pos e2, e1]; rfl
structure MF (f : Fu) : Prop where
 rg : RG f
 gd : goodP (waysP f) = true
 re : ∀ i : Nat, i < f.blks.length -> (i : Int) ∈ woP (waysP f) (-1)
 once : ∀ v : Nat, v < f.vals.length -> (cntAll f).getD v 0 = 1
 ok : ∀ v : Nat, v < f.vals.length -> ((lwP f).getD v (0, 0)).1 = -1 \/ (0 <= ((lwP f).getD v (0, 0)).1 /\ ((lwP f).getD v (0, 0)).1 < f.blks.length)
 len : (lwP f).length = f.vals.length
 phi : ∀ b (hb : b < f.blks.length), ∀ x ∈ f.blks[b].phis, (gv f x).args.length = f.blks[b].preds.length /\ ∀ j (hj : j < (gv f x).args.length), thL f (lwP f) (gv f x).args[j].toNat (gn f.blks[b].preds j).toNat = true
 body : ∀ b (hb : b < f.blks.length), ∀ k (hk : k < f.blks[b].body.length), ∀ y ∈ (gv f f.blks[b].body[k]).args, (((lwP f).getD y.toNat (0, 0)).1 = b -> ((lwP f).getD y.toNat (0, 0)).2 < k) /\ (((lwP f).getD y.toNat (0, 0)).1 ≠ b -> thL f (lwP f) y.toNat b = true)
 term : ∀ b (hb : b < f.blks.length), 0 <= f.blks[b].val -> thL f (lwP f) f.blks[b].val.toNat b = true
theorem mf_of {FS : List Fu} {f : Fu} (hf : formP FS f = true) (h : faultP FS f = 0) : MF f := by
 unfold faultP at h
 split at h
 ·cases h
 split at h
 ·cases h
 split at h
 ·cases h
 split at h
 ·cases h
 split at h
 ·cases h
 split at h
 ·cases h
 rename_i _ h2 h3 h4 _ h6
 simp only [Bool.not_eq_false] at h2 h3 h4 h6
 have rg := rg_of hf
 have hg := ways_good hf
 have h0 := rg.n
 have hall := reached_all h2 h0 hg
 have hlen := waysP_len f
 have hu : ruP f = true := by rw [ruP_eq hf h3 h2 h4]; exact h6
 unfold ruP at hu
 rw [evr_iff] at hu
 have nat : ∀ x : Int, wi f.vals.length x = true -> (x.toNat : Int) = x /\ x.toNat < f.vals.length := fun x hx => by simp only [wi, decide_eq_true_eq] at hx; omega
 refine ⟨rg, hg, fun i hi => (woP_reach hg _).2 (hall i (by rw [hlen]; exact hi)), cnt_one h4, fun v hv => lw_ok h0 h4 hv, (lw_all f f.blks.length (Nat.le_refl _)).lq, fun b hb x hx => ?_, fun b hb k hk y hy => ?_, fun b hb hv => ?_⟩
 ·have hub := hu b hb
  rw [Nat.zero_add] at hub
  simp only [rub, Bool.and_eq_true, List.all_eq_true] at hub
  have hm : f.blks[b] ∈ f.blks := List.getElem_mem hb
  have hP : phiB f f.blks[b] = true := by
   simp only [phisP, Bool.and_eq_true, List.all_eq_true] at h3
   exact h3.2 _ hm
  simp only [phiB, Bool.and_eq_true, List.all_eq_true] at hP
  have hp := hP.1 x hx
  simp only [phP, Bool.and_eq_true, decide_eq_true_eq] at hp
  refine ⟨hp.2, fun j hj => ?_⟩
  have hev := (evr_iff _ _ 0).1 (hub.1 x hx) j hj
  rw [Nat.zero_add] at hev
  have hxw := List.all_eq_true.1 (rg.b _ hm).1 x hx
  have hyw := gv_args hf hxw _ (List.getElem_mem hj)
  obtain ⟨e1, e2⟩ := nat _ hyw
  have hjp : j < f.blks[b].preds.length := by omega
  have hgp : gn f.blks[b].preds j = f.blks[b].preds[j] := by simp [gn, List.getD_eq_getElem?_getD, hjp]
  have hpw := List.all_eq_true.1 (rg.b _ hm).2.2.1 _ (List.getElem_mem hjp)
  simp only [wi, decide_eq_true_eq] at hpw
  rw [th_rt h0 h4 e2, e1, hgp, Int.toNat_of_nonneg hpw.1, <- hgp]
  exact hev
 ·have hub := hu b hb
  rw [Nat.zero_add] at hub
  simp only [rub, Bool.and_eq_true] at hub
  have hm : f.blks[b] ∈ f.blks := List.getElem_mem hb
  have hev := (evr_iff _ _ 0).1 hub.2.1 k hk
  rw [Nat.zero_add] at hev
  have hah := List.all_eq_true.1 hev y hy
  have hxw := List.all_eq_true.1 (rg.b _ hm).2.1 _ (List.getElem_mem hk)
  have hyw := gv_args hf hxw _ hy
  obtain ⟨e1, e2⟩ := nat _ hyw
  have hq := lw_ql h4 e2
  unfold rahP at hah
  have hth := th_rt h0 h4 e2 b
  rw [e1] at hth
  rw [hth]
  rcases hq with e | ⟨q1, q2⟩
  ·rw [e]
   refine ⟨fun hb1 => ?_, fun hb1 => ?_⟩
   ·rw [if_pos hb1] at hah
    simpa using hah
   ·rw [if_neg hb1] at hah
    exact hah
  ·rw [q1]
   refine ⟨fun hb1 => by omega, fun hb1 => ?_⟩
   unfold rtP
   rw [if_pos q2]
 ·have hub := hu b hb
  rw [Nat.zero_add] at hub
  simp only [rub, Bool.and_eq_true, Bool.or_eq_true, decide_eq_true_eq] at hub
  have hm : f.blks[b] ∈ f.blks := List.getElem_mem hb
  have hvw := (rg.b _ hm).2.2.2.2
  have e2 : f.blks[b].val.toNat < f.vals.length := by omega
  have e1 : (f.blks[b].val.toNat : Int) = f.blks[b].val := Int.toNat_of_nonneg hv
  rw [th_rt h0 h4 e2, e1]
  exact hub.2.2.resolve_left (by omega)
set_option maxRecDepth 100000 in
set_option maxHeartbeats 8000000 in
theorem there_any (w : World) {s : ByteArray} {pa : Option Addr} {pn pc : Nat} {r : Int} {va : Option Addr} {vn vc : Nat} {ba : Option Addr} {bn bc : Nat} {f : Fu} (C : LF w pa pn pc va vn vc ba bn bc f) (hg : goodP (waysP f) = true) (hsz : bn <= 100000000) {qa : Option Addr} {qn qc : Nat} {P : List (Int × Int)} (eq : qn = P.length) (hP : Prs w qa qc P) (v k : Nat) (hv : v < qn) (hk : k < bn) (R : Bool) (hR : thL f P v k = R) :
 Calls Tryz.prog 27 #[.agg #[.string s, .slice pa pn pc, .int .i64 r, .slice va vn vc, .slice ba bn bc], .slice qa qn qc, .int .i64 v, .int .i64 k] w fun e w' => e = .returned (.bool R) /\ Below w.heap.size w w' := by
 have hv' : v < P.length := by omega
 have bq : qn <= 9223372036854775807 := by have := hP.le; have := hP.mx; omega
 obtain ⟨b1, o1, rfl, l1, p1, p2⟩ := hP.at hv'
 have ev' : P.getD v (0, 0) = P[v] := by simp [hv']
 unfold thL at hR
 rw [ev'] at hR
 have A0 : Af1 w (.cells #[.string s, .slice pa pn pc, .int .i64 r, .slice va vn vc, .slice ba bn bc] 38) (w.alloc (.cells #[.string s, .slice pa pn pc, .int .i64 r, .slice va vn vc, .slice ba bn bc] 38)) := Af1.refl _ _
 have hA1 : ∀ w', Below (w.alloc (.cells #[.string s, .slice pa pn pc, .int .i64 r, .slice va vn vc, .slice ba bn bc] 38)).heap.size (w.alloc (.cells #[.string s, .slice pa pn pc, .int .i64 r, .slice va vn vc, .slice ba bn bc] 38)) w' -> Af1 w (.cells #[.string s, .slice pa pn pc, .int .i64 r, .slice va vn vc, .slice ba bn bc] 38) w' := fun w' hb => A0.next hb
 have HC : Hid (∀ w', Below w.heap.size w w' -> LF w' pa pn pc va vn vc ba bn bc f) := fun w' hb => C.below hb
 generalize P[v].1 = t at p1 hR
 obtain ⟨W, hW⟩ : ∃ W, W = w.alloc (.cells #[.string s, .slice pa pn pc, .int .i64 r, .slice va vn vc, .slice ba bn bc] 38) := ⟨_, rfl⟩
 rw [<- hW] at A0 hA1
 have c1 := (A0.low.cell (p := ⟨b1, o1 + v * 2, none⟩) l1).trans p1
 have hb1 : b1 < W.heap.size := by have := A0.low.size; omega
 by_cases ht : t < 0
 ·rw [decide_eq_true ht] at hR
  simp only [Bool.true_or] at hR
  subst hR
  have HA : Hid _ := A0
  have ht' : decide (t < 0) = true := decide_eq_true ht
  clear C hP p1 p2 A0 hA1
  go_enter Tryz.func27, Tryz.ntmps27
  go_wp2_with fail
  rw [<- hW]
  clear hW
  go_quiet (fail)
  go_wp2_with fail
  go_ret
  exact ⟨rfl, below_drawn HA.out.low _⟩
 ·rw [decide_eq_false ht] at hR
  simp only [Bool.false_or] at hR
  obtain ⟨T, hT⟩ : ∃ T, T = decide ((k : Int) ∈ woP (waysP f) t) := ⟨_, rfl⟩
  rw [<- hT] at hR
  have HS : Hid (∀ w1, Af1 w (.cells #[.string s, .slice pa pn pc, .int .i64 r, .slice va vn vc, .slice ba bn bc] 38) w1 -> (fun w' : World => w'.cell? ⟨w.heap.size, 0, none⟩ = some (.string s) /\ w'.cell? ⟨w.heap.size, 1, none⟩ = some (.slice pa pn pc) /\ w'.cell? ⟨w.heap.size, 2, none⟩ = some (.int .i64 r) /\ w'.cell? ⟨w.heap.size, 3, none⟩ = some (.slice va vn vc) /\ w'.cell? ⟨w.heap.size, 4, none⟩ = some (.slice ba bn bc) /\ w'.cell? ⟨b1, o1 + v * 2, none⟩ = some (.int .i64 t)) w1) := fun w1 h => ⟨cell_arr h.one rfl, cell_arr h.one rfl, cell_arr h.one rfl, cell_arr h.one rfl, cell_arr h.one rfl, (h.low.cell (p := ⟨b1, o1 + v * 2, none⟩) l1).trans p1⟩
  have S0 := HS.out W.drew (hA1 _ (Below.refl _ _).drew)
  have HME : Hid (Calls Tryz.prog 26 #[.agg #[.string s, .slice pa pn pc, .int .i64 r, .slice va vn vc, .slice ba bn bc], .int .i64 k, .int .i64 t] W.drew fun e w' => e = .returned (.bool T) /\ Below W.drew.heap.size W.drew w') := by
   have := met_any W.drew (s := s) (r := r) (HC.out W.drew (A0.low.drew)) hg hsz k hk t
   rw [<- hT] at this
   exact this
  have HA : Hid (∀ w', Below W.heap.size W w' -> Af1 w (.cells #[.string s, .slice pa pn pc, .int .i64 r, .slice va vn vc, .slice ba bn bc] 38) w') := hA1
  have ht' : decide (t < 0) = false := decide_eq_false ht
  clear C hP p1 p2 c1 hT A0 hA1 ht
  go_enter Tryz.func27, Tryz.ntmps27
  go_wp2_with fail
  rw [<- hW]
  clear hW
  go_region_held (fun w' => w'.cell? ⟨w.heap.size, 0, none⟩ = some (.string s) /\ w'.cell? ⟨w.heap.size, 1, none⟩ = some (.slice pa pn pc) /\ w'.cell? ⟨w.heap.size, 2, none⟩ = some (.int .i64 r) /\ w'.cell? ⟨w.heap.size, 3, none⟩ = some (.slice va vn vc) /\ w'.cell? ⟨w.heap.size, 4, none⟩ = some (.slice ba bn bc) /\ w'.cell? ⟨b1, o1 + v * 2, none⟩ = some (.int .i64 t)) (first | exact S0 | exact S1)
   (first | (go_at_call 26; refine Calls.mono HME.out ?_; rintro e w1 ⟨rfl, hb1⟩; have A1 := HA.out w1 ((Below.refl W.heap.size W).drew.trans hb1); have S1 := HS.out w1 A1))
  all_goals go_wp2_with fail
  all_goals go_ret
  all_goals exact ⟨by rw [<- hR]; try rfl, A1.low⟩
theorem led_firstF {P : Program} {ops : Array Oper} {Q : Exit -> Act -> World -> Prop} {S : World -> Prop} {z i : Nat} {oi : Oper} {v : Value} (hi : ops[i]? = some oi) (hsel : ∀ (j : Nat) (o : Oper) cs b, ops[j]? = some o -> o.op ≠ .select cs b) (hQ : ∀ c a w, Q (.panic c) (a.put oi.dst v) w -> Q (.panic c) a w) (hz : ops.size <= z) :
 ∀ (k : Nat) (l : Array Bool) (a : Act) (w : World), (∀ j oj, ops[j]? = some oj -> j ≠ i -> l.getD j true = false -> (∀ e ∈ oj.after, Region.binds .any e = true -> e.on ≠ i) -> oi.apart ops oj = true) -> i ∈ Region.ready .any ops l -> YieldsIf P ops S oi v a -> S w -> led P ops Q S z k (l.setIfInBounds i true) (a.put oi.dst v) w -> led P ops Q S z (k + 1) l a w := by
 intro k
 induction k with
 | zero =>
   intro l a w _ hr hy hS H
   refine ⟨fun h => absurd hr (by rw [h]; simp), fun j hj => ?_⟩
   by_cases e : j = i
   ·subst e
    exact hy.wpOp hi hS ⟨fun _ => hS, H⟩
   ·have h1 := ready_mono hj e
    rw [H.1] at h1
    simp at h1
 | succ k ih =>
   intro l a w hfree hr hy hS H
   refine ⟨fun h => absurd hr (by rw [h]; simp), fun j hj => ?_⟩
   by_cases e : j = i
   ·subst e
    exact hy.wpOp hi hS ⟨fun _ => hS, H⟩
   ·obtain ⟨hun, oj, hoj, hall⟩ := mem_ready.1 hj
    have hjz : j ≠ z := fun e2 => by have := (gl hoj); omega
    have hno : ∀ e ∈ oj.after, Region.binds .any e = true -> e.on ≠ i := fun x hx hb heq => by
     have h1 := hall x hx hb
     have h0 := (mem_ready.1 hr).1
     rw [heq] at h1
     rcases Nat.lt_or_ge i l.size with h' | h'
     ·simp [h'] at h0 h1; rw [h0] at h1; cases h1
     ·simp [Array.getElem?_eq_none h'] at h1
    have h2 := wpOp_putIf hoj (hfree j oj hoj e hun hno) (fun cs b => hsel i oi cs b hi) (fun cs b => hsel j oj cs b hoj) hQ hy (H.2 j (ready_mono hj e))
    refine wpOp_mono (fun a' w' h3 => ⟨fun _ => h3.2.1 hjz, ih (l.setIfInBounds j true) a' w' ?_ (ready_mono hr (Ne.symm e)) h3.1 (h3.2.1 hjz) ?_⟩) h2
    ·intro m om hm hmi hmun hmno
     refine hfree m om hm hmi ?_ hmno
     by_cases ejm : j = m
     ·subst ejm; exact hun
     ·rw [getD_set_ne true ejm] at hmun; exact hmun
    ·rw [Array.setIfInBounds_comm _ _ e]
     exact h3.2.2
theorem led_takeF {P : Program} {ops : Array Oper} {Q : Exit -> Act -> World -> Prop} {S : World -> Prop} {z i : Nat} {oi : Oper} {v : Value} {k : Nat} {l : Array Bool} {a : Act} {w : World} (hi : ops[i]? = some oi) (hs : Region.noSelect ops = true) (hf : Region.free .any ops l i = true) (hr : (Region.ready .any ops l).contains i = true) (hz : decide (ops.size <= z) = true)
 (hQ : ∀ c a w, Q (.panic c) (a.put oi.dst v) w -> Q (.panic c) a w) (hy : YieldsIf P ops S oi v a) (hS : S w) (h : led P ops Q S z k (l.setIfInBounds i true) (a.put oi.dst v) w) : led P ops Q S z (k + 1) l a w :=
 led_firstF hi (Region.noSelect_spec hs) hQ (of_decide_eq_true hz) k l a w (Region.free_spec hi hf) (by simpa using hr) hy hS h
theorem led_tF {P : Program} {ops : Array Oper} {Q : Exit -> Act -> World -> Prop} {S : World -> Prop} {z i : Nat} {oi : Oper} {v : Value} {k : Nat} {l : Array Bool} {a : Act} {w : World} (hi : ops[i]? = some oi) (hb : (Region.noSelect ops && (Region.free .any ops l i && ((Region.ready .any ops l).contains i && decide (ops.size <= z)))) = true) (hy : YieldsIf P ops S oi v a) (hS : S w) (h : led P ops Q S z k (l.setIfInBounds i true) (a.put oi.dst v) w) (hQ : ∀ c a w, Q (.panic c) (a.put oi.dst v) w -> Q (.panic c) a w := by exact fun _ _ _ h => h) : led P ops Q S z (k + 1) l a w := by
 obtain ⟨h1, hb⟩ := Bool.and_eq_true_iff.1 hb
 obtain ⟨h2, hb⟩ := Bool.and_eq_true_iff.1 hb
 obtain ⟨h3, h4⟩ := Bool.and_eq_true_iff.1 hb
 exact led_takeF hi h1 h2 h3 h4 hQ hy hS h
theorem led_nF {P : Program} {ops : Array Oper} {Q : Exit -> Act -> World -> Prop} {S : World -> Prop} {z : Nat} {oi : Oper} {v : Value} {k : Nat} {l : Array Bool} {a a' : Act} {w : World} (i : Nat) (hS : S w) (h : led P ops Q S z k (l.setIfInBounds i true) a' w) (hi : ops[i]? = some oi := by exact rfl) (hb : (Region.noSelect ops && (Region.free .any ops l i && ((Region.ready .any ops l).contains i && decide (ops.size <= z)))) = true := by kernel_rfl) (hy : YieldsIf P ops S oi v a := by exact .inl ⟨by rfl, by intro w' h; (repeat obtain ⟨_, h⟩ : _ /\ _ := h); go_simp; all_goals with_reducible rfl⟩) (ha : a.put oi.dst v = a' := by (try simp only [Act.put, zi, zz, zs]); exact rfl) (hQ : ∀ c a w, Q (.panic c) (a.put oi.dst v) w -> Q (.panic c) a w := by exact fun _ _ _ h => h) : led P ops Q S z (k + 1) l a w := by
 subst ha
 exact led_tF hi hb hy hS h hQ
end Go.Proofs.YtdbkjjelaipcfaaGreatDoor
