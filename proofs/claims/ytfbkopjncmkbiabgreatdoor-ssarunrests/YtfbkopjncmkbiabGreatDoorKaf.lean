import Derived.Deep.CutRange
import Derived.Deep.RegionHeld3
import Derived.Deep.RegionHeldLaw
import Derived.Test.YtfbkopjncmkbiabGreatDoorKae
set_option linter.unusedVariables false
set_option linter.unusedSimpArgs false
namespace Go.Proofs.YtfbkopjncmkbiabGreatDoor
open Go.ChangeShapes Go.WideShapes Go.ChangeAt Go.RowKit Go.Maps
theorem DR.start {w w1 : World} {fb gd gu gb n : Nat} (hr : FR w1 fb gd gu gb n (door0 n) (fo0 n)) (hlo : ∀ k, FF fb gd gu gb k -> w.heap.size <= k) (hb : Below w.heap.size w w1) :
 DR ((w1.alloc (.cells (madeCells #[.int .i64 0] n) 3)).alloc (.map #[] 0)) w.heap.size fb gd gu gb w1.heap.size (w1.heap.size + 1) n (door0 n) (fo0 n) (List.replicate n 0) (fun _ => []) (fun _ => vn0) 0 := by
 have hs := hb.size
 have old : ∀ k, k < w1.heap.size -> ((w1.alloc (.cells (madeCells #[.int .i64 0] n) 3)).alloc (.map #[] 0)).heap[k]? = w1.heap[k]? := fun k hk => by
  rw [heap_alloc_old _ _ (by simp; omega), heap_alloc_old _ _ hk]
 refine ⟨hr.move fun k hk => old k (hr.lt k hk), ?_, ?_, ⟨.map [], ?_, fun a _ => rfl⟩, fun a => OwnI.nil _ _, fun a b _ g hg => by simp [vn0, Value.ownBlock] at hg, fun a g hg => by simp [vn0, Value.ownBlock] at hg, ?_⟩
 ·rw [heap_alloc_old _ _ (by simp), made_ivs]; exact heap_alloc_new _ _
 ·rintro k (hk | rfl | rfl)
  ·exact hlo k hk
  ·exact hs
  ·omega
 ·have := World.ownsMap_made (w1.alloc (.cells (madeCells #[.int .i64 0] n) 3)) Tryz.prog 3 rawE
  simpa using this
 ·have l1 := hr.lt gd (.inr (.inl rfl))
  have l2 := hr.lt gu (.inr (.inr (.inl rfl)))
  have l3 := hr.lt gb (.inr (.inr (.inr rfl)))
  omega
theorem GI.of_alloc {B : Nat} {w w6 : World} {ob : Obj} {v v' : Value} (hB : B <= w.heap.size) (g : GI B (w.alloc ob).drew w6 v v') : GI B w w6 v v' :=
 ⟨(((Below.refl B w).alloc hB ob).drew).trans g.bel, fun k hk hn => (g.blk k (by show k < (w.alloc ob).heap.size; simp; omega) hn).trans (heap_alloc_old w ob hk), fun k hk => (g.own k hk).imp id (fun h => by have h2 : (w.alloc ob).heap.size <= k := h; simp at h2; omega)⟩
theorem DR.puts {w wr : World} {B fb gd gu gb ov mw n door f over wt val c} (h : DR wr B fb gd gu gb ov mw n door f over wt val c) (hf : FI n door f) (hb : Below B w wr) (hB : B <= wr.heap.size) {d : Int} (hd : Fits d) (hc : c < 1000000000) {x : Nat} (hx : x < n) {w6 : World} {u6 : Value} (h6 : OwnI w6 B u6 ((wt d).length + 1) (wt d ++ [(x : Int)])) (g6 : GI B wr w6 (val d) u6) :
 (w6.cell? ⟨fb, 0, none⟩ = some (.slice (some ⟨gd, 0, none⟩) n n) /\ w6.cell? ⟨gd, x, none⟩ = some (.int .i64 (gn door x))) /\ ∃ w7, (Instr.mapUpdate 179 (.map (some mw)) (.int .i64 d) u6).run Tryz.prog w6 = .ok () w7 /\ DR w7 B fb gd gu gb ov mw n door f over (upd wt d (wt d ++ [(x : Int)])) (upd val d u6) (c + 1) /\ Below B w w7 /\ (w7.cell? ⟨fb, 0, none⟩ = some (.slice (some ⟨gd, 0, none⟩) n n) /\ w7.cell? ⟨gd, x, none⟩ = some (.int .i64 (gn door x))) := by
 obtain ⟨D, d1, d2⟩ := h.mp
 have d6 : w6.ownsMap Tryz.prog 3 rawE mw c D := own_map_moveR d1 (g6.blk mw d1.lt (own_nomap d1 (h.own d)))
 obtain ⟨w7, hr, o7, g7⟩ := d6.update law3 Tryz.underlying179 (by unfold maxLen; omega) (keyOf_int_mk Tryz.underlying3 hd.wf) (val := u6) (d := .held u6) (ps := []) rfl
 have hfb : (val d).ownBlock ≠ some fb := own_not (h.own d).out h.fr.box (by decide)
 have hgd : (val d).ownBlock ≠ some gd := fun e => (h.apart d gd e).1 rfl
 have R := h.put hd h6 g6 d1 d2 o7 g7
 refine ⟨⟨?_, ?_⟩, w7, hr, R, (hb.trans g6.bel).grown g7 (by have := g6.bel.size; omega) (fun k hk => by cases hk; exact h.lo mw (.inr (.inr rfl))), R.fr.boxes.1, R.fr.kd hf hx⟩
 ·exact (World.cell?_of_block (w := wr) (g6.blk fb (h.fr.lt fb (.inl rfl)) hfb)).trans h.fr.boxes.1
 ·exact (World.cell?_of_block (w := wr) (g6.blk gd (h.fr.lt gd (.inr (.inl rfl))) hgd)).trans (h.fr.kd hf hx)
theorem fin1_ok {n k : Nat} {door over : List Int} (hk : k < n) (h1 : over.length = n) (h2 : ∀ i, i < n -> 0 <= gn over i /\ gn over i < n) : (fin1 door k over).length = n /\ ∀ i, i < n -> 0 <= gn (fin1 door k over) i /\ gn (fin1 door k over) i < n := by
 unfold fin1
 split
 ·exact ⟨h1, h2⟩
 ·refine ⟨by simpa using h1, fun i hi => ?_⟩
  rw [gn_set (by rw [h1]; exact hk)]
  split
  ·have := h2 k hk
   exact h2 _ (by omega)
  ·exact h2 i hi
theorem fpass_ok {n : Nat} {door : List Int} : ∀ (k : Nat) (over : List Int), k < n -> over.length = n -> (∀ i, i < n -> 0 <= gn over i /\ gn over i < n) -> (fpass door k over).length = n /\ ∀ i, i < n -> 0 <= gn (fpass door k over) i /\ gn (fpass door k over) i < n
 | 0, _, _, h1, h2 => ⟨h1, h2⟩
 | k + 1, over, hk, h1, h2 => by
   obtain ⟨q1, q2⟩ := fpass_ok k over (by omega) h1 h2
   exact fin1_ok hk q1 q2
structure GH (w wr : World) (B fb gd gu gb ov mw n : Nat) (mt : List Int) (fr : List (List Int)) (k : Nat) (s : St) (val : Int -> Value) (c : Nat) (R : St) : Prop where
 dr : DR wr B fb gd gu gb ov mw n s.door s.f s.over s.wt val c
 di : DI n s (n - 1 - k)
 cc : c <= n - 1 - k
 run : drun mt fr k s = R
 bel : Below B w wr
set_option maxRecDepth 100000 in
set_option maxHeartbeats 8000000 in
theorem dominators_any (w : World) {B0 wb mb v1 v2 bl mt} (H : WKS w B0 wb mb v1 v2 bl mt) (n : Nat) (hnb : n = bl.length) (hlm : mt.length = n) (fo : Option Addr) (c : Nat) (fr : List (List Int)) (hfr : IRow w fo c fr) (hfl : fr.length = n) (hpos : 0 < n) (hn : n <= 1000000) (hsrc : ∀ l ∈ fr, ∀ y ∈ l, 0 <= y /\ y < n) (hmt : ∀ i, 1 <= i -> i < n -> 0 <= gn mt i /\ gn mt i < i) :
 Calls Tryz.prog 136 #[.pointer (some ⟨wb, 0, none⟩), .slice fo n c] w fun e w' => ∃ ov, e = .returned (.slice (some ⟨ov, 0, none⟩) n n) /\ w'.heap[ov]? = some (.cells (ivs (domP mt fr)).toArray 3 (0, 0)) /\ w.heap.size <= ov /\ Below w.heap.size w w' := by
 have hmk := run_make_row' (P := Tryz.prog) 23 3 (.int .i64 0) 8 Tryz.underlying23 info3d rfl .i64 .i64 n (by omega) (by omega)
 have hmm := @run_makeMap Tryz.prog
 have hnf := newForest_any w n (by omega)
 obtain ⟨a1, c1, e1, _, _⟩ := own_slice H.o1.out
 obtain ⟨a2, c2, e2, hc2, _⟩ := own_slice H.o2.out
 rw [<- hnb] at e1
 rw [hlm] at e2 hc2
 subst e1 e2
 have kb : w.cell? ⟨wb, 0, none⟩ = some (.slice a1 n c1) := cell_arr (i := 0) H.box rfl
 have HH : Hid _ := H
 have HFR : Hid _ := hfr
 have HFL : Hid (fr.length = n) := hfl
 have HLM : Hid (mt.length = n) := hlm
 have HSRC : Hid _ := hsrc
 have HMT : Hid _ := hmt
 have hwb : wb < w.heap.size := (H.lt wb (.inl rfl)).2
 clear H hfr hfl hlm hsrc hmt hnb
 go_enter Tryz.func136, Tryz.ntmps136
 go_wp2_with fail
 refine hnf.mono ?_
 rintro e w1 ⟨fb, gd, gu, gb, rfl, hr, hlo, hb⟩
 have S0 := DR.start hr hlo hb
 have hs1 := hb.size
 have HS0 : Hid _ := S0
 have HBB : Hid (Below w.heap.size w ((w1.alloc (.cells (madeCells #[.int .i64 0] n) 3)).alloc (.map #[] 0))) := (hb.alloc hs1 _).alloc (by simp; omega) _
 clear hnf hr hlo hb S0 kb
 go_wp2_with fail
 obtain ⟨w3, hw3⟩ : ∃ w3, w3 = (w1.alloc (.cells (madeCells #[.int .i64 0] n) 3)).alloc (.map #[] 0) := ⟨_, rfl⟩
 obtain ⟨ov, hov⟩ : ∃ ov, ov = w1.heap.size := ⟨_, rfl⟩
 obtain ⟨B, hB⟩ : ∃ B, B = w.heap.size := ⟨_, rfl⟩
 rw [<- hw3, <- hov, <- hB] at HS0
 rw [<- hw3, <- hB] at HBB
 rw [<- hw3, <- hov]
 have HB0 : Hid (B = w.heap.size) := hB
 have hst : GH w w3 B fb gd gu gb ov (ov + 1) n mt fr (n - 1) (st0 n) (fun _ => vn0) 0 (drun mt fr (n - 1) (st0 n)) := by
  refine ⟨HS0.out, ⟨FI.zero n, by simp [st0], fun i hi => ?_, fun a x hx => by simp [st0] at hx, fun a => by simp [st0]⟩, by omega, rfl, HBB.out⟩
  rw [gn_at (by simpa [st0] using hi)]; simp [st0]; omega
 have HST : Hid _ := hst
 obtain ⟨R, hR⟩ : ∃ R, R = drun mt fr (n - 1) (st0 n) := ⟨_, rfl⟩
 rw [<- hR] at HST
 have HR : Hid (R = drun mt fr (n - 1) (st0 n)) := hR
 clear hw3 hov hB hmk hmm hst hR HBB HS0 hs1
 go_loopg [9] (n - 1) (fun q v wr => ∃ (s : St) (val : Int -> Value) (c : Nat), q < n /\ v = .int .i64 (q : Int) /\ Hid (GH w wr B fb gd gu gb ov (ov + 1) n mt fr q s val c R))
 case atStart => exact ⟨st0 n, _, 0, by omega, by first | rfl | go_num, HST.out⟩
 case round =>
  clear HST
  obtain ⟨s, val, c, hq, rfl, HG⟩ := hrel
  cases gk with
  | zero =>
    have hsR : s = R := by have := HG.out.run; rw [drun] at this; exact this
    subst hsR
    have HD0 : Hid _ := HG.out.dr
    have HI0 : Hid _ := HG.out.di
    have HB00 : Hid _ := HG.out.bel
    have HRR : Hid (domP mt fr = fpass s.door (n - 1) s.over) := by show _ = _; unfold domP; rw [HLM.out, <- HR.out]
    clear HG
    go_wp2_with fail
    go_loopw [15] (fun v wr' => ∃ k : Nat, k < n /\ v = .int .i64 ((k : Int) + 1) /\ Hid (DR wr' B fb gd gu gb ov (ov + 1) n s.door s.f (fpass s.door k s.over) s.wt val c) /\ Hid (Below B w wr')) (fun v _ => n - (intOf v).toNat)
    case atStart => exact ⟨0, hpos, by first | rfl | go_num, HD0.out, HB00.out⟩
    case round =>
     clear HD0 HB00
     obtain ⟨k, hk, rfl, HD, HB⟩ := hrel
     by_cases hlt : k + 1 < n
     ·obtain ⟨x, hx⟩ : ∃ x, x = k + 1 := ⟨_, rfl⟩
      have hxi : ((k : Int) + 1) = (x : Int) := by omega
      rw [hxi]
      have hxn : x < n := by omega
      obtain ⟨q1, q2⟩ := fpass_ok (door := s.door) k s.over (by omega) HI0.out.lo HI0.out.orn
      have hnx : fpass s.door (k + 1) s.over = fin1 s.door x (fpass s.door k s.over) := by rw [fpass, hx]
      have HD' := HD.out
      obtain ⟨over, hov⟩ : ∃ over, over = fpass s.door k s.over := ⟨_, rfl⟩
      rw [<- hov] at q1 q2 hnx HD'
      obtain ⟨o, ho⟩ : ∃ o : Nat, gn over x = (o : Int) := ⟨(gn over x).toNat, by have := (q2 x hxn).1; omega⟩
      have hon : o < n := by have := (q2 x hxn).2; omega
      obtain ⟨d, hd⟩ : ∃ d, d = gn s.door x := ⟨_, rfl⟩
      obtain ⟨p, hp⟩ : ∃ p, p = gn over o := ⟨_, rfl⟩
      obtain ⟨c0, _, _⟩ := HD'.fr.boxes
      have kd := HD'.fr.kd HI0.out.fi hxn
      rw [<- hd] at kd
      have ko : wr.cell? ⟨ov, x, none⟩ = some (.int .i64 (o : Int)) := by rw [<- ho]; exact cell_arr HD'.ovr (ivs_at (by rw [q1]; exact hxn))
      have kp : wr.cell? ⟨ov, o, none⟩ = some (.int .i64 p) := by rw [hp]; exact cell_arr HD'.ovr (ivs_at (by rw [q1]; exact hon))
      have fo0 : wr.frozen? ⟨ov, x, none⟩ = false := fz_of HD'.ovr
      have i1 : (0 : Int) <= (x : Int) := by omega
      have i2 : (x : Int) < (n : Int) := by omega
      have i3 : (0 : Int) <= (o : Int) := by omega
      have i4 : (o : Int) < (n : Int) := by omega
      by_cases hod : (o : Int) = d
      ·have HNX : Hid (fpass s.door (k + 1) s.over = over) := by show _ = _; rw [hnx]; unfold fin1; rw [if_pos (by rw [ho, hod, hd])]
       have HDD : Hid (DR wr B fb gd gu gb ov (ov + 1) n s.door s.f over s.wt val c) := HD'
       have HXX : Hid (x = k + 1) := hx
       clear hx hxi q1 q2 hnx HD' hov ho hd hp kp
       subst hod
       go_wp2_with fail
       go_quiet (fail)
       go_wp2_with fail
       go_roundw
       case rel => exact ⟨k + 1, by omega, by have := HXX.out; subst this; go_num, by rw [HNX.out]; exact HDD.out.drewN nq, below_drewN HB.out nq⟩
       case measure => simp [intOf]; have := HXX.out; omega
      ·have HNX : Hid (fpass s.door (k + 1) s.over = over.set x p) := by show _ = _; rw [hnx]; unfold fin1; rw [if_neg (by rw [ho, <- hd]; exact hod), ho, Int.toNat_natCast, <- hp]
       have HDD : Hid (DR wr B fb gd gu gb ov (ov + 1) n s.door s.f over s.wt val c) := HD'
       have HXX : Hid (x = k + 1) := hx
       clear hx hxi q1 q2 hnx HD' hov ho hd hp
       go_wp2_with fail
       go_quiet (fail)
       have R4 := HDD.out.drewN nq
       have c4 : ∀ i z, wr.cell? ⟨ov, i, none⟩ = some z -> (wr.drewN nq).cell? ⟨ov, i, none⟩ = some z := fun i z h => by rw [World.cell?_of_block (w := wr) (drewN_at wr nq ov (HDD.out.lt ov (.inr (.inl rfl))).1)]; exact h
       have ko4 := c4 x _ ko
       have kp4 := c4 o _ kp
       have f4 : (wr.drewN nq).frozen? ⟨ov, x, none⟩ = false := fz_of R4.ovr
       have B4 := below_drewN HB.out nq
       obtain ⟨w4, hw4⟩ : ∃ w4, w4 = wr.drewN nq := ⟨_, rfl⟩
       rw [<- hw4] at R4 ko4 kp4 f4 B4 ⊢
       have HR4 := show Hid _ from R4.over x p
       have HB4 := show Hid (Below B w (w4.setCell ⟨ov, x, none⟩ (.int .i64 p))) from B4.setCell (R4.lo ov (.inr (.inl rfl))) (.int .i64 p)
       clear hw4 R4 B4 c4 ko kp kd c0 fo0
       go_wp2_with fail
       go_roundw
       case rel => exact ⟨k + 1, by omega, by have := HXX.out; subst this; go_num, by rw [HNX.out]; exact HR4.out, HB4.out⟩
       case measure => simp [intOf]; have := HXX.out; omega
     ·have hkn : k = n - 1 := by omega
      have hxi : ((k : Int) + 1) = (n : Int) := by omega
      rw [hxi]
      go_wp2_with fail
      go_ret
      refine ⟨ov, rfl, ?_, by rw [<- HB0.out]; exact HD.out.lo ov (.inr (.inl rfl)), by rw [<- HB0.out]; exact HB.out⟩
      rw [HRR.out, <- hkn]
      exact HD.out.ovr
  | succ k =>
    obtain ⟨x, hx⟩ : ∃ x, x = k + 1 := ⟨_, rfl⟩
    rw [<- hx] at hq HG ⊢
    have hxf : x < fr.length := by have := HFL.out; omega
    obtain ⟨b2, o2, ar, cr, rfl, kr, hIr⟩ := HFR.out.at hxf
    have kr2 := (HG.out.bel.cell (p := ⟨b2, o2 + x, none⟩) (by have := block_lt_of_cell kr; have := HB0.out; omega)).trans kr
    obtain ⟨src, hsr⟩ : ∃ src, src = fr[x] := ⟨_, rfl⟩
    rw [<- hsr] at kr2 hIr
    have hsg : fr.getD x [] = src := by rw [hsr]; simp [hxf]
    have hsy : ∀ y ∈ src, 0 <= y /\ y < n := by rw [hsr]; exact HSRC.out _ (List.getElem_mem hxf)
    obtain ⟨rl, hrl⟩ : ∃ rl, rl = src.length := ⟨_, rfl⟩
    have hrm : rl <= 9223372036854775807 := by have := hIr.le; have := hIr.mx; omega
    rw [<- hrl] at kr2
    have HSG : Hid (fr.getD x [] = src) := hsg
    have HSY : Hid _ := hsy
    have HRL : Hid (rl = src.length) := hrl
    have HIR : Hid _ := hIr
    have HX : Hid (x = k + 1) := hx
    have hx0 : 0 < x := by omega
    clear hx kr hsr hsg hsy hrl hIr
    go_wp2_with fail
    go_loopw [37] (fun v wr' => ∃ j : Nat, j <= rl /\ v = .int .i64 j /\ Hid (DR wr' B fb gd gu gb ov (ov + 1) n (dIn x (src.take j) (s.door, s.f)).1 (dIn x (src.take j) (s.door, s.f)).2 s.over s.wt val c) /\ Hid (Below B w wr')) (fun v _ => rl - (intOf v).toNat)
    case atStart => exact ⟨0, by omega, rfl, HG.out.dr, HG.out.bel⟩
    case round =>
     clear kr2
     obtain ⟨j, hj, rfl, HD, HB⟩ := hrel
     have hBs : w.heap.size <= B := by have := HB0.out; omega
     by_cases hjl : j < rl
     ·have hjs : j < src.length := by have := HRL.out; omega
      obtain ⟨b3, o3, rfl, ky⟩ := (HIR.out.below HB.out hBs).at hjs
      have hyr := HSY.out src[j] (List.getElem_mem hjs)
      obtain ⟨y, hy⟩ : ∃ y : Nat, src[j] = (y : Int) := ⟨(src[j]).toNat, by omega⟩
      rw [hy] at ky
      have hyn : y < n := by omega
      have hfi := dIn_fi hq (src.take j) (fun z hz => HSY.out z (List.mem_of_mem_take hz)) HG.out.di.fi
      have hnext := dIn_take x src (s.door, s.f) hjs
      rw [hy, Int.toNat_natCast] at hnext
      have HD' := HD.out
      obtain ⟨dd, hdd⟩ : ∃ dd, dd = dIn x (src.take j) (s.door, s.f) := ⟨_, rfl⟩
      rw [<- hdd] at hfi hnext HD'
      obtain ⟨door, f⟩ := dd
      simp only at hfi hnext HD'
      obtain ⟨q1, q2, q3⟩ := hfi.lst hyn
      have hcall := least_any wr.drew HD'.fr.drew hfi (by omega) y hyn
      obtain ⟨r, hr⟩ : ∃ r, r = lst door f y := ⟨_, rfl⟩
      rw [<- hr] at hnext q1 q2 q3 hcall
      obtain ⟨r1, f2⟩ := r
      simp only at hnext q1 q2 q3 hcall
      obtain ⟨dx, hdx⟩ : ∃ dx, dx = gn door x := ⟨_, rfl⟩
      obtain ⟨dr, hdr⟩ : ∃ dr, dr = gn door r1 := ⟨_, rfl⟩
      rw [<- hdx, <- hdr] at hnext
      obtain ⟨c0, _, _⟩ := HD'.fr.boxes
      have kx := HD'.fr.kd hfi hq
      rw [<- hdx] at kx
      have HFI : Hid _ := hfi
      have HDD : Hid _ := HD'
      have HNX : Hid _ := hnext
      have HQ1 : Hid _ := q1
      have HDX : Hid (dx = gn door x) := hdx
      have HDRR : Hid (dr = gn door r1) := hdr
      clear hyr hy hfi hnext HD' hr hdd q1 q3 hdx hdr
      go_wp2_with fail
      have i1 : (0 : Int) <= (x : Int) := by omega
      have i2 : (x : Int) < (n : Int) := by omega
      have i3 : (0 : Int) <= (r1 : Int) := by omega
      have i4 : (r1 : Int) < (n : Int) := by omega
      have R11 : Hid (∀ w5 : World, FR w5 fb gd gu gb n door f2 -> Only (fun k => k = gu \/ k = gb) wr.drew w5 -> DR (w5.setCell ⟨gd, x, none⟩ (.int .i64 (if dr < dx then dr else dx))) B fb gd gu gb ov (ov + 1) n (dIn x (src.take (j + 1)) (s.door, s.f)).1 (dIn x (src.take (j + 1)) (s.door, s.f)).2 s.over s.wt val c /\ Below B w (w5.setCell ⟨gd, x, none⟩ (.int .i64 (if dr < dx then dr else dx)))) := by
       intro w5 r5 o5
       rw [HNX.out]
       have hmin : (if dr < dx then dr else dx) = min dx dr := by simp only [Int.min_def]; split <;> split <;> omega
       rw [hmin]
       have o5' : ∀ k, k < wr.heap.size -> k ≠ gd -> k ≠ gu -> k ≠ gb -> (w5.setCell ⟨gd, x, none⟩ (.int .i64 (min dx dr))).heap[k]? = wr.heap[k]? := fun k hk h1 h2 h3 =>
        (heap_set_other h1).trans (o5.block k hk (by rintro (e | e); exact h2 e; exact h3 e))
       refine ⟨HDD.out.forest (r5.setD x (min dx dr)) o5', ?_⟩
       have hlo := HDD.out.lo
       have b5 : Below B w w5 := HB.out.drew.trans (o5.below (by have := HB.out.size; have := HB0.out; show B <= wr.heap.size; omega) (by
        rintro k (rfl | rfl)
        ·exact hlo _ (.inl (.inr (.inr (.inl rfl))))
        ·exact hlo _ (.inl (.inr (.inr (.inr rfl))))))
       exact b5.setCell (hlo gd (.inl (.inr (.inl rfl)))) _
      have kr1 : wr.cell? ⟨gd, r1, none⟩ = some (.int .i64 dr) := by rw [HDRR.out]; exact HDD.out.fr.kd HFI.out q2
      have hS : (fun w' : World => w'.cell? ⟨fb, 0, none⟩ = some (.slice (some ⟨gd, 0, none⟩) n n) /\ w'.cell? ⟨gd, x, none⟩ = some (.int .i64 dx) /\ w'.cell? ⟨gd, r1, none⟩ = some (.int .i64 dr)) wr.drew := ⟨cellD c0, cellD kx, cellD kr1⟩
      clear c0 kx kr1
      refine led_start (S := fun w' : World => w'.cell? ⟨fb, 0, none⟩ = some (.slice (some ⟨gd, 0, none⟩) n n) /\ w'.cell? ⟨gd, x, none⟩ = some (.int .i64 dx) /\ w'.cell? ⟨gd, r1, none⟩ = some (.int .i64 dr)) (z := 23) (by kernel_rfl) ?_
      refine led_n 0 hS ?_
      refine led_n 1 hS ?_
      refine led_n 2 hS ?_
      refine led_n 3 hS ?_
      refine led_n 4 hS ?_
      refine led_n 5 hS ?_
      refine led_n 6 hS ?_
      refine led_n 7 hS ?_
      refine led_n 8 hS ?_
      refine led_n 9 hS ?_
      refine led_n 10 hS ?_
      refine led_n 11 hS ?_
      refine led_n 12 hS ?_
      refine led_n 13 hS ?_
      refine led_n 14 hS ?_
      refine led_n 15 hS ?_
      refine led_n 16 hS ?_
      refine led_n 17 hS ?_
      refine led_one (i := 18) rfl (by kernel_rfl) ?_
      intro K' hK
      rw [if_pos (by rfl)]
      go_simp
      refine hcall.mono ?_
      rintro e w5 ⟨rfl, R5, B5⟩
      have kx5 := R5.kd HQ1.out hq
      have kr5 := R5.kd HQ1.out q2
      rw [<- HDX.out] at kx5
      rw [<- HDRR.out] at kr5
      have hS5 : (fun w' : World => w'.cell? ⟨fb, 0, none⟩ = some (.slice (some ⟨gd, 0, none⟩) n n) /\ w'.cell? ⟨gd, x, none⟩ = some (.int .i64 dx) /\ w'.cell? ⟨gd, r1, none⟩ = some (.int .i64 dr)) w5 := ⟨R5.boxes.1, kx5, kr5⟩
      have fz5 : w5.frozen? ⟨gd, x, none⟩ = false := fz_of R5.d
      obtain ⟨e1, e2⟩ := R11.out w5 R5 B5
      have HE1 := show Hid _ from e1
      have HE2 := show Hid _ from e2
      clear e1 e2 R11 hcall R5 B5 hS
      refine hK _ _ (fun _ => hS5) ?_
      clear hK
      refine led_n 19 hS5 ?_
      refine led_n 20 hS5 ?_
      refine led_n 21 hS5 ?_
      refine led_n 22 hS5 ?_
      refine led_one (i := 23) rfl (by kernel_rfl) ?_
      intro K2 hK2
      rw [if_pos (by rfl)]
      go_simp
      refine hK2 _ _ (fun h => absurd rfl h) ?_
      clear hK2 hS5 kx5 kr5 fz5
      refine led_done (by kernel_rfl) ?_
      go_wp2_with fail
      go_roundw
      case rel => exact ⟨j + 1, by omega, by go_num, HE1.out, HE2.out⟩
      case measure => simp [intOf]; omega
     ·have hjr : j = rl := by omega
      subst hjr
      have HD' := HD.out
      rw [List.take_of_length_le (by have := HRL.out; omega), <- HSG.out] at HD'
      have hfi := dIn_fi hq (fr.getD x []) (by rw [HSG.out]; exact HSY.out) HG.out.di.fi
      obtain ⟨dd, hdd⟩ : ∃ dd, dd = dIn x (fr.getD x []) (s.door, s.f) := ⟨_, rfl⟩
      rw [<- hdd] at hfi HD'
      have HDDD : Hid (dd = dIn x (fr.getD x []) (s.door, s.f)) := hdd
      obtain ⟨door, f⟩ := dd
      simp only at hfi HD'
      obtain ⟨d, hd⟩ : ∃ d, d = gn door x := ⟨_, rfl⟩
      have hdr := hfi.dr x hq
      rw [<- hd] at hdr
      have fd : Fits d := by unfold Fits; omega
      obtain ⟨c0, _, _⟩ := HD'.fr.boxes
      have kx := HD'.fr.kd hfi hq
      rw [<- hd] at kx
      have i1 : (0 : Int) <= (x : Int) := by omega
      have i2 : (x : Int) < (n : Int) := by omega
      have HDD : Hid _ := HD'
      have HFI : Hid _ := hfi
      have HDE : Hid (d = gn door x) := hd
      have hlook := HD'.drewN 1 |>.look fd
      obtain ⟨D, d1, d2⟩ := HD'.mp
      obtain ⟨av, cv, ev, _, _⟩ := own_slice (HD'.own d).out
      have hlook2 : ∀ ob : Obj, (Instr.lookup 179 (.map (some (ov + 1))) (.int .i64 d) false).run Tryz.prog (wr.alloc ob).drew = .ok (val d) (wr.alloc ob).drew := fun ob => (HD'.move (w' := (wr.alloc ob).drew) (fun k hk => heap_alloc_old wr ob (HD'.lt k hk).1)).look fd
      have hlook' : (Instr.lookup 179 (.map (some (ov + 1))) (.int .i64 d) false).run Tryz.prog wr.drew = .ok (.slice av (s.wt d).length cv) wr.drew := by rw [<- ev]; exact hlook
      rw [ev] at hlook2
      have hcl : c < 1000000000 := by have := HG.out.cc; omega
      have hwl : (s.wt d).length + 1 <= 17592186044416 := by have := HG.out.di.wl d; omega
      obtain ⟨sl, hsl⟩ : ∃ sl, sl = (s.wt d).length := ⟨_, rfl⟩
      have OP : OwnI wr B (.slice av sl cv) sl (s.wt d) := by have := HD'.own d; rw [ev, <- hsl] at this; exact this
      rw [<- hsl] at hlook' hlook2 hwl
      have hsB : B <= wr.heap.size := by have := HB.out.size; have := HB0.out; omega
      have HOP : Hid _ := OP
      have HSL : Hid (sl = (s.wt d).length) := hsl
      have HEV : Hid (val d = .slice av (s.wt d).length cv) := ev
      have PUT : Hid (∀ (w6 : World) (u6 : Value), OwnI w6 B u6 (sl + 1) (s.wt d ++ [(x : Int)]) -> ∀ ob, GI B (wr.alloc ob).drew w6 (.slice av sl cv) u6 -> (w6.cell? ⟨fb, 0, none⟩ = some (.slice (some ⟨gd, 0, none⟩) n n) /\ w6.cell? ⟨gd, x, none⟩ = some (.int .i64 d)) /\ ∃ w7, (Instr.mapUpdate 179 (.map (some (ov + 1))) (.int .i64 d) u6).run Tryz.prog w6 = .ok () w7 /\ DR w7 B fb gd gu gb ov (ov + 1) n door f s.over (upd s.wt d (s.wt d ++ [(x : Int)])) (upd val d u6) (c + 1) /\ Below B w w7 /\ (w7.cell? ⟨fb, 0, none⟩ = some (.slice (some ⟨gd, 0, none⟩) n n) /\ w7.cell? ⟨gd, x, none⟩ = some (.int .i64 d))) := by
       intro w6 u6 h6 ob g6
       have := HDD.out.puts HFI.out HB.out hsB fd hcl hq (w6 := w6) (u6 := u6) (by rw [<- HSL.out]; exact h6) (by rw [HEV.out, <- HSL.out]; exact GI.of_alloc hsB g6)
       rw [<- HDE.out] at this
       exact this
      clear HD HD' hdd hfi hd hlook ev hsl OP d1 d2
      go_wp2_with fail
      go_cut [] from 28 to 116 (fun wc => ∃ u6 : Value, Hid (DR wc B fb gd gu gb ov (ov + 1) n door f s.over (upd s.wt d (s.wt d ++ [(x : Int)])) (upd val d u6) (c + 1)) /\ Hid (Below B w wc))
      case first =>
       go_region_held_law (fun w' => w'.cell? ⟨fb, 0, none⟩ = some (.slice (some ⟨gd, 0, none⟩) n n) /\ w'.cell? ⟨gd, x, none⟩ = some (.int .i64 d))
        (first | exact ⟨cellD c0, cellD kx⟩ | exact ⟨cellD (cellA c0), cellD (cellA kx)⟩ | exact ⟨c06, kx6⟩ | exact ⟨c07, kx7⟩)
        (first | (refine step_append_intG rfl _ _ rfl B _ sl (s.wt d) (x : Int) (by simp [Act.eval]) (HOP.out.keep ((Below.refl _ _).alloc (Nat.le_refl _) _).drew) wr.heap.size (by simp [Act.eval]) (by simp) hwl (by first | omega | (simp; done) | (simp; omega)) ?_; intro u6 w6 h6 hG6; obtain ⟨⟨c06, kx6⟩, w7, hrun7, R7, B7, c07, kx7⟩ := PUT.out w6 u6 h6 _ hG6; have HR7 := show Hid _ from R7; have HB7 := show Hid _ from B7; obtain ⟨a6, b6, e6, _, _⟩ := own_slice h6.out; subst e6; clear R7 B7 h6 hG6))
       all_goals
        go_wp2_with fail
        go_meet
        case rel => exact ⟨_, HR7.out, HB7.out⟩
      case rest =>
       clear hlook' hlook2 c0 kx
       obtain ⟨u6, HR13, HB13⟩ := hcut
       have hmx := HMT.out x hx0 hq
       obtain ⟨a, ha⟩ : ∃ a : Nat, gn mt x = (a : Int) := ⟨(gn mt x).toNat, by omega⟩
       have han : a < n := by omega
       have hax : a < x := by omega
       have WK := HH.out.move (w' := wc) fun g hg => HB13.out.block g (by have := (HH.out.lt g hg).2; have := HB0.out; omega)
       have kb2 : wc.cell? ⟨wb, 2, none⟩ = some (.slice a2 n c2) := cell_arr (i := 2) WK.box rfl
       have O2 : OwnI wc B0 (.slice a2 n c2) n mt := by have h9 := WK.o2; rw [HLM.out] at h9; exact h9
       obtain ⟨a2', c2', e2, hI2⟩ := O2.ints
       cases e2
       obtain ⟨b4, o4, rfl, km⟩ := hI2.at (j := x) (by have := HLM.out; omega)
       have hmg : mt[x]'(by have := HLM.out; omega) = (a : Int) := by rw [<- ha, gn_at (by have := HLM.out; omega)]
       rw [hmg] at km
       obtain ⟨_, c1', _⟩ := HR13.out.fr.boxes
       have ku := HR13.out.fr.ku HFI.out hq
       obtain ⟨zu, hzu⟩ : ∃ zu, zu = gn f.up x := ⟨_, rfl⟩
       rw [<- hzu] at ku
       have fu : wc.frozen? ⟨gu, x, none⟩ = false := fz_of HR13.out.fr.u
       obtain ⟨w15, hw15⟩ : ∃ w15, w15 = wc.setCell ⟨gu, x, none⟩ (.int .i64 (a : Int)) := ⟨_, rfl⟩
       have R15 : DR w15 B fb gd gu gb ov (ov + 1) n door ⟨f.up.set x (a : Int), f.best⟩ s.over (upd s.wt d (s.wt d ++ [(x : Int)])) (upd val d u6) (c + 1) := by
        rw [hw15]
        exact HR13.out.forest (HR13.out.fr.setU x (a : Int)) (fun k hk h1 h2 h3 => heap_set_other h2)
       have B15 : Below B w w15 := by rw [hw15]; exact HB13.out.setCell (HR13.out.lo gu (.inl (.inr (.inr (.inl rfl))))) _
       have F15 : FI n door ⟨f.up.set x (a : Int), f.best⟩ := HFI.out.hang hq (by omega) (by omega)
       have fa : Fits (a : Int) := by unfold Fits; omega
       have hlk := R15.look fa
       obtain ⟨wt1, hwt1⟩ : ∃ wt1, wt1 = upd s.wt d (s.wt d ++ [(x : Int)]) := ⟨_, rfl⟩
       obtain ⟨val1, hval1⟩ : ∃ val1, val1 = upd val d u6 := ⟨_, rfl⟩
       rw [<- hwt1, <- hval1] at R15
       rw [<- hval1] at hlk
       obtain ⟨av1, cv1, ev1, _, _⟩ := own_slice (R15.own (a : Int)).out
       obtain ⟨l, hl⟩ : ∃ l, l = wt1 (a : Int) := ⟨_, rfl⟩
       rw [<- hl] at ev1
       obtain ⟨m, hm⟩ : ∃ m, m = l.length := ⟨_, rfl⟩
       rw [ev1, <- hm] at hlk
       have hlr : ∀ y ∈ l, 0 <= y /\ y < n := by
        intro y hy
        rw [hl, hwt1] at hy
        unfold upd at hy
        split at hy
        ·rcases List.mem_append.1 hy with h | h
         ·exact HG.out.di.wr d y h
         ·simp at h; omega
        ·exact HG.out.di.wr _ y hy
       have hml : m <= 9223372036854775807 := by
        have h1 : m <= n := by
         rw [hm, hl, hwt1]
         have := HG.out.di.wl d
         have := HG.out.di.wl (a : Int)
         unfold upd
         split
         ·simp; omega
         ·omega
        omega
       have HR15 : Hid _ := R15
       have HB15 : Hid _ := B15
       have HF15 : Hid _ := F15
       have HW15 : Hid (w15 = wc.setCell ⟨gu, x, none⟩ (.int .i64 (a : Int))) := hw15
       have HWT : Hid (wt1 = upd s.wt d (s.wt d ++ [(x : Int)])) := hwt1
       have HL : Hid (l = wt1 (a : Int)) := hl
       have HM : Hid (m = l.length) := hm
       have HEV1 : Hid (val1 (a : Int) = .slice av1 l.length cv1) := ev1
       have HA : Hid (gn mt x = (a : Int)) := ha
       have HLR : Hid _ := hlr
       rw [hw15] at hlk
       clear O2 WK hI2 hmg hzu hw15 R15 B15 F15 hwt1 hval1 ev1 hl hm hlr ha hmx
       go_wp2_with fail
       rw [<- HW15.out]
       clear hlk km kb2 ku fu c1'
       go_loopw [103] (fun v wr' => ∃ j : Nat, j <= m /\ v = .int .i64 j /\ Hid (DR wr' B fb gd gu gb ov (ov + 1) n door (dOv door a (l.take j) (s.over, ⟨f.up.set x (a : Int), f.best⟩)).2 (dOv door a (l.take j) (s.over, ⟨f.up.set x (a : Int), f.best⟩)).1 wt1 val1 (c + 1)) /\ Hid (Below B w wr')) (fun v _ => m - (intOf v).toNat)
       case atStart => exact ⟨0, by omega, rfl, HR15.out, HB15.out⟩
       case round =>
        clear HR15 HB15
        obtain ⟨j, hj, rfl, HD3, HB3⟩ := hrel
        by_cases hjm : j < m
        ·have hjl : j < l.length := by have := HM.out; omega
         have OW : OwnI wr B (.slice av1 m cv1) m l := by
          have h9 := HD3.out.own (a : Int)
          rw [HEV1.out, <- HL.out, <- HM.out] at h9
          exact h9
         obtain ⟨ao9, co9, e9, hI9⟩ := OW.ints
         cases e9
         obtain ⟨b9, o9, rfl, ky⟩ := hI9.at hjl
         have hyr := HLR.out l[j] (List.getElem_mem hjl)
         obtain ⟨y, hy⟩ : ∃ y : Nat, l[j] = (y : Int) := ⟨(l[j]).toNat, by omega⟩
         rw [hy] at ky
         have hyn : y < n := by omega
         obtain ⟨g1, g2, g3⟩ := dOv_ok (n := n) han (l.take j) (s.over, ⟨f.up.set x (a : Int), f.best⟩) (fun z hz => HLR.out z (List.mem_of_mem_take hz)) HF15.out HG.out.di.lo HG.out.di.orn
         have hnext := dOv_take door a l (s.over, ⟨f.up.set x (a : Int), f.best⟩) hjl
         rw [hy, Int.toNat_natCast] at hnext
         have HD' := HD3.out
         obtain ⟨oo, hoo⟩ : ∃ oo, oo = dOv door a (l.take j) (s.over, ⟨f.up.set x (a : Int), f.best⟩) := ⟨_, rfl⟩
         rw [<- hoo] at g1 g2 g3 hnext HD'
         obtain ⟨over, F⟩ := oo
         simp only at g1 g2 g3 hnext HD'
         have hcall := leastBelow_any wr HD'.fr g1 (by omega) y a hyn
         obtain ⟨r, hr⟩ : ∃ r, r = lbw door F y a := ⟨_, rfl⟩
         rw [<- hr] at hnext hcall
         obtain ⟨r1, F2⟩ := r
         simp only at hnext hcall
         have STEP : Hid (∀ w5 : World, FR w5 fb gd gu gb n door F2 -> Only (fun k => k = gu \/ k = gb) wr w5 -> (w5.cell? ⟨ov, y, none⟩ = some (.int .i64 (gn over y)) /\ w5.frozen? ⟨ov, y, none⟩ = false) /\ DR (w5.setCell ⟨ov, y, none⟩ (.int .i64 (r1 : Int))) B fb gd gu gb ov (ov + 1) n door (dOv door a (l.take (j + 1)) (s.over, ⟨f.up.set x (a : Int), f.best⟩)).2 (dOv door a (l.take (j + 1)) (s.over, ⟨f.up.set x (a : Int), f.best⟩)).1 wt1 val1 (c + 1) /\ Below B w (w5.setCell ⟨ov, y, none⟩ (.int .i64 (r1 : Int)))) := by
          intro w5 r5 o5
          rw [hnext]
          have R6 := HD'.forest r5 (fun k hk _ h2 h3 => o5.block k hk (by rintro (e | e); exact h2 e; exact h3 e))
          have b5 : Below B w w5 := HB3.out.trans (o5.below (by have := HB3.out.size; have := HB0.out; omega) (by
           rintro k (rfl | rfl)
           ·exact HD'.lo _ (.inl (.inr (.inr (.inl rfl))))
           ·exact HD'.lo _ (.inl (.inr (.inr (.inr rfl))))))
          exact ⟨⟨cell_arr R6.ovr (ivs_at (by rw [g2]; exact hyn)), fz_of R6.ovr⟩, R6.over y (r1 : Int), b5.setCell (HD'.lo ov (.inr (.inl rfl))) _⟩
         clear OW hI9 hyr hy g1 g2 g3 hnext HD' hoo hr
         go_wp2_with fail
         refine hcall.mono ?_
         rintro e w5 ⟨rfl, R5, B5⟩
         obtain ⟨⟨ko5, fo5⟩, e1, e2⟩ := STEP.out w5 R5 B5
         have HE1 := show Hid _ from e1
         have HE2 := show Hid _ from e2
         clear e1 e2 STEP hcall R5 B5 ky
         go_wp2_with fail
         go_roundw
         case rel => exact ⟨j + 1, by omega, by go_num, HE1.out, HE2.out⟩
         case measure => simp [intOf]; omega
        ·have hjm' : j = m := by omega
         subst hjm'
         have HD' := HD3.out
         rw [List.take_of_length_le (by have := HM.out; omega)] at HD'
         obtain ⟨g1, g2, g3⟩ := dOv_ok (n := n) han l (s.over, ⟨f.up.set x (a : Int), f.best⟩) HLR.out HF15.out HG.out.di.lo HG.out.di.orn
         obtain ⟨D9, d19, d29⟩ := HD'.mp
         have hkey9 := keyOf_int_mk Tryz.underlying3 fa.wf
         have hds : dstep mt fr x s = ⟨door, (dOv door a l (s.over, ⟨f.up.set x (a : Int), f.best⟩)).2, (dOv door a l (s.over, ⟨f.up.set x (a : Int), f.best⟩)).1, upd wt1 (a : Int) []⟩ := by
          unfold dstep
          rw [<- HDDD.out]
          simp only
          rw [HA.out, Int.toNat_natCast, <- HDE.out, <- HWT.out, <- HL.out]
         have FIN9 : Hid (∀ w9 : World, w9.ownsMap Tryz.prog 3 rawE (ov + 1) (c + 1) (D9.del (.int .i64 (a : Int))) -> wr.grownBy w9 (some (ov + 1)) -> GH w w9 B fb gd gu gb ov (ov + 1) n mt fr k (dstep mt fr x s) (upd val1 (a : Int) vn0) (c + 1) R) := by
          intro w9 o9 gr9
          rw [hds]
          have hcc := HG.out.cc
          have hxk := HX.out
          refine ⟨HD'.del d19 d29 o9 gr9, ⟨g1, g2, g3, fun b y hy => ?_, fun b => ?_⟩, by omega, ?_, HB3.out.grown gr9 (by have := HB3.out.size; have := HB0.out; omega) (fun k hk => by cases hk; exact HD'.lo _ (.inr (.inr rfl)))⟩
          ·simp only at hy
           unfold upd at hy
           split at hy
           ·simp at hy
           ·rw [HWT.out] at hy
            unfold upd at hy
            split at hy
            ·rcases List.mem_append.1 hy with h | h
             ·exact HG.out.di.wr _ y h
             ·simp at h; omega
            ·exact HG.out.di.wr _ y hy
          ·have h1 := HG.out.di.wl b
           have h2 := HG.out.di.wl d
           simp only
           unfold upd
           split
           ·simp
           ·rw [HWT.out]
            unfold upd
            split
            ·simp; omega
            ·omega
          ·have h1 := HG.out.run
           rw [HX.out] at h1
           rw [drun] at h1
           rw [<- hds, HX.out]
           exact h1
         clear HD' g1 g2 g3 d29 hds
         go_wp2_with (first
          | (at_delete; refine wpList_delete_own _ rfl _ _ 179 3 rfl 23 law3 Tryz.underlying179 rawE (ov + 1) (c + 1) D9 rfl d19 _ _ rfl hkey9 ?_; intro w9 own9 turn9
             have h9 := FIN9.out w9 own9 turn9.grown
             have H9 := show Hid _ from h9
             clear h9 own9 turn9)
          | go_in)
         go_roundg k
         case rel => exact ⟨_, _, _, by have := HX.out; omega, by have := HX.out; subst this; go_num, H9.out⟩
         case measure => have := HX.out; omega
end Go.Proofs.YtfbkopjncmkbiabGreatDoor
