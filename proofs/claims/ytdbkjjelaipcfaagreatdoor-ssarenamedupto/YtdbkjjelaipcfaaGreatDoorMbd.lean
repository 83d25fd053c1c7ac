import Derived.Deep.RegionHeld
import Derived.Lib.SliceRun
import Derived.Test.YtdbkjjelaipcfaaGreatDoorMaw
import Derived.Test.YtdbkjjelaipcfaaGreatDoorMax
import Derived.Test.YtdbkjjelaipcfaaGreatDoorMaz
import Derived.Test.YtdbkjjelaipcfaaGreatDoorMba
set_option linter.unusedVariables false
set_option linter.unusedSimpArgs false
namespace Go.Proofs.YtdbkjjelaipcfaaGreatDoor
open Go.ChangeShapes Go.WideShapes Go.ChangeAt Go.RowKit Go.Maps
set_option maxRecDepth 10000 in
set_option maxHeartbeats 1000000 in
theorem numbers_any (w : World) (ao : Option Addr) (k c n : Nat) (L : List Int) (hk : k = L.length) (h : Ints w ao c L) : Calls Tryz.prog 13 #[.slice ao k c, .int .i64 n] w fun e w' => e = .returned (.bool (L.all (wi n))) /\ w' = w := by
 have hmx : k <= 9223372036854775807 := by have := h.le; have := h.mx; omega
 obtain ⟨R, hR⟩ : ∃ R, R = L.all (wi n) := ⟨_, rfl⟩
 rw [<- hR]
 have HK : Hid (k = L.length) := hk
 have HI : Hid (Ints w ao c L) := h
 have H0 : WT n L 0 R := ⟨hR, fun i _ hi => by omega⟩
 clear hR hk h
 go_enter Tryz.func13, Tryz.ntmps13
 go_wp2_with fail
 go_loop [5] (fun v => ∃ j : Nat, j <= k /\ v = .int .i64 j /\ WT n L j R) (fun v => k - (intOf v).toNat)
 case atStart => exact ⟨0, by omega, rfl, H0⟩
 case round =>
  obtain ⟨j, hj, rfl, HJ⟩ := hrel
  by_cases hlt : j < k
  ·obtain ⟨b, o, rfl, hA⟩ := HI.out.out (by intro e; have := HK.out; rw [e] at this; simp at this; omega)
   obtain ⟨x, hx⟩ : ∃ x, x = L[j]'(by have := HK.out; omega) := ⟨_, rfl⟩
   have hcl : w.cell? ⟨b, o + j, none⟩ = some (.int .i64 x) := by rw [hx]; exact hA.cell j (by have := HK.out; omega)
   have HX : Hid (wi n x = true -> WT n L (j + 1) R) := fun hh => HJ.more (by have := HK.out; omega) (by rw [<- hx]; exact hh)
   have HF : Hid (wi n x = false -> false = R) := fun hh => HJ.hit (by have := HK.out; omega) (by rw [<- hx]; exact hh)
   clear hx hA
   by_cases h0 : x < 0
   ·have HE : Hid (false = R) := HF.out (by simp [wi]; omega)
    go_wp2_with fail
    go_ret
    exact ⟨ret_bl HE.out, rfl⟩
   ·by_cases h1 : x < n
    ·have HE : Hid (WT n L (j + 1) R) := HX.out (by simp [wi]; omega)
     go_wp2_with fail
     go_round
     case rel => exact ⟨j + 1, by omega, by go_num, HE.out⟩
     case measure => simp [intOf]; omega
    ·have HE : Hid (false = R) := HF.out (by simp [wi]; omega)
     go_wp2_with fail
     go_ret
     exact ⟨ret_bl HE.out, rfl⟩
  ·obtain rfl : j = k := by omega
   have HE : Hid (true = R) := HJ.fin (by have := HK.out; omega)
   go_wp2_with fail
   go_ret
   exact ⟨ret_bl HE.out, rfl⟩
structure LF (w : World) (pa : Option Addr) (pn pc : Nat) (va : Option Addr) (vn vc : Nat) (ba : Option Addr) (bn bc : Nat) (f : Fu) : Prop where
 ep : pn = f.params.length
 ev : vn = f.vals.length
 eb : bn = f.blks.length
 hp : Ints w pa pc f.params
 hv : Vls w va vc f.vals
 hb : Bks w ba bc f.blks
theorem LF.below {w w' pa pn pc va vn vc ba bn bc f} (h : LF w pa pn pc va vn vc ba bn bc f) (hb : Below w.heap.size w w') : LF w' pa pn pc va vn vc ba bn bc f :=
 ⟨h.ep, h.ev, h.eb, h.hp.below hb (Nat.le_refl _), h.hv.below hb (Nat.le_refl _), h.hb.below hb (Nat.le_refl _)⟩
structure SmR (FS : List Fu) (e : Ending) : Prop where
 out : ∃ R : Bool, e = .returned (.bool R) /\ (R = true -> FS.length <= 300 /\ ∀ f ∈ FS, f.blks.length <= 2000)
structure SmI (FS : List Fu) (k : Nat) : Prop where
 out : ∀ i (h : i < FS.length), i < k -> FS[i].blks.length <= 2000
theorem le_sum9 : ∀ {l : List Nat} {x : Nat}, x ∈ l -> x <= l.sum
 | [], x, h => by simp at h
 | y :: l, x, h => by
   rcases List.mem_cons.1 h with rfl | h
   ·simp
   ·have := le_sum9 h; simp; omega
theorem szF_le {FS : List Fu} {f : Fu} (h : f ∈ FS) (hb : szS FS <= 1048576) : szF f <= 1048576 := by
 have := le_sum9 (List.mem_map_of_mem (f := szF) h)
 unfold szS at hb
 omega
theorem szV_le {f : Fu} {v : Vl} (h : v ∈ f.vals) (hb : szF f <= 1048576) : v.args.length <= 1048576 := by
 have := le_sum9 (List.mem_map_of_mem (f := szV) h)
 have e : szV v = v.args.length + 1 := rfl
 unfold szF at hb
 omega
theorem szB_le {f : Fu} {b : Bk} (h : b ∈ f.blks) (hb : szF f <= 1048576) : b.phis.length + b.body.length + b.ways.length + b.preds.length <= 1048576 := by
 have := le_sum9 (List.mem_map_of_mem (f := szB) h)
 have e : szB b = b.phis.length + b.body.length + b.ways.length + b.preds.length + 1 := rfl
 unfold szF at hb
 omega
theorem len_sum {α : Type} {g : α -> Nat} (hg : ∀ x, 1 <= g x) : ∀ l : List α, l.length <= (l.map g).sum
 | [] => by simp
 | x :: l => by have := len_sum hg l; have := hg x; simp; omega
theorem szF_len {f : Fu} (hb : szF f <= 1048576) : f.name.size <= 1048576 /\ f.params.length <= 1048576 /\ f.vals.length <= 1048576 /\ f.blks.length <= 1048576 := by
 have h1 := len_sum (g := szV) (fun v => by simp [szV]) f.vals
 have h2 := len_sum (g := szB) (fun v => by simp [szB]) f.blks
 unfold szF at hb
 omega
theorem square_le {n : Nat} (h : n * n <= 2000000) : n <= 2000 := by
 rcases Nat.lt_or_ge 2000 n with q | q
 ·have : 2001 * 2001 <= n * n := Nat.mul_le_mul q q
  omega
 ·exact q
set_option maxRecDepth 100000 in
set_option maxHeartbeats 8000000 in
theorem small_any (w : World) {fa : Option Addr} {fn fc : Nat} {mn : Int} {FS : List Fu} (hF : Fus w fa fc FS) (ef : fn = FS.length) (hbk : szS FS <= 1048576) :
 Calls Tryz.prog 8 #[.agg #[.slice fa fn fc, .int .i64 mn]] w fun e w' => SmR FS e /\ Below w.heap.size w w' := by
 have hfm : fn <= 9223372036854775807 := by have := hF.le; have := hF.mx; omega
 have HF : Hid (Fus w fa fc FS) := hF
 have HEF : Hid (fn = FS.length) := ef
 have HBK : Hid (szS FS <= 1048576) := hbk
 obtain ⟨W0, hW0⟩ : ∃ W, W = w.alloc (.cells #[.slice fa fn fc, .int .i64 mn] 24) := ⟨_, rfl⟩
 have HA0 : Hid (Af1 w (.cells #[.slice fa fn fc, .int .i64 mn] 24) W0) := by rw [hW0]; exact Af1.refl _ _
 clear hF ef hbk
 go_enter Tryz.func8, Tryz.ntmps8
 go_wp2_with fail
 rw [<- hW0]
 clear hW0
 go_loopw [3, 4] (fun nv iv wr => ∃ nn k : Nat, k <= fn /\ nn <= 2000000 /\ nv = .int .i64 nn /\ iv = .int .i64 k /\ Hid (Af1 w (.cells #[.slice fa fn fc, .int .i64 mn] 24) wr) /\ SmI FS k) (fun _ v _ => fn - (intOf v).toNat)
 case atStart => exact ⟨0, 0, by omega, by omega, rfl, rfl, HA0, ⟨fun i _ h => by omega⟩⟩
 case round =>
  clear HA0
  obtain ⟨wo, rfl⟩ : ∃ wo, wo = wr := ⟨_, rfl⟩
  obtain ⟨nn, k, hk, hnn, rfl, rfl, HA, HI⟩ := hrel
  have k0 : wo.cell? ⟨w.heap.size, 0, none⟩ = some (.slice fa fn fc) := cell_arr HA.out.one rfl
  have hl0 : w.heap.size < wo.heap.size := by have := HA.out.size; omega
  by_cases hlt : k < fn
  ·have hkf : k < FS.length := by have := HEF.out; omega
   obtain ⟨b', o', ka, kc, la, lc, ma, mc, rfl, hlt0, d0, d1, d2, d3, d4, j1, j2, j3⟩ := HF.out.at hkf
   have hlw := HA.out.low
   have c0 := (hlw.cell (p := ⟨b', o' + k * 5, none⟩) hlt0).trans d0
   have c1 := (hlw.cell (p := ⟨b', o' + k * 5 + 1, none⟩) hlt0).trans d1
   have c2 := (hlw.cell (p := ⟨b', o' + k * 5 + 2, none⟩) hlt0).trans d2
   have c3 := (hlw.cell (p := ⟨b', o' + k * 5 + 3, none⟩) hlt0).trans d3
   have c4 := (hlw.cell (p := ⟨b', o' + k * 5 + 4, none⟩) hlt0).trans d4
   have hlt' : b' < wo.heap.size := by have := hlw.size; omega
   have hsf := szF_le (List.getElem_mem hkf) HBK.out
   obtain ⟨f, hf⟩ : ∃ f, f = FS[k] := ⟨_, rfl⟩
   rw [<- hf] at c0 c1 c2 c3 c4 j1 j2 j3 hsf
   obtain ⟨m1, m2, m3, m4⟩ := szF_len hsf
   obtain ⟨pn, hpn⟩ : ∃ n, n = f.params.length := ⟨_, rfl⟩
   obtain ⟨vn, hvn⟩ : ∃ n, n = f.vals.length := ⟨_, rfl⟩
   obtain ⟨bn, hbn⟩ : ∃ n, n = f.blks.length := ⟨_, rfl⟩
   obtain ⟨s, hs⟩ : ∃ n, n = f.name := ⟨_, rfl⟩
   obtain ⟨r, hr⟩ : ∃ n, n = f.result := ⟨_, rfl⟩
   rw [<- hs] at c0 m1
   rw [<- hpn] at c1 m2
   rw [<- hr] at c2
   rw [<- hvn] at c3 m3
   rw [<- hbn] at c4 m4
   have HE : Hid (f = FS[k] /\ pn = f.params.length /\ vn = f.vals.length /\ bn = f.blks.length /\ szF f <= 1048576) := ⟨hf, hpn, hvn, hbn, hsf⟩
   have HJ2 : Hid (Vls w la lc f.vals) := j2
   have HJ3 : Hid (Bks w ma mc f.blks) := j3
   have hlac : vn <= lc := by have := j2.le; omega
   have hlcm : lc <= 9223372036854775807 := j2.mx
   have hmac : bn <= mc := by have := j3.le; omega
   have hmcm : mc <= 9223372036854775807 := j3.mx
   have hkap : pn <= kc := by have := j1.le; omega
   have hkcm : kc <= 9223372036854775807 := j1.mx
   obtain ⟨q, hq⟩ : ∃ q, q = bn * bn := ⟨_, rfl⟩
   have hqm : q <= 1099511627776 := by
    have : bn * bn <= 1048576 * 1048576 := Nat.mul_le_mul m4 m4
    omega
   have hqe : (bn : Int) * (bn : Int) = (q : Int) := by rw [hq]; simp
   obtain ⟨dz, hdz⟩ : ∃ d, d = s.size / 65 := ⟨_, rfl⟩
   have hdm : dz <= 1048576 := by omega
   have hde : Int.tdiv (s.size : Int) 65 = (dz : Int) := by rw [hdz]; rfl
   have HQ : Hid (q = bn * bn) := hq
   obtain ⟨W1, hW1⟩ : ∃ W, W = wo.alloc (.cells #[.string s, .slice ka pn kc, .int .i64 r, .slice la vn lc, .slice ma bn mc] 38) := ⟨_, rfl⟩
   obtain ⟨B3, hB3⟩ : ∃ B, B = wo.heap.size := ⟨_, rfl⟩
   have HA1 : Hid (Af1 w (.cells #[.slice (some ⟨b', o', none⟩) fn fc, .int .i64 mn] 24) W1) := by rw [hW1]; exact HA.out.next (below_new _ _)
   have HK1 : Hid (W1.heap[B3]? = some (.cells #[.string s, .slice ka pn kc, .int .i64 r, .slice la vn lc, .slice ma bn mc] 38 (0, 0))) := by rw [hW1, hB3]; exact heap_alloc_new wo _
   clear hf hpn hvn hbn hs hr hsf j1 j2 j3 d0 d1 d2 d3 d4 hlw hq hdz
   go_wp2_with fail
   -- the values
   rw [<- hW1]
   rw [<- hB3]
   obtain ⟨n0, hn0⟩ : ∃ n0, n0 = nn + (dz + pn + q) := ⟨_, rfl⟩
   clear hW1 hB3 c0 c1 c2 c3 c4 k0 hqe hde
   have g3 : W1.cell? ⟨B3, 3, none⟩ = some (.slice la vn lc) := cell_arr HK1.out rfl
   have hb3 : B3 < W1.heap.size := (gl HK1.out)
   have HW1 : Hid (W1 = W1) := rfl
   go_loopw [3, 6] (fun nv jv wq => ∃ x j : Nat, j <= vn /\ n0 <= x /\ (x <= n0 \/ x <= 5000000) /\ nv = .int .i64 x /\ jv = .int .i64 j /\ wq = W1) (fun _ v _ => vn - (intOf v).toNat)
   case atStart => exact ⟨n0, 0, by omega, by omega, by omega, by first | (congr 1; omega) | (simp; done) | (simp; omega), rfl, by first | rfl | trivial⟩
   case round =>
    obtain ⟨x, j, hj, hx1, hx2, rfl, rfl, e⟩ := hrel
    subst e
    by_cases hjv : j < vn
    ·by_cases hx3 : x <= 2000000
     ·have hd3 : decide ((x : Int) <= 2000000) = true := by simp; omega
      have hjf : j < f.vals.length := by have := HE.out.2.2.1; omega
      obtain ⟨bv, ov, aa, ac, rfl, hlv, _, _, _, r3, ri⟩ := HJ2.out.at4 hjf
      have p3 := (HA1.out.low.cell (p := ⟨bv, ov + j * 4 + 3, none⟩) hlv).trans r3
      have hbvl : bv < wr.heap.size := by have := HA1.out.low.size; omega
      have hal := szV_le (List.getElem_mem hjf) HE.out.2.2.2.2
      have hac := ri.le
      have hacm := ri.mx
      clear r3 ri
      generalize f.vals[j].args.length = al at p3 hal hac
      go_wp2_with fail
      go_roundw
      case rel => exact ⟨x + (1 + al), j + 1, by omega, by omega, by omega, by first | (congr 1; omega) | (simp; done) | (simp; omega), by go_num, by first | rfl | trivial⟩
      case measure => simp [intOf]; omega
     ·have hd3 : decide ((x : Int) <= 2000000) = false := by simp; omega
      go_wp2_with fail
      obtain ⟨xe, hxe⟩ : ∃ xe, xe = x := ⟨_, rfl⟩
      have hxn : n0 <= xe := by omega
      have hxm : xe <= 1200000000000 := by omega
      have hx9 : ¬ xe <= 2000000 := by omega
      clear hx3
      clear hd3
      rw [<- hxe]
      clear hxe hx1 hx2
      go_loopw [3, 7] (fun nv jv wq => ∃ x i : Nat, i <= bn /\ xe <= x /\ (x <= xe \/ x <= 5000000) /\ nv = .int .i64 x /\ jv = .int .i64 i /\ Hid (Af1 w (.cells #[.slice (some ⟨b', o', none⟩) fn fc, .int .i64 mn] 24) wq) /\ Hid (wq.heap[B3]? = some (.cells #[.string s, .slice ka pn kc, .int .i64 r, .slice la vn lc, .slice ma bn mc] 38 (0, 0)))) (fun _ v _ => bn - (intOf v).toNat)
      case atStart => exact ⟨xe, 0, by omega, by omega, by omega, rfl, rfl, HA1, HK1⟩
      case round =>
       clear HA1 HK1 g3 hb3
       obtain ⟨wu, rfl⟩ : ∃ wu, wu = wr := ⟨_, rfl⟩
       obtain ⟨x, i, hi, hx1, hx2, rfl, rfl, HA1, HK1⟩ := hrel
       have g4 : wu.cell? ⟨B3, 4, none⟩ = some (.slice ma bn mc) := cell_arr HK1.out rfl
       have hb3 : B3 < wu.heap.size := (gl HK1.out)
       by_cases hib : i < bn
       ·have hd3 : decide ((x : Int) <= 2000000) = false := by simp; omega
        go_wp2_with fail
        have hd9 : decide ((2000000 : Int) < (x : Int)) = true := by simp; omega
        have hd8 : decide (2000000 < x) = true := by simp; omega
        have hd7 : (2000000 : Int) < (x : Int) := by omega
        go_wp2_with fail
        go_ret
        exact ⟨⟨false, rfl, fun h => by cases h⟩, HA1.out.low⟩
       ·have hib2 : ¬ (i : Int) < (bn : Int) := by omega
        have hd9 : decide ((2000000 : Int) < (x : Int)) = true := by simp; omega
        have hd8 : decide (2000000 < x) = true := by simp; omega
        have hd7 : (2000000 : Int) < (x : Int) := by omega
        go_wp2_with fail
        go_ret
        exact ⟨⟨false, rfl, fun h => by cases h⟩, HA1.out.low⟩
    ·go_wp2_with fail
     obtain ⟨xe, hxe⟩ : ∃ xe, xe = x := ⟨_, rfl⟩
     have hxn : n0 <= xe := by omega
     have hxm : xe <= 1200000000000 := by omega
     rw [<- hxe]
     clear hxe hx1 hx2
     go_loopw [3, 7] (fun nv jv wq => ∃ x i : Nat, i <= bn /\ xe <= x /\ (x <= xe \/ x <= 5000000) /\ nv = .int .i64 x /\ jv = .int .i64 i /\ Hid (Af1 w (.cells #[.slice (some ⟨b', o', none⟩) fn fc, .int .i64 mn] 24) wq) /\ Hid (wq.heap[B3]? = some (.cells #[.string s, .slice ka pn kc, .int .i64 r, .slice la vn lc, .slice ma bn mc] 38 (0, 0)))) (fun _ v _ => bn - (intOf v).toNat)
     case atStart => exact ⟨xe, 0, by omega, by omega, by omega, rfl, rfl, HA1, HK1⟩
     case round =>
      clear HA1 HK1 g3 hb3
      obtain ⟨wu, rfl⟩ : ∃ wu, wu = wr := ⟨_, rfl⟩
      obtain ⟨x, i, hi, hx1, hx2, rfl, rfl, HA1, HK1⟩ := hrel
      have g4 : wu.cell? ⟨B3, 4, none⟩ = some (.slice ma bn mc) := cell_arr HK1.out rfl
      have hb3 : B3 < wu.heap.size := (gl HK1.out)
      by_cases hib : i < bn
      ·by_cases hx3 : x <= 2000000
       ·have hd3 : decide ((x : Int) <= 2000000) = true := by simp; omega
        have hif : i < f.blks.length := by have := HE.out.2.2.2.1; omega
        obtain ⟨xb, xo, k1a, k1c, k2a, k2c, k3a, k3c, k4a, k4c, rfl, hlx, r0, r1, r2, r3, r4, r5, i1, i2, i3, i4⟩ := HJ3.out.at hif
        have hlw := HA1.out.low
        have p0 := (hlw.cell (p := ⟨xb, xo + i * 6, none⟩) hlx).trans r0
        have p1 := (hlw.cell (p := ⟨xb, xo + i * 6 + 1, none⟩) hlx).trans r1
        have p2 := (hlw.cell (p := ⟨xb, xo + i * 6 + 2, none⟩) hlx).trans r2
        have p3 := (hlw.cell (p := ⟨xb, xo + i * 6 + 3, none⟩) hlx).trans r3
        have p4 := (hlw.cell (p := ⟨xb, xo + i * 6 + 4, none⟩) hlx).trans r4
        have p5 := (hlw.cell (p := ⟨xb, xo + i * 6 + 5, none⟩) hlx).trans r5
        have hxl : xb < wu.heap.size := by have := hlw.size; omega
        have hsb := szB_le (List.getElem_mem hif) HE.out.2.2.2.2
        have hy1 := i1.le
        have hy2 := i2.le
        have hy3 := i3.le
        have hy4 := i4.le
        have hz1 := i1.mx
        have hz2 := i2.mx
        have hz3 := i3.mx
        have hz4 := i4.mx
        clear r0 r1 r2 r3 r4 r5 i1 i2 i3 i4 hlw
        generalize f.blks[i] = bk at p0 p1 p2 p3 p4 p5 hsb hy1 hy2 hy3 hy4
        obtain ⟨PH, BO, kd, vl, WY, PR⟩ := bk
        simp only at p0 p1 p2 p3 p4 p5 hsb hy1 hy2 hy3 hy4
        generalize PH.length = l1 at p0 hsb hy1
        generalize BO.length = l2 at p1 hsb hy2
        generalize WY.length = l3 at p4 hsb hy3
        generalize PR.length = l4 at p5 hsb hy4
        obtain ⟨W2, hW2⟩ : ∃ W, W = wu.alloc (.cells #[.slice k1a l1 k1c, .slice k2a l2 k2c, .int .i64 kd, .int .i64 vl, .slice k3a l3 k3c, .slice k4a l4 k4c] 46) := ⟨_, rfl⟩
        have HA2 : Hid (Af1 w (.cells #[.slice (some ⟨b', o', none⟩) fn fc, .int .i64 mn] 24) W2) := by rw [hW2]; exact HA1.out.next (below_new _ _)
        have HK2 : Hid (W2.heap[B3]? = wu.heap[B3]?) := by rw [hW2]; exact heap_alloc_old _ _ hb3
        go_wp2_with fail
        rw [<- hW2]
        go_roundw
        case rel => exact ⟨x + (1 + l1 + l2 + l4 + l3), i + 1, by omega, by omega, by omega, by first | (congr 1; omega) | (simp; done) | (simp; omega), by go_num, HA2, by have := HK2.out.trans HK1.out; exact this⟩
        case measure => simp [intOf]; omega
       ·have hd3 : decide ((x : Int) <= 2000000) = false := by simp; omega
        go_wp2_with fail
        have hd9 : decide ((2000000 : Int) < (x : Int)) = true := by simp; omega
        have hd8 : decide (2000000 < x) = true := by simp; omega
        have hd7 : (2000000 : Int) < (x : Int) := by omega
        go_wp2_with fail
        go_ret
        exact ⟨⟨false, rfl, fun h => by cases h⟩, HA1.out.low⟩
      ·have hib2 : ¬ (i : Int) < (bn : Int) := by omega
       by_cases hx9 : x <= 2000000
       ·have hd9 : decide ((2000000 : Int) < (x : Int)) = false := by simp; omega
        have hd8 : decide (2000000 < x) = false := by simp; omega
        have hd7 : ¬ (2000000 : Int) < (x : Int) := by omega
        have HIN : SmI FS (k + 1) := ⟨fun i h hi => by
         by_cases e : i = k
         ·subst e
          have h2 := HQ.out
          have h1 := square_le (n := bn) (by omega)
          have h3 := HE.out.2.2.2.1
          rw [<- HE.out.1]
          omega
         ·exact HI.out i h (by omega)⟩
        go_wp2_with fail
        go_roundw
        case rel => exact ⟨x, k + 1, by omega, by omega, rfl, by go_num, HA1, HIN⟩
        case measure => simp [intOf]; omega
       ·have hd9 : decide ((2000000 : Int) < (x : Int)) = true := by simp; omega
        go_wp2_with fail
        go_ret
        exact ⟨⟨false, rfl, fun h => by cases h⟩, HA1.out.low⟩
  ·have hd0 : decide ((fn : Int) <= 300) = decide (FS.length <= 300) := by rw [HEF.out]; simp only [decide_eq_decide]; omega
   go_wp2_with fail
   go_ret
   refine ⟨⟨decide (FS.length <= 300), by rw [<- hd0]; rfl, fun h => ⟨by simpa using h, fun f hf => ?_⟩⟩, HA.out.low⟩
   obtain ⟨i, hi, rfl⟩ := List.getElem_of_mem hf
   exact HI.out i hi (by have := HEF.out; omega)
structure T3 (w : World) (g n : Nat) (Q : List (Int × Int)) (O : List Int) : Prop where
 lq : Q.length = n
 lo : O.length = n
 out : ∃ cs : Array Value, w.heap[g]? = some (.cells cs 77 (0, 0)) /\ cs.size = n * 3 /\ ∀ i, i < n -> cs[i * 3]? = some (.int .i64 (Q.getD i (0, 0)).1) /\ cs[i * 3 + 1]? = some (.int .i64 (Q.getD i (0, 0)).2) /\ cs[i * 3 + 2]? = some (.int .i64 (O.getD i 0))
theorem T3.lt {w g n Q O} (h : T3 w g n Q O) : g < w.heap.size := by
 obtain ⟨cs, hr, _⟩ := h.out
 exact (gl hr)
theorem T3.cell {w g n Q O} (h : T3 w g n Q O) {i : Nat} (hi : i < n) : w.cell? ⟨g, i * 3, none⟩ = some (.int .i64 (Q.getD i (0, 0)).1) /\ w.cell? ⟨g, i * 3 + 1, none⟩ = some (.int .i64 (Q.getD i (0, 0)).2) /\ w.cell? ⟨g, i * 3 + 2, none⟩ = some (.int .i64 (O.getD i 0)) /\ w.frozen? ⟨g, i * 3, none⟩ = false /\ w.frozen? ⟨g, i * 3 + 1, none⟩ = false /\ w.frozen? ⟨g, i * 3 + 2, none⟩ = false := by
 obtain ⟨cs, hr, hs, hc⟩ := h.out
 obtain ⟨h1, h2, h3⟩ := hc i hi
 exact ⟨cell_arr hr h1, cell_arr hr h2, cell_arr hr h3, fz_of hr, fz_of hr, fz_of hr⟩
theorem T3.keep {w w' : World} {g n Q O} (h : T3 w g n Q O) (hb : Below w.heap.size w w') : T3 w' g n Q O := by
 have hlt := h.lt
 obtain ⟨cs, hr, hs, hc⟩ := h.out
 exact ⟨h.lq, h.lo, cs, (hb.block _ hlt).trans hr, hs, hc⟩
theorem set3_ne (cs : Array Value) {i x j : Nat} (a b c : Value) (h0 : ¬ j = i * 3) (h1 : ¬ j = i * 3 + 1) (h2 : ¬ j = i * 3 + 2) : (((cs.setIfInBounds (i * 3) a).setIfInBounds (i * 3 + 1) b).setIfInBounds (i * 3 + 2) c)[j]? = cs[j]? := by
 rw [Array.getElem?_setIfInBounds_ne (by omega), Array.getElem?_setIfInBounds_ne (by omega), Array.getElem?_setIfInBounds_ne (by omega)]
theorem T3.put {w : World} {g n Q O} (h : T3 w g n Q O) {i : Nat} (hi : i < n) (a b c : Int) : T3 (((w.setCell ⟨g, i * 3, none⟩ (.int .i64 a)).setCell ⟨g, i * 3 + 1, none⟩ (.int .i64 b)).setCell ⟨g, i * 3 + 2, none⟩ (.int .i64 c)) g n (Q.set i (a, b)) (O.set i c) := by
 obtain ⟨cs, hr, hs, hc⟩ := h.out
 refine ⟨by simpa using h.lq, by simpa using h.lo, _, heap_set_at (heap_set_at (heap_set_at hr)), by simpa using hs, fun j hj => ?_⟩
 by_cases e : i = j
 ·subst e
  have e1 : (Q.set i (a, b)).getD i (0, 0) = (a, b) := by simp [List.getD_eq_getElem?_getD, h.lq, hi]
  have e2 : (O.set i c).getD i 0 = c := by simp [List.getD_eq_getElem?_getD, h.lo, hi]
  rw [e1, e2]
  refine ⟨?_, ?_, ?_⟩
  ·rw [Array.getElem?_setIfInBounds_ne (by omega), Array.getElem?_setIfInBounds_ne (by omega), Array.getElem?_setIfInBounds_self_of_lt (by omega)]
  ·rw [Array.getElem?_setIfInBounds_ne (by omega), Array.getElem?_setIfInBounds_self_of_lt (by rw [Array.size_setIfInBounds]; omega)]
  ·rw [Array.getElem?_setIfInBounds_self_of_lt (by rw [Array.size_setIfInBounds, Array.size_setIfInBounds]; omega)]
 ·have e1 : (Q.set i (a, b)).getD j (0, 0) = Q.getD j (0, 0) := by simp [List.getD_eq_getElem?_getD, List.getElem?_set, e]
  have e2 : (O.set i c).getD j 0 = O.getD j 0 := by simp [List.getD_eq_getElem?_getD, List.getElem?_set, e]
  rw [e1, e2, set3_ne (x := 0) _ _ _ _ (by omega) (by omega) (by omega), set3_ne (x := 0) _ _ _ _ (by omega) (by omega) (by omega), set3_ne (x := 0) _ _ _ _ (by omega) (by omega) (by omega)]
  exact hc j hj
theorem T3.start (w : World) (n : Nat) : T3 (w.alloc (.cells (madeCells #[.int .i64 0, .int .i64 0, .int .i64 0] (n * 3)) 77)) w.heap.size n (List.replicate n (0, 0)) (List.replicate n 0) := by
 refine ⟨by simp, by simp, _, heap_alloc_new w _, by rw [size_madeCells], fun i hi => ?_⟩
 have key : ∀ j, j < n * 3 -> (madeCells #[.int .i64 0, .int .i64 0, .int .i64 0] (n * 3))[j]? = some (.int .i64 0) := fun j hj => by
  rw [Array.getElem?_eq_getElem (by rw [size_madeCells]; exact hj)]
  simp only [madeCells, Array.getElem_map, Array.getElem_range]
  rcases (show j % 3 = 0 \/ j % 3 = 1 \/ j % 3 = 2 by omega) with e | e | e
  ·show some (#[Value.int .i64 0, Value.int .i64 0, Value.int .i64 0][j % 3]!) = _; rw [e]; rfl
  ·show some (#[Value.int .i64 0, Value.int .i64 0, Value.int .i64 0][j % 3]!) = _; rw [e]; rfl
  ·show some (#[Value.int .i64 0, Value.int .i64 0, Value.int .i64 0][j % 3]!) = _; rw [e]; rfl
 have e1 : (List.replicate n ((0 : Int), (0 : Int))).getD i (0, 0) = (0, 0) := by simp [List.getD_eq_getElem?_getD, hi]
 have e2 : (List.replicate n (0 : Int)).getD i 0 = 0 := by simp [List.getD_eq_getElem?_getD, hi]
 rw [e1, e2]
 exact ⟨key _ (by omega), key _ (by omega), key _ (by omega)⟩
structure P3 (w wr : World) (A : Obj) (n : Nat) (Q : List (Int × Int)) (O : List Int) : Prop where
 fo : wr.heap[w.heap.size]? = some A
 row : T3 wr (w.heap.size + 1) n Q O
 low : Below w.heap.size w wr
theorem P3.put {w wr : World} {A n Q O} (h : P3 w wr A n Q O) {i : Nat} (hi : i < n) (a b c : Int) : P3 w (((wr.setCell ⟨w.heap.size + 1, i * 3, none⟩ (.int .i64 a)).setCell ⟨w.heap.size + 1, i * 3 + 1, none⟩ (.int .i64 b)).setCell ⟨w.heap.size + 1, i * 3 + 2, none⟩ (.int .i64 c)) A n (Q.set i (a, b)) (O.set i c) :=
 ⟨(heap_set_other (by omega)).trans ((heap_set_other (by omega)).trans ((heap_set_other (by omega)).trans h.fo)), h.row.put hi a b c,
   ((h.low.setCell (by show w.heap.size <= w.heap.size + 1; omega) _).setCell (by show w.heap.size <= w.heap.size + 1; omega) _).setCell (by show w.heap.size <= w.heap.size + 1; omega) _⟩
theorem P3.next {w wr w' : World} {A n Q O} (h : P3 w wr A n Q O) (hb : Below wr.heap.size wr w') : P3 w w' A n Q O :=
 ⟨(hb.block _ (gl h.fo)).trans h.fo, h.row.keep hb, h.low.trans (hb.mono h.low.size)⟩
structure Off (wg : Nat) (w w' : World) : Prop where
 os : w'.os = w.os
 tape : w'.tape = w.tape
 output : w'.output = w.output
 sz : w.heap.size <= w'.heap.size
 eq : ∀ k, k < w.heap.size -> k ≠ wg -> w'.heap[k]? = w.heap[k]?
theorem Off.trans {wg a b c} (h : Off wg a b) (g : Off wg b c) : Off wg a c := ⟨g.os.trans h.os, g.tape.trans h.tape, g.output.trans h.output, Nat.le_trans h.sz g.sz, fun k hk hn => (g.eq k (Nat.lt_of_lt_of_le hk h.sz) hn).trans (h.eq k hk hn)⟩
theorem Off.below {wg w w'} (h : Below w.heap.size w w') : Off wg w w' := ⟨h.os, h.tape, h.output, h.size, fun k hk _ => h.block k hk⟩
theorem Off.set (wg : Nat) (w : World) (i : Nat) (v : Value) : Off wg w (w.setCell ⟨wg, i, none⟩ v) := ⟨rfl, rfl, rfl, by simp [World.setCell], fun k _ hn => heap_set_other hn⟩
theorem Off.low {wg w0 w w'} (h : Off wg w w') (hb : Below w0.heap.size w0 w) (hu : w0.heap.size <= wg) : Below w0.heap.size w0 w' :=
 ⟨h.os.trans hb.os, h.tape.trans hb.tape, h.output.trans hb.output, Nat.le_trans hb.size h.sz, fun k hk => (h.eq k (Nat.lt_of_lt_of_le hk hb.size) (by omega)).trans (hb.block k hk)⟩
theorem cell_same {w w' : World} {g i : Nat} (h : w'.heap[g]? = w.heap[g]?) : w'.cell? ⟨g, i, none⟩ = w.cell? ⟨g, i, none⟩ := by simp [World.cell?, h]
structure WO (w : World) (wg n : Nat) (L : List Int) (v : Option Value) : Prop where
 out : v = some (.slice none 0 0) \/ ∃ g c, v = some (.slice (some ⟨g, 0, none⟩) n c) /\ (n <= c /\ c <= 9223372036854775807) /\ g ≠ wg /\ g < w.heap.size /\ ∀ i, i < n -> w.cell? ⟨g, i, none⟩ = some (.bool (decide ((i : Int) ∈ L)))
theorem WO.off {w w' : World} {wg n L v} (h : WO w wg n L v) (ho : Off wg w w') : WO w' wg n L v := ⟨h.out.imp id fun ⟨g, c, e, h1, h2, h3, h4⟩ => ⟨g, c, e, h1, h2, Nat.lt_of_lt_of_le h3 ho.sz, fun i hi => (cell_same (ho.eq g h3 h2)).trans (h4 i hi)⟩⟩
structure SG (w0 w : World) (sb wg : Nat) (toa : Option Addr) (toc pg n vn : Nat) (f : Fu) : Prop where
 box : w.heap[sb]? = some (.cells #[.slice toa n toc, .slice (some ⟨pg, 0, none⟩) vn vn, .slice (some ⟨wg, 0, none⟩) n n] 112 (0, 0))
 bne : sb ≠ wg
 pne : pg ≠ wg
 ro : ∀ w', Off wg w w' -> IRow w' toa toc (waysP f)
 pl : T3 w pg vn (qlK f f.blks.length) (cntAll f)
 wo : ∃ cs : Array Value, w.heap[wg]? = some (.cells cs 70 (0, 0)) /\ cs.size = n /\ ∀ a, a < n -> WO w wg n (woP (waysP f) (a : Int)) cs[a]?
 low : Below w0.heap.size w0 w
 up : w0.heap.size <= wg
theorem SG.next {w0 w w' : World} {sb wg toa toc pg n vn f} (h : SG w0 w sb wg toa toc pg n vn f) (hb : Below w.heap.size w w') : SG w0 w' sb wg toa toc pg n vn f := by
 obtain ⟨cs, hr, hs, hc⟩ := h.wo
 exact ⟨(hb.block _ (gl h.box)).trans h.box, h.bne, h.pne, fun w'' ho => h.ro w'' ((Off.below hb).trans ho), h.pl.keep hb,
  ⟨cs, (hb.block _ (gl hr)).trans hr, hs, fun a ha => (hc a ha).off (Off.below hb)⟩, h.low.trans (hb.mono h.low.size), h.up⟩
theorem T3.off {w w' : World} {g n Q O wg} (h : T3 w g n Q O) (ho : Off wg w w') (hn : g ≠ wg) : T3 w' g n Q O := by
 have hlt := h.lt
 obtain ⟨cs, hr, hs, hc⟩ := h.out
 exact ⟨h.lq, h.lo, cs, (ho.eq g hlt hn).trans hr, hs, hc⟩
theorem SG.put {w0 w : World} {sb wg toa toc pg n vn f} (h : SG w0 w sb wg toa toc pg n vn f) {a : Nat} (ha : a < n) {g c : Nat} (hc : n <= c /\ c <= 9223372036854775807) (hg : g ≠ wg) (hl : g < w.heap.size) (hv : ∀ i, i < n -> w.cell? ⟨g, i, none⟩ = some (.bool (decide ((i : Int) ∈ woP (waysP f) (a : Int))))) : SG w0 (w.setCell ⟨wg, a, none⟩ (.slice (some ⟨g, 0, none⟩) n c)) sb wg toa toc pg n vn f := by
 obtain ⟨cs, hr, hs, hw⟩ := h.wo
 have ho := Off.set wg w a (.slice (some ⟨g, 0, none⟩) n c)
 refine ⟨(heap_set_other h.bne).trans h.box, h.bne, h.pne, fun w'' ho' => h.ro w'' (ho.trans ho'), h.pl.off ho h.pne, ⟨_, heap_set_at hr, by simpa using hs, fun k hk => ?_⟩, h.low.setCell h.up _, h.up⟩
 by_cases e : a = k
 ·subst e
  rw [Array.getElem?_setIfInBounds_self_of_lt (by omega)]
  exact WO.off ⟨.inr ⟨g, c, rfl, hc, hg, hl, hv⟩⟩ ho
 ·rw [Array.getElem?_setIfInBounds_ne e]
  exact (hw k hk).off ho
structure FiR (FS : List Fu) (k : Nat) (V : Int) : Prop where
 out : firstP FS (FS.drop k) = V
theorem FiR.next {FS k V} (h : FiR FS k V) (hk : k < FS.length) : (faultP FS FS[k] = 0 -> FiR FS (k + 1) V) /\ (¬ faultP FS FS[k] = 0 -> V = faultP FS FS[k]) := by
 have := h.out
 rw [List.drop_eq_getElem_cons hk] at this
 simp only [firstP] at this
 refine ⟨fun e => ⟨?_⟩, fun e => ?_⟩
 ·rw [if_pos e] at this; exact this
 ·rw [if_neg e] at this; exact this.symm
theorem FiR.fin {FS k V} (h : FiR FS k V) (hk : FS.length <= k) : V = 0 := by
 have := h.out
 rw [List.drop_of_length_le hk] at this
 exact this.symm
structure RW (w w' : World) (g c : Nat) (f : Fu) : Prop where
 ge : w.heap.size <= g
 lt : g < w'.heap.size
 out : ∀ w2, Below w.heap.size w w2 -> w2.heap[g]? = w'.heap[g]? -> IRow w2 (some ⟨g, 0, none⟩) c (waysP f)
theorem RW.next {w w' w'' g c f} (h : RW w w' g c f) (hb : Below w'.heap.size w' w'') : RW w w'' g c f :=
 ⟨h.ge, by have := hb.size; have := h.lt; omega, fun w2 h2 he => h.out w2 h2 (he.trans (hb.block g h.lt))⟩
theorem SG.af {w wr : World} {A : Obj} {sb wg toa toc pg n vn f} (h : SG (w.alloc A) wr sb wg toa toc pg n vn f) : Af1 w A wr := ⟨by have := h.low; simpa using this⟩
theorem Ints.blk {w : World} {b o c : Nat} {L : List Int} (h : Ints w (some ⟨b, o, none⟩) c L) {j : Nat} (hj : j < L.length) : b < w.heap.size := by
 obtain ⟨b', o', e, hc⟩ := h.at hj
 cases e
 exact cell_lt hc
theorem LM.only {w w' : World} {B b c FS} (h : LM w B b c FS) (hk : ∀ k, B <= k -> k < w.heap.size -> w'.heap[k]? = w.heap[k]?) : LM w' B b c FS := by
 have hv := hk b h.lo h.lt
 have hc : ∀ q, w'.cell? ⟨b, q, none⟩ = w.cell? ⟨b, q, none⟩ := fun q => World.cell?_of_block (w := w) hv
 obtain ⟨xs, hl, hE, hx⟩ := h.row
 obtain ⟨cs, e, hs⟩ := h.ty
 exact ⟨h.lo, h.le, h.mx, ⟨xs, hl, fun i hi hi' => (hE i hi hi').move fun b cs t hb e _ => hk b hb (gl e), fun i hi r u hr hu => (hc _).trans (hx i hi r u hr hu)⟩, ⟨cs, hv.trans e, hs⟩, (hc _).trans h.mark⟩
structure MX (w wr : World) (lb mb fb fc2 gb gc n Bm : Nat) (m1 m2 : Int) (US : List Fu) (i : Nat) : Prop where
 lbox : wr.heap[lb]? = some (.cells #[.slice (some ⟨fb, 0, none⟩) n fc2, .int .i64 m1] 32 (0, 0))
 mbox : wr.heap[mb]? = some (.cells #[.slice (some ⟨gb, 0, none⟩) n gc, .int .i64 m2] 32 (0, 0))
 lm : LM wr Bm gb gc US
 row : ∃ cs, wr.heap[fb]? = some (.cells cs 38 (0, 0)) /\ (n + 1) * 5 <= cs.size
 cp : ∀ j r, j < i -> r < 5 -> wr.cell? ⟨fb, j * 5 + r, none⟩ = wr.cell? ⟨gb, j * 5 + r, none⟩
 fl : fb < Bm
 ll : lb < Bm
 ml : Bm <= mb
 bel : Below w.heap.size w wr
theorem MX.next {w wr : World} {lb mb fb fc2 gb gc n Bm m1 m2 US i} (h : MX w wr lb mb fb fc2 gb gc n Bm m1 m2 US i) (hn : n = US.length) (hi : i < n) (hlo : w.heap.size <= fb) {y0 y1 y2 y3 y4 : Value} (e0 : wr.cell? ⟨gb, i * 5, none⟩ = some y0) (e1 : wr.cell? ⟨gb, i * 5 + 1, none⟩ = some y1) (e2 : wr.cell? ⟨gb, i * 5 + 2, none⟩ = some y2) (e3 : wr.cell? ⟨gb, i * 5 + 3, none⟩ = some y3) (e4 : wr.cell? ⟨gb, i * 5 + 4, none⟩ = some y4) :
 MX w (((((wr.setCell ⟨fb, i * 5, none⟩ y0).setCell ⟨fb, i * 5 + 1, none⟩ y1).setCell ⟨fb, i * 5 + 2, none⟩ y2).setCell ⟨fb, i * 5 + 3, none⟩ y3).setCell ⟨fb, i * 5 + 4, none⟩ y4) lb mb fb fc2 gb gc n Bm m1 m2 US (i + 1) := by
 obtain ⟨cs, hr, hs⟩ := h.row
 have hlb : lb ≠ fb := blk_type h.lbox hr (by decide)
 have hgb : gb ≠ fb := by have := h.lm.lo; have := h.fl; omega
 have oth : ∀ k, k ≠ fb -> (((((wr.setCell ⟨fb, i * 5, none⟩ y0).setCell ⟨fb, i * 5 + 1, none⟩ y1).setCell ⟨fb, i * 5 + 2, none⟩ y2).setCell ⟨fb, i * 5 + 3, none⟩ y3).setCell ⟨fb, i * 5 + 4, none⟩ y4).heap[k]? = wr.heap[k]? := fun k hk => by
  rw [heap_set_other hk, heap_set_other hk, heap_set_other hk, heap_set_other hk, heap_set_other hk]
 have s0 := heap_set_at (i := i * 5) (v := y0) hr
 have s1 := heap_set_at (i := i * 5 + 1) (v := y1) s0
 have s2 := heap_set_at (i := i * 5 + 2) (v := y2) s1
 have s3 := heap_set_at (i := i * 5 + 3) (v := y3) s2
 have s4 := heap_set_at (i := i * 5 + 4) (v := y4) s3
 have hsz : i * 5 + 5 <= cs.size := by omega
 have gcell : ∀ q, (((((wr.setCell ⟨fb, i * 5, none⟩ y0).setCell ⟨fb, i * 5 + 1, none⟩ y1).setCell ⟨fb, i * 5 + 2, none⟩ y2).setCell ⟨fb, i * 5 + 3, none⟩ y3).setCell ⟨fb, i * 5 + 4, none⟩ y4).cell? ⟨gb, q, none⟩ = wr.cell? ⟨gb, q, none⟩ := fun q => World.cell?_of_block (w := wr) (oth gb hgb)
 refine ⟨(oth lb hlb).trans h.lbox, (oth mb (by have := h.fl; have := h.ml; omega)).trans h.mbox, h.lm.only fun k hk _ => oth k (by have := h.fl; omega), ⟨_, s4, by simpa using hs⟩, fun j r hj hr' => ?_, h.fl, h.ll, h.ml, ((((h.bel.setCell hlo _).setCell hlo _).setCell hlo _).setCell hlo _).setCell hlo _⟩
 rw [gcell]
 by_cases e : j = i
 ·subst e
  have hc : ∀ u, (((((cs.setIfInBounds (j * 5) y0).setIfInBounds (j * 5 + 1) y1).setIfInBounds (j * 5 + 2) y2).setIfInBounds (j * 5 + 3) y3).setIfInBounds (j * 5 + 4) y4)[j * 5 + r]? = some u -> (((((wr.setCell ⟨fb, j * 5, none⟩ y0).setCell ⟨fb, j * 5 + 1, none⟩ y1).setCell ⟨fb, j * 5 + 2, none⟩ y2).setCell ⟨fb, j * 5 + 3, none⟩ y3).setCell ⟨fb, j * 5 + 4, none⟩ y4).cell? ⟨fb, j * 5 + r, none⟩ = some u := fun u hu => cell_arr s4 hu
  have hr5 : r = 0 \/ r = 1 \/ r = 2 \/ r = 3 \/ r = 4 := by omega
  rcases hr5 with rfl | rfl | rfl | rfl | rfl
  ·have hh := hc y0 (by simp [Array.getElem?_setIfInBounds]; omega)
   show _ = wr.cell? ⟨gb, j * 5, none⟩
   rw [e0]; exact hh
  ·rw [e1]; exact hc _ (by simp [Array.getElem?_setIfInBounds]; omega)
  ·rw [e2]; exact hc _ (by simp [Array.getElem?_setIfInBounds]; omega)
  ·rw [e3]; exact hc _ (by simp [Array.getElem?_setIfInBounds]; omega)
  ·rw [e4]; exact hc _ (by simp [Array.getElem?_setIfInBounds]; omega)
 ·rw [<- h.cp j r (by omega) hr']
  simp only [World.cell?, s4, hr]
  rw [Array.getElem?_setIfInBounds_ne (by omega), Array.getElem?_setIfInBounds_ne (by omega), Array.getElem?_setIfInBounds_ne (by omega), Array.getElem?_setIfInBounds_ne (by omega), Array.getElem?_setIfInBounds_ne (by omega)]
theorem MX.drew {w wr : World} {lb mb fb fc2 gb gc n Bm m1 m2 US i} (h : MX w wr lb mb fb fc2 gb gc n Bm m1 m2 US i) : MX w wr.drew lb mb fb fc2 gb gc n Bm m1 m2 US i := by
 obtain ⟨cs, hr, hs⟩ := h.row
 exact ⟨h.lbox, h.mbox, h.lm.only fun k _ _ => rfl, ⟨cs, hr, hs⟩, fun j r hj hr' => h.cp j r hj hr', h.fl, h.ll, h.ml, h.bel.drew⟩
theorem MX.fus {w wr : World} {lb mb fb fc2 gb gc n Bm m1 m2 US} (h : MX w wr lb mb fb fc2 gb gc n Bm m1 m2 US n) (hn : n = US.length) (hc : n <= fc2) (hm : fc2 <= 9223372036854775807) : Fus wr (some ⟨fb, 0, none⟩) fc2 US := by
 obtain ⟨cs, hr, _⟩ := h.row
 refine ⟨by omega, hm, fun _ => ⟨fb, 0, rfl, (gl hr), fun i hi => ?_⟩⟩
 obtain ⟨b, o, e, _, hA⟩ := h.lm.fus.out (by intro q; rw [q] at hi; simp at hi)
 cases e
 obtain ⟨ka, kc, la, lc, ma, mc, c0, c1, c2, c3, c4, h1, h2, h3⟩ := (hA i hi).out
 simp only [Nat.zero_add] at c0 c1 c2 c3 c4
 have f := fun r hr => h.cp i r (by omega) hr
 refine ⟨ka, kc, la, lc, ma, mc, ?_, ?_, ?_, ?_, ?_, h1, h2, h3⟩
 ·have := f 0 (by omega); simp only [Nat.add_zero, Nat.zero_add] at this ⊢; rw [this]; exact c0
 ·have := f 1 (by omega); simp only [Nat.zero_add]; rw [this]; exact c1
 ·have := f 2 (by omega); simp only [Nat.zero_add]; rw [this]; exact c2
 ·have := f 3 (by omega); simp only [Nat.zero_add]; rw [this]; exact c3
 ·have := f 4 (by omega); simp only [Nat.zero_add]; rw [this]; exact c4
theorem sum_len {g : Bk -> Nat} (h : ∀ b, b.phis.length + b.body.length <= g b) : ∀ l : List Bk, (l.map fun b => b.phis.length + b.body.length).sum <= (l.map g).sum
 | [] => by simp
 | b :: l => by have := sum_len h l; have := h b; simp; omega
theorem few_of {FS : List Fu} (hb : szS FS <= 1048576) : ∀ f ∈ FS, Few9 f := fun f hf => by
 have h1 := szF_le hf hb
 obtain ⟨a, b, c, d⟩ := szF_len h1
 refine ⟨by omega, by omega, fun v hv => by have := szV_le hv h1; omega, by omega, fun b hb2 => ?_⟩
 have := szB_le hb2 h1
 omega
theorem fewF_of {FS : List Fu} (hb : szS FS <= 1048576) (h2 : ∀ f ∈ FS, f.blks.length <= 2000) : ∀ f ∈ FS, FewF f := fun f hf => by
 have h1 := szF_le hf hb
 obtain ⟨a, b, c, d⟩ := szF_len h1
 refine ⟨by have := h2 f hf; omega, ?_⟩
 unfold totK
 rw [List.take_length]
 have h3 := sum_len (g := szB) (fun b => by have e : szB b = b.phis.length + b.body.length + b.ways.length + b.preds.length + 1 := rfl; omega) f.blks
 unfold szF at h1
 omega
end Go.Proofs.YtdbkjjelaipcfaaGreatDoor
