import Derived.Test.YtdbkjjelaipcfaaGreatDoorJay
import Derived.Test.YtdbkjjelaipcfaaGreatDoorJbf
set_option linter.unusedVariables false
set_option linter.unusedSimpArgs false
namespace Go.Proofs.YtdbkjjelaipcfaaGreatDoor
open Go.ChangeShapes Go.WideShapes Go.ChangeAt Go.RowKit Go.Maps
structure SmR (FS : List Fu) (e : Ending) : Prop where
 out : ∃ R : Bool, e = .returned (.bool R) /\ (R = true -> FS.length <= 300 /\ ∀ f ∈ FS, f.blks.length <= 2000)
structure SmI (FS : List Fu) (k : Nat) : Prop where
 out : ∀ i (h : i < FS.length), i < k -> FS[i].blks.length <= 2000
theorem le_sum9 : ∀ {l : List Nat} {x : Nat}, x ∈ l -> x <= l.sum
 | [], x, h => by simp at h
 | y :: l, x, h => by
   rcases List.mem_cons.1 h with rfl | h
   ·simp
   ·have := le_sum9 h; simp; omega
theorem szF_le {FS : List Fu} {f : Fu} (h : f ∈ FS) (hb : szS FS <= 1048576) : szF f <= 1048576 := by
 have := le_sum9 (List.mem_map_of_mem (f := szF) h)
 unfold szS at hb
 omega
theorem szV_le {f : Fu} {v : Vl} (h : v ∈ f.vals) (hb : szF f <= 1048576) : v.args.length <= 1048576 := by
 have := le_sum9 (List.mem_map_of_mem (f := szV) h)
 have e : szV v = v.args.length + 1 := rfl
 unfold szF at hb
 omega
theorem szB_le {f : Fu} {b : Bk} (h : b ∈ f.blks) (hb : szF f <= 1048576) : b.phis.length + b.body.length + b.ways.length + b.preds.length <= 1048576 := by
 have := le_sum9 (List.mem_map_of_mem (f := szB) h)
 have e : szB b = b.phis.length + b.body.length + b.ways.length + b.preds.length + 1 := rfl
 unfold szF at hb
 omega
theorem len_sum {α : Type} {g : α -> Nat} (hg : ∀ x, 1 <= g x) : ∀ l : List α, l.length <= (l.map g).sum
 | [] => by simp
 | x :: l => by have := len_sum hg l; have := hg x; simp; omega
theorem szF_len {f : Fu} (hb : szF f <= 1048576) : f.name.size <= 1048576 /\ f.params.length <= 1048576 /\ f.vals.length <= 1048576 /\ f.blks.length <= 1048576 := by
 have h1 := len_sum (g := szV) (fun v => by simp [szV]) f.vals
 have h2 := len_sum (g := szB) (fun v => by simp [szB]) f.blks
 unfold szF at hb
 omega
theorem square_le {n : Nat} (h : n * n <= 2000000) : n <= 2000 := by
 rcases Nat.lt_or_ge 2000 n with q | q
 ·have : 2001 * 2001 <= n * n := Nat.mul_le_mul q q
  omega
 ·exact q
set_option maxRecDepth 100000 in
set_option maxHeartbeats 8000000 in
theorem small_any (w : World) {fa : Option Addr} {fn fc : Nat} {mn : Int} {FS : List Fu} (hF : Fus w fa fc FS) (ef : fn = FS.length) (hbk : szS FS <= 1048576) :
 Calls Tryz.prog 8 #[.agg #[.slice fa fn fc, .int .i64 mn]] w fun e w' => SmR FS e /\ Below w.heap.size w w' := by
 have hfm : fn <= 9223372036854775807 := by have := hF.le; have := hF.mx; omega
 have HF : Hid (Fus w fa fc FS) := hF
 have HEF : Hid (fn = FS.length) := ef
 have HBK : Hid (szS FS <= 1048576) := hbk
 obtain ⟨W0, hW0⟩ : ∃ W, W = w.alloc (.cells #[.slice fa fn fc, .int .i64 mn] 24) := ⟨_, rfl⟩
 have HA0 : Hid (Af1 w (.cells #[.slice fa fn fc, .int .i64 mn] 24) W0) := by rw [hW0]; exact Af1.refl _ _
 clear hF ef hbk
 go_enter Tryz.func8, Tryz.ntmps8
 go_wp2_with fail
 rw [<- hW0]
 clear hW0
 go_loopw [3, 4] (fun nv iv wr => ∃ nn k : Nat, k <= fn /\ nn <= 2000000 /\ nv = .int .i64 nn /\ iv = .int .i64 k /\ Hid (Af1 w (.cells #[.slice fa fn fc, .int .i64 mn] 24) wr) /\ SmI FS k) (fun _ v _ => fn - (intOf v).toNat)
 case atStart => exact ⟨0, 0, by omega, by omega, rfl, rfl, HA0, ⟨fun i _ h => by omega⟩⟩
 case round =>
  clear HA0
  obtain ⟨wo, rfl⟩ : ∃ wo, wo = wr := ⟨_, rfl⟩
  obtain ⟨nn, k, hk, hnn, rfl, rfl, HA, HI⟩ := hrel
  have k0 : wo.cell? ⟨w.heap.size, 0, none⟩ = some (.slice fa fn fc) := cell_arr HA.out.one rfl
  have hl0 : w.heap.size < wo.heap.size := by have := HA.out.size; omega
  by_cases hlt : k < fn
  ·have hkf : k < FS.length := by have := HEF.out; omega
   obtain ⟨b', o', ka, kc, la, lc, ma, mc, rfl, hlt0, d0, d1, d2, d3, d4, j1, j2, j3⟩ := HF.out.at hkf
   have hlw := HA.out.low
   have c0 := (hlw.cell (p := ⟨b', o' + k * 5, none⟩) hlt0).trans d0
   have c1 := (hlw.cell (p := ⟨b', o' + k * 5 + 1, none⟩) hlt0).trans d1
   have c2 := (hlw.cell (p := ⟨b', o' + k * 5 + 2, none⟩) hlt0).trans d2
   have c3 := (hlw.cell (p := ⟨b', o' + k * 5 + 3, none⟩) hlt0).trans d3
   have c4 := (hlw.cell (p := ⟨b', o' + k * 5 + 4, none⟩) hlt0).trans d4
   have hlt' : b' < wo.heap.size := by have := hlw.size; omega
   have hsf := szF_le (List.getElem_mem hkf) HBK.out
   obtain ⟨f, hf⟩ : ∃ f, f = FS[k] := ⟨_, rfl⟩
   rw [<- hf] at c0 c1 c2 c3 c4 j1 j2 j3 hsf
   obtain ⟨m1, m2, m3, m4⟩ := szF_len hsf
   obtain ⟨pn, hpn⟩ : ∃ n, n = f.params.length := ⟨_, rfl⟩
   obtain ⟨vn, hvn⟩ : ∃ n, n = f.vals.length := ⟨_, rfl⟩
   obtain ⟨bn, hbn⟩ : ∃ n, n = f.blks.length := ⟨_, rfl⟩
   obtain ⟨s, hs⟩ : ∃ n, n = f.name := ⟨_, rfl⟩
   obtain ⟨r, hr⟩ : ∃ n, n = f.result := ⟨_, rfl⟩
   rw [<- hs] at c0 m1
   rw [<- hpn] at c1 m2
   rw [<- hr] at c2
   rw [<- hvn] at c3 m3
   rw [<- hbn] at c4 m4
   have HE : Hid (f = FS[k] /\ pn = f.params.length /\ vn = f.vals.length /\ bn = f.blks.length /\ szF f <= 1048576) := ⟨hf, hpn, hvn, hbn, hsf⟩
   have HJ2 : Hid (Vls w la lc f.vals) := j2
   have HJ3 : Hid (Bks w ma mc f.blks) := j3
   have hlac : vn <= lc := by have := j2.le; omega
   have hlcm : lc <= 9223372036854775807 := j2.mx
   have hmac : bn <= mc := by have := j3.le; omega
   have hmcm : mc <= 9223372036854775807 := j3.mx
   have hkap : pn <= kc := by have := j1.le; omega
   have hkcm : kc <= 9223372036854775807 := j1.mx
   obtain ⟨q, hq⟩ : ∃ q, q = bn * bn := ⟨_, rfl⟩
   have hqm : q <= 1099511627776 := by
    have : bn * bn <= 1048576 * 1048576 := Nat.mul_le_mul m4 m4
    omega
   have hqe : (bn : Int) * (bn : Int) = (q : Int) := by rw [hq]; simp
   obtain ⟨dz, hdz⟩ : ∃ d, d = s.size / 65 := ⟨_, rfl⟩
   have hdm : dz <= 1048576 := by omega
   have hde : Int.tdiv (s.size : Int) 65 = (dz : Int) := by rw [hdz]; rfl
   have HQ : Hid (q = bn * bn) := hq
   obtain ⟨W1, hW1⟩ : ∃ W, W = wo.alloc (.cells #[.string s, .slice ka pn kc, .int .i64 r, .slice la vn lc, .slice ma bn mc] 38) := ⟨_, rfl⟩
   obtain ⟨B3, hB3⟩ : ∃ B, B = wo.heap.size := ⟨_, rfl⟩
   have HA1 : Hid (Af1 w (.cells #[.slice (some ⟨b', o', none⟩) fn fc, .int .i64 mn] 24) W1) := by rw [hW1]; exact HA.out.next (below_new _ _)
   have HK1 : Hid (W1.heap[B3]? = some (.cells #[.string s, .slice ka pn kc, .int .i64 r, .slice la vn lc, .slice ma bn mc] 38 (0, 0))) := by rw [hW1, hB3]; exact heap_alloc_new wo _
   clear hf hpn hvn hbn hs hr hsf j1 j2 j3 d0 d1 d2 d3 d4 hlw hq hdz
   go_wp2_with fail
   -- the values
   rw [<- hW1]
   rw [<- hB3]
   obtain ⟨n0, hn0⟩ : ∃ n0, n0 = nn + (dz + pn + q) := ⟨_, rfl⟩
   clear hW1 hB3 c0 c1 c2 c3 c4 k0 hqe hde
   have g3 : W1.cell? ⟨B3, 3, none⟩ = some (.slice la vn lc) := cell_arr HK1.out rfl
   have hb3 : B3 < W1.heap.size := (gl HK1.out)
   have HW1 : Hid (W1 = W1) := rfl
   go_loopw [3, 6] (fun nv jv wq => ∃ x j : Nat, j <= vn /\ n0 <= x /\ (x <= n0 \/ x <= 5000000) /\ nv = .int .i64 x /\ jv = .int .i64 j /\ wq = W1) (fun _ v _ => vn - (intOf v).toNat)
   case atStart => exact ⟨n0, 0, by omega, by omega, by omega, by first | (congr 1; omega) | (simp; done) | (simp; omega), rfl, by first | rfl | trivial⟩
   case round =>
    obtain ⟨x, j, hj, hx1, hx2, rfl, rfl, e⟩ := hrel
    subst e
    by_cases hjv : j < vn
    ·by_cases hx3 : x <= 2000000
     ·have hd3 : decide ((x : Int) <= 2000000) = true := by simp; omega
      have hjf : j < f.vals.length := by have := HE.out.2.2.1; omega
      obtain ⟨bv, ov, aa, ac, rfl, hlv, _, _, _, r3, ri⟩ := HJ2.out.at4 hjf
      have p3 := (HA1.out.low.cell (p := ⟨bv, ov + j * 4 + 3, none⟩) hlv).trans r3
      have hbvl : bv < wr.heap.size := by have := HA1.out.low.size; omega
      have hal := szV_le (List.getElem_mem hjf) HE.out.2.2.2.2
      have hac := ri.le
      have hacm := ri.mx
      clear r3 ri
      generalize f.vals[j].args.length = al at p3 hal hac
      go_wp2_with fail
      go_roundw
      case rel => exact ⟨x + (1 + al), j + 1, by omega, by omega, by omega, by first | (congr 1; omega) | (simp; done) | (simp; omega), by go_num, by first | rfl | trivial⟩
      case measure => simp [intOf]; omega
     ·have hd3 : decide ((x : Int) <= 2000000) = false := by simp; omega
      go_wp2_with fail
      obtain ⟨xe, hxe⟩ : ∃ xe, xe = x := ⟨_, rfl⟩
      have hxn : n0 <= xe := by omega
      have hxm : xe <= 1200000000000 := by omega
      have hx9 : ¬ xe <= 2000000 := by omega
      clear hx3
      clear hd3
      rw [<- hxe]
      clear hxe hx1 hx2
      go_loopw [3, 7] (fun nv jv wq => ∃ x i : Nat, i <= bn /\ xe <= x /\ (x <= xe \/ x <= 5000000) /\ nv = .int .i64 x /\ jv = .int .i64 i /\ Hid (Af1 w (.cells #[.slice (some ⟨b', o', none⟩) fn fc, .int .i64 mn] 24) wq) /\ Hid (wq.heap[B3]? = some (.cells #[.string s, .slice ka pn kc, .int .i64 r, .slice la vn lc, .slice ma bn mc] 38 (0, 0)))) (fun _ v _ => bn - (intOf v).toNat)
      case atStart => exact ⟨xe, 0, by omega, by omega, by omega, rfl, rfl, HA1, HK1⟩
      case round =>
       clear HA1 HK1 g3 hb3
       obtain ⟨wu, rfl⟩ : ∃ wu, wu = wr := ⟨_, rfl⟩
       obtain ⟨x, i, hi, hx1, hx2, rfl, rfl, HA1, HK1⟩ := hrel
       have g4 : wu.cell? ⟨B3, 4, none⟩ = some (.slice ma bn mc) := cell_arr HK1.out rfl
       have hb3 : B3 < wu.heap.size := (gl HK1.out)
       by_cases hib : i < bn
       ·have hd3 : decide ((x : Int) <= 2000000) = false := by simp; omega
        go_wp2_with fail
        have hd9 : decide ((2000000 : Int) < (x : Int)) = true := by simp; omega
        have hd8 : decide (2000000 < x) = true := by simp; omega
        have hd7 : (2000000 : Int) < (x : Int) := by omega
        go_wp2_with fail
        go_ret
        exact ⟨⟨false, rfl, fun h => by cases h⟩, HA1.out.low⟩
       ·have hib2 : ¬ (i : Int) < (bn : Int) := by omega
        have hd9 : decide ((2000000 : Int) < (x : Int)) = true := by simp; omega
        have hd8 : decide (2000000 < x) = true := by simp; omega
        have hd7 : (2000000 : Int) < (x : Int) := by omega
        go_wp2_with fail
        go_ret
        exact ⟨⟨false, rfl, fun h => by cases h⟩, HA1.out.low⟩
    ·go_wp2_with fail
     obtain ⟨xe, hxe⟩ : ∃ xe, xe = x := ⟨_, rfl⟩
     have hxn : n0 <= xe := by omega
     have hxm : xe <= 1200000000000 := by omega
     rw [<- hxe]
     clear hxe hx1 hx2
     go_loopw [3, 7] (fun nv jv wq => ∃ x i : Nat, i <= bn /\ xe <= x /\ (x <= xe \/ x <= 5000000) /\ nv = .int .i64 x /\ jv = .int .i64 i /\ Hid (Af1 w (.cells #[.slice (some ⟨b', o', none⟩) fn fc, .int .i64 mn] 24) wq) /\ Hid (wq.heap[B3]? = some (.cells #[.string s, .slice ka pn kc, .int .i64 r, .slice la vn lc, .slice ma bn mc] 38 (0, 0)))) (fun _ v _ => bn - (intOf v).toNat)
     case atStart => exact ⟨xe, 0, by omega, by omega, by omega, rfl, rfl, HA1, HK1⟩
     case round =>
      clear HA1 HK1 g3 hb3
      obtain ⟨wu, rfl⟩ : ∃ wu, wu = wr := ⟨_, rfl⟩
      obtain ⟨x, i, hi, hx1, hx2, rfl, rfl, HA1, HK1⟩ := hrel
      have g4 : wu.cell? ⟨B3, 4, none⟩ = some (.slice ma bn mc) := cell_arr HK1.out rfl
      have hb3 : B3 < wu.heap.size := (gl HK1.out)
      by_cases hib : i < bn
      ·by_cases hx3 : x <= 2000000
       ·have hd3 : decide ((x : Int) <= 2000000) = true := by simp; omega
        have hif : i < f.blks.length := by have := HE.out.2.2.2.1; omega
        obtain ⟨xb, xo, k1a, k1c, k2a, k2c, k3a, k3c, k4a, k4c, rfl, hlx, r0, r1, r2, r3, r4, r5, i1, i2, i3, i4⟩ := HJ3.out.at hif
        have hlw := HA1.out.low
        have p0 := (hlw.cell (p := ⟨xb, xo + i * 6, none⟩) hlx).trans r0
        have p1 := (hlw.cell (p := ⟨xb, xo + i * 6 + 1, none⟩) hlx).trans r1
        have p2 := (hlw.cell (p := ⟨xb, xo + i * 6 + 2, none⟩) hlx).trans r2
        have p3 := (hlw.cell (p := ⟨xb, xo + i * 6 + 3, none⟩) hlx).trans r3
        have p4 := (hlw.cell (p := ⟨xb, xo + i * 6 + 4, none⟩) hlx).trans r4
        have p5 := (hlw.cell (p := ⟨xb, xo + i * 6 + 5, none⟩) hlx).trans r5
        have hxl : xb < wu.heap.size := by have := hlw.size; omega
        have hsb := szB_le (List.getElem_mem hif) HE.out.2.2.2.2
        have hy1 := i1.le
        have hy2 := i2.le
        have hy3 := i3.le
        have hy4 := i4.le
        have hz1 := i1.mx
        have hz2 := i2.mx
        have hz3 := i3.mx
        have hz4 := i4.mx
        clear r0 r1 r2 r3 r4 r5 i1 i2 i3 i4 hlw
        generalize f.blks[i] = bk at p0 p1 p2 p3 p4 p5 hsb hy1 hy2 hy3 hy4
        obtain ⟨PH, BO, kd, vl, WY, PR⟩ := bk
        simp only at p0 p1 p2 p3 p4 p5 hsb hy1 hy2 hy3 hy4
        generalize PH.length = l1 at p0 hsb hy1
        generalize BO.length = l2 at p1 hsb hy2
        generalize WY.length = l3 at p4 hsb hy3
        generalize PR.length = l4 at p5 hsb hy4
        obtain ⟨W2, hW2⟩ : ∃ W, W = wu.alloc (.cells #[.slice k1a l1 k1c, .slice k2a l2 k2c, .int .i64 kd, .int .i64 vl, .slice k3a l3 k3c, .slice k4a l4 k4c] 46) := ⟨_, rfl⟩
        have HA2 : Hid (Af1 w (.cells #[.slice (some ⟨b', o', none⟩) fn fc, .int .i64 mn] 24) W2) := by rw [hW2]; exact HA1.out.next (below_new _ _)
        have HK2 : Hid (W2.heap[B3]? = wu.heap[B3]?) := by rw [hW2]; exact heap_alloc_old _ _ hb3
        go_wp2_with fail
        rw [<- hW2]
        go_roundw
        case rel => exact ⟨x + (1 + l1 + l2 + l4 + l3), i + 1, by omega, by omega, by omega, by first | (congr 1; omega) | (simp; done) | (simp; omega), by go_num, HA2, by have := HK2.out.trans HK1.out; exact this⟩
        case measure => simp [intOf]; omega
       ·have hd3 : decide ((x : Int) <= 2000000) = false := by simp; omega
        go_wp2_with fail
        have hd9 : decide ((2000000 : Int) < (x : Int)) = true := by simp; omega
        have hd8 : decide (2000000 < x) = true := by simp; omega
        have hd7 : (2000000 : Int) < (x : Int) := by omega
        go_wp2_with fail
        go_ret
        exact ⟨⟨false, rfl, fun h => by cases h⟩, HA1.out.low⟩
      ·have hib2 : ¬ (i : Int) < (bn : Int) := by omega
       by_cases hx9 : x <= 2000000
       ·have hd9 : decide ((2000000 : Int) < (x : Int)) = false := by simp; omega
        have hd8 : decide (2000000 < x) = false := by simp; omega
        have hd7 : ¬ (2000000 : Int) < (x : Int) := by omega
        have HIN : SmI FS (k + 1) := ⟨fun i h hi => by
         by_cases e : i = k
         ·subst e
          have h2 := HQ.out
          have h1 := square_le (n := bn) (by omega)
          have h3 := HE.out.2.2.2.1
          rw [<- HE.out.1]
          omega
         ·exact HI.out i h (by omega)⟩
        go_wp2_with fail
        go_roundw
        case rel => exact ⟨x, k + 1, by omega, by omega, rfl, by go_num, HA1, HIN⟩
        case measure => simp [intOf]; omega
       ·have hd9 : decide ((2000000 : Int) < (x : Int)) = true := by simp; omega
        go_wp2_with fail
        go_ret
        exact ⟨⟨false, rfl, fun h => by cases h⟩, HA1.out.low⟩
  ·have hd0 : decide ((fn : Int) <= 300) = decide (FS.length <= 300) := by rw [HEF.out]; simp only [decide_eq_decide]; omega
   go_wp2_with fail
   go_ret
   refine ⟨⟨decide (FS.length <= 300), by rw [<- hd0]; rfl, fun h => ⟨by simpa using h, fun f hf => ?_⟩⟩, HA.out.low⟩
   obtain ⟨i, hi, rfl⟩ := List.getElem_of_mem hf
   exact HI.out i hi (by have := HEF.out; omega)
structure T3 (w : World) (g n : Nat) (Q : List (Int × Int)) (O : List Int) : Prop where
 lq : Q.length = n
 lo : O.length = n
 out : ∃ cs : Array Value, w.heap[g]? = some (.cells cs 77 (0, 0)) /\ cs.size = n * 3 /\ ∀ i, i < n -> cs[i * 3]? = some (.int .i64 (Q.getD i (0, 0)).1) /\ cs[i * 3 + 1]? = some (.int .i64 (Q.getD i (0, 0)).2) /\ cs[i * 3 + 2]? = some (.int .i64 (O.getD i 0))
theorem T3.lt {w g n Q O} (h : T3 w g n Q O) : g < w.heap.size := by
 obtain ⟨cs, hr, _⟩ := h.out
 exact (gl hr)
theorem T3.cell {w g n Q O} (h : T3 w g n Q O) {i : Nat} (hi : i < n) : w.cell? ⟨g, i * 3, none⟩ = some (.int .i64 (Q.getD i (0, 0)).1) /\ w.cell? ⟨g, i * 3 + 1, none⟩ = some (.int .i64 (Q.getD i (0, 0)).2) /\ w.cell? ⟨g, i * 3 + 2, none⟩ = some (.int .i64 (O.getD i 0)) /\ w.frozen? ⟨g, i * 3, none⟩ = false /\ w.frozen? ⟨g, i * 3 + 1, none⟩ = false /\ w.frozen? ⟨g, i * 3 + 2, none⟩ = false := by
 obtain ⟨cs, hr, hs, hc⟩ := h.out
 obtain ⟨h1, h2, h3⟩ := hc i hi
 exact ⟨cell_arr hr h1, cell_arr hr h2, cell_arr hr h3, fz_of hr, fz_of hr, fz_of hr⟩
theorem T3.keep {w w' : World} {g n Q O} (h : T3 w g n Q O) (hb : Below w.heap.size w w') : T3 w' g n Q O := by
 have hlt := h.lt
 obtain ⟨cs, hr, hs, hc⟩ := h.out
 exact ⟨h.lq, h.lo, cs, (hb.block _ hlt).trans hr, hs, hc⟩
theorem set3_ne (cs : Array Value) {i x j : Nat} (a b c : Value) (h0 : ¬ j = i * 3) (h1 : ¬ j = i * 3 + 1) (h2 : ¬ j = i * 3 + 2) : (((cs.setIfInBounds (i * 3) a).setIfInBounds (i * 3 + 1) b).setIfInBounds (i * 3 + 2) c)[j]? = cs[j]? := by
 rw [Array.getElem?_setIfInBounds_ne (by omega), Array.getElem?_setIfInBounds_ne (by omega), Array.getElem?_setIfInBounds_ne (by omega)]
theorem T3.put {w : World} {g n Q O} (h : T3 w g n Q O) {i : Nat} (hi : i < n) (a b c : Int) : T3 (((w.setCell ⟨g, i * 3, none⟩ (.int .i64 a)).setCell ⟨g, i * 3 + 1, none⟩ (.int .i64 b)).setCell ⟨g, i * 3 + 2, none⟩ (.int .i64 c)) g n (Q.set i (a, b)) (O.set i c) := by
 obtain ⟨cs, hr, hs, hc⟩ := h.out
 refine ⟨by simpa using h.lq, by simpa using h.lo, _, heap_set_at (heap_set_at (heap_set_at hr)), by simpa using hs, fun j hj => ?_⟩
 by_cases e : i = j
 ·subst e
  have e1 : (Q.set i (a, b)).getD i (0, 0) = (a, b) := by simp [List.getD_eq_getElem?_getD, h.lq, hi]
  have e2 : (O.set i c).getD i 0 = c := by simp [List.getD_eq_getElem?_getD, h.lo, hi]
  rw [e1, e2]
  refine ⟨?_, ?_, ?_⟩
  ·rw [Array.getElem?_setIfInBounds_ne (by omega), Array.getElem?_setIfInBounds_ne (by omega), Array.getElem?_setIfInBounds_self_of_lt (by omega)]
  ·rw [Array.getElem?_setIfInBounds_ne (by omega), Array.getElem?_setIfInBounds_self_of_lt (by rw [Array.size_setIfInBounds]; omega)]
  ·rw [Array.getElem?_setIfInBounds_self_of_lt (by rw [Array.size_setIfInBounds, Array.size_setIfInBounds]; omega)]
 ·have e1 : (Q.set i (a, b)).getD j (0, 0) = Q.getD j (0, 0) := by simp [List.getD_eq_getElem?_getD, List.getElem?_set, e]
  have e2 : (O.set i c).getD j 0 = O.getD j 0 := by simp [List.getD_eq_getElem?_getD, List.getElem?_set, e]
  rw [e1, e2, set3_ne (x := 0) _ _ _ _ (by omega) (by omega) (by omega), set3_ne (x := 0) _ _ _ _ (by omega) (by omega) (by omega), set3_ne (x := 0) _ _ _ _ (by omega) (by omega) (by omega)]
  exact hc j hj
theorem info_p3 : (Tryz.prog.info? 77).map (fun i => (i.zero, i.size, i.bytes)) = some (some (.agg #[.int .i64 0, .int .i64 0, .int .i64 0]), 3, 24) := by kernel_rfl
theorem run_places3 (n : Nat) (h : n <= 100000000) (w : World) : (Instr.makeSlice 74 (.int .i64 (n : Int)) (.int .i64 (n : Int))).run Tryz.prog w = .ok (.slice (some ⟨w.heap.size, 0, none⟩) n n) (w.alloc (.cells (madeCells #[.int .i64 0, .int .i64 0, .int .i64 0] (n * 3)) 77)) := by
 obtain ⟨i0, hi, hz0, hz1, hz2⟩ := info_parts info_p3
 have hr := run_make (P := Tryz.prog) w 74 77 i0 (.agg #[.int .i64 0, .int .i64 0, .int .i64 0]) Tryz.underlying74 hi hz0 .i64 .i64 n n (by omega) (by omega) (by rw [hz2]; omega) (by omega)
 simp only [Int.toNat_natCast, hz1] at hr
 exact hr
theorem T3.start (w : World) (n : Nat) : T3 (w.alloc (.cells (madeCells #[.int .i64 0, .int .i64 0, .int .i64 0] (n * 3)) 77)) w.heap.size n (List.replicate n (0, 0)) (List.replicate n 0) := by
 refine ⟨by simp, by simp, _, heap_alloc_new w _, by rw [size_madeCells], fun i hi => ?_⟩
 have key : ∀ j, j < n * 3 -> (madeCells #[.int .i64 0, .int .i64 0, .int .i64 0] (n * 3))[j]? = some (.int .i64 0) := fun j hj => by
  rw [Array.getElem?_eq_getElem (by rw [size_madeCells]; exact hj)]
  simp only [madeCells, Array.getElem_map, Array.getElem_range]
  rcases (show j % 3 = 0 \/ j % 3 = 1 \/ j % 3 = 2 by omega) with e | e | e
  ·show some (#[Value.int .i64 0, Value.int .i64 0, Value.int .i64 0][j % 3]!) = _; rw [e]; rfl
  ·show some (#[Value.int .i64 0, Value.int .i64 0, Value.int .i64 0][j % 3]!) = _; rw [e]; rfl
  ·show some (#[Value.int .i64 0, Value.int .i64 0, Value.int .i64 0][j % 3]!) = _; rw [e]; rfl
 have e1 : (List.replicate n ((0 : Int), (0 : Int))).getD i (0, 0) = (0, 0) := by simp [List.getD_eq_getElem?_getD, hi]
 have e2 : (List.replicate n (0 : Int)).getD i 0 = 0 := by simp [List.getD_eq_getElem?_getD, hi]
 rw [e1, e2]
 exact ⟨key _ (by omega), key _ (by omega), key _ (by omega)⟩
theorem cntL_bd : ∀ (L O : List Int) (K : Nat), (∀ i, 0 <= O.getD i 0 /\ O.getD i 0 <= K) -> ∀ i, 0 <= (cntL O L).getD i 0 /\ (cntL O L).getD i 0 <= ((K + L.length : Nat) : Int)
 | [], O, K, h, i => by simpa [cntL] using h i
 | x :: L, O, K, h, i => by
   have := cntL_bd L (O.set x.toNat (O.getD x.toNat 0 + 1)) (K + 1) (fun j => by
    have h1 := h j
    have h2 := h x.toNat
    by_cases e : x.toNat = j
    ·subst e
     by_cases hl : x.toNat < O.length
     ·have : (O.set x.toNat (O.getD x.toNat 0 + 1)).getD x.toNat 0 = O.getD x.toNat 0 + 1 := by simp [List.getD_eq_getElem?_getD, hl]
      rw [this]; omega
     ·rw [List.set_eq_of_length_le (by omega)]; omega
    ·have : (O.set x.toNat (O.getD x.toNat 0 + 1)).getD j 0 = O.getD j 0 := by simp [List.getD_eq_getElem?_getD, List.getElem?_set, e]
     rw [this]; omega) i
   simp only [List.length_cons]
   rw [show K + (L.length + 1) = K + 1 + L.length by omega]
   exact this
theorem cntK_bd (f : Fu) : ∀ k, k <= f.blks.length -> ∀ i, 0 <= (cntK f k).getD i 0 /\ (cntK f k).getD i 0 <= (totK f k : Int)
 | 0, _ => fun i => by
   have := cntL_bd f.params (List.replicate f.vals.length 0) 0 (fun j => by
    have : (List.replicate f.vals.length (0 : Int)).getD j 0 = 0 := by rw [List.getD_eq_getElem?_getD, List.getElem?_replicate]; split <;> rfl
    rw [this]; simp) i
   simpa [cntK, totK] using this
 | k + 1, hk => fun i => by
   rw [cntK_next f (by omega : k < f.blks.length), totK_next f (by omega : k < f.blks.length)]
   unfold cntB
   have h1 := cntL_bd (f.blks[k]'(by omega)).phis (cntK f k) (totK f k) (cntK_bd f k (by omega))
   have h2 := cntL_bd (f.blks[k]'(by omega)).body _ _ h1 i
   rw [<- Nat.add_assoc]
   exact h2
structure P3 (w wr : World) (A : Obj) (n : Nat) (Q : List (Int × Int)) (O : List Int) : Prop where
 fo : wr.heap[w.heap.size]? = some A
 row : T3 wr (w.heap.size + 1) n Q O
 low : Below w.heap.size w wr
theorem P3.put {w wr : World} {A n Q O} (h : P3 w wr A n Q O) {i : Nat} (hi : i < n) (a b c : Int) : P3 w (((wr.setCell ⟨w.heap.size + 1, i * 3, none⟩ (.int .i64 a)).setCell ⟨w.heap.size + 1, i * 3 + 1, none⟩ (.int .i64 b)).setCell ⟨w.heap.size + 1, i * 3 + 2, none⟩ (.int .i64 c)) A n (Q.set i (a, b)) (O.set i c) :=
 ⟨(heap_set_other (by omega)).trans ((heap_set_other (by omega)).trans ((heap_set_other (by omega)).trans h.fo)), h.row.put hi a b c,
   ((h.low.setCell (by show w.heap.size <= w.heap.size + 1; omega) _).setCell (by show w.heap.size <= w.heap.size + 1; omega) _).setCell (by show w.heap.size <= w.heap.size + 1; omega) _⟩
theorem P3.next {w wr w' : World} {A n Q O} (h : P3 w wr A n Q O) (hb : Below wr.heap.size wr w') : P3 w w' A n Q O :=
 ⟨(hb.block _ (gl h.fo)).trans h.fo, h.row.keep hb, h.low.trans (hb.mono h.low.size)⟩
end Go.Proofs.YtdbkjjelaipcfaaGreatDoor
