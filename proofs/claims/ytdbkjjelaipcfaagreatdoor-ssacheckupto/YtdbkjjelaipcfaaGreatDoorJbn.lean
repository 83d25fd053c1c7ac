import Derived.Deep.RegionHeld
import Derived.Test.YtdbkjjelaipcfaaGreatDoorJbm
set_option linter.unusedVariables false
set_option linter.unusedSimpArgs false
namespace Go.Proofs.YtdbkjjelaipcfaaGreatDoor
open Go.ChangeShapes Go.WideShapes Go.ChangeAt Go.RowKit Go.Maps
theorem SG.af {w wr : World} {A : Obj} {sb wg toa toc pg n vn f} (h : SG (w.alloc A) wr sb wg toa toc pg n vn f) : Af1 w A wr := ⟨by have := h.low; simpa using this⟩
theorem Ints.blk {w : World} {b o c : Nat} {L : List Int} (h : Ints w (some ⟨b, o, none⟩) c L) {j : Nat} (hj : j < L.length) : b < w.heap.size := by
 obtain ⟨b', o', e, hc⟩ := h.at hj
 cases e
 exact cell_lt hc
theorem SG.wlt {w0 w : World} {sb wg toa toc pg n vn f} (h : SG w0 w sb wg toa toc pg n vn f) : wg < w.heap.size := by
 obtain ⟨cs, hr, _⟩ := h.wo
 exact (gl hr)
set_option maxRecDepth 100000 in
set_option maxHeartbeats 8000000 in
theorem rUses_any (w : World) {fa : Option Addr} {fn fc : Nat} {s : ByteArray} {pa : Option Addr} {pn pc : Nat} {r : Int} {va : Option Addr} {vn vc : Nat} {ba : Option Addr} {bn bc : Nat} {FS : List Fu} {f : Fu} (X : RX w fa fn fc s pa pn pc r va vn vc ba bn bc FS f) (hf : formP FS f = true) (hbn : bn <= 1000000) (hbulk : totK f f.blks.length <= 1000000000) (hph : phisP f = true) (hre : reachedP f = true) (hon : onceP f = true) :
 Calls Tryz.prog 48 #[.agg #[.string s, .slice pa pn pc, .int .i64 r, .slice va vn vc, .slice ba bn bc]] w fun e w' => e = .returned (.bool (ruP f)) /\ Below w.heap.size w w' := by
 have hgd := ways_good hf
 have hvl := (formP_params hf).2.1
 have hvn : vn <= 300000 := by have := X.ev; omega
 unfold ruP
 obtain ⟨RC, hRC⟩ : ∃ R, evr (rub f) 0 f.blks = R := ⟨_, rfl⟩
 rw [hRC]
 have HC0 : Hid (EvR (rub f) f.blks 0 RC) := ⟨by simpa using hRC⟩
 have HX : Hid (RX w fa fn fc s pa pn pc r va vn vc ba bn bc FS f) := X
 have HBL : Hid (∀ b ∈ f.blks, blockP f b = true) := (formP_blocks hf).2
 have HAG : Hid (∀ x, wi f.vals.length x = true -> ∀ y ∈ (gv f x).args, wi f.vals.length y = true) := fun x hx => gv_args hf hx
 have HPH : Hid (∀ b ∈ f.blks, phiB f b = true) := by
  simp only [phisP, Bool.and_eq_true, List.all_eq_true] at hph
  exact hph.2
 have HSE : Hid (Calls Tryz.prog 91 #[.agg #[.string s, .slice pa pn pc, .int .i64 r, .slice va vn vc, .slice ba bn bc]] (w.alloc (.cells #[.string s, .slice pa pn pc, .int .i64 r, .slice va vn vc, .slice ba bn bc] 38)) fun e w' => ∃ sb wg toa toc pg, e = .returned (.pointer (some ⟨sb, 0, none⟩)) /\ SG (w.alloc (.cells #[.string s, .slice pa pn pc, .int .i64 r, .slice va vn vc, .slice ba bn bc] 38)) w' sb wg toa toc pg bn vn f) := rSee_any _ (X.below (below_new _ _)) hf hbn hbulk
 have HAE : Hid (∀ (w' : World) (sb wg : Nat) (toa : Option Addr) (toc pg : Nat), SG (w.alloc (.cells #[.string s, .slice pa pn pc, .int .i64 r, .slice va vn vc, .slice ba bn bc] 38)) w' sb wg toa toc pg bn vn f -> ∀ v k : Nat, v < vn -> k < bn -> ∀ R, rtP f (v : Int) (k : Int) = R -> Calls Tryz.prog 92 #[.pointer (some ⟨sb, 0, none⟩), .int .i64 v, .int .i64 k] w' fun e w'' => e = .returned (.bool R) /\ (SG (w.alloc (.cells #[.string s, .slice pa pn pc, .int .i64 r, .slice va vn vc, .slice ba bn bc] 38)) w'' sb wg toa toc pg bn vn f) /\ Off wg w' w'') := fun w' sb wg toa toc pg g v k hv hk R hR => rAtEnd_any _ w' g hgd hon X.eb X.ev hbn (by omega) v k hv hk R hR
 have hbx : bn <= 9223372036854775807 := by omega
 obtain ⟨y0, y1, y2, y3, y4, xs⟩ := af1_f5 (Af1.refl w (.cells #[.string s, .slice pa pn pc, .int .i64 r, .slice va vn vc, .slice ba bn bc] 38))
 clear hRC X hf hbulk hgd hvl hph hre hon
 go_enter Tryz.func48, Tryz.ntmps48
 go_wp2_with (first | (go_at_call 91; refine HSE.out.mono ?_; rintro e w1 ⟨sb, wg, toa, toc, pg, rfl, hg1⟩; have HG1 : Hid _ := hg1; obtain ⟨z0, z1, z2, z3, z4, zs⟩ := af1_f5 hg1.af))
 clear y0 y1 y2 y3 y4 xs hg1 HSE
 go_loopw [4] (fun v wr => ∃ k : Nat, k <= bn /\ v = .int .i64 k /\ Hid (EvR (rub f) f.blks k RC) /\ Hid (SG (w.alloc (.cells #[.string s, .slice pa pn pc, .int .i64 r, .slice va vn vc, .slice ba bn bc] 38)) wr sb wg toa toc pg bn vn f)) (fun v _ => bn - (intOf v).toNat)
 case atStart => exact ⟨0, by omega, rfl, HC0, HG1⟩
 case round =>
  clear HC0 HG1 z0 z1 z2 z3 z4 zs
  obtain ⟨k, hk, rfl, HP, HG⟩ := hrel
  obtain ⟨y0, y1, y2, y3, y4, xs⟩ := af1_f5 HG.out.af
  by_cases hlt : k < bn
  ·have hkf : k < f.blks.length := by have := HX.out.eb; omega
   obtain ⟨b', o', ka, kc, la, lc, ma, mc, na, nc, rfl, hlt0, d0, d1, d2, d3, d4, d5, j1, j2, j3, j4⟩ := HX.out.hB.at hkf
   have hlw := HG.out.af.low
   have c0 := (hlw.cell (p := ⟨b', o' + k * 6, none⟩) hlt0).trans d0
   have c1 := (hlw.cell (p := ⟨b', o' + k * 6 + 1, none⟩) hlt0).trans d1
   have c2 := (hlw.cell (p := ⟨b', o' + k * 6 + 2, none⟩) hlt0).trans d2
   have c3 := (hlw.cell (p := ⟨b', o' + k * 6 + 3, none⟩) hlt0).trans d3
   have c4 := (hlw.cell (p := ⟨b', o' + k * 6 + 4, none⟩) hlt0).trans d4
   have c5 := (hlw.cell (p := ⟨b', o' + k * 6 + 5, none⟩) hlt0).trans d5
   have hlt' : b' < wr.heap.size := by have := hlw.size; omega
   have hwl := HG.out.wlt
   have hmem := List.getElem_mem hkf
   have hbp := blockP_ph (HBL.out _ hmem)
   have hpr : ∀ x ∈ f.blks[k].preds, wi f.blks.length x = true := by
    have := HBL.out _ hmem
    simp only [blockP, Bool.and_eq_true, List.all_eq_true] at this
    exact this.2.2.1
   have hpb := HPH.out _ hmem
   have htm := (blockP_kind (HBL.out _ hmem)).2
   have HN := HP.out.next hkf
   clear d0 d1 d2 d3 d4 d5 hmem
   generalize f.blks[k] = b at c0 c1 c2 c3 c4 c5 j1 j2 j3 j4 hbp hpr hpb htm HN
   obtain ⟨PH, BO, kd, vl, WY, PR⟩ := b
   simp only at c0 c1 c2 c3 c4 c5 j1 j2 j3 j4 hbp hpr htm
   obtain ⟨l1, hl1⟩ : ∃ l, l = PH.length := ⟨_, rfl⟩
   obtain ⟨l2, hl2⟩ : ∃ l, l = BO.length := ⟨_, rfl⟩
   obtain ⟨l3, hl3⟩ : ∃ l, l = WY.length := ⟨_, rfl⟩
   obtain ⟨l4, hl4⟩ : ∃ l, l = PR.length := ⟨_, rfl⟩
   rw [<- hl1] at c0
   rw [<- hl2] at c1
   rw [<- hl3] at c4
   rw [<- hl4] at c5
   obtain ⟨R5, hR5⟩ : ∃ R, evr (fun _ phi => evr (fun i arg => rtP f arg (gn PR i)) 0 (gv f phi).args) 0 PH = R := ⟨_, rfl⟩
   obtain ⟨R6, hR6⟩ : ∃ R, evr (fun (at_ : Nat) v => (gv f v).args.all (fun arg => rahP f arg k at_)) 0 BO = R := ⟨_, rfl⟩
   obtain ⟨R7, hR7⟩ : ∃ R, (decide (vl < 0) || rtP f vl k) = R := ⟨_, rfl⟩
   have hrb : rub f k ⟨PH, BO, kd, vl, WY, PR⟩ = (R5 && (R6 && R7)) := by
    unfold rub
    rw [<- hR5, <- hR6, <- hR7, evr_plain (fun phi => evr (fun i arg => rtP f arg (gn PR i)) 0 (gv f phi).args)]
   rw [hrb] at HN
   have HNX : Hid (R5 = true -> R6 = true -> R7 = true -> EvR (rub f) f.blks (k + 1) RC) := fun h5 h6 h7 => HN.1 (by rw [h5, h6, h7]; rfl)
   have HNO : Hid ((R5 && (R6 && R7)) = false -> RC = false) := HN.2
   have HE5 : Hid (EvR (fun _ phi => evr (fun i arg => rtP f arg (gn PR i)) 0 (gv f phi).args) PH 0 R5) := ⟨by simpa using hR5⟩
   have HE6 : Hid (EvR (fun (at_ : Nat) v => (gv f v).args.all (fun arg => rahP f arg k at_)) BO 0 R6) := ⟨by simpa using hR6⟩
   have HR7 : Hid ((decide (vl < 0) || rtP f vl k) = R7) := hR7
   have HTM : Hid (vl = -1 \/ wi f.vals.length vl = true) := htm
   have HL1 : Hid (l1 = PH.length) := hl1
   have HL2 : Hid (l2 = BO.length) := hl2
   have HL4 : Hid (l4 = PR.length) := hl4
   have hm1 : l1 <= 9223372036854775807 := by have := j1.le; have := j1.mx; omega
   have hm2 : l2 <= 9223372036854775807 := by have := j2.le; have := j2.mx; omega
   have hm4 : l4 <= 9223372036854775807 := by have := j4.le; have := j4.mx; omega
   have HV1 : Hid (∀ x ∈ PH, wi f.vals.length x = true) := hbp.1
   have HV2 : Hid (∀ x ∈ BO, wi f.vals.length x = true) := hbp.2
   have HVP : Hid (∀ x ∈ PR, wi f.blks.length x = true) := hpr
   have HPL : Hid (∀ x ∈ PH, (gv f x).args.length = PR.length) := by
    simp only [phiB, Bool.and_eq_true, List.all_eq_true, phP, decide_eq_true_eq] at hpb
    exact fun x hx => (hpb.1 x hx).2
   have HI1 : Hid (Ints w ka kc PH) := j1
   have HI2 : Hid (Ints w la lc BO) := j2
   have HI4 : Hid (Ints w na nc PR) := j4
   obtain ⟨W, hW⟩ : ∃ W, W = wr.alloc (.cells #[.slice ka l1 kc, .slice la l2 lc, .int .i64 kd, .int .i64 vl, .slice ma l3 mc, .slice na l4 nc] 46) := ⟨_, rfl⟩
   obtain ⟨B3, hB3⟩ : ∃ B, B = wr.heap.size := ⟨_, rfl⟩
   have HGW : Hid (SG (w.alloc (.cells #[.string s, .slice pa pn pc, .int .i64 r, .slice va vn vc, .slice (some ⟨b', o', none⟩) bn bc] 38)) W sb wg toa toc pg bn vn f) := by rw [hW]; exact HG.out.next (below_new _ _)
   have HK : Hid (W.heap[B3]? = some (.cells #[.slice ka l1 kc, .slice la l2 lc, .int .i64 kd, .int .i64 vl, .slice ma l3 mc, .slice na l4 nc] 46)) := by rw [hW, hB3]; exact heap_alloc_new wr _
   have hkB : wg < B3 := by rw [hB3]; exact hwl
   clear hR5 hR6 hR7 hrb htm HN hl1 hl2 hl3 hl4 j1 j2 j3 j4 hbp hpr hpb HP HG hlw hwl
   go_wp2_with fail
   rw [<- hW]
   clear hW
   rw [<- hB3]
   clear hB3 c0 c1 c2 c3 c4 c5 y0 y1 y2 y3 y4 xs hlt'
   have e0 : W.cell? ⟨B3, 0, none⟩ = some (.slice ka l1 kc) := cell_arr HK.out rfl
   go_wp2_with fail
   go_loopw [6] (fun v wr => ∃ j : Nat, j <= l1 /\ v = .int .i64 j /\ Hid (EvR (fun _ phi => evr (fun i arg => rtP f arg (gn PR i)) 0 (gv f phi).args) PH j R5) /\ Hid (SG (w.alloc (.cells #[.string s, .slice pa pn pc, .int .i64 r, .slice va vn vc, .slice (some ⟨b', o', none⟩) bn bc] 38)) wr sb wg toa toc pg bn vn f) /\ Hid (wr.heap[B3]? = some (.cells #[.slice ka l1 kc, .slice la l2 lc, .int .i64 kd, .int .i64 vl, .slice ma l3 mc, .slice na l4 nc] 46))) (fun v _ => l1 - (intOf v).toNat)
   case atStart => exact ⟨0, by omega, rfl, HE5, HGW, HK⟩
   case round =>
    clear HE5 HGW HK e0
    obtain ⟨j, hj, rfl, HP, HG, HK⟩ := hrel
    have e0 : wr.cell? ⟨B3, 0, none⟩ = some (.slice ka l1 kc) := cell_arr HK.out rfl
    have e1 : wr.cell? ⟨B3, 1, none⟩ = some (.slice la l2 lc) := cell_arr HK.out rfl
    have hlb : B3 < wr.heap.size := (gl HK.out)
    obtain ⟨y0, y1, y2, y3, y4, xs⟩ := af1_f5 HG.out.af
    by_cases hjl : j < l1
    ·have hjf : j < PH.length := by have := HL1.out; omega
     obtain ⟨pb, po, rfl, q0⟩ := (HI1.out.below HG.out.af.low (Nat.le_refl _)).at hjf
     have hpbl := cell_lt q0
     have hwi := HV1.out _ (List.getElem_mem hjf)
     have hal := HPL.out _ (List.getElem_mem hjf)
     have hag := HAG.out _ hwi
     have HN := HP.out.next hjf
     obtain ⟨x, hx⟩ : ∃ x : Nat, PH[j] = (x : Int) := ⟨PH[j].toNat, by simp only [wi, decide_eq_true_eq] at hwi; omega⟩
     rw [hx] at q0 hwi HN hal hag
     have hxf : x < f.vals.length := by simp only [wi, decide_eq_true_eq] at hwi; omega
     have hxv : x < vn := by have := HX.out.ev; omega
     have eg : gv f (x : Int) = f.vals[x] := by simp [gv, List.getD_eq_getElem?_getD, hxf]
     obtain ⟨bv, ov, aa, ac, rfl, hlv, _, _, _, r3, ri⟩ := HX.out.hV.at4 hxf
     have r3' := (HG.out.af.low.cell (p := ⟨bv, ov + x * 4 + 3, none⟩) hlv).trans r3
     have hbvl : bv < wr.heap.size := by have := HG.out.af.low.size; omega
     rw [eg] at HN hal hag
     clear hwi hx eg r3
     generalize f.vals[x].args = A at r3' ri HN hal hag
     obtain ⟨al, hAl⟩ : ∃ al, al = A.length := ⟨_, rfl⟩
     rw [<- hAl] at r3'
     obtain ⟨R8, hR8⟩ : ∃ R, evr (fun i arg => rtP f arg (gn PR i)) 0 A = R := ⟨_, rfl⟩
     rw [hR8] at HN
     have HN1 : Hid (R8 = true -> EvR (fun _ phi => evr (fun i arg => rtP f arg (gn PR i)) 0 (gv f phi).args) PH (j + 1) R5) := HN.1
     have HN2 : Hid (R8 = false -> R5 = false) := HN.2
     have HE8 : Hid (EvR (fun i arg => rtP f arg (gn PR i)) A 0 R8) := ⟨by simpa using hR8⟩
     have HAL : Hid (al = A.length) := hAl
     have hal4 : al = l4 := by have := HL4.out; omega
     have HA4 : Hid (al = l4) := hal4
     have HAI : Hid (Ints w aa ac A) := ri
     have HAW : Hid (∀ y ∈ A, wi f.vals.length y = true) := hag
     have hax : al <= 9223372036854775807 := by omega
     clear HN hR8 hAl hal hag ri hal4 HP
     go_wp2_with fail
     go_quiet (fail)
     go_wp2_with fail
     clear e0 e1 y0 y1 y2 y3 y4 xs q0 r3' hpbl hbvl hlb
     go_loopw [8] (fun v wr => ∃ q : Nat, q <= al /\ v = .int .i64 q /\ Hid (EvR (fun i arg => rtP f arg (gn PR i)) A q R8) /\ Hid (SG (w.alloc (.cells #[.string s, .slice pa pn pc, .int .i64 r, .slice (some ⟨bv, ov, none⟩) vn vc, .slice (some ⟨b', o', none⟩) bn bc] 38)) wr sb wg toa toc pg bn vn f) /\ Hid (wr.heap[B3]? = some (.cells #[.slice (some ⟨pb, po, none⟩) l1 kc, .slice la l2 lc, .int .i64 kd, .int .i64 vl, .slice ma l3 mc, .slice na l4 nc] 46))) (fun v _ => al - (intOf v).toNat)
     case atStart => exact ⟨0, by omega, rfl, HE8, by first | exact HG.out | exact HG.out.next (below_drawn (Below.refl _ _) _), by first | exact HK.out | exact ((below_drawn (Below.refl _ _) _).block _ (gl HK.out)).trans HK.out⟩
     case round =>
      clear HE8 HG HK
      obtain ⟨q, hq, rfl, HP, HG, HK⟩ := hrel
      have e5 : wr.cell? ⟨B3, 5, none⟩ = some (.slice na l4 nc) := cell_arr HK.out rfl
      have hlb : B3 < wr.heap.size := (gl HK.out)
      by_cases hql : q < al
      ·have hqf : q < A.length := by have := HAL.out; omega
       have hq4 : q < l4 := by have := HA4.out; omega
       have hqp : q < PR.length := by have := HL4.out; omega
       obtain ⟨ab, ao, rfl, u0⟩ := (HAI.out.below HG.out.af.low (Nat.le_refl _)).at hqf
       obtain ⟨nb, no, rfl, v0⟩ := (HI4.out.below HG.out.af.low (Nat.le_refl _)).at hqp
       have hab : ab < w.heap.size := HAI.out.blk hqf
       have hnb : nb < w.heap.size := HI4.out.blk hqp
       have hwa := HAW.out _ (List.getElem_mem hqf)
       have hwp := HVP.out _ (List.getElem_mem hqp)
       have HN := HP.out.next hqf
       rw [show gn PR q = PR[q] by simp [gn, List.getD_eq_getElem?_getD, hqp]] at HN
       obtain ⟨x2, hx2⟩ : ∃ x : Nat, A[q] = (x : Int) := ⟨A[q].toNat, by simp only [wi, decide_eq_true_eq] at hwa; omega⟩
       obtain ⟨y2, hy2⟩ : ∃ y : Nat, PR[q] = (y : Int) := ⟨PR[q].toNat, by simp only [wi, decide_eq_true_eq] at hwp; omega⟩
       rw [hx2] at u0 hwa HN
       rw [hy2] at v0 hwp HN
       have hx3 : x2 < vn := by simp only [wi, decide_eq_true_eq] at hwa; have := HX.out.ev; omega
       have hy3 : y2 < bn := by simp only [wi, decide_eq_true_eq] at hwp; have := HX.out.eb; omega
       obtain ⟨E, hE⟩ : ∃ E, rtP f (x2 : Int) (y2 : Int) = E := ⟨_, rfl⟩
       rw [hE] at HN
       have HM1 : Hid (E = true -> EvR (fun i arg => rtP f arg (gn PR i)) A (q + 1) R8) := HN.1
       have HM2 : Hid (E = false -> R8 = false) := HN.2
       have hup : w.heap.size < wg := by have := HG.out.up; simp at this; omega
       have HCA : Hid (∀ w', Below wr.heap.size wr w' -> Calls Tryz.prog 92 #[.pointer (some ⟨sb, 0, none⟩), .int .i64 (x2 : Int), .int .i64 (y2 : Int)] w' fun e w'' => e = .returned (.bool E) /\ (fun w' : World => w'.cell? ⟨ab, ao + q, none⟩ = some (.int .i64 (x2 : Int)) /\ w'.cell? ⟨B3, 5, none⟩ = some (.slice (some ⟨nb, no, none⟩) l4 nc) /\ w'.cell? ⟨nb, no + q, none⟩ = some (.int .i64 (y2 : Int))) w'' /\ Hid (SG (w.alloc (.cells #[.string s, .slice pa pn pc, .int .i64 r, .slice (some ⟨bv, ov, none⟩) vn vc, .slice (some ⟨b', o', none⟩) bn bc] 38)) w'' sb wg toa toc pg bn vn f) /\ Hid (w''.heap[B3]? = some (.cells #[.slice (some ⟨pb, po, none⟩) l1 kc, .slice la l2 lc, .int .i64 kd, .int .i64 vl, .slice ma l3 mc, .slice (some ⟨nb, no, none⟩) l4 nc] 46))) := fun w' hb => by
        refine (HAE.out w' sb wg toa toc pg (HG.out.next hb) x2 y2 hx3 hy3 E hE).mono ?_
        rintro e w'' ⟨rfl, g2, o2⟩
        have hsz := hb.size
        have s1 : ab < w'.heap.size := Nat.lt_of_lt_of_le (cell_lt u0) hsz
        have s2 : nb < w'.heap.size := Nat.lt_of_lt_of_le (cell_lt v0) hsz
        have hk2 : w''.heap[B3]? = some (.cells #[.slice (some ⟨pb, po, none⟩) l1 kc, .slice la l2 lc, .int .i64 kd, .int .i64 vl, .slice ma l3 mc, .slice (some ⟨nb, no, none⟩) l4 nc] 46) := (o2.eq B3 (by omega) (by omega)).trans ((hb.block B3 hlb).trans HK.out)
        refine ⟨rfl, ⟨?_, cell_arr hk2 rfl, ?_⟩, g2, hk2⟩
        ·exact (cell_same (o2.eq ab s1 (by omega))).trans ((hb.cell (p := ⟨ab, ao + q, none⟩) (cell_lt u0)).trans u0)
        ·exact (cell_same (o2.eq nb s2 (by omega))).trans ((hb.cell (p := ⟨nb, no + q, none⟩) (cell_lt v0)).trans v0)
       have hd : Below wr.heap.size wr wr.drew := (Below.refl _ _).drew
       have S0 : (fun w' : World => w'.cell? ⟨ab, ao + q, none⟩ = some (.int .i64 (x2 : Int)) /\ w'.cell? ⟨B3, 5, none⟩ = some (.slice (some ⟨nb, no, none⟩) l4 nc) /\ w'.cell? ⟨nb, no + q, none⟩ = some (.int .i64 (y2 : Int))) wr.drew := ⟨u0, e5, v0⟩
       clear HN hE hwa hwp hx2 hy2 hab hnb HP HAE
       cases E
       all_goals
        go_wp2_with fail
        go_region_held (fun w' : World => w'.cell? ⟨ab, ao + q, none⟩ = some (.int .i64 (x2 : Int)) /\ w'.cell? ⟨B3, 5, none⟩ = some (.slice (some ⟨nb, no, none⟩) l4 nc) /\ w'.cell? ⟨nb, no + q, none⟩ = some (.int .i64 (y2 : Int))) (first | exact S0 | exact S1)
         (first | (go_at_call 92; refine (HCA.out _ hd).mono ?_; rintro e w1 ⟨rfl, S1, HG1, HK1⟩))
        go_wp2_with fail
       ·go_ret
        exact ⟨ret_bl (by rw [HNO.out (by rw [HN2.out (HM2.out (by first | trivial | rfl))]; rfl)]), by first | exact HG1.out.af.low | exact below_drawn HG1.out.af.low _⟩
       ·go_roundw
        case rel => exact ⟨q + 1, by omega, by go_num, HM1.out (by first | trivial | rfl), by first | exact HG1.out | exact HG1.out.next (below_drawn (Below.refl _ _) _), by first | exact HK1.out | exact ((below_drawn (Below.refl _ _) _).block _ (gl HK1.out)).trans HK1.out⟩
        case measure => simp [intOf]; omega
      ·obtain rfl : R8 = true := HP.out.fin (by have := HAL.out; omega)
       obtain rfl : al = q := by omega
       clear HP
       go_wp2_with fail
       go_roundw
       case rel => exact ⟨j + 1, by omega, by go_num, HN1.out (by first | trivial | rfl), HG, HK⟩
       case measure => simp [intOf]; omega
    ·obtain rfl : R5 = true := HP.out.fin (by have := HL1.out; omega)
     obtain rfl : l1 = j := by omega
     clear HP
     go_wp2_with fail
     go_loopw [9] (fun v wr => ∃ j : Nat, j <= l2 /\ v = .int .i64 j /\ Hid (EvR (fun (at_ : Nat) v => (gv f v).args.all (fun arg => rahP f arg k at_)) BO j R6) /\ Hid (SG (w.alloc (.cells #[.string s, .slice pa pn pc, .int .i64 r, .slice va vn vc, .slice (some ⟨b', o', none⟩) bn bc] 38)) wr sb wg toa toc pg bn vn f) /\ Hid (wr.heap[B3]? = some (.cells #[.slice ka l1 kc, .slice la l2 lc, .int .i64 kd, .int .i64 vl, .slice ma l3 mc, .slice na l4 nc] 46))) (fun v _ => l2 - (intOf v).toNat)
     case atStart => exact ⟨0, by omega, rfl, HE6, HG, HK⟩
     case round =>
      clear HE6 HG HK e0 e1 y0 y1 y2 y3 y4 xs hlb
      obtain ⟨j, hj, rfl, HP, HG, HK⟩ := hrel
      have e1 : wr.cell? ⟨B3, 1, none⟩ = some (.slice la l2 lc) := cell_arr HK.out rfl
      have e3 : wr.cell? ⟨B3, 3, none⟩ = some (.int .i64 vl) := cell_arr HK.out rfl
      have hlb : B3 < wr.heap.size := (gl HK.out)
      obtain ⟨y0, y1, y2, y3, y4, xs⟩ := af1_f5 HG.out.af
      by_cases hjl : j < l2
      ·have hjf : j < BO.length := by have := HL2.out; omega
       obtain ⟨pb, po, rfl, q0⟩ := (HI2.out.below HG.out.af.low (Nat.le_refl _)).at hjf
       have hpbl := cell_lt q0
       have hwi := HV2.out _ (List.getElem_mem hjf)
       have hag := HAG.out _ hwi
       have HN := HP.out.next hjf
       obtain ⟨x, hx⟩ : ∃ x : Nat, BO[j] = (x : Int) := ⟨BO[j].toNat, by simp only [wi, decide_eq_true_eq] at hwi; omega⟩
       rw [hx] at q0 hwi HN hag
       have hxf : x < f.vals.length := by simp only [wi, decide_eq_true_eq] at hwi; omega
       have hxv : x < vn := by have := HX.out.ev; omega
       have eg : gv f (x : Int) = f.vals[x] := by simp [gv, List.getD_eq_getElem?_getD, hxf]
       obtain ⟨bv, ov, aa, ac, rfl, hlv, _, _, _, r3, ri⟩ := HX.out.hV.at4 hxf
       have r3' := (HG.out.af.low.cell (p := ⟨bv, ov + x * 4 + 3, none⟩) hlv).trans r3
       have hbvl : bv < wr.heap.size := by have := HG.out.af.low.size; omega
       rw [eg] at HN hag
       clear hwi hx eg r3
       generalize f.vals[x].args = A at r3' ri HN hag
       obtain ⟨al, hAl⟩ : ∃ al, al = A.length := ⟨_, rfl⟩
       rw [<- hAl] at r3'
       obtain ⟨R8, hR8⟩ : ∃ R, A.all (fun arg => rahP f arg k j) = R := ⟨_, rfl⟩
       rw [hR8] at HN
       have HN1 : Hid (R8 = true -> EvR (fun (at_ : Nat) v => (gv f v).args.all (fun arg => rahP f arg k at_)) BO (j + 1) R6) := HN.1
       have HN2 : Hid (R8 = false -> R6 = false) := HN.2
       have HE8 : Hid (EvR (fun _ arg => rahP f arg k j) A 0 R8) := ⟨by rw [<- evr_plain (fun arg => rahP f arg k j) A 0] at hR8; simpa using hR8⟩
       have HAL : Hid (al = A.length) := hAl
       have HAI : Hid (Ints w aa ac A) := ri
       have HAW : Hid (∀ y ∈ A, wi f.vals.length y = true) := hag
       have hax : al <= 9223372036854775807 := by have := ri.le; have := ri.mx; omega
       clear HN hR8 hAl hag ri HP
       go_wp2_with fail
       go_quiet (fail)
       go_wp2_with fail
       clear e1 e3 y0 y1 y2 y3 y4 xs q0 r3' hpbl hbvl hlb
       go_loopw [11] (fun v wr => ∃ q : Nat, q <= al /\ v = .int .i64 q /\ Hid (EvR (fun _ arg => rahP f arg k j) A q R8) /\ Hid (SG (w.alloc (.cells #[.string s, .slice pa pn pc, .int .i64 r, .slice (some ⟨bv, ov, none⟩) vn vc, .slice (some ⟨b', o', none⟩) bn bc] 38)) wr sb wg toa toc pg bn vn f) /\ Hid (wr.heap[B3]? = some (.cells #[.slice ka l1 kc, .slice (some ⟨pb, po, none⟩) l2 lc, .int .i64 kd, .int .i64 vl, .slice ma l3 mc, .slice na l4 nc] 46))) (fun v _ => al - (intOf v).toNat)
       case atStart => exact ⟨0, by omega, rfl, HE8, by first | exact HG.out | exact HG.out.next (below_drawn (Below.refl _ _) _), by first | exact HK.out | exact ((below_drawn (Below.refl _ _) _).block _ (gl HK.out)).trans HK.out⟩
       case round =>
        clear HE8 HG HK
        obtain ⟨q, hq, rfl, HP, HG, HK⟩ := hrel
        by_cases hql : q < al
        ·have hqf : q < A.length := by have := HAL.out; omega
         obtain ⟨ab, ao, rfl, u0⟩ := (HAI.out.below HG.out.af.low (Nat.le_refl _)).at hqf
         have hab : ab < w.heap.size := HAI.out.blk hqf
         have habl := cell_lt u0
         have hwa := HAW.out _ (List.getElem_mem hqf)
         have HN := HP.out.next hqf
         obtain ⟨x2, hx2⟩ : ∃ x : Nat, A[q] = (x : Int) := ⟨A[q].toNat, by simp only [wi, decide_eq_true_eq] at hwa; omega⟩
         rw [hx2] at u0 hwa HN
         have hx3 : x2 < vn := by simp only [wi, decide_eq_true_eq] at hwa; have := HX.out.ev; omega
         obtain ⟨E, hE⟩ : ∃ E, rtP f (x2 : Int) (k : Int) = E := ⟨_, rfl⟩
         unfold rahP at HN
         rw [hE, Int.toNat_natCast] at HN
         have s1 : wr.cell? ⟨sb, 1, none⟩ = some (.slice (some ⟨pg, 0, none⟩) vn vn) := cell_arr HG.out.box rfl
         have hbl := (gl HG.out.box)
         have hpl := HG.out.pl.lt
         obtain ⟨t1, t2, t3, _, _, _⟩ := HG.out.pl.cell hx3
         generalize (qlK f f.blks.length).getD x2 (0, 0) = qq at t1 t2 HN
         obtain ⟨q1, q2⟩ := qq
         simp only at t1 t2 HN
         generalize (cntAll f).getD x2 0 = q3 at t3
         have hup : w.heap.size < wg := by have := HG.out.up; simp at this; omega
         have HCA : Hid (∀ w', Below wr.heap.size wr w' -> Calls Tryz.prog 92 #[.pointer (some ⟨sb, 0, none⟩), .int .i64 (x2 : Int), .int .i64 (k : Int)] w' fun e w'' => e = .returned (.bool E) /\ Hid (SG (w.alloc (.cells #[.string s, .slice pa pn pc, .int .i64 r, .slice (some ⟨bv, ov, none⟩) vn vc, .slice (some ⟨b', o', none⟩) bn bc] 38)) w'' sb wg toa toc pg bn vn f) /\ Hid (w''.heap[B3]? = some (.cells #[.slice ka l1 kc, .slice (some ⟨pb, po, none⟩) l2 lc, .int .i64 kd, .int .i64 vl, .slice ma l3 mc, .slice na l4 nc] 46))) := fun w' hb => by
          refine (HAE.out w' sb wg toa toc pg (HG.out.next hb) x2 k hx3 hlt E hE).mono ?_
          rintro e w'' ⟨rfl, g2, o2⟩
          have hsz := hb.size
          have hlb := (gl HK.out)
          exact ⟨rfl, g2, (o2.eq B3 (by omega) (by omega)).trans ((hb.block B3 hlb).trans HK.out)⟩
         have S0 : (fun w' : World => w'.cell? ⟨sb, 1, none⟩ = some (.slice (some ⟨pg, 0, none⟩) vn vn) /\ w'.cell? ⟨ab, ao + q, none⟩ = some (.int .i64 (x2 : Int)) /\ w'.cell? ⟨pg, x2 * 3, none⟩ = some (.int .i64 q1) /\ w'.cell? ⟨pg, x2 * 3 + 1, none⟩ = some (.int .i64 q2) /\ w'.cell? ⟨pg, x2 * 3 + 2, none⟩ = some (.int .i64 q3)) wr.drew := ⟨s1, u0, t1, t2, t3⟩
         have S1 : (fun w' : World => w'.cell? ⟨sb, 1, none⟩ = some (.slice (some ⟨pg, 0, none⟩) vn vn) /\ w'.cell? ⟨ab, ao + q, none⟩ = some (.int .i64 (x2 : Int)) /\ w'.cell? ⟨pg, x2 * 3, none⟩ = some (.int .i64 q1) /\ w'.cell? ⟨pg, x2 * 3 + 1, none⟩ = some (.int .i64 q2) /\ w'.cell? ⟨pg, x2 * 3 + 2, none⟩ = some (.int .i64 q3)) (wr.drew.alloc (.cells #[.int .i64 0, .int .i64 0, .int .i64 0] 77)) := ⟨cellA (cellD s1), cellA (cellD u0), cellA (cellD t1), cellA (cellD t2), cellA (cellD t3)⟩
         have u0' : (wr.alloc (.cells #[.int .i64 q1, .int .i64 q2, .int .i64 q3] 77)).drew.cell? ⟨ab, ao + q, none⟩ = some (.int .i64 (x2 : Int)) := cellD (cellA u0)
         have HBN : Hid (Below wr.heap.size wr (wr.alloc (.cells #[.int .i64 q1, .int .i64 q2, .int .i64 q3] 77)).drew) := ((Below.refl _ _).alloc (Nat.le_refl _) _).drew
         have HGN : Hid (SG (w.alloc (.cells #[.string s, .slice pa pn pc, .int .i64 r, .slice (some ⟨bv, ov, none⟩) vn vc, .slice (some ⟨b', o', none⟩) bn bc] 38)) (wr.alloc (.cells #[.int .i64 q1, .int .i64 q2, .int .i64 q3] 77)).drew sb wg toa toc pg bn vn f) := HG.out.next HBN.out
         have HKN : Hid ((wr.alloc (.cells #[.int .i64 q1, .int .i64 q2, .int .i64 q3] 77)).drew.heap[B3]? = some (.cells #[.slice ka l1 kc, .slice (some ⟨pb, po, none⟩) l2 lc, .int .i64 kd, .int .i64 vl, .slice ma l3 mc, .slice na l4 nc] 46)) := (HBN.out.block B3 (gl HK.out)).trans HK.out
         by_cases hqk : q1 = (k : Int)
         ·rw [if_pos hqk] at HN
          subst hqk
          by_cases hq2 : q2 < (j : Int)
          ·have hd2 : decide ((j : Int) <= q2) = false := by simp; omega
           have HM1 : Hid (EvR (fun _ arg => rahP f arg k j) A (q + 1) R8) := HN.1 (by simpa using hq2)
           clear HN hE hwa hx2 hab HP HAE HCA
           go_wp2_with fail
           refine led_start (S := fun w' : World => w'.cell? ⟨sb, 1, none⟩ = some (.slice (some ⟨pg, 0, none⟩) vn vn) /\ w'.cell? ⟨ab, ao + q, none⟩ = some (.int .i64 (x2 : Int)) /\ w'.cell? ⟨pg, x2 * 3, none⟩ = some (.int .i64 (k : Int)) /\ w'.cell? ⟨pg, x2 * 3 + 1, none⟩ = some (.int .i64 q2) /\ w'.cell? ⟨pg, x2 * 3 + 2, none⟩ = some (.int .i64 q3)) (z := 11) (by kernel_rfl) ?_
           refine led_n 0 S0 ?_
           refine led_n 1 S0 ?_
           refine led_n 2 S0 ?_
           refine led_n 3 S0 ?_
           refine led_n 4 S0 ?_
           refine led_n 5 S0 ?_
           refine led_n 6 S0 ?_
           refine led_n 7 S0 ?_
           refine led_n 8 S0 ?_
           refine led_n 9 S0 ?_
           refine led_one (i := 10) rfl (by kernel_rfl) ?_
           intro K9 hK9
           rw [if_pos (by rfl)]
           go_simp
           refine hK9 _ _ (fun _ => S1) ?_
           clear hK9
           try simp only [Act.put, zi, zz, zs]
           refine led_one (i := 11) rfl (by kernel_rfl) ?_
           intro K3 hK3
           rw [if_pos (by rfl)]
           go_simp
           refine hK3 _ _ (fun h => absurd rfl h) ?_
           clear hK3 S0 S1
           try simp only [Act.put, zi, zz, zs]
           refine led_done (by kernel_rfl) ?_
           go_wp2_with fail
           go_roundw
           case rel => exact ⟨q + 1, by omega, by go_num, HM1.out, HGN.out, HKN.out⟩
           case measure => simp [intOf]; omega
          ·have hd2 : decide ((j : Int) <= q2) = true := by simp; omega
           have HM2 : Hid (R8 = false) := HN.2 (by simpa using hq2)
           clear HN hE hwa hx2 hab HP HAE HCA
           go_wp2_with fail
           refine led_start (S := fun w' : World => w'.cell? ⟨sb, 1, none⟩ = some (.slice (some ⟨pg, 0, none⟩) vn vn) /\ w'.cell? ⟨ab, ao + q, none⟩ = some (.int .i64 (x2 : Int)) /\ w'.cell? ⟨pg, x2 * 3, none⟩ = some (.int .i64 (k : Int)) /\ w'.cell? ⟨pg, x2 * 3 + 1, none⟩ = some (.int .i64 q2) /\ w'.cell? ⟨pg, x2 * 3 + 2, none⟩ = some (.int .i64 q3)) (z := 11) (by kernel_rfl) ?_
           refine led_n 0 S0 ?_
           refine led_n 1 S0 ?_
           refine led_n 2 S0 ?_
           refine led_n 3 S0 ?_
           refine led_n 4 S0 ?_
           refine led_n 5 S0 ?_
           refine led_n 6 S0 ?_
           refine led_n 7 S0 ?_
           refine led_n 8 S0 ?_
           refine led_n 9 S0 ?_
           refine led_one (i := 10) rfl (by kernel_rfl) ?_
           intro K9 hK9
           rw [if_pos (by rfl)]
           go_simp
           refine hK9 _ _ (fun _ => S1) ?_
           clear hK9
           try simp only [Act.put, zi, zz, zs]
           refine led_one (i := 11) rfl (by kernel_rfl) ?_
           intro K3 hK3
           rw [if_pos (by rfl)]
           go_simp
           refine hK3 _ _ (fun h => absurd rfl h) ?_
           clear hK3 S0 S1
           try simp only [Act.put, zi, zz, zs]
           refine led_done (by kernel_rfl) ?_
           go_wp2_with fail
           go_ret
           exact ⟨ret_bl (by rw [HNO.out (by rw [HN2.out HM2.out]; rfl)]), HGN.out.af.low⟩
         ·rw [if_neg hqk] at HN
          have hqe : (q1 == (k : Int)) = false := by simpa using hqk
          have HM1 : Hid (E = true -> EvR (fun _ arg => rahP f arg k j) A (q + 1) R8) := HN.1
          have HM2 : Hid (E = false -> R8 = false) := HN.2
          have HC2 : Hid _ := HCA.out _ HBN.out
          clear HN hE hwa hx2 hab HP HAE HCA
          cases E
          ·go_wp2_with fail
           refine led_start (S := fun w' : World => w'.cell? ⟨sb, 1, none⟩ = some (.slice (some ⟨pg, 0, none⟩) vn vn) /\ w'.cell? ⟨ab, ao + q, none⟩ = some (.int .i64 (x2 : Int)) /\ w'.cell? ⟨pg, x2 * 3, none⟩ = some (.int .i64 q1) /\ w'.cell? ⟨pg, x2 * 3 + 1, none⟩ = some (.int .i64 q2) /\ w'.cell? ⟨pg, x2 * 3 + 2, none⟩ = some (.int .i64 q3)) (z := 11) (by kernel_rfl) ?_
           refine led_n 0 S0 ?_
           refine led_n 1 S0 ?_
           refine led_n 2 S0 ?_
           refine led_n 3 S0 ?_
           refine led_n 4 S0 ?_
           refine led_n 5 S0 ?_
           refine led_n 6 S0 ?_
           refine led_n 7 S0 ?_
           refine led_n 8 S0 ?_
           refine led_n 9 S0 ?_
           refine led_one (i := 10) rfl (by kernel_rfl) ?_
           intro K9 hK9
           rw [if_pos (by rfl)]
           go_simp
           refine hK9 _ _ (fun _ => S1) ?_
           clear hK9
           try simp only [Act.put, zi, zz, zs]
           refine led_one (i := 11) rfl (by kernel_rfl) ?_
           intro K3 hK3
           rw [if_pos (by rfl)]
           go_simp
           refine hK3 _ _ (fun h => absurd rfl h) ?_
           clear hK3 S0 S1
           try simp only [Act.put, zi, zz, zs]
           refine led_done (by kernel_rfl) ?_
           go_wp2_with fail
           refine Calls.mono HC2.out ?_
           rintro e w1 ⟨rfl, HG1, HK1⟩
           go_wp2_with fail
           go_ret
           exact ⟨ret_bl (by rw [HNO.out (by rw [HN2.out (HM2.out (by first | trivial | rfl))]; rfl)]), HG1.out.af.low⟩
          ·go_wp2_with fail
           refine led_start (S := fun w' : World => w'.cell? ⟨sb, 1, none⟩ = some (.slice (some ⟨pg, 0, none⟩) vn vn) /\ w'.cell? ⟨ab, ao + q, none⟩ = some (.int .i64 (x2 : Int)) /\ w'.cell? ⟨pg, x2 * 3, none⟩ = some (.int .i64 q1) /\ w'.cell? ⟨pg, x2 * 3 + 1, none⟩ = some (.int .i64 q2) /\ w'.cell? ⟨pg, x2 * 3 + 2, none⟩ = some (.int .i64 q3)) (z := 11) (by kernel_rfl) ?_
           refine led_n 0 S0 ?_
           refine led_n 1 S0 ?_
           refine led_n 2 S0 ?_
           refine led_n 3 S0 ?_
           refine led_n 4 S0 ?_
           refine led_n 5 S0 ?_
           refine led_n 6 S0 ?_
           refine led_n 7 S0 ?_
           refine led_n 8 S0 ?_
           refine led_n 9 S0 ?_
           refine led_one (i := 10) rfl (by kernel_rfl) ?_
           intro K9 hK9
           rw [if_pos (by rfl)]
           go_simp
           refine hK9 _ _ (fun _ => S1) ?_
           clear hK9
           try simp only [Act.put, zi, zz, zs]
           refine led_one (i := 11) rfl (by kernel_rfl) ?_
           intro K3 hK3
           rw [if_pos (by rfl)]
           go_simp
           refine hK3 _ _ (fun h => absurd rfl h) ?_
           clear hK3 S0 S1
           try simp only [Act.put, zi, zz, zs]
           refine led_done (by kernel_rfl) ?_
           go_wp2_with fail
           refine Calls.mono HC2.out ?_
           rintro e w1 ⟨rfl, HG1, HK1⟩
           go_wp2_with fail
           go_roundw
           case rel => exact ⟨q + 1, by omega, by go_num, HM1.out (by first | trivial | rfl), HG1.out, HK1.out⟩
           case measure => simp [intOf]; omega
        ·obtain rfl : R8 = true := HP.out.fin (by have := HAL.out; omega)
         obtain rfl : al = q := by omega
         clear HP
         go_wp2_with fail
         go_roundw
         case rel => exact ⟨j + 1, by omega, by go_num, HN1.out (by first | trivial | rfl), HG, HK⟩
         case measure => simp [intOf]; omega
      ·obtain rfl : R6 = true := HP.out.fin (by have := HL2.out; omega)
       obtain rfl : l2 = j := by omega
       clear HP
       by_cases hv0 : vl < 0
       ·have hd0 : decide ((0 : Int) <= vl) = false := by simp; omega
        have HX7 : Hid (R7 = true) := by
         have := HR7.out
         rw [show decide (vl < 0) = true by simpa using hv0, Bool.true_or] at this
         exact this.symm
        go_wp2_with fail
        go_roundw
        case rel => exact ⟨k + 1, by omega, by go_num, HNX.out (by first | trivial | rfl) (by first | trivial | rfl) HX7.out, HG⟩
        case measure => simp [intOf]; omega
       ·have hd0 : decide ((0 : Int) <= vl) = true := by simp; omega
        obtain ⟨vx, rfl⟩ : ∃ x : Nat, vl = (x : Int) := ⟨vl.toNat, by omega⟩
        have hvx : vx < vn := by
         rcases HTM.out with e | e
         ·omega
         ·simp only [wi, decide_eq_true_eq] at e; have := HX.out.ev; omega
        have h7 := HR7.out
        rw [show decide ((vx : Int) < 0) = false by simp] at h7
        simp only [Bool.false_or] at h7
        have HC2 : Hid _ := HAE.out wr sb wg toa toc pg HG.out vx k hvx hlt R7 h7
        have HX7 : Hid (R7 = false -> RC = false) := fun e => HNO.out (by rw [e]; rfl)
        have HX8 : Hid (R7 = true -> EvR (rub f) f.blks (k + 1) RC) := fun e => HNX.out (by first | trivial | rfl) (by first | trivial | rfl) e
        clear h7 HR7 HAE
        cases R7
        all_goals
         go_wp2_with fail
         refine Calls.mono HC2.out ?_
         rintro e w1 ⟨rfl, g1, o1⟩
         have HG1 : Hid _ := g1
         clear g1 o1
         go_wp2_with fail
        ·go_ret
         exact ⟨ret_bl (by rw [HX7.out (by first | trivial | rfl)]), HG1.out.af.low⟩
        ·go_roundw
         case rel => exact ⟨k + 1, by omega, by go_num, HX8.out (by first | trivial | rfl), HG1⟩
         case measure => simp [intOf]; omega
  ·obtain rfl : RC = true := HP.out.fin (by have := HX.out.eb; omega)
   obtain rfl : bn = k := by omega
   clear HP
   go_wp2_with fail
   go_ret
   exact ⟨rfl, HG.out.af.low⟩
end Go.Proofs.YtdbkjjelaipcfaaGreatDoor
