import Derived.Deep.RegionHeld
import Derived.Test.YtdbkjjelaipcfaaGreatDoorJbi
set_option linter.unusedVariables false
set_option linter.unusedSimpArgs false
namespace Go.Proofs.YtdbkjjelaipcfaaGreatDoor
open Go.ChangeShapes Go.WideShapes Go.ChangeAt Go.RowKit Go.Maps
structure FK (w : World) (fa : Option Addr) (fn fc : Nat) (mn : Int) (s : ByteArray) (pa : Option Addr) (pn pc : Nat) (r : Int) (va : Option Addr) (vn vc : Nat) (ba : Option Addr) (bn bc : Nat) (FS : List Fu) (f : Fu) : Prop where
 out : ∀ w', Below w.heap.size w w' -> ∀ (op ty imm : Int) (A : List Int) (ka : Option Addr) (kl kc : Nat), valueP f FS ⟨op, ty, imm, A⟩ = true -> kl = A.length -> Ints w' ka kc A ->
  Calls Tryz.prog 90 #[.agg #[.slice fa fn fc, .int .i64 mn], .agg #[.string s, .slice pa pn pc, .int .i64 r, .slice va vn vc, .slice ba bn bc], .agg #[.int .i64 op, .int .i64 ty, .int .i64 imm, .slice ka kl kc]] w' fun e w'' => e = .returned (.bool (rtyV f FS ⟨op, ty, imm, A⟩)) /\ Below w'.heap.size w' w''
theorem blockP_kind {f : Fu} {b : Bk} (h : blockP f b = true) : (1 <= b.kind /\ b.kind <= 4) /\ (b.val = -1 \/ wi f.vals.length b.val = true) := by
 have h2 := blockP_term h
 simp only [blockP, termP, Bool.and_eq_true, decide_eq_true_eq] at h
 refine ⟨h.2.2.2.1, ?_⟩
 by_cases e : b.val = -1
 ·exact .inl e
 ·exact .inr (h2 (.inr (.inr e)))
set_option maxRecDepth 100000 in
set_option maxHeartbeats 8000000 in
theorem rTypes_any (w : World) {fa : Option Addr} {fn fc : Nat} {mn : Int} {s : ByteArray} {pa : Option Addr} {pn pc : Nat} {r : Int} {va : Option Addr} {vn vc : Nat} {ba : Option Addr} {bn bc : Nat} {FS : List Fu} {f : Fu} (X : RX w fa fn fc s pa pn pc r va vn vc ba bn bc FS f) (hf : formP FS f = true) (HFK : FK w fa fn fc mn s pa pn pc r va vn vc ba bn bc FS f) :
 Calls Tryz.prog 47 #[.agg #[.slice fa fn fc, .int .i64 mn], .agg #[.string s, .slice pa pn pc, .int .i64 r, .slice va vn vc, .slice ba bn bc]] w fun e w' => e = .returned (.bool (rtyP FS f)) /\ Below w.heap.size w w' := by
 unfold rtyP
 rw [<- evr_plain (rtyV f FS) f.vals 0, <- evr_plain (rtyB f) f.blks 0]
 obtain ⟨RA, hRA⟩ : ∃ R, evr (fun _ v => rtyV f FS v) 0 f.vals = R := ⟨_, rfl⟩
 obtain ⟨RC, hRC⟩ : ∃ R, evr (fun _ b => rtyB f b) 0 f.blks = R := ⟨_, rfl⟩
 rw [hRA, hRC]
 have HA0 : Hid (EvR (fun _ v => rtyV f FS v) f.vals 0 RA) := ⟨by simpa using hRA⟩
 have HC0 : Hid (EvR (fun _ b => rtyB f b) f.blks 0 RC) := ⟨by simpa using hRC⟩
 have HX : Hid (RX w fa fn fc s pa pn pc r va vn vc ba bn bc FS f) := X
 have HVS : Hid (∀ v ∈ f.vals, valueP f FS v = true) := formP_vals hf
 have HBL : Hid (∀ b ∈ f.blks, blockP f b = true) := (formP_blocks hf).2
 have hbx : bn <= 9223372036854775807 := by have := X.hB.le; have := X.hB.mx; have := X.eb; omega
 have hvx : vn <= 9223372036854775807 := by have := X.hV.le; have := X.hV.mx; have := X.ev; omega
 have A0 : Aft w (.cells #[.slice fa fn fc, .int .i64 mn] 24) (.cells #[.string s, .slice pa pn pc, .int .i64 r, .slice va vn vc, .slice ba bn bc] 38) ((w.alloc (.cells #[.slice fa fn fc, .int .i64 mn] 24)).alloc (.cells #[.string s, .slice pa pn pc, .int .i64 r, .slice va vn vc, .slice ba bn bc] 38)) := Aft.refl _ _ _
 clear hRA hRC X hf
 go_enter Tryz.func47, Tryz.ntmps47
 go_wp2_with fail
 go_loopw [5] (fun v wr => ∃ k : Nat, k <= vn /\ v = .int .i64 k /\ Hid (EvR (fun _ v => rtyV f FS v) f.vals k RA) /\ Hid (Aft w (.cells #[.slice fa fn fc, .int .i64 mn] 24) (.cells #[.string s, .slice pa pn pc, .int .i64 r, .slice va vn vc, .slice ba bn bc] 38) wr)) (fun v _ => vn - (intOf v).toNat)
 case atStart => exact ⟨0, by omega, rfl, HA0, A0⟩
 case round =>
  clear HA0 A0
  obtain ⟨k, hk, rfl, HP, HA⟩ := hrel
  obtain ⟨x0, x1, y0, y1, y2, y3, y4, xs⟩ := aft_cells HA.out
  by_cases hlt : k < vn
  ·have hkf : k < f.vals.length := by have := HX.out.ev; omega
   obtain ⟨b', o', ka, kc, rfl, hlt', c0, c1, c2, c3, g⟩ := (HX.out.hV.below HA.out.low (Nat.le_refl _)).at4 hkf
   have HN := HP.out.next hkf
   have hvp := HVS.out _ (List.getElem_mem hkf)
   generalize f.vals[k] = v at c0 c1 c2 c3 g HN hvp
   obtain ⟨op, ty, imm, A⟩ := v
   simp only at c0 c1 c2 c3 g HN
   obtain ⟨al, hal⟩ : ∃ al, al = A.length := ⟨_, rfl⟩
   rw [<- hal] at c3
   have hd : Below wr.heap.size wr wr.drew := (Below.refl _ _).drew
   have HVC : Hid (∀ w', Below wr.heap.size wr w' -> Calls Tryz.prog 90 #[.agg #[.slice fa fn fc, .int .i64 mn], .agg #[.string s, .slice pa pn pc, .int .i64 r, .slice (some ⟨b', o', none⟩) vn vc, .slice ba bn bc], .agg #[.int .i64 op, .int .i64 ty, .int .i64 imm, .slice ka al kc]] w' fun e w'' => e = .returned (.bool (rtyV f FS ⟨op, ty, imm, A⟩)) /\ Below w'.heap.size w' w'') := fun w' hw' =>
    HFK.out w' (HA.out.low.trans (hw'.mono HA.out.low.size)) op ty imm A ka al kc hvp hal (g.below hw' (Nat.le_refl _))
   have HN1 : Hid (rtyV f FS ⟨op, ty, imm, A⟩ = true -> EvR (fun _ v => rtyV f FS v) f.vals (k + 1) RA) := HN.1
   have HN2 : Hid (rtyV f FS ⟨op, ty, imm, A⟩ = false -> RA = false) := HN.2
   have S0 : (fun w' : World => w'.cell? ⟨w.heap.size, 0, none⟩ = some (.slice fa fn fc) /\ w'.cell? ⟨w.heap.size, 1, none⟩ = some (.int .i64 mn) /\ w'.cell? ⟨w.heap.size + 1, 0, none⟩ = some (.string s) /\ w'.cell? ⟨w.heap.size + 1, 1, none⟩ = some (.slice pa pn pc) /\ w'.cell? ⟨w.heap.size + 1, 2, none⟩ = some (.int .i64 r) /\ w'.cell? ⟨w.heap.size + 1, 3, none⟩ = some (.slice (some ⟨b', o', none⟩) vn vc) /\ w'.cell? ⟨w.heap.size + 1, 4, none⟩ = some (.slice ba bn bc) /\ w'.cell? ⟨b', o' + k * 4, none⟩ = some (.int .i64 op) /\ w'.cell? ⟨b', o' + k * 4 + 1, none⟩ = some (.int .i64 ty) /\ w'.cell? ⟨b', o' + k * 4 + 2, none⟩ = some (.int .i64 imm) /\ w'.cell? ⟨b', o' + k * 4 + 3, none⟩ = some (.slice ka al kc)) wr.drew := ⟨x0, x1, y0, y1, y2, y3, y4, c0, c1, c2, c3⟩
   have HS : Hid (∀ w1, Below wr.heap.size wr w1 -> (fun w' : World => w'.cell? ⟨w.heap.size, 0, none⟩ = some (.slice fa fn fc) /\ w'.cell? ⟨w.heap.size, 1, none⟩ = some (.int .i64 mn) /\ w'.cell? ⟨w.heap.size + 1, 0, none⟩ = some (.string s) /\ w'.cell? ⟨w.heap.size + 1, 1, none⟩ = some (.slice pa pn pc) /\ w'.cell? ⟨w.heap.size + 1, 2, none⟩ = some (.int .i64 r) /\ w'.cell? ⟨w.heap.size + 1, 3, none⟩ = some (.slice (some ⟨b', o', none⟩) vn vc) /\ w'.cell? ⟨w.heap.size + 1, 4, none⟩ = some (.slice ba bn bc) /\ w'.cell? ⟨b', o' + k * 4, none⟩ = some (.int .i64 op) /\ w'.cell? ⟨b', o' + k * 4 + 1, none⟩ = some (.int .i64 ty) /\ w'.cell? ⟨b', o' + k * 4 + 2, none⟩ = some (.int .i64 imm) /\ w'.cell? ⟨b', o' + k * 4 + 3, none⟩ = some (.slice ka al kc)) w1) := fun w1 hb1 => ⟨(hb1.cell (p := ⟨w.heap.size, 0, none⟩) (by show w.heap.size < _; omega)).trans x0, (hb1.cell (p := ⟨w.heap.size, 1, none⟩) (by show w.heap.size < _; omega)).trans x1, (hb1.cell (p := ⟨w.heap.size + 1, 0, none⟩) xs).trans y0, (hb1.cell (p := ⟨w.heap.size + 1, 1, none⟩) xs).trans y1, (hb1.cell (p := ⟨w.heap.size + 1, 2, none⟩) xs).trans y2, (hb1.cell (p := ⟨w.heap.size + 1, 3, none⟩) xs).trans y3, (hb1.cell (p := ⟨w.heap.size + 1, 4, none⟩) xs).trans y4, (hb1.cell (p := ⟨b', o' + k * 4, none⟩) hlt').trans c0, (hb1.cell (p := ⟨b', o' + k * 4 + 1, none⟩) hlt').trans c1, (hb1.cell (p := ⟨b', o' + k * 4 + 2, none⟩) hlt').trans c2, (hb1.cell (p := ⟨b', o' + k * 4 + 3, none⟩) hlt').trans c3⟩
   clear g HN hal HC0 hvp HFK
   generalize rtyV f FS ⟨op, ty, imm, A⟩ = E at HVC HN1 HN2
   cases E
   all_goals
    go_wp2_with fail
    go_region_held (fun w' : World => w'.cell? ⟨w.heap.size, 0, none⟩ = some (.slice fa fn fc) /\ w'.cell? ⟨w.heap.size, 1, none⟩ = some (.int .i64 mn) /\ w'.cell? ⟨w.heap.size + 1, 0, none⟩ = some (.string s) /\ w'.cell? ⟨w.heap.size + 1, 1, none⟩ = some (.slice pa pn pc) /\ w'.cell? ⟨w.heap.size + 1, 2, none⟩ = some (.int .i64 r) /\ w'.cell? ⟨w.heap.size + 1, 3, none⟩ = some (.slice (some ⟨b', o', none⟩) vn vc) /\ w'.cell? ⟨w.heap.size + 1, 4, none⟩ = some (.slice ba bn bc) /\ w'.cell? ⟨b', o' + k * 4, none⟩ = some (.int .i64 op) /\ w'.cell? ⟨b', o' + k * 4 + 1, none⟩ = some (.int .i64 ty) /\ w'.cell? ⟨b', o' + k * 4 + 2, none⟩ = some (.int .i64 imm) /\ w'.cell? ⟨b', o' + k * 4 + 3, none⟩ = some (.slice ka al kc)) (first | exact S0 | exact S1)
     (first | (go_at_call 90; refine (HVC.out _ hd).mono ?_; rintro e w1 ⟨rfl, hb1⟩; have S1 := HS.out w1 (hd.trans (hb1.mono hd.size))))
    go_wp2_with fail
   ·go_ret
    have hb3 := hd.trans (hb1.mono hd.size)
    exact ⟨ret_bl (by rw [HN2.out (by first | trivial | rfl)]; rfl), by first | exact (HA.out.next hb3).low | exact below_drawn (HA.out.next hb3).low _⟩
   ·have hb3 := hd.trans (hb1.mono hd.size)
    go_roundw
    case rel => exact ⟨k + 1, by omega, by go_num, HN1.out (by first | trivial | rfl), by first | exact HA.out.next hb3 | exact (HA.out.next hb3).drawn _⟩
    case measure => simp [intOf]; omega
  ·obtain rfl : RA = true := HP.out.fin (by have := HX.out.ev; omega)
   obtain rfl : vn = k := by omega
   clear HP hlt hk HFK HVS
   obtain ⟨W, hW⟩ : ∃ W, W = wr.alloc (.cells #[.int .i64 0, .int .i64 0, .int .i64 2, .int .i64 r, .int .i64 1] 3) := ⟨_, rfl⟩
   obtain ⟨G, hG⟩ : ∃ G, G = wr.heap.size := ⟨_, rfl⟩
   have HAW : Hid (Aft w _ _ W) := HA.out.next (by rw [hW]; exact below_new _ _)
   have HGW : Hid (W.heap[G]? = some (.cells #[.int .i64 0, .int .i64 0, .int .i64 2, .int .i64 r, .int .i64 1] 3 (0, 0))) := by rw [hW, hG]; exact heap_alloc_new wr _
   have HXW : Hid _ := HX.out.below HAW.out.low
   go_wp2_with fail
   rw [<- hW]
   clear hW
   rw [<- hG]
   clear hG x0 x1 y0 y1 y2 y3 y4 xs
   obtain ⟨x0, x1, y0, y1, y2, y3, y4, xs⟩ := aft_cells HAW.out
   go_wp2_with fail
   go_loopw [7] (fun v wr => ∃ k : Nat, k <= bn /\ v = .int .i64 k /\ Hid (EvR (fun _ b => rtyB f b) f.blks k RC) /\ Hid (Below W.heap.size W wr)) (fun v _ => bn - (intOf v).toNat)
   case atStart => exact ⟨0, by omega, rfl, HC0, Below.refl _ _⟩
   case round =>
    clear HC0 x0 x1 y0 y1 y2 y3 y4 xs HA
    obtain ⟨k, hk, rfl, HP, HB⟩ := hrel
    have HA := HAW.out.next HB.out
    obtain ⟨x0, x1, y0, y1, y2, y3, y4, xs⟩ := aft_cells HA
    by_cases hlt : k < bn
    ·have hkf : k < f.blks.length := by have := HX.out.eb; omega
     obtain ⟨b', o', ka, kc, la, lc, ma, mc, na, nc, rfl, hlt', c0, c1, c2, c3, c4, c5, j1, j2, j3, j4⟩ := (HXW.out.below HB.out).hB.at hkf
     have HN := HP.out.next hkf
     obtain ⟨hkd, hvl⟩ := blockP_kind (HBL.out _ (List.getElem_mem hkf))
     generalize f.blks[k] = b at c2 c3 c4 HN hkd hvl
     obtain ⟨PH, BO, kd, vl, WY, PR⟩ := b
     simp only at c2 c3 c4 hkd hvl
     generalize WY.length = l3 at c4
     obtain ⟨kn, rfl⟩ : ∃ kn : Nat, kd = kn := ⟨kd.toNat, by omega⟩
     have hkn : kn < 5 := by omega
     obtain ⟨wk, hwk⟩ : ∃ wk : Int, (if (kn : Int) = 2 then 2 else if (kn : Int) = 3 then f.result else if (kn : Int) = 4 then 1 else 0) = wk := ⟨_, rfl⟩
     have gk : wr.cell? ⟨G, kn, none⟩ = some (.int .i64 wk) := by
      have hg := (HB.out.block G (gl HGW.out)).trans HGW.out
      rw [<- hwk, <- HX.out.er]
      rcases (show kn = 1 \/ kn = 2 \/ kn = 3 \/ kn = 4 by omega) with rfl | rfl | rfl | rfl
      all_goals exact cell_arr hg rfl
     have hrt : rtyB f ⟨PH, BO, kn, vl, WY, PR⟩ = (decide (vl < 0) || decide ((gv f vl).ty = wk)) := by unfold rtyB; rw [<- hwk]
     rw [hrt] at HN
     have hnx : ∀ X : Obj, Below W.heap.size W (wr.alloc X) := fun X => HB.out.trans ((below_new wr X).mono HB.out.size)
     have HNB : Hid (∀ X : Obj, Below W.heap.size W (wr.alloc X)) := hnx
     have hgs : G < wr.heap.size := by have h1 := (gl HGW.out); have := HB.out.size; omega
     clear hrt hwk hkd hnx c0 c1 c5 j1 j2 j3 j4 HP
     rcases hvl with rfl | hvl
     ·have HN1 : Hid (EvR (fun _ b => rtyB f b) f.blks (k + 1) RC) := HN.1 (by simp)
      have q1 : decide ((0 : Int) <= -1) = false := by decide
      clear HN
      go_wp2_with fail
      go_quiet (fail)
      go_wp2_with fail
      go_roundw
      case rel => exact ⟨k + 1, by omega, by go_num, HN1, by first | exact HNB.out _ | exact below_drawn (HNB.out _) _⟩
      case measure => simp [intOf]; omega
     ·obtain ⟨x, rfl⟩ : ∃ x : Nat, vl = x := ⟨vl.toNat, by simp only [wi, decide_eq_true_eq] at hvl; omega⟩
      have hxf : x < f.vals.length := by simp only [wi, decide_eq_true_eq] at hvl; omega
      have hxv : x < vn := by have := HX.out.ev; omega
      have eg : gv f (x : Int) = f.vals[x] := by simp [gv, List.getD_eq_getElem?_getD, hxf]
      obtain ⟨bv, ov, ta, tc, rfl, hlt2, _, q2, _, _, _⟩ := (HXW.out.below HB.out).hV.at4 hxf
      rw [eg] at HN
      generalize f.vals[x].ty = ty at q2 HN
      have HN1 : Hid (ty = wk -> EvR (fun _ b => rtyB f b) f.blks (k + 1) RC) := fun h => HN.1 (by simp [h])
      have HN2 : Hid (¬ ty = wk -> RC = false) := fun h => HN.2 (by simp [h])
      have q1 : decide ((0 : Int) <= (x : Int)) = true := by simp
      clear HN eg hvl
      by_cases hty : ty = wk
      ·subst hty
       go_wp2_with fail
       go_quiet (fail)
       go_wp2_with fail
       go_roundw
       case rel => exact ⟨k + 1, by omega, by go_num, HN1.out (by first | trivial | rfl), by first | exact HNB.out _ | exact below_drawn (HNB.out _) _⟩
       case measure => simp [intOf]; omega
      ·go_wp2_with fail
       go_quiet (fail)
       go_wp2_with fail
       go_ret
       exact ⟨ret_bl (by rw [HN2.out hty]; rfl), by first | exact (HAW.out.next (HNB.out _)).low | exact below_drawn (HAW.out.next (HNB.out _)).low _⟩
    ·obtain rfl : RC = true := HP.out.fin (by have := HX.out.eb; omega)
     obtain rfl : bn = k := by omega
     have HAA : Hid _ := HA
     clear HA
     go_wp2_with fail
     go_ret
     exact ⟨ret_bl rfl, HAA.out.low⟩
set_option maxRecDepth 100000 in
set_option maxHeartbeats 8000000 in
theorem rFits_1 (w : World) {fa : Option Addr} {fn fc : Nat} {mn : Int} {s : ByteArray} {pa : Option Addr} {pn pc : Nat} {r : Int} {va : Option Addr} {vn vc : Nat} {ba : Option Addr} {bn bc : Nat} {ka : Option Addr} {kl kc : Nat} (ty imm : Int) (c a b d g : Int) (B : Bool) (HR : Hid (∀ w, Calls Tryz.prog 115 #[.int .i64 1] w fun e w' => e = .returned (.tuple #[.agg #[.int .i64 c, .int .i64 a, .int .i64 b, .int .i64 d, .int .i64 g], .bool B]) /\ Below w.heap.size w w'))  :
 Calls Tryz.prog 90 #[.agg #[.slice fa fn fc, .int .i64 mn], .agg #[.string s, .slice pa pn pc, .int .i64 r, .slice va vn vc, .slice ba bn bc], .agg #[.int .i64 1, .int .i64 ty, .int .i64 imm, .slice ka kl kc]] w fun e w' => e = .returned (.bool (constP ty imm)) /\ Below w.heap.size w w' := by
 have A0 : VX w fa fn fc mn s pa pn pc r va vn vc ba bn bc 1 ty imm ka kl kc (((w.alloc (.cells #[.slice fa fn fc, .int .i64 mn] 24)).alloc (.cells #[.string s, .slice pa pn pc, .int .i64 r, .slice va vn vc, .slice ba bn bc] 38)).alloc (.cells #[.int .i64 1, .int .i64 ty, .int .i64 imm, .slice ka kl kc] 42)) := ⟨Below.refl _ _⟩
 have HBx : Hid (∀ w1 o q, VX w fa fn fc mn s pa pn pc r va vn vc ba bn bc 1 ty imm ka kl kc w1 -> Below w.heap.size w ((w1.alloc o).drewN q)) := fun w1 o q h => below_drewN (h.low.alloc (by have := h.size; omega) _) q
 by_cases t1 : ty = 1
 ·subst t1
  go_enter Tryz.func90, Tryz.ntmps90
  go_wp2_with (first | (go_at_call 115; refine (HR.out _).mono ?_; rintro e w1 ⟨rfl, hb1⟩; have A1 := A0.next hb1; obtain ⟨k0, k1, k2, k3, k4, k5, k6, k7, k8⟩ := VX.cells A1))
  go_ret
  exact ⟨ret_bl (by simp [constP]), HBx.out _ _ 0 A1⟩
 by_cases t2 : ty = 2
 ·subst t2
  by_cases i0 : imm = 0
  ·subst i0
   go_enter Tryz.func90, Tryz.ntmps90
   go_wp2_with (first | (go_at_call 115; refine (HR.out _).mono ?_; rintro e w1 ⟨rfl, hb1⟩; have A1 := A0.next hb1; obtain ⟨k0, k1, k2, k3, k4, k5, k6, k7, k8⟩ := VX.cells A1))
   go_ret
   exact ⟨ret_bl (by simp [constP]), HBx.out _ _ 0 A1⟩
  by_cases i1 : imm = 1
  ·subst i1
   go_enter Tryz.func90, Tryz.ntmps90
   go_wp2_with (first | (go_at_call 115; refine (HR.out _).mono ?_; rintro e w1 ⟨rfl, hb1⟩; have A1 := A0.next hb1; obtain ⟨k0, k1, k2, k3, k4, k5, k6, k7, k8⟩ := VX.cells A1))
   go_ret
   exact ⟨ret_bl (by simp [constP]), HBx.out _ _ 0 A1⟩
  go_enter Tryz.func90, Tryz.ntmps90
  go_wp2_with (first | (go_at_call 115; refine (HR.out _).mono ?_; rintro e w1 ⟨rfl, hb1⟩; have A1 := A0.next hb1; obtain ⟨k0, k1, k2, k3, k4, k5, k6, k7, k8⟩ := VX.cells A1))
  go_ret
  exact ⟨ret_bl (by simp [constP, i0, i1]), HBx.out _ _ 0 A1⟩
 by_cases t3 : ty = 3
 ·subst t3
  by_cases i0 : imm = 0
  ·subst i0
   go_enter Tryz.func90, Tryz.ntmps90
   go_wp2_with (first | (go_at_call 115; refine (HR.out _).mono ?_; rintro e w1 ⟨rfl, hb1⟩; have A1 := A0.next hb1; obtain ⟨k0, k1, k2, k3, k4, k5, k6, k7, k8⟩ := VX.cells A1))
   go_ret
   exact ⟨ret_bl (by simp [constP]), HBx.out _ _ 0 A1⟩
  go_enter Tryz.func90, Tryz.ntmps90
  go_wp2_with (first | (go_at_call 115; refine (HR.out _).mono ?_; rintro e w1 ⟨rfl, hb1⟩; have A1 := A0.next hb1; obtain ⟨k0, k1, k2, k3, k4, k5, k6, k7, k8⟩ := VX.cells A1))
  go_ret
  exact ⟨ret_bl (by simp [constP, i0]), HBx.out _ _ 0 A1⟩
 go_enter Tryz.func90, Tryz.ntmps90
 go_wp2_with (first | (go_at_call 115; refine (HR.out _).mono ?_; rintro e w1 ⟨rfl, hb1⟩; have A1 := A0.next hb1; obtain ⟨k0, k1, k2, k3, k4, k5, k6, k7, k8⟩ := VX.cells A1))
 go_ret
 exact ⟨ret_bl (by simp [constP, t1, t2, t3]), HBx.out _ _ 0 A1⟩
set_option maxRecDepth 100000 in
set_option maxHeartbeats 8000000 in
theorem rFits_33 (w : World) {fa : Option Addr} {fn fc : Nat} {mn : Int} {s : ByteArray} {pa : Option Addr} {pn pc : Nat} {r : Int} {va : Option Addr} {vn vc : Nat} {ba : Option Addr} {bn bc : Nat} {ka : Option Addr} {kl kc : Nat} (ty imm : Int) (c a b d g : Int) (B : Bool) (HR : Hid (∀ w, Calls Tryz.prog 115 #[.int .i64 33] w fun e w' => e = .returned (.tuple #[.agg #[.int .i64 c, .int .i64 a, .int .i64 b, .int .i64 d, .int .i64 g], .bool B]) /\ Below w.heap.size w w'))  :
 Calls Tryz.prog 90 #[.agg #[.slice fa fn fc, .int .i64 mn], .agg #[.string s, .slice pa pn pc, .int .i64 r, .slice va vn vc, .slice ba bn bc], .agg #[.int .i64 33, .int .i64 ty, .int .i64 imm, .slice ka kl kc]] w fun e w' => e = .returned (.bool (decide (0 < ty))) /\ Below w.heap.size w w' := by
 have A0 : VX w fa fn fc mn s pa pn pc r va vn vc ba bn bc 33 ty imm ka kl kc (((w.alloc (.cells #[.slice fa fn fc, .int .i64 mn] 24)).alloc (.cells #[.string s, .slice pa pn pc, .int .i64 r, .slice va vn vc, .slice ba bn bc] 38)).alloc (.cells #[.int .i64 33, .int .i64 ty, .int .i64 imm, .slice ka kl kc] 42)) := ⟨Below.refl _ _⟩
 have HBx : Hid (∀ w1 o q, VX w fa fn fc mn s pa pn pc r va vn vc ba bn bc 33 ty imm ka kl kc w1 -> Below w.heap.size w ((w1.alloc o).drewN q)) := fun w1 o q h => below_drewN (h.low.alloc (by have := h.size; omega) _) q
 go_enter Tryz.func90, Tryz.ntmps90
 go_wp2_with (first | (go_at_call 115; refine (HR.out _).mono ?_; rintro e w1 ⟨rfl, hb1⟩; have A1 := A0.next hb1; obtain ⟨k0, k1, k2, k3, k4, k5, k6, k7, k8⟩ := VX.cells A1))
 go_ret
 exact ⟨ret_bl (by first | rfl | simp), HBx.out _ _ 0 A1⟩
set_option maxRecDepth 100000 in
set_option maxHeartbeats 8000000 in
theorem rFits_13 (w : World) {fa : Option Addr} {fn fc : Nat} {mn : Int} {s : ByteArray} {pa : Option Addr} {pn pc : Nat} {r : Int} {va : Option Addr} {vn vc : Nat} {ba : Option Addr} {bn bc : Nat} {ka : Option Addr} {kl kc : Nat} (ty imm : Int) (c a b d g : Int) (B : Bool) (HR : Hid (∀ w, Calls Tryz.prog 115 #[.int .i64 13] w fun e w' => e = .returned (.tuple #[.agg #[.int .i64 c, .int .i64 a, .int .i64 b, .int .i64 d, .int .i64 g], .bool B]) /\ Below w.heap.size w w')) {FS : List Fu} {f : Fu} (X : RX w fa fn fc s pa pn pc r va vn vc ba bn bc FS f) (x y : Nat) (hk : Ints w ka kc [(x : Int), (y : Int)]) (hx : x < f.vals.length) (hy : y < f.vals.length) (hl : kl = 2) :
 Calls Tryz.prog 90 #[.agg #[.slice fa fn fc, .int .i64 mn], .agg #[.string s, .slice pa pn pc, .int .i64 r, .slice va vn vc, .slice ba bn bc], .agg #[.int .i64 13, .int .i64 ty, .int .i64 imm, .slice ka kl kc]] w fun e w' => e = .returned (.bool (decide (ty = 2) && (decide (0 < (gv f (x : Int)).ty) && decide ((gv f (y : Int)).ty = (gv f (x : Int)).ty)))) /\ Below w.heap.size w w' := by
 have A0 : VX w fa fn fc mn s pa pn pc r va vn vc ba bn bc 13 ty imm ka kl kc (((w.alloc (.cells #[.slice fa fn fc, .int .i64 mn] 24)).alloc (.cells #[.string s, .slice pa pn pc, .int .i64 r, .slice va vn vc, .slice ba bn bc] 38)).alloc (.cells #[.int .i64 13, .int .i64 ty, .int .i64 imm, .slice ka kl kc] 42)) := ⟨Below.refl _ _⟩
 have HBx : Hid (∀ w1 o q, VX w fa fn fc mn s pa pn pc r va vn vc ba bn bc 13 ty imm ka kl kc w1 -> Below w.heap.size w ((w1.alloc o).drewN q)) := fun w1 o q h => below_drewN (h.low.alloc (by have := h.size; omega) _) q
 have ex : gv f (x : Int) = f.vals[x] := by simp [gv, List.getD_eq_getElem?_getD, hx]
 have ey : gv f (y : Int) = f.vals[y] := by simp [gv, List.getD_eq_getElem?_getD, hy]
 rw [ex, ey]
 clear ex ey
 obtain ⟨bv, ov, rfl, hlv, q1⟩ := X.hV.at hx
 obtain ⟨_, _, e2, hly, q2⟩ := X.hV.at hy
 obtain ⟨rfl, rfl⟩ : bv = _ /\ ov = _ := by simpa using e2
 obtain ⟨kb, ko, rfl, p0⟩ := hk.at (j := 0) (by simp)
 obtain ⟨_, _, e3, p1⟩ := hk.at (j := 1) (by simp)
 obtain ⟨rfl, rfl⟩ : kb = _ /\ ko = _ := by simpa using e3
 have p0' : w.cell? ⟨kb, ko, none⟩ = some (.int .i64 (x : Int)) := by simpa using p0
 have p1' : w.cell? ⟨kb, ko + 1, none⟩ = some (.int .i64 (y : Int)) := by simpa using p1
 have hkb := cell_lt p0'
 have hxv : x < vn := by have := X.ev; omega
 have hyv : y < vn := by have := X.ev; omega
 have hvx : vn <= 9223372036854775807 := by have := X.hV.le; have := X.hV.mx; have := X.ev; omega
 subst hl
 generalize f.vals[x].ty = tx at q1
 generalize f.vals[y].ty = ty' at q2
 have HQ : Hid (∀ w', Below w.heap.size w w' -> w'.cell? ⟨kb, ko, none⟩ = some (.int .i64 (x : Int)) /\ w'.cell? ⟨kb, ko + 1, none⟩ = some (.int .i64 (y : Int)) /\ w'.cell? ⟨bv, ov + x * 4 + 1, none⟩ = some (.int .i64 tx) /\ w'.cell? ⟨bv, ov + y * 4 + 1, none⟩ = some (.int .i64 ty') /\ kb < w'.heap.size /\ bv < w'.heap.size) := fun w' hb => ⟨(hb.cell (p := ⟨kb, ko, none⟩) hkb).trans p0', (hb.cell (p := ⟨kb, ko + 1, none⟩) hkb).trans p1', (hb.cell (p := ⟨bv, ov + x * 4 + 1, none⟩) hlv).trans q1, (hb.cell (p := ⟨bv, ov + y * 4 + 1, none⟩) hlv).trans q2, by have := hb.size; omega, by have := hb.size; omega⟩
 clear X hk e2 e3 p0 p1 p0' p1' q1 q2 hx hy hkb hlv hly
 by_cases t2 : ty = 2
 ·subst t2
  by_cases h0 : 0 < tx
  ·have g0 : decide (0 < tx) = true := by simp; omega
   by_cases he : ty' = tx
   ·subst he
    go_enter Tryz.func90, Tryz.ntmps90
    go_wp2_with (first | (go_at_call 115; refine (HR.out _).mono ?_; rintro e w1 ⟨rfl, hb1⟩; have A1 := A0.next hb1; obtain ⟨k0, k1, k2, k3, k4, k5, k6, k7, k8⟩ := VX.cells A1; obtain ⟨m0, m1, m2, m3, m4, m5⟩ := HQ.out _ A1.low))
    go_quiet (fail)
    go_wp2_with fail
    go_quiet (fail)
    go_wp2_with fail
    go_ret
    exact ⟨ret_bl (by simp [g0]), (by first | exact HBx.out _ _ _ A1 | exact below_drawn (HBx.out _ _ _ A1) _)⟩
   go_enter Tryz.func90, Tryz.ntmps90
   go_wp2_with (first | (go_at_call 115; refine (HR.out _).mono ?_; rintro e w1 ⟨rfl, hb1⟩; have A1 := A0.next hb1; obtain ⟨k0, k1, k2, k3, k4, k5, k6, k7, k8⟩ := VX.cells A1; obtain ⟨m0, m1, m2, m3, m4, m5⟩ := HQ.out _ A1.low))
   go_quiet (fail)
   go_wp2_with fail
   go_quiet (fail)
   go_wp2_with fail
   go_ret
   exact ⟨ret_bl (by simp [he]), (by first | exact HBx.out _ _ _ A1 | exact below_drawn (HBx.out _ _ _ A1) _)⟩
  have g0 : decide (0 < tx) = false := by simp; omega
  go_enter Tryz.func90, Tryz.ntmps90
  go_wp2_with (first | (go_at_call 115; refine (HR.out _).mono ?_; rintro e w1 ⟨rfl, hb1⟩; have A1 := A0.next hb1; obtain ⟨k0, k1, k2, k3, k4, k5, k6, k7, k8⟩ := VX.cells A1; obtain ⟨m0, m1, m2, m3, m4, m5⟩ := HQ.out _ A1.low))
  go_quiet (fail)
  go_wp2_with fail
  go_quiet (fail)
  go_wp2_with fail
  go_ret
  exact ⟨ret_bl (by simp [g0]), (by first | exact HBx.out _ _ _ A1 | exact below_drawn (HBx.out _ _ _ A1) _)⟩
 have g2 : (ty == 2) = false := by simpa using t2
 go_enter Tryz.func90, Tryz.ntmps90
 go_wp2_with (first | (go_at_call 115; refine (HR.out _).mono ?_; rintro e w1 ⟨rfl, hb1⟩; have A1 := A0.next hb1; obtain ⟨k0, k1, k2, k3, k4, k5, k6, k7, k8⟩ := VX.cells A1; obtain ⟨m0, m1, m2, m3, m4, m5⟩ := HQ.out _ A1.low))
 go_quiet (fail)
 go_wp2_with fail
 go_quiet (fail)
 go_wp2_with fail
 go_ret
 exact ⟨ret_bl (by first | rfl | simp [t2]), (by first | exact HBx.out _ _ _ A1 | exact below_drawn (HBx.out _ _ _ A1) _)⟩
set_option maxRecDepth 100000 in
set_option maxHeartbeats 8000000 in
theorem rFits_14 (w : World) {fa : Option Addr} {fn fc : Nat} {mn : Int} {s : ByteArray} {pa : Option Addr} {pn pc : Nat} {r : Int} {va : Option Addr} {vn vc : Nat} {ba : Option Addr} {bn bc : Nat} {ka : Option Addr} {kl kc : Nat} (ty imm : Int) (c a b d g : Int) (B : Bool) (HR : Hid (∀ w, Calls Tryz.prog 115 #[.int .i64 14] w fun e w' => e = .returned (.tuple #[.agg #[.int .i64 c, .int .i64 a, .int .i64 b, .int .i64 d, .int .i64 g], .bool B]) /\ Below w.heap.size w w')) {FS : List Fu} {f : Fu} (X : RX w fa fn fc s pa pn pc r va vn vc ba bn bc FS f) (x y : Nat) (hk : Ints w ka kc [(x : Int), (y : Int)]) (hx : x < f.vals.length) (hy : y < f.vals.length) (hl : kl = 2) :
 Calls Tryz.prog 90 #[.agg #[.slice fa fn fc, .int .i64 mn], .agg #[.string s, .slice pa pn pc, .int .i64 r, .slice va vn vc, .slice ba bn bc], .agg #[.int .i64 14, .int .i64 ty, .int .i64 imm, .slice ka kl kc]] w fun e w' => e = .returned (.bool (decide (ty = 2) && (decide (0 < (gv f (x : Int)).ty) && decide ((gv f (y : Int)).ty = (gv f (x : Int)).ty)))) /\ Below w.heap.size w w' := by
 have A0 : VX w fa fn fc mn s pa pn pc r va vn vc ba bn bc 14 ty imm ka kl kc (((w.alloc (.cells #[.slice fa fn fc, .int .i64 mn] 24)).alloc (.cells #[.string s, .slice pa pn pc, .int .i64 r, .slice va vn vc, .slice ba bn bc] 38)).alloc (.cells #[.int .i64 14, .int .i64 ty, .int .i64 imm, .slice ka kl kc] 42)) := ⟨Below.refl _ _⟩
 have HBx : Hid (∀ w1 o q, VX w fa fn fc mn s pa pn pc r va vn vc ba bn bc 14 ty imm ka kl kc w1 -> Below w.heap.size w ((w1.alloc o).drewN q)) := fun w1 o q h => below_drewN (h.low.alloc (by have := h.size; omega) _) q
 have ex : gv f (x : Int) = f.vals[x] := by simp [gv, List.getD_eq_getElem?_getD, hx]
 have ey : gv f (y : Int) = f.vals[y] := by simp [gv, List.getD_eq_getElem?_getD, hy]
 rw [ex, ey]
 clear ex ey
 obtain ⟨bv, ov, rfl, hlv, q1⟩ := X.hV.at hx
 obtain ⟨_, _, e2, hly, q2⟩ := X.hV.at hy
 obtain ⟨rfl, rfl⟩ : bv = _ /\ ov = _ := by simpa using e2
 obtain ⟨kb, ko, rfl, p0⟩ := hk.at (j := 0) (by simp)
 obtain ⟨_, _, e3, p1⟩ := hk.at (j := 1) (by simp)
 obtain ⟨rfl, rfl⟩ : kb = _ /\ ko = _ := by simpa using e3
 have p0' : w.cell? ⟨kb, ko, none⟩ = some (.int .i64 (x : Int)) := by simpa using p0
 have p1' : w.cell? ⟨kb, ko + 1, none⟩ = some (.int .i64 (y : Int)) := by simpa using p1
 have hkb := cell_lt p0'
 have hxv : x < vn := by have := X.ev; omega
 have hyv : y < vn := by have := X.ev; omega
 have hvx : vn <= 9223372036854775807 := by have := X.hV.le; have := X.hV.mx; have := X.ev; omega
 subst hl
 generalize f.vals[x].ty = tx at q1
 generalize f.vals[y].ty = ty' at q2
 have HQ : Hid (∀ w', Below w.heap.size w w' -> w'.cell? ⟨kb, ko, none⟩ = some (.int .i64 (x : Int)) /\ w'.cell? ⟨kb, ko + 1, none⟩ = some (.int .i64 (y : Int)) /\ w'.cell? ⟨bv, ov + x * 4 + 1, none⟩ = some (.int .i64 tx) /\ w'.cell? ⟨bv, ov + y * 4 + 1, none⟩ = some (.int .i64 ty') /\ kb < w'.heap.size /\ bv < w'.heap.size) := fun w' hb => ⟨(hb.cell (p := ⟨kb, ko, none⟩) hkb).trans p0', (hb.cell (p := ⟨kb, ko + 1, none⟩) hkb).trans p1', (hb.cell (p := ⟨bv, ov + x * 4 + 1, none⟩) hlv).trans q1, (hb.cell (p := ⟨bv, ov + y * 4 + 1, none⟩) hlv).trans q2, by have := hb.size; omega, by have := hb.size; omega⟩
 clear X hk e2 e3 p0 p1 p0' p1' q1 q2 hx hy hkb hlv hly
 by_cases t2 : ty = 2
 ·subst t2
  by_cases h0 : 0 < tx
  ·have g0 : decide (0 < tx) = true := by simp; omega
   by_cases he : ty' = tx
   ·subst he
    go_enter Tryz.func90, Tryz.ntmps90
    go_wp2_with (first | (go_at_call 115; refine (HR.out _).mono ?_; rintro e w1 ⟨rfl, hb1⟩; have A1 := A0.next hb1; obtain ⟨k0, k1, k2, k3, k4, k5, k6, k7, k8⟩ := VX.cells A1; obtain ⟨m0, m1, m2, m3, m4, m5⟩ := HQ.out _ A1.low))
    go_quiet (fail)
    go_wp2_with fail
    go_quiet (fail)
    go_wp2_with fail
    go_ret
    exact ⟨ret_bl (by simp [g0]), (by first | exact HBx.out _ _ _ A1 | exact below_drawn (HBx.out _ _ _ A1) _)⟩
   go_enter Tryz.func90, Tryz.ntmps90
   go_wp2_with (first | (go_at_call 115; refine (HR.out _).mono ?_; rintro e w1 ⟨rfl, hb1⟩; have A1 := A0.next hb1; obtain ⟨k0, k1, k2, k3, k4, k5, k6, k7, k8⟩ := VX.cells A1; obtain ⟨m0, m1, m2, m3, m4, m5⟩ := HQ.out _ A1.low))
   go_quiet (fail)
   go_wp2_with fail
   go_quiet (fail)
   go_wp2_with fail
   go_ret
   exact ⟨ret_bl (by simp [he]), (by first | exact HBx.out _ _ _ A1 | exact below_drawn (HBx.out _ _ _ A1) _)⟩
  have g0 : decide (0 < tx) = false := by simp; omega
  go_enter Tryz.func90, Tryz.ntmps90
  go_wp2_with (first | (go_at_call 115; refine (HR.out _).mono ?_; rintro e w1 ⟨rfl, hb1⟩; have A1 := A0.next hb1; obtain ⟨k0, k1, k2, k3, k4, k5, k6, k7, k8⟩ := VX.cells A1; obtain ⟨m0, m1, m2, m3, m4, m5⟩ := HQ.out _ A1.low))
  go_quiet (fail)
  go_wp2_with fail
  go_quiet (fail)
  go_wp2_with fail
  go_ret
  exact ⟨ret_bl (by simp [g0]), (by first | exact HBx.out _ _ _ A1 | exact below_drawn (HBx.out _ _ _ A1) _)⟩
 have g2 : (ty == 2) = false := by simpa using t2
 go_enter Tryz.func90, Tryz.ntmps90
 go_wp2_with (first | (go_at_call 115; refine (HR.out _).mono ?_; rintro e w1 ⟨rfl, hb1⟩; have A1 := A0.next hb1; obtain ⟨k0, k1, k2, k3, k4, k5, k6, k7, k8⟩ := VX.cells A1; obtain ⟨m0, m1, m2, m3, m4, m5⟩ := HQ.out _ A1.low))
 go_quiet (fail)
 go_wp2_with fail
 go_quiet (fail)
 go_wp2_with fail
 go_ret
 exact ⟨ret_bl (by first | rfl | simp [t2]), (by first | exact HBx.out _ _ _ A1 | exact below_drawn (HBx.out _ _ _ A1) _)⟩
set_option maxRecDepth 100000 in
set_option maxHeartbeats 8000000 in
theorem rFits_32 (w : World) {fa : Option Addr} {fn fc : Nat} {mn : Int} {s : ByteArray} {pa : Option Addr} {pn pc : Nat} {r : Int} {va : Option Addr} {vn vc : Nat} {ba : Option Addr} {bn bc : Nat} {ka : Option Addr} {kl kc : Nat} (ty imm : Int) (c a b d g : Int) (B : Bool) (HR : Hid (∀ w, Calls Tryz.prog 115 #[.int .i64 32] w fun e w' => e = .returned (.tuple #[.agg #[.int .i64 c, .int .i64 a, .int .i64 b, .int .i64 d, .int .i64 g], .bool B]) /\ Below w.heap.size w w')) {FS : List Fu} {f : Fu} (X : RX w fa fn fc s pa pn pc r va vn vc ba bn bc FS f) (A : List Int) (hkl : kl = A.length) (hk : Ints w ka kc A) (hA : ∀ x ∈ A, wi f.vals.length x = true) :
 Calls Tryz.prog 90 #[.agg #[.slice fa fn fc, .int .i64 mn], .agg #[.string s, .slice pa pn pc, .int .i64 r, .slice va vn vc, .slice ba bn bc], .agg #[.int .i64 32, .int .i64 ty, .int .i64 imm, .slice ka kl kc]] w fun e w' => e = .returned (.bool (A.all (fun x => decide ((gv f x).ty = ty)) && decide (0 < ty))) /\ Below w.heap.size w w' := by
 have A0 : VX w fa fn fc mn s pa pn pc r va vn vc ba bn bc 32 ty imm ka kl kc (((w.alloc (.cells #[.slice fa fn fc, .int .i64 mn] 24)).alloc (.cells #[.string s, .slice pa pn pc, .int .i64 r, .slice va vn vc, .slice ba bn bc] 38)).alloc (.cells #[.int .i64 32, .int .i64 ty, .int .i64 imm, .slice ka kl kc] 42)) := ⟨Below.refl _ _⟩
 have HBx : Hid (∀ w1 o q, VX w fa fn fc mn s pa pn pc r va vn vc ba bn bc 32 ty imm ka kl kc w1 -> Below w.heap.size w ((w1.alloc o).drewN q)) := fun w1 o q h => below_drewN (h.low.alloc (by have := h.size; omega) _) q
 rw [<- evr_plain (fun x => decide ((gv f x).ty = ty)) A 0]
 obtain ⟨RA, hRA⟩ : ∃ R, evr (fun _ x => decide ((gv f x).ty = ty)) 0 A = R := ⟨_, rfl⟩
 rw [hRA]
 have HA0 : Hid (EvR (fun _ x => decide ((gv f x).ty = ty)) A 0 RA) := ⟨by simpa using hRA⟩
 have HX : Hid (RX w fa fn fc s pa pn pc r va vn vc ba bn bc FS f) := X
 have HK : Hid (Ints w ka kc A) := hk
 have HKL : Hid (kl = A.length) := hkl
 have HAI : Hid (∀ x ∈ A, wi f.vals.length x = true) := hA
 have hvx : vn <= 9223372036854775807 := by have := X.hV.le; have := X.hV.mx; have := X.ev; omega
 have hkx : kl <= 9223372036854775807 := by have := hk.le; have := hk.mx; omega
 clear X hk hkl hA hRA
 go_enter Tryz.func90, Tryz.ntmps90
 go_wp2_with (first | (go_at_call 115; refine (HR.out _).mono ?_; rintro e w1 ⟨rfl, hb1⟩; have A1 := A0.next hb1; obtain ⟨k0, k1, k2, k3, k4, k5, k6, k7, k8⟩ := VX.cells A1))
 have HW : Hid (VX w fa fn fc mn s pa pn pc r va vn vc ba bn bc 32 ty imm ka kl kc w1) := A1
 clear hb1 A0 HR k0 k1 k2 k3 k4 k5 k6 k7 k8
 go_loopw [13] (fun v wr => ∃ j : Nat, j <= kl /\ v = .int .i64 j /\ Hid (EvR (fun _ x => decide ((gv f x).ty = ty)) A j RA) /\ Hid (VX w fa fn fc mn s pa pn pc r va vn vc ba bn bc 32 ty imm ka kl kc wr)) (fun v _ => kl - (intOf v).toNat)
 case atStart => exact ⟨0, by omega, rfl, HA0, HW.out.next (below_new _ _)⟩
 case round =>
  clear HA0 HW A1
  obtain ⟨j, hj, rfl, HP, HW⟩ := hrel
  obtain ⟨k0, k1, k2, k3, k4, k5, k6, k7, k8⟩ := VX.cells HW.out
  by_cases hjl : j < kl
  ·have hjf : j < A.length := by have := HKL.out; omega
   obtain ⟨pb, po, rfl, q0⟩ := (HK.out.below HW.out.low (Nat.le_refl _)).at hjf
   have hpb := cell_lt q0
   have hwi := HAI.out _ (List.getElem_mem hjf)
   have HN := HP.out.next hjf
   obtain ⟨x, hx⟩ : ∃ x : Nat, A[j] = (x : Int) := ⟨A[j].toNat, by simp only [wi, decide_eq_true_eq] at hwi; omega⟩
   rw [hx] at q0 hwi HN
   have hxf : x < f.vals.length := by simp only [wi, decide_eq_true_eq] at hwi; omega
   have hxv : x < vn := by have := HX.out.ev; omega
   have eg : gv f (x : Int) = f.vals[x] := by simp [gv, List.getD_eq_getElem?_getD, hxf]
   obtain ⟨bv, ov, rfl, hlt2, q1⟩ := (HX.out.below HW.out.low).hV.at hxf
   rw [eg] at HN
   clear hwi hx eg
   generalize f.vals[x].ty = tx at q1 HN
   have HN1 : Hid (tx = ty -> EvR (fun _ x => decide ((gv f x).ty = ty)) A (j + 1) RA) := fun h => HN.1 (by simpa using h)
   have HN2 : Hid (¬ tx = ty -> RA = false) := fun h => HN.2 (by simpa using h)
   clear HN
   by_cases ht : tx = ty
   ·subst ht
    go_wp2_with fail
    go_quiet (fail)
    go_wp2_with fail
    go_roundw
    case rel => exact ⟨j + 1, by omega, by go_num, HN1.out (by first | trivial | rfl), HW.out.next (by first | exact Below.refl _ _ | exact below_drawn (Below.refl _ _) _)⟩
    case measure => simp [intOf]; omega
   ·go_wp2_with fail
    go_quiet (fail)
    go_wp2_with fail
    go_ret
    exact ⟨ret_bl (by rw [HN2.out ht]; rfl), by first | exact HW.out.low | exact below_drawn HW.out.low _⟩
  ·obtain rfl : RA = true := HP.out.fin (by have := HKL.out; omega)
   obtain rfl : kl = j := by omega
   clear HP
   go_wp2_with fail
   go_ret
   exact ⟨ret_bl (by simp), HW.out.low⟩
end Go.Proofs.YtdbkjjelaipcfaaGreatDoor
