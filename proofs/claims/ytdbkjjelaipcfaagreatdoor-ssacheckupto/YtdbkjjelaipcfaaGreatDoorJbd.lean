import Derived.Deep.RegionHeld
import Derived.Test.YtdbkjjelaipcfaaGreatDoorJbc
set_option linter.unusedVariables false
set_option linter.unusedSimpArgs false
namespace Go.Proofs.YtdbkjjelaipcfaaGreatDoor
open Go.ChangeShapes Go.WideShapes Go.ChangeAt Go.RowKit Go.Maps
structure RX (w : World) (fa : Option Addr) (fn fc : Nat) (s : ByteArray) (pa : Option Addr) (pn pc : Nat) (r : Int) (va : Option Addr) (vn vc : Nat) (ba : Option Addr) (bn bc : Nat) (FS : List Fu) (f : Fu) : Prop where
 hF : Fus w fa fc FS
 ef : fn = FS.length
 ep : pn = f.params.length
 hP : Ints w pa pc f.params
 er : r = f.result
 ev : vn = f.vals.length
 hV : Vls w va vc f.vals
 eb : bn = f.blks.length
 hB : Bks w ba bc f.blks
theorem RX.below {w w' : World} {fa : Option Addr} {fn fc : Nat} {s : ByteArray} {pa : Option Addr} {pn pc : Nat} {r : Int} {va : Option Addr} {vn vc : Nat} {ba : Option Addr} {bn bc : Nat} {FS : List Fu} {f : Fu} (h : RX w fa fn fc s pa pn pc r va vn vc ba bn bc FS f) (hb : Below w.heap.size w w') : RX w' fa fn fc s pa pn pc r va vn vc ba bn bc FS f :=
 ⟨h.hF.below hb (Nat.le_refl _), h.ef, h.ep, h.hP.below hb (Nat.le_refl _), h.er, h.ev, h.hV.below hb (Nat.le_refl _), h.eb, h.hB.below hb (Nat.le_refl _)⟩
theorem Vls.at4 {w ao cap} {L : List Vl} (h : Vls w ao cap L) {j : Nat} (hj : j < L.length) : ∃ (b o : Nat) (ka : Option Addr) (kc : Nat), ao = some ⟨b, o, none⟩ /\ b < w.heap.size /\ w.cell? ⟨b, o + j * 4, none⟩ = some (.int .i64 L[j].op) /\ w.cell? ⟨b, o + j * 4 + 1, none⟩ = some (.int .i64 L[j].ty) /\ w.cell? ⟨b, o + j * 4 + 2, none⟩ = some (.int .i64 L[j].imm) /\ w.cell? ⟨b, o + j * 4 + 3, none⟩ = some (.slice ka L[j].args.length kc) /\ Ints w ka kc L[j].args := by
 obtain ⟨b, o, e, hlt, hA⟩ := h.out (by intro e; rw [e] at hj; simp at hj)
 obtain ⟨ka, kc, c0, c1, c2, c3, hI⟩ := (hA j hj).out
 exact ⟨b, o, ka, kc, e, hlt, c0, c1, c2, c3, hI⟩
theorem cell_lt {w : World} {b o : Nat} {v : Value} (h : w.cell? ⟨b, o, none⟩ = some v) : b < w.heap.size := by
 by_cases hb : b < w.heap.size
 ·exact hb
 ·simp [World.cell?, Array.getElem?_eq_none (by omega : w.heap.size <= b)] at h
structure WK (w : World) (ao : Option Addr) (l c n : Nat) (A : Bool) : Prop where
 out : ∀ w', Below w.heap.size w w' -> Calls Tryz.prog 83 #[.slice ao l c, .int .i64 n] w' fun e w'' => e = .returned (.bool A) /\ w'' = w'
theorem WK.of {w : World} {ao : Option Addr} {l c n : Nat} {L : List Int} {A : Bool} (hL : Ints w ao c L) (hl : l = L.length) (hA : L.all (wi n) = A) : WK w ao l c n A := ⟨fun w' hb => by
 have := rWithin_any w' ao l c n L hl (hL.below hb (Nat.le_refl _))
 rw [hA] at this; exact this⟩
theorem aft_cells {w w' : World} {fa : Option Addr} {fn fc : Nat} {mn : Int} {s : ByteArray} {pa : Option Addr} {pn pc : Nat} {r : Int} {va : Option Addr} {vn vc : Nat} {ba : Option Addr} {bn bc : Nat} (h : Aft w (.cells #[.slice fa fn fc, .int .i64 mn] 24) (.cells #[.string s, .slice pa pn pc, .int .i64 r, .slice va vn vc, .slice ba bn bc] 38) w') :
 w'.cell? ⟨w.heap.size, 0, none⟩ = some (.slice fa fn fc) /\ w'.cell? ⟨w.heap.size, 1, none⟩ = some (.int .i64 mn) /\ w'.cell? ⟨w.heap.size + 1, 0, none⟩ = some (.string s) /\ w'.cell? ⟨w.heap.size + 1, 1, none⟩ = some (.slice pa pn pc) /\ w'.cell? ⟨w.heap.size + 1, 2, none⟩ = some (.int .i64 r) /\ w'.cell? ⟨w.heap.size + 1, 3, none⟩ = some (.slice va vn vc) /\ w'.cell? ⟨w.heap.size + 1, 4, none⟩ = some (.slice ba bn bc) /\ w.heap.size + 1 < w'.heap.size :=
 ⟨cell_arr h.one rfl, cell_arr h.one rfl, cell_arr h.two rfl, cell_arr h.two rfl, cell_arr h.two rfl, cell_arr h.two rfl, cell_arr h.two rfl, by have := h.size; omega⟩
set_option maxRecDepth 100000 in
set_option maxHeartbeats 8000000 in
theorem rFunc_yes (w : World) {fa : Option Addr} {fn fc : Nat} {mn : Int} {s : ByteArray} {pa : Option Addr} {pn pc : Nat} {r : Int} {va : Option Addr} {vn vc : Nat} {ba : Option Addr} {bn bc : Nat} {FS : List Fu} {f : Fu} (X : RX w fa fn fc s pa pn pc r va vn vc ba bn bc FS f) (hf : fstF pn vn bn r (f.params.all (wi vn)) = true) :
 Calls Tryz.prog 41 #[.agg #[.slice fa fn fc, .int .i64 mn], .agg #[.string s, .slice pa pn pc, .int .i64 r, .slice va vn vc, .slice ba bn bc]] w fun e w' => e = .returned (.bool (f.vals.all (valueP f FS) && (evr (fun i x => decide ((gv f x).op = 33) && decide ((gv f x).imm = i)) 0 f.params && f.blks.all (rbP f)))) /\ Below w.heap.size w w' := by
 simp only [fstF, Bool.and_eq_true, decide_eq_true_eq] at hf
 obtain ⟨h1, h2, h3, h4, h5, hw⟩ := hf
 rw [<- evr_plain (valueP f FS) f.vals 0, <- evr_plain (rbP f) f.blks 0]
 obtain ⟨RA, hRA⟩ : ∃ R, evr (fun _ v => valueP f FS v) 0 f.vals = R := ⟨_, rfl⟩
 obtain ⟨RB, hRB⟩ : ∃ R, evr (fun i x => decide ((gv f x).op = 33) && decide ((gv f x).imm = (i : Nat))) 0 f.params = R := ⟨_, rfl⟩
 obtain ⟨RC, hRC⟩ : ∃ R, evr (fun _ b => rbP f b) 0 f.blks = R := ⟨_, rfl⟩
 rw [hRA, hRB, hRC]
 have HA0 : Hid (EvR (fun _ v => valueP f FS v) f.vals 0 RA) := ⟨by simpa using hRA⟩
 have HB0 : Hid (EvR (fun i x => decide ((gv f x).op = 33) && decide ((gv f x).imm = (i : Nat))) f.params 0 RB) := ⟨by simpa using hRB⟩
 have HC0 : Hid (EvR (fun _ b => rbP f b) f.blks 0 RC) := ⟨by simpa using hRC⟩
 have HX : Hid (RX w fa fn fc s pa pn pc r va vn vc ba bn bc FS f) := X
 have HW : Hid (∀ w', Aft w (.cells #[.slice fa fn fc, .int .i64 mn] 24) (.cells #[.string s, .slice pa pn pc, .int .i64 r, .slice va vn vc, .slice ba bn bc] 38) w' -> Calls Tryz.prog 83 #[.slice pa pn pc, .int .i64 vn] w' fun e w'' => e = .returned (.bool true) /\ w'' = w') := fun w' h => by
  have := rWithin_any w' pa pn pc vn f.params X.ep (X.hP.below h.low (Nat.le_refl _))
  rw [hw] at this
  exact this
 have HWI : Hid (∀ x ∈ f.params, wi vn x = true) := by
  rw [List.all_eq_true] at hw
  exact hw
 have g1 : decide ((8 : Int) < pn) = false := by simp; omega
 have g2 : decide ((262143 : Int) < vn) = false := by simp; omega
 have g3 : decide ((bn : Int) < 1) = false := by simp; omega
 have g4 : decide (r < 0) = false := by simp; omega
 have g5 : decide (3 < r) = false := by simp; omega
 have hbx : bn <= 9223372036854775807 := by have := X.hB.le; have := X.hB.mx; have := X.eb; omega
 have hvx : vn <= 9223372036854775807 := by omega
 have A0 : Aft w (.cells #[.slice fa fn fc, .int .i64 mn] 24) (.cells #[.string s, .slice pa pn pc, .int .i64 r, .slice va vn vc, .slice ba bn bc] 38) ((w.alloc (.cells #[.slice fa fn fc, .int .i64 mn] 24)).alloc (.cells #[.string s, .slice pa pn pc, .int .i64 r, .slice va vn vc, .slice ba bn bc] 38)) := Aft.refl _ _ _
 clear hRA hRB hRC X hw
 go_enter Tryz.func41, Tryz.ntmps41
 have hh1 : Hid (pn <= 8) := h1
 have hh3 : Hid (1 <= bn) := h3
 clear h1 h2 h3 h4 h5
 go_wp2_with (go_at_call 83; refine (HW.out _ A0).mono ?_; rintro e w1 ⟨rfl, rfl⟩)
 go_loopw [6] (fun v wr => ∃ k : Nat, k <= vn /\ v = .int .i64 k /\ Hid (EvR (fun _ v => valueP f FS v) f.vals k RA) /\ Hid (Aft w (.cells #[.slice fa fn fc, .int .i64 mn] 24) (.cells #[.string s, .slice pa pn pc, .int .i64 r, .slice va vn vc, .slice ba bn bc] 38) wr)) (fun v _ => vn - (intOf v).toNat)
 case atStart => exact ⟨0, by omega, rfl, HA0, A0⟩
 case round =>
  clear HA0 A0 HW
  obtain ⟨k, hk, rfl, HP, HA⟩ := hrel
  obtain ⟨x0, x1, y0, y1, y2, y3, y4, xs⟩ := aft_cells HA.out
  by_cases hlt : k < vn
  ·have hkf : k < f.vals.length := by have := HX.out.ev; omega
   obtain ⟨b', o', ka, kc, rfl, hlt', c0, c1, c2, c3, g⟩ := (HX.out.hV.below HA.out.low (Nat.le_refl _)).at4 hkf
   have HN := HP.out.next hkf
   have HXw : Hid _ := HX.out.below HA.out.low
   generalize f.vals[k] = v at c0 c1 c2 c3 g HN
   obtain ⟨op, ty, imm, A⟩ := v
   simp only at c0 c1 c2 c3 g HN
   obtain ⟨al, hal⟩ : ∃ al, al = A.length := ⟨_, rfl⟩
   rw [<- hal] at c3
   have hd : Below wr.heap.size wr wr.drew := (Below.refl _ _).drew
   have HVC : Hid (∀ w', Below wr.heap.size wr w' -> Calls Tryz.prog 84 #[.agg #[.slice fa fn fc, .int .i64 mn], .agg #[.string s, .slice pa pn pc, .int .i64 r, .slice (some ⟨b', o', none⟩) vn vc, .slice ba bn bc], .agg #[.int .i64 op, .int .i64 ty, .int .i64 imm, .slice ka al kc]] w' fun e w'' => e = .returned (.bool (valueP f FS ⟨op, ty, imm, A⟩)) /\ Below w'.heap.size w' w'') := fun w' hw' =>
    rValue_any w' (HXw.out.below hw').hF (HXw.out.ef) (HXw.out.ev) op ty imm A hal (g.below hw' (Nat.le_refl _))
   have HN1 : Hid (valueP f FS ⟨op, ty, imm, A⟩ = true -> EvR (fun _ v => valueP f FS v) f.vals (k + 1) RA) := HN.1
   have HN2 : Hid (valueP f FS ⟨op, ty, imm, A⟩ = false -> RA = false) := HN.2
   have S0 : (fun w' : World => w'.cell? ⟨w.heap.size, 0, none⟩ = some (.slice fa fn fc) /\ w'.cell? ⟨w.heap.size, 1, none⟩ = some (.int .i64 mn) /\ w'.cell? ⟨w.heap.size + 1, 0, none⟩ = some (.string s) /\ w'.cell? ⟨w.heap.size + 1, 1, none⟩ = some (.slice pa pn pc) /\ w'.cell? ⟨w.heap.size + 1, 2, none⟩ = some (.int .i64 r) /\ w'.cell? ⟨w.heap.size + 1, 3, none⟩ = some (.slice (some ⟨b', o', none⟩) vn vc) /\ w'.cell? ⟨w.heap.size + 1, 4, none⟩ = some (.slice ba bn bc) /\ w'.cell? ⟨b', o' + k * 4, none⟩ = some (.int .i64 op) /\ w'.cell? ⟨b', o' + k * 4 + 1, none⟩ = some (.int .i64 ty) /\ w'.cell? ⟨b', o' + k * 4 + 2, none⟩ = some (.int .i64 imm) /\ w'.cell? ⟨b', o' + k * 4 + 3, none⟩ = some (.slice ka al kc)) wr.drew := ⟨x0, x1, y0, y1, y2, y3, y4, c0, c1, c2, c3⟩
   have HS : Hid (∀ w1, Below wr.heap.size wr w1 -> (fun w' : World => w'.cell? ⟨w.heap.size, 0, none⟩ = some (.slice fa fn fc) /\ w'.cell? ⟨w.heap.size, 1, none⟩ = some (.int .i64 mn) /\ w'.cell? ⟨w.heap.size + 1, 0, none⟩ = some (.string s) /\ w'.cell? ⟨w.heap.size + 1, 1, none⟩ = some (.slice pa pn pc) /\ w'.cell? ⟨w.heap.size + 1, 2, none⟩ = some (.int .i64 r) /\ w'.cell? ⟨w.heap.size + 1, 3, none⟩ = some (.slice (some ⟨b', o', none⟩) vn vc) /\ w'.cell? ⟨w.heap.size + 1, 4, none⟩ = some (.slice ba bn bc) /\ w'.cell? ⟨b', o' + k * 4, none⟩ = some (.int .i64 op) /\ w'.cell? ⟨b', o' + k * 4 + 1, none⟩ = some (.int .i64 ty) /\ w'.cell? ⟨b', o' + k * 4 + 2, none⟩ = some (.int .i64 imm) /\ w'.cell? ⟨b', o' + k * 4 + 3, none⟩ = some (.slice ka al kc)) w1) := fun w1 hb1 => ⟨(hb1.cell (p := ⟨w.heap.size, 0, none⟩) (by show w.heap.size < _; omega)).trans x0, (hb1.cell (p := ⟨w.heap.size, 1, none⟩) (by show w.heap.size < _; omega)).trans x1, (hb1.cell (p := ⟨w.heap.size + 1, 0, none⟩) xs).trans y0, (hb1.cell (p := ⟨w.heap.size + 1, 1, none⟩) xs).trans y1, (hb1.cell (p := ⟨w.heap.size + 1, 2, none⟩) xs).trans y2, (hb1.cell (p := ⟨w.heap.size + 1, 3, none⟩) xs).trans y3, (hb1.cell (p := ⟨w.heap.size + 1, 4, none⟩) xs).trans y4, (hb1.cell (p := ⟨b', o' + k * 4, none⟩) hlt').trans c0, (hb1.cell (p := ⟨b', o' + k * 4 + 1, none⟩) hlt').trans c1, (hb1.cell (p := ⟨b', o' + k * 4 + 2, none⟩) hlt').trans c2, (hb1.cell (p := ⟨b', o' + k * 4 + 3, none⟩) hlt').trans c3⟩
   clear g HN hal HB0 HC0 HWI HXw
   generalize valueP f FS ⟨op, ty, imm, A⟩ = E at HVC HN1 HN2
   cases E
   all_goals
    go_wp2_with fail
    go_region_held (fun w' : World => w'.cell? ⟨w.heap.size, 0, none⟩ = some (.slice fa fn fc) /\ w'.cell? ⟨w.heap.size, 1, none⟩ = some (.int .i64 mn) /\ w'.cell? ⟨w.heap.size + 1, 0, none⟩ = some (.string s) /\ w'.cell? ⟨w.heap.size + 1, 1, none⟩ = some (.slice pa pn pc) /\ w'.cell? ⟨w.heap.size + 1, 2, none⟩ = some (.int .i64 r) /\ w'.cell? ⟨w.heap.size + 1, 3, none⟩ = some (.slice (some ⟨b', o', none⟩) vn vc) /\ w'.cell? ⟨w.heap.size + 1, 4, none⟩ = some (.slice ba bn bc) /\ w'.cell? ⟨b', o' + k * 4, none⟩ = some (.int .i64 op) /\ w'.cell? ⟨b', o' + k * 4 + 1, none⟩ = some (.int .i64 ty) /\ w'.cell? ⟨b', o' + k * 4 + 2, none⟩ = some (.int .i64 imm) /\ w'.cell? ⟨b', o' + k * 4 + 3, none⟩ = some (.slice ka al kc)) (first | exact S0 | exact S1)
     (first | (go_at_call 84; refine (HVC.out _ hd).mono ?_; rintro e w1 ⟨rfl, hb1⟩; have S1 := HS.out w1 (hd.trans (hb1.mono hd.size))))
    go_wp2_with fail
   ·go_ret
    have hb3 := hd.trans (hb1.mono hd.size)
    exact ⟨ret_bl (by rw [HN2.out (by first | trivial | rfl)]; rfl), by first | exact (HA.out.next hb3).low | exact below_drawn (HA.out.next hb3).low _⟩
   ·have hb3 := hd.trans (hb1.mono hd.size)
    go_roundw
    case rel => exact ⟨k + 1, by omega, by go_num, HN1.out (by first | trivial | rfl), by first | exact HA.out.next hb3 | exact (HA.out.next hb3).drawn _⟩
    case measure => simp [intOf]; omega
  ·obtain rfl : RA = true := HP.out.fin (by have := HX.out.ev; omega)
   obtain rfl : vn = k := by omega
   clear HP hlt x0 x1 y0 y1 y2 y3 y4 xs hk
   obtain ⟨y0, y1, y2, y3, y4⟩ : _ /\ _ /\ _ /\ _ /\ _ := ⟨cell_arr (i := 0) HA.out.two rfl, cell_arr (i := 1) HA.out.two rfl, cell_arr (i := 2) HA.out.two rfl, cell_arr (i := 3) HA.out.two rfl, cell_arr (i := 4) HA.out.two rfl⟩
   go_wp2_with fail
   go_loopw [7] (fun v wr => ∃ k : Nat, k <= pn /\ v = .int .i64 k /\ Hid (EvR (fun i x => decide ((gv f x).op = 33) && decide ((gv f x).imm = (i : Nat))) f.params k RB) /\ Hid (Aft w (.cells #[.slice fa fn fc, .int .i64 mn] 24) (.cells #[.string s, .slice pa pn pc, .int .i64 r, .slice va vn vc, .slice ba bn bc] 38) wr)) (fun v _ => pn - (intOf v).toNat)
   case atStart => exact ⟨0, by omega, rfl, HB0, HA⟩
   case round =>
    clear HB0 HA y0 y1 y2 y3 y4
    obtain ⟨k, hk, rfl, HP, HA⟩ := hrel
    obtain ⟨x0, x1, y0, y1, y2, y3, y4, xs⟩ := aft_cells HA.out
    have hpx : pn <= 8 := hh1.out
    by_cases hlt : k < pn
    ·have hkf : k < f.params.length := by have := HX.out.ep; omega
     obtain ⟨pb, po, rfl, d0⟩ := (HX.out.hP.below HA.out.low (Nat.le_refl _)).at hkf
     have hpb : pb < wr.heap.size := cell_lt d0
     have hwi := HWI.out _ (List.getElem_mem hkf)
     have HN := HP.out.next hkf
     obtain ⟨x, hx⟩ : ∃ x : Nat, f.params[k] = (x : Int) := ⟨f.params[k].toNat, by simp only [wi, decide_eq_true_eq] at hwi; omega⟩
     rw [hx] at d0 hwi HN
     have hxv : x < vn := by simp only [wi, decide_eq_true_eq] at hwi; omega
     have hxf : x < f.vals.length := by have := HX.out.ev; omega
     have eg : gv f (x : Int) = f.vals[x] := by simp [gv, List.getD_eq_getElem?_getD, hxf]
     obtain ⟨b', o', ka, kc, rfl, hlt', c0, c1, c2, c3, g⟩ := (HX.out.hV.below HA.out.low (Nat.le_refl _)).at4 hxf
     rw [eg] at HN
     clear hwi hx eg
     generalize f.vals[x] = v at c0 c1 c2 c3 g HN
     obtain ⟨op, ty, imm, A⟩ := v
     simp only at c0 c1 c2 c3 g HN
     obtain ⟨al, hal⟩ : ∃ al, al = A.length := ⟨_, rfl⟩
     rw [<- hal] at c3
     have HN1 : Hid (op = 33 /\ imm = k -> EvR (fun i x => decide ((gv f x).op = 33) && decide ((gv f x).imm = (i : Nat))) f.params (k + 1) RB) := fun h => HN.1 (by simp [h.1, h.2])
     have HN2 : Hid (¬ (op = 33 /\ imm = k) -> RB = false) := fun h => HN.2 (by simpa using h)
     have S0 : (fun w' : World => w'.cell? ⟨w.heap.size + 1, 1, none⟩ = some (.slice (some ⟨pb, po, none⟩) pn pc) /\ w'.cell? ⟨w.heap.size + 1, 3, none⟩ = some (.slice (some ⟨b', o', none⟩) vn vc) /\ w'.cell? ⟨pb, po + k, none⟩ = some (.int .i64 (x : Int)) /\ w'.cell? ⟨b', o' + x * 4, none⟩ = some (.int .i64 op) /\ w'.cell? ⟨b', o' + x * 4 + 1, none⟩ = some (.int .i64 ty) /\ w'.cell? ⟨b', o' + x * 4 + 2, none⟩ = some (.int .i64 imm) /\ w'.cell? ⟨b', o' + x * 4 + 3, none⟩ = some (.slice ka al kc)) wr.drew := ⟨y1, y3, d0, c0, c1, c2, c3⟩
     have S1 : (fun w' : World => w'.cell? ⟨w.heap.size + 1, 1, none⟩ = some (.slice (some ⟨pb, po, none⟩) pn pc) /\ w'.cell? ⟨w.heap.size + 1, 3, none⟩ = some (.slice (some ⟨b', o', none⟩) vn vc) /\ w'.cell? ⟨pb, po + k, none⟩ = some (.int .i64 (x : Int)) /\ w'.cell? ⟨b', o' + x * 4, none⟩ = some (.int .i64 op) /\ w'.cell? ⟨b', o' + x * 4 + 1, none⟩ = some (.int .i64 ty) /\ w'.cell? ⟨b', o' + x * 4 + 2, none⟩ = some (.int .i64 imm) /\ w'.cell? ⟨b', o' + x * 4 + 3, none⟩ = some (.slice ka al kc)) (wr.drew.alloc (.cells #[.int .i64 0, .int .i64 0, .int .i64 0, .slice none 0 0] 42)) := ⟨cellA (cellD y1), cellA (cellD y3), cellA (cellD d0), cellA (cellD c0), cellA (cellD c1), cellA (cellD c2), cellA (cellD c3)⟩
     clear g HN hal HC0 HWI
     go_wp2_with fail
     refine led_start (S := fun w' : World => w'.cell? ⟨w.heap.size + 1, 1, none⟩ = some (.slice (some ⟨pb, po, none⟩) pn pc) /\ w'.cell? ⟨w.heap.size + 1, 3, none⟩ = some (.slice (some ⟨b', o', none⟩) vn vc) /\ w'.cell? ⟨pb, po + k, none⟩ = some (.int .i64 (x : Int)) /\ w'.cell? ⟨b', o' + x * 4, none⟩ = some (.int .i64 op) /\ w'.cell? ⟨b', o' + x * 4 + 1, none⟩ = some (.int .i64 ty) /\ w'.cell? ⟨b', o' + x * 4 + 2, none⟩ = some (.int .i64 imm) /\ w'.cell? ⟨b', o' + x * 4 + 3, none⟩ = some (.slice ka al kc)) (z := 10) (by kernel_rfl) ?_
     refine led_n 0 S0 ?_
     refine led_n 1 S0 ?_
     refine led_n 2 S0 ?_
     refine led_n 3 S0 ?_
     refine led_n 4 S0 ?_
     refine led_n 5 S0 ?_
     refine led_n 6 S0 ?_
     refine led_n 7 S0 ?_
     refine led_n 8 S0 ?_
     refine led_one (i := 9) rfl (by kernel_rfl) ?_
     intro K9 hK9
     rw [if_pos (by rfl)]
     go_simp
     refine hK9 _ _ (fun _ => S1) ?_
     clear hK9
     try simp only [Act.put, zi, zz, zs]
     refine led_one (i := 10) rfl (by kernel_rfl) ?_
     intro K3 hK3
     rw [if_pos (by rfl)]
     go_simp
     refine hK3 _ _ (fun h => absurd rfl h) ?_
     clear hK3 S0 S1
     try simp only [Act.put, zi, zz, zs]
     refine led_done (by kernel_rfl) ?_
     have HAN : Hid (Aft w (.cells #[.slice fa fn fc, .int .i64 mn] 24) (.cells #[.string s, .slice (some ⟨pb, po, none⟩) pn pc, .int .i64 r, .slice (some ⟨b', o', none⟩) vn vc, .slice ba bn bc] 38) (wr.alloc (.cells #[.int .i64 op, .int .i64 ty, .int .i64 imm, .slice ka al kc] 42)).drew) := HA.out.next (((Below.refl _ _).alloc (Nat.le_refl _) _).drew)
     by_cases h33 : op = 33
     ·subst h33
      by_cases him : imm = k
      ·subst him
       go_wp2_with fail
       go_roundw
       case rel => exact ⟨k + 1, by omega, by go_num, HN1.out ⟨rfl, rfl⟩, HAN⟩
       case measure => simp [intOf]; omega
      ·go_wp2_with fail
       go_ret
       exact ⟨ret_bl (by rw [HN2.out (fun h => him h.2)]; rfl), HAN.out.low⟩
     ·go_wp2_with fail
      go_ret
      exact ⟨ret_bl (by rw [HN2.out (fun h => h33 h.1)]; rfl), HAN.out.low⟩
    ·obtain rfl : RB = true := HP.out.fin (by have := HX.out.ep; omega)
     obtain rfl : pn = k := by omega
     clear HP hlt x0 x1 y0 y1 y2 y3 y4 xs hk
     obtain ⟨y0, y1, y2, y3, y4⟩ : _ /\ _ /\ _ /\ _ /\ _ := ⟨cell_arr (i := 0) HA.out.two rfl, cell_arr (i := 1) HA.out.two rfl, cell_arr (i := 2) HA.out.two rfl, cell_arr (i := 3) HA.out.two rfl, cell_arr (i := 4) HA.out.two rfl⟩
     go_wp2_with fail
     go_loopw [9] (fun v wr => ∃ k : Nat, k <= bn /\ v = .int .i64 k /\ Hid (EvR (fun _ b => rbP f b) f.blks k RC) /\ Hid (Aft w (.cells #[.slice fa fn fc, .int .i64 mn] 24) (.cells #[.string s, .slice pa pn pc, .int .i64 r, .slice va vn vc, .slice ba bn bc] 38) wr)) (fun v _ => bn - (intOf v).toNat)
     case atStart => exact ⟨0, by omega, rfl, HC0, HA⟩
     case round =>
      clear HC0 HA y0 y1 y2 y3 y4 HWI hpx
      obtain ⟨k, hk, rfl, HP, HA⟩ := hrel
      obtain ⟨x0, x1, y0, y1, y2, y3, y4, xs⟩ := aft_cells HA.out
      by_cases hlt : k < bn
      ·have hkf : k < f.blks.length := by have := HX.out.eb; omega
       obtain ⟨b', o', ka, kc, la, lc, ma, mc, na, nc, rfl, hlt', c0, c1, c2, c3, c4, c5, j1, j2, j3, j4⟩ := (HX.out.hB.below HA.out.low (Nat.le_refl _)).at hkf
       have HN := HP.out.next hkf
       have HXw : Hid _ := HX.out.below HA.out.low
       generalize f.blks[k] = b at c0 c1 c2 c3 c4 c5 j1 j2 j3 j4 HN
       obtain ⟨PH, BO, kd, vl, WY, PR⟩ := b
       simp only at c0 c1 c2 c3 c4 c5 j1 j2 j3 j4
       obtain ⟨l1, hl1⟩ : ∃ l, l = PH.length := ⟨_, rfl⟩
       obtain ⟨l2, hl2⟩ : ∃ l, l = BO.length := ⟨_, rfl⟩
       obtain ⟨l3, hl3⟩ : ∃ l, l = WY.length := ⟨_, rfl⟩
       obtain ⟨l4, hl4⟩ : ∃ l, l = PR.length := ⟨_, rfl⟩
       rw [<- hl1] at c0
       rw [<- hl2] at c1
       rw [<- hl3] at c4
       rw [<- hl4] at c5
       obtain ⟨A1, hA1⟩ : ∃ A, PH.all (wi vn) = A := ⟨_, rfl⟩
       obtain ⟨A2, hA2⟩ : ∃ A, BO.all (wi vn) = A := ⟨_, rfl⟩
       obtain ⟨A3, hA3⟩ : ∃ A, PR.all (wi bn) = A := ⟨_, rfl⟩
       obtain ⟨A4, hA4⟩ : ∃ A, termP f kd vl WY = A := ⟨_, rfl⟩
       obtain ⟨R5, hR5⟩ : ∃ A, evr (fun _ x => !decide ((gv f x).op = 33)) 0 PH = A := ⟨_, rfl⟩
       obtain ⟨R6, hR6⟩ : ∃ A, evr (fun _ x => !decide ((gv f x).op = 33)) 0 BO = A := ⟨_, rfl⟩
       have hrb : rbP f ⟨PH, BO, kd, vl, WY, PR⟩ = (A1 && (A2 && (A3 && (A4 && (R5 && R6))))) := by
        unfold rbP
        rw [<- hR5, <- hR6, evr_plain (fun x => !decide ((gv f x).op = 33)), evr_plain (fun x => !decide ((gv f x).op = 33)), <- hA1, <- hA2, <- hA3, <- hA4, HX.out.ev, HX.out.eb]
       rw [hrb] at HN
       have HW1 : WK wr ka l1 kc vn A1 := WK.of j1 hl1 hA1
       have HW2 : WK wr la l2 lc vn A2 := WK.of j2 hl2 hA2
       have HW3 : WK wr na l4 nc bn A3 := WK.of j4 hl4 hA3
       have HT4 : Hid (∀ w', Below wr.heap.size wr w' -> Calls Tryz.prog 85 #[.agg #[.string s, .slice pa pn pc, .int .i64 r, .slice va vn vc, .slice (some ⟨b', o', none⟩) bn bc], .agg #[.int .i64 kd, .int .i64 vl, .slice ma l3 mc]] w' fun e w'' => e = .returned (.bool A4) /\ Below w'.heap.size w' w'') := fun w' hb => by
        have := rTerm_any w' (s := s) (pa := pa) (pn := pn) (pc := pc) (va := va) (vc := vc) (ba := some ⟨b', o', none⟩) (bc := bc) HXw.out.er HXw.out.ev HXw.out.eb vl ma l3 mc WY hl3 (j3.below hb (Nat.le_refl _)) kd
        rw [hA4] at this; exact this
       have HNX : Hid (A1 = true -> A2 = true -> A3 = true -> A4 = true -> R5 = true -> R6 = true -> EvR (fun _ b => rbP f b) f.blks (k + 1) RC) := fun h1 h2 h3 h4 h5 h6 => HN.1 (by rw [h1, h2, h3, h4, h5, h6]; rfl)
       have HNO : Hid ((A1 && (A2 && (A3 && (A4 && (R5 && R6))))) = false -> RC = false) := HN.2
       have HE5 : Hid (EvR (fun _ x => !decide ((gv f x).op = 33)) PH 0 R5) := ⟨by simpa using hR5⟩
       have HE6 : Hid (EvR (fun _ x => !decide ((gv f x).op = 33)) BO 0 R6) := ⟨by simpa using hR6⟩
       have HI1 : Hid (Ints wr ka kc PH) := j1
       have HI2 : Hid (Ints wr la lc BO) := j2
       have HL1 : Hid (l1 = PH.length) := hl1
       have HL2 : Hid (l2 = BO.length) := hl2
       have hm1 : l1 <= 9223372036854775807 := by have := j1.le; have := j1.mx; omega
       have hm2 : l2 <= 9223372036854775807 := by have := j2.le; have := j2.mx; omega
       have HV1 : Hid (A1 = true -> ∀ x ∈ PH, wi vn x = true) := fun h => by rw [h, List.all_eq_true] at hA1; exact hA1
       have HV2 : Hid (A2 = true -> ∀ x ∈ BO, wi vn x = true) := fun h => by rw [h, List.all_eq_true] at hA2; exact hA2
       have hba : Below wr.heap.size wr (wr.alloc (.cells #[.slice ka l1 kc, .slice la l2 lc, .int .i64 kd, .int .i64 vl, .slice ma l3 mc, .slice na l4 nc] 46)) := below_new _ _
       have HAB := HA.out.next hba
       clear hR5 hR6 hrb HN hA1 hA2 hA3 hA4 hl1 hl2 hl3 hl4 j1 j2 j3 j4 HP
       have HAB' : Hid _ := HAB
       cases A1
       ·go_wp2_with (first
         | (go_at_call 83; refine Calls.mono (WK.out (by first | exact HW1 | exact HW2 | exact HW3) _ hba) ?_; rintro e w1 ⟨rfl, rfl⟩))
        go_ret
        exact ⟨ret_bl (by rw [HNO.out rfl]; rfl), HAB'.out.low⟩
       cases A2
       ·go_wp2_with (first
         | (go_at_call 83; refine Calls.mono (WK.out (by first | exact HW1 | exact HW2 | exact HW3) _ hba) ?_; rintro e w1 ⟨rfl, rfl⟩))
        go_ret
        exact ⟨ret_bl (by rw [HNO.out rfl]; rfl), HAB'.out.low⟩
       cases A3
       ·go_wp2_with (first
         | (go_at_call 83; refine Calls.mono (WK.out (by first | exact HW1 | exact HW2 | exact HW3) _ hba) ?_; rintro e w1 ⟨rfl, rfl⟩))
        go_ret
        exact ⟨ret_bl (by rw [HNO.out rfl]; rfl), HAB'.out.low⟩
       cases A4
       ·go_wp2_with (first
         | (go_at_call 83; refine Calls.mono (WK.out (by first | exact HW1 | exact HW2 | exact HW3) _ hba) ?_; rintro e w1 ⟨rfl, rfl⟩)
         | (go_at_call 85; refine (HT4.out _ hba).mono ?_; rintro e w1 ⟨rfl, hb1⟩; have HBT : Hid _ := hb1; clear hb1))
        go_ret
        exact ⟨ret_bl (by rw [HNO.out rfl]; rfl), (HAB'.out.next HBT.out).low⟩
       go_wp2_with (first
        | (go_at_call 83; refine Calls.mono (WK.out (by first | exact HW1 | exact HW2 | exact HW3) _ hba) ?_; rintro e w1 ⟨rfl, rfl⟩)
        | (go_at_call 85; refine (HT4.out _ hba).mono ?_; rintro e W ⟨rfl, hb1⟩; have HBT : Hid _ := hb1; clear hb1))
       have HAW : Hid (Aft w _ _ W) := HAB'.out.next HBT.out
       have HXW : Hid _ := HX.out.below HAW.out.low
       have HLB : Hid (Below w.heap.size w W) := HAW.out.low
       have hbx1 := (HBT.out.block wr.heap.size (by simp)).trans (heap_alloc_new wr _)
       have HLT : Hid (wr.heap.size < W.heap.size) := by have := HBT.out.size; simp at this; show _ < _; omega
       obtain ⟨B3, hB3⟩ : ∃ B, B = wr.heap.size := ⟨_, rfl⟩
       rw [<- hB3] at hbx1 HLT ⊢
       have d0 : W.cell? ⟨B3, 0, none⟩ = some (.slice ka l1 kc) := cell_arr hbx1 rfl
       have d1 : W.cell? ⟨B3, 1, none⟩ = some (.slice la l2 lc) := cell_arr hbx1 rfl
       have HD0 : Hid _ := d0
       have HD1 : Hid _ := d1
       have e3 : W.cell? ⟨w.heap.size + 1, 3, none⟩ = some (.slice va vn vc) := cell_arr HAW.out.two rfl
       have HE3 : Hid _ := e3
       have HLW : Hid (w.heap.size + 1 < W.heap.size) := by have := HAW.out.size; show _ < _; omega
       replace HI1 : Hid (Ints W ka kc PH) := (HI1.out.below hba (Nat.le_refl _)).below HBT.out (Nat.le_refl _)
       replace HI2 : Hid (Ints W la lc BO) := (HI2.out.below hba (Nat.le_refl _)).below HBT.out (Nat.le_refl _)
       clear HBT HAB' HAB hba hbx1 hB3 HW1 HW2 HW3 HT4 c0 c1 c2 c3 c4 c5 x0 x1 y0 y1 y2 y3 y4 xs HXw hlt'
       go_wp2_with fail
       go_loopw [11] (fun v wr => ∃ j : Nat, j <= l1 /\ v = .int .i64 j /\ Hid (EvR (fun _ x => !decide ((gv f x).op = 33)) PH j R5) /\ Hid (Below W.heap.size W wr)) (fun v _ => l1 - (intOf v).toNat)
       case atStart => exact ⟨0, by omega, rfl, HE5, Below.refl _ _⟩
       case round =>
        clear d0 d1 e3
        obtain ⟨j, hj, rfl, HPj, HBW⟩ := hrel
        have d0 : wr.cell? ⟨B3, 0, none⟩ = some (.slice ka l1 kc) := (HBW.out.cell (p := ⟨B3, 0, none⟩) HLT.out).trans HD0.out
        have d1 : wr.cell? ⟨B3, 1, none⟩ = some (.slice la l2 lc) := (HBW.out.cell (p := ⟨B3, 1, none⟩) HLT.out).trans HD1.out
        have hlb : B3 < wr.heap.size := by have := HBW.out.size; have := HLT.out; omega
        have hlw : w.heap.size + 1 < wr.heap.size := by have := HBW.out.size; have := HLW.out; omega
        have e3 : wr.cell? ⟨w.heap.size + 1, 3, none⟩ = some (.slice va vn vc) := (HBW.out.cell (p := ⟨w.heap.size + 1, 3, none⟩) HLW.out).trans HE3.out
        by_cases hjl : j < l1
        ·have hjf : j < PH.length := by have := HL1.out; omega
         obtain ⟨pb, po, rfl, q0⟩ := (HI1.out.below HBW.out (Nat.le_refl _)).at hjf
         have hwi := HV1.out (by first | trivial | rfl) _ (List.getElem_mem hjf)
         have HN := HPj.out.next hjf
         obtain ⟨x, hx⟩ : ∃ x : Nat, PH[j] = (x : Int) := ⟨PH[j].toNat, by simp only [wi, decide_eq_true_eq] at hwi; omega⟩
         rw [hx] at q0 hwi HN
         have hxv : x < vn := by simp only [wi, decide_eq_true_eq] at hwi; omega
         have hxf : x < f.vals.length := by have := HX.out.ev; omega
         have eg : gv f (x : Int) = f.vals[x] := by simp [gv, List.getD_eq_getElem?_getD, hxf]
         obtain ⟨bv, ov, ta, tc, rfl, hlt2, q1, _, _, _, _⟩ := (HXW.out.below HBW.out).hV.at4 hxf
         rw [eg] at HN
         clear hwi hx eg
         generalize f.vals[x].op = op at q1 HN
         have HN1 : Hid (¬ op = 33 -> EvR (fun _ x => !decide ((gv f x).op = 33)) PH (j + 1) R5) := fun h => HN.1 (by simpa using h)
         have HN2 : Hid (op = 33 -> R5 = false) := fun h => HN.2 (by simpa using h)
         clear HN
         by_cases h33 : op = 33
         ·subst h33
          go_wp2_with fail
          go_quiet (fail)
          go_wp2_with fail
          go_ret
          exact ⟨ret_bl (by rw [HNO.out (by rw [HN2.out (by first | trivial | rfl)]; rfl)]; rfl), by first | exact HLB.out.trans (HBW.out.mono HLB.out.size) | exact (HLB.out.trans (HBW.out.mono HLB.out.size)).drew | exact below_drawn (HLB.out.trans (HBW.out.mono HLB.out.size)) _⟩
         ·go_wp2_with fail
          go_quiet (fail)
          go_wp2_with fail
          go_roundw
          case rel => exact ⟨j + 1, by omega, by go_num, HN1.out h33, by first | exact HBW.out | exact HBW.out.drew | exact below_drawn HBW.out _⟩
          case measure => simp [intOf]; omega
        ·obtain rfl : R5 = true := HPj.out.fin (by have := HL1.out; omega)
         obtain rfl : l1 = j := by omega
         clear HPj
         go_wp2_with fail
         go_loopw [12] (fun v wr => ∃ j : Nat, j <= l2 /\ v = .int .i64 j /\ Hid (EvR (fun _ x => !decide ((gv f x).op = 33)) BO j R6) /\ Hid (Below W.heap.size W wr)) (fun v _ => l2 - (intOf v).toNat)
         case atStart => exact ⟨0, by omega, rfl, HE6, HBW⟩
         case round =>
          clear HBW d0 d1 e3
          obtain ⟨j, hj, rfl, HPj, HBW⟩ := hrel
          have d0 : wr.cell? ⟨B3, 0, none⟩ = some (.slice ka l1 kc) := (HBW.out.cell (p := ⟨B3, 0, none⟩) HLT.out).trans HD0.out
          have d1 : wr.cell? ⟨B3, 1, none⟩ = some (.slice la l2 lc) := (HBW.out.cell (p := ⟨B3, 1, none⟩) HLT.out).trans HD1.out
          have hlb : B3 < wr.heap.size := by have := HBW.out.size; have := HLT.out; omega
          have hlw : w.heap.size + 1 < wr.heap.size := by have := HBW.out.size; have := HLW.out; omega
          have e3 : wr.cell? ⟨w.heap.size + 1, 3, none⟩ = some (.slice va vn vc) := (HBW.out.cell (p := ⟨w.heap.size + 1, 3, none⟩) HLW.out).trans HE3.out
          by_cases hjl : j < l2
          ·have hjf : j < BO.length := by have := HL2.out; omega
           obtain ⟨pb, po, rfl, q0⟩ := (HI2.out.below HBW.out (Nat.le_refl _)).at hjf
           have hwi := HV2.out (by first | trivial | rfl) _ (List.getElem_mem hjf)
           have HN := HPj.out.next hjf
           obtain ⟨x, hx⟩ : ∃ x : Nat, BO[j] = (x : Int) := ⟨BO[j].toNat, by simp only [wi, decide_eq_true_eq] at hwi; omega⟩
           rw [hx] at q0 hwi HN
           have hxv : x < vn := by simp only [wi, decide_eq_true_eq] at hwi; omega
           have hxf : x < f.vals.length := by have := HX.out.ev; omega
           have eg : gv f (x : Int) = f.vals[x] := by simp [gv, List.getD_eq_getElem?_getD, hxf]
           obtain ⟨bv, ov, ta, tc, rfl, hlt2, q1, _, _, _, _⟩ := (HXW.out.below HBW.out).hV.at4 hxf
           rw [eg] at HN
           clear hwi hx eg
           generalize f.vals[x].op = op at q1 HN
           have HN1 : Hid (¬ op = 33 -> EvR (fun _ x => !decide ((gv f x).op = 33)) BO (j + 1) R6) := fun h => HN.1 (by simpa using h)
           have HN2 : Hid (op = 33 -> R6 = false) := fun h => HN.2 (by simpa using h)
           clear HN
           by_cases h33 : op = 33
           ·subst h33
            go_wp2_with fail
            go_quiet (fail)
            go_wp2_with fail
            go_ret
            exact ⟨ret_bl (by rw [HNO.out (by rw [HN2.out (by first | trivial | rfl)]; simp)]; rfl), by first | exact HLB.out.trans (HBW.out.mono HLB.out.size) | exact (HLB.out.trans (HBW.out.mono HLB.out.size)).drew | exact below_drawn (HLB.out.trans (HBW.out.mono HLB.out.size)) _⟩
           ·go_wp2_with fail
            go_quiet (fail)
            go_wp2_with fail
            go_roundw
            case rel => exact ⟨j + 1, by omega, by go_num, HN1.out h33, by first | exact HBW.out | exact HBW.out.drew | exact below_drawn HBW.out _⟩
            case measure => simp [intOf]; omega
          ·obtain rfl : R6 = true := HPj.out.fin (by have := HL2.out; omega)
           obtain rfl : l2 = j := by omega
           clear HPj
           go_wp2_with fail
           go_roundw
           case rel => exact ⟨k + 1, by omega, by go_num, HNX.out (by first | trivial | rfl) (by first | trivial | rfl) (by first | trivial | rfl) (by first | trivial | rfl) (by first | trivial | rfl) (by first | trivial | rfl), HAW.out.next HBW.out⟩
           case measure => simp [intOf]; omega
      ·obtain rfl : RC = true := HP.out.fin (by have := HX.out.eb; omega)
       obtain rfl : bn = k := by omega
       clear HP hlt x0 x1 y0 y1 y2 y3 xs hk
       go_wp2_with fail
       go_ret
       exact ⟨ret_bl rfl, HA.out.low⟩
theorem rFunc_any (w : World) {fa : Option Addr} {fn fc : Nat} {mn : Int} {s : ByteArray} {pa : Option Addr} {pn pc : Nat} {r : Int} {va : Option Addr} {vn vc : Nat} {ba : Option Addr} {bn bc : Nat} {FS : List Fu} {f : Fu} (X : RX w fa fn fc s pa pn pc r va vn vc ba bn bc FS f) :
 Calls Tryz.prog 41 #[.agg #[.slice fa fn fc, .int .i64 mn], .agg #[.string s, .slice pa pn pc, .int .i64 r, .slice va vn vc, .slice ba bn bc]] w fun e w' => e = .returned (.bool (formP FS f)) /\ Below w.heap.size w w' := by
 have hx : rfP FS f = (fstF pn vn bn r (f.params.all (wi vn)) && (f.vals.all (valueP f FS) && (evr (fun i x => decide ((gv f x).op = 33) && decide ((gv f x).imm = i)) 0 f.params && f.blks.all (rbP f)))) := by
  unfold rfP fstF
  rw [X.ep, X.ev, X.eb, X.er]
  simp only [Bool.and_assoc]
 rw [<- rfP_eq, hx]
 cases hf : fstF pn vn bn r (f.params.all (wi vn)) with
 | false =>
   rw [Bool.false_and]
   exact rFunc_no w (f.params.all (wi vn)) (fun w' h => rWithin_any w' pa pn pc vn f.params X.ep (X.hP.below h.low (Nat.le_refl _))) hf
 | true =>
   rw [Bool.true_and]
   exact rFunc_yes w X hf
end Go.Proofs.YtdbkjjelaipcfaaGreatDoor
