import Derived.Lib.SliceRun
import Derived.Test.YtdbkjjelaipcfaaGreatDoorJbj
set_option linter.unusedVariables false
set_option linter.unusedSimpArgs false
namespace Go.Proofs.YtdbkjjelaipcfaaGreatDoor
open Go.ChangeShapes Go.WideShapes Go.ChangeAt Go.RowKit Go.Maps
set_option maxRecDepth 100000 in
set_option maxHeartbeats 8000000 in
theorem rFits_row (w : World) {fa : Option Addr} {fn fc : Nat} {mn : Int} {s : ByteArray} {pa : Option Addr} {pn pc : Nat} {r : Int} {va : Option Addr} {vn vc : Nat} {ba : Option Addr} {bn bc : Nat} {ka : Option Addr} {kl kc : Nat} (op ty imm : Int) (c a b d g : Int) (B : Bool) (HR : Hid (∀ w, Calls Tryz.prog 115 #[.int .i64 op] w fun e w' => e = .returned (.tuple #[.agg #[.int .i64 c, .int .i64 a, .int .i64 b, .int .i64 d, .int .i64 g], .bool B]) /\ Below w.heap.size w w')) (h1 : ¬ op = 1) (h2 : ¬ op = 13) (h3 : ¬ op = 14) (h4 : ¬ op = 25) (h5 : ¬ op = 32) (h6 : ¬ op = 33) {FS : List Fu} {f : Fu} (X : RX w fa fn fc s pa pn pc r va vn vc ba bn bc FS f) (A : List Int) (hkl : kl = A.length) (hk : Ints w ka kc A) (hA : ∀ x ∈ A, wi f.vals.length x = true) (h3l : A.length <= 3) :
 Calls Tryz.prog 90 #[.agg #[.slice fa fn fc, .int .i64 mn], .agg #[.string s, .slice pa pn pc, .int .i64 r, .slice va vn vc, .slice ba bn bc], .agg #[.int .i64 op, .int .i64 ty, .int .i64 imm, .slice ka kl kc]] w fun e w' => e = .returned (.bool (evr (fun i x => decide ((gv f x).ty = shA ⟨c, a, b, d, g⟩ i)) 0 A && decide (ty = g))) /\ Below w.heap.size w w' := by
 have A0 : VX w fa fn fc mn s pa pn pc r va vn vc ba bn bc op ty imm ka kl kc (((w.alloc (.cells #[.slice fa fn fc, .int .i64 mn] 24)).alloc (.cells #[.string s, .slice pa pn pc, .int .i64 r, .slice va vn vc, .slice ba bn bc] 38)).alloc (.cells #[.int .i64 op, .int .i64 ty, .int .i64 imm, .slice ka kl kc] 42)) := ⟨Below.refl _ _⟩
 have HBx : Hid (∀ w1 o q, VX w fa fn fc mn s pa pn pc r va vn vc ba bn bc op ty imm ka kl kc w1 -> Below w.heap.size w ((w1.alloc o).drewN q)) := fun w1 o q h => below_drewN (h.low.alloc (by have := h.size; omega) _) q
 obtain ⟨RA, hRA⟩ : ∃ R, evr (fun i x => decide ((gv f x).ty = shA ⟨c, a, b, d, g⟩ i)) 0 A = R := ⟨_, rfl⟩
 rw [hRA]
 have HA0 : Hid (EvR (fun i x => decide ((gv f x).ty = shA ⟨c, a, b, d, g⟩ i)) A 0 RA) := ⟨by simpa using hRA⟩
 have HX : Hid (RX w fa fn fc s pa pn pc r va vn vc ba bn bc FS f) := X
 have HK : Hid (Ints w ka kc A) := hk
 have HKL : Hid (kl = A.length) := hkl
 have HAI : Hid (∀ x ∈ A, wi f.vals.length x = true) := hA
 have hvx : vn <= 9223372036854775807 := by have := X.hV.le; have := X.hV.mx; have := X.ev; omega
 have hkx : kl <= 3 := by omega
 have e1 : (op == 1) = false := by simpa using h1
 have e2 : (op == 13) = false := by simpa using h2
 have e3 : (op == 14) = false := by simpa using h3
 have e4 : (op == 25) = false := by simpa using h4
 have e5 : (op == 32) = false := by simpa using h5
 have e6 : (op == 33) = false := by simpa using h6
 clear X hk hkl hA hRA h3l
 go_enter Tryz.func90, Tryz.ntmps90
 go_wp2_with (first | (go_at_call 115; refine (HR.out _).mono ?_; rintro e w1 ⟨rfl, hb1⟩; have A1 := A0.next hb1; obtain ⟨k0, k1, k2, k3, k4, k5, k6, k7, k8⟩ := VX.cells A1))
 try simp only [e1, e2, e3, e4, e5, e6]
 obtain ⟨W, hW⟩ : ∃ W, W = w1.alloc (.cells #[.int .i64 c, .int .i64 a, .int .i64 b, .int .i64 d, .int .i64 g] 139) := ⟨_, rfl⟩
 obtain ⟨RB, hRB⟩ : ∃ B, B = w1.heap.size := ⟨_, rfl⟩
 have HW : Hid (VX w fa fn fc mn s pa pn pc r va vn vc ba bn bc op ty imm ka kl kc W) := by rw [hW]; exact A1.next (below_new _ _)
 have HRW : Hid (W.heap[RB]? = some (.cells #[.int .i64 c, .int .i64 a, .int .i64 b, .int .i64 d, .int .i64 g] 139 (0, 0))) := by rw [hW, hRB]; exact heap_alloc_new w1 _
 rw [<- hW, <- hRB]
 clear hW hRB hb1 A0 A1 HR k0 k1 k2 k3 k4 k5 k6 k7 k8
 go_loopw [14] (fun v wr => ∃ j : Nat, j <= kl /\ v = .int .i64 j /\ Hid (EvR (fun i x => decide ((gv f x).ty = shA ⟨c, a, b, d, g⟩ i)) A j RA) /\ Hid (Below W.heap.size W wr)) (fun v _ => kl - (intOf v).toNat)
 case atStart => exact ⟨0, by omega, rfl, HA0, Below.refl _ _⟩
 case round =>
  clear HA0
  obtain ⟨j, hj, rfl, HP, HB⟩ := hrel
  have HV : Hid (VX w fa fn fc mn s pa pn pc r va vn vc ba bn bc op ty imm ka kl kc wr) := HW.out.next HB.out
  obtain ⟨k0, k1, k2, k3, k4, k5, k6, k7, k8⟩ := VX.cells HV.out
  have hrw := (HB.out.block RB (gl HRW.out)).trans HRW.out
  have hrs : RB < wr.heap.size := (gl hrw)
  have z4 : wr.cell? ⟨RB, 4, none⟩ = some (.int .i64 g) := cell_arr hrw rfl
  by_cases hjl : j < kl
  ·have hj3 : j < 3 := by omega
   have zj : wr.cell? ⟨RB, 1 + j, none⟩ = some (.int .i64 (shA ⟨c, a, b, d, g⟩ j)) := by
    rcases (show j = 0 \/ j = 1 \/ j = 2 by omega) with rfl | rfl | rfl
    all_goals exact cell_arr hrw rfl
   have hjf : j < A.length := by have := HKL.out; omega
   obtain ⟨pb, po, rfl, q0⟩ := (HK.out.below (HV.out.low) (Nat.le_refl _)).at hjf
   have hpb := cell_lt q0
   have hwi := HAI.out _ (List.getElem_mem hjf)
   have HN := HP.out.next hjf
   obtain ⟨x, hx⟩ : ∃ x : Nat, A[j] = (x : Int) := ⟨A[j].toNat, by simp only [wi, decide_eq_true_eq] at hwi; omega⟩
   rw [hx] at q0 hwi HN
   have hxf : x < f.vals.length := by simp only [wi, decide_eq_true_eq] at hwi; omega
   have hxv : x < vn := by have := HX.out.ev; omega
   have eg : gv f (x : Int) = f.vals[x] := by simp [gv, List.getD_eq_getElem?_getD, hxf]
   obtain ⟨bv, ov, rfl, hlt2, q1⟩ := (HX.out.below (HV.out.low)).hV.at hxf
   rw [eg] at HN
   clear hwi hx eg hrw
   generalize f.vals[x].ty = tx at q1 HN
   have HN1 : Hid (tx = shA ⟨c, a, b, d, g⟩ j -> EvR (fun i x => decide ((gv f x).ty = shA ⟨c, a, b, d, g⟩ i)) A (j + 1) RA) := fun h => HN.1 (by simpa using h)
   have HN2 : Hid (¬ tx = shA ⟨c, a, b, d, g⟩ j -> RA = false) := fun h => HN.2 (by simpa using h)
   clear HN
   generalize shA ⟨c, a, b, d, g⟩ j = tj at zj HN1 HN2
   by_cases ht : tx = tj
   ·subst ht
    go_wp2_with fail
    go_quiet (fail)
    go_wp2_with fail
    go_roundw
    case rel => exact ⟨j + 1, by omega, by go_num, HN1.out (by first | trivial | rfl), by first | exact HB.out | exact below_drawn HB.out _⟩
    case measure => simp [intOf]; omega
   ·go_wp2_with fail
    go_quiet (fail)
    go_wp2_with fail
    go_ret
    exact ⟨ret_bl (by rw [HN2.out ht]; rfl), by first | exact HV.out.low | exact below_drawn HV.out.low _⟩
  ·obtain rfl : RA = true := HP.out.fin (by have := HKL.out; omega)
   obtain rfl : kl = j := by omega
   clear HP hrw
   go_wp2_with fail
   go_ret
   exact ⟨ret_bl (by first | rfl | (simp; done) | (by_cases e : ty = g <;> simp [e])), HV.out.low⟩
set_option maxRecDepth 100000 in
set_option maxHeartbeats 8000000 in
theorem rFits_25 (w : World) {fa : Option Addr} {fn fc : Nat} {mn : Int} {s : ByteArray} {pa : Option Addr} {pn pc : Nat} {r : Int} {va : Option Addr} {vn vc : Nat} {ba : Option Addr} {bn bc : Nat} {ka : Option Addr} {kl kc : Nat} (ty imm : Int) (c a b d g : Int) (B : Bool) (HR : Hid (∀ w, Calls Tryz.prog 115 #[.int .i64 25] w fun e w' => e = .returned (.tuple #[.agg #[.int .i64 c, .int .i64 a, .int .i64 b, .int .i64 d, .int .i64 g], .bool B]) /\ Below w.heap.size w w')) {FS : List Fu} {f : Fu} (X : RX w fa fn fc s pa pn pc r va vn vc ba bn bc FS f) (hfs : ∀ G ∈ FS, formP FS G = true) (A : List Int) (hkl : kl = A.length) (hk : Ints w ka kc A) (hA : ∀ x ∈ A, wi f.vals.length x = true) (hi : wi FS.length imm = true) (hpl : A.length = (FS.getD imm.toNat noF).params.length) :
 Calls Tryz.prog 90 #[.agg #[.slice fa fn fc, .int .i64 mn], .agg #[.string s, .slice pa pn pc, .int .i64 r, .slice va vn vc, .slice ba bn bc], .agg #[.int .i64 25, .int .i64 ty, .int .i64 imm, .slice ka kl kc]] w fun e w' => e = .returned (.bool (evr (rcaA f (FS.getD imm.toNat noF)) 0 A && decide (ty = (FS.getD imm.toNat noF).result))) /\ Below w.heap.size w w' := by
 obtain ⟨m, rfl⟩ : ∃ m : Nat, imm = m := ⟨imm.toNat, by simp only [wi, decide_eq_true_eq] at hi; omega⟩
 have hm : m < FS.length := by simp only [wi, decide_eq_true_eq] at hi; omega
 rw [Int.toNat_natCast] at hpl ⊢
 rw [show FS.getD m noF = FS[m] by simp [List.getD_eq_getElem?_getD, hm]] at hpl ⊢
 have A0 : VX w fa fn fc mn s pa pn pc r va vn vc ba bn bc 25 ty m ka kl kc (((w.alloc (.cells #[.slice fa fn fc, .int .i64 mn] 24)).alloc (.cells #[.string s, .slice pa pn pc, .int .i64 r, .slice va vn vc, .slice ba bn bc] 38)).alloc (.cells #[.int .i64 25, .int .i64 ty, .int .i64 (m : Int), .slice ka kl kc] 42)) := ⟨Below.refl _ _⟩
 have HBx : Hid (∀ w1 o q, VX w fa fn fc mn s pa pn pc r va vn vc ba bn bc 25 ty m ka kl kc w1 -> Below w.heap.size w ((w1.alloc o).drewN q)) := fun w1 o q h => below_drewN (h.low.alloc (by have := h.size; omega) _) q
 obtain ⟨G, hG⟩ : ∃ G, G = FS[m] := ⟨_, rfl⟩
 rw [<- hG] at hpl ⊢
 have hGf : formP FS G = true := hfs G (by rw [hG]; exact List.getElem_mem hm)
 obtain ⟨RA, hRA⟩ : ∃ R, evr (rcaA f G) 0 A = R := ⟨_, rfl⟩
 rw [hRA]
 have HA0 : Hid (EvR (rcaA f G) A 0 RA) := ⟨by simpa using hRA⟩
 obtain ⟨gb, go, pa', pc', va', vc', ba', bc', rfl, hgl, g0, g1, g2, g3, g4, gi, gv', gk⟩ := X.hF.at hm
 rw [<- hG] at g0 g1 g2 g3 g4 gi gv'
 obtain ⟨pn', hpn'⟩ : ∃ n, n = G.params.length := ⟨_, rfl⟩
 obtain ⟨vn', hvn'⟩ : ∃ n, n = G.vals.length := ⟨_, rfl⟩
 rw [<- hpn'] at g1
 rw [<- hvn'] at g3
 generalize G.blks.length = bn' at g4
 generalize hsn : G.name = sn' at g0
 obtain ⟨rr, hrr⟩ : ∃ n, n = G.result := ⟨_, rfl⟩
 rw [<- hrr] at g2 ⊢
 have HX : Hid (RX w (some ⟨gb, go, none⟩) fn fc s pa pn pc r va vn vc ba bn bc FS f) := X
 have HK : Hid (Ints w ka kc A) := hk
 have HKL : Hid (kl = A.length) := hkl
 have HAI : Hid (∀ x ∈ A, wi f.vals.length x = true) := hA
 have HGI : Hid (Ints w pa' pc' G.params) := gi
 have HGV : Hid (Vls w va' vc' G.vals) := gv'
 have HPN : Hid (pn' = G.params.length) := hpn'
 have HVN : Hid (vn' = G.vals.length) := hvn'
 have HPL : Hid (A.length = G.params.length) := hpl
 have HPW : Hid (∀ x ∈ G.params, wi G.vals.length x = true) := (formP_params hGf).1
 have hvx : vn <= 9223372036854775807 := by have := X.hV.le; have := X.hV.mx; have := X.ev; omega
 have hfx : fn <= 9223372036854775807 := by have := X.hF.le; have := X.hF.mx; have := X.ef; omega
 have hmf : m < fn := by have := X.ef; omega
 have hkx : kl <= 9223372036854775807 := by have := hk.le; have := hk.mx; omega
 have hpx : pn' <= 9223372036854775807 := by have := gi.le; have := gi.mx; omega
 have hwx : vn' <= 9223372036854775807 := by have := gv'.le; have := gv'.mx; omega
 have HQ : Hid (∀ w', Below w.heap.size w w' -> w'.cell? ⟨gb, go + m * 5, none⟩ = some (.string sn') /\ w'.cell? ⟨gb, go + m * 5 + 1, none⟩ = some (.slice pa' pn' pc') /\ w'.cell? ⟨gb, go + m * 5 + 2, none⟩ = some (.int .i64 rr) /\ w'.cell? ⟨gb, go + m * 5 + 3, none⟩ = some (.slice va' vn' vc') /\ w'.cell? ⟨gb, go + m * 5 + 4, none⟩ = some (.slice ba' bn' bc') /\ gb < w'.heap.size) := fun w' hb => ⟨(hb.cell (p := ⟨gb, go + m * 5, none⟩) hgl).trans g0, (hb.cell (p := ⟨gb, go + m * 5 + 1, none⟩) hgl).trans g1, (hb.cell (p := ⟨gb, go + m * 5 + 2, none⟩) hgl).trans g2, (hb.cell (p := ⟨gb, go + m * 5 + 3, none⟩) hgl).trans g3, (hb.cell (p := ⟨gb, go + m * 5 + 4, none⟩) hgl).trans g4, by have := hb.size; omega⟩
 clear X hk hkl hA hRA hpl hfs hGf g0 g1 g2 g3 g4 gi gv' gk hpn' hvn' hrr hsn hG hgl hi
 go_enter Tryz.func90, Tryz.ntmps90
 go_wp2_with (first | (go_at_call 115; refine (HR.out _).mono ?_; rintro e w1 ⟨rfl, hb1⟩; have A1 := A0.next hb1; obtain ⟨k0, k1, k2, k3, k4, k5, k6, k7, k8⟩ := VX.cells A1; obtain ⟨m0, m1, m2, m3, m4, m5⟩ := HQ.out _ A1.low))
 obtain ⟨W0, hW0⟩ : ∃ W, W = w1.alloc (.cells #[.int .i64 c, .int .i64 a, .int .i64 b, .int .i64 d, .int .i64 g] 139) := ⟨_, rfl⟩
 rw [<- hW0]
 obtain ⟨W, hW⟩ : ∃ W, W = W0.alloc (.cells #[.string sn', .slice pa' pn' pc', .int .i64 rr, .slice va' vn' vc', .slice ba' bn' bc'] 38) := ⟨_, rfl⟩
 obtain ⟨RB, hRB⟩ : ∃ B, B = W0.heap.size := ⟨_, rfl⟩
 have HV0 : VX w (some ⟨gb, go, none⟩) fn fc mn s pa pn pc r va vn vc ba bn bc 25 ty m ka kl kc W0 := by rw [hW0]; exact A1.next (below_new _ _)
 have HW : Hid (VX w (some ⟨gb, go, none⟩) fn fc mn s pa pn pc r va vn vc ba bn bc 25 ty m ka kl kc W) := by rw [hW]; exact HV0.next (below_new _ _)
 have HRW : Hid (W.heap[RB]? = some (.cells #[.string sn', .slice pa' pn' pc', .int .i64 rr, .slice va' vn' vc', .slice ba' bn' bc'] 38 (0, 0))) := by rw [hW, hRB]; exact heap_alloc_new W0 _
 have hsz : W0.heap.size = w1.heap.size + 1 := by rw [hW0]; simp
 rw [<- hW]
 first | rw [<- hRB] | (rw [show w1.heap.size + 1 = RB by rw [hRB, hsz]])
 clear hW hRB hW0 hsz HV0 hb1 A0 A1 HR k0 k1 k2 k3 k4 k5 k6 k7 k8 m0 m1 m2 m3 m4 m5 HQ
 go_loopw [11] (fun v wr => ∃ j : Nat, j <= kl /\ v = .int .i64 j /\ Hid (EvR (rcaA f G) A j RA) /\ Hid (Below W.heap.size W wr)) (fun v _ => kl - (intOf v).toNat)
 case atStart => exact ⟨0, by omega, rfl, HA0, Below.refl _ _⟩
 case round =>
  clear HA0
  obtain ⟨j, hj, rfl, HP, HB⟩ := hrel
  have HV : Hid (VX w (some ⟨gb, go, none⟩) fn fc mn s pa pn pc r va vn vc ba bn bc 25 ty m ka kl kc wr) := HW.out.next HB.out
  obtain ⟨k0, k1, k2, k3, k4, k5, k6, k7, k8⟩ := VX.cells HV.out
  have hrw := (HB.out.block RB (gl HRW.out)).trans HRW.out
  have hrs : RB < wr.heap.size := (gl hrw)
  have z1 : wr.cell? ⟨RB, 1, none⟩ = some (.slice pa' pn' pc') := cell_arr hrw rfl
  have z2 : wr.cell? ⟨RB, 2, none⟩ = some (.int .i64 rr) := cell_arr hrw rfl
  have z3 : wr.cell? ⟨RB, 3, none⟩ = some (.slice va' vn' vc') := cell_arr hrw rfl
  by_cases hjl : j < kl
  ·have hjg : j < G.params.length := by have := HKL.out; have := HPL.out; omega
   have hjp : j < pn' := by have := HPN.out; omega
   obtain ⟨qb, qo, rfl, u0⟩ := (HGI.out.below HV.out.low (Nat.le_refl _)).at hjg
   have hqb := cell_lt u0
   have hwg := HPW.out _ (List.getElem_mem hjg)
   obtain ⟨y, hy⟩ : ∃ y : Nat, G.params[j] = (y : Int) := ⟨G.params[j].toNat, by simp only [wi, decide_eq_true_eq] at hwg; omega⟩
   rw [hy] at u0 hwg
   have hyg : y < G.vals.length := by simp only [wi, decide_eq_true_eq] at hwg; omega
   have hyv : y < vn' := by have := HVN.out; omega
   obtain ⟨cv, co, rfl, hlt3, u1⟩ := (HGV.out.below HV.out.low (Nat.le_refl _)).at hyg
   have ep : gv G (G.params.getD j 0) = G.vals[y] := by
    rw [show G.params.getD j 0 = (y : Int) by rw [<- hy]; simp [List.getD_eq_getElem?_getD, hjg]]
    simp [gv, List.getD_eq_getElem?_getD, hyg]
   have hjf : j < A.length := by have := HKL.out; omega
   obtain ⟨pb, po, rfl, q0⟩ := (HK.out.below (HV.out.low) (Nat.le_refl _)).at hjf
   have hpb := cell_lt q0
   have hwi := HAI.out _ (List.getElem_mem hjf)
   have HN := HP.out.next hjf
   obtain ⟨x, hx⟩ : ∃ x : Nat, A[j] = (x : Int) := ⟨A[j].toNat, by simp only [wi, decide_eq_true_eq] at hwi; omega⟩
   rw [hx] at q0 hwi HN
   have hxf : x < f.vals.length := by simp only [wi, decide_eq_true_eq] at hwi; omega
   have hxv : x < vn := by have := HX.out.ev; omega
   have eg : gv f (x : Int) = f.vals[x] := by simp [gv, List.getD_eq_getElem?_getD, hxf]
   obtain ⟨bv, ov, rfl, hlt2, q1⟩ := (HX.out.below (HV.out.low)).hV.at hxf
   unfold rcaA at HN
   rw [eg, ep] at HN
   clear hwi hx eg hrw ep hwg hy
   generalize f.vals[x].ty = tx at q1 HN
   generalize G.vals[y].ty = tt at u1 HN
   have HN1 : Hid (¬ tt = 0 -> tx = tt -> EvR (rcaA f G) A (j + 1) RA) := fun h h' => HN.1 (by simp [h, h'])
   have HN2 : Hid (tt = 0 \/ ¬ tx = tt -> RA = false) := fun h => HN.2 (by rcases h with h | h <;> simp [h])
   clear HN
   by_cases h0 : tt = 0
   ·subst h0
    go_wp2_with fail
    go_quiet (fail)
    go_wp2_with fail
    go_quiet (fail)
    go_wp2_with fail
    go_ret
    exact ⟨ret_bl (by rw [HN2.out (.inl (by first | trivial | rfl))]; rfl), by first | exact HV.out.low | exact below_drawn HV.out.low _ | exact below_drawn (below_drawn HV.out.low _) _⟩
   ·have h0' : (tt == 0) = false := by simpa using h0
    by_cases ht : tx = tt
    ·subst ht
     go_wp2_with fail
     go_quiet (fail)
     go_wp2_with fail
     go_quiet (fail)
     go_wp2_with fail
     go_roundw
     case rel => exact ⟨j + 1, by omega, by go_num, HN1.out h0 (by first | trivial | rfl), by first | exact HB.out | exact below_drawn HB.out _ | exact below_drawn (below_drawn HB.out _) _⟩
     case measure => simp [intOf]; omega
    ·go_wp2_with fail
     go_quiet (fail)
     go_wp2_with fail
     go_quiet (fail)
     go_wp2_with fail
     go_ret
     exact ⟨ret_bl (by rw [HN2.out (.inr ht)]; rfl), by first | exact HV.out.low | exact below_drawn HV.out.low _ | exact below_drawn (below_drawn HV.out.low _) _⟩
  ·obtain rfl : RA = true := HP.out.fin (by have := HKL.out; omega)
   obtain rfl : kl = j := by omega
   clear HP hrw
   go_wp2_with fail
   go_ret
   exact ⟨ret_bl (by first | rfl | (simp; done) | (by_cases e : ty = rr <;> simp [e])), HV.out.low⟩
theorem two_of {n : Nat} {A : List Int} (hl : A.length = 2) (hA : ∀ x ∈ A, wi n x = true) : ∃ x y : Nat, A = [(x : Int), (y : Int)] /\ x < n /\ y < n := by
 match A, hl with
 | [p, q], _ =>
   have h1 := hA p (by simp)
   have h2 := hA q (by simp)
   simp only [wi, decide_eq_true_eq] at h1 h2
   refine ⟨p.toNat, q.toNat, ?_, by omega, by omega⟩
   rw [Int.toNat_of_nonneg h1.1, Int.toNat_of_nonneg h2.1]
theorem fk_of {w : World} {fa : Option Addr} {fn fc : Nat} {mn : Int} {s : ByteArray} {pa : Option Addr} {pn pc : Nat} {r : Int} {va : Option Addr} {vn vc : Nat} {ba : Option Addr} {bn bc : Nat} {FS : List Fu} {f : Fu} (X : RX w fa fn fc s pa pn pc r va vn vc ba bn bc FS f) (hfs : ∀ G ∈ FS, formP FS G = true) : FK w fa fn fc mn s pa pn pc r va vn vc ba bn bc FS f := by
 refine ⟨fun w' hb op ty imm A ka kl kc hv hkl hk => ?_⟩
 have X' := X.below hb
 have HR : Hid (∀ w, Calls Tryz.prog 115 #[.int .i64 op] w fun e w' => e = .returned (.tuple #[.agg #[.int .i64 (row9 op).count, .int .i64 (row9 op).a0, .int .i64 (row9 op).a1, .int .i64 (row9 op).a2, .int .i64 (row9 op).gives], .bool (isOpn op)]) /\ Below w.heap.size w w') := fun w => rowOf_any w op
 simp only [valueP, Bool.and_eq_true, List.all_eq_true] at hv
 obtain ⟨ho, him, hc, ha, ht⟩ := hv
 unfold rtyV
 dsimp only
 by_cases h1 : op = 1
 ·subst h1
  rw [if_pos rfl]
  exact rFits_1 w' ty imm _ _ _ _ _ _ HR
 rw [if_neg h1]
 by_cases h2 : op = 13 \/ op = 14
 ·rw [if_pos h2]
  have hl : A.length = 2 := by
   unfold countP at hc
   rw [if_neg (by omega), if_neg (by omega), decide_eq_true_eq] at hc
   have : (shp op).count = 2 := by
    unfold shp
    rw [if_neg (by omega), if_pos h2]
   omega
  obtain ⟨x, y, rfl, hx, hy⟩ := two_of hl ha
  rcases h2 with rfl | rfl
  ·exact rFits_13 w' ty imm _ _ _ _ _ _ HR X' x y hk hx hy hkl
  ·exact rFits_14 w' ty imm _ _ _ _ _ _ HR X' x y hk hx hy hkl
 rw [if_neg h2]
 by_cases h3 : op = 25
 ·subst h3
  rw [if_pos rfl]
  have hi : wi FS.length imm = true := by
   unfold immP at him
   rwa [if_neg (by omega), if_pos rfl] at him
  have hcl : A.length = (FS.getD imm.toNat noF).params.length := by
   unfold countP at hc
   rwa [if_neg (by omega), if_pos rfl, decide_eq_true_eq] at hc
  exact rFits_25 w' ty imm _ _ _ _ _ _ HR X' hfs A hkl hk ha hi hcl
 rw [if_neg h3]
 by_cases h4 : op = 32
 ·subst h4
  rw [if_pos rfl]
  exact rFits_32 w' ty imm _ _ _ _ _ _ HR X' A hkl hk ha
 rw [if_neg h4]
 by_cases h5 : op = 33
 ·subst h5
  rw [if_pos rfl]
  exact rFits_33 w' ty imm _ _ _ _ _ _ HR
 rw [if_neg h5]
 have hrow : row9 op = shp op := by unfold row9; rw [if_neg h1, if_neg h3, if_neg h4, if_neg h5]
 have h3l : A.length <= 3 := by
  unfold countP at hc
  rw [if_neg h4, if_neg h3, decide_eq_true_eq] at hc
  have := shp_le op
  omega
 have := rFits_row (mn := mn) w' op ty imm _ _ _ _ _ _ HR h1 (fun h => h2 (.inl h)) (fun h => h2 (.inr h)) h3 h4 h5 X' A hkl hk ha h3l
 rw [hrow] at this
 exact this
theorem rTypes_all (w : World) {fa : Option Addr} {fn fc : Nat} {mn : Int} {s : ByteArray} {pa : Option Addr} {pn pc : Nat} {r : Int} {va : Option Addr} {vn vc : Nat} {ba : Option Addr} {bn bc : Nat} {FS : List Fu} {f : Fu} (X : RX w fa fn fc s pa pn pc r va vn vc ba bn bc FS f) (hfs : ∀ G ∈ FS, formP FS G = true) (hf : formP FS f = true) :
 Calls Tryz.prog 47 #[.agg #[.slice fa fn fc, .int .i64 mn], .agg #[.string s, .slice pa pn pc, .int .i64 r, .slice va vn vc, .slice ba bn bc]] w fun e w' => e = .returned (.bool (typesP FS f)) /\ Below w.heap.size w w' := by
 rw [<- rtyP_eq hfs hf]
 exact rTypes_any w X hf (fk_of X hfs)
structure Off (wg : Nat) (w w' : World) : Prop where
 os : w'.os = w.os
 tape : w'.tape = w.tape
 output : w'.output = w.output
 sz : w.heap.size <= w'.heap.size
 eq : ∀ k, k < w.heap.size -> k ≠ wg -> w'.heap[k]? = w.heap[k]?
theorem Off.trans {wg a b c} (h : Off wg a b) (g : Off wg b c) : Off wg a c := ⟨g.os.trans h.os, g.tape.trans h.tape, g.output.trans h.output, Nat.le_trans h.sz g.sz, fun k hk hn => (g.eq k (Nat.lt_of_lt_of_le hk h.sz) hn).trans (h.eq k hk hn)⟩
theorem Off.below {wg w w'} (h : Below w.heap.size w w') : Off wg w w' := ⟨h.os, h.tape, h.output, h.size, fun k hk _ => h.block k hk⟩
theorem Off.set (wg : Nat) (w : World) (i : Nat) (v : Value) : Off wg w (w.setCell ⟨wg, i, none⟩ v) := ⟨rfl, rfl, rfl, by simp [World.setCell], fun k _ hn => heap_set_other hn⟩
theorem Off.low {wg w0 w w'} (h : Off wg w w') (hb : Below w0.heap.size w0 w) (hu : w0.heap.size <= wg) : Below w0.heap.size w0 w' :=
 ⟨h.os.trans hb.os, h.tape.trans hb.tape, h.output.trans hb.output, Nat.le_trans hb.size h.sz, fun k hk => (h.eq k (Nat.lt_of_lt_of_le hk hb.size) (by omega)).trans (hb.block k hk)⟩
theorem cell_same {w w' : World} {g i : Nat} (h : w'.heap[g]? = w.heap[g]?) : w'.cell? ⟨g, i, none⟩ = w.cell? ⟨g, i, none⟩ := by simp [World.cell?, h]
structure WO (w : World) (wg n : Nat) (L : List Int) (v : Option Value) : Prop where
 out : v = some (.slice none 0 0) \/ ∃ g c, v = some (.slice (some ⟨g, 0, none⟩) n c) /\ (n <= c /\ c <= 9223372036854775807) /\ g ≠ wg /\ g < w.heap.size /\ ∀ i, i < n -> w.cell? ⟨g, i, none⟩ = some (.bool (decide ((i : Int) ∈ L)))
theorem WO.off {w w' : World} {wg n L v} (h : WO w wg n L v) (ho : Off wg w w') : WO w' wg n L v := ⟨h.out.imp id fun ⟨g, c, e, h1, h2, h3, h4⟩ => ⟨g, c, e, h1, h2, Nat.lt_of_lt_of_le h3 ho.sz, fun i hi => (cell_same (ho.eq g h3 h2)).trans (h4 i hi)⟩⟩
structure SG (w0 w : World) (sb wg : Nat) (toa : Option Addr) (toc pg n vn : Nat) (f : Fu) : Prop where
 box : w.heap[sb]? = some (.cells #[.slice toa n toc, .slice (some ⟨pg, 0, none⟩) vn vn, .slice (some ⟨wg, 0, none⟩) n n] 112 (0, 0))
 bne : sb ≠ wg
 pne : pg ≠ wg
 ro : ∀ w', Off wg w w' -> IRow w' toa toc (waysP f)
 pl : T3 w pg vn (qlK f f.blks.length) (cntAll f)
 wo : ∃ cs : Array Value, w.heap[wg]? = some (.cells cs 70 (0, 0)) /\ cs.size = n /\ ∀ a, a < n -> WO w wg n (woP (waysP f) (a : Int)) cs[a]?
 low : Below w0.heap.size w0 w
 up : w0.heap.size <= wg
theorem SG.next {w0 w w' : World} {sb wg toa toc pg n vn f} (h : SG w0 w sb wg toa toc pg n vn f) (hb : Below w.heap.size w w') : SG w0 w' sb wg toa toc pg n vn f := by
 obtain ⟨cs, hr, hs, hc⟩ := h.wo
 exact ⟨(hb.block _ (gl h.box)).trans h.box, h.bne, h.pne, fun w'' ho => h.ro w'' ((Off.below hb).trans ho), h.pl.keep hb,
  ⟨cs, (hb.block _ (gl hr)).trans hr, hs, fun a ha => (hc a ha).off (Off.below hb)⟩, h.low.trans (hb.mono h.low.size), h.up⟩
theorem T3.off {w w' : World} {g n Q O wg} (h : T3 w g n Q O) (ho : Off wg w w') (hn : g ≠ wg) : T3 w' g n Q O := by
 have hlt := h.lt
 obtain ⟨cs, hr, hs, hc⟩ := h.out
 exact ⟨h.lq, h.lo, cs, (ho.eq g hlt hn).trans hr, hs, hc⟩
theorem SG.put {w0 w : World} {sb wg toa toc pg n vn f} (h : SG w0 w sb wg toa toc pg n vn f) {a : Nat} (ha : a < n) {g c : Nat} (hc : n <= c /\ c <= 9223372036854775807) (hg : g ≠ wg) (hl : g < w.heap.size) (hv : ∀ i, i < n -> w.cell? ⟨g, i, none⟩ = some (.bool (decide ((i : Int) ∈ woP (waysP f) (a : Int))))) : SG w0 (w.setCell ⟨wg, a, none⟩ (.slice (some ⟨g, 0, none⟩) n c)) sb wg toa toc pg n vn f := by
 obtain ⟨cs, hr, hs, hw⟩ := h.wo
 have ho := Off.set wg w a (.slice (some ⟨g, 0, none⟩) n c)
 refine ⟨(heap_set_other h.bne).trans h.box, h.bne, h.pne, fun w'' ho' => h.ro w'' (ho.trans ho'), h.pl.off ho h.pne, ⟨_, heap_set_at hr, by simpa using hs, fun k hk => ?_⟩, h.low.setCell h.up _, h.up⟩
 by_cases e : a = k
 ·subst e
  rw [Array.getElem?_setIfInBounds_self_of_lt (by omega)]
  exact WO.off ⟨.inr ⟨g, c, rfl, hc, hg, hl, hv⟩⟩ ho
 ·rw [Array.getElem?_setIfInBounds_ne e]
  exact (hw k hk).off ho
theorem own_bl {w w1 : World} {v : Value} {n : Nat} {L : List Int} (h : OwnBl w1 w.heap.size v n (rch n L)) (hn : 0 < n) : ∃ g c, v = .slice (some ⟨g, 0, none⟩) n c /\ (n <= c /\ c <= 9223372036854775807) /\ w.heap.size <= g /\ g < w1.heap.size /\ ∀ i, i < n -> w1.cell? ⟨g, i, none⟩ = some (.bool (decide ((i : Int) ∈ L))) := by
 obtain ⟨ao, c, e, h1, h2⟩ := own_slice h.out
 obtain ⟨g, c', e', _, _, hB, hg⟩ := own_some h.out hn
 subst e
 cases e'
 refine ⟨g, c, rfl, ⟨h1, h2⟩, hB, hg, fun i hi => ?_⟩
 have := own_cell h.out i (by simpa [rch_len] using hi)
 rw [this]
 simp [rch, hi]
theorem run_eqn (w : World) : (binOp .eql 70 (.slice none 0 0) (.slice none 0 0)).run Tryz.prog w = .ok (.bool true) w := Lib.run_eql_slice_nil w _ _ none 0 0 0 0 Tryz.underlying70
theorem run_eqs (w : World) (x : Addr) (n c : Nat) : (binOp .eql 70 (.slice (some x) n c) (.slice none 0 0)).run Tryz.prog w = .ok (.bool false) w := Lib.run_eql_slice_nil w _ _ (some x) n c 0 0 Tryz.underlying70
set_option maxRecDepth 100000 in
set_option maxHeartbeats 8000000 in
theorem rOver_any (w0 w : World) {sb wg : Nat} {toa : Option Addr} {toc pg n vn : Nat} {f : Fu} (G : SG w0 w sb wg toa toc pg n vn f) (hgd : goodP (waysP f) = true) (hn : n = f.blks.length) (hsz : n <= 1000000) (a b : Nat) (ha : a < n) (hb : b < n) :
 Calls Tryz.prog 116 #[.pointer (some ⟨sb, 0, none⟩), .int .i64 a, .int .i64 b] w fun e w' => e = .returned (.bool (!decide ((b : Int) ∈ woP (waysP f) (a : Int)))) /\ SG w0 w' sb wg toa toc pg n vn f /\ Off wg w w' := by
 obtain ⟨R, hR⟩ : ∃ R, decide ((b : Int) ∈ woP (waysP f) (a : Int)) = R := ⟨_, rfl⟩
 rw [hR]
 have s0 : w.cell? ⟨sb, 0, none⟩ = some (.slice toa n toc) := cell_arr G.box rfl
 have s2 : w.cell? ⟨sb, 2, none⟩ = some (.slice (some ⟨wg, 0, none⟩) n n) := cell_arr G.box rfl
 obtain ⟨cs, hr, hs, hc⟩ := G.wo
 have hwl := (gl hr)
 have hbl := (gl G.box)
 have fz : w.frozen? ⟨wg, a, none⟩ = false := fz_of hr
 rcases (hc a ha).out with e | ⟨g, c, e, h1, h2, h3, h4⟩
 ·have w2 : w.cell? ⟨wg, a, none⟩ = some (.slice none 0 0) := cell_arr hr e
  have hd : Below w.heap.size w w.drew := (Below.refl _ _).drew
  have S0 : (fun w' : World => w'.cell? ⟨sb, 0, none⟩ = some (.slice toa n toc) /\ w'.cell? ⟨sb, 2, none⟩ = some (.slice (some ⟨wg, 0, none⟩) n n)) w.drew := ⟨s0, s2⟩
  have HWO : Hid (∀ w', Below w.heap.size w w' -> Calls Tryz.prog 89 #[.slice toa n toc, .int .i64 a] w' fun e w1 => ∃ g c, e = .returned (.slice (some ⟨g, 0, none⟩) n c) /\ Below w.heap.size w w1 /\ w1.cell? ⟨sb, 0, none⟩ = some (.slice toa n toc) /\ w1.cell? ⟨sb, 2, none⟩ = some (.slice (some ⟨wg, 0, none⟩) n n) /\ w1.cell? ⟨wg, a, none⟩ = some (.slice none 0 0) /\ w1.frozen? ⟨wg, a, none⟩ = false /\ Hid (SG w0 (w1.setCell ⟨wg, a, none⟩ (.slice (some ⟨g, 0, none⟩) n c)) sb wg toa toc pg n vn f /\ (w1.setCell ⟨wg, a, none⟩ (.slice (some ⟨g, 0, none⟩) n c)).cell? ⟨sb, 2, none⟩ = some (.slice (some ⟨wg, 0, none⟩) n n) /\ (w1.setCell ⟨wg, a, none⟩ (.slice (some ⟨g, 0, none⟩) n c)).cell? ⟨wg, a, none⟩ = some (.slice (some ⟨g, 0, none⟩) n c) /\ (w1.setCell ⟨wg, a, none⟩ (.slice (some ⟨g, 0, none⟩) n c)).cell? ⟨g, b, none⟩ = some (.bool R) /\ n <= 9223372036854775807 /\ Off wg w (w1.setCell ⟨wg, a, none⟩ (.slice (some ⟨g, 0, none⟩) n c)))) := fun w' hw' => by
   refine (without_any w' toa n toc (waysP f) (by rw [hn, waysP_len]) (G.ro w' (Off.below hw')) hgd (by omega) (a : Int)).mono ?_
   rintro e w1 ⟨v, rfl, ho, hb1⟩
   obtain ⟨g, c, rfl, hcc, hgB, hgl, hgc⟩ := own_bl ho (by omega)
   have hb2 := hw'.trans (hb1.mono hw'.size)
   have hne : g ≠ wg := by have := hw'.size; omega
   have G1 := (G.next hb2).put ha hcc hne hgl hgc
   have hr1 := (hb2.block wg hwl).trans hr
   refine ⟨g, c, rfl, hb2, (hb2.cell (p := ⟨sb, 0, none⟩) hbl).trans s0, (hb2.cell (p := ⟨sb, 2, none⟩) hbl).trans s2, (hb2.cell (p := ⟨wg, a, none⟩) hwl).trans w2, fz_of hr1, G1, cell_arr G1.box rfl, ?_, ?_, by omega, (Off.below hb2).trans (Off.set _ _ _ _)⟩
   ·refine cell_arr (heap_set_at hr1) ?_
    rw [Array.getElem?_setIfInBounds_self_of_lt (by omega)]
   ·rw [cell_same (heap_set_other hne), hgc b hb, hR]
  have hq := run_eqn
  clear hr hs hc e G hR hn
  go_enter Tryz.func116, Tryz.ntmps116
  go_wp2_with fail
  refine led_start (S := fun w' : World => w'.cell? ⟨sb, 0, none⟩ = some (.slice toa n toc) /\ w'.cell? ⟨sb, 2, none⟩ = some (.slice (some ⟨wg, 0, none⟩) n n)) (z := 12) (by kernel_rfl) ?_
  refine led_n 0 S0 ?_
  refine led_n 1 S0 ?_
  refine led_n 2 S0 ?_
  refine led_n 3 S0 ?_
  refine led_n 4 S0 ?_
  refine led_n 5 S0 ?_
  refine led_n 6 S0 ?_
  refine led_n 7 S0 ?_
  refine led_n 8 S0 ?_
  refine led_n 9 S0 ?_
  refine led_one (i := 10) rfl (by kernel_rfl) ?_
  intro K1 hK1
  rw [if_pos (by rfl)]
  go_simp
  refine (HWO.out _ hd).mono ?_
  rintro e w1 ⟨g, c, rfl, hb1, m1, m2, m3, m4, HSG⟩
  refine hK1 _ _ (fun _ => ⟨m1, m2⟩) ?_
  clear hK1 S0
  try simp only [Act.put, zi, zz, zs]
  refine led_one (i := 11) rfl (by kernel_rfl) ?_
  intro K2 hK2
  rw [if_pos (by rfl)]
  go_simp
  refine hK2 _ _ (fun _ => ⟨m1, m2⟩) ?_
  clear hK2
  try simp only [Act.put, zi, zz, zs]
  refine led_one (i := 12) rfl (by kernel_rfl) ?_
  intro K3 hK3
  rw [if_pos (by rfl)]
  go_simp
  refine hK3 _ _ (fun h => absurd rfl h) ?_
  clear hK3
  try simp only [Act.put, zi, zz, zs]
  refine led_done (by kernel_rfl) ?_
  obtain ⟨G1, t1, t2, t3, t4, o1⟩ := HSG.out
  have HG1 : Hid _ := G1
  have HO1 : Hid _ := o1
  clear HSG G1 o1 s0 s2 w2 m1 m2 m3 m4 hb1 HWO
  go_wp2_with fail
  go_ret
  exact ⟨rfl, by first | exact ⟨HG1.out, HO1.out⟩ | exact ⟨HG1.out.next (Below.refl _ _).drew, HO1.out.trans (Off.below (Below.refl _ _).drew)⟩ | exact ⟨HG1.out.next (below_drawn (Below.refl _ _) _), HO1.out.trans (Off.below (below_drawn (Below.refl _ _) _))⟩⟩
 ·have w2 : w.cell? ⟨wg, a, none⟩ = some (.slice (some ⟨g, 0, none⟩) n c) := cell_arr hr e
  have w3 : w.cell? ⟨g, b, none⟩ = some (.bool R) := by rw [h4 b hb, hR]
  have HG : Hid _ := G
  have hq := run_eqs
  clear hr hs hc e G hR h4 hn
  go_enter Tryz.func116, Tryz.ntmps116
  go_wp2_with fail
  go_ret
  exact ⟨rfl, HG.out, Off.below (Below.refl _ _)⟩
theorem ql_ok {f : Fu} (h0 : 0 < f.blks.length) (ho : onceP f = true) {v : Nat} (hv : v < f.vals.length) : ((qlK f f.blks.length).getD v (0, 0)).1 = -1 \/ (0 <= ((qlK f f.blks.length).getD v (0, 0)).1 /\ ((qlK f f.blks.length).getD v (0, 0)).1 < f.blks.length) := by
 have hs := places_same ho v hv
 have hok := (plK_ok (f := f) h0 f.blks.length (Nat.le_refl _)).ok v
 unfold placesP at hs
 rcases hs.out with e | e
 ·rw [e]; exact hok
 ·exact .inl e.1
set_option maxRecDepth 100000 in
set_option maxHeartbeats 8000000 in
theorem rAtEnd_any (w0 w : World) {sb wg : Nat} {toa : Option Addr} {toc pg n vn : Nat} {f : Fu} (G : SG w0 w sb wg toa toc pg n vn f) (hgd : goodP (waysP f) = true) (ho : onceP f = true) (hn : n = f.blks.length) (hvn : vn = f.vals.length) (hsz : n <= 1000000) (hvx : vn <= 1000000) (v k : Nat) (hv : v < vn) (hk : k < n) (R : Bool) (hR : rtP f (v : Int) (k : Int) = R) :
 Calls Tryz.prog 92 #[.pointer (some ⟨sb, 0, none⟩), .int .i64 v, .int .i64 k] w fun e w' => e = .returned (.bool R) /\ SG w0 w' sb wg toa toc pg n vn f /\ Off wg w w' := by
 have s1 : w.cell? ⟨sb, 1, none⟩ = some (.slice (some ⟨pg, 0, none⟩) vn vn) := cell_arr G.box rfl
 have hbl := (gl G.box)
 have hpl := G.pl.lt
 obtain ⟨t1, t2, t3, _, _, _⟩ := G.pl.cell hv
 have hq := ql_ok (f := f) (by omega) ho (v := v) (by omega)
 unfold rtP at hR
 rw [Int.toNat_natCast] at hR
 generalize (qlK f f.blks.length).getD v (0, 0) = q at t1 t2 hq hR
 obtain ⟨q1, q2⟩ := q
 simp only at t1 t2 hq hR
 generalize (cntAll f).getD v 0 = q3 at t3
 have HG : Hid (SG w0 w sb wg toa toc pg n vn f) := G
 have HX : Hid (SG w0 (w.alloc (.cells #[.int .i64 q1, .int .i64 q2, .int .i64 q3] 77)) sb wg toa toc pg n vn f) := G.next (below_new _ _)
 by_cases e : q1 = -1
 ·subst e
  rw [if_pos rfl] at hR
  subst hR
  clear G hq hn hvn
  go_enter Tryz.func92, Tryz.ntmps92
  go_wp2_with fail
  go_ret
  exact ⟨rfl, HX.out, Off.below (below_new _ _)⟩
 ·rw [if_neg e] at hR
  obtain ⟨a, rfl⟩ : ∃ a : Nat, q1 = a := ⟨q1.toNat, by omega⟩
  have ha : a < n := by omega
  have HO : Hid (∀ w', SG w0 w' sb wg toa toc pg n vn f -> Calls Tryz.prog 116 #[.pointer (some ⟨sb, 0, none⟩), .int .i64 (a : Int), .int .i64 (k : Int)] w' fun e w'' => e = .returned (.bool R) /\ SG w0 w'' sb wg toa toc pg n vn f /\ Off wg w' w'') := fun w' G' => by
   have := rOver_any w0 w' G' hgd hn hsz a k ha hk
   rw [hR] at this
   exact this
  have e' : ((a : Int) == -1) = false := by simp
  clear G hq hn hvn hR
  go_enter Tryz.func92, Tryz.ntmps92
  go_wp2_with (first | (go_at_call 116; refine (HO.out _ HX.out).mono ?_; rintro e w1 ⟨rfl, G1, o1⟩; have HG1 : Hid _ := G1; have HO1 : Hid _ := o1; clear G1 o1))
  go_ret
  exact ⟨rfl, HG1.out, (Off.below (below_new _ _)).trans HO1.out⟩
end Go.Proofs.YtdbkjjelaipcfaaGreatDoor
