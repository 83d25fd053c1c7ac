import Derived.Deep.LoopGhost
import Derived.WalkMore
import Derived.Deep.OwnRows
import Derived.Laws.OwnMore
import Derived.Laws.AppendOwnNone
import Derived.Laws.IdiomCopy
import Derived.Deep.Cut
import Derived.BigRegion
import Derived.Deep.RegionHeld
import Derived.Deep.RegionHeld3
import Derived.Shelf.RegionOpenPlain
import Derived.Lib.Overlaps
import Derived.Lib.AppendZerosOnto
import Derived.Test.YtfofmmkihhnfmaaGreatDoorJab
import Derived.Test.YtfofmmkihhnfmaaGreatDoorJac
import Derived.Test.YtfofmmkihhnfmaaGreatDoorJaj
set_option linter.unusedVariables false
set_option linter.unusedSimpArgs false
namespace Go.Proofs.YtfofmmkihhnfmaaGreatDoor
open Go.ChangeShapes Go.WideShapes Go.ChangeAt Go.RowKit Go.Maps
structure TwoR (w : World) (A B : Obj) (w' : World) : Prop where
 a : OneR w A w'
 b : OneR (w.alloc A) B w'
theorem TwoR.start (w : World) (A B : Obj) : TwoR w A B ((w.alloc A).alloc B) := ⟨(OneR.start w A).next (below_newR _ _), OneR.start _ B⟩
theorem TwoR.next {w A B w' w''} (h : TwoR w A B w') (hb : Below w'.heap.size w' w'') : TwoR w A B w'' := ⟨h.a.next hb, h.b.next hb⟩
set_option maxRecDepth 100000 in
set_option maxHeartbeats 4000000 in
theorem funFit_frame (w : World) (ca : Option Addr) (cn cc : Nat) (fa : Option Addr) (fn fc : Nat) (m : Int) (s : ByteArray) (fr fi ct pa : Int) (h : ¬ ((2 <= fr /\ fr <= 1099511627776) /\ (0 <= pa /\ pa <= 8))) :
 Calls Tryz.prog 83 #[.agg #[.slice ca cn cc, .slice fa fn fc, .int .i64 m], .agg #[.string s, .int .i64 fr, .int .i64 fi, .int .i64 ct, .int .i64 pa]] w fun e w' => e = .returned (.bool false) /\ Below w.heap.size w w' := by
 have HB : Hid (∀ A B, Below w.heap.size w ((w.alloc A).alloc B)) := fun A B => (TwoR.start w A B).a.low
 by_cases h1 : 2 <= fr /\ fr <= 1099511627776
 ·have HW1 : Hid (∀ W, Calls Tryz.prog 112 #[.int .i64 fr, .int .i64 2, .int .i64 1099511627776] W fun e w' => e = .returned (.bool true) /\ w' = W) := fun W => withinR W _ _ _ (decide_eq_true h1)
  have HW2 : Hid (∀ W, Calls Tryz.prog 112 #[.int .i64 pa, .int .i64 0, .int .i64 8] W fun e w' => e = .returned (.bool false) /\ w' = W) := fun W => withinR W _ _ _ (decide_eq_false fun q => h ⟨h1, q⟩)
  clear h h1
  go_enter Tryz.func83, Tryz.ntmps83
  go_wp2_with fail
  refine Calls.mono (HW1.out _) ?_
  rintro e w1 ⟨rfl, rfl⟩
  go_wp2_with fail
  refine Calls.mono (HW2.out _) ?_
  rintro e w1 ⟨rfl, rfl⟩
  go_wp2_with fail
  go_ret
  exact ⟨rfl, HB.out _ _⟩
 ·have HW1 : Hid (∀ W, Calls Tryz.prog 112 #[.int .i64 fr, .int .i64 2, .int .i64 1099511627776] W fun e w' => e = .returned (.bool false) /\ w' = W) := fun W => withinR W _ _ _ (decide_eq_false h1)
  clear h h1
  go_enter Tryz.func83, Tryz.ntmps83
  go_wp2_with fail
  refine Calls.mono (HW1.out _) ?_
  rintro e w1 ⟨rfl, rfl⟩
  go_wp2_with fail
  go_ret
  exact ⟨rfl, HB.out _ _⟩
set_option maxRecDepth 100000 in
set_option maxHeartbeats 4000000 in
theorem funFit_in (w : World) (cb co : Nat) (cn cc : Nat) (fa : Option Addr) (fn fc : Nat) (m : Int) (C : List Ri) (hcn : cn = C.length) (hC : StsG w (some ⟨cb, co, none⟩) cc 5 (C.map riv)) (hlen : cn <= 1000000000) (hfl : fn <= 1000000) (f : Rf) (p r : Nat) (hfi : f.fi = (p : Int)) (hct : f.ct = (r : Int) + 1) (hpq : p + (r + 1) <= cn) (h1 : 2 <= f.fr /\ f.fr <= 1099511627776) (h2 : 0 <= f.pa /\ f.pa <= 8) (T : Bool) (hT : T = funF C fn f) :
 Calls Tryz.prog 83 #[.agg #[.slice (some ⟨cb, co, none⟩) cn cc, .slice fa fn fc, .int .i64 m], .agg #[.string f.name, .int .i64 f.fr, .int .i64 (p : Int), .int .i64 ((r : Int) + 1), .int .i64 f.pa]] w fun e w' => e = .returned (.bool T) /\ Below w.heap.size w w' := by
 have HW1 : Hid (∀ W, Calls Tryz.prog 112 #[.int .i64 f.fr, .int .i64 2, .int .i64 1099511627776] W fun e w' => e = .returned (.bool true) /\ w' = W) := fun W => withinR W _ _ _ (decide_eq_true h1)
 have HW2 : Hid (∀ W, Calls Tryz.prog 112 #[.int .i64 f.pa, .int .i64 0, .int .i64 8] W fun e w' => e = .returned (.bool true) /\ w' = W) := fun W => withinR W _ _ _ (decide_eq_true h2)
 have hle := hC.le
 have hmx := hC.mx
 simp at hle
 have hw1 : IntKind.i64.wrap ((p : Int) + ((r : Int) + 1)) = ((p + (r + 1) : Nat) : Int) := by rw [IntKind.wrap_i64]; omega
 have hw2 : IntKind.i64.wrap ((r : Int) + 1 - 1) = (r : Int) := by rw [IntKind.wrap_i64]; omega
 have hp1 : p <= p + (r + 1) := by omega
 have hp2 : p + (r + 1) <= cc := by omega
 -- what the instructions say
 have HX : Hid ((∀ i, i < r + 1 -> regsF (C.getD (p + i) riZ) = true /\ numF fn f (C.getD (p + i) riZ) = true) -> T = lastF (C.getD (p + r) riZ).op) := fun h => by
  rw [hT]
  unfold funF
  rw [decide_eq_true h1, decide_eq_true h2, Bool.true_and, Bool.true_and]
  have e1 : (f.fi + f.ct - 1).toNat = p + r := by rw [hfi, hct]; omega
  rw [e1]
  have ea : ((C.drop f.fi.toNat).take f.ct.toNat).all (fun x => regsF x && numF fn f x) = true := by
   rw [List.all_eq_true]
   intro x hx
   rw [List.mem_iff_getElem?] at hx
   obtain ⟨i, hi⟩ := hx
   have hil : i < r + 1 := by
    rcases Nat.lt_or_ge i (r + 1) with q | q
    ·exact q
    ·rw [List.getElem?_eq_none (by rw [List.length_take, hct]; omega)] at hi
     cases hi
   rw [List.getElem?_take_of_lt (by rw [hct]; omega), List.getElem?_drop, hfi, Int.toNat_natCast] at hi
   have hg : C.getD (p + i) riZ = x := by simp [List.getD, hi]
   have := h i hil
   rw [hg] at this
   simp [this]
  rw [ea, Bool.true_and]
 have HY : Hid (∀ i, i < r + 1 -> (regsF (C.getD (p + i) riZ) && numF fn f (C.getD (p + i) riZ)) = false -> T = false) := fun i hi h => by
  rw [hT]
  unfold funF
  rw [decide_eq_true h1, decide_eq_true h2, Bool.true_and, Bool.true_and]
  have ea : ((C.drop f.fi.toNat).take f.ct.toNat).all (fun x => regsF x && numF fn f x) = false := by
   rw [List.all_eq_false]
   refine ⟨C.getD (p + i) riZ, ?_, by rw [h]; simp⟩
   have hl : p + i < C.length := by omega
   rw [List.mem_iff_getElem?]
   refine ⟨i, ?_⟩
   rw [List.getElem?_take_of_lt (by rw [hct]; omega), List.getElem?_drop, hfi, Int.toNat_natCast]
   simp [List.getD, hl]
  rw [ea, Bool.false_and]
 have HN3 : Hid (∀ W op, Calls Tryz.prog 114 #[.int .i64 op, .agg #[.string f.name, .int .i64 f.fr, .int .i64 (p : Int), .int .i64 ((r : Int) + 1), .int .i64 f.pa], .int .i64 (fn : Int)] W fun e w' => e = .returned (.tuple #[.int .i64 (loN op f.fi), .int .i64 (hiN op f.fr f.fi f.ct fn)]) /\ Below W.heap.size W w') := fun W op => by
  have q := numbers_any W op f.name f.fr f.fi f.ct f.pa (fn : Int) h1 (by rw [hfi, hct]; omega) (by omega)
  rw [hfi, hct] at q
  rw [hfi, hct]
  exact q
 have HW3 : Hid (∀ W x T, numF fn f x = T -> Calls Tryz.prog 112 #[.int .i64 x.n, .int .i64 (loN x.op f.fi), .int .i64 (hiN x.op f.fr f.fi f.ct fn)] W fun e w' => e = .returned (.bool T) /\ w' = W) := fun W x T hT => withinR W _ _ _ (by rw [<- hT, numF_eq])
 obtain ⟨A, hA⟩ : ∃ A : Obj, A = .cells #[.slice (some ⟨cb, co, none⟩) cn cc, .slice fa fn fc, .int .i64 m] 25 := ⟨_, rfl⟩
 obtain ⟨B, hB⟩ : ∃ B : Obj, B = .cells #[.string f.name, .int .i64 f.fr, .int .i64 (p : Int), .int .i64 ((r : Int) + 1), .int .i64 f.pa] 59 := ⟨_, rfl⟩
 have HO0 : Hid (TwoR w A B ((w.alloc A).alloc B)) := TwoR.start w A B
 obtain ⟨xb, hxb⟩ : ∃ xb, xb = w.heap.size := ⟨_, rfl⟩
 have HC : Hid (∀ W, TwoR w A B W -> (xb < W.heap.size /\ xb + 1 < W.heap.size) /\ (W.cell? ⟨xb, 0, none⟩ = some (.slice (some ⟨cb, co, none⟩) cn cc) /\ W.cell? ⟨xb, 1, none⟩ = some (.slice fa fn fc) /\ W.cell? ⟨xb, 2, none⟩ = some (.int .i64 m)) /\ W.cell? ⟨xb + 1, 0, none⟩ = some (.string f.name) /\ W.cell? ⟨xb + 1, 1, none⟩ = some (.int .i64 f.fr) /\ W.cell? ⟨xb + 1, 2, none⟩ = some (.int .i64 (p : Int)) /\ W.cell? ⟨xb + 1, 3, none⟩ = some (.int .i64 ((r : Int) + 1)) /\ W.cell? ⟨xb + 1, 4, none⟩ = some (.int .i64 f.pa)) := fun W h => by
  rw [hxb]
  have e := h.a.one
  have e2 := h.b.one
  rw [hA] at e
  rw [hB] at e2
  have z : (w.alloc A).heap.size = w.heap.size + 1 := by simp
  rw [z] at e2
  exact ⟨⟨h.a.lt, (gl e2)⟩, ⟨cell_arr e rfl, cell_arr e rfl, cell_arr e rfl⟩, cell_arr e2 rfl, cell_arr e2 rfl, cell_arr e2 rfl, cell_arr e2 rfl, cell_arr e2 rfl⟩
 have HCC : Hid (∀ W, TwoR w A B W -> ∀ i, i < r + 1 -> cb < W.heap.size /\ W.cell? ⟨cb, co + p * 5 + i * 5, none⟩ = some (.int .i64 (C.getD (p + i) riZ).op) /\ W.cell? ⟨cb, co + p * 5 + i * 5 + 1, none⟩ = some (.int .i64 (C.getD (p + i) riZ).a) /\ W.cell? ⟨cb, co + p * 5 + i * 5 + 2, none⟩ = some (.int .i64 (C.getD (p + i) riZ).b) /\ W.cell? ⟨cb, co + p * 5 + i * 5 + 3, none⟩ = some (.int .i64 (C.getD (p + i) riZ).c) /\ W.cell? ⟨cb, co + p * 5 + i * 5 + 4, none⟩ = some (.int .i64 (C.getD (p + i) riZ).n)) := fun W h i hi => by
  have hl : p + i < C.length := by omega
  obtain ⟨b, o, e, hlb, g⟩ := ins_at (hC.below h.a.low (Nat.le_refl _)) hl
  cases e
  have eq : C.getD (p + i) riZ = C[p + i] := by simp [List.getD, hl]
  have eo : co + (p + i) * 5 = co + p * 5 + i * 5 := by omega
  rw [eq, <- eo]
  exact ⟨hlb, g⟩
 obtain ⟨W, hW⟩ : ∃ W, W = (w.alloc A).alloc B := ⟨_, rfl⟩
 rw [<- hW] at HO0
 obtain ⟨⟨l1, l2⟩, ⟨c0, c1, c2⟩, d0, d1, d2, d3, d4⟩ := HC.out W HO0.out
 clear hC hcn hT hpq h1 h2 hfi hct hle
 have hii : ∀ i : Nat, i < r + 1 -> (i : Int) < ((r + 1 : Nat) : Int) := fun i h => by omega
 have HII : Hid _ := hii
 clear hii
 generalize f.fr = frr at *
 generalize f.name = fnm at *
 generalize f.pa = fpa at *
 have HXB : Hid _ := hxb
 clear hxb
 go_enter Tryz.func83, Tryz.ntmps83
 go_upto_region 1 with fail
 rw [<- hA, <- hB, <- hW]
 rw [<- HXB.out]
 clear hW hA hB
 go_wp2_with fail
 refine Calls.mono (HW1.out _) ?_
 rintro e w1 ⟨rfl, rfl⟩
 go_wp2_with fail
 refine Calls.mono (HW2.out _) ?_
 rintro e w1 ⟨rfl, rfl⟩
 go_wp2_with fail
 rw [show p + (r + 1) - p = r + 1 by omega]
 go_loopw [32] (fun v wr => ∃ i : Nat, i <= r + 1 /\ v = .int .i64 (i : Int) /\ Hid (∀ j, j < i -> regsF (C.getD (p + j) riZ) = true /\ numF fn f (C.getD (p + j) riZ) = true) /\ Hid (TwoR w A B wr)) (fun v _ => r + 1 - (intOf v).toNat)
 case atStart => exact ⟨0, by omega, rfl, fun j h => absurd h (Nat.not_lt_zero _), HO0.out⟩
 case round =>
  clear l1 l2 c0 c1 c2 d0 d1 d2 d3 d4 HO0 HW1 HW2
  obtain ⟨i, hi, rfl, HE, HO⟩ := hrel
  obtain ⟨wq, rfl⟩ : ∃ wq, wq = wr := ⟨_, rfl⟩
  by_cases hlt : i < r + 1
  ·have hix : (i : Int) < (r : Int) + 1 := by omega
   have hip := HII.out i hlt
   obtain ⟨hlb, q0, q1, q2, q3, q4⟩ := HCC.out wq HO.out i hlt
   obtain ⟨x, hx⟩ : ∃ x, x = C.getD (p + i) riZ := ⟨_, rfl⟩
   rw [<- hx] at q0 q1 q2 q3 q4
   have HXX : Hid (x = C.getD (p + i) riZ) := hx
   obtain ⟨W5, hW5⟩ : ∃ W5, W5 = wq.alloc (.cells #[.int .i64 x.op, .int .i64 x.a, .int .i64 x.b, .int .i64 x.c, .int .i64 x.n] 71) := ⟨_, rfl⟩
   have B5 : Below wq.heap.size wq W5 := by rw [hW5]; exact below_newR _ _
   have e5 : W5.heap[wq.heap.size]? = some (.cells #[.int .i64 x.op, .int .i64 x.a, .int .i64 x.b, .int .i64 x.c, .int .i64 x.n] 71 (0, 0)) := by rw [hW5]; exact heap_alloc_new _ _
   obtain ⟨kb, hkb⟩ : ∃ kb, kb = wq.heap.size := ⟨_, rfl⟩
   rw [<- hkb] at e5
   have HO5 : Hid (TwoR w A B W5) := HO.out.next B5
   have HX5 : Hid (∀ W, Below W5.heap.size W5 W -> kb < W.heap.size /\ W.cell? ⟨kb, 0, none⟩ = some (.int .i64 x.op) /\ W.cell? ⟨kb, 1, none⟩ = some (.int .i64 x.a) /\ W.cell? ⟨kb, 2, none⟩ = some (.int .i64 x.b) /\ W.cell? ⟨kb, 3, none⟩ = some (.int .i64 x.c) /\ W.cell? ⟨kb, 4, none⟩ = some (.int .i64 x.n)) := fun W h => by
    have e := (h.block _ (gl e5)).trans e5
    exact ⟨(gl e), cell_arr e rfl, cell_arr e rfl, cell_arr e rfl, cell_arr e rfl, cell_arr e rfl⟩
   obtain ⟨lk, r0, r1, r2, r3, r4⟩ := HX5.out W5 (Below.refl _ _)
   obtain ⟨⟨l1, l2⟩, ⟨c0, c1, c2⟩, d0, d1, d2, d3, d4⟩ := HC.out W5 HO5.out
   have HRF : Hid (∀ W T, regsF x = T -> Calls Tryz.prog 115 #[.agg #[.int .i64 x.op, .int .i64 x.a, .int .i64 x.b, .int .i64 x.c, .int .i64 x.n]] W fun e w' => e = .returned (.bool T) /\ Below W.heap.size W w') := fun W T hT => regsFit_any W x.op x.a x.b x.c x.n hT
   clear hx B5 e5
   cases hR : regsF x with
   | false =>
     have HF : Hid (T = false) := HY.out i hlt (by rw [<- HXX.out, hR]; rfl)
     have HRR : Hid _ := fun W => HRF.out W _ hR
     clear HRF hR HW3 HY
     go_upto_region 7 with fail
     rw [<- hW5, <- hkb]
     clear hW5 hkb q0 q1 q2 q3 q4
     go_wp2_with fail
     refine Calls.mono (HN3.out _ _) ?_
     rintro e w6 ⟨rfl, b6⟩
     have HO6 : Hid _ := HO5.out.next b6
     obtain ⟨k9, s0, s1, s2, s3, s4⟩ := HX5.out w6 b6
     clear l1 l2 c0 c1 c2 d0 d1 d2 d3 d4 lk r0 r1 r2 r3 r4
     go_wp2_with fail
     refine Calls.mono (HRR.out _) ?_
     rintro e w7 ⟨rfl, b7⟩
     have HO7 : Hid (TwoR w A B w7) := HO6.out.next b7
     have HL : Hid _ := HO7.out.a.low
     go_wp2_with fail
     go_ret
     exact ⟨by rw [HF.out]; rfl, HL.out⟩
   | true =>
     have HRR : Hid _ := fun W => HRF.out W _ hR
     cases hN : numF fn f x with
     | false =>
       have HF : Hid (T = false) := HY.out i hlt (by rw [<- HXX.out, hR, hN]; rfl)
       have HNN : Hid _ := fun W => HW3.out W x _ hN
       clear HRF hR hN HY HW3
       go_upto_region 7 with fail
       rw [<- hW5, <- hkb]
       clear hW5 hkb q0 q1 q2 q3 q4
       go_wp2_with fail
       refine Calls.mono (HN3.out _ _) ?_
       rintro e w6 ⟨rfl, b6⟩
       have HO6 : Hid _ := HO5.out.next b6
       obtain ⟨k9, s0, s1, s2, s3, s4⟩ := HX5.out w6 b6
       clear l1 l2 c0 c1 c2 d0 d1 d2 d3 d4 lk r0 r1 r2 r3 r4
       go_wp2_with fail
       refine Calls.mono (HRR.out _) ?_
       rintro e w7 ⟨rfl, b7⟩
       have HO7 : Hid (TwoR w A B w7) := HO6.out.next b7
       obtain ⟨k8, s0, s1, s2, s3, s4⟩ := HX5.out w7 (b6.trans (b7.mono b6.size))
       go_wp2_with fail
       refine Calls.mono (HNN.out _) ?_
       rintro e w8 ⟨rfl, rfl⟩
       have HL : Hid _ := HO7.out.a.low
       go_wp2_with fail
       go_ret
       exact ⟨by rw [HF.out]; rfl, HL.out⟩
     | true =>
       have HE2 : Hid (∀ j, j < i + 1 -> regsF (C.getD (p + j) riZ) = true /\ numF fn f (C.getD (p + j) riZ) = true) := fun j hj => by
        rcases Nat.lt_succ_iff_lt_or_eq.1 hj with q | rfl
        ·exact HE.out j q
        ·rw [<- HXX.out]; exact ⟨hR, hN⟩
       have HNN : Hid _ := fun W => HW3.out W x _ hN
       clear HRF hR hN HY HE HW3
       go_upto_region 7 with fail
       rw [<- hW5, <- hkb]
       clear hW5 hkb q0 q1 q2 q3 q4
       go_wp2_with fail
       refine Calls.mono (HN3.out _ _) ?_
       rintro e w6 ⟨rfl, b6⟩
       have HO6 : Hid _ := HO5.out.next b6
       obtain ⟨k9, s0, s1, s2, s3, s4⟩ := HX5.out w6 b6
       clear l1 l2 c0 c1 c2 d0 d1 d2 d3 d4 lk r0 r1 r2 r3 r4
       go_wp2_with fail
       refine Calls.mono (HRR.out _) ?_
       rintro e w7 ⟨rfl, b7⟩
       have HO7 : Hid (TwoR w A B w7) := HO6.out.next b7
       obtain ⟨k8, s0, s1, s2, s3, s4⟩ := HX5.out w7 (b6.trans (b7.mono b6.size))
       go_wp2_with fail
       refine Calls.mono (HNN.out _) ?_
       rintro e w8 ⟨rfl, rfl⟩
       clear s0 s1 s2 s3 s4
       go_wp2_with fail
       go_roundw
       case rel => exact ⟨i + 1, by omega, by go_num, HE2.out, HO7.out⟩
       case measure => simp [intOf]; omega
  ·have hin : i = r + 1 := by omega
   subst hin
   have HTT : Hid (T = lastF (C.getD (p + r) riZ).op) := HX.out HE.out
   have hip := HII.out r (by omega)
   obtain ⟨hlb, q0, q1, q2, q3, q4⟩ := HCC.out wq HO.out r (by omega)
   obtain ⟨⟨l1, l2⟩, ⟨c0, c1, c2⟩, d0, d1, d2, d3, d4⟩ := HC.out wq HO.out
   generalize (C.getD (p + r) riZ).op = xo at *
   have HIL : Hid _ := fun W => isLastR W xo
   have HL : Hid _ := HO.out.a.low
   clear HX HY HN3 HW3 HCC HC HII HE q1 q2 q3 q4 HO
   go_wp2_with fail
   refine Calls.mono (HIL.out _) ?_
   rintro e w6 ⟨rfl, rfl⟩
   go_wp2_with fail
   go_ret
   exact ⟨by rw [HTT.out]; rfl, HL.out⟩
theorem funFit_any (w : World) (ca : Option Addr) (cn cc : Nat) (fa : Option Addr) (fn fc : Nat) (m : Int) (C : List Ri) (hcn : cn = C.length) (hC : StsG w ca cc 5 (C.map riv)) (hlen : cn <= 1000000000) (hfl : fn <= 1000000) (f : Rf) (hcut : 0 <= f.fi /\ 1 <= f.ct /\ f.fi + f.ct <= (cn : Int)) {T : Bool} (hT : funF C fn f = T) :
 Calls Tryz.prog 83 #[.agg #[.slice ca cn cc, .slice fa fn fc, .int .i64 m], .agg #[.string f.name, .int .i64 f.fr, .int .i64 f.fi, .int .i64 f.ct, .int .i64 f.pa]] w fun e w' => e = .returned (.bool T) /\ Below w.heap.size w w' := by
 by_cases h : (2 <= f.fr /\ f.fr <= 1099511627776) /\ (0 <= f.pa /\ f.pa <= 8)
 ·obtain ⟨p, hp⟩ : ∃ p : Nat, f.fi = (p : Int) := ⟨f.fi.toNat, by omega⟩
  obtain ⟨r, hr⟩ : ∃ r : Nat, f.ct = (r : Int) + 1 := ⟨(f.ct - 1).toNat, by omega⟩
  have hl : p < C.length := by omega
  obtain ⟨cb, co, e, _⟩ := ins_at hC hl
  subst e
  rw [hp, hr]
  exact funFit_in w cb co cn cc fa fn fc m C hcn hC hlen hfl f p r hp hr (by omega) h.1 h.2 T hT.symm
 ·have e : T = false := by
   rw [<- hT]
   unfold funF
   by_cases h1 : 2 <= f.fr /\ f.fr <= 1099511627776
   ·rw [decide_eq_true h1, decide_eq_false (fun q => h ⟨h1, q⟩)]; rfl
   ·rw [decide_eq_false h1]; rfl
  rw [e]
  exact funFit_frame w ca cn cc fa fn fc m f.name f.fr f.fi f.ct f.pa h
def formR (C : List Ri) (FS : List Rf) (m : Int) : Bool := cutF C.length 0 FS && (namesP FS && (mainF FS m && FS.all (funF C FS.length)))
theorem Tab.oneR {w W : World} {A : Obj} (h : Tab w) (o : OneR w A W) : Tab W := h.below o.low h.1
set_option maxRecDepth 100000 in
set_option maxHeartbeats 4000000 in
theorem hasFormR (w : World) (hTab : Tab w) (ca : Option Addr) (cn cc : Nat) (fa : Option Addr) (fn fc : Nat) (m : Int) (C : List Ri) (FS : List Rf) (hcn : cn = C.length) (hfn : fn = FS.length) (hC : StsG w ca cc 5 (C.map riv)) (hF : StsG w fa fc 5 (FS.map rfv)) (hlen : cn <= 1000000000) (hfl : fn <= 1000000) (T : Bool) (hT : formR C FS m = T) :
 Calls Tryz.prog 35 #[.agg #[.slice ca cn cc, .slice fa fn fc, .int .i64 m]] w fun e w' => e = .returned (.bool T) /\ Below w.heap.size w w' := by
 subst hT
 obtain ⟨A, hA⟩ : ∃ A : Obj, A = .cells #[.slice ca cn cc, .slice fa fn fc, .int .i64 m] 25 := ⟨_, rfl⟩
 have HO0 : Hid (OneR w A (w.alloc A)) := OneR.start w A
 have H1 : Hid (∀ W, OneR w A W -> ∀ T, cutF cn 0 FS = T -> Calls Tryz.prog 79 #[.agg #[.slice ca cn cc, .slice fa fn fc, .int .i64 m]] W fun e w' => e = .returned (.bool T) /\ Below W.heap.size W w') := fun W h T hT => isCutR W ca cn cc fa fn fc m FS hfn (hF.below h.low (Nat.le_refl _)) hlen hfl hT
 have H2 : Hid (∀ W, OneR w A W -> ∀ T, namesP FS = T -> Calls Tryz.prog 80 #[.slice fa fn fc, .func (.func 81) #[] #[]] W fun e w' => e = .returned (.bool T) /\ Below W.heap.size W w') := fun W h T hT => by subst hT; exact namesAll_any W (hTab.oneR h) fa fn fc FS hfn (hF.below h.low (Nat.le_refl _)) hfl
 have H3 : Hid (∀ W, OneR w A W -> ∀ T, mainF FS m = T -> Calls Tryz.prog 82 #[.agg #[.slice ca cn cc, .slice fa fn fc, .int .i64 m]] W fun e w' => e = .returned (.bool T) /\ Below W.heap.size W w') := fun W h T hT => mainFitsR W ca cn cc fa fn fc m FS hfn (hF.below h.low (Nat.le_refl _)) hfl hT
 have H4 : Hid (cutF cn 0 FS = true -> ∀ W, OneR w A W -> ∀ f ∈ FS, ∀ T, funF C fn f = T -> Calls Tryz.prog 83 #[.agg #[.slice ca cn cc, .slice fa fn fc, .int .i64 m], .agg #[.string f.name, .int .i64 f.fr, .int .i64 f.fi, .int .i64 f.ct, .int .i64 f.pa]] W fun e w' => e = .returned (.bool T) /\ Below W.heap.size W w') := fun hc W h f hf T hT => funFit_any W ca cn cc fa fn fc m C hcn (hC.below h.low (Nat.le_refl _)) hlen hfl f (cutF_all FS 0 (by omega) hc f hf) hT
 obtain ⟨xb, hxb⟩ : ∃ xb, xb = w.heap.size := ⟨_, rfl⟩
 have HC : Hid (∀ W, OneR w A W -> xb < W.heap.size /\ W.cell? ⟨xb, 0, none⟩ = some (.slice ca cn cc) /\ W.cell? ⟨xb, 1, none⟩ = some (.slice fa fn fc) /\ W.cell? ⟨xb, 2, none⟩ = some (.int .i64 m)) := fun W h => by
  rw [hxb]
  have e := h.one
  rw [hA] at e
  exact ⟨h.lt, cell_arr e rfl, cell_arr e rfl, cell_arr e rfl⟩
 have HF : Hid (∀ W, OneR w A W -> StsG W fa fc 5 (FS.map rfv)) := fun W h => hF.below h.low (Nat.le_refl _)
 have HN : Hid (fn = FS.length) := hfn
 obtain ⟨T, hTT⟩ : ∃ T, T = formR C FS m := ⟨_, rfl⟩
 have HT : Hid (T = (cutF cn 0 FS && (namesP FS && (mainF FS m && FS.all (funF C fn))))) := by
  show _ = _
  rw [hTT, hcn, hfn]
  rfl
 rw [<- hTT]
 obtain ⟨W, hW⟩ : ∃ W, W = w.alloc A := ⟨_, rfl⟩
 rw [<- hW] at HO0
 obtain ⟨l1, c0, c1, c2⟩ := HC.out W HO0.out
 have HXB : Hid _ := hxb
 clear hTab hC hF hcn hfn hTT hxb
 have HSTART : True := trivial
 cases q1 : cutF cn 0 FS with
 | false =>
   have HTT : Hid (T = false) := by show _ = _; rw [HT.out, q1]; rfl
   have HA1 : Hid _ := H1.out W HO0.out _ q1
   clear H1 H2 H3 H4 HT q1
   go_enter Tryz.func35, Tryz.ntmps35
   go_upto_region 1 with fail
   rw [<- hA, <- hW, <- HXB.out]
   clear hW hA
   go_wp2_with fail
   refine Calls.mono HA1.out ?_
   rintro e w1 ⟨rfl, b1⟩
   have HL : Hid _ := (HO0.out.next b1).low
   go_wp2_with fail
   go_ret
   exact ⟨by rw [HTT.out]; rfl, HL.out⟩
 | true =>
 cases q2 : namesP FS with
 | false =>
   have HTT : Hid (T = false) := by show _ = _; rw [HT.out, q1, q2]; rfl
   have HA1 : Hid _ := H1.out W HO0.out _ q1
   have HA2 : Hid _ := fun W h => H2.out W h _ q2
   clear H1 H2 H3 H4 HT q1 q2
   go_enter Tryz.func35, Tryz.ntmps35
   go_upto_region 1 with fail
   rw [<- hA, <- hW, <- HXB.out]
   clear hW hA
   go_wp2_with fail
   refine Calls.mono HA1.out ?_
   rintro e w1 ⟨rfl, b1⟩
   have HO1 : Hid _ := HO0.out.next b1
   obtain ⟨m1, d0, d1, d2⟩ := HC.out w1 HO1.out
   go_wp2_with fail
   refine Calls.mono (HA2.out w1 HO1.out) ?_
   rintro e w2 ⟨rfl, b2⟩
   have HL : Hid _ := (HO1.out.next b2).low
   go_wp2_with fail
   go_ret
   exact ⟨by rw [HTT.out]; rfl, HL.out⟩
 | true =>
 cases q3 : mainF FS m with
 | false =>
   have HTT : Hid (T = false) := by show _ = _; rw [HT.out, q1, q2, q3]; rfl
   have HA1 : Hid _ := H1.out W HO0.out _ q1
   have HA2 : Hid _ := fun W h => H2.out W h _ q2
   have HA3 : Hid _ := fun W h => H3.out W h _ q3
   clear H1 H2 H3 H4 HT q1 q2 q3
   go_enter Tryz.func35, Tryz.ntmps35
   go_upto_region 1 with fail
   rw [<- hA, <- hW, <- HXB.out]
   clear hW hA
   go_wp2_with fail
   refine Calls.mono HA1.out ?_
   rintro e w1 ⟨rfl, b1⟩
   have HO1 : Hid _ := HO0.out.next b1
   obtain ⟨m1, d0, d1, d2⟩ := HC.out w1 HO1.out
   go_wp2_with fail
   refine Calls.mono (HA2.out w1 HO1.out) ?_
   rintro e w2 ⟨rfl, b2⟩
   have HO2 : Hid _ := HO1.out.next b2
   obtain ⟨n1, e0, e1, e2⟩ := HC.out w2 HO2.out
   go_wp2_with fail
   refine Calls.mono (HA3.out w2 HO2.out) ?_
   rintro e w3 ⟨rfl, b3⟩
   have HL : Hid _ := (HO2.out.next b3).low
   go_wp2_with fail
   go_ret
   exact ⟨by rw [HTT.out]; rfl, HL.out⟩
 | true =>
   have HTT : Hid (T = FS.all (funF C fn)) := by show _ = _; rw [HT.out, q1, q2, q3]; rfl
   have HA1 : Hid _ := H1.out W HO0.out _ q1
   have HA2 : Hid _ := fun W h => H2.out W h _ q2
   have HA3 : Hid _ := fun W h => H3.out W h _ q3
   have HA4 : Hid _ := H4.out q1
   clear H1 H2 H3 H4 HT q1 q2 q3
   go_enter Tryz.func35, Tryz.ntmps35
   go_upto_region 1 with fail
   rw [<- hA, <- hW, <- HXB.out]
   clear hW hA
   go_wp2_with fail
   refine Calls.mono HA1.out ?_
   rintro e w1 ⟨rfl, b1⟩
   have HO1 : Hid _ := HO0.out.next b1
   obtain ⟨m1, d0, d1, d2⟩ := HC.out w1 HO1.out
   go_wp2_with fail
   refine Calls.mono (HA2.out w1 HO1.out) ?_
   rintro e w2 ⟨rfl, b2⟩
   have HO2 : Hid _ := HO1.out.next b2
   obtain ⟨n1, e0, e1, e2⟩ := HC.out w2 HO2.out
   go_wp2_with fail
   refine Calls.mono (HA3.out w2 HO2.out) ?_
   rintro e w3 ⟨rfl, b3⟩
   have HO3 : Hid (OneR w A w3) := HO2.out.next b3
   obtain ⟨o1, f0, f1, f2⟩ := HC.out w3 HO3.out
   go_wp2_with fail
   clear b1 b2 b3 m1 n1 o1 l1 c0 c1 c2 d0 d1 d2 e0 e1 e2 f0 f1 f2 HO1 HO2 HA1 HA2 HA3
   go_loopw [22] (fun v wr => ∃ k : Nat, k <= fn /\ v = .int .i64 (k : Int) /\ Hid (∀ i (h : i < FS.length), i < k -> funF C fn FS[i] = true) /\ Hid (OneR w A wr)) (fun v _ => fn - (intOf v).toNat)
   case atStart => exact ⟨0, by omega, rfl, fun i _ h => absurd h (Nat.not_lt_zero _), HO3.out⟩
   case round =>
    obtain ⟨k, hk, rfl, HE, HO⟩ := hrel
    obtain ⟨wq, rfl⟩ : ∃ wq, wq = wr := ⟨_, rfl⟩
    obtain ⟨l1, c0, c1, c2⟩ := HC.out wq HO.out
    by_cases hlt : k < fn
    ·have hk2 : k < FS.length := by have := HN.out; omega
     obtain ⟨b, o, rfl, hlb, q0, q1, q2, q3, q4⟩ := fnr_at (HF.out wq HO.out) hk2
     obtain ⟨f, hf⟩ : ∃ f, f = FS[k] := ⟨_, rfl⟩
     rw [<- hf] at q0 q1 q2 q3 q4
     have HFE : Hid (f = FS[k]) := hf
     have hkx : (k : Int) < (fn : Int) := by omega
     have hfx : fn <= 9223372036854775807 := by omega
     obtain ⟨W5, hW5⟩ : ∃ W5, W5 = wq.alloc (.cells #[.string f.name, .int .i64 f.fr, .int .i64 f.fi, .int .i64 f.ct, .int .i64 f.pa] 59) := ⟨_, rfl⟩
     have B5 : Below wq.heap.size wq W5 := by rw [hW5]; exact below_newR _ _
     have e5 : W5.heap[wq.heap.size]? = some (.cells #[.string f.name, .int .i64 f.fr, .int .i64 f.fi, .int .i64 f.ct, .int .i64 f.pa] 59 (0, 0)) := by rw [hW5]; exact heap_alloc_new _ _
     obtain ⟨kb, hkb⟩ : ∃ kb, kb = wq.heap.size := ⟨_, rfl⟩
     rw [<- hkb] at e5
     have HO5 : Hid (OneR w A W5) := HO.out.next B5
     have r0 : W5.cell? ⟨kb, 0, none⟩ = some (.string f.name) := cell_arr e5 rfl
     have r1 : W5.cell? ⟨kb, 1, none⟩ = some (.int .i64 f.fr) := cell_arr e5 rfl
     have r2 : W5.cell? ⟨kb, 2, none⟩ = some (.int .i64 f.fi) := cell_arr e5 rfl
     have r3 : W5.cell? ⟨kb, 3, none⟩ = some (.int .i64 f.ct) := cell_arr e5 rfl
     have r4 : W5.cell? ⟨kb, 4, none⟩ = some (.int .i64 f.pa) := cell_arr e5 rfl
     have lk : kb < W5.heap.size := (gl e5)
     obtain ⟨m1, d0, d1, d2⟩ := HC.out W5 HO5.out
     cases hQ : funF C fn f with
     | false =>
       have HCF : Hid _ := HA4.out W5 HO5.out f (by rw [hf]; exact List.getElem_mem _) _ hQ
       have HF2 : Hid (T = false) := by
        show _ = _
        rw [HTT.out, List.all_eq_false]
        exact ⟨FS[k], List.getElem_mem _, by rw [<- hf, hQ]; simp⟩
       clear hf B5 e5 hQ
       go_wp2_with fail
       rw [<- hW5, <- hkb]
       clear hW5 hkb q0 q1 q2 q3 q4 c0 c1 c2
       go_wp2_with fail
       refine Calls.mono HCF.out ?_
       rintro e w6 ⟨rfl, b6⟩
       have HL : Hid _ := (HO5.out.next b6).low
       go_wp2_with fail
       go_ret
       exact ⟨by rw [HF2.out]; rfl, HL.out⟩
     | true =>
       have HCF : Hid _ := HA4.out W5 HO5.out f (by rw [hf]; exact List.getElem_mem _) _ hQ
       have HE2 : Hid (∀ i (h : i < FS.length), i < k + 1 -> funF C fn FS[i] = true) := fun i h hi => by
        rcases Nat.lt_succ_iff_lt_or_eq.1 hi with q | rfl
        ·exact HE.out i h q
        ·rw [<- hf]; exact hQ
       clear hf B5 e5 hQ HE
       go_wp2_with fail
       rw [<- hW5, <- hkb]
       clear hW5 hkb q0 q1 q2 q3 q4 c0 c1 c2
       go_wp2_with fail
       refine Calls.mono HCF.out ?_
       rintro e w6 ⟨rfl, b6⟩
       have HO6 : Hid (OneR w A w6) := HO5.out.next b6
       clear d0 d1 d2 r0 r1 r2 r3 r4
       go_wp2_with fail
       go_roundw
       case rel => exact ⟨k + 1, by omega, by go_num, HE2.out, HO6.out⟩
       case measure => simp [intOf]; omega
    ·have hkn : k = fn := by omega
     subst hkn
     have HT2 : Hid (T = true) := by
      show _ = _
      rw [HTT.out, List.all_eq_true]
      intro x hx
      obtain ⟨i, hi, rfl⟩ := List.getElem_of_mem hx
      exact HE.out i hi (by have := HN.out; omega)
     have HL : Hid _ := HO.out.low
     go_wp2_with fail
     go_ret
     exact ⟨by rw [HT2.out]; rfl, HL.out⟩
set_option maxRecDepth 100000 in
theorem checkR (w : World) (hTab : Tab w) (ca : Option Addr) (cn cc : Nat) (fa : Option Addr) (fn fc : Nat) (m : Int) (C : List Ri) (FS : List Rf) (hcn : cn = C.length) (hfn : fn = FS.length) (hC : StsG w ca cc 5 (C.map riv)) (hF : StsG w fa fc 5 (FS.map rfv)) (hlen : cn <= 1000000000) (hfl : fn <= 1000000) :
 Calls Tryz.prog 15 #[.agg #[.slice ca cn cc, .slice fa fn fc, .int .i64 m]] w fun e w' => e = .returned (.int .i64 (if formR C FS m = true then 0 else 210)) /\ Below w.heap.size w w' := by
 obtain ⟨A, hA⟩ : ∃ A : Obj, A = .cells #[.slice ca cn cc, .slice fa fn fc, .int .i64 m] 25 := ⟨_, rfl⟩
 have o := OneR.start w A
 obtain ⟨W, hW⟩ : ∃ W, W = w.alloc A := ⟨_, rfl⟩
 rw [<- hW] at o
 have e := o.one
 rw [hA] at e
 have c0 : W.cell? ⟨w.heap.size, 0, none⟩ = some (.slice ca cn cc) := cell_arr e rfl
 have c1 : W.cell? ⟨w.heap.size, 1, none⟩ = some (.slice fa fn fc) := cell_arr e rfl
 have c2 : W.cell? ⟨w.heap.size, 2, none⟩ = some (.int .i64 m) := cell_arr e rfl
 have l1 := o.lt
 have HF : Hid (∀ T, formR C FS m = T -> Calls Tryz.prog 35 #[.agg #[.slice ca cn cc, .slice fa fn fc, .int .i64 m]] W fun e w' => e = .returned (.bool T) /\ Below W.heap.size W w') := fun T hT => hasFormR W (hTab.oneR o) ca cn cc fa fn fc m C FS hcn hfn (hC.below o.low (Nat.le_refl _)) (hF.below o.low (Nat.le_refl _)) hlen hfl T hT
 have HB : Hid (∀ W2, Below W.heap.size W W2 -> Below w.heap.size w W2) := fun W2 b => o.low.trans (b.mono o.low.size)
 clear hTab hC hF hcn hfn o e
 cases q : formR C FS m with
 | false =>
   have HG : Hid _ := HF.out _ q
   rw [if_neg (by simp)]
   clear HF q
   go_enter Tryz.func15, Tryz.ntmps15
   go_upto_region 1 with fail
   rw [<- hA, <- hW]
   clear hW hA
   go_wp2_with fail
   refine Calls.mono HG.out ?_
   rintro e w1 ⟨rfl, b1⟩
   have HL : Hid _ := HB.out _ b1
   go_wp2_with fail
   go_ret
   exact ⟨rfl, HL.out⟩
 | true =>
   have HG : Hid _ := HF.out _ q
   rw [if_pos rfl]
   clear HF q
   go_enter Tryz.func15, Tryz.ntmps15
   go_upto_region 1 with fail
   rw [<- hA, <- hW]
   clear hW hA
   go_wp2_with fail
   refine Calls.mono HG.out ?_
   rintro e w1 ⟨rfl, b1⟩
   have HL : Hid _ := HB.out _ b1
   go_wp2_with fail
   go_ret
   exact ⟨rfl, HL.out⟩
structure Bls (w : World) (ao : Option Addr) (cap : Nat) (L : List Bool) : Prop where
 le : L.length <= cap
 mx : cap <= 9223372036854775807
 out : L ≠ [] -> ∃ b o, ao = some ⟨b, o, none⟩ /\ b < w.heap.size /\ ∀ i (h : i < L.length), w.cell? ⟨b, o + i, none⟩ = some (.bool L[i])
theorem Bls.below {w w' ao cap L K} (h : Bls w ao cap L) (hb : Below K w w') (hK : w.heap.size <= K) : Bls w' ao cap L :=
 ⟨h.le, h.mx, fun hn => by
  obtain ⟨b, o, e, h1, h2⟩ := h.out hn
  exact ⟨b, o, e, by have := hb.size; omega, fun i hi => by rw [hb.cell (p := ⟨b, o + i, none⟩) (by show b < K; omega)]; exact h2 i hi⟩⟩
theorem Bls.at {w ao cap L} (h : Bls w ao cap L) {j : Nat} (hj : j < L.length) : ∃ b o, ao = some ⟨b, o, none⟩ /\ w.cell? ⟨b, o + j, none⟩ = some (.bool L[j]) := by
 obtain ⟨b, o, e, _, hA⟩ := h.out (by intro e; rw [e] at hj; simp at hj)
 exact ⟨b, o, e, hA j hj⟩
structure OwnBl (w : World) (B : Nat) (v : Value) (n : Nat) (L : List Bool) : Prop where
 len : n = L.length
 out : w.ownsRow B 4 1 v n (L.map Value.bool)
theorem OwnBl.nil (w : World) (B : Nat) : OwnBl w B (.slice none 0 0) 0 [] := ⟨rfl, World.ownsRow_nil _ _ _ _⟩
theorem OwnBl.keep {w w' B v n L} (h : OwnBl w B v n L) (hb : Below w.heap.size w w') : OwnBl w' B v n L := ⟨h.len, own_keep h.out hb.block⟩
theorem OwnBl.move {w w' : World} {B v n L} (h : OwnBl w B v n L) (hk : ∀ g, v.ownBlock = some g -> w'.heap[g]? = w.heap[g]?) : OwnBl w' B v n L := ⟨h.len, own_move h.out hk⟩
theorem OwnBl.set {w : World} {B g c n : Nat} {L : List Bool} (h : OwnBl w B (.slice (some ⟨g, 0, none⟩) n c) n L) (q : Nat) (hq : q < n) (u : Bool) : OwnBl (w.setCell ⟨g, q, none⟩ (.bool u)) B (.slice (some ⟨g, 0, none⟩) n c) n (L.set q u) :=
 ⟨by simpa using h.len, by have := own_set h.out q (by omega) (.bool u); rwa [<- List.map_set] at this⟩
def waitsFor (ops : Array Oper) (z i : Nat) : Bool := match ops[z]? with
 | some o => o.after.any fun e => Region.binds .any e && e.on == i
 | none => false
def lec (P : Program) (ops : Array Oper) (Q : Exit -> Act -> World -> Prop) (S : World -> Prop) (z : Nat) : Nat -> Array Bool -> Act -> World -> Prop
 | 0, l, a, w => Region.ready .any ops l = [] /\ Q .normal a w
 | k + 1, l, a, w => (Region.ready .any ops l = [] -> Q .normal a w) /\ ∀ i ∈ Region.ready .any ops l, wpOp P ops Q i (fun a' w' => ((l.setIfInBounds i true).getD z true = false -> S w') /\ lec P ops Q S z k (l.setIfInBounds i true) a' w') a w
theorem lec_any {P : Program} {ops : Array Oper} {Q : Exit -> Act -> World -> Prop} {S : World -> Prop} {z : Nat} : ∀ (k : Nat) (l : Array Bool) (a : Act) (w : World), lec P ops Q S z k l a w -> wpAny P .any ops Q k l a w
 | 0, _, _, _, h => h
 | k + 1, _, _, _, h => ⟨h.1, fun i hi => wpOp_mono (fun a' w' h' => lec_any k _ a' w' h'.2) (h.2 i hi)⟩
theorem getD_set_le {l : Array Bool} {i z : Nat} (h : (l.setIfInBounds i true).getD z true = false) : l.getD z true = false := by
 by_cases e : i = z
 ·subst e
  rcases Nat.lt_or_ge i l.size with h' | h'
  ·simp [Array.getD, h'] at h
  ·simp [Array.getD, h'] at h
 ·rw [getD_set_ne true e] at h; exact h
theorem lec_firstP {P : Program} {ops : Array Oper} {Q : Exit -> Act -> World -> Prop} {S : World -> Prop} {z i : Nat} {oi : Oper} {v : Value} (hi : ops[i]? = some oi) (hsel : ∀ (j : Nat) (o : Oper) cs b, ops[j]? = some o -> o.op ≠ .select cs b) (hQ : ∀ c a w, Q (.panic c) (a.put oi.dst v) w -> Q (.panic c) a w) (hzi : i ≠ z) :
 ∀ (k : Nat) (l : Array Bool) (a : Act) (w : World), (∀ j oj, ops[j]? = some oj -> j ≠ i -> l.getD j true = false -> (∀ e ∈ oj.after, Region.binds .any e = true -> e.on ≠ i) -> oi.apart ops oj = true) -> i ∈ Region.ready .any ops l -> YieldsIf P ops (fun _ => True) oi v a -> (l.getD z true = false -> S w) -> lec P ops Q S z k (l.setIfInBounds i true) (a.put oi.dst v) w -> lec P ops Q S z (k + 1) l a w := by
 intro k
 induction k with
 | zero =>
   intro l a w _ hr hy hS H
   refine ⟨fun h => absurd hr (by rw [h]; simp), fun j hj => ?_⟩
   by_cases e : j = i
   ·subst e
    exact hy.wpOp hi trivial ⟨fun h => hS (getD_set_le h), H⟩
   ·have h1 := ready_mono hj e
    rw [H.1] at h1
    simp at h1
 | succ k ih =>
   intro l a w hfree hr hy hS H
   refine ⟨fun h => absurd hr (by rw [h]; simp), fun j hj => ?_⟩
   by_cases e : j = i
   ·subst e
    exact hy.wpOp hi trivial ⟨fun h => hS (getD_set_le h), H⟩
   ·obtain ⟨hun, oj, hoj, hall⟩ := mem_ready.1 hj
    have hno : ∀ e ∈ oj.after, Region.binds .any e = true -> e.on ≠ i := fun x hx hb heq => by
     have h1 := hall x hx hb
     have h0 := (mem_ready.1 hr).1
     rw [heq] at h1
     rcases Nat.lt_or_ge i l.size with h' | h'
     ·simp [h'] at h0 h1; rw [h0] at h1; cases h1
     ·simp [Array.getElem?_eq_none h'] at h1
    have h2 := wpOp_putIf hoj (hfree j oj hoj e hun hno) (fun cs b => hsel i oi cs b hi) (fun cs b => hsel j oj cs b hoj) hQ hy (H.2 j (ready_mono hj e))
    refine wpOp_mono (fun a' w' h3 => ?_) h2
    have h4 : (l.setIfInBounds j true).getD z true = false -> S w' := fun hz => by
     exact h3.2.1 (by rw [Array.setIfInBounds_comm _ _ (Ne.symm e), getD_set_ne true hzi]; exact hz)
    refine ⟨h4, ih (l.setIfInBounds j true) a' w' ?_ (ready_mono hr (Ne.symm e)) h3.1 h4 ?_⟩
    ·intro m om hm hmi hmun hmno
     refine hfree m om hm hmi ?_ hmno
     by_cases ejm : j = m
     ·subst ejm; exact hun
     ·rw [getD_set_ne true ejm] at hmun; exact hmun
    ·rw [Array.setIfInBounds_comm _ _ e]
     exact h3.2.2
theorem lec_takeP {P : Program} {ops : Array Oper} {Q : Exit -> Act -> World -> Prop} {S : World -> Prop} {z i : Nat} {oi : Oper} {v : Value} {k : Nat} {l : Array Bool} {a : Act} {w : World} (hi : ops[i]? = some oi) (hs : Region.noSelect ops = true) (hf : Region.free .any ops l i = true) (hr : (Region.ready .any ops l).contains i = true) (hz : (i != z) = true)
 (hQ : ∀ c a w, Q (.panic c) (a.put oi.dst v) w -> Q (.panic c) a w) (hy : YieldsIf P ops (fun _ => True) oi v a) (hS : S w) (h : lec P ops Q S z k (l.setIfInBounds i true) (a.put oi.dst v) w) : lec P ops Q S z (k + 1) l a w := by
 simp only [bne_iff_ne, ne_eq] at hz
 exact lec_firstP hi (Region.noSelect_spec hs) hQ hz k l a w (Region.free_spec hi hf) (by simpa using hr) hy (fun _ => hS) h
theorem lec_one {P : Program} {ops : Array Oper} {Q : Exit -> Act -> World -> Prop} {S : World -> Prop} {z i : Nat} {oi : Oper} {k : Nat} {l : Array Bool} {a : Act} {w : World} (hi : ops[i]? = some oi) (hr : Region.ready .any ops l = [i])
 (h : ∀ K' : Act -> World -> Prop, (∀ a' w', ((l.setIfInBounds i true).getD z true = false -> S w') -> lec P ops Q S z k (l.setIfInBounds i true) a' w' -> K' a' w') -> if Region.wanted oi (yielded ops a.tmps) = true then Oper.wp P oi a w K' Q else K' (a.put oi.dst undef) w) : lec P ops Q S z (k + 1) l a w := by
 refine ⟨fun h0 => absurd h0 (by rw [hr]; simp), fun j hj => ?_⟩
 rw [hr] at hj
 simp at hj
 subst hj
 exact wpOp_step hi fun K' hK => h K' fun a' w' h1 h2 => hK a' w' ⟨h1, h2⟩
theorem lec_done {P : Program} {ops : Array Oper} {Q : Exit -> Act -> World -> Prop} {S : World -> Prop} {z : Nat} {l : Array Bool} {a : Act} {w : World} (hr : Region.ready .any ops l = []) (h : Q .normal a w) : lec P ops Q S z 0 l a w := ⟨hr, h⟩
theorem lec_start {P : Program} {id : Nat} {ops : Array Oper} {Q : Exit -> Act -> World -> Prop} {S : World -> Prop} {z : Nat} {a : Act} {w : World} (hm : P.follows .mixedOrders = true) (h : lec P ops Q S z ops.size (Array.replicate ops.size false) a w.drew) : (Code.region id ops true).wp P Q a w :=
 wp_region_any hm (lec_any _ _ _ _ h)
end Go.Proofs.YtfofmmkihhnfmaaGreatDoor
