import Derived.BigQuiet
import Derived.Test.YtegoemeefmjnoaaGreatDoorJbd
set_option linter.unusedVariables false
set_option linter.unusedSimpArgs false
namespace Go.Proofs.YtegoemeefmjnoaaGreatDoor
open Go.ChangeShapes Go.WideShapes Go.ChangeAt Go.RowKit
def en14 (rg rs : Int) (nb : Nat) (kd vl : Int) (M : List Int) : Bool :=
 if kd = 1 then (if M.length = 1 /\ vl = -1 then rgP nb (M.getD 0 0) else false)
 else if kd = 2 then (if M.length = 2 then (rgP rg vl && (rgP nb (M.getD 0 0) && rgP nb (M.getD 1 0))) else false)
 else if kd = 3 then (if M.length = 0 then (if rs = 0 then decide (vl = -1) else rgP rg vl) else false)
 else if kd = 4 then (if M.length = 0 then rgP rg vl else false)
 else false
theorem end_cases (rg rs : Int) (nb : Nat) (kd vl : Int) (M : List Int) :
 (endV kd vl M = .nilIface /\ en14 rg rs nb kd vl M = false) \/ (∃ x : Int, endV kd vl M = .iface 168 (.agg #[.int .i64 x]) /\ en14 rg rs nb kd vl M = rgP nb x) \/ (∃ x y : Int, endV kd vl M = .iface 170 (.agg #[.int .i64 vl, .int .i64 x, .int .i64 y]) /\ en14 rg rs nb kd vl M = (rgP rg vl && (rgP nb x && rgP nb y))) \/ (endV kd vl M = .iface 172 (.agg #[.int .i64 vl]) /\ en14 rg rs nb kd vl M = (if rs = 0 then decide (vl = -1) else rgP rg vl)) \/ (endV kd vl M = .iface 173 (.agg #[.int .i64 vl]) /\ en14 rg rs nb kd vl M = rgP rg vl) := by
 unfold endV en14
 by_cases k1 : kd = 1
 ·by_cases h : M.length = 1 /\ vl = -1
  ·exact Or.inr (Or.inl ⟨M.getD 0 0, by rw [if_pos k1, if_pos h], by rw [if_pos k1, if_pos h]⟩)
  ·exact Or.inl ⟨by rw [if_pos k1, if_neg h], by rw [if_pos k1, if_neg h]⟩
 ·rw [if_neg k1, if_neg k1]
  by_cases k2 : kd = 2
  ·by_cases h : M.length = 2
   ·exact Or.inr (Or.inr (Or.inl ⟨M.getD 0 0, M.getD 1 0, by rw [if_pos k2, if_pos h], by rw [if_pos k2, if_pos h]⟩))
   ·exact Or.inl ⟨by rw [if_pos k2, if_neg h], by rw [if_pos k2, if_neg h]⟩
  ·rw [if_neg k2, if_neg k2]
   by_cases k3 : kd = 3
   ·by_cases h : M.length = 0
    ·exact Or.inr (Or.inr (Or.inr (Or.inl ⟨by rw [if_pos k3, if_pos h], by rw [if_pos k3, if_pos h]⟩)))
    ·exact Or.inl ⟨by rw [if_pos k3, if_neg h], by rw [if_pos k3, if_neg h]⟩
   ·rw [if_neg k3, if_neg k3]
    by_cases k4 : kd = 4
    ·by_cases h : M.length = 0
     ·exact Or.inr (Or.inr (Or.inr (Or.inr ⟨by rw [if_pos k4, if_pos h], by rw [if_pos k4, if_pos h]⟩)))
     ·exact Or.inl ⟨by rw [if_pos k4, if_neg h], by rw [if_pos k4, if_neg h]⟩
    ·exact Or.inl ⟨by rw [if_neg k4], by rw [if_neg k4]⟩
def bl14 (rg rs : Int) (nb : Nat) (b : Lb) : Bool := b.body.all (in14 rg) && en14 rg rs nb b.kind b.val b.ways
structure Bx14 (w wq : World) (A B : Obj) (w' : World) : Prop where
 one : One14 w A w'
 two : w'.heap[wq.heap.size]? = some B
 low : Below wq.heap.size wq w'
theorem Bx14.start {w wq : World} {A : Obj} (h : One14 w A wq) (B : Obj) : Bx14 w wq A B (wq.alloc B) :=
 ⟨h.next (below_newL _ _), heap_alloc_new _ _, below_newL _ _⟩
theorem Bx14.next {w wq : World} {A B : Obj} {w' w'' : World} (h : Bx14 w wq A B w') (hb : Below w'.heap.size w' w'') : Bx14 w wq A B w'' :=
 ⟨h.one.next hb, (hb.block _ (gl h.two)).trans h.two, h.low.trans (hb.mono h.low.size)⟩
def fo14 (f : Lf) : Bool := decide (0 <= f.regs) && (pa14 f.regs f.params && (isTn14 f.result && ((!decide (f.blks.length = 0)) && f.blks.all (bl14 f.regs f.result f.blks.length))))
set_option maxRecDepth 10000 in
set_option maxHeartbeats 2000000 in
theorem formed_at (w : World) {s : ByteArray} {pa : Option Addr} {pn pc : Nat} {rg rs : Int} {ba : Option Addr} {bn bc : Nat} {P : List Int} {B : List Lb} (hP : Ints w pa pc P) (hpn : pn = P.length) (hB : Lbs w ba bc B) (hbn : bn = B.length) : Calls Tryz.prog 62 #[.agg #[.string s, .slice pa pn pc, .int .i64 rg, .int .i64 rs, .slice ba bn bc]] w fun e w' => e = .returned (.bool (fo14 ⟨s, P, rg, rs, B⟩)) /\ Below w.heap.size w w' := by
 obtain ⟨W, hW⟩ : ∃ W, W = w.alloc (.cells #[.string s, .slice pa pn pc, .int .i64 rg, .int .i64 rs, .slice ba bn bc] 125) := ⟨_, rfl⟩
 have hT : One14 w (.cells #[.string s, .slice pa pn pc, .int .i64 rg, .int .i64 rs, .slice ba bn bc] 125) W := by rw [hW]; exact One14.start _ _
 have HT : Hid (One14 w (.cells #[.string s, .slice pa pn pc, .int .i64 rg, .int .i64 rs, .slice ba bn bc] 125) W) := hT
 have hkc : bn <= bc /\ bc <= 9223372036854775807 := by have := hB.le; have := hB.mx; omega
 obtain ⟨hk1, hk2⟩ := hkc
 have HN : Hid (bn = B.length) := hbn
 have HL : Hid (Lbs w ba bc B) := hB
 obtain ⟨T2, h2⟩ : ∃ T, T = pa14 rg P := ⟨_, rfl⟩
 obtain ⟨T3, h3⟩ : ∃ T, T = isTn14 rs := ⟨_, rfl⟩
 obtain ⟨T4, h4⟩ : ∃ T, T = B.all (bl14 rg rs bn) := ⟨_, rfl⟩
 have H2 : Hid (∀ w', Below w.heap.size w w' -> Calls Tryz.prog 78 #[.agg #[.string s, .slice pa pn pc, .int .i64 rg, .int .i64 rs, .slice ba bn bc]] w' fun e w'' => e = .returned (.bool T2) /\ Below w'.heap.size w' w'') := fun w' hb => by rw [h2]; exact paramsFit_any w' (hP.below hb (Nat.le_refl _)) hpn
 have H3 : Hid (∀ w', Calls Tryz.prog 79 #[.int .i64 rs] w' fun e w'' => e = .returned (.bool T3) /\ w'' = w') := fun w' => by rw [h3]; exact isTn_any w' rs
 have e0 : fo14 ⟨s, P, rg, rs, B⟩ = (decide (0 <= rg) && (T2 && (T3 && ((!decide (bn = 0)) && T4)))) := by rw [h2, h3, h4, hbn]; rfl
 rw [e0]
 have H4 : Hid (T4 = B.all (bl14 rg rs bn)) := h4
 have f0 : W.cell? ⟨w.heap.size, 0, none⟩ = some (.string s) := cell_arr hT.one rfl
 have f1 : W.cell? ⟨w.heap.size, 1, none⟩ = some (.slice pa pn pc) := cell_arr hT.one rfl
 have f2 : W.cell? ⟨w.heap.size, 2, none⟩ = some (.int .i64 rg) := cell_arr hT.one rfl
 have f3 : W.cell? ⟨w.heap.size, 3, none⟩ = some (.int .i64 rs) := cell_arr hT.one rfl
 have f4 : W.cell? ⟨w.heap.size, 4, none⟩ = some (.slice ba bn bc) := cell_arr hT.one rfl
 clear h2 h3 h4 hbn hpn e0 hP hB hT
 cases hd0 : decide (0 <= rg) with
 | false =>
   have hq : decide (rg < 0) = true := by simp at hd0 ⊢; omega
   clear hd0
   go_enter Tryz.func62, Tryz.ntmps62
   go_wp2_with fail
   rw [<- hW]
   go_ret
   exact ⟨rfl, HT.out.low⟩
 | true =>
  have hq : decide (rg < 0) = false := by simp at hd0 ⊢; omega
  clear hd0
  go_enter Tryz.func62, Tryz.ntmps62
  go_wp2_with fail
  rw [<- hW]
  clear hW
  refine Calls.mono (H2.out W HT.out.low) ?_
  rintro e w1 ⟨rfl, hb1⟩
  have HT1 : Hid _ := HT.out.next hb1
  clear hb1 f0 f1 f2 f3 f4
  have f0 : w1.cell? ⟨w.heap.size, 0, none⟩ = some (.string s) := cell_arr HT1.out.one rfl
  have f1 : w1.cell? ⟨w.heap.size, 1, none⟩ = some (.slice pa pn pc) := cell_arr HT1.out.one rfl
  have f2 : w1.cell? ⟨w.heap.size, 2, none⟩ = some (.int .i64 rg) := cell_arr HT1.out.one rfl
  have f3 : w1.cell? ⟨w.heap.size, 3, none⟩ = some (.int .i64 rs) := cell_arr HT1.out.one rfl
  have f4 : w1.cell? ⟨w.heap.size, 4, none⟩ = some (.slice ba bn bc) := cell_arr HT1.out.one rfl
  cases T2 with
  | false =>
    go_wp2_with fail
    go_ret
    exact ⟨rfl, HT1.out.low⟩
  | true =>
    go_wp2_with fail
    refine Calls.mono (H3.out w1) ?_
    rintro e w2 ⟨rfl, rfl⟩
    cases T3 with
    | false =>
      go_wp2_with fail
      go_ret
      exact ⟨rfl, HT1.out.low⟩
    | true =>
      by_cases hz : bn = 0
      ·subst hz
       go_wp2_with fail
       go_ret
       exact ⟨rfl, HT1.out.low⟩
      ·have hz2 : decide (bn = 0) = false := by simp [hz]
       have hz3 : ((bn : Int) == 0) = false := by simp [hz]
       go_wp2_with fail
       clear H2 H3
       go_loopw [31] (fun v wr => ∃ k : Nat, k <= bn /\ v = .int .i64 k /\ Hid (∀ i (h : i < B.length), i < k -> bl14 rg rs bn B[i] = true) /\ Hid (One14 w (.cells #[.string s, .slice pa pn pc, .int .i64 rg, .int .i64 rs, .slice ba bn bc] 125) wr)) (fun v _ => bn - (intOf v).toNat)
       case atStart => exact ⟨0, by omega, rfl, fun i _ h => by omega, HT1.out⟩
       case round =>
        clear f0 f1 f2 f3 f4 HT1
        obtain ⟨k, hk, rfl, HE, HO⟩ := hrel
        obtain ⟨wq, rfl⟩ : ∃ wq, wq = wr := ⟨_, rfl⟩
        have f0 : wq.cell? ⟨w.heap.size, 0, none⟩ = some (.string s) := cell_arr HO.out.one rfl
        have f1 : wq.cell? ⟨w.heap.size, 1, none⟩ = some (.slice pa pn pc) := cell_arr HO.out.one rfl
        have f2 : wq.cell? ⟨w.heap.size, 2, none⟩ = some (.int .i64 rg) := cell_arr HO.out.one rfl
        have f3 : wq.cell? ⟨w.heap.size, 3, none⟩ = some (.int .i64 rs) := cell_arr HO.out.one rfl
        have f4 : wq.cell? ⟨w.heap.size, 4, none⟩ = some (.slice ba bn bc) := cell_arr HO.out.one rfl
        by_cases hlt : k < bn
        ·have hk3 : k < B.length := by have := HN.out; omega
         have hk3' : ((k : Int) < bn) := by omega
         have HLb : Hid _ := (HL.out.below HO.out.low (Nat.le_refl _))
         obtain ⟨b, o, ka, kc, la, lc, rfl, hb, c0, c1, c2, c3, hBo, hWa⟩ := HLb.out.at hk3
         have HBo : Hid _ := hBo
         have HWa : Hid _ := hWa
         clear hBo hWa HLb
         obtain ⟨X, hX⟩ : ∃ X, X = B[k] := ⟨_, rfl⟩
         rw [<- hX] at c0 c1 c2 c3 HBo HWa
         obtain ⟨nb, hnb⟩ : ∃ nb, nb = X.body.length := ⟨_, rfl⟩
         obtain ⟨nw, hnw⟩ : ∃ nb, nb = X.ways.length := ⟨_, rfl⟩
         rw [<- hnb] at c0
         rw [<- hnw] at c3
         have HX : Hid (X = B[k]) := hX
         have HNB : Hid (nb = X.body.length) := hnb
         have HNW : Hid (nw = X.ways.length) := hnw
         have hkb : nb <= 9223372036854775807 := by have := HBo.out.le; have := HBo.out.mx; omega
         clear hX hnb hnw
         obtain ⟨W5, hW5⟩ : ∃ W5, W5 = wq.alloc (.cells #[.slice ka nb kc, .int .i64 X.kind, .int .i64 X.val, .slice la nw lc] 134) := ⟨_, rfl⟩
         have HB5 : Hid (Bx14 w wq (.cells #[.string s, .slice pa pn pc, .int .i64 rg, .int .i64 rs, .slice (some ⟨b, o, none⟩) bn bc] 125) (.cells #[.slice ka nb kc, .int .i64 X.kind, .int .i64 X.val, .slice la nw lc] 134) W5) := by
          show Bx14 w wq _ _ W5
          rw [hW5]; exact Bx14.start HO.out _
         obtain ⟨xk, hxk⟩ : ∃ t, t = X.kind := ⟨_, rfl⟩
         obtain ⟨xv, hxv⟩ : ∃ t, t = X.val := ⟨_, rfl⟩
         rw [<- hxk] at c1 hW5 HB5
         rw [<- hxv] at c2 hW5 HB5
         have HXK : Hid (xk = X.kind) := hxk
         have HXV : Hid (xv = X.val) := hxv
         clear hxk hxv
         go_wp2_with fail
         rw [<- hW5]
         clear hW5 c0 c1 c2 c3 f0 f1 f2 f3 f4
         go_loopw [38] (fun v wr => ∃ j : Nat, j <= nb /\ v = .int .i64 j /\ Hid (∀ i (h : i < X.body.length), i < j -> in14 rg X.body[i] = true) /\ Hid (Bx14 w wq (.cells #[.string s, .slice pa pn pc, .int .i64 rg, .int .i64 rs, .slice (some ⟨b, o, none⟩) bn bc] 125) (.cells #[.slice ka nb kc, .int .i64 xk, .int .i64 xv, .slice la nw lc] 134) wr)) (fun v _ => nb - (intOf v).toNat)
         case atStart => exact ⟨0, by omega, rfl, fun i _ h => by omega, HB5.out⟩
         case round =>
          clear HB5
          obtain ⟨j, hj, rfl, HE2, HO2⟩ := hrel
          obtain ⟨wp, rfl⟩ : ∃ wp, wp = wr := ⟨_, rfl⟩
          have f0 : wp.cell? ⟨w.heap.size, 0, none⟩ = some (.string s) := cell_arr HO2.out.one.one rfl
          have f1 : wp.cell? ⟨w.heap.size, 1, none⟩ = some (.slice pa pn pc) := cell_arr HO2.out.one.one rfl
          have f2 : wp.cell? ⟨w.heap.size, 2, none⟩ = some (.int .i64 rg) := cell_arr HO2.out.one.one rfl
          have f3 : wp.cell? ⟨w.heap.size, 3, none⟩ = some (.int .i64 rs) := cell_arr HO2.out.one.one rfl
          have f4 : wp.cell? ⟨w.heap.size, 4, none⟩ = some (.slice (some ⟨b, o, none⟩) bn bc) := cell_arr HO2.out.one.one rfl
          have d0 : wp.cell? ⟨wq.heap.size, 0, none⟩ = some (.slice ka nb kc) := cell_arr HO2.out.two rfl
          have d1 : wp.cell? ⟨wq.heap.size, 1, none⟩ = some (.int .i64 xk) := cell_arr HO2.out.two rfl
          have d2 : wp.cell? ⟨wq.heap.size, 2, none⟩ = some (.int .i64 xv) := cell_arr HO2.out.two rfl
          have d3 : wp.cell? ⟨wq.heap.size, 3, none⟩ = some (.slice la nw lc) := cell_arr HO2.out.two rfl
          have hs1 : w.heap.size < wp.heap.size := (gl HO2.out.one.one)
          have hs2 : wq.heap.size < wp.heap.size := (gl HO2.out.two)
          by_cases hjt : j < nb
          ·have hj3 : j < X.body.length := by have := HNB.out; omega
           have HLi : Hid _ := (HBo.out.below HO2.out.low (Nat.le_refl _))
           obtain ⟨xb, xo, xa, xc, rfl, hxb, y0, y1, y2, y3, hAr⟩ := HLi.out.at hj3
           have HI : Hid (∀ w', Below wp.heap.size wp w' -> Calls Tryz.prog 80 #[.agg #[.string s, .slice pa pn pc, .int .i64 rg, .int .i64 rs, .slice (some ⟨b, o, none⟩) bn bc], .agg #[.int .i64 X.body[j].op, .int .i64 X.body[j].dst, .int .i64 X.body[j].imm, .slice xa X.body[j].args.length xc]] w' fun e w'' => e = .returned (.bool (in14 rg X.body[j])) /\ Below w'.heap.size w' w'') := fun w' hb => insFits_any w' (x := X.body[j]) (hAr.below hb (Nat.le_refl _))
           have HA : Hid (in14 rg X.body[j] = false -> T4 = false) := fun h => by
            rw [H4.out, List.all_eq_false]
            refine ⟨B[k], List.getElem_mem hk3, ?_⟩
            rw [<- HX.out]; unfold bl14
            have : X.body.all (in14 rg) = false := by
             rw [List.all_eq_false]; exact ⟨_, List.getElem_mem hj3, by simp [h]⟩
            simp [this]
           have HB : Hid (in14 rg X.body[j] = true -> ∀ i (h : i < X.body.length), i < j + 1 -> in14 rg X.body[i] = true) := fun h i h1 h2 => by
            rcases Nat.lt_succ_iff_lt_or_eq.1 h2 with q | rfl
            ·exact HE2.out i h1 q
            ·exact h
           clear HE2 hAr HLi
           generalize in14 rg X.body[j] = TI at HI HA HB
           generalize X.body[j].op = i0 at HI y0
           generalize X.body[j].dst = i1 at HI y1
           generalize X.body[j].imm = i2 at HI y2
           generalize X.body[j].args.length = i3 at HI y3
           obtain ⟨W6, hW6⟩ : ∃ W6, W6 = wp.alloc (.cells #[.int .i64 i0, .int .i64 i1, .int .i64 i2, .slice xa i3 xc] 147) := ⟨_, rfl⟩
           have HB6 : Hid (Below wp.heap.size wp W6) := by
            show Below _ _ _
            rw [hW6]; exact below_newL _ _
           go_wp2_with fail
           rw [<- hW6]
           clear hW6
           refine Calls.mono (HI.out W6 HB6.out) ?_
           rintro e w7 ⟨rfl, hb7⟩
           have HO7 : Hid _ := HO2.out.next (HB6.out.trans (hb7.mono HB6.out.size))
           clear hb7 f0 f1 f2 f3 f4 d0 d1 d2 d3 y0 y1 y2 y3
           cases TI with
           | false =>
             have HA2 : Hid _ := HA.out rfl
             clear HA HB
             go_wp2_with fail
             go_ret
             exact ⟨ret_blL (by rw [HA2.out]; simp), HO7.out.one.low⟩
           | true =>
             have HB2 : Hid _ := HB.out rfl
             clear HA HB
             go_wp2_with fail
             go_roundw
             case rel => exact ⟨j + 1, by omega, by go_num, HB2.out, HO7.out⟩
             case measure => simp [intOf]; omega
          ·have HAl : Hid (X.body.all (in14 rg) = true) := by
            show _ = _
            rw [List.all_eq_true]
            intro x hx
            obtain ⟨i, hi, rfl⟩ := List.getElem_of_mem hx
            exact HE2.out i hi (by have := HNB.out; omega)
           have HEn : Hid _ := endOf_any wp (HWa.out.below HO2.out.low (Nat.le_refl _)) HNW.out xk xv
           clear HE2
           go_wp2_with fail
           refine Calls.mono HEn.out ?_
           rintro e w8 ⟨rfl, hb8⟩
           have HO8 : Hid _ := HO2.out.next hb8
           have HNo : Hid (en14 rg rs bn xk xv X.ways = false -> T4 = false) := fun h => by
            rw [H4.out, List.all_eq_false]
            refine ⟨B[k], List.getElem_mem hk3, ?_⟩
            rw [<- HX.out]; unfold bl14
            rw [<- HXK.out, <- HXV.out, h]; simp
           have HYe : Hid (en14 rg rs bn xk xv X.ways = true -> ∀ i (h : i < B.length), i < k + 1 -> bl14 rg rs bn B[i] = true) := fun h i h1 h2 => by
            rcases Nat.lt_succ_iff_lt_or_eq.1 h2 with q | rfl
            ·exact HE.out i h1 q
            ·rw [<- HX.out]; unfold bl14
             rw [<- HXK.out, <- HXV.out, h, HAl.out]; rfl
           clear hb8 f0 f1 f2 f3 f4 d0 d1 d2 d3 HE
           obtain ⟨ev, hev⟩ : ∃ v, v = endV xk xv X.ways := ⟨_, rfl⟩
           have HC := end_cases rg rs bn xk xv X.ways
           rw [<- hev] at HC ⊢
           clear hev HEn
           generalize en14 rg rs bn xk xv X.ways = TE at HC HNo HYe
           have f0 : w8.cell? ⟨w.heap.size, 0, none⟩ = some (.string s) := cell_arr HO8.out.one.one rfl
           have f1 : w8.cell? ⟨w.heap.size, 1, none⟩ = some (.slice pa pn pc) := cell_arr HO8.out.one.one rfl
           have f2 : w8.cell? ⟨w.heap.size, 2, none⟩ = some (.int .i64 rg) := cell_arr HO8.out.one.one rfl
           have f3 : w8.cell? ⟨w.heap.size, 3, none⟩ = some (.int .i64 rs) := cell_arr HO8.out.one.one rfl
           have f4 : w8.cell? ⟨w.heap.size, 4, none⟩ = some (.slice (some ⟨b, o, none⟩) bn bc) := cell_arr HO8.out.one.one rfl
           rcases HC with ⟨rfl, rfl⟩ | ⟨x, rfl, hTE⟩ | ⟨x, y, rfl, hTE⟩ | ⟨rfl, hTE⟩ | ⟨rfl, hTE⟩
           ·have HA2 : Hid _ := HNo.out rfl
            clear HNo HYe
            go_wp2_with fail
            go_ret
            exact ⟨ret_blL (by rw [HA2.out]; simp), HO8.out.one.low⟩
           ·have HM : Hid (∀ w', Calls Tryz.prog 153 #[.agg #[.int .i64 x], .agg #[.string s, .slice pa pn pc, .int .i64 rg, .int .i64 rs, .slice (some ⟨b, o, none⟩) bn bc]] w' fun e w'' => e = .returned (.bool TE) /\ Below w'.heap.size w' w'') := fun w' => by rw [hTE]; exact jumpFits_any w'
            have hm : ∀ w' : World, (method 368 168 (.agg #[.int .i64 x]) "quern/lir.fits").run Tryz.prog w' = .ok (153, .agg #[.int .i64 x]) w' := fun _ => by kernel_rfl
            clear hTE
            go_wp2_with fail
            refine Calls.mono (HM.out w8) ?_
            rintro e w9 ⟨rfl, hb9⟩
            have HO9 : Hid _ := HO8.out.next hb9
            clear hb9 hm f0 f1 f2 f3 f4
            cases TE with
            | false =>
              have HA2 : Hid _ := HNo.out rfl
              clear HNo HYe
              go_wp2_with fail
              go_ret
              exact ⟨ret_blL (by rw [HA2.out]; simp), HO9.out.one.low⟩
            | true =>
              have HB2 : Hid _ := HYe.out rfl
              clear HNo HYe
              go_wp2_with fail
              go_roundw
              case rel => exact ⟨k + 1, by omega, by go_num, HB2.out, HO9.out.one⟩
              case measure => simp [intOf]; omega
           ·have HM : Hid (∀ w', Calls Tryz.prog 157 #[.agg #[.int .i64 xv, .int .i64 x, .int .i64 y], .agg #[.string s, .slice pa pn pc, .int .i64 rg, .int .i64 rs, .slice (some ⟨b, o, none⟩) bn bc]] w' fun e w'' => e = .returned (.bool TE) /\ Below w'.heap.size w' w'') := fun w' => by rw [hTE]; exact branchFits_any w'
            have hm : ∀ w' : World, (method 368 170 (.agg #[.int .i64 xv, .int .i64 x, .int .i64 y]) "quern/lir.fits").run Tryz.prog w' = .ok (157, .agg #[.int .i64 xv, .int .i64 x, .int .i64 y]) w' := fun _ => by kernel_rfl
            clear hTE
            go_wp2_with fail
            refine Calls.mono (HM.out w8) ?_
            rintro e w9 ⟨rfl, hb9⟩
            have HO9 : Hid _ := HO8.out.next hb9
            clear hb9 hm f0 f1 f2 f3 f4
            cases TE with
            | false =>
              have HA2 : Hid _ := HNo.out rfl
              clear HNo HYe
              go_wp2_with fail
              go_ret
              exact ⟨ret_blL (by rw [HA2.out]; simp), HO9.out.one.low⟩
            | true =>
              have HB2 : Hid _ := HYe.out rfl
              clear HNo HYe
              go_wp2_with fail
              go_roundw
              case rel => exact ⟨k + 1, by omega, by go_num, HB2.out, HO9.out.one⟩
              case measure => simp [intOf]; omega
           ·have HM : Hid (∀ w', Calls Tryz.prog 160 #[.agg #[.int .i64 xv], .agg #[.string s, .slice pa pn pc, .int .i64 rg, .int .i64 rs, .slice (some ⟨b, o, none⟩) bn bc]] w' fun e w'' => e = .returned (.bool TE) /\ Below w'.heap.size w' w'') := fun w' => by rw [hTE]; exact backFits_any w'
            have hm : ∀ w' : World, (method 368 172 (.agg #[.int .i64 xv]) "quern/lir.fits").run Tryz.prog w' = .ok (160, .agg #[.int .i64 xv]) w' := fun _ => by kernel_rfl
            clear hTE
            go_wp2_with fail
            refine Calls.mono (HM.out w8) ?_
            rintro e w9 ⟨rfl, hb9⟩
            have HO9 : Hid _ := HO8.out.next hb9
            clear hb9 hm f0 f1 f2 f3 f4
            cases TE with
            | false =>
              have HA2 : Hid _ := HNo.out rfl
              clear HNo HYe
              go_wp2_with fail
              go_ret
              exact ⟨ret_blL (by rw [HA2.out]; simp), HO9.out.one.low⟩
            | true =>
              have HB2 : Hid _ := HYe.out rfl
              clear HNo HYe
              go_wp2_with fail
              go_roundw
              case rel => exact ⟨k + 1, by omega, by go_num, HB2.out, HO9.out.one⟩
              case measure => simp [intOf]; omega
           ·have HM : Hid (∀ w', Calls Tryz.prog 163 #[.agg #[.int .i64 xv], .agg #[.string s, .slice pa pn pc, .int .i64 rg, .int .i64 rs, .slice (some ⟨b, o, none⟩) bn bc]] w' fun e w'' => e = .returned (.bool TE) /\ Below w'.heap.size w' w'') := fun w' => by rw [hTE]; exact crashFits_any w'
            have hm : ∀ w' : World, (method 368 173 (.agg #[.int .i64 xv]) "quern/lir.fits").run Tryz.prog w' = .ok (163, .agg #[.int .i64 xv]) w' := fun _ => by kernel_rfl
            clear hTE
            go_wp2_with fail
            refine Calls.mono (HM.out w8) ?_
            rintro e w9 ⟨rfl, hb9⟩
            have HO9 : Hid _ := HO8.out.next hb9
            clear hb9 hm f0 f1 f2 f3 f4
            cases TE with
            | false =>
              have HA2 : Hid _ := HNo.out rfl
              clear HNo HYe
              go_wp2_with fail
              go_ret
              exact ⟨ret_blL (by rw [HA2.out]; simp), HO9.out.one.low⟩
            | true =>
              have HB2 : Hid _ := HYe.out rfl
              clear HNo HYe
              go_wp2_with fail
              go_roundw
              case rel => exact ⟨k + 1, by omega, by go_num, HB2.out, HO9.out.one⟩
              case measure => simp [intOf]; omega
        ·have HA : Hid (T4 = true) := by
          show _ = _
          rw [H4.out, List.all_eq_true]
          intro x hx
          obtain ⟨i, hi, rfl⟩ := List.getElem_of_mem hx
          exact HE.out i hi (by have := HN.out; omega)
         go_wp2_with fail
         go_ret
         exact ⟨ret_blL (by rw [HA.out, hz2]; rfl), HO.out.low⟩
def mn14 (L : List Lf) (m : Int) : Bool := rgP L.length m && match L[m.toNat]? with
 | some f => decide (f.params.length = 0) && decide (f.result = 0)
 | none => false
set_option maxRecDepth 10000 in
set_option maxHeartbeats 2000000 in
theorem mainFits_any (w : World) {fa : Option Addr} {n fc : Nat} {m : Int} {L : List Lf} (hL : Lfs w fa fc L) (hn : n = L.length) :
 Calls Tryz.prog 61 #[.agg #[.slice fa n fc, .int .i64 m]] w fun e w' => e = .returned (.bool (mn14 L m)) /\ Below w.heap.size w w' := by
 obtain ⟨W, hW⟩ : ∃ W, W = w.alloc (.cells #[.slice fa n fc, .int .i64 m] 110) := ⟨_, rfl⟩
 have HB : Hid (Below w.heap.size w W) := by show Below _ _ _; rw [hW]; exact below_newL _ _
 have hg : W.heap[w.heap.size]? = some (.cells #[.slice fa n fc, .int .i64 m] 110 (0, 0)) := by rw [hW]; exact heap_alloc_new _ _
 have hkc : n <= 9223372036854775807 := by have := hL.le; have := hL.mx; omega
 have g0 : W.cell? ⟨w.heap.size, 0, none⟩ = some (.slice fa n fc) := cell_arr hg rfl
 have g1 : W.cell? ⟨w.heap.size, 1, none⟩ = some (.int .i64 m) := cell_arr hg rfl
 clear hg
 obtain ⟨T1, h1⟩ : ∃ T, T = rgP n m := ⟨_, rfl⟩
 have H1 : Hid (∀ w', Calls Tryz.prog 77 #[.slice fa n fc, .int .i64 m] w' fun e w'' => e = .returned (.bool T1) /\ w'' = w') := fun w' => by rw [h1]; exact within14F_any w' _ _ _ _
 cases T1 with
 | false =>
   have HA : Hid (mn14 L m = false) := by
    show _ = _
    unfold mn14; rw [<- hn, <- h1]; rfl
   clear h1 hn hL
   go_enter Tryz.func61, Tryz.ntmps61
   go_wp2_with fail
   rw [<- hW]
   clear hW
   refine Calls.mono (H1.out W) ?_
   rintro e w1 ⟨rfl, rfl⟩
   go_wp2_with fail
   go_ret
   exact ⟨ret_blL HA.out.symm, HB.out⟩
 | true =>
   have hm : 0 <= m /\ m < n := by
    have := h1.symm; unfold rgP at this; simpa using this
   obtain ⟨j, rfl⟩ : ∃ j : Nat, m = j := ⟨m.toNat, by omega⟩
   have hj : j < L.length := by omega
   have hjn : j < n := by omega
   obtain ⟨b, o, ka, kc, la, lc, rfl, hlt, c0, c1, c2, c3, c4, hI, hBl⟩ := (hL.below HB.out (Nat.le_refl _)).at hj
   have HA : Hid (mn14 L j = (decide (L[j].params.length = 0) && decide (L[j].result = 0))) := by
    show _ = _
    unfold mn14; rw [<- hn, <- h1]
    have e1 : (j : Int).toNat = j := by omega
    rw [e1, List.getElem?_eq_getElem hj]; rfl
   clear h1 hn hL hI hBl c0 c2 c4 hm
   generalize mn14 L j = TT at HA ⊢
   generalize L[j].params.length = np at c1 HA
   generalize L[j].result = rs at c3 HA
   clear hj
   by_cases hp : np = 0
   ·subst hp
    by_cases hr : rs = 0
    ·subst hr
     go_enter Tryz.func61, Tryz.ntmps61
     go_wp2_with fail
     rw [<- hW]
     clear hW
     refine Calls.mono (H1.out W) ?_
     rintro e w1 ⟨rfl, rfl⟩
     go_wp2_with fail
     go_ret
     exact ⟨ret_blL (by rw [HA.out]; rfl), HB.out⟩
    ·have hr2 : (rs == 0) = false := by simp [hr]
     go_enter Tryz.func61, Tryz.ntmps61
     go_wp2_with fail
     rw [<- hW]
     clear hW
     refine Calls.mono (H1.out W) ?_
     rintro e w1 ⟨rfl, rfl⟩
     go_wp2_with fail
     go_ret
     exact ⟨ret_blL (by rw [HA.out]; simp [hr]), HB.out⟩
   ·have hp2 : ((np : Int) == 0) = false := by simp [hp]
    go_enter Tryz.func61, Tryz.ntmps61
    go_wp2_with fail
    rw [<- hW]
    clear hW
    refine Calls.mono (H1.out W) ?_
    rintro e w1 ⟨rfl, rfl⟩
    go_wp2_with fail
    go_ret
    exact ⟨ret_blL (by rw [HA.out]; simp [hp]), HB.out⟩
def cf14 (L : List Lf) (x : Li) : Bool := rgP L.length x.imm && match L[x.imm.toNat]? with
 | some f => decide (x.args.length = f.params.length) && (decide (x.dst = -1) || !decide (f.result = 0))
 | none => false
set_option maxRecDepth 10000 in
set_option maxHeartbeats 2000000 in
theorem callFits_no (w : World) {op dst imm : Int} {ka : Option Addr} {kl kc : Nat} {fa : Option Addr} {n fc : Nat} (h : rgP n imm = false) :
 Calls Tryz.prog 82 #[.agg #[.int .i64 op, .int .i64 dst, .int .i64 imm, .slice ka kl kc], .slice fa n fc] w fun e w' => e = .returned (.bool false) /\ Below w.heap.size w w' := by
 have H1 : Hid (∀ w', Calls Tryz.prog 77 #[.slice fa n fc, .int .i64 imm] w' fun e w'' => e = .returned (.bool false) /\ w'' = w') := fun w' => by rw [<- h]; exact within14F_any w' _ _ _ _
 have HB : Hid (Below w.heap.size w (w.alloc (.cells #[.int .i64 op, .int .i64 dst, .int .i64 imm, .slice ka kl kc] 147))) := below_newL _ _
 clear h
 go_enter Tryz.func82, Tryz.ntmps82
 go_wp2_with fail
 go_quiet (first | (go_at_call 77; exact Calls.quiet_of_same (H1.out _)))
 go_wp2_with fail
 go_ret
 exact ⟨rfl, by first | exact HB.out | exact HB.out.drew | exact below_drewN HB.out _⟩
set_option maxRecDepth 10000 in
set_option maxHeartbeats 2000000 in
theorem callFits_len (w : World) {op : Int} {dst rs : Int} {kl np : Nat} {ka la : Option Addr} {kc lc b o j n fc : Nat} (hj : j < n) (hn : n <= 9223372036854775807) (hb : b < w.heap.size) (c1 : w.cell? ⟨b, o + j * 5 + 1, none⟩ = some (.slice la np lc)) (c3 : w.cell? ⟨b, o + j * 5 + 3, none⟩ = some (.int .i64 rs)) (hl : ((kl : Int) == (np : Int)) = false) :
 Calls Tryz.prog 82 #[.agg #[.int .i64 op, .int .i64 dst, .int .i64 j, .slice ka kl kc], .slice (some ⟨b, o, none⟩) n fc] w fun e w' => e = .returned (.bool false) /\ Below w.heap.size w w' := by
 have H1 : Hid (∀ w', Calls Tryz.prog 77 #[.slice (some ⟨b, o, none⟩) n fc, .int .i64 j] w' fun e w'' => e = .returned (.bool true) /\ w'' = w') := fun w' => by
  have h : rgP n j = true := by unfold rgP; simp; omega
  rw [<- h]; exact within14F_any w' _ _ _ _
 have HB : Hid (Below w.heap.size w (w.alloc (.cells #[.int .i64 op, .int .i64 dst, .int .i64 j, .slice ka kl kc] 147))) := below_newL _ _
 go_enter Tryz.func82, Tryz.ntmps82
 go_wp2_with fail
 go_quiet (first | (go_at_call 77; exact Calls.quiet_of_same (H1.out _)))
 go_wp2_with fail
 go_ret
 exact ⟨rfl, by first | exact HB.out | exact HB.out.drew | exact below_drewN HB.out _⟩
set_option maxRecDepth 10000 in
set_option maxHeartbeats 2000000 in
theorem callFits_none (w : World) {op : Int} {rs : Int} {kl : Nat} {ka la : Option Addr} {kc lc b o j n fc : Nat} (hj : j < n) (hn : n <= 9223372036854775807) (hb : b < w.heap.size) (c1 : w.cell? ⟨b, o + j * 5 + 1, none⟩ = some (.slice la kl lc)) (c3 : w.cell? ⟨b, o + j * 5 + 3, none⟩ = some (.int .i64 rs)) (hl : ((kl : Int) == (kl : Int)) = true) :
 Calls Tryz.prog 82 #[.agg #[.int .i64 op, .int .i64 (-1), .int .i64 j, .slice ka kl kc], .slice (some ⟨b, o, none⟩) n fc] w fun e w' => e = .returned (.bool true) /\ Below w.heap.size w w' := by
 have H1 : Hid (∀ w', Calls Tryz.prog 77 #[.slice (some ⟨b, o, none⟩) n fc, .int .i64 j] w' fun e w'' => e = .returned (.bool true) /\ w'' = w') := fun w' => by
  have h : rgP n j = true := by unfold rgP; simp; omega
  rw [<- h]; exact within14F_any w' _ _ _ _
 have HB : Hid (Below w.heap.size w (w.alloc (.cells #[.int .i64 op, .int .i64 (-1), .int .i64 j, .slice ka kl kc] 147))) := below_newL _ _
 go_enter Tryz.func82, Tryz.ntmps82
 go_wp2_with fail
 go_quiet (first | (go_at_call 77; exact Calls.quiet_of_same (H1.out _)))
 go_wp2_with fail
 go_ret
 exact ⟨rfl, by first | exact HB.out | exact HB.out.drew | exact below_drewN HB.out _⟩
set_option maxRecDepth 10000 in
set_option maxHeartbeats 2000000 in
theorem callFits_dst (w : World) {op : Int} {dst rs : Int} {kl : Nat} {ka la : Option Addr} {kc lc b o j n fc : Nat} (hj : j < n) (hn : n <= 9223372036854775807) (hb : b < w.heap.size) (c1 : w.cell? ⟨b, o + j * 5 + 1, none⟩ = some (.slice la kl lc)) (c3 : w.cell? ⟨b, o + j * 5 + 3, none⟩ = some (.int .i64 rs)) (hl : ((kl : Int) == (kl : Int)) = true) (hd : (dst == -1) = false) (hr : (rs != 0) = true) :
 Calls Tryz.prog 82 #[.agg #[.int .i64 op, .int .i64 dst, .int .i64 j, .slice ka kl kc], .slice (some ⟨b, o, none⟩) n fc] w fun e w' => e = .returned (.bool true) /\ Below w.heap.size w w' := by
 have H1 : Hid (∀ w', Calls Tryz.prog 77 #[.slice (some ⟨b, o, none⟩) n fc, .int .i64 j] w' fun e w'' => e = .returned (.bool true) /\ w'' = w') := fun w' => by
  have h : rgP n j = true := by unfold rgP; simp; omega
  rw [<- h]; exact within14F_any w' _ _ _ _
 have HB : Hid (Below w.heap.size w (w.alloc (.cells #[.int .i64 op, .int .i64 dst, .int .i64 j, .slice ka kl kc] 147))) := below_newL _ _
 go_enter Tryz.func82, Tryz.ntmps82
 go_wp2_with fail
 go_quiet (first | (go_at_call 77; exact Calls.quiet_of_same (H1.out _)))
 go_wp2_with fail
 go_ret
 exact ⟨rfl, by first | exact HB.out | exact HB.out.drew | exact below_drewN HB.out _⟩
set_option maxRecDepth 10000 in
set_option maxHeartbeats 2000000 in
theorem callFits_bad (w : World) {op : Int} {dst : Int} {kl : Nat} {ka la : Option Addr} {kc lc b o j n fc : Nat} (hj : j < n) (hn : n <= 9223372036854775807) (hb : b < w.heap.size) (c1 : w.cell? ⟨b, o + j * 5 + 1, none⟩ = some (.slice la kl lc)) (c3 : w.cell? ⟨b, o + j * 5 + 3, none⟩ = some (.int .i64 0)) (hl : ((kl : Int) == (kl : Int)) = true) (hd : (dst == -1) = false) :
 Calls Tryz.prog 82 #[.agg #[.int .i64 op, .int .i64 dst, .int .i64 j, .slice ka kl kc], .slice (some ⟨b, o, none⟩) n fc] w fun e w' => e = .returned (.bool false) /\ Below w.heap.size w w' := by
 have H1 : Hid (∀ w', Calls Tryz.prog 77 #[.slice (some ⟨b, o, none⟩) n fc, .int .i64 j] w' fun e w'' => e = .returned (.bool true) /\ w'' = w') := fun w' => by
  have h : rgP n j = true := by unfold rgP; simp; omega
  rw [<- h]; exact within14F_any w' _ _ _ _
 have HB : Hid (Below w.heap.size w (w.alloc (.cells #[.int .i64 op, .int .i64 dst, .int .i64 j, .slice ka kl kc] 147))) := below_newL _ _
 go_enter Tryz.func82, Tryz.ntmps82
 go_wp2_with fail
 go_quiet (first | (go_at_call 77; exact Calls.quiet_of_same (H1.out _)))
 go_wp2_with fail
 go_ret
 exact ⟨rfl, by first | exact HB.out | exact HB.out.drew | exact below_drewN HB.out _⟩
theorem callFits_any (w : World) {x : Li} {ka : Option Addr} {kc : Nat} {fa : Option Addr} {n fc : Nat} {L : List Lf} (hL : Lfs w fa fc L) (hn : n = L.length) :
 Calls Tryz.prog 82 #[.agg #[.int .i64 x.op, .int .i64 x.dst, .int .i64 x.imm, .slice ka x.args.length kc], .slice fa n fc] w fun e w' => e = .returned (.bool (cf14 L x)) /\ Below w.heap.size w w' := by
 obtain ⟨op, dst, imm, A⟩ := x
 simp only
 cases h1 : rgP n imm with
 | false =>
   have e0 : cf14 L ⟨op, dst, imm, A⟩ = false := by unfold cf14; simp only; rw [<- hn, h1]; rfl
   rw [e0]; exact callFits_no w h1
 | true =>
   have hm : 0 <= imm /\ imm < n := by unfold rgP at h1; simpa using h1
   obtain ⟨j, rfl⟩ : ∃ j : Nat, imm = j := ⟨imm.toNat, by omega⟩
   have hj : j < L.length := by omega
   have hmx : n <= 9223372036854775807 := by have := hL.le; have := hL.mx; omega
   obtain ⟨b, o, la, lc, _, _, rfl, hlt, _, c1, _, c3, _, _, _⟩ := hL.at hj
   have e0 : cf14 L ⟨op, dst, j, A⟩ = (decide (A.length = L[j].params.length) && (decide (dst = -1) || !decide (L[j].result = 0))) := by
    unfold cf14; simp only; rw [<- hn, h1]
    have e1 : (j : Int).toNat = j := by omega
    rw [e1, List.getElem?_eq_getElem hj]; rfl
   rw [e0]
   generalize L[j].params.length = np at c1 ⊢
   generalize L[j].result = rs at c3 ⊢
   generalize A.length = kl
   by_cases hl : kl = np
   ·subst hl
    have hq : ((kl : Int) == (kl : Int)) = true := by simp
    by_cases hd : dst = -1
    ·subst hd
     have : (decide (kl = kl) && (decide ((-1 : Int) = -1) || !decide (rs = 0))) = true := by simp
     rw [this]; exact callFits_none w (by omega) hmx hlt c1 c3 hq
    ·have hd2 : (dst == -1) = false := by simp [hd]
     by_cases hr : rs = 0
     ·subst hr
      have : (decide (kl = kl) && (decide (dst = -1) || !decide ((0 : Int) = 0))) = false := by simp [hd]
      rw [this]; exact callFits_bad w (by omega) hmx hlt c1 c3 hq hd2
     ·have : (decide (kl = kl) && (decide (dst = -1) || !decide (rs = 0))) = true := by simp [hr]
      rw [this]; exact callFits_dst w (by omega) hmx hlt c1 c3 hq hd2 (by simp [hr])
   ·have : (decide (kl = np) && (decide (dst = -1) || !decide (rs = 0))) = false := by simp [hl]
    rw [this]; exact callFits_len w (by omega) hmx hlt c1 c3 (by simp; omega)
end Go.Proofs.YtegoemeefmjnoaaGreatDoor
