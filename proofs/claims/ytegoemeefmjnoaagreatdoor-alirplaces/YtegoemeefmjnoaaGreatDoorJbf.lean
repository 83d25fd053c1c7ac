import Derived.Laws.CopyOwn
import Derived.Test.YtegoemeefmjnoaaGreatDoorJaa
import Derived.Test.YtegoemeefmjnoaaGreatDoorJbe
set_option linter.unusedVariables false
set_option linter.unusedSimpArgs false
namespace Go.Proofs.YtegoemeefmjnoaaGreatDoor
open Go.ChangeShapes Go.WideShapes Go.ChangeAt Go.RowKit
def ci14 (L : List Lf) (x : Li) : Bool := !decide (x.op = 25) || cf14 L x
def cs14 (L : List Lf) (b : Lb) : Bool := b.body.all (ci14 L)
set_option maxRecDepth 10000 in
set_option maxHeartbeats 2000000 in
theorem callsFit_at (w : World) {s : ByteArray} {pa : Option Addr} {pn pc : Nat} {rg rs : Int} {ba : Option Addr} {bn bc : Nat} {fa : Option Addr} {fn fc : Nat} {L : List Lf} {B : List Lb} (hL : Lfs w fa fc L) (hfn : fn = L.length) (hB : Lbs w ba bc B) (hbn : bn = B.length) : Calls Tryz.prog 63 #[.agg #[.string s, .slice pa pn pc, .int .i64 rg, .int .i64 rs, .slice ba bn bc], .slice fa fn fc] w fun e w' => e = .returned (.bool (B.all (cs14 L))) /\ Below w.heap.size w w' := by
 obtain ⟨W, hW⟩ : ∃ W, W = w.alloc (.cells #[.string s, .slice pa pn pc, .int .i64 rg, .int .i64 rs, .slice ba bn bc] 125) := ⟨_, rfl⟩
 have hT : One14 w (.cells #[.string s, .slice pa pn pc, .int .i64 rg, .int .i64 rs, .slice ba bn bc] 125) W := by rw [hW]; exact One14.start _ _
 have HT : Hid (One14 w (.cells #[.string s, .slice pa pn pc, .int .i64 rg, .int .i64 rs, .slice ba bn bc] 125) W) := hT
 have hkc : bn <= bc /\ bc <= 9223372036854775807 := by have := hB.le; have := hB.mx; omega
 obtain ⟨hk1, hk2⟩ := hkc
 have HN : Hid (bn = B.length) := hbn
 have HL : Hid (Lbs w ba bc B) := hB
 obtain ⟨T4, h4⟩ : ∃ T, T = B.all (cs14 L) := ⟨_, rfl⟩
 have HF : Hid (∀ w', Below w.heap.size w w' -> ∀ (x : Li) (ka : Option Addr) (kc : Nat), Calls Tryz.prog 82 #[.agg #[.int .i64 x.op, .int .i64 x.dst, .int .i64 x.imm, .slice ka x.args.length kc], .slice fa fn fc] w' fun e w'' => e = .returned (.bool (cf14 L x)) /\ Below w'.heap.size w' w'') := fun w' hb x ka kc => callFits_any w' (hL.below hb (Nat.le_refl _)) hfn
 rw [<- h4]
 have H4 : Hid (T4 = B.all (cs14 L)) := h4
 have f0 : W.cell? ⟨w.heap.size, 0, none⟩ = some (.string s) := cell_arr hT.one rfl
 have f1 : W.cell? ⟨w.heap.size, 1, none⟩ = some (.slice pa pn pc) := cell_arr hT.one rfl
 have f2 : W.cell? ⟨w.heap.size, 2, none⟩ = some (.int .i64 rg) := cell_arr hT.one rfl
 have f3 : W.cell? ⟨w.heap.size, 3, none⟩ = some (.int .i64 rs) := cell_arr hT.one rfl
 have f4 : W.cell? ⟨w.heap.size, 4, none⟩ = some (.slice ba bn bc) := cell_arr hT.one rfl
 clear h4 hbn hfn hL hB hT
 go_enter Tryz.func63, Tryz.ntmps63
 go_wp2_with fail
 rw [<- hW]
 clear hW
 go_loopw [12] (fun v wr => ∃ k : Nat, k <= bn /\ v = .int .i64 k /\ Hid (∀ i (h : i < B.length), i < k -> cs14 L B[i] = true) /\ Hid (One14 w (.cells #[.string s, .slice pa pn pc, .int .i64 rg, .int .i64 rs, .slice ba bn bc] 125) wr)) (fun v _ => bn - (intOf v).toNat)
 case atStart => exact ⟨0, by omega, rfl, fun i _ h => by omega, HT.out⟩
 case round =>
  clear f0 f1 f2 f3 f4 HT
  obtain ⟨k, hk, rfl, HE, HO⟩ := hrel
  obtain ⟨wq, rfl⟩ : ∃ wq, wq = wr := ⟨_, rfl⟩
  have f0 : wq.cell? ⟨w.heap.size, 0, none⟩ = some (.string s) := cell_arr HO.out.one rfl
  have f1 : wq.cell? ⟨w.heap.size, 1, none⟩ = some (.slice pa pn pc) := cell_arr HO.out.one rfl
  have f2 : wq.cell? ⟨w.heap.size, 2, none⟩ = some (.int .i64 rg) := cell_arr HO.out.one rfl
  have f3 : wq.cell? ⟨w.heap.size, 3, none⟩ = some (.int .i64 rs) := cell_arr HO.out.one rfl
  have f4 : wq.cell? ⟨w.heap.size, 4, none⟩ = some (.slice ba bn bc) := cell_arr HO.out.one rfl
  by_cases hlt : k < bn
  ·have hk3 : k < B.length := by have := HN.out; omega
   have hk3' : ((k : Int) < bn) := by omega
   have HLb : Hid _ := (HL.out.below HO.out.low (Nat.le_refl _))
   obtain ⟨b, o, ka, kc, la, lc, rfl, hb, c0, c1, c2, c3, hBo, hWa⟩ := HLb.out.at hk3
   have HBo : Hid _ := hBo
   clear hBo hWa HLb
   obtain ⟨X, hX⟩ : ∃ X, X = B[k] := ⟨_, rfl⟩
   rw [<- hX] at c0 c1 c2 c3 HBo
   obtain ⟨nb, hnb⟩ : ∃ nb, nb = X.body.length := ⟨_, rfl⟩
   generalize X.ways.length = nw at c3
   generalize X.kind = xk at c1
   generalize X.val = xv at c2
   rw [<- hnb] at c0
   have HX : Hid (X = B[k]) := hX
   have HNB : Hid (nb = X.body.length) := hnb
   have hkb : nb <= 9223372036854775807 := by have := HBo.out.le; have := HBo.out.mx; omega
   clear hX hnb
   obtain ⟨W5, hW5⟩ : ∃ W5, W5 = wq.alloc (.cells #[.slice ka nb kc, .int .i64 xk, .int .i64 xv, .slice la nw lc] 134) := ⟨_, rfl⟩
   have HB5 : Hid (Bx14 w wq (.cells #[.string s, .slice pa pn pc, .int .i64 rg, .int .i64 rs, .slice (some ⟨b, o, none⟩) bn bc] 125) (.cells #[.slice ka nb kc, .int .i64 xk, .int .i64 xv, .slice la nw lc] 134) W5) := by
    show Bx14 w wq _ _ W5
    rw [hW5]; exact Bx14.start HO.out _
   go_wp2_with fail
   rw [<- hW5]
   clear hW5 c0 c1 c2 c3 f0 f1 f2 f3 f4
   go_loopw [19] (fun v wr => ∃ j : Nat, j <= nb /\ v = .int .i64 j /\ Hid (∀ i (h : i < X.body.length), i < j -> ci14 L X.body[i] = true) /\ Hid (Bx14 w wq (.cells #[.string s, .slice pa pn pc, .int .i64 rg, .int .i64 rs, .slice (some ⟨b, o, none⟩) bn bc] 125) (.cells #[.slice ka nb kc, .int .i64 xk, .int .i64 xv, .slice la nw lc] 134) wr)) (fun v _ => nb - (intOf v).toNat)
   case atStart => exact ⟨0, by omega, rfl, fun i _ h => by omega, HB5.out⟩
   case round =>
    clear HB5
    obtain ⟨j, hj, rfl, HE2, HO2⟩ := hrel
    obtain ⟨wp, rfl⟩ : ∃ wp, wp = wr := ⟨_, rfl⟩
    have f0 : wp.cell? ⟨w.heap.size, 0, none⟩ = some (.string s) := cell_arr HO2.out.one.one rfl
    have f1 : wp.cell? ⟨w.heap.size, 1, none⟩ = some (.slice pa pn pc) := cell_arr HO2.out.one.one rfl
    have f2 : wp.cell? ⟨w.heap.size, 2, none⟩ = some (.int .i64 rg) := cell_arr HO2.out.one.one rfl
    have f3 : wp.cell? ⟨w.heap.size, 3, none⟩ = some (.int .i64 rs) := cell_arr HO2.out.one.one rfl
    have f4 : wp.cell? ⟨w.heap.size, 4, none⟩ = some (.slice (some ⟨b, o, none⟩) bn bc) := cell_arr HO2.out.one.one rfl
    have d0 : wp.cell? ⟨wq.heap.size, 0, none⟩ = some (.slice ka nb kc) := cell_arr HO2.out.two rfl
    have d1 : wp.cell? ⟨wq.heap.size, 1, none⟩ = some (.int .i64 xk) := cell_arr HO2.out.two rfl
    have d2 : wp.cell? ⟨wq.heap.size, 2, none⟩ = some (.int .i64 xv) := cell_arr HO2.out.two rfl
    have d3 : wp.cell? ⟨wq.heap.size, 3, none⟩ = some (.slice la nw lc) := cell_arr HO2.out.two rfl
    have hs1 : w.heap.size < wp.heap.size := (gl HO2.out.one.one)
    have hs2 : wq.heap.size < wp.heap.size := (gl HO2.out.two)
    by_cases hjt : j < nb
    ·have hj3 : j < X.body.length := by have := HNB.out; omega
     have HLi : Hid _ := (HBo.out.below HO2.out.low (Nat.le_refl _))
     obtain ⟨xb, xo, xa, xc, rfl, hxb, y0, y1, y2, y3, hAr⟩ := HLi.out.at hj3
     have HI : Hid (∀ w', Below wp.heap.size wp w' -> Calls Tryz.prog 82 #[.agg #[.int .i64 X.body[j].op, .int .i64 X.body[j].dst, .int .i64 X.body[j].imm, .slice xa X.body[j].args.length xc], .slice fa fn fc] w' fun e w'' => e = .returned (.bool (cf14 L X.body[j])) /\ Below w'.heap.size w' w'') := fun w' hb => HF.out w' (HO2.out.one.low.trans (hb.mono HO2.out.one.low.size)) X.body[j] xa xc
     have HA : Hid (ci14 L X.body[j] = false -> T4 = false) := fun h => by
      rw [H4.out, List.all_eq_false]
      refine ⟨B[k], List.getElem_mem hk3, ?_⟩
      rw [<- HX.out]; unfold cs14
      have : X.body.all (ci14 L) = false := by
       rw [List.all_eq_false]; exact ⟨_, List.getElem_mem hj3, by simp [h]⟩
      simp [this]
     have HB : Hid (ci14 L X.body[j] = true -> ∀ i (h : i < X.body.length), i < j + 1 -> ci14 L X.body[i] = true) := fun h i h1 h2 => by
      rcases Nat.lt_succ_iff_lt_or_eq.1 h2 with q | rfl
      ·exact HE2.out i h1 q
      ·exact h
     have HQ : Hid (ci14 L X.body[j] = (!decide (X.body[j].op = 25) || cf14 L X.body[j])) := rfl
     clear HE2 hAr HLi
     generalize ci14 L X.body[j] = TC at HA HB HQ
     generalize cf14 L X.body[j] = TI at HI HQ
     generalize X.body[j].op = i0 at HI y0 HQ
     generalize X.body[j].dst = i1 at HI y1
     generalize X.body[j].imm = i2 at HI y2
     generalize X.body[j].args.length = i3 at HI y3
     obtain ⟨W6, hW6⟩ : ∃ W6, W6 = wp.alloc (.cells #[.int .i64 i0, .int .i64 i1, .int .i64 i2, .slice xa i3 xc] 147) := ⟨_, rfl⟩
     have HB6 : Hid (Below wp.heap.size wp W6) := by
      show Below _ _ _
      rw [hW6]; exact below_newL _ _
     by_cases hop : i0 = 25
     ·subst hop
      have HQ2 : Hid (TC = TI) := by show _ = _; rw [HQ.out]; simp
      clear HQ
      go_wp2_with fail
      rw [<- hW6]
      clear hW6
      refine Calls.mono (HI.out W6 HB6.out) ?_
      rintro e w7 ⟨rfl, hb7⟩
      have HO7 : Hid _ := HO2.out.next (HB6.out.trans (hb7.mono HB6.out.size))
      clear hb7 f0 f1 f2 f3 f4 d0 d1 d2 d3 y0 y1 y2 y3
      cases TI with
      | false =>
        have HA2 : Hid _ := HA.out HQ2.out
        clear HA HB HQ2
        go_wp2_with fail
        go_ret
        exact ⟨ret_blL HA2.out.symm, HO7.out.one.low⟩
      | true =>
        have HB2 : Hid _ := HB.out HQ2.out
        clear HA HB HQ2
        go_wp2_with fail
        go_roundw
        case rel => exact ⟨j + 1, by omega, by go_num, HB2.out, HO7.out⟩
        case measure => simp [intOf]; omega
     ·have hop2 : (i0 == 25) = false := by simp [hop]
      have HB2 : Hid _ := HB.out (by rw [HQ.out]; simp [hop])
      have HO7 : Hid _ := HO2.out.next HB6.out
      clear HA HB HQ HI HF
      go_wp2_with fail
      rw [<- hW6]
      clear hW6 f0 f1 f2 f3 f4 d0 d1 d2 d3 y0 y1 y2 y3
      go_roundw
      case rel => exact ⟨j + 1, by omega, by go_num, HB2.out, HO7.out⟩
      case measure => simp [intOf]; omega
    ·have HB2 : Hid (∀ i (h : i < B.length), i < k + 1 -> cs14 L B[i] = true) := fun i h1 h2 => by
      rcases Nat.lt_succ_iff_lt_or_eq.1 h2 with q | rfl
      ·exact HE.out i h1 q
      ·rw [<- HX.out]; unfold cs14
       rw [List.all_eq_true]
       intro x hx
       obtain ⟨i', hi, rfl⟩ := List.getElem_of_mem hx
       exact HE2.out i' hi (by have := HNB.out; omega)
     clear HE HE2
     go_wp2_with fail
     go_roundw
     case rel => exact ⟨k + 1, by omega, by go_num, HB2.out, HO2.out.one⟩
     case measure => simp [intOf]; omega
  ·have HA : Hid (T4 = true) := by
    show _ = _
    rw [H4.out, List.all_eq_true]
    intro x hx
    obtain ⟨i, hi, rfl⟩ := List.getElem_of_mem hx
    exact HE.out i hi (by have := HN.out; omega)
   go_wp2_with fail
   go_ret
   exact ⟨ret_blL HA.out.symm, HO.out.low⟩
def ns : Bool -> Nat -> List UInt8 -> Option (Nat × Nat)
 | _, v, [] => some (v, 0)
 | s, v, c :: l => if cl c = 7 then (if (s = true /\ v = 0) \/ (9223372036854775807 - (c.toNat - 48)) / 10 < v then none else (ns true (10 * v + (c.toNat - 48)) l).map fun p => (p.1, p.2 + 1)) else some (v, 0)
theorem valOf_ge (l : List UInt8) : ∀ v : Nat, v <= valOf v l := by
 induction l with
 | nil => intro v; simp [valOf]
 | cons c l ih =>
   intro v
   have := ih (10 * v + (c.toNat - 48))
   simp only [valOf, List.foldl_cons] at this ⊢
   omega
theorem ns_pos (l : List UInt8) : ∀ v : Nat, 0 < v -> v <= 9223372036854775807 -> ns true v l = if 9223372036854775807 < valOf v (l.takeWhile isDg) then none else some (valOf v (l.takeWhile isDg), (l.takeWhile isDg).length) := by
 induction l with
 | nil => intro v h0 h1; show some (v, 0) = if 9223372036854775807 < v then none else some (v, 0); rw [if_neg (by omega)]
 | cons c l ih =>
   intro v h0 h1
   by_cases hc : cl c = 7
   ·have hr : 48 <= c.toNat /\ c.toNat <= 57 := by have := cl_cases c; omega
    have hd : isDg c = true := by simp [isDg, hc]
    have hv : v ≠ 0 := by omega
    simp only [ns, hc, if_true, List.takeWhile_cons, hd, List.length_cons]
    have e : valOf v (c :: List.takeWhile isDg l) = valOf (10 * v + (c.toNat - 48)) (l.takeWhile isDg) := rfl
    rw [e]
    by_cases hq : (9223372036854775807 - (c.toNat - 48)) / 10 < v
    ·have := valOf_ge (l.takeWhile isDg) (10 * v + (c.toNat - 48))
     rw [if_pos (.inr hq), if_pos (by omega)]
    ·rw [if_neg (by omega), ih _ (by omega) (by omega)]
     split <;> simp
   ·have hd : isDg c = false := by simp [isDg, hc]
    simp only [ns, hc, if_false, List.takeWhile_cons, hd, Bool.false_eq_true]
    show some (v, 0) = if 9223372036854775807 < v then none else some (v, 0)
    rw [if_neg (by omega)]
theorem ns_eq (l : List UInt8) : ns false 0 l = (numVal (l.takeWhile isDg)).map fun v => (v, (l.takeWhile isDg).length) := by
 cases l with
 | nil => simp [ns, numVal, valOf]
 | cons c l =>
   by_cases hc : cl c = 7
   ·have hr : 48 <= c.toNat /\ c.toNat <= 57 := by have := cl_cases c; omega
    have hd : isDg c = true := by simp [isDg, hc]
    simp only [ns, hc, if_true, List.takeWhile_cons, hd, List.length_cons]
    rw [if_neg (by simp)]
    have e : valOf 0 (c :: List.takeWhile isDg l) = valOf (c.toNat - 48) (l.takeWhile isDg) := by simp [valOf]
    rw [show 10 * 0 + (c.toNat - 48) = c.toNat - 48 by omega]
    by_cases h0 : c = 48
    ·subst h0
     cases l with
     | nil => simp [ns, numVal, valOf]
     | cons d l =>
       by_cases hd' : cl d = 7
       ·have hd2 : isDg d = true := by simp [isDg, hd']
        simp [ns, numVal, hd', hd2]
       ·have hd2 : isDg d = false := by simp [isDg, hd']
        simp [ns, numVal, hd', hd2, valOf]
    ·have h1 : c.toNat ≠ 48 := fun e => h0 (UInt8.toNat_inj.1 e)
     rw [ns_pos l _ (by omega) (by omega)]
     simp only [numVal, e, List.head?_cons]
     have h2 : ¬ (some c = some (48 : UInt8)) := fun e => h0 (Option.some.inj e)
     simp only [h2, and_false, false_or]
     split <;> simp
   ·have hd : isDg c = false := by simp [isDg, hc]
    simp [ns, hc, hd, numVal, valOf]
def TokRes (r : Except Nat (Tk × Nat)) (k : Nat) (e : Ending) : Prop :=
 match r with
 | .error er => ∃ z : Int, e = .returned (.tuple #[tz, .int .i64 z, .int .i64 (er : Int)])
 | .ok p => e = .returned (.tuple #[tv p.1 k, .int .i64 ((k + p.2 : Nat) : Int), .int .i64 0])
def numS (s : Bool) (v : Nat) (l : List UInt8) (d : Nat) : Except Nat (Tk × Nat) := match ns s v l with | none => .error 22 | some p => .ok (⟨2, p.1, []⟩, d + p.2)
theorem numS_next {L : List UInt8} {j k v : Nat} {x : UInt8} {r : Except Nat (Tk × Nat)} (H : numS (decide (k < j)) v (L.drop j) (j - k) = r) (hk : k <= j) (HD : L.drop j = x :: L.drop (j + 1)) (hc : cl x = 7)
 (h1 : ¬ (k < j /\ v = 0)) (h2 : ¬ (9223372036854775807 - (x.toNat - 48)) / 10 < v) : numS (decide (k < j + 1)) (10 * v + (x.toNat - 48)) (L.drop (j + 1)) (j + 1 - k) = r := by
 rw [<- H, HD]
 have e : decide (k < j + 1) = true := by simp; omega
 rw [e]
 simp only [numS, ns, hc, if_true]
 rw [if_neg (by simp only [decide_eq_true_eq]; intro h; rcases h with h | h; exact h1 h; exact h2 h)]
 cases ns true (10 * v + (x.toNat - 48)) (L.drop (j + 1)) with
 | none => rfl
 | some p => simp; omega
theorem numS_stop {L : List UInt8} {j k v : Nat} {x : UInt8} {r : Except Nat (Tk × Nat)} (H : numS (decide (k < j)) v (L.drop j) (j - k) = r) (HD : L.drop j = x :: L.drop (j + 1)) (hc : cl x ≠ 7) : r = .ok (⟨2, v, []⟩, j - k) := by
 rw [<- H, HD]; simp [numS, ns, hc]
theorem numS_end {L : List UInt8} {j k v : Nat} {r : Except Nat (Tk × Nat)} (H : numS (decide (k < j)) v (L.drop j) (j - k) = r) (hj : L.length <= j) : r = .ok (⟨2, v, []⟩, j - k) := by
 rw [<- H, List.drop_of_length_le hj]; simp [numS, ns]
theorem numS_bad {L : List UInt8} {j k v : Nat} {x : UInt8} {r : Except Nat (Tk × Nat)} (H : numS (decide (k < j)) v (L.drop j) (j - k) = r) (HD : L.drop j = x :: L.drop (j + 1)) (hc : cl x = 7)
 (h : (k < j /\ v = 0) \/ (9223372036854775807 - (x.toNat - 48)) / 10 < v) : r = .error 22 := by
 rw [<- H, HD]; simp only [numS, ns, hc, if_true]; rw [if_pos (by simpa using h)]
theorem ret_three {a b : Value} {c d : Int} {e f : Int} (h1 : a = b) (h2 : c = d) (h3 : e = f) : Ending.returned (.tuple #[a, .int .i64 c, .int .i64 e]) = .returned (.tuple #[b, .int .i64 d, .int .i64 f]) := by rw [h1, h2, h3]
set_option maxHeartbeats 1000000 in
theorem number_any (w : World) (b o cap : Nat) (L : List UInt8) (hA : At w b o L) (hm : L.length <= 9223372036854775807) (k : Nat) (hk : k <= L.length) (r : Except Nat (Tk × Nat)) (hr : numS false 0 (L.drop k) 0 = r) :
 Calls Tryz.prog 132 #[.slice (some ⟨b, o, none⟩) L.length cap, .int .i64 k] w fun e w' => TokRes r k e /\ Below w.heap.size w w' := by
 have HR : Hid (numS (decide (k < k)) 0 (L.drop k) (k - k) = r) := by
  have e0 : decide (k < k) = false := by simp
  rw [e0, Nat.sub_self]; exact hr
 clear hr
 obtain ⟨n, hn⟩ : ∃ n, n = L.length := ⟨_, rfl⟩
 rw [<- hn] at hm hk ⊢
 have HN : Hid (n = L.length) := hn
 clear hn
 have hb := hA.1
 have HA : Hid (At w b o L) := hA
 clear hA
 go_enter Tryz.func132, Tryz.ntmps132
 go_wp2
 go_step3
 go_wp2
 go_step3
 go_wp2
 go_loop [7, 8] (fun z v => ∃ j y : Nat, k <= j /\ j <= n /\ y <= 9223372036854775807 /\ z = .int .i64 y /\ v = .int .i64 j /\ Hid (numS (decide (k < j)) y (L.drop j) (j - k) = r)) (fun _ v => n - (intOf v).toNat)
 case atStart => exact ⟨k, 0, by omega, hk, by omega, rfl, rfl, HR⟩
 case round =>
  obtain ⟨j, y, hkj, hj, hy, rfl, rfl, HJ⟩ := hrel
  by_cases hlt : j < n
  ·obtain ⟨x, hx⟩ : ∃ x, x = L[j]'(HN.out ▸ hlt) := ⟨_, rfl⟩
   have hcell := HA.out.2 j (HN.out ▸ hlt)
   rw [<- hx] at hcell
   have HD : Hid (L.drop j = x :: L.drop (j + 1)) := by rw [hx]; exact List.drop_eq_getElem_cons _
   clear hx
   by_cases hcl : cl x = 7
   ·have hr : 48 <= x.toNat /\ x.toNat <= 57 := by have := cl_cases x; omega
    obtain ⟨hr1, hr2⟩ := hr
    by_cases h1 : k < j /\ y = 0
    ·have HB : Hid ((k < j /\ y = 0) \/ (9223372036854775807 - (x.toNat - 48)) / 10 < y) := .inl h1
     obtain ⟨h1, rfl⟩ := h1
     go_wp2_with (go_at_call 129; refine (cls_any _ _).mono ?_; rintro e w' ⟨rfl, rfl⟩)
     (try rw [Exit.noGoto_ret])
     refine bodyPost_ret (v := .tuple #[tz, .int .i64 0, .int .i64 22]) (by simp [results, Tryz.results132, go_sem, tz]; rfl) rfl ⟨?_, (Below.refl _ _).alloc (Nat.le_refl _) _⟩
     rw [numS_bad HJ.out HD.out hcl (by first | exact HB.out | exact .inl ⟨by omega, rfl⟩)]
     exact ⟨0, rfl⟩
    ·have H1 : Hid (¬ (k < j /\ y = 0)) := h1
     have h5 : ¬ k < j \/ (k < j /\ ¬ y = 0) := by omega
     clear h1
     by_cases h2 : (9223372036854775807 - (x.toNat - 48)) / 10 < y
     ·have HB : Hid ((k < j /\ y = 0) \/ (9223372036854775807 - (x.toNat - 48)) / 10 < y) := .inr h2
      rcases h5 with h3 | ⟨h3, h4⟩
      all_goals
       go_wp2_with (go_at_call 129; refine (cls_any _ _).mono ?_; rintro e w' ⟨rfl, rfl⟩)
       (try rw [Exit.noGoto_ret])
       refine bodyPost_ret (v := .tuple #[tz, .int .i64 0, .int .i64 22]) (by simp [results, Tryz.results132, go_sem, tz]; rfl) rfl ⟨?_, (Below.refl _ _).alloc (Nat.le_refl _) _⟩
       rw [numS_bad HJ.out HD.out hcl (by first | exact HB.out | exact .inl ⟨by omega, rfl⟩)]
       exact ⟨0, rfl⟩
     ·have H3 : Hid (numS (decide (k < j + 1)) (10 * y + (x.toNat - 48)) (L.drop (j + 1)) (j + 1 - k) = r) := numS_next HJ.out hkj HD.out hcl H1.out h2
      rcases h5 with h3 | ⟨h3, h4⟩
      all_goals
       go_wp2_with (go_at_call 129; refine (cls_any _ _).mono ?_; rintro e w' ⟨rfl, rfl⟩)
       go_round
       case rel => exact ⟨j + 1, 10 * y + (x.toNat - 48), by omega, by omega, by omega, by go_num, by go_num, H3⟩
       case measure => simp [intOf]; omega
   ·have hcl2 : cl x = 6 \/ cl x = 4 \/ cl x = 12 \/ cl x = 8 \/ cl x = 0 := by have := cl_cases x; omega
    have HC : Hid (cl x ≠ 7) := hcl
    clear hcl
    rcases hcl2 with hcl | hcl | hcl | hcl | hcl
    all_goals
     go_wp2_with (go_at_call 129; refine (cls_any _ _).mono ?_; rintro e w' ⟨rfl, rfl⟩)
     (try rw [Exit.noGoto_ret])
     refine bodyPost_ret (v := .tuple #[.agg #[.int .i64 2, .int .i64 k, .int .i64 y, .string .empty], .int .i64 j, .int .i64 0]) (by simp [results, Tryz.results132, go_sem]; rfl) rfl ⟨?_, (Below.refl _ _).alloc (Nat.le_refl _) _⟩
     rw [numS_stop HJ.out HD.out HC.out]
     exact ret_three rfl (by omega) rfl
  ·go_wp2
   (try rw [Exit.noGoto_ret])
   refine bodyPost_ret (v := .tuple #[.agg #[.int .i64 2, .int .i64 k, .int .i64 y, .string .empty], .int .i64 j, .int .i64 0]) (by simp [results, Tryz.results132, go_sem]; rfl) rfl ⟨?_, (Below.refl _ _).alloc (Nat.le_refl _) _⟩
   rw [numS_end HJ.out (by have := HN.out; omega)]
   exact ret_three rfl (by omega) rfl
theorem At.alloc {w b o M} (h : At w b o M) (ob : Obj) : At (w.alloc ob) b o M :=
 ⟨by have := h.1; simp; omega, fun i hi => by rw [World.cell?_alloc_past ob b (o + i) h.1]; exact h.2 i hi⟩
theorem Tab.alloc {w} (h : Tab w) (ob : Obj) : Tab (w.alloc ob) := by
 obtain ⟨h1, h2, h3⟩ := h
 exact ⟨by simp; omega, fun i hi => by rw [World.cell?_alloc_past ob _ i (by omega)]; exact h2 i hi, fun i hi => by rw [World.cell?_alloc_past ob _ i (by omega)]; exact h3 i hi⟩
theorem Tab.below {w w' B} (h : Tab w) (hb : Below B w w') (hB : 2 <= B) : Tab w' := by
 obtain ⟨h1, h2, h3⟩ := h
 have := hb.size
 exact ⟨by omega, fun i hi => by rw [hb.cell (p := ⟨1, i, none⟩) (by show 1 < B; omega)]; exact h2 i hi, fun i hi => by rw [hb.cell (p := ⟨0, i, none⟩) (by show 0 < B; omega)]; exact h3 i hi⟩
theorem At.below {w w' b o M B} (h : At w b o M) (hb : Below B w w') (hB : b < B) : At w' b o M :=
 ⟨by have := h.1; have := hb.size; omega, fun i hi => by rw [hb.cell (by exact hB)]; exact h.2 i hi⟩
theorem Txt.below {w w' ao cap L B} (h : Txt w ao cap L) (hb : Below B w w') (hB : w.heap.size <= B) : Txt w' ao cap L :=
 ⟨h.1, h.2.1, fun hn => by obtain ⟨b, o, e, hA⟩ := h.2.2 hn; exact ⟨b, o, e, hA.below hb (by have := hA.1; omega)⟩⟩
theorem nameTok_at (w : World) (hT : Tab w) (S : List UInt8) (s : ByteArray) (hs : s = bs S) (k : Int) (t : Tk) (ht : nameTk S = t) :
 Calls Tryz.prog 136 #[.string s, .int .i64 k] w fun e w' => e = .returned (.agg #[.int .i64 t.kind, .int .i64 k, .int .i64 t.val, .string (bs t.name)]) /\ Below w.heap.size w w' := by
 subst hs ht
 exact nameTok_any w hT S k
theorem info33 : (Tryz.prog.info? 163).map (·.size) = some 4 := by kernel_rfl
theorem wpList_store_tok {ops : Array Oper} {rest : List Oper} {o : Oper} {a : Act} {w : World} {Q : Exit -> Act -> World -> Prop} (hgd : o.guard = none) (x y : Operand) (ho : o.op = .store 163 x y)
 (g : Nat) (c0 c1 c2 : Int) (s : ByteArray) (hx : a.eval x = .pointer (some ⟨g, 0, none⟩)) (hy : a.eval y = .agg #[.int .i64 c0, .int .i64 c1, .int .i64 c2, .string s])
 (old : Array Value) (hg : w.heap[g]? = some (.cells old 163 (0, 0))) (hold : old.size = 4)
 (h : wpList Tryz.prog ops Q rest (a.put o.dst undef) (w.setRow g #[.int .i64 c0, .int .i64 c1, .int .i64 c2, .string s])) : wpList Tryz.prog ops Q (o :: rest) a w :=
 wpList_store_row hgd 163 x y ho g #[.int .i64 c0, .int .i64 c1, .int .i64 c2, .string s] hx hy 163 old hg info33 hold (by simp [Value.oneCell']) h
theorem results_tok {fn : Func} {p q r : Tmp} (h : fn.results = #[.cell p 163, .tmp q, .tmp r]) (tmps : Array Value) (w : World) (g : Nat) (t : TypeId) (cs : Array Value) (fr : Nat × Nat) (v1 v2 : Value)
 (hp : tmps.getD p undef = .pointer (some ⟨g, 0, none⟩)) (hq : tmps.getD q undef = v1) (hr : tmps.getD r undef = v2) (hg : w.heap[g]? = some (.cells cs t fr)) (hi : cs.size = 4) :
 (results fn tmps).run Tryz.prog w = .ok (.tuple #[.agg cs, v1, v2]) w := by
 have hp' : tmps[p]?.getD undef = .pointer (some ⟨g, 0, none⟩) := by simpa using hp
 have hq' : tmps[q]?.getD undef = v1 := by simpa using hq
 have hr' : tmps[r]?.getD undef = v2 := by simpa using hr
 simp [results, h, hp', hq', hr', asAddr, run_loadVar_row w g t 163 cs fr _ hg Tryz.underlying163 rfl (by rw [hi]; exact info33)]
theorem take_while_len {L : List UInt8} (p : UInt8 -> Bool) : L.takeWhile p = L.take (L.takeWhile p).length := by
 induction L with
 | nil => rfl
 | cons c l ih => by_cases h : p c = true <;> simp [h]; exact ih
theorem row_next {L : List UInt8} {j k N : Nat} {x : UInt8} {p : UInt8 -> Bool} (H : j - k + ((L.drop j).takeWhile p).length = N) (hk : k <= j) (HD : L.drop j = x :: L.drop (j + 1)) (hc : p x = true) : j + 1 - k + ((L.drop (j + 1)).takeWhile p).length = N := by
 rw [HD] at H
 simp [hc] at H
 omega
theorem row_stop {L : List UInt8} {j k N : Nat} {x : UInt8} {p : UInt8 -> Bool} (H : j - k + ((L.drop j).takeWhile p).length = N) (HD : L.drop j = x :: L.drop (j + 1)) (hc : p x = false) : N = j - k := by
 rw [HD] at H
 simp [hc] at H
 omega
theorem row_end {L : List UInt8} {j k N : Nat} {p : UInt8 -> Bool} (H : j - k + ((L.drop j).takeWhile p).length = N) (hj : L.length <= j) : N = j - k := by
 rw [List.drop_of_length_le hj] at H
 simp at H
 omega
theorem row_more {L : List UInt8} {j k N : Nat} {x : UInt8} {p : UInt8 -> Bool} (H : j - k + ((L.drop j).takeWhile p).length = N) (hk : k <= j) (HD : L.drop j = x :: L.drop (j + 1)) (hc : p x = true) : j - k < N := by
 rw [HD] at H
 simp [hc] at H
 omega
def nameR (l : List UInt8) : Except Nat (Tk × Nat) := if 64 < (l.takeWhile isNm).length then .error 21 else .ok (nameTk (l.takeWhile isNm), (l.takeWhile isNm).length)
set_option maxHeartbeats 1000000 in
theorem name_any (w : World) (hT : Tab w) (b o cap : Nat) (L : List UInt8) (hA : At w b o L) (hc : L.length <= cap) (hm : cap <= 9223372036854775807) (k : Nat) (hk : k < L.length) :
 Calls Tryz.prog 133 #[.slice (some ⟨b, o, none⟩) L.length cap, .int .i64 k] w fun e w' => TokRes (nameR (L.drop k)) k e /\ Below w.heap.size w w' := by
 obtain ⟨r, hr⟩ : ∃ r, nameR (L.drop k) = r := ⟨_, rfl⟩
 rw [hr]
 have Hr : Hid (nameR (L.drop k) = r) := hr
 clear hr
 obtain ⟨N, hN⟩ : ∃ N, ((L.drop k).takeWhile isNm).length = N := ⟨_, rfl⟩
 have HR : Hid (((L.drop k).takeWhile isNm).length = N) := hN
 clear hN
 have HT : Hid (Tab w) := hT
 clear hT
 obtain ⟨n, hn⟩ : ∃ n, n = L.length := ⟨_, rfl⟩
 rw [<- hn] at hc hk ⊢
 have HN : Hid (n = L.length) := hn
 clear hn
 have hb := hA.1
 have HA : Hid (At w b o L) := hA
 clear hA
 go_enter Tryz.func133, Tryz.ntmps133
 go_wp2
 go_step3
 go_wp2
 go_step3
 go_wp2
 go_loop [7] (fun v => ∃ j : Nat, k <= j /\ j <= n /\ j - k <= 64 /\ v = .int .i64 j /\ Hid (j - k + ((L.drop j).takeWhile isNm).length = N)) (fun v => n - (intOf v).toNat)
 case atStart => exact ⟨k, by omega, by omega, by omega, rfl, by have := HR.out; show k - k + _ = N; omega⟩
 case round =>
  obtain ⟨j, hkj, hj, h64, rfl, HJ⟩ := hrel
  by_cases hlt : j < n
  ·obtain ⟨x, hx⟩ : ∃ x, x = L[j]'(HN.out ▸ hlt) := ⟨_, rfl⟩
   have hcell := HA.out.2 j (HN.out ▸ hlt)
   rw [<- hx] at hcell
   have HD : Hid (L.drop j = x :: L.drop (j + 1)) := by rw [hx]; exact List.drop_eq_getElem_cons _
   clear hx
   by_cases hn : isNm x = true
   ·have HX : Hid (isNm x = true) := hn
    have hcl : cl x = 7 \/ cl x = 6 := by simpa [isNm] using hn
    clear hn
    by_cases h5 : j - k = 64
    ·have HE : Hid (r = .error 21) := by
      rw [<- Hr.out]; unfold nameR
      rw [if_pos (by have := row_more HJ.out hkj HD.out HX.out; rw [HR.out]; omega)]; exact rfl
     have h6 : j = k + 64 := by omega
     subst h6
     rcases hcl with hcl | hcl
     all_goals
      go_wp2_with (go_at_call 129; refine (cls_any _ _).mono ?_; rintro e w' ⟨rfl, rfl⟩)
      (try rw [Exit.noGoto_ret])
      refine bodyPost_ret (v := .tuple #[tz, .int .i64 0, .int .i64 21]) (by simp [results, Tryz.results133, go_sem, tz]; rfl) rfl ⟨?_, (Below.refl _ _).alloc (Nat.le_refl _) _⟩
      rw [HE.out]
      exact ⟨0, rfl⟩
    ·rcases hcl with hcl | hcl
     all_goals
      go_wp2_with (go_at_call 129; refine (cls_any _ _).mono ?_; rintro e w' ⟨rfl, rfl⟩)
      go_round
      case rel => exact ⟨j + 1, by omega, by omega, by omega, by go_num, row_next HJ.out hkj HD.out HX.out⟩
      case measure => simp [intOf]; omega
   ·have hn' : isNm x = false := by simpa using hn
    have HX : Hid (isNm x = false) := hn'
    clear hn'
    have hcl : cl x = 4 \/ cl x = 12 \/ cl x = 8 \/ cl x = 0 := by have := cl_cases x; simp [isNm] at hn; omega
    clear hn
    have HJE : Hid (N = j - k) := row_stop HJ.out HD.out HX.out
    obtain ⟨s, hs⟩ : ∃ s, s = bs ((L.drop k).take (j - k)) := ⟨_, rfl⟩
    have hcv : ∀ ob, (convert 161 9 (.slice (some ⟨b, o + k, none⟩) (j - k) (cap - k))).run Tryz.prog (w.alloc ob) = .ok (.string s) (w.alloc ob) := fun ob => by
     rw [hs]; exact ((HA.out.drop k).alloc ob).conv' (j - k) (cap - k) (by have := HN.out; simp; omega)
    have HS : Hid (s = bs ((L.drop k).take (j - k))) := hs
    clear hs
    obtain ⟨t, ht⟩ : ∃ t, nameTk ((L.drop k).take (j - k)) = t := ⟨_, rfl⟩
    have HE : Hid (r = .ok (t, j - k)) := by
     rw [<- Hr.out]; unfold nameR
     rw [if_neg (by rw [HR.out, HJE.out]; omega), take_while_len, HR.out, HJE.out, ht, List.length_take, List.length_drop, Nat.min_eq_left (by have := HN.out; omega)]
     exact rfl
    have HTk : Hid (nameTk ((L.drop k).take (j - k)) = t) := ht
    clear ht
    rcases hcl with hcl | hcl | hcl | hcl
    all_goals
     go_wp2_with (first
      | (go_at_call 129; refine (cls_any _ _).mono ?_; rintro e w' ⟨rfl, rfl⟩)
      | (go_at_call 136; refine (nameTok_at _ (HT.out.alloc _) _ s HS.out k t HTk.out).mono ?_; rintro e u ⟨rfl, hb2⟩; have hg := (hb2.block w.heap.size (by simp)).trans (heap_alloc_last _ _))
      | (refine wpList_store_tok rfl (.tmp 4) (.tmp 35) rfl w.heap.size t.kind k t.val (bs t.name) rfl rfl _ hg rfl ?_))
     (try rw [Exit.noGoto_ret])
     refine bodyPost_ret (v := .tuple #[.agg #[.int .i64 t.kind, .int .i64 k, .int .i64 t.val, .string (bs t.name)], .int .i64 j, .int .i64 0]) ?_ rfl ?_
     ·exact results_tok Tryz.results133 _ _ w.heap.size 163 _ (0, 0) _ _ rfl rfl rfl (setRow_heap _ _ _ _ _ _ hg) rfl
     refine ⟨?_, ?_⟩
     ·rw [HE.out]
      exact ret_three rfl (by omega) rfl
     ·exact below_setRow (((Below.refl _ _).alloc (Nat.le_refl _) _).trans (hb2.mono (by simp))) (Nat.le_refl _) _
  ·have HJE : Hid (N = j - k) := row_end HJ.out (by have := HN.out; omega)
   obtain ⟨s, hs⟩ : ∃ s, s = bs ((L.drop k).take (j - k)) := ⟨_, rfl⟩
   have hcv : ∀ ob, (convert 161 9 (.slice (some ⟨b, o + k, none⟩) (j - k) (cap - k))).run Tryz.prog (w.alloc ob) = .ok (.string s) (w.alloc ob) := fun ob => by
    rw [hs]; exact ((HA.out.drop k).alloc ob).conv' (j - k) (cap - k) (by have := HN.out; simp; omega)
   have HS : Hid (s = bs ((L.drop k).take (j - k))) := hs
   clear hs
   obtain ⟨t, ht⟩ : ∃ t, nameTk ((L.drop k).take (j - k)) = t := ⟨_, rfl⟩
   have HE : Hid (r = .ok (t, j - k)) := by
    rw [<- Hr.out]; unfold nameR
    rw [if_neg (by rw [HR.out, HJE.out]; omega), take_while_len, HR.out, HJE.out, ht, List.length_take, List.length_drop, Nat.min_eq_left (by have := HN.out; omega)]
    exact rfl
   have HTk : Hid (nameTk ((L.drop k).take (j - k)) = t) := ht
   clear ht
   go_wp2_with (first
    | (go_at_call 129; refine (cls_any _ _).mono ?_; rintro e w' ⟨rfl, rfl⟩)
    | (go_at_call 136; refine (nameTok_at _ (HT.out.alloc _) _ s HS.out k t HTk.out).mono ?_; rintro e u ⟨rfl, hb2⟩; have hg := (hb2.block w.heap.size (by simp)).trans (heap_alloc_last _ _))
    | (refine wpList_store_tok rfl (.tmp 4) (.tmp 35) rfl w.heap.size t.kind k t.val (bs t.name) rfl rfl _ hg rfl ?_))
   (try rw [Exit.noGoto_ret])
   refine bodyPost_ret (v := .tuple #[.agg #[.int .i64 t.kind, .int .i64 k, .int .i64 t.val, .string (bs t.name)], .int .i64 j, .int .i64 0]) ?_ rfl ?_
   ·exact results_tok Tryz.results133 _ _ w.heap.size 163 _ (0, 0) _ _ rfl rfl rfl (setRow_heap _ _ _ _ _ _ hg) rfl
   refine ⟨?_, ?_⟩
   ·rw [HE.out]
    exact ret_three rfl (by omega) rfl
   ·exact below_setRow (((Below.refl _ _).alloc (Nat.le_refl _) _).trans (hb2.mono (by simp))) (Nat.le_refl _) _
end Go.Proofs.YtegoemeefmjnoaaGreatDoor
