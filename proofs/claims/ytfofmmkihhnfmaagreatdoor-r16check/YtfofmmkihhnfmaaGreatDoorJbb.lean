import Derived.Test.YtfofmmkihhnfmaaGreatDoorJba
set_option linter.unusedVariables false
set_option linter.unusedSimpArgs false
namespace Go.Proofs.YtfofmmkihhnfmaaGreatDoor
open Go.ChangeShapes Go.WideShapes Go.ChangeAt Go.RowKit Go.Maps
theorem SmL.set {w0 W : World} {L q : Nat} (h : SmL w0 W L) (hq : w0.heap.size <= q) (hL : L + 2 < q) (j : Nat) (u : Value) : SmL w0 (W.setCell ⟨q, j, none⟩ u) L :=
 ⟨h.ins.move fun b o e _ => by cases e; exact heap_set_other (by omega), h.fns.move fun b o e _ => by cases e; exact heap_set_other (by omega), h.low.setCell (p := ⟨q, j, none⟩) hq u⟩
theorem Evs.keepR {w : World} {ao : Option Addr} {c : Nat} {E : List (Int × Int)} (h : Evs w ao c E) {q : Nat} (hq : ∀ b o, ao = some ⟨b, o, none⟩ -> q < b) (j : Nat) (u : Value) : Evs (w.setCell ⟨q, j, none⟩ u) ao c E := ⟨h.le, h.mx, h.nil, fun hne => by
 obtain ⟨g, o, e, hlt, hc⟩ := h.out hne
 have hb := hq g o e
 refine ⟨g, o, e, by simpa [World.setCell] using hlt, fun j2 u2 hu => ?_⟩
 have := hc j2 u2 hu
 rw [add_noneR] at this ⊢
 rw [World.cell?_of_block (w := w) (heap_set_other (show g ≠ q by omega))]
 exact this⟩
set_option maxRecDepth 100000 in
set_option maxHeartbeats 4000000 in
theorem alive21_any (w : World) (hTab : Tab w) : Calls Tryz.prog 8 #[] w fun e w' => e = .returned (.bool true) /\ Below w.heap.size w w' := by
 have HFI : Hid (∀ W, Calls Tryz.prog 21 #[] W fun e w' => ∃ L, e = .returned (.agg #[.slice (some ⟨L + 1, 0, none⟩) 8 8, .slice (some ⟨L + 2, 0, none⟩) 1 1, .int .i64 0]) /\ SmL W w' L) := sample_lies
 have HNM : Hid (∀ W x, Calls Tryz.prog 10 #[.int .i64 x] W fun e w' => e = .returned (.int .i64 x) /\ W = w') := numV_any
 have HNW : Hid (∀ W L g, SmL w W L -> W.heap[g]? = some (.cells #[.int .i64 7] 3 (0, 0)) -> Calls Tryz.prog 9 #[.agg #[.slice (some ⟨L + 1, 0, none⟩) 8 8, .slice (some ⟨L + 2, 0, none⟩) 1 1, .int .i64 0], .slice (some ⟨g, 0, none⟩) 1 1, .agg #[.int .i64 3, .int .i64 0]] W fun e w' => ∃ mb, e = .returned (.tuple #[.pointer (some ⟨mb, 0, none⟩), .int .i64 0]) /\ Below W.heap.size W w' /\ Calls Tryz.prog 11 #[.pointer (some ⟨mb, 0, none⟩), .int .i64 100] w' fun e w2 => ∃ ao c, e = .returned (.tuple #[.agg #[.slice ao 1 c, .int .i64 1, .int .i64 0, .int .i64 0, .int .i64 8, .int .i64 0, .int .i64 1], .int .i64 0]) /\ Evs w2 ao c [(1, 14)] /\ Below W.heap.size W w2 /\ ∀ b o, ao = some ⟨b, o, none⟩ -> W.heap.size <= b) := fun W L g h hg => sm_new w W hTab h hg
 have HC0 : Hid (∀ W L, SmL w W L -> Calls Tryz.prog 15 #[.agg #[.slice (some ⟨L + 1, 0, none⟩) 8 8, .slice (some ⟨L + 2, 0, none⟩) 1 1, .int .i64 0]] W fun e w' => e = .returned (.int .i64 0) /\ Below W.heap.size W w') := fun W L h => sm_check0 w W hTab h
 have HC1 : Hid (∀ W L, SmL w W L -> Calls Tryz.prog 15 #[.agg #[.slice (some ⟨L + 1, 0, none⟩) 8 8, .slice (some ⟨L + 2, 0, none⟩) 1 1, .int .i64 1]] W fun e w' => e = .returned (.int .i64 210) /\ Below W.heap.size W w') := fun W L h => sm_check1 w W hTab h
 clear hTab
 go_enter Tryz.func8, Tryz.ntmps8
 go_wp2_with (go_at_call 21; refine (HFI.out _).mono ?_; rintro e wA ⟨L, rfl, hL⟩)
 obtain ⟨w1, hw1⟩ : ∃ w1, w1 = wA.alloc (.cells #[.slice (some ⟨L + 1, 0, none⟩) 8 8, .slice (some ⟨L + 2, 0, none⟩) 1 1, .int .i64 0] 25) := ⟨_, rfl⟩
 obtain ⟨q, hq⟩ : ∃ q, q = wA.heap.size := ⟨_, rfl⟩
 have k1 : w1.heap[q]? = some (.cells #[.slice (some ⟨L + 1, 0, none⟩) 8 8, .slice (some ⟨L + 2, 0, none⟩) 1 1, .int .i64 0] 25 (0, 0)) := by rw [hw1, hq]; exact heap_alloc_new _ _
 have b1 : Below wA.heap.size wA w1 := by rw [hw1]; exact below_newR wA _
 have z1 : wA.heap.size + 1 = w1.heap.size := by rw [hw1]; simp
 rw [<- hw1, z1, <- hq]
 have L1 : SmL w w1 L := hL.below b1 (Nat.le_refl _)
 have hqw : w.heap.size <= q := by rw [hq]; exact hL.low.size
 have hLq : L + 2 < q := by
  obtain ⟨b, o, e, h2, _⟩ := hL.fns.out (by simp [smF])
  cases e
  omega
 clear hw1 hq z1 b1 hL
 obtain ⟨w2, hw2⟩ : ∃ w2, w2 = w1.alloc (.cells #[.int .i64 7] 3) := ⟨_, rfl⟩
 rw [<- hw2]
 have b2 : Below w1.heap.size w1 w2 := by rw [hw2]; exact below_newR w1 _
 have g2 : w2.heap[w1.heap.size]? = some (.cells #[.int .i64 7] 3 (0, 0)) := by rw [hw2]; exact heap_alloc_new _ _
 refine (HNW.out _ _ _ (L1.below b2 (Nat.le_refl _)) g2).mono ?_
 rintro e wN ⟨mb, rfl, bN, hRun⟩
 have HRN : Hid _ := hRun
 have HB2 : Hid _ := b2
 have HBN : Hid (Below w1.heap.size w1 wN) := b2.trans (bN.mono b2.size)
 have HL1 : Hid _ := L1
 have HK1 : Hid _ := k1
 clear hRun b2 bN L1 k1 hw2 g2 HNW HFI
 go_upto_region 1 with (go_at_call 10; refine (HNM.out _ _).mono ?_; rintro e w9 ⟨rfl, rfl⟩)
 refine Calls.mono HRN.out ?_
 rintro e wR ⟨ao, c, rfl, hE, bR, hao⟩
 have HAO : Hid (∀ b o, ao = some ⟨b, o, none⟩ -> q < b) := fun b o e => Nat.lt_of_lt_of_le (Nat.lt_of_lt_of_le (gl HK1.out) HB2.out.size) (hao b o e)
 clear hao
 have bR1 : Below w1.heap.size w1 wR := HB2.out.trans (bR.mono HB2.out.size)
 have kR : wR.heap[q]? = some (.cells #[.slice (some ⟨L + 1, 0, none⟩) 8 8, .slice (some ⟨L + 2, 0, none⟩) 1 1, .int .i64 0] 25 (0, 0)) := (bR1.block _ (gl HK1.out)).trans HK1.out
 have LR : SmL w wR L := HL1.out.below bR1 (Nat.le_refl _)
 clear bR bR1 HRN HB2 HBN HL1 HK1
 have x0 : wR.cell? ⟨q, 0, none⟩ = some (.slice (some ⟨L + 1, 0, none⟩) 8 8) := cell_arr kR rfl
 have x1 : wR.cell? ⟨q, 1, none⟩ = some (.slice (some ⟨L + 2, 0, none⟩) 1 1) := cell_arr kR rfl
 have x2 : wR.cell? ⟨q, 2, none⟩ = some (.int .i64 0) := cell_arr kR rfl
 have lq := (gl kR)
 have HKR : Hid _ := kR
 have HLR : Hid _ := LR
 have HER : Hid _ := hE
 clear kR LR hE
 go_wp2_with fail
 obtain ⟨p, hp⟩ : ∃ p, p = wR.heap.size := ⟨_, rfl⟩
 obtain ⟨w4, hw4⟩ : ∃ w4, w4 = wR.alloc (.cells #[.slice ao 1 c, .int .i64 1, .int .i64 0, .int .i64 0, .int .i64 8, .int .i64 0, .int .i64 1] 38) := ⟨_, rfl⟩
 rw [<- hw4, <- hp]
 have b4 : Below wR.heap.size wR w4 := by rw [hw4]; exact below_newR wR _
 have kp : w4.heap[p]? = some (.cells #[.slice ao 1 c, .int .i64 1, .int .i64 0, .int .i64 0, .int .i64 8, .int .i64 0, .int .i64 1] 38 (0, 0)) := by rw [hw4, hp]; exact heap_alloc_new _ _
 have kq : w4.heap[q]? = some (.cells #[.slice (some ⟨L + 1, 0, none⟩) 8 8, .slice (some ⟨L + 2, 0, none⟩) 1 1, .int .i64 0] 25 (0, 0)) := (b4.block _ lq).trans HKR.out
 have L4 : SmL w w4 L := HLR.out.below b4 (Nat.le_refl _)
 have E4 : Evs w4 ao c [(1, 14)] := HER.out.belowR b4
 have hqp : q < p := by rw [hp]; exact lq
 clear hw4 hp b4 x0 x1 x2 lq HKR HLR HER
 refine (HC0.out _ _ L4).mono ?_
 rintro e wC ⟨rfl, bC⟩
 have kpC := (bC.block _ (gl kp)).trans kp
 have kqC := (bC.block _ (gl kq)).trans kq
 have LC : SmL w wC L := L4.below bC (Nat.le_refl _)
 have EC : Evs wC ao c [(1, 14)] := E4.belowR bC
 clear kp kq L4 E4 bC HC0
 have x0 : wC.cell? ⟨q, 0, none⟩ = some (.slice (some ⟨L + 1, 0, none⟩) 8 8) := cell_arr kqC rfl
 have x1 : wC.cell? ⟨q, 1, none⟩ = some (.slice (some ⟨L + 2, 0, none⟩) 1 1) := cell_arr kqC rfl
 have x2 : wC.cell? ⟨q, 2, none⟩ = some (.int .i64 0) := cell_arr kqC rfl
 have lq := (gl kqC)
 have f2 : wC.frozen? ⟨q, 2, none⟩ = false := fz_of kqC
 have HKP : Hid _ := kpC
 have HKQ : Hid _ := kqC
 have HLC : Hid _ := LC
 have HEC : Hid _ := EC
 clear kpC kqC LC EC
 go_upto_region 8 with fail
 obtain ⟨w5, hw5⟩ : ∃ w5, w5 = wC.setCell ⟨q, 2, none⟩ (.int .i64 1) := ⟨_, rfl⟩
 rw [<- hw5]
 have kp5 : w5.heap[p]? = some (.cells #[.slice ao 1 c, .int .i64 1, .int .i64 0, .int .i64 0, .int .i64 8, .int .i64 0, .int .i64 1] 38 (0, 0)) := by rw [hw5]; exact (heap_set_other (by omega)).trans HKP.out
 have kq5 : w5.heap[q]? = some (.cells #[.slice (some ⟨L + 1, 0, none⟩) 8 8, .slice (some ⟨L + 2, 0, none⟩) 1 1, .int .i64 1] 25 (0, 0)) := by rw [hw5]; exact heap_set_at HKQ.out
 have L5 : SmL w w5 L := by rw [hw5]; exact HLC.out.set hqw hLq _ _
 clear x0 x1 x2 f2 lq
 have x0 : w5.cell? ⟨q, 0, none⟩ = some (.slice (some ⟨L + 1, 0, none⟩) 8 8) := cell_arr kq5 rfl
 have x1 : w5.cell? ⟨q, 1, none⟩ = some (.slice (some ⟨L + 2, 0, none⟩) 1 1) := cell_arr kq5 rfl
 have x2 : w5.cell? ⟨q, 2, none⟩ = some (.int .i64 1) := cell_arr kq5 rfl
 have lq := (gl kq5)
 have E5 : Evs w5 ao c [(1, 14)] := by rw [hw5]; exact HEC.out.keepR HAO.out _ _
 have HKP5 : Hid _ := kp5
 have HL5 : Hid _ := L5
 have HE5 : Hid _ := E5
 clear kp5 kq5 L5 hw5 HKP HKQ HLC E5 HEC HAO
 go_upto_region 9 with (go_at_call 15; refine (HC1.out _ _ HL5.out).mono ?_; rintro e wD ⟨rfl, bD⟩)
 have kp6 := (bD.block _ (gl HKP5.out)).trans HKP5.out
 have HBF : Hid (Below w.heap.size w wD) := HL5.out.low.trans (bD.mono HL5.out.low.size)
 obtain ⟨eb, eo, rfl, el, ec0, ec1⟩ := (HE5.out.belowR bD).atR (k := 0) (by decide)
 have ed0 : wD.cell? ⟨eb, eo, none⟩ = some (.int .i64 1) := ec0
 have ed1 : wD.cell? ⟨eb, eo + 1, none⟩ = some (.int .i64 14) := ec1
 have y0 : wD.cell? ⟨p, 0, none⟩ = some (.slice (some ⟨eb, eo, none⟩) 1 c) := cell_arr kp6 rfl
 have y1 : wD.cell? ⟨p, 1, none⟩ = some (.int .i64 1) := cell_arr kp6 rfl
 have y4 : wD.cell? ⟨p, 4, none⟩ = some (.int .i64 8) := cell_arr kp6 rfl
 have lp := (gl kp6)
 clear kp6 bD ec0 ec1 x0 x1 x2 lq HKP5 HL5 HE5 HC1
 go_wp2_with (go_at_call 10; refine (HNM.out _ _).mono ?_; rintro e w9 ⟨rfl, rfl⟩)
 go_ret
 exact ⟨rfl, HBF.out⟩
def Wy (C : List Ri) (FS : List Rf) (S room : Int) (k : Nat) (R R' : Rv) : Prop := ∀ n, smG C FS S room (k + n) R = smG C FS S room n R'
theorem Wy.none {C FS S room} (R : Rv) : Wy C FS S room 0 R R := fun n => by rw [Nat.zero_add]
theorem Wy.one {C FS S room} {R R' : Rv} (h : R.stp C FS S room = (true, R')) : Wy C FS S room 1 R R' := fun n => by
 rw [show 1 + n = n + 1 by omega]
 show (if _ then _ else _) = _
 rw [h, if_pos rfl]
theorem Wy.trans {C FS S room j k} {R R' R'' : Rv} (h : Wy C FS S room j R R') (h2 : Wy C FS S room k R' R'') : Wy C FS S room (j + k) R R'' := fun n => by
 rw [Nat.add_assoc, h, h2]
theorem Wy.cons {C FS S room k} {R R' R'' : Rv} (h : R.stp C FS S room = (true, R')) (h2 : Wy C FS S room k R' R'') : Wy C FS S room (k + 1) R R'' := by
 rw [Nat.add_comm]
 exact (Wy.one h).trans h2
theorem smG_over {C FS S room} : ∀ (n : Nat) {R : Rv}, R.over = true -> smG C FS S room n R = R
 | 0, _, _ => rfl
 | n + 1, R, h => by
   have e : R.stp C FS S room = (false, R) := by
    unfold Rv.stp
    rw [if_pos h]
   show (if _ then _ else _) = _
   rw [e, if_neg (by simp)]
theorem Wy.ends {C FS S room k n} {R R' : Rv} (h : Wy C FS S room k R R') (ho : R'.over = true) (hn : k <= n) : smG C FS S room n R = R' := by
 obtain ⟨j, rfl⟩ : ∃ j, n = k + j := ⟨n - k, by omega⟩
 rw [h, smG_over j ho]
theorem stp_ok {C FS S room} {R R1 : Rv} {x : Ri} (ho : R.over = false) (hx : R.at C = x) (hw : R.on.why x = none) (hd : R.on.does FS S room x = R1) (hr : R1.rests = false) : R.stp C FS S room = (true, { R1 with steps := R.steps + 1 }) := by
 have e : R.adv C FS S room = R1 := by
  unfold Rv.adv Rv.ins
  rw [hx, hw]
  exact hd
 unfold Rv.stp
 rw [if_neg (by rw [ho]; simp), e]
 simp only
 rw [if_neg (by rw [hr]; simp)]
theorem stp_bad {C FS S room} {R : Rv} {x : Ri} {k : Int} (ho : R.over = false) (hx : R.at C = x) (hw : R.on.why x = some k) (hr : R.rests = false) : R.stp C FS S room = (true, { R.on.stuck k with steps := R.steps + 1 }) := by
 have e : R.adv C FS S room = R.on.stuck k := by
  unfold Rv.adv Rv.ins
  rw [hx, hw]
 unfold Rv.stp
 rw [if_neg (by rw [ho]; simp), e]
 simp only
 rw [if_neg (by show ¬ R.rests = true; rw [hr]; simp)]
theorem regs_same {L : List Int} {i v : Int} (h0 : 0 <= i) (h : i < (L.length : Int)) : (L.set i.toNat v).getD i.toNat 0 = v := by
 have : i.toNat < L.length := by omega
 simp [List.getD, this]
def wdC (op a b to : Int) : List Ri := [⟨1, 3, 0, 0, a⟩, ⟨1, 4, 0, 0, b⟩, ⟨op, to, 3, (if op = 20 then 0 else 4), 0⟩, ⟨37, to, 0, 0, 0⟩, ⟨27, 0, 0, 0, 0⟩]
def wdF : List Rf := [⟨⟨#[109, 97, 105, 110]⟩, 2, 0, 5, 0⟩]
def wd0 : Rv := (Rv.zero []).call 2 ⟨⟨#[109, 97, 105, 110]⟩, 2, 0, 5, 0⟩ (-1)
def wd2 (a b : Int) : Rv := { wd0 with rg := (((List.replicate 16 (0 : Int)).set 3 a).set 4 b), nx := 2, steps := 2 }
def wdS (op a b : Int) : Int := if (op = 6 \/ op = 7) /\ b = 0 then 3 else if (op = 12 \/ op = 13) /\ b < 0 then 4 else if op = 20 /\ ¬ a = 0 /\ ¬ a = 1 then 5 else 0
def wdV (op a b : Int) : Int := doIW (op - 1) a (if op = 20 then 0 else b)
set_option maxRecDepth 100000 in
theorem wd_two (op a b to : Int) : Wy (wdC op a b to) wdF 2 0 2 wd0 (wd2 a b) :=
 Wy.cons (R' := { wd0 with rg := ((List.replicate 16 (0 : Int)).set 3 a), nx := 1, steps := 1 }) (by kernel_rfl) (Wy.one (by kernel_rfl))
theorem wd_why (op a b to : Int) (ho : (3 <= op /\ op <= 17) \/ op = 20) : (wd2 a b).on.why ⟨op, to, 3, (if op = 20 then 0 else 4), 0⟩ = if wdS op a b = 0 then none else some (wdS op a b) := by
 have e3 : (wd2 a b).on.reg 3 = a := rfl
 have e4 : (wd2 a b).on.reg 4 = b := rfl
 unfold Rv.why wdS
 simp only
 by_cases h1 : op = 6 \/ op = 7
 ·rw [if_pos h1, if_neg (show ¬ op = 20 by omega), e4]
  by_cases hb : b = 0
  ·simp [h1, hb]
  ·have h2 : ¬ (op = 12 \/ op = 13) := by omega
   have h3 : ¬ op = 20 := by omega
   simp [h1, hb, h2, h3]
 ·rw [if_neg h1]
  by_cases h2 : op = 12 \/ op = 13
  ·rw [if_pos h2, if_neg (show ¬ op = 20 by omega), e4]
   have h3 : ¬ op = 20 := by omega
   by_cases hb : b < 0
   ·simp [h1, h2, hb]
   ·simp [h1, h2, hb, h3]
  ·rw [if_neg h2]
   by_cases h3 : op = 20
   ·rw [if_pos h3, e3]
    rw [if_neg (show ¬ ((op = 6 \/ op = 7) /\ b = 0) by omega), if_neg (show ¬ ((op = 12 \/ op = 13) /\ b < 0) by omega)]
    by_cases ha : a = 0 \/ a = 1
    ·rw [if_neg (show ¬ bad01 a from fun q => q ha), if_neg (show ¬ (op = 20 /\ ¬ a = 0 /\ ¬ a = 1) by omega), if_pos rfl]
    ·rw [if_pos (show bad01 a from ha), if_pos (show (op = 20 /\ ¬ a = 0 /\ ¬ a = 1) by omega), if_neg (by decide)]
   ·rw [if_neg h3, if_neg (show ¬ op = 28 by omega), if_neg (show ¬ op = 29 by omega), if_neg (show ¬ (op = 30 \/ op = 31) by omega), if_neg (show ¬ op = 38 by omega)]
    rw [if_neg (show ¬ ((op = 6 \/ op = 7) /\ b = 0) by omega), if_neg (show ¬ ((op = 12 \/ op = 13) /\ b < 0) by omega), if_neg (show ¬ (op = 20 /\ ¬ a = 0 /\ ¬ a = 1) by omega), if_pos rfl]
theorem wd_stuck (op a b to : Int) (ho : (3 <= op /\ op <= 17) \/ op = 20) (hs : ¬ wdS op a b = 0) : smG (wdC op a b to) wdF 2 0 9 wd0 = { (wd2 a b).on.stuck (wdS op a b) with steps := 3 } := by
 refine Wy.ends (k := 2 + 1) ((wd_two op a b to).trans (Wy.one ?_)) ?_ (by omega)
 ·refine stp_bad (x := ⟨op, to, 3, (if op = 20 then 0 else 4), 0⟩) rfl rfl ?_ rfl
  rw [wd_why op a b to ho, if_neg hs]
 ·rfl
theorem wd_done (op a b to : Int) (ho : (3 <= op /\ op <= 17) \/ op = 20) (ht : 0 <= to /\ to <= 15) (hs : wdS op a b = 0) : ∃ R, smG (wdC op a b to) wdF 2 0 9 wd0 = R /\ R.ev = [(1, wdV op a b)] /\ R.fin = 1 /\ R.kd = 0 /\ R.vl = 0 /\ R.steps = 5 /\ R.words = 0 /\ R.deep = 1 := by
 have e3 : (wd2 a b).on.reg 3 = a := rfl
 have e4 : (wd2 a b).on.reg 4 = b := rfl
 have hd : (wd2 a b).on.does wdF 2 0 ⟨op, to, 3, (if op = 20 then 0 else 4), 0⟩ = (wd2 a b).on.set to (wdV op a b) := by
  unfold Rv.does wdV
  simp only
  rw [if_neg (by omega), if_neg (by omega)]
  by_cases h : op <= 17
  ·rw [if_pos h, if_neg (by omega), if_neg (by omega), e3, e4]
  ·rw [if_neg h, if_pos (by omega), if_pos (by omega), e3]
 obtain ⟨R3, hR3⟩ : ∃ R3, R3 = ({ (wd2 a b).on.set to (wdV op a b) with steps := 2 + 1 } : Rv) := ⟨_, rfl⟩
 have s3 : (wd2 a b).stp (wdC op a b to) wdF 2 0 = (true, R3) := by
  rw [hR3]
  exact stp_ok (x := ⟨op, to, 3, (if op = 20 then 0 else 4), 0⟩) rfl rfl (by rw [wd_why op a b to ho, if_pos hs]) hd rfl
 have hg : R3.on.reg to = wdV op a b := by
  rw [hR3]
  exact regs_same (L := (((List.replicate 16 (0 : Int)).set 3 a).set 4 b)) ht.1 (by show to < (16 : Int); omega)
 have f3 : R3.ev = [] /\ R3.over = false /\ R3.at (wdC op a b to) = ⟨37, to, 0, 0, 0⟩ /\ R3.rests = false /\ R3.steps = 3 := by rw [hR3]; exact ⟨rfl, rfl, rfl, rfl, rfl⟩
 obtain ⟨R4, hR4⟩ : ∃ R4, R4 = ({ R3.on with ev := [(1, wdV op a b)], steps := 4 } : Rv) := ⟨_, rfl⟩
 have s4 : R3.stp (wdC op a b to) wdF 2 0 = (true, R4) := by
  have h := stp_ok (C := wdC op a b to) (FS := wdF) (S := 2) (room := 0) (R := R3) (R1 := { R3.on with ev := [(1, wdV op a b)] }) f3.2.1 f3.2.2.1 rfl (by
   show R3.on.tell 1 (R3.on.reg to) = _
   rw [hg]
   unfold Rv.tell
   have e : R3.on.ev = [] := f3.1
   rw [if_neg (by rw [e]; decide), e]
   rfl) f3.2.2.2.1
  rw [h, hR4, f3.2.2.2.2]
  rfl
 obtain ⟨R5, hR5⟩ : ∃ R5, R5 = ({ R4.on.back with steps := 5 } : Rv) := ⟨_, rfl⟩
 have s5 : R4.stp (wdC op a b to) wdF 2 0 = (true, R5) := by
  rw [hR5, hR4, hR3]
  rfl
 refine ⟨R5, Wy.ends (k := 2 + 3) ((wd_two op a b to).trans (Wy.cons s3 (Wy.cons s4 (Wy.one s5)))) ?_ (by omega), ?_⟩
 ·rw [hR5, hR4, hR3]
  rfl
 ·rw [hR5, hR4, hR3]
  exact ⟨rfl, rfl, rfl, rfl, rfl, rfl, rfl⟩
end Go.Proofs.YtfofmmkihhnfmaaGreatDoor
