import Derived.Laws.MakeOwn
import Derived.Test.YtegoemeefmjnoaaGreatDoorJaj
import Derived.Test.YtegoemeefmjnoaaGreatDoorJav
set_option linter.unusedVariables false
set_option linter.unusedSimpArgs false
namespace Go.Proofs.YtegoemeefmjnoaaGreatDoor
open Go.ChangeShapes Go.WideShapes Go.ChangeAt Go.RowKit Go.Maps
def rise : Int -> List Int -> Bool
 | _, [] => true
 | n, r :: S => (decide (n <= r) && decide (r < 8)) && rise (r + 1) S
set_option maxRecDepth 100000 in
set_option maxHeartbeats 4000000 in
theorem areRising_any (w : World) {sa : Option Addr} {sn sc : Nat} {S : List Int} (hS : Ints w sa sc S) (hn : sn = S.length) :
 Calls Tryz.prog 58 #[.slice sa sn sc] w fun e w' => e = .returned (.bool (rise 0 S)) /\ w' = w := by
 obtain ⟨R, hR⟩ : ∃ R, R = rise 0 S := ⟨_, rfl⟩
 rw [<- hR]
 have HR : Hid (R = rise 0 S) := hR
 have HN : Hid (sn = S.length) := hn
 have HI : Hid (Ints w sa sc S) := hS
 have hmx : sn <= 9223372036854775807 := by have := hS.le; have := hS.mx; omega
 clear hR hn hS
 go_enter Tryz.func58, Tryz.ntmps58
 go_wp2_with fail
 go_loopw [3, 8] (fun u v wr => ∃ (k : Nat) (p : Int), k <= sn /\ v = .int .i64 k /\ u = .int .i64 p /\ wr = w /\ (0 <= p /\ p <= 8) /\ Hid (R = rise p (S.drop k))) (fun _ v _ => sn - (intOf v).toNat)
 case atStart => exact ⟨0, 0, by omega, rfl, rfl, rfl, by omega, HR⟩
 case round =>
  clear HR
  obtain ⟨k, p, hk, rfl, rfl, rfl, hp, HR⟩ := hrel
  by_cases hlt : k < sn
  ·have hkS : k < S.length := by have := HN.out; omega
   obtain ⟨b, o, rfl, hc⟩ := HI.out.at hkS
   have hbl : b < wr.heap.size := block_lt_of_cell hc
   obtain ⟨x, hx⟩ : ∃ x, x = S[k] := ⟨_, rfl⟩
   have HD : Hid (R = ((decide (p <= x) && decide (x < 8)) && rise (x + 1) (S.drop (k + 1)))) := by
    have := HR.out
    rw [List.drop_eq_getElem_cons hkS, <- hx] at this
    exact this
   rw [<- hx] at hc
   have hki : (k : Int) < (sn : Int) := by omega
   clear HR hx hkS
   by_cases h1 : x < p
   ·obtain rfl : R = false := by
     rw [HD.out]
     simp [show ¬ p <= x by omega]
    clear HD
    go_wp2_with fail
    go_ret
    exact ⟨rfl, rfl⟩
   ·by_cases h2 : x < 8
    ·have HD2 : Hid (R = rise (x + 1) (S.drop (k + 1))) := by
      have := HD.out
      rw [show decide (p <= x) = true by simp; omega, show decide (x < 8) = true by simp [h2]] at this
      simp at this
      exact this
     have h3 : ¬ 8 <= x := by omega
     clear HD
     go_wp2_with fail
     go_roundw
     case rel => exact ⟨k + 1, x + 1, by omega, by first | rfl | go_num, by first | rfl | go_num, by first | rfl | trivial, by omega, HD2⟩
     case measure => simp [intOf]; try omega
    ·obtain rfl : R = false := by
      rw [HD.out]
      simp [h2]
     have h3 : 8 <= x := by omega
     clear HD
     go_wp2_with fail
     go_ret
     exact ⟨rfl, rfl⟩
  ·have hki : ¬ (k : Int) < (sn : Int) := by omega
   obtain rfl : R = true := by
    rw [HR.out, List.drop_of_length_le (by have := HN.out; omega)]
    rfl
   clear HR
   go_wp2_with fail
   go_ret
   exact ⟨rfl, rfl⟩
def numP (s : Int) (l : Int × Int) : Int :=
 if l.1 = 0 /\ l.2 = 0 then -1
 else if l.1 = 1 /\ 0 <= l.2 /\ l.2 < 8 then l.2
 else if l.1 = 2 /\ 0 <= l.2 /\ l.2 < s then 8 + l.2
 else -2
set_option maxRecDepth 100000 in
set_option maxHeartbeats 4000000 in
theorem numberA_any (w : World) (l : Int × Int) (s : Int) (hs : s <= 1000000) :
 Calls Tryz.prog 83 #[.agg #[.int .i64 l.1, .int .i64 l.2], .int .i64 s] w fun e w' => e = .returned (.int .i64 (numP s l)) /\ Below w.heap.size w w' := by
 obtain ⟨k, n⟩ := l
 unfold numP
 simp only
 have HB : Hid (∀ X, Below w.heap.size w (w.alloc X)) := below_newA w
 by_cases h0 : k = 0 /\ n = 0
 ·rw [if_pos h0]
  obtain ⟨rfl, rfl⟩ := h0
  go_enter Tryz.func83, Tryz.ntmps83
  go_wp2_with fail
  go_ret
  exact ⟨rfl, HB.out _⟩
 rw [if_neg h0]
 by_cases h1 : k = 1
 ·subst h1
  by_cases h2 : 0 <= n
  ·by_cases h3 : n < 8
   ·rw [if_pos ⟨rfl, h2, h3⟩]
    clear h0
    go_enter Tryz.func83, Tryz.ntmps83
    go_wp2_with fail
    go_ret
    exact ⟨rfl, HB.out _⟩
   ·rw [if_neg (by omega), if_neg (by omega)]
    clear h0
    go_enter Tryz.func83, Tryz.ntmps83
    go_wp2_with fail
    go_ret
    exact ⟨rfl, HB.out _⟩
  ·rw [if_neg (by omega), if_neg (by omega)]
   clear h0
   go_enter Tryz.func83, Tryz.ntmps83
   go_wp2_with fail
   go_ret
   exact ⟨rfl, HB.out _⟩
 rw [if_neg (by omega)]
 by_cases h4 : k = 2
 ·subst h4
  by_cases h2 : 0 <= n
  ·by_cases h3 : n < s
   ·rw [if_pos ⟨rfl, h2, h3⟩]
    have h5 : n <= 1000000 := by omega
    clear h0
    go_enter Tryz.func83, Tryz.ntmps83
    go_wp2_with fail
    go_ret
    exact ⟨by first | rfl | simp only [Nat.lt_irrefl] | (congr 2; go_num), HB.out _⟩
   ·rw [if_neg (by omega)]
    clear h0
    go_enter Tryz.func83, Tryz.ntmps83
    go_wp2_with fail
    go_ret
    exact ⟨rfl, HB.out _⟩
  ·rw [if_neg (by omega)]
   clear h0
   go_enter Tryz.func83, Tryz.ntmps83
   go_wp2_with fail
   go_ret
   exact ⟨rfl, HB.out _⟩
 ·rw [if_neg (by omega)]
  by_cases h5 : k = 0
  ·subst h5
   have h6 : ¬ n = 0 := by omega
   clear h0
   go_enter Tryz.func83, Tryz.ntmps83
   go_wp2_with fail
   go_ret
   exact ⟨rfl, HB.out _⟩
  ·clear h0
   go_enter Tryz.func83, Tryz.ntmps83
   go_wp2_with fail
   go_ret
   exact ⟨rfl, HB.out _⟩
def svI (x : Ai) : Bool := (x.saves.isEmpty || decide (x.op = 25)) && rise 0 x.saves
def svB (b : Ab) : Bool := b.body.all svI
def svF (f : Af) : Bool := f.blks.all svB
theorem all_drop {α : Type} {p : α -> Bool} {L : List α} {k : Nat} (h : k < L.length) : (L.drop k).all p = (p L[k] && (L.drop (k + 1)).all p) := by
 rw [List.drop_eq_getElem_cons h, List.all_cons]
theorem all_end {α : Type} {p : α -> Bool} {L : List α} {k : Nat} (h : L.length <= k) : (L.drop k).all p = true := by
 rw [List.drop_of_length_le h]; rfl
theorem abs_at {w ao c N} (h : Lst EnB 5 w ao c N) {j : Nat} (hj : j < N.length) : ∃ b o a1 c1 a2 c2, ao = some ⟨b, o, none⟩ /\ b < w.heap.size /\ w.cell? ⟨b, o + j * 5, none⟩ = some (.slice a1 N[j].body.length c1) /\ w.cell? ⟨b, o + j * 5 + 1, none⟩ = some (.int .i64 N[j].kind) /\ w.cell? ⟨b, o + j * 5 + 2, none⟩ = some (.int .i64 N[j].val.1) /\ w.cell? ⟨b, o + j * 5 + 3, none⟩ = some (.int .i64 N[j].val.2) /\ w.cell? ⟨b, o + j * 5 + 4, none⟩ = some (.slice a2 N[j].ways.length c2) /\ Lst EnI 6 w a1 c1 N[j].body /\ Ints w a2 c2 N[j].ways := by
 obtain ⟨b, o, cs, ea, hl, _, hc, hE⟩ := h.atL hj
 obtain ⟨a1, c1, a2, c2, e, h1, h2⟩ := hE
 subst e
 exact ⟨b, o, a1, c1, a2, c2, ea, hl, hc 0 _ rfl, hc 1 _ rfl, hc 2 _ rfl, hc 3 _ rfl, hc 4 _ rfl, h1, h2⟩
theorem ais_at {w ao c N} (h : Lst EnI 6 w ao c N) {j : Nat} (hj : j < N.length) : ∃ b o a1 c1 a2 c2, ao = some ⟨b, o, none⟩ /\ b < w.heap.size /\ w.cell? ⟨b, o + j * 6, none⟩ = some (.int .i64 N[j].op) /\ w.cell? ⟨b, o + j * 6 + 1, none⟩ = some (.int .i64 N[j].imm) /\ w.cell? ⟨b, o + j * 6 + 2, none⟩ = some (.int .i64 N[j].dst.1) /\ w.cell? ⟨b, o + j * 6 + 3, none⟩ = some (.int .i64 N[j].dst.2) /\ w.cell? ⟨b, o + j * 6 + 4, none⟩ = some (.slice a1 N[j].args.length c1) /\ w.cell? ⟨b, o + j * 6 + 5, none⟩ = some (.slice a2 N[j].saves.length c2) /\ Locs w a1 c1 N[j].args /\ Ints w a2 c2 N[j].saves := by
 obtain ⟨b, o, cs, ea, hl, _, hc, hE⟩ := h.atL hj
 obtain ⟨a1, c1, a2, c2, e, h1, h2⟩ := hE
 subst e
 exact ⟨b, o, a1, c1, a2, c2, ea, hl, hc 0 _ rfl, hc 1 _ rfl, hc 2 _ rfl, hc 3 _ rfl, hc 4 _ rfl, hc 5 _ rfl, h1, h2⟩
theorem afs_at {w ao c N} (h : Afs w ao c N) {j : Nat} (hj : j < N.length) : ∃ b o a1 c1 a2 c2, ao = some ⟨b, o, none⟩ /\ b < w.heap.size /\ w.cell? ⟨b, o + j * 5, none⟩ = some (.string N[j].name) /\ w.cell? ⟨b, o + j * 5 + 1, none⟩ = some (.slice a1 N[j].params.length c1) /\ w.cell? ⟨b, o + j * 5 + 2, none⟩ = some (.int .i64 N[j].result) /\ w.cell? ⟨b, o + j * 5 + 3, none⟩ = some (.int .i64 N[j].slots) /\ w.cell? ⟨b, o + j * 5 + 4, none⟩ = some (.slice a2 N[j].blks.length c2) /\ Locs w a1 c1 N[j].params /\ Lst EnB 5 w a2 c2 N[j].blks := by
 obtain ⟨b, o, cs, ea, hl, _, hc, hE⟩ := Lst.atL h hj
 obtain ⟨a1, c1, a2, c2, e, h1, h2⟩ := hE
 subst e
 exact ⟨b, o, a1, c1, a2, c2, ea, hl, hc 0 _ rfl, hc 1 _ rfl, hc 2 _ rfl, hc 3 _ rfl, hc 4 _ rfl, h1, h2⟩
set_option maxRecDepth 100000 in
set_option maxHeartbeats 4000000 in
theorem savesFit_any (w : World) (f : Af) (a1 : Option Addr) (c1 : Nat) (a2 : Option Addr) (c2 : Nat) (hB : Lst EnB 5 w a2 c2 f.blks) :
 Calls Tryz.prog 47 #[.agg #[.string f.name, .slice a1 f.params.length c1, .int .i64 f.result, .int .i64 f.slots, .slice a2 f.blks.length c2]] w fun e w' => e = .returned (.bool (svF f)) /\ Below w.heap.size w w' := by
 obtain ⟨fn, fp, fr, fs, B⟩ := f
 simp only at hB ⊢
 obtain ⟨R, hR⟩ : ∃ R, R = svF ⟨fn, fp, fr, fs, B⟩ := ⟨_, rfl⟩
 rw [<- hR]
 have HR : Hid (R = (B.drop 0).all svB) := hR
 obtain ⟨bn, hbn⟩ : ∃ n, n = B.length := ⟨_, rfl⟩
 obtain ⟨pn, hpn⟩ : ∃ n, n = fp.length := ⟨_, rfl⟩
 rw [<- hbn, <- hpn]
 have HN : Hid (bn = B.length) := hbn
 have HL : Hid (Lst EnB 5 w a2 c2 B) := hB
 have hmx : bn <= 9223372036854775807 := by have := hB.le; omega
 have HB0 : Hid (∀ X, Below w.heap.size w (w.alloc X)) := below_newA w
 clear hR hbn hpn hB
 go_enter Tryz.func47, Tryz.ntmps47
 go_wp2_with fail
 go_loopw [10] (fun v wr => ∃ k : Nat, k <= bn /\ v = .int .i64 k /\ Hid (Below w.heap.size w wr) /\ Hid (R = (B.drop k).all svB)) (fun v _ => bn - (intOf v).toNat)
 case atStart => exact ⟨0, by omega, rfl, HB0.out _, HR⟩
 case round =>
  clear HR HB0
  obtain ⟨k, hk, rfl, HW, HR⟩ := hrel
  obtain ⟨wq, rfl⟩ : ∃ wq, wq = wr := ⟨_, rfl⟩
  by_cases hlt : k < bn
  ·have hki : (k : Int) < (bn : Int) := by omega
   have hkB : k < B.length := by have := HN.out; omega
   obtain ⟨b, o, d1, e1, d2, e2, rfl, hbl, k0, k1, k2, k3, k4, hI, -⟩ := abs_at (HL.out.below HW.out (Nat.le_refl _) (enB_below HW.out (Nat.le_refl _))) hkB
   have HR1 : Hid (R = ((B[k].body.drop 0).all svI && (B.drop (k + 1)).all svB)) := by
    have := HR.out
    rw [all_drop hkB] at this
    exact this
   generalize B[k] = X at k0 k1 k2 k3 k4 hI HR1
   obtain ⟨nb, hnb⟩ : ∃ n, n = X.body.length := ⟨_, rfl⟩
   obtain ⟨nw, hnw⟩ : ∃ n, n = X.ways.length := ⟨_, rfl⟩
   rw [<- hnb] at k0
   rw [<- hnw] at k4
   have HNB : Hid (nb = X.body.length) := hnb
   have HI : Hid (Lst EnI 6 wq d1 e1 X.body) := hI
   have hbm : nb <= 9223372036854775807 := by have := hI.le; omega
   have HB1 : Hid (∀ Y, Below wq.heap.size wq (wq.alloc Y)) := below_newA wq
   clear hnb hnw hI HR hkB
   go_wp2_with fail
   go_loopw [17] (fun v wr => ∃ j : Nat, j <= nb /\ v = .int .i64 j /\ Hid (Below wq.heap.size wq wr) /\ Hid (R = ((X.body.drop j).all svI && (B.drop (k + 1)).all svB))) (fun v _ => nb - (intOf v).toNat)
   case atStart => exact ⟨0, by omega, rfl, HB1.out _, HR1⟩
   case round =>
    clear HR1 HB1 k0 k1 k2 k3 k4
    obtain ⟨j, hj, rfl, HW2, HR2⟩ := hrel
    obtain ⟨wp, rfl⟩ : ∃ wp, wp = wr := ⟨_, rfl⟩
    by_cases hjt : j < nb
    ·have hji : (j : Int) < (nb : Int) := by omega
     have hjB : j < X.body.length := by have := HNB.out; omega
     obtain ⟨b2, o2, x1, y1, x2, y2, rfl, hbl2, i0, i1, i2, i3, i4, i5, -, hS⟩ := ais_at (HI.out.below HW2.out (Nat.le_refl _) (enI_below HW2.out (Nat.le_refl _))) hjB
     have HR3 : Hid (R = (svI X.body[j] && ((X.body.drop (j + 1)).all svI && (B.drop (k + 1)).all svB))) := by
      have := HR2.out
      rw [all_drop hjB, Bool.and_assoc] at this
      exact this
     generalize X.body[j] = x at i0 i1 i2 i3 i4 i5 hS HR3
     obtain ⟨op, im, ds, ar, sv⟩ := x
     obtain ⟨dk, dn⟩ := ds
     simp only at i0 i1 i2 i3 i4 i5 hS
     obtain ⟨na, hna⟩ : ∃ n, n = ar.length := ⟨_, rfl⟩
     obtain ⟨ns, hns⟩ : ∃ n, n = sv.length := ⟨_, rfl⟩
     rw [<- hna] at i4
     rw [<- hns] at i5
     have HNS : Hid (ns = sv.length) := hns
     have HB2 : Hid (∀ Y, Below wp.heap.size wp (wp.alloc Y)) := below_newA wp
     have HS : Hid (∀ W, Below wp.heap.size wp W -> Calls Tryz.prog 58 #[.slice x2 ns y2] W fun e w' => e = .returned (.bool (rise 0 sv)) /\ w' = W) := fun W hW => areRising_any W (hS.below hW (Nat.le_refl _)) hns
     have hsm : ns <= 9223372036854775807 := by have := hS.le; have := hS.mx; omega
     clear hns hna hS hjB HR2
     by_cases q0 : 0 < ns
     ·have q0i : (0 : Int) < (ns : Int) := by omega
      by_cases q1 : op = 25
      ·subst q1
       obtain ⟨T, hT⟩ : ∃ T, T = rise 0 sv := ⟨_, rfl⟩
       have HR4 : Hid (R = (T && ((X.body.drop (j + 1)).all svI && (B.drop (k + 1)).all svB))) := by
        have := HR3.out
        unfold svI at this
        simp only [decide_true, Bool.or_true, Bool.true_and] at this
        rw [hT]
        exact this
       rw [<- hT] at HS
       clear hT HR3
       go_wp2_with fail
       refine Calls.mono (HS.out _ (HB2.out _)) ?_
       rintro e w' ⟨rfl, rfl⟩
       cases T
       ·obtain rfl : R = false := by rw [HR4.out]; rfl
        go_wp2_with fail
        go_ret
        exact ⟨rfl, HW.out.trans (((HW2.out).trans ((HB2.out _).mono HW2.out.size)).mono HW.out.size)⟩
       ·have HR5 : Hid (R = ((X.body.drop (j + 1)).all svI && (B.drop (k + 1)).all svB)) := by
         have := HR4.out
         simp only [Bool.true_and] at this
         exact this
        go_wp2_with fail
        go_roundw
        case rel => exact ⟨j + 1, by omega, by first | rfl | go_num, HW2.out.trans ((HB2.out _).mono HW2.out.size), HR5⟩
        case measure => simp [intOf]; try omega
      ·obtain rfl : R = false := by
        rw [HR3.out]
        unfold svI
        have : sv.isEmpty = false := by cases sv; · have := HNS.out; simp at this; omega
                                        ·rfl
        simp [this, q1]
       go_wp2_with fail
       go_ret
       exact ⟨rfl, HW.out.trans (((HW2.out).trans ((HB2.out _).mono HW2.out.size)).mono HW.out.size)⟩
     ·obtain rfl : ns = 0 := by omega
      obtain rfl : sv = [] := List.length_eq_zero_iff.1 HNS.out.symm
      have HR5 : Hid (R = ((X.body.drop (j + 1)).all svI && (B.drop (k + 1)).all svB)) := by
       have := HR3.out
       unfold svI at this
       simp only [List.isEmpty_nil, Bool.true_or, Bool.true_and, rise] at this
       exact this
      clear HR3
      go_wp2_with fail
      refine Calls.mono (HS.out _ (HB2.out _)) ?_
      rintro e w' ⟨rfl, rfl⟩
      simp only [rise]
      go_wp2_with fail
      go_roundw
      case rel => exact ⟨j + 1, by omega, by first | rfl | go_num, HW2.out.trans ((HB2.out _).mono HW2.out.size), HR5⟩
      case measure => simp [intOf]; try omega
    ·have hji : ¬ (j : Int) < (nb : Int) := by omega
     have HR5 : Hid (R = (B.drop (k + 1)).all svB) := by
      have := HR2.out
      rw [all_end (by have := HNB.out; omega), Bool.true_and] at this
      exact this
     clear HR2
     go_wp2_with fail
     go_roundw
     case rel => exact ⟨k + 1, by omega, by first | rfl | go_num, HW.out.trans (HW2.out.mono HW.out.size), HR5⟩
     case measure => simp [intOf]; try omega
  ·have hki : ¬ (k : Int) < (bn : Int) := by omega
   obtain rfl : R = true := by
    rw [HR.out]
    exact all_end (by have := HN.out; omega)
   clear HR
   go_wp2_with fail
   go_ret
   exact ⟨rfl, HW.out⟩
theorem made_oneZ (n : Nat) : madeCells #[.int .i64 0] n = ((List.replicate n (0 : Int)).map (Value.int .i64)).toArray := by
 apply Array.ext
 ·simp [madeCells]
 ·intro i h1 h2
  have e1 : (madeCells #[.int .i64 0] n)[i] = .int .i64 0 := by
   simp only [madeCells, Array.getElem_map, Array.getElem_range]
   have hz : i % 1 = 0 := by omega
   show #[Value.int .i64 0][i % 1]! = _; rw [hz]; rfl
  rw [e1]
  simp
theorem run_intsZ (n : Nat) (h : n <= 100000000) (w : World) : (Instr.makeSlice 27 (.int .i64 (n : Int)) (.int .i64 (n : Int))).run Tryz.prog w = .ok (.slice (some ⟨w.heap.size, 0, none⟩) n n) (w.alloc (.cells ((List.replicate n (0 : Int)).map (Value.int .i64)).toArray 3)) := by
 obtain ⟨i0, hi, hz0, hz1, hz2⟩ := info_parts info3i
 have hr := run_make (P := Tryz.prog) w 27 3 i0 (.int .i64 0) Tryz.underlying27 hi hz0 .i64 .i64 n n (by omega) (by omega) (by rw [hz2]; omega) (by omega)
 simp only [Int.toNat_natCast, hz1, Nat.mul_one] at hr
 rw [<- made_oneZ]
 exact hr
def Num (w : World) (g : Nat) (M : List Int) : Prop := w.heap[g]? = some (.cells (M.map (Value.int .i64)).toArray 3 (0, 0))
theorem Num.below {w w' g M} (h : Num w g M) (hb : Below w.heap.size w w') : Num w' g M := (hb.block g (gl h)).trans h
theorem Num.cell {w g M} (h : Num w g M) {i : Nat} (hi : i < M.length) : w.cell? ⟨g, i, none⟩ = some (.int .i64 M[i]) := cell_arr h (by rw [List.getElem?_toArray]; simp [hi])
theorem Num.set {w g M} (h : Num w g M) {i : Nat} (hi : i < M.length) (x : Int) : Num (w.setCell ⟨g, i, none⟩ (.int .i64 x)) g (M.set i x) := by
 have := box_set (A' := (M.set i x).map (Value.int .i64)) (i := i) (v := .int .i64 x) h (by rw [List.map_set])
 exact this
theorem Num.ints {w g M} (h : Num w g M) (hm : M.length <= 100000000) : Ints w (some ⟨g, 0, none⟩) M.length M :=
 ⟨Nat.le_refl _, by omega, fun _ => ⟨g, 0, rfl, (gl h), fun i hi => by rw [Nat.zero_add]; exact h.cell hi⟩⟩
theorem num_next {f : Int × Int -> Int} {L : List (Int × Int)} {n j : Nat} (hn : n = L.length) (hj : j < L.length) : ((L.take j).map f ++ List.replicate (n - j) 0).set j (f L[j]) = (L.take (j + 1)).map f ++ List.replicate (n - (j + 1)) 0 := by
 subst hn
 rw [List.set_append_right _ _ (by simp; omega)]
 have e : L.length - j = (L.length - (j + 1)) + 1 := by omega
 simp only [List.length_map, List.length_take]
 rw [Nat.min_eq_left (by omega), Nat.sub_self, e, List.replicate_succ, List.set_cons_zero, List.take_succ_eq_append_getElem hj, List.map_append, List.append_assoc]
 rfl
set_option maxRecDepth 100000 in
set_option maxHeartbeats 4000000 in
theorem numbers_any (w : World) {la : Option Addr} {n c : Nat} {L : List (Int × Int)} (hL : Locs w la c L) (hn : n = L.length) (hm : n <= 100000000) (s : Int) (hs : s <= 1000000) :
 Calls Tryz.prog 64 #[.slice la n c, .int .i64 s] w fun e w' => e = .returned (.slice (some ⟨w.heap.size, 0, none⟩) n n) /\ Num w' w.heap.size (L.map (numP s)) /\ Below w.heap.size w w' := by
 have hmk := run_intsZ n hm
 obtain ⟨cs, hcs⟩ : ∃ cs, cs = ((List.replicate n (0 : Int)).map (Value.int .i64)).toArray := ⟨_, rfl⟩
 rw [<- hcs] at hmk
 obtain ⟨W, hW⟩ : ∃ W, W = w.alloc (.cells cs 3) := ⟨_, rfl⟩
 obtain ⟨gb, hgb⟩ : ∃ g, g = w.heap.size := ⟨_, rfl⟩
 have HG : Hid (gb = w.heap.size) := hgb
 have HK0 : Hid (Below w.heap.size w W /\ Num W gb ((L.take 0).map (numP s) ++ List.replicate (n - 0) 0)) := by
  rw [hW]
  refine ⟨below_newA w _, ?_⟩
  unfold Num
  rw [hgb, heap_alloc_new, hcs]
  rfl
 have HN : Hid (n = L.length) := hn
 have HL : Hid (Locs w la c L) := hL
 have HS : Hid (s <= 1000000) := hs
 have hnm : n <= c /\ c <= 9223372036854775807 := ⟨by rw [hn]; have := StsG.le hL; simpa using this, StsG.mx hL⟩
 clear hcs hn hL hs
 go_enter Tryz.func64, Tryz.ntmps64
 go_wp2_with fail
 rw [<- hW, <- hgb]
 clear hW hgb hmk
 go_loopw [13] (fun v wr => ∃ j : Nat, j <= n /\ v = .int .i64 j /\ Hid (Below w.heap.size w wr /\ Num wr gb ((L.take j).map (numP s) ++ List.replicate (n - j) 0))) (fun v _ => n - (intOf v).toNat)
 case atStart => exact ⟨0, by omega, rfl, HK0⟩
 case round =>
  clear HK0
  obtain ⟨j, hj, rfl, HK⟩ := hrel
  obtain ⟨wq, rfl⟩ : ∃ wq, wq = wr := ⟨_, rfl⟩
  by_cases hjn : j < n
  ·have hji : (j : Int) < (n : Int) := by omega
   have hjL : j < L.length := by have := HN.out; omega
   obtain ⟨b, o, rfl, hbl, k0, k1⟩ := (HL.out.below HK.out.1 (Nat.le_refl _)).at hjL
   have HNX : Hid (∀ x, x = numP s L[j] -> ((L.take j).map (numP s) ++ List.replicate (n - j) 0).set j x = (L.take (j + 1)).map (numP s) ++ List.replicate (n - (j + 1)) 0) := fun x hx => by rw [hx]; exact num_next HN.out hjL
   have HNU : Hid (∀ W, Calls Tryz.prog 83 #[.agg #[.int .i64 L[j].1, .int .i64 L[j].2], .int .i64 s] W fun e w' => e = .returned (.int .i64 (numP s L[j])) /\ Below W.heap.size W w') := fun W => numberA_any W L[j] s HS.out
   obtain ⟨x, hx⟩ : ∃ x, x = numP s L[j] := ⟨_, rfl⟩
   have HX1 := HNX.out x hx
   rw [<- hx] at HNU
   generalize L[j] = l at k0 k1 HNU
   obtain ⟨lk, ln⟩ := l
   simp only at k0 k1 HNU
   have HLe : Hid (j < ((L.take j).map (numP s) ++ List.replicate (n - j) 0).length) := by
    show j < _
    rw [List.length_append, List.length_map, List.length_take, List.length_replicate, Nat.min_eq_left (Nat.le_of_lt hjL)]; omega
   have HX : Hid _ := HX1
   have HB2 : Hid (∀ Y, Below wq.heap.size wq (wq.alloc Y)) := below_newA wq
   clear hx HNX HX1 hjL
   go_wp2_with fail
   refine Calls.mono (HNU.out _) ?_
   rintro e w' ⟨rfl, hb'⟩
   have HB3 : Hid (Below wq.heap.size wq w') := (HB2.out _).trans (hb'.mono (HB2.out _).size)
   have HN1 : Hid (Num w' gb ((L.take j).map (numP s) ++ List.replicate (n - j) 0)) := HK.out.2.below HB3.out
   have c9 := HN1.out.cell HLe.out
   have f9 : w'.frozen? ⟨gb, j, none⟩ = false := fz_of HN1.out
   have hgl : gb < w'.heap.size := (gl HN1.out)
   have HKN : Hid (Below w.heap.size w (w'.setCell ⟨gb, j, none⟩ (.int .i64 x)) /\ Num (w'.setCell ⟨gb, j, none⟩ (.int .i64 x)) gb ((L.take (j + 1)).map (numP s) ++ List.replicate (n - (j + 1)) 0)) := by
    refine ⟨(HK.out.1.trans (HB3.out.mono HK.out.1.size)).setCell (Nat.le_of_eq HG.out.symm) _, ?_⟩
    have := HN1.out.set HLe.out x
    rw [HX.out] at this
    exact this
   generalize ((L.take j).map (numP s) ++ List.replicate (n - j) 0)[j]'HLe.out = z9 at c9
   clear hb' HK HN1 k0 k1
   go_wp2_with fail
   go_roundw
   case rel => exact ⟨j + 1, by omega, by first | rfl | go_num, HKN.out⟩
   case measure => simp [intOf]; try omega
  ·have hji : ¬ (j : Int) < (n : Int) := by omega
   have HKF : Hid (Num wq gb (L.map (numP s)) /\ Below w.heap.size w wq) := by
    have := HK.out
    rw [show n - j = 0 by omega, List.take_of_length_le (by have := HN.out; omega), List.replicate_zero, List.append_nil] at this
    exact ⟨this.2, this.1⟩
   clear HK
   go_wp2_with fail
   go_ret
   obtain rfl : gb = w.heap.size := HG.out
   exact ⟨rfl, HKF.out⟩
end Go.Proofs.YtegoemeefmjnoaaGreatDoor
namespace Go.Proofs.YtegoemeefmjnoaaGreatDoor
open Go.ChangeShapes Go.WideShapes Go.ChangeAt Go.RowKit
structure Li where
 op : Int
 dst : Int
 imm : Int
 args : List Int
structure Lb where
 body : List Li
 kind : Int
 val : Int
 ways : List Int
structure Lf where
 name : ByteArray
 params : List Int
 regs : Int
 result : Int
 blks : List Lb
structure LiAt (w : World) (b p : Nat) (n : Li) : Prop where
 out : ∃ (ka : Option Addr) (kc : Nat), w.cell? ⟨b, p, none⟩ = some (.int .i64 n.op) /\ w.cell? ⟨b, p + 1, none⟩ = some (.int .i64 n.dst) /\ w.cell? ⟨b, p + 2, none⟩ = some (.int .i64 n.imm) /\ w.cell? ⟨b, p + 3, none⟩ = some (.slice ka n.args.length kc) /\ Ints w ka kc n.args
structure Lis (w : World) (ao : Option Addr) (cap : Nat) (N : List Li) : Prop where
 le : N.length <= cap
 mx : cap <= 9223372036854775807
 out : N ≠ [] -> ∃ b o, ao = some ⟨b, o, none⟩ /\ b < w.heap.size /\ ∀ i (h : i < N.length), LiAt w b (o + i * 4) N[i]
structure LbAt (w : World) (b p : Nat) (n : Lb) : Prop where
 out : ∃ (ka : Option Addr) (kc : Nat) (la : Option Addr) (lc : Nat), w.cell? ⟨b, p, none⟩ = some (.slice ka n.body.length kc) /\ w.cell? ⟨b, p + 1, none⟩ = some (.int .i64 n.kind) /\ w.cell? ⟨b, p + 2, none⟩ = some (.int .i64 n.val) /\ w.cell? ⟨b, p + 3, none⟩ = some (.slice la n.ways.length lc) /\ Lis w ka kc n.body /\ Ints w la lc n.ways
structure Lbs (w : World) (ao : Option Addr) (cap : Nat) (N : List Lb) : Prop where
 le : N.length <= cap
 mx : cap <= 9223372036854775807
 out : N ≠ [] -> ∃ b o, ao = some ⟨b, o, none⟩ /\ b < w.heap.size /\ ∀ i (h : i < N.length), LbAt w b (o + i * 4) N[i]
structure LfAt (w : World) (b p : Nat) (n : Lf) : Prop where
 out : ∃ (ka : Option Addr) (kc : Nat) (la : Option Addr) (lc : Nat), w.cell? ⟨b, p, none⟩ = some (.string n.name) /\ w.cell? ⟨b, p + 1, none⟩ = some (.slice ka n.params.length kc) /\ w.cell? ⟨b, p + 2, none⟩ = some (.int .i64 n.regs) /\ w.cell? ⟨b, p + 3, none⟩ = some (.int .i64 n.result) /\ w.cell? ⟨b, p + 4, none⟩ = some (.slice la n.blks.length lc) /\ Ints w ka kc n.params /\ Lbs w la lc n.blks
structure Lfs (w : World) (ao : Option Addr) (cap : Nat) (N : List Lf) : Prop where
 le : N.length <= cap
 mx : cap <= 9223372036854775807
 out : N ≠ [] -> ∃ b o, ao = some ⟨b, o, none⟩ /\ b < w.heap.size /\ ∀ i (h : i < N.length), LfAt w b (o + i * 5) N[i]
theorem LiAt.below {w w' b p n K} (h : LiAt w b p n) (hb : Below K w w') (hK : w.heap.size <= K) (hlt : b < w.heap.size) : LiAt w' b p n := by
 obtain ⟨ka, kc, c0, c1, c2, c3, hI⟩ := h.out
 have hc : ∀ q, w'.cell? ⟨b, q, none⟩ = w.cell? ⟨b, q, none⟩ := fun q => hb.cell (p := ⟨b, q, none⟩) (by show b < K; omega)
 exact ⟨ka, kc, by rw [hc]; exact c0, by rw [hc]; exact c1, by rw [hc]; exact c2, by rw [hc]; exact c3, hI.below hb hK⟩
theorem Lis.below {w w' ao cap N K} (h : Lis w ao cap N) (hb : Below K w w') (hK : w.heap.size <= K) : Lis w' ao cap N :=
 ⟨h.le, h.mx, fun hn => by
  obtain ⟨b, o, e, hl, hA⟩ := h.out hn
  exact ⟨b, o, e, by have := hb.size; omega, fun i hi => (hA i hi).below hb hK hl⟩⟩
theorem LbAt.below {w w' b p n K} (h : LbAt w b p n) (hb : Below K w w') (hK : w.heap.size <= K) (hlt : b < w.heap.size) : LbAt w' b p n := by
 obtain ⟨ka, kc, la, lc, c0, c1, c2, c3, h1, h2⟩ := h.out
 have hc : ∀ q, w'.cell? ⟨b, q, none⟩ = w.cell? ⟨b, q, none⟩ := fun q => hb.cell (p := ⟨b, q, none⟩) (by show b < K; omega)
 exact ⟨ka, kc, la, lc, by rw [hc]; exact c0, by rw [hc]; exact c1, by rw [hc]; exact c2, by rw [hc]; exact c3, h1.below hb hK, h2.below hb hK⟩
theorem Lbs.below {w w' ao cap N K} (h : Lbs w ao cap N) (hb : Below K w w') (hK : w.heap.size <= K) : Lbs w' ao cap N :=
 ⟨h.le, h.mx, fun hn => by
  obtain ⟨b, o, e, hl, hA⟩ := h.out hn
  exact ⟨b, o, e, by have := hb.size; omega, fun i hi => (hA i hi).below hb hK hl⟩⟩
theorem LfAt.below {w w' b p n K} (h : LfAt w b p n) (hb : Below K w w') (hK : w.heap.size <= K) (hlt : b < w.heap.size) : LfAt w' b p n := by
 obtain ⟨ka, kc, la, lc, c0, c1, c2, c3, c4, h1, h2⟩ := h.out
 have hc : ∀ q, w'.cell? ⟨b, q, none⟩ = w.cell? ⟨b, q, none⟩ := fun q => hb.cell (p := ⟨b, q, none⟩) (by show b < K; omega)
 exact ⟨ka, kc, la, lc, by rw [hc]; exact c0, by rw [hc]; exact c1, by rw [hc]; exact c2, by rw [hc]; exact c3, by rw [hc]; exact c4, h1.below hb hK, h2.below hb hK⟩
theorem Lfs.below {w w' ao cap N K} (h : Lfs w ao cap N) (hb : Below K w w') (hK : w.heap.size <= K) : Lfs w' ao cap N :=
 ⟨h.le, h.mx, fun hn => by
  obtain ⟨b, o, e, hl, hA⟩ := h.out hn
  exact ⟨b, o, e, by have := hb.size; omega, fun i hi => (hA i hi).below hb hK hl⟩⟩
theorem Lis.at {w ao cap} {L : List Li} (h : Lis w ao cap L) {j : Nat} (hj : j < L.length) : ∃ (b o : Nat) (ka : Option Addr) (kc : Nat), ao = some ⟨b, o, none⟩ /\ b < w.heap.size /\ w.cell? ⟨b, o + j * 4, none⟩ = some (.int .i64 L[j].op) /\ w.cell? ⟨b, o + j * 4 + 1, none⟩ = some (.int .i64 L[j].dst) /\ w.cell? ⟨b, o + j * 4 + 2, none⟩ = some (.int .i64 L[j].imm) /\ w.cell? ⟨b, o + j * 4 + 3, none⟩ = some (.slice ka L[j].args.length kc) /\ Ints w ka kc L[j].args := by
 obtain ⟨b, o, e, hl, hA⟩ := h.out (by intro q; rw [q] at hj; simp at hj)
 obtain ⟨ka, kc, c0, c1, c2, c3, hI⟩ := (hA j hj).out
 exact ⟨b, o, ka, kc, e, hl, c0, c1, c2, c3, hI⟩
theorem Lbs.at {w ao cap} {L : List Lb} (h : Lbs w ao cap L) {j : Nat} (hj : j < L.length) : ∃ (b o : Nat) (ka : Option Addr) (kc : Nat) (la : Option Addr) (lc : Nat), ao = some ⟨b, o, none⟩ /\ b < w.heap.size /\ w.cell? ⟨b, o + j * 4, none⟩ = some (.slice ka L[j].body.length kc) /\ w.cell? ⟨b, o + j * 4 + 1, none⟩ = some (.int .i64 L[j].kind) /\ w.cell? ⟨b, o + j * 4 + 2, none⟩ = some (.int .i64 L[j].val) /\ w.cell? ⟨b, o + j * 4 + 3, none⟩ = some (.slice la L[j].ways.length lc) /\ Lis w ka kc L[j].body /\ Ints w la lc L[j].ways := by
 obtain ⟨b, o, e, hl, hA⟩ := h.out (by intro q; rw [q] at hj; simp at hj)
 obtain ⟨ka, kc, la, lc, c0, c1, c2, c3, h1, h2⟩ := (hA j hj).out
 exact ⟨b, o, ka, kc, la, lc, e, hl, c0, c1, c2, c3, h1, h2⟩
theorem Lfs.at {w ao cap} {L : List Lf} (h : Lfs w ao cap L) {j : Nat} (hj : j < L.length) : ∃ (b o : Nat) (ka : Option Addr) (kc : Nat) (la : Option Addr) (lc : Nat), ao = some ⟨b, o, none⟩ /\ b < w.heap.size /\ w.cell? ⟨b, o + j * 5, none⟩ = some (.string L[j].name) /\ w.cell? ⟨b, o + j * 5 + 1, none⟩ = some (.slice ka L[j].params.length kc) /\ w.cell? ⟨b, o + j * 5 + 2, none⟩ = some (.int .i64 L[j].regs) /\ w.cell? ⟨b, o + j * 5 + 3, none⟩ = some (.int .i64 L[j].result) /\ w.cell? ⟨b, o + j * 5 + 4, none⟩ = some (.slice la L[j].blks.length lc) /\ Ints w ka kc L[j].params /\ Lbs w la lc L[j].blks := by
 obtain ⟨b, o, e, hl, hA⟩ := h.out (by intro q; rw [q] at hj; simp at hj)
 obtain ⟨ka, kc, la, lc, c0, c1, c2, c3, c4, h1, h2⟩ := (hA j hj).out
 exact ⟨b, o, ka, kc, la, lc, e, hl, c0, c1, c2, c3, c4, h1, h2⟩
end Go.Proofs.YtegoemeefmjnoaaGreatDoor
