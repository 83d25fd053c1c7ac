import Derived.Test.YtegoemeefmjnoaaGreatDoorJbb
set_option linter.unusedVariables false
set_option linter.unusedSimpArgs false
namespace Go.Proofs.YtegoemeefmjnoaaGreatDoor
open Go.ChangeShapes Go.WideShapes Go.ChangeAt Go.RowKit
set_option maxRecDepth 10000 in
theorem countFits_no (w : World) {op dst imm : Int} {ka : Option Addr} {kl kc : Nat} (ho : op < 1 \/ 31 < op) : Calls Tryz.prog 97 #[.agg #[.int .i64 op, .int .i64 dst, .int .i64 imm, .slice ka kl kc]] w fun e w' => e = .returned (.bool false) /\ Below w.heap.size w w' := by
 have HB : Hid (Below w.heap.size w (w.alloc (.cells #[.int .i64 op, .int .i64 dst, .int .i64 imm, .slice ka kl kc] 147))) := below_newL _ _
 have h1 : (op == 1) = false := by simp; omega
 have h2 : (op == 2) = false := by simp; omega
 have h3 : (op == 3) = false := by simp; omega
 have h4 : (op == 4) = false := by simp; omega
 have h5 : (op == 5) = false := by simp; omega
 have h6 : (op == 6) = false := by simp; omega
 have h7 : (op == 7) = false := by simp; omega
 have h8 : (op == 8) = false := by simp; omega
 have h9 : (op == 9) = false := by simp; omega
 have h10 : (op == 10) = false := by simp; omega
 have h11 : (op == 11) = false := by simp; omega
 have h12 : (op == 12) = false := by simp; omega
 have h13 : (op == 13) = false := by simp; omega
 have h14 : (op == 14) = false := by simp; omega
 have h15 : (op == 15) = false := by simp; omega
 have h16 : (op == 16) = false := by simp; omega
 have h17 : (op == 17) = false := by simp; omega
 have h18 : (op == 18) = false := by simp; omega
 have h19 : (op == 19) = false := by simp; omega
 have h20 : (op == 20) = false := by simp; omega
 have h21 : (op == 21) = false := by simp; omega
 have h22 : (op == 22) = false := by simp; omega
 have h23 : (op == 23) = false := by simp; omega
 have h24 : (op == 24) = false := by simp; omega
 have h25 : (op == 25) = false := by simp; omega
 have h26 : (op == 26) = false := by simp; omega
 have h27 : (op == 27) = false := by simp; omega
 have h28 : (op == 28) = false := by simp; omega
 have h29 : (op == 29) = false := by simp; omega
 have h30 : (op == 30) = false := by simp; omega
 have h31 : (op == 31) = false := by simp; omega
 clear ho
 go_enter Tryz.func97, Tryz.ntmps97
 go_wp2_with fail
 go_ret
 exact ⟨rfl, HB.out⟩
theorem countFits_any (w : World) {op dst imm : Int} {ka : Option Addr} {kl kc : Nat} (hc : kl <= kc) (hm : kc <= 9223372036854775807) : Calls Tryz.prog 97 #[.agg #[.int .i64 op, .int .i64 dst, .int .i64 imm, .slice ka kl kc]] w fun e w' => e = .returned (.bool (cn14 op kl)) /\ Below w.heap.size w w' := by
 by_cases ho : op < 1 \/ 31 < op
 ·have e : cn14 op kl = false := by
   unfold cn14
   rw [if_neg (by omega), if_neg (by omega), if_neg (by omega), if_neg (by omega), if_neg (by omega)]
  rw [e]
  exact countFits_no w ho
 ·rcases (by omega : op = 1 \/ op = 2 \/ op = 3 \/ op = 4 \/ op = 5 \/ op = 6 \/ op = 7 \/ op = 8 \/ op = 9 \/ op = 10 \/ op = 11 \/ op = 12 \/ op = 13 \/ op = 14 \/ op = 15 \/ op = 16 \/ op = 17 \/ op = 18 \/ op = 19 \/ op = 20 \/ op = 21 \/ op = 22 \/ op = 23 \/ op = 24 \/ op = 25 \/ op = 26 \/ op = 27 \/ op = 28 \/ op = 29 \/ op = 30 \/ op = 31) with rfl | rfl | rfl | rfl | rfl | rfl | rfl | rfl | rfl | rfl | rfl | rfl | rfl | rfl | rfl | rfl | rfl | rfl | rfl | rfl | rfl | rfl | rfl | rfl | rfl | rfl | rfl | rfl | rfl | rfl | rfl
  ·exact countFits_1 w hc hm
  ·exact countFits_2 w hc hm
  ·exact countFits_3 w hc hm
  ·exact countFits_4 w hc hm
  ·exact countFits_5 w hc hm
  ·exact countFits_6 w hc hm
  ·exact countFits_7 w hc hm
  ·exact countFits_8 w hc hm
  ·exact countFits_9 w hc hm
  ·exact countFits_10 w hc hm
  ·exact countFits_11 w hc hm
  ·exact countFits_12 w hc hm
  ·exact countFits_13 w hc hm
  ·exact countFits_14 w hc hm
  ·exact countFits_15 w hc hm
  ·exact countFits_16 w hc hm
  ·exact countFits_17 w hc hm
  ·exact countFits_18 w hc hm
  ·exact countFits_19 w hc hm
  ·exact countFits_20 w hc hm
  ·exact countFits_21 w hc hm
  ·exact countFits_22 w hc hm
  ·exact countFits_23 w hc hm
  ·exact countFits_24 w hc hm
  ·exact countFits_25 w hc hm
  ·exact countFits_26 w hc hm
  ·exact countFits_27 w hc hm
  ·exact countFits_28 w hc hm
  ·exact countFits_29 w hc hm
  ·exact countFits_30 w hc hm
  ·exact countFits_31 w hc hm
set_option maxRecDepth 10000 in
theorem immFits_any (w : World) {op dst imm : Int} {ka : Option Addr} {kl kc : Nat} : Calls Tryz.prog 99 #[.agg #[.int .i64 op, .int .i64 dst, .int .i64 imm, .slice ka kl kc]] w fun e w' => e = .returned (.bool (im14 op imm)) /\ Below w.heap.size w w' := by
 have HB : Hid (∀ x : Int, Below w.heap.size w (w.alloc (.cells #[.int .i64 x, .int .i64 dst, .int .i64 imm, .slice ka kl kc] 147))) := fun x => below_newL _ _
 by_cases o1 : op = 1
 ·subst o1
  have e : im14 1 imm = true := rfl
  rw [e]
  go_enter Tryz.func99, Tryz.ntmps99
  go_wp2_with fail
  go_ret
  exact ⟨by first | rfl | simp [im14], HB.out _⟩
 by_cases o2 : op = 25
 ·subst o2
  have e : im14 25 imm = decide (0 <= imm) := rfl
  rw [e]
  cases hd : decide (0 <= imm)
  ·go_enter Tryz.func99, Tryz.ntmps99
   go_wp2_with fail
   go_ret
   exact ⟨by first | rfl | simp [im14], HB.out _⟩
  ·go_enter Tryz.func99, Tryz.ntmps99
   go_wp2_with fail
   go_ret
   exact ⟨by first | rfl | simp [im14], HB.out _⟩
 by_cases o28 : op = 28
 ·subst o28
  have e : im14 28 imm = (decide (1 <= imm) && decide (imm <= 5)) := rfl
  rw [e]
  cases hd : decide (1 <= imm)
  ·rw [Bool.false_and]
   go_enter Tryz.func99, Tryz.ntmps99
   go_wp2_with fail
   go_ret
   exact ⟨by first | rfl | simp [im14], HB.out _⟩
  ·rw [Bool.true_and]
   cases hd2 : decide (imm <= 5)
   ·go_enter Tryz.func99, Tryz.ntmps99
    go_wp2_with fail
    go_ret
    exact ⟨by first | rfl | simp [im14], HB.out _⟩
   ·go_enter Tryz.func99, Tryz.ntmps99
    go_wp2_with fail
    go_ret
    exact ⟨by first | rfl | simp [im14], HB.out _⟩
 by_cases o29 : op = 29
 ·subst o29
  have e : im14 29 imm = (decide (1 <= imm) && decide (imm <= 5)) := rfl
  rw [e]
  cases hd : decide (1 <= imm)
  ·rw [Bool.false_and]
   go_enter Tryz.func99, Tryz.ntmps99
   go_wp2_with fail
   go_ret
   exact ⟨by first | rfl | simp [im14], HB.out _⟩
  ·rw [Bool.true_and]
   cases hd2 : decide (imm <= 5)
   ·go_enter Tryz.func99, Tryz.ntmps99
    go_wp2_with fail
    go_ret
    exact ⟨by first | rfl | simp [im14], HB.out _⟩
   ·go_enter Tryz.func99, Tryz.ntmps99
    go_wp2_with fail
    go_ret
    exact ⟨by first | rfl | simp [im14], HB.out _⟩
 by_cases o30 : op = 30
 ·subst o30
  have e : im14 30 imm = (decide (1 <= imm) && decide (imm <= 5)) := rfl
  rw [e]
  cases hd : decide (1 <= imm)
  ·rw [Bool.false_and]
   go_enter Tryz.func99, Tryz.ntmps99
   go_wp2_with fail
   go_ret
   exact ⟨by first | rfl | simp [im14], HB.out _⟩
  ·rw [Bool.true_and]
   cases hd2 : decide (imm <= 5)
   ·go_enter Tryz.func99, Tryz.ntmps99
    go_wp2_with fail
    go_ret
    exact ⟨by first | rfl | simp [im14], HB.out _⟩
   ·go_enter Tryz.func99, Tryz.ntmps99
    go_wp2_with fail
    go_ret
    exact ⟨by first | rfl | simp [im14], HB.out _⟩
 have e : im14 op imm = decide (imm = 0) := by unfold im14; rw [if_neg o1, if_neg o2, if_neg (by omega)]
 rw [e]
 have h1 : (op == 1) = false := by simp [o1]
 have h2 : (op == 25) = false := by simp [o2]
 have h3 : (op == 28) = false := by simp [o28]
 have h4 : (op == 29) = false := by simp [o29]
 have h5 : (op == 30) = false := by simp [o30]
 clear e o1 o2 o28 o29 o30
 by_cases hz : imm = 0
 ·subst hz
  go_enter Tryz.func99, Tryz.ntmps99
  go_wp2_with fail
  go_ret
  exact ⟨by first | rfl | simp, HB.out _⟩
 ·have hd : (imm == 0) = false := by simp [hz]
  rw [decide_eq_false hz]
  clear hz
  go_enter Tryz.func99, Tryz.ntmps99
  go_wp2_with fail
  go_ret
  exact ⟨by first | rfl | simp [im14], HB.out _⟩
structure Two (w : World) (A B : Obj) (w' : World) : Prop where
 one : w'.heap[w.heap.size]? = some A
 two : w'.heap[w.heap.size + 1]? = some B
 low : Below w.heap.size w w'
theorem Two.start (w : World) (A B : Obj) : Two w A B ((w.alloc A).alloc B) := by
 refine ⟨?_, ?_, ((Below.refl _ _).alloc (Nat.le_refl _) _).alloc (by simp) _⟩
 ·rw [heap_alloc_old _ _ (by simp)]; exact heap_alloc_new _ _
 ·have := heap_alloc_new (w.alloc A) B
  simpa using this
theorem Two.next {w A B w' w''} (h : Two w A B w') (hb : Below w'.heap.size w' w'') : Two w A B w'' :=
 ⟨(hb.block _ (gl h.one)).trans h.one, (hb.block _ (gl h.two)).trans h.two, h.low.trans (hb.mono h.low.size)⟩
def ds14 (rg op dst : Int) : Bool := if op = 22 \/ op = 26 \/ op = 27 \/ op = 28 \/ op = 29 \/ op = 30 then decide (dst = -1) else if op = 25 then decide (dst = -1) || rgP rg dst else rgP rg dst
def isTn14 (t : Int) : Bool := decide (0 <= t) && decide (t <= 3)
theorem isTn_any (w : World) (t : Int) : Calls Tryz.prog 79 #[.int .i64 t] w fun e w' => e = .returned (.bool (isTn14 t)) /\ w' = w := by
 unfold isTn14
 cases hd : decide (0 <= t)
 ·rw [Bool.false_and]
  go_enter Tryz.func79, Tryz.ntmps79
  go_wp2_with fail
  go_ret
  exact ⟨rfl, rfl⟩
 ·rw [Bool.true_and]
  go_enter Tryz.func79, Tryz.ntmps79
  go_wp2_with fail
  go_ret
  exact ⟨rfl, rfl⟩
set_option maxRecDepth 10000 in
set_option maxHeartbeats 2000000 in
theorem dstFits_any (w : World) {s : ByteArray} {pa : Option Addr} {pn pc : Nat} {rg rs : Int} {ba : Option Addr} {bn bc : Nat} {op : Int} {dst imm : Int} {ka : Option Addr} {kl kc : Nat} : Calls Tryz.prog 98 #[.agg #[.string s, .slice pa pn pc, .int .i64 rg, .int .i64 rs, .slice ba bn bc], .agg #[.int .i64 op, .int .i64 dst, .int .i64 imm, .slice ka kl kc]] w fun e w' => e = .returned (.bool (ds14 rg op dst)) /\ Below w.heap.size w w' := by
 obtain ⟨W, hW⟩ : ∃ W, W = (w.alloc (.cells #[.string s, .slice pa pn pc, .int .i64 rg, .int .i64 rs, .slice ba bn bc] 125)).alloc (.cells #[.int .i64 op, .int .i64 dst, .int .i64 imm, .slice ka kl kc] 147) := ⟨_, rfl⟩
 have hT : Two w (.cells #[.string s, .slice pa pn pc, .int .i64 rg, .int .i64 rs, .slice ba bn bc] 125) (.cells #[.int .i64 op, .int .i64 dst, .int .i64 imm, .slice ka kl kc] 147) W := by rw [hW]; exact Two.start _ _ _
 have HLO : Hid (Below w.heap.size w W) := hT.low
 have f0 : W.cell? ⟨w.heap.size, 0, none⟩ = some (.string s) := cell_arr hT.one rfl
 have f1 : W.cell? ⟨w.heap.size, 1, none⟩ = some (.slice pa pn pc) := cell_arr hT.one rfl
 have f2 : W.cell? ⟨w.heap.size, 2, none⟩ = some (.int .i64 rg) := cell_arr hT.one rfl
 have f3 : W.cell? ⟨w.heap.size, 3, none⟩ = some (.int .i64 rs) := cell_arr hT.one rfl
 have f4 : W.cell? ⟨w.heap.size, 4, none⟩ = some (.slice ba bn bc) := cell_arr hT.one rfl
 have x0 : W.cell? ⟨w.heap.size + 1, 0, none⟩ = some (.int .i64 op) := cell_arr hT.two rfl
 have x1 : W.cell? ⟨w.heap.size + 1, 1, none⟩ = some (.int .i64 dst) := cell_arr hT.two rfl
 have x2 : W.cell? ⟨w.heap.size + 1, 2, none⟩ = some (.int .i64 imm) := cell_arr hT.two rfl
 have x3 : W.cell? ⟨w.heap.size + 1, 3, none⟩ = some (.slice ka kl kc) := cell_arr hT.two rfl
 have HR : Hid (Calls Tryz.prog 106 #[.agg #[.string s, .slice pa pn pc, .int .i64 rg, .int .i64 rs, .slice ba bn bc], .int .i64 dst] W fun e w' => e = .returned (.bool (rgP rg dst)) /\ Below W.heap.size W w') := isReg_any W dst
 obtain ⟨T, hTT⟩ : ∃ T, T = rgP rg dst := ⟨_, rfl⟩
 unfold ds14
 rw [<- hTT] at HR ⊢
 clear hT hTT
 by_cases o22 : op = 22
 ·subst o22
  rw [if_pos (by decide)]
  by_cases hz : dst = -1
  ·subst hz
   rw [decide_eq_true rfl]
   go_enter Tryz.func98, Tryz.ntmps98
   go_wp2_with fail
   rw [<- hW]
   go_wp2_with fail
   go_ret
   exact ⟨rfl, HLO.out⟩
  ·have hd : (dst == -1) = false := by simp [hz]
   rw [decide_eq_false hz]
   clear hz
   go_enter Tryz.func98, Tryz.ntmps98
   go_wp2_with fail
   rw [<- hW]
   go_wp2_with fail
   go_ret
   exact ⟨rfl, HLO.out⟩
 by_cases o26 : op = 26
 ·subst o26
  rw [if_pos (by decide)]
  by_cases hz : dst = -1
  ·subst hz
   rw [decide_eq_true rfl]
   go_enter Tryz.func98, Tryz.ntmps98
   go_wp2_with fail
   rw [<- hW]
   go_wp2_with fail
   go_ret
   exact ⟨rfl, HLO.out⟩
  ·have hd : (dst == -1) = false := by simp [hz]
   rw [decide_eq_false hz]
   clear hz
   go_enter Tryz.func98, Tryz.ntmps98
   go_wp2_with fail
   rw [<- hW]
   go_wp2_with fail
   go_ret
   exact ⟨rfl, HLO.out⟩
 by_cases o27 : op = 27
 ·subst o27
  rw [if_pos (by decide)]
  by_cases hz : dst = -1
  ·subst hz
   rw [decide_eq_true rfl]
   go_enter Tryz.func98, Tryz.ntmps98
   go_wp2_with fail
   rw [<- hW]
   go_wp2_with fail
   go_ret
   exact ⟨rfl, HLO.out⟩
  ·have hd : (dst == -1) = false := by simp [hz]
   rw [decide_eq_false hz]
   clear hz
   go_enter Tryz.func98, Tryz.ntmps98
   go_wp2_with fail
   rw [<- hW]
   go_wp2_with fail
   go_ret
   exact ⟨rfl, HLO.out⟩
 by_cases o28 : op = 28
 ·subst o28
  rw [if_pos (by decide)]
  by_cases hz : dst = -1
  ·subst hz
   rw [decide_eq_true rfl]
   go_enter Tryz.func98, Tryz.ntmps98
   go_wp2_with fail
   rw [<- hW]
   go_wp2_with fail
   go_ret
   exact ⟨rfl, HLO.out⟩
  ·have hd : (dst == -1) = false := by simp [hz]
   rw [decide_eq_false hz]
   clear hz
   go_enter Tryz.func98, Tryz.ntmps98
   go_wp2_with fail
   rw [<- hW]
   go_wp2_with fail
   go_ret
   exact ⟨rfl, HLO.out⟩
 by_cases o29 : op = 29
 ·subst o29
  rw [if_pos (by decide)]
  by_cases hz : dst = -1
  ·subst hz
   rw [decide_eq_true rfl]
   go_enter Tryz.func98, Tryz.ntmps98
   go_wp2_with fail
   rw [<- hW]
   go_wp2_with fail
   go_ret
   exact ⟨rfl, HLO.out⟩
  ·have hd : (dst == -1) = false := by simp [hz]
   rw [decide_eq_false hz]
   clear hz
   go_enter Tryz.func98, Tryz.ntmps98
   go_wp2_with fail
   rw [<- hW]
   go_wp2_with fail
   go_ret
   exact ⟨rfl, HLO.out⟩
 by_cases o30 : op = 30
 ·subst o30
  rw [if_pos (by decide)]
  by_cases hz : dst = -1
  ·subst hz
   rw [decide_eq_true rfl]
   go_enter Tryz.func98, Tryz.ntmps98
   go_wp2_with fail
   rw [<- hW]
   go_wp2_with fail
   go_ret
   exact ⟨rfl, HLO.out⟩
  ·have hd : (dst == -1) = false := by simp [hz]
   rw [decide_eq_false hz]
   clear hz
   go_enter Tryz.func98, Tryz.ntmps98
   go_wp2_with fail
   rw [<- hW]
   go_wp2_with fail
   go_ret
   exact ⟨rfl, HLO.out⟩
 rw [if_neg (by omega)]
 by_cases o25 : op = 25
 ·subst o25
  rw [if_pos rfl]
  by_cases hz : dst = -1
  ·subst hz
   rw [decide_eq_true rfl, Bool.true_or]
   go_enter Tryz.func98, Tryz.ntmps98
   go_wp2_with fail
   rw [<- hW]
   go_wp2_with fail
   go_ret
   exact ⟨rfl, HLO.out⟩
  ·have hd : (dst == -1) = false := by simp [hz]
   rw [decide_eq_false hz, Bool.false_or]
   clear hz
   go_enter Tryz.func98, Tryz.ntmps98
   go_wp2_with fail
   rw [<- hW]
   refine Calls.mono HR.out ?_
   rintro e w1 ⟨rfl, hb1⟩
   have HB1 : Hid (Below w.heap.size w w1) := HLO.out.trans (hb1.mono HLO.out.size)
   clear hb1
   go_wp2_with fail
   go_ret
   exact ⟨rfl, HB1.out⟩
 rw [if_neg o25]
 have q22 : (op == 22) = false := by simp [o22]
 have q26 : (op == 26) = false := by simp [o26]
 have q27 : (op == 27) = false := by simp [o27]
 have q28 : (op == 28) = false := by simp [o28]
 have q29 : (op == 29) = false := by simp [o29]
 have q30 : (op == 30) = false := by simp [o30]
 have q25 : (op == 25) = false := by simp [o25]
 clear o22 o26 o27 o28 o29 o30 o25
 go_enter Tryz.func98, Tryz.ntmps98
 go_wp2_with fail
 rw [<- hW]
 refine Calls.mono HR.out ?_
 rintro e w1 ⟨rfl, hb1⟩
 have HB1 : Hid (Below w.heap.size w w1) := HLO.out.trans (hb1.mono HLO.out.size)
 clear hb1
 go_wp2_with fail
 go_ret
 exact ⟨rfl, HB1.out⟩
def in14 (rg : Int) (x : Li) : Bool := cn14 x.op x.args.length && (x.args.all (rgP rg) && (ds14 rg x.op x.dst && im14 x.op x.imm))
set_option maxRecDepth 10000 in
set_option maxHeartbeats 2000000 in
theorem insFits_any (w : World) {s : ByteArray} {pa : Option Addr} {pn pc : Nat} {rg rs : Int} {ba : Option Addr} {bn bc : Nat} {x : Li} {ka : Option Addr} {kc : Nat} (hI : Ints w ka kc x.args) : Calls Tryz.prog 80 #[.agg #[.string s, .slice pa pn pc, .int .i64 rg, .int .i64 rs, .slice ba bn bc], .agg #[.int .i64 x.op, .int .i64 x.dst, .int .i64 x.imm, .slice ka x.args.length kc]] w fun e w' => e = .returned (.bool (in14 rg x)) /\ Below w.heap.size w w' := by
 obtain ⟨op, dst, imm, A⟩ := x
 simp only at hI ⊢
 obtain ⟨kl, hkl⟩ : ∃ n, n = A.length := ⟨_, rfl⟩
 rw [<- hkl]
 obtain ⟨W, hW⟩ : ∃ W, W = (w.alloc (.cells #[.string s, .slice pa pn pc, .int .i64 rg, .int .i64 rs, .slice ba bn bc] 125)).alloc (.cells #[.int .i64 op, .int .i64 dst, .int .i64 imm, .slice ka kl kc] 147) := ⟨_, rfl⟩
 have hT : Two w (.cells #[.string s, .slice pa pn pc, .int .i64 rg, .int .i64 rs, .slice ba bn bc] 125) (.cells #[.int .i64 op, .int .i64 dst, .int .i64 imm, .slice ka kl kc] 147) W := by rw [hW]; exact Two.start _ _ _
 have HT : Hid (Two w (.cells #[.string s, .slice pa pn pc, .int .i64 rg, .int .i64 rs, .slice ba bn bc] 125) (.cells #[.int .i64 op, .int .i64 dst, .int .i64 imm, .slice ka kl kc] 147) W) := hT
 have hkc : kl <= kc /\ kc <= 9223372036854775807 := by have := hI.le; have := hI.mx; omega
 have f0 : W.cell? ⟨w.heap.size, 0, none⟩ = some (.string s) := cell_arr hT.one rfl
 have f1 : W.cell? ⟨w.heap.size, 1, none⟩ = some (.slice pa pn pc) := cell_arr hT.one rfl
 have f2 : W.cell? ⟨w.heap.size, 2, none⟩ = some (.int .i64 rg) := cell_arr hT.one rfl
 have f3 : W.cell? ⟨w.heap.size, 3, none⟩ = some (.int .i64 rs) := cell_arr hT.one rfl
 have f4 : W.cell? ⟨w.heap.size, 4, none⟩ = some (.slice ba bn bc) := cell_arr hT.one rfl
 have x0 : W.cell? ⟨w.heap.size + 1, 0, none⟩ = some (.int .i64 op) := cell_arr hT.two rfl
 have x1 : W.cell? ⟨w.heap.size + 1, 1, none⟩ = some (.int .i64 dst) := cell_arr hT.two rfl
 have x2 : W.cell? ⟨w.heap.size + 1, 2, none⟩ = some (.int .i64 imm) := cell_arr hT.two rfl
 have x3 : W.cell? ⟨w.heap.size + 1, 3, none⟩ = some (.slice ka kl kc) := cell_arr hT.two rfl
 obtain ⟨T1, h1⟩ : ∃ T, T = cn14 op kl := ⟨_, rfl⟩
 obtain ⟨T2, h2⟩ : ∃ T, T = A.all (rgP rg) := ⟨_, rfl⟩
 obtain ⟨T3, h3⟩ : ∃ T, T = ds14 rg op dst := ⟨_, rfl⟩
 obtain ⟨T4, h4⟩ : ∃ T, T = im14 op imm := ⟨_, rfl⟩
 have H1 : Hid (∀ w', Calls Tryz.prog 97 #[.agg #[.int .i64 op, .int .i64 dst, .int .i64 imm, .slice ka kl kc]] w' fun e w'' => e = .returned (.bool T1) /\ Below w'.heap.size w' w'') := fun w' => by rw [h1]; exact countFits_any w' hkc.1 hkc.2
 have H2 : Hid (∀ w', Below w.heap.size w w' -> Calls Tryz.prog 95 #[.agg #[.string s, .slice pa pn pc, .int .i64 rg, .int .i64 rs, .slice ba bn bc], .slice ka kl kc] w' fun e w'' => e = .returned (.bool T2) /\ Below w'.heap.size w' w'') := fun w' hb => by rw [h2]; exact areReg_any w' (hI.below hb (Nat.le_refl _)) hkl
 have H3 : Hid (∀ w', Calls Tryz.prog 98 #[.agg #[.string s, .slice pa pn pc, .int .i64 rg, .int .i64 rs, .slice ba bn bc], .agg #[.int .i64 op, .int .i64 dst, .int .i64 imm, .slice ka kl kc]] w' fun e w'' => e = .returned (.bool T3) /\ Below w'.heap.size w' w'') := fun w' => by rw [h3]; exact dstFits_any w'
 have H4 : Hid (∀ w', Calls Tryz.prog 99 #[.agg #[.int .i64 op, .int .i64 dst, .int .i64 imm, .slice ka kl kc]] w' fun e w'' => e = .returned (.bool T4) /\ Below w'.heap.size w' w'') := fun w' => by rw [h4]; exact immFits_any w'
 have e0 : in14 rg ⟨op, dst, imm, A⟩ = (T1 && (T2 && (T3 && T4))) := by rw [h1, h2, h3, h4, hkl]; rfl
 rw [e0]
 clear h1 h2 h3 h4 hkl e0 hI hT
 go_enter Tryz.func80, Tryz.ntmps80
 go_wp2_with fail
 rw [<- hW]
 clear hW
 refine Calls.mono (H1.out W) ?_
 rintro e w1 ⟨rfl, hb1⟩
 have HT1 : Hid _ := HT.out.next hb1
 clear hb1 f0 f1 f2 f3 f4 x0 x1 x2 x3
 have f0 : w1.cell? ⟨w.heap.size, 0, none⟩ = some (.string s) := cell_arr HT1.out.one rfl
 have f1 : w1.cell? ⟨w.heap.size, 1, none⟩ = some (.slice pa pn pc) := cell_arr HT1.out.one rfl
 have f2 : w1.cell? ⟨w.heap.size, 2, none⟩ = some (.int .i64 rg) := cell_arr HT1.out.one rfl
 have f3 : w1.cell? ⟨w.heap.size, 3, none⟩ = some (.int .i64 rs) := cell_arr HT1.out.one rfl
 have f4 : w1.cell? ⟨w.heap.size, 4, none⟩ = some (.slice ba bn bc) := cell_arr HT1.out.one rfl
 have x0 : w1.cell? ⟨w.heap.size + 1, 0, none⟩ = some (.int .i64 op) := cell_arr HT1.out.two rfl
 have x1 : w1.cell? ⟨w.heap.size + 1, 1, none⟩ = some (.int .i64 dst) := cell_arr HT1.out.two rfl
 have x2 : w1.cell? ⟨w.heap.size + 1, 2, none⟩ = some (.int .i64 imm) := cell_arr HT1.out.two rfl
 have x3 : w1.cell? ⟨w.heap.size + 1, 3, none⟩ = some (.slice ka kl kc) := cell_arr HT1.out.two rfl
 cases T1 with
 | false =>
   go_wp2_with fail
   go_ret
   exact ⟨rfl, HT1.out.low⟩
 | true =>
   go_wp2_with fail
   refine Calls.mono (H2.out w1 HT1.out.low) ?_
   rintro e w2 ⟨rfl, hb2⟩
   have HT2 : Hid _ := HT1.out.next hb2
   clear hb2 f0 f1 f2 f3 f4 x0 x1 x2 x3
   have f0 : w2.cell? ⟨w.heap.size, 0, none⟩ = some (.string s) := cell_arr HT2.out.one rfl
   have f1 : w2.cell? ⟨w.heap.size, 1, none⟩ = some (.slice pa pn pc) := cell_arr HT2.out.one rfl
   have f2 : w2.cell? ⟨w.heap.size, 2, none⟩ = some (.int .i64 rg) := cell_arr HT2.out.one rfl
   have f3 : w2.cell? ⟨w.heap.size, 3, none⟩ = some (.int .i64 rs) := cell_arr HT2.out.one rfl
   have f4 : w2.cell? ⟨w.heap.size, 4, none⟩ = some (.slice ba bn bc) := cell_arr HT2.out.one rfl
   have x0 : w2.cell? ⟨w.heap.size + 1, 0, none⟩ = some (.int .i64 op) := cell_arr HT2.out.two rfl
   have x1 : w2.cell? ⟨w.heap.size + 1, 1, none⟩ = some (.int .i64 dst) := cell_arr HT2.out.two rfl
   have x2 : w2.cell? ⟨w.heap.size + 1, 2, none⟩ = some (.int .i64 imm) := cell_arr HT2.out.two rfl
   have x3 : w2.cell? ⟨w.heap.size + 1, 3, none⟩ = some (.slice ka kl kc) := cell_arr HT2.out.two rfl
   cases T2 with
   | false =>
     go_wp2_with fail
     go_ret
     exact ⟨rfl, HT2.out.low⟩
   | true =>
     go_wp2_with fail
     refine Calls.mono (H3.out w2) ?_
     rintro e w3 ⟨rfl, hb3⟩
     have HT3 : Hid _ := HT2.out.next hb3
     clear hb3 f0 f1 f2 f3 f4 x0 x1 x2 x3
     have f0 : w3.cell? ⟨w.heap.size, 0, none⟩ = some (.string s) := cell_arr HT3.out.one rfl
     have f1 : w3.cell? ⟨w.heap.size, 1, none⟩ = some (.slice pa pn pc) := cell_arr HT3.out.one rfl
     have f2 : w3.cell? ⟨w.heap.size, 2, none⟩ = some (.int .i64 rg) := cell_arr HT3.out.one rfl
     have f3 : w3.cell? ⟨w.heap.size, 3, none⟩ = some (.int .i64 rs) := cell_arr HT3.out.one rfl
     have f4 : w3.cell? ⟨w.heap.size, 4, none⟩ = some (.slice ba bn bc) := cell_arr HT3.out.one rfl
     have x0 : w3.cell? ⟨w.heap.size + 1, 0, none⟩ = some (.int .i64 op) := cell_arr HT3.out.two rfl
     have x1 : w3.cell? ⟨w.heap.size + 1, 1, none⟩ = some (.int .i64 dst) := cell_arr HT3.out.two rfl
     have x2 : w3.cell? ⟨w.heap.size + 1, 2, none⟩ = some (.int .i64 imm) := cell_arr HT3.out.two rfl
     have x3 : w3.cell? ⟨w.heap.size + 1, 3, none⟩ = some (.slice ka kl kc) := cell_arr HT3.out.two rfl
     cases T3 with
     | false =>
       go_wp2_with fail
       go_ret
       exact ⟨rfl, HT3.out.low⟩
     | true =>
       go_wp2_with fail
       refine Calls.mono (H4.out w3) ?_
       rintro e w4 ⟨rfl, hb4⟩
       have HT4 : Hid (Below w.heap.size w w4) := HT3.out.low.trans (hb4.mono HT3.out.low.size)
       clear hb4 f0 f1 f2 f3 f4 x0 x1 x2 x3
       go_wp2_with fail
       go_ret
       exact ⟨rfl, HT4.out⟩
def endV (kd vl : Int) (M : List Int) : Value :=
 if kd = 1 then (if M.length = 1 /\ vl = -1 then .iface 168 (.agg #[.int .i64 (M.getD 0 0)]) else .nilIface)
 else if kd = 2 then (if M.length = 2 then .iface 170 (.agg #[.int .i64 vl, .int .i64 (M.getD 0 0), .int .i64 (M.getD 1 0)]) else .nilIface)
 else if kd = 3 then (if M.length = 0 then .iface 172 (.agg #[.int .i64 vl]) else .nilIface)
 else if kd = 4 then (if M.length = 0 then .iface 173 (.agg #[.int .i64 vl]) else .nilIface)
 else .nilIface
set_option maxRecDepth 10000 in
theorem end_jump (w : World) {b o lc : Nat} {x : Int} (hlt : b < w.heap.size) (hc : w.cell? ⟨b, o, none⟩ = some (.int .i64 x)) :
 Calls Tryz.prog 81 #[.agg #[.int .i64 1, .int .i64 (-1), .slice (some ⟨b, o, none⟩) 1 lc]] w fun e w' => e = .returned (.iface 168 (.agg #[.int .i64 x])) /\ Below w.heap.size w w' := by
 have HB : Hid (Below w.heap.size w (w.alloc (.cells #[.int .i64 1, .int .i64 (-1), .slice (some ⟨b, o, none⟩) 1 lc] 132))) := below_newL _ _
 go_enter Tryz.func81, Tryz.ntmps81
 go_wp2_with fail
 go_ret
 exact ⟨rfl, HB.out⟩
set_option maxRecDepth 10000 in
theorem end_branch (w : World) {b o lc : Nat} {vl x y : Int} (hlt : b < w.heap.size) (hc : w.cell? ⟨b, o, none⟩ = some (.int .i64 x)) (hd : w.cell? ⟨b, o + 1, none⟩ = some (.int .i64 y)) :
 Calls Tryz.prog 81 #[.agg #[.int .i64 2, .int .i64 vl, .slice (some ⟨b, o, none⟩) 2 lc]] w fun e w' => e = .returned (.iface 170 (.agg #[.int .i64 vl, .int .i64 x, .int .i64 y])) /\ Below w.heap.size w w' := by
 have HB : Hid (Below w.heap.size w (w.alloc (.cells #[.int .i64 2, .int .i64 vl, .slice (some ⟨b, o, none⟩) 2 lc] 132))) := below_newL _ _
 go_enter Tryz.func81, Tryz.ntmps81
 go_wp2_with fail
 go_quiet (fail)
 go_wp2_with fail
 go_ret
 exact ⟨rfl, by first | exact HB.out | exact HB.out.drew | exact below_drewN HB.out _⟩
set_option maxRecDepth 10000 in
theorem end_back (w : World) {la : Option Addr} {lc : Nat} {vl : Int} :
 Calls Tryz.prog 81 #[.agg #[.int .i64 3, .int .i64 vl, .slice la 0 lc]] w fun e w' => e = .returned (.iface 172 (.agg #[.int .i64 vl])) /\ Below w.heap.size w w' := by
 have HB : Hid (Below w.heap.size w (w.alloc (.cells #[.int .i64 3, .int .i64 vl, .slice la 0 lc] 132))) := below_newL _ _
 go_enter Tryz.func81, Tryz.ntmps81
 go_wp2_with fail
 go_ret
 exact ⟨rfl, HB.out⟩
set_option maxRecDepth 10000 in
theorem end_crash (w : World) {la : Option Addr} {lc : Nat} {vl : Int} :
 Calls Tryz.prog 81 #[.agg #[.int .i64 4, .int .i64 vl, .slice la 0 lc]] w fun e w' => e = .returned (.iface 173 (.agg #[.int .i64 vl])) /\ Below w.heap.size w w' := by
 have HB : Hid (Below w.heap.size w (w.alloc (.cells #[.int .i64 4, .int .i64 vl, .slice la 0 lc] 132))) := below_newL _ _
 go_enter Tryz.func81, Tryz.ntmps81
 go_wp2_with fail
 go_ret
 exact ⟨rfl, HB.out⟩
set_option maxRecDepth 10000 in
theorem end_no1 (w : World) {la : Option Addr} {lc : Nat} {n : Nat} {vl : Int} (h : ¬ (n : Int) = 1) :
 Calls Tryz.prog 81 #[.agg #[.int .i64 1, .int .i64 vl, .slice la n lc]] w fun e w' => e = .returned .nilIface /\ Below w.heap.size w w' := by
 have HB : Hid (Below w.heap.size w (w.alloc (.cells #[.int .i64 1, .int .i64 vl, .slice la n lc] 132))) := below_newL _ _
 go_enter Tryz.func81, Tryz.ntmps81
 go_wp2_with fail
 go_ret
 exact ⟨rfl, HB.out⟩
set_option maxRecDepth 10000 in
theorem end_no1v (w : World) {la : Option Addr} {lc : Nat} {vl : Int} (h : ¬ vl = -1) :
 Calls Tryz.prog 81 #[.agg #[.int .i64 1, .int .i64 vl, .slice la 1 lc]] w fun e w' => e = .returned .nilIface /\ Below w.heap.size w w' := by
 have HB : Hid (Below w.heap.size w (w.alloc (.cells #[.int .i64 1, .int .i64 vl, .slice la 1 lc] 132))) := below_newL _ _
 go_enter Tryz.func81, Tryz.ntmps81
 go_wp2_with fail
 go_ret
 exact ⟨rfl, HB.out⟩
set_option maxRecDepth 10000 in
theorem end_no2 (w : World) {la : Option Addr} {lc : Nat} {n : Nat} {vl : Int} (h : ¬ (n : Int) = 2) :
 Calls Tryz.prog 81 #[.agg #[.int .i64 2, .int .i64 vl, .slice la n lc]] w fun e w' => e = .returned .nilIface /\ Below w.heap.size w w' := by
 have HB : Hid (Below w.heap.size w (w.alloc (.cells #[.int .i64 2, .int .i64 vl, .slice la n lc] 132))) := below_newL _ _
 go_enter Tryz.func81, Tryz.ntmps81
 go_wp2_with fail
 go_ret
 exact ⟨rfl, HB.out⟩
set_option maxRecDepth 10000 in
theorem end_no3 (w : World) {la : Option Addr} {lc : Nat} {n : Nat} {vl : Int} (h : ¬ (n : Int) = 0) :
 Calls Tryz.prog 81 #[.agg #[.int .i64 3, .int .i64 vl, .slice la n lc]] w fun e w' => e = .returned .nilIface /\ Below w.heap.size w w' := by
 have HB : Hid (Below w.heap.size w (w.alloc (.cells #[.int .i64 3, .int .i64 vl, .slice la n lc] 132))) := below_newL _ _
 go_enter Tryz.func81, Tryz.ntmps81
 go_wp2_with fail
 go_ret
 exact ⟨rfl, HB.out⟩
set_option maxRecDepth 10000 in
theorem end_no4 (w : World) {la : Option Addr} {lc : Nat} {n : Nat} {vl : Int} (h : ¬ (n : Int) = 0) :
 Calls Tryz.prog 81 #[.agg #[.int .i64 4, .int .i64 vl, .slice la n lc]] w fun e w' => e = .returned .nilIface /\ Below w.heap.size w w' := by
 have HB : Hid (Below w.heap.size w (w.alloc (.cells #[.int .i64 4, .int .i64 vl, .slice la n lc] 132))) := below_newL _ _
 go_enter Tryz.func81, Tryz.ntmps81
 go_wp2_with fail
 go_ret
 exact ⟨rfl, HB.out⟩
set_option maxRecDepth 10000 in
theorem end_no (w : World) {la : Option Addr} {lc : Nat} {n : Nat} {kd vl : Int} (h1 : ¬ kd = 1) (h2 : ¬ kd = 2) (h3 : ¬ kd = 3) (h4 : ¬ kd = 4) :
 Calls Tryz.prog 81 #[.agg #[.int .i64 kd, .int .i64 vl, .slice la n lc]] w fun e w' => e = .returned .nilIface /\ Below w.heap.size w w' := by
 have HB : Hid (Below w.heap.size w (w.alloc (.cells #[.int .i64 kd, .int .i64 vl, .slice la n lc] 132))) := below_newL _ _
 go_enter Tryz.func81, Tryz.ntmps81
 go_wp2_with fail
 go_ret
 exact ⟨rfl, HB.out⟩
theorem endOf_any (w : World) {la : Option Addr} {n lc : Nat} {M : List Int} (hM : Ints w la lc M) (hn : n = M.length) (kd vl : Int) :
 Calls Tryz.prog 81 #[.agg #[.int .i64 kd, .int .i64 vl, .slice la n lc]] w fun e w' => e = .returned (endV kd vl M) /\ Below w.heap.size w w' := by
 unfold endV
 by_cases k1 : kd = 1
 ·subst k1
  rw [if_pos rfl]
  by_cases hn1 : n = 1
  ·by_cases hv : vl = -1
   ·subst hv
    rw [if_pos ⟨by omega, rfl⟩]
    obtain ⟨b, o, rfl, hA⟩ := hM.out (by intro q; rw [q] at hn; simp at hn; omega)
    have h0 : 0 < M.length := by omega
    have hc := hA.cell 0 h0
    have e0 : M.getD 0 0 = M[0] := by simp [List.getD, h0]
    rw [e0]; subst hn1
    exact end_jump w hA.lt hc
   ·rw [if_neg (by omega)]
    subst hn1
    exact end_no1v w hv
  ·rw [if_neg (by omega)]
   exact end_no1 w (by omega)
 ·rw [if_neg k1]
  by_cases k2 : kd = 2
  ·subst k2
   rw [if_pos rfl]
   by_cases hn1 : n = 2
   ·rw [if_pos (by omega)]
    obtain ⟨b, o, rfl, hA⟩ := hM.out (by intro q; rw [q] at hn; simp at hn; omega)
    have h0 : 0 < M.length := by omega
    have h1 : 1 < M.length := by omega
    have hc := hA.cell 0 h0
    have hd := hA.cell 1 h1
    have e0 : M.getD 0 0 = M[0] := by simp [List.getD, h0]
    have e1 : M.getD 1 0 = M[1] := by simp [List.getD, h1]
    rw [e0, e1]; subst hn1
    exact end_branch w hA.lt hc hd
   ·rw [if_neg (by omega)]
    exact end_no2 w (by omega)
  ·rw [if_neg k2]
   by_cases k3 : kd = 3
   ·subst k3
    rw [if_pos rfl]
    by_cases hn1 : n = 0
    ·rw [if_pos (by omega)]
     subst hn1
     exact end_back w
    ·rw [if_neg (by omega)]
     exact end_no3 w (by omega)
   ·rw [if_neg k3]
    by_cases k4 : kd = 4
    ·subst k4
     rw [if_pos rfl]
     by_cases hn1 : n = 0
     ·rw [if_pos (by omega)]
      subst hn1
      exact end_crash w
     ·rw [if_neg (by omega)]
      exact end_no4 w (by omega)
    ·rw [if_neg k4]
     exact end_no w k1 k2 k3 k4
end Go.Proofs.YtegoemeefmjnoaaGreatDoor
