import Derived.Test.YtegoemeefmjnoaaGreatDoorJbc
set_option linter.unusedVariables false
set_option linter.unusedSimpArgs false
namespace Go.Proofs.YtegoemeefmjnoaaGreatDoor
open Go.ChangeShapes Go.WideShapes Go.ChangeAt Go.RowKit
theorem within14B_any (w : World) (ao : Option Addr) (n c : Nat) (i : Int) : Calls Tryz.prog 156 #[.slice ao n c, .int .i64 i] w fun e w' => e = .returned (.bool (rgP n i)) /\ w' = w := by
 unfold rgP
 by_cases h0 : 0 <= i
 ·by_cases h1 : i < n
  ·go_enter Tryz.func156, Tryz.ntmps156
   go_wp2
   go_ret
   exact ⟨by simp [h0, h1], rfl⟩
  ·go_enter Tryz.func156, Tryz.ntmps156
   go_wp2
   go_ret
   exact ⟨by simp [h0, h1], rfl⟩
 ·go_enter Tryz.func156, Tryz.ntmps156
  go_wp2
  go_ret
  exact ⟨by simp; omega, rfl⟩
theorem within14F_any (w : World) (ao : Option Addr) (n c : Nat) (i : Int) : Calls Tryz.prog 77 #[.slice ao n c, .int .i64 i] w fun e w' => e = .returned (.bool (rgP n i)) /\ w' = w := by
 unfold rgP
 by_cases h0 : 0 <= i
 ·by_cases h1 : i < n
  ·go_enter Tryz.func77, Tryz.ntmps77
   go_wp2
   go_ret
   exact ⟨by simp [h0, h1], rfl⟩
  ·go_enter Tryz.func77, Tryz.ntmps77
   go_wp2
   go_ret
   exact ⟨by simp [h0, h1], rfl⟩
 ·go_enter Tryz.func77, Tryz.ntmps77
  go_wp2
  go_ret
  exact ⟨by simp; omega, rfl⟩
set_option maxRecDepth 10000 in
set_option maxHeartbeats 2000000 in
theorem jumpFits_any (w : World) {s : ByteArray} {pa : Option Addr} {pn pc : Nat} {rg rs : Int} {ba : Option Addr} {bn bc : Nat} {x : Int} : Calls Tryz.prog 153 #[.agg #[.int .i64 x], .agg #[.string s, .slice pa pn pc, .int .i64 rg, .int .i64 rs, .slice ba bn bc]] w fun e w' => e = .returned (.bool (rgP bn x)) /\ Below w.heap.size w w' := by
 obtain ⟨W, hW⟩ : ∃ W, W = (w.alloc (.cells #[.int .i64 x] 168)).alloc (.cells #[.string s, .slice pa pn pc, .int .i64 rg, .int .i64 rs, .slice ba bn bc] 125) := ⟨_, rfl⟩
 have hT : Two w (.cells #[.int .i64 x] 168) (.cells #[.string s, .slice pa pn pc, .int .i64 rg, .int .i64 rs, .slice ba bn bc] 125) W := by rw [hW]; exact Two.start _ _ _
 have HT : Hid (Two w (.cells #[.int .i64 x] 168) (.cells #[.string s, .slice pa pn pc, .int .i64 rg, .int .i64 rs, .slice ba bn bc] 125) W) := hT
 have x0 : W.cell? ⟨w.heap.size, 0, none⟩ = some (.int .i64 x) := cell_arr hT.one rfl
 have f0 : W.cell? ⟨w.heap.size + 1, 0, none⟩ = some (.string s) := cell_arr hT.two rfl
 have f1 : W.cell? ⟨w.heap.size + 1, 1, none⟩ = some (.slice pa pn pc) := cell_arr hT.two rfl
 have f2 : W.cell? ⟨w.heap.size + 1, 2, none⟩ = some (.int .i64 rg) := cell_arr hT.two rfl
 have f3 : W.cell? ⟨w.heap.size + 1, 3, none⟩ = some (.int .i64 rs) := cell_arr hT.two rfl
 have f4 : W.cell? ⟨w.heap.size + 1, 4, none⟩ = some (.slice ba bn bc) := cell_arr hT.two rfl
 obtain ⟨T1, h1⟩ : ∃ T, T = rgP bn x := ⟨_, rfl⟩
 have H1 : Hid (∀ w', Calls Tryz.prog 156 #[.slice ba bn bc, .int .i64 x] w' fun e w'' => e = .returned (.bool T1) /\ w'' = w') := fun w' => by rw [h1]; exact within14B_any w' _ _ _ _
 rw [<- h1]
 clear h1 hT
 go_enter Tryz.func153, Tryz.ntmps153
 go_wp2_with fail
 rw [<- hW]
 clear hW
 refine Calls.mono (H1.out W) ?_
 rintro e w1 ⟨rfl, rfl⟩
 go_wp2_with fail
 go_ret
 exact ⟨rfl, HT.out.low⟩
set_option maxRecDepth 10000 in
set_option maxHeartbeats 2000000 in
theorem crashFits_any (w : World) {s : ByteArray} {pa : Option Addr} {pn pc : Nat} {rg rs : Int} {ba : Option Addr} {bn bc : Nat} {vl : Int} : Calls Tryz.prog 163 #[.agg #[.int .i64 vl], .agg #[.string s, .slice pa pn pc, .int .i64 rg, .int .i64 rs, .slice ba bn bc]] w fun e w' => e = .returned (.bool (rgP rg vl)) /\ Below w.heap.size w w' := by
 obtain ⟨W, hW⟩ : ∃ W, W = (w.alloc (.cells #[.int .i64 vl] 173)).alloc (.cells #[.string s, .slice pa pn pc, .int .i64 rg, .int .i64 rs, .slice ba bn bc] 125) := ⟨_, rfl⟩
 have hT : Two w (.cells #[.int .i64 vl] 173) (.cells #[.string s, .slice pa pn pc, .int .i64 rg, .int .i64 rs, .slice ba bn bc] 125) W := by rw [hW]; exact Two.start _ _ _
 have HT : Hid (Two w (.cells #[.int .i64 vl] 173) (.cells #[.string s, .slice pa pn pc, .int .i64 rg, .int .i64 rs, .slice ba bn bc] 125) W) := hT
 have x0 : W.cell? ⟨w.heap.size, 0, none⟩ = some (.int .i64 vl) := cell_arr hT.one rfl
 have f0 : W.cell? ⟨w.heap.size + 1, 0, none⟩ = some (.string s) := cell_arr hT.two rfl
 have f1 : W.cell? ⟨w.heap.size + 1, 1, none⟩ = some (.slice pa pn pc) := cell_arr hT.two rfl
 have f2 : W.cell? ⟨w.heap.size + 1, 2, none⟩ = some (.int .i64 rg) := cell_arr hT.two rfl
 have f3 : W.cell? ⟨w.heap.size + 1, 3, none⟩ = some (.int .i64 rs) := cell_arr hT.two rfl
 have f4 : W.cell? ⟨w.heap.size + 1, 4, none⟩ = some (.slice ba bn bc) := cell_arr hT.two rfl
 obtain ⟨T1, h1⟩ : ∃ T, T = rgP rg vl := ⟨_, rfl⟩
 have H1 : Hid (∀ w', Calls Tryz.prog 106 #[.agg #[.string s, .slice pa pn pc, .int .i64 rg, .int .i64 rs, .slice ba bn bc], .int .i64 vl] w' fun e w'' => e = .returned (.bool T1) /\ Below w'.heap.size w' w'') := fun w' => by rw [h1]; exact isReg_any w' _
 rw [<- h1]
 clear h1 hT
 go_enter Tryz.func163, Tryz.ntmps163
 go_wp2_with fail
 rw [<- hW]
 clear hW
 refine Calls.mono (H1.out W) ?_
 rintro e w1 ⟨rfl, hb1⟩
 have HB : Hid (Below w.heap.size w w1) := HT.out.low.trans (hb1.mono HT.out.low.size)
 clear hb1 x0 f0 f1 f2 f3 f4
 go_wp2_with fail
 go_ret
 exact ⟨rfl, HB.out⟩
set_option maxRecDepth 10000 in
set_option maxHeartbeats 2000000 in
theorem backFits_some (w : World) {s : ByteArray} {pa : Option Addr} {pn pc : Nat} {rg rs : Int} {ba : Option Addr} {bn bc : Nat} {vl : Int} (hr : ¬ rs = 0) : Calls Tryz.prog 160 #[.agg #[.int .i64 vl], .agg #[.string s, .slice pa pn pc, .int .i64 rg, .int .i64 rs, .slice ba bn bc]] w fun e w' => e = .returned (.bool (rgP rg vl)) /\ Below w.heap.size w w' := by
 obtain ⟨W, hW⟩ : ∃ W, W = (w.alloc (.cells #[.int .i64 vl] 172)).alloc (.cells #[.string s, .slice pa pn pc, .int .i64 rg, .int .i64 rs, .slice ba bn bc] 125) := ⟨_, rfl⟩
 have hT : Two w (.cells #[.int .i64 vl] 172) (.cells #[.string s, .slice pa pn pc, .int .i64 rg, .int .i64 rs, .slice ba bn bc] 125) W := by rw [hW]; exact Two.start _ _ _
 have HT : Hid (Two w (.cells #[.int .i64 vl] 172) (.cells #[.string s, .slice pa pn pc, .int .i64 rg, .int .i64 rs, .slice ba bn bc] 125) W) := hT
 have x0 : W.cell? ⟨w.heap.size, 0, none⟩ = some (.int .i64 vl) := cell_arr hT.one rfl
 have f0 : W.cell? ⟨w.heap.size + 1, 0, none⟩ = some (.string s) := cell_arr hT.two rfl
 have f1 : W.cell? ⟨w.heap.size + 1, 1, none⟩ = some (.slice pa pn pc) := cell_arr hT.two rfl
 have f2 : W.cell? ⟨w.heap.size + 1, 2, none⟩ = some (.int .i64 rg) := cell_arr hT.two rfl
 have f3 : W.cell? ⟨w.heap.size + 1, 3, none⟩ = some (.int .i64 rs) := cell_arr hT.two rfl
 have f4 : W.cell? ⟨w.heap.size + 1, 4, none⟩ = some (.slice ba bn bc) := cell_arr hT.two rfl
 obtain ⟨T1, h1⟩ : ∃ T, T = rgP rg vl := ⟨_, rfl⟩
 have H1 : Hid (∀ w', Calls Tryz.prog 106 #[.agg #[.string s, .slice pa pn pc, .int .i64 rg, .int .i64 rs, .slice ba bn bc], .int .i64 vl] w' fun e w'' => e = .returned (.bool T1) /\ Below w'.heap.size w' w'') := fun w' => by rw [h1]; exact isReg_any w' _
 rw [<- h1]
 clear h1 hT
 go_enter Tryz.func160, Tryz.ntmps160
 go_wp2_with fail
 rw [<- hW]
 clear hW
 refine Calls.mono (H1.out W) ?_
 rintro e w1 ⟨rfl, hb1⟩
 have HB : Hid (Below w.heap.size w w1) := HT.out.low.trans (hb1.mono HT.out.low.size)
 clear hb1 x0 f0 f1 f2 f3 f4
 go_wp2_with fail
 go_ret
 exact ⟨rfl, HB.out⟩
set_option maxRecDepth 10000 in
set_option maxHeartbeats 2000000 in
theorem backFits_none (w : World) {s : ByteArray} {pa : Option Addr} {pn pc : Nat} {rg : Int} {ba : Option Addr} {bn bc : Nat} {vl : Int} : Calls Tryz.prog 160 #[.agg #[.int .i64 vl], .agg #[.string s, .slice pa pn pc, .int .i64 rg, .int .i64 0, .slice ba bn bc]] w fun e w' => e = .returned (.bool (decide (vl = -1))) /\ Below w.heap.size w w' := by
 obtain ⟨W, hW⟩ : ∃ W, W = (w.alloc (.cells #[.int .i64 vl] 172)).alloc (.cells #[.string s, .slice pa pn pc, .int .i64 rg, .int .i64 0, .slice ba bn bc] 125) := ⟨_, rfl⟩
 have hT : Two w (.cells #[.int .i64 vl] 172) (.cells #[.string s, .slice pa pn pc, .int .i64 rg, .int .i64 0, .slice ba bn bc] 125) W := by rw [hW]; exact Two.start _ _ _
 have HT : Hid (Two w (.cells #[.int .i64 vl] 172) (.cells #[.string s, .slice pa pn pc, .int .i64 rg, .int .i64 0, .slice ba bn bc] 125) W) := hT
 have x0 : W.cell? ⟨w.heap.size, 0, none⟩ = some (.int .i64 vl) := cell_arr hT.one rfl
 have f0 : W.cell? ⟨w.heap.size + 1, 0, none⟩ = some (.string s) := cell_arr hT.two rfl
 have f1 : W.cell? ⟨w.heap.size + 1, 1, none⟩ = some (.slice pa pn pc) := cell_arr hT.two rfl
 have f2 : W.cell? ⟨w.heap.size + 1, 2, none⟩ = some (.int .i64 rg) := cell_arr hT.two rfl
 have f3 : W.cell? ⟨w.heap.size + 1, 3, none⟩ = some (.int .i64 0) := cell_arr hT.two rfl
 have f4 : W.cell? ⟨w.heap.size + 1, 4, none⟩ = some (.slice ba bn bc) := cell_arr hT.two rfl
 clear hT
 go_enter Tryz.func160, Tryz.ntmps160
 go_wp2_with fail
 rw [<- hW]
 go_ret
 exact ⟨by first | rfl | (congr 2; simp; done) | (congr 2; rw [beq_eq_decide]), HT.out.low⟩
theorem backFits_any (w : World) {s : ByteArray} {pa : Option Addr} {pn pc : Nat} {rg rs : Int} {ba : Option Addr} {bn bc : Nat} {vl : Int} : Calls Tryz.prog 160 #[.agg #[.int .i64 vl], .agg #[.string s, .slice pa pn pc, .int .i64 rg, .int .i64 rs, .slice ba bn bc]] w fun e w' => e = .returned (.bool (if rs = 0 then decide (vl = -1) else rgP rg vl)) /\ Below w.heap.size w w' := by
 by_cases h : rs = 0
 ·subst h; rw [if_pos rfl]; exact backFits_none w
 ·rw [if_neg h]; exact backFits_some w h
set_option maxRecDepth 10000 in
set_option maxHeartbeats 2000000 in
theorem branchFits_any (w : World) {s : ByteArray} {pa : Option Addr} {pn pc : Nat} {rg rs : Int} {ba : Option Addr} {bn bc : Nat} {vl x y : Int} : Calls Tryz.prog 157 #[.agg #[.int .i64 vl, .int .i64 x, .int .i64 y], .agg #[.string s, .slice pa pn pc, .int .i64 rg, .int .i64 rs, .slice ba bn bc]] w fun e w' => e = .returned (.bool (rgP rg vl && (rgP bn x && rgP bn y))) /\ Below w.heap.size w w' := by
 obtain ⟨W, hW⟩ : ∃ W, W = (w.alloc (.cells #[.int .i64 vl, .int .i64 x, .int .i64 y] 170)).alloc (.cells #[.string s, .slice pa pn pc, .int .i64 rg, .int .i64 rs, .slice ba bn bc] 125) := ⟨_, rfl⟩
 have hT : Two w (.cells #[.int .i64 vl, .int .i64 x, .int .i64 y] 170) (.cells #[.string s, .slice pa pn pc, .int .i64 rg, .int .i64 rs, .slice ba bn bc] 125) W := by rw [hW]; exact Two.start _ _ _
 have HT : Hid (Two w (.cells #[.int .i64 vl, .int .i64 x, .int .i64 y] 170) (.cells #[.string s, .slice pa pn pc, .int .i64 rg, .int .i64 rs, .slice ba bn bc] 125) W) := hT
 have x0 : W.cell? ⟨w.heap.size, 0, none⟩ = some (.int .i64 vl) := cell_arr hT.one rfl
 have x1 : W.cell? ⟨w.heap.size, 1, none⟩ = some (.int .i64 x) := cell_arr hT.one rfl
 have x2 : W.cell? ⟨w.heap.size, 2, none⟩ = some (.int .i64 y) := cell_arr hT.one rfl
 have f0 : W.cell? ⟨w.heap.size + 1, 0, none⟩ = some (.string s) := cell_arr hT.two rfl
 have f1 : W.cell? ⟨w.heap.size + 1, 1, none⟩ = some (.slice pa pn pc) := cell_arr hT.two rfl
 have f2 : W.cell? ⟨w.heap.size + 1, 2, none⟩ = some (.int .i64 rg) := cell_arr hT.two rfl
 have f3 : W.cell? ⟨w.heap.size + 1, 3, none⟩ = some (.int .i64 rs) := cell_arr hT.two rfl
 have f4 : W.cell? ⟨w.heap.size + 1, 4, none⟩ = some (.slice ba bn bc) := cell_arr hT.two rfl
 obtain ⟨T1, h1⟩ : ∃ T, T = rgP rg vl := ⟨_, rfl⟩
 obtain ⟨T2, h2⟩ : ∃ T, T = rgP bn x := ⟨_, rfl⟩
 obtain ⟨T3, h3⟩ : ∃ T, T = rgP bn y := ⟨_, rfl⟩
 have H1 : Hid (∀ w', Calls Tryz.prog 106 #[.agg #[.string s, .slice pa pn pc, .int .i64 rg, .int .i64 rs, .slice ba bn bc], .int .i64 vl] w' fun e w'' => e = .returned (.bool T1) /\ Below w'.heap.size w' w'') := fun w' => by rw [h1]; exact isReg_any w' _
 have H2 : Hid (∀ w', Calls Tryz.prog 156 #[.slice ba bn bc, .int .i64 x] w' fun e w'' => e = .returned (.bool T2) /\ w'' = w') := fun w' => by rw [h2]; exact within14B_any w' _ _ _ _
 have H3 : Hid (∀ w', Calls Tryz.prog 156 #[.slice ba bn bc, .int .i64 y] w' fun e w'' => e = .returned (.bool T3) /\ w'' = w') := fun w' => by rw [h3]; exact within14B_any w' _ _ _ _
 rw [<- h1, <- h2, <- h3]
 clear h1 h2 h3 hT
 go_enter Tryz.func157, Tryz.ntmps157
 go_wp2_with fail
 rw [<- hW]
 clear hW
 refine Calls.mono (H1.out W) ?_
 rintro e w1 ⟨rfl, hb1⟩
 have HT1 : Hid _ := HT.out.next hb1
 clear hb1 x0 x1 x2 f0 f1 f2 f3 f4
 have x0 : w1.cell? ⟨w.heap.size, 0, none⟩ = some (.int .i64 vl) := cell_arr HT1.out.one rfl
 have x1 : w1.cell? ⟨w.heap.size, 1, none⟩ = some (.int .i64 x) := cell_arr HT1.out.one rfl
 have x2 : w1.cell? ⟨w.heap.size, 2, none⟩ = some (.int .i64 y) := cell_arr HT1.out.one rfl
 have f0 : w1.cell? ⟨w.heap.size + 1, 0, none⟩ = some (.string s) := cell_arr HT1.out.two rfl
 have f1 : w1.cell? ⟨w.heap.size + 1, 1, none⟩ = some (.slice pa pn pc) := cell_arr HT1.out.two rfl
 have f2 : w1.cell? ⟨w.heap.size + 1, 2, none⟩ = some (.int .i64 rg) := cell_arr HT1.out.two rfl
 have f3 : w1.cell? ⟨w.heap.size + 1, 3, none⟩ = some (.int .i64 rs) := cell_arr HT1.out.two rfl
 have f4 : w1.cell? ⟨w.heap.size + 1, 4, none⟩ = some (.slice ba bn bc) := cell_arr HT1.out.two rfl
 cases T1 with
 | false =>
   go_wp2_with fail
   go_ret
   exact ⟨rfl, HT1.out.low⟩
 | true =>
   go_wp2_with fail
   refine Calls.mono (H2.out w1) ?_
   rintro e w2 ⟨rfl, rfl⟩
   cases T2 with
   | false =>
     go_wp2_with fail
     go_ret
     exact ⟨rfl, HT1.out.low⟩
   | true =>
     go_wp2_with fail
     refine Calls.mono (H3.out _) ?_
     rintro e w3 ⟨rfl, rfl⟩
     go_wp2_with fail
     go_ret
     exact ⟨rfl, HT1.out.low⟩
theorem Ints.cut14 {w ao cap} {L : List Int} (h : Ints w ao cap L) (k : Nat) : Ints w ao cap (L.take k) :=
 ⟨by have := h.le; simp; omega, h.mx, fun hn => by
  obtain ⟨b, o, e, hA⟩ := h.out (by intro q; rw [q] at hn; simp at hn)
  exact ⟨b, o, e, hA.lt, fun i hi => by
   have hi2 : i < L.length := by simp at hi; omega
   have := hA.cell i hi2
   rw [this]; simp⟩⟩
set_option maxRecDepth 100000 in
set_option maxHeartbeats 2000000 in
theorem index14_any (w : World) (ao : Option Addr) (c n : Nat) (L : List Int) (hn : n = L.length) (hL : Ints w ao c L) (x : Int) :
 Calls Tryz.prog 107 #[.slice ao n c, .int .i64 x] w fun e w' => ∃ r : Int, e = .returned (.int .i64 r) /\ decide (0 <= r) = decide (x ∈ L) /\ w' = w := by
 have HN : Hid (n = L.length) := hn
 have hb : n <= 9223372036854775807 := by have := hL.le; have := hL.mx; omega
 have HL : Hid (Ints w ao c L) := hL
 clear hn hL
 go_enter Tryz.func107, Tryz.ntmps107
 go_wp2_with fail
 go_loopw [8] (fun v wr => ∃ k : Nat, k <= n /\ v = .int .i64 k /\ Hid (∀ i (h : i < L.length), i < k -> ¬ x = L[i]) /\ wr = w) (fun v _ => n - (intOf v).toNat)
 case atStart => exact ⟨0, by omega, rfl, fun i _ h => by omega, rfl⟩
 case round =>
  obtain ⟨k, hk, rfl, HE, hwr⟩ := hrel
  subst hwr
  by_cases hlt : k < n
  ·have hk2 : k < L.length := by have := HN.out; omega
   obtain ⟨b, o, rfl, hc⟩ := HL.out.at hk2
   have HT : Hid (x = L[k] -> x ∈ L) := fun h => by rw [h]; exact List.getElem_mem hk2
   have HFl : Hid (¬ x = L[k] -> ∀ i (h : i < L.length), i < k + 1 -> ¬ x = L[i]) := fun h i h1 h2 => by
    rcases Nat.lt_succ_iff_lt_or_eq.1 h2 with q | rfl
    ·exact HE.out i h1 q
    ·exact h
   clear HE
   generalize L[k] = y at hc HT HFl
   by_cases hq : x = y
   ·subst hq
    have HA : Hid (x ∈ L) := HT.out rfl
    clear HT HFl
    go_wp2_with fail
    go_ret
    exact ⟨_, rfl, by have := HA.out; simp [this], rfl⟩
   ·have HE2 : Hid _ := HFl.out hq
    clear HT HFl
    go_wp2_with fail
    go_roundw
    case rel => exact ⟨k + 1, by omega, by go_num, HE2.out, by first | trivial | rfl⟩
    case measure => simp [intOf]; omega
  ·have HA : Hid (¬ x ∈ L) := by
    show ¬ x ∈ L
    intro hx
    obtain ⟨i, hi, rfl⟩ := List.getElem_of_mem hx
    exact HE.out i hi (by have := HN.out; omega) rfl
   go_wp2_with fail
   go_ret
   exact ⟨-1, rfl, by have := HA.out; simp [this], rfl⟩
set_option maxRecDepth 10000 in
theorem contains14_any (w : World) (ao : Option Addr) (c n : Nat) (L : List Int) (hn : n = L.length) (hL : Ints w ao c L) (x : Int) :
 Calls Tryz.prog 96 #[.slice ao n c, .int .i64 x] w fun e w' => e = .returned (.bool (decide (x ∈ L))) /\ w' = w := by
 have HC : Hid _ := index14_any w ao c n L hn hL x
 generalize decide (x ∈ L) = T at HC ⊢
 clear hn hL
 go_enter Tryz.func96, Tryz.ntmps96
 go_wp2_with fail
 refine Calls.mono HC.out ?_
 rintro e w1 ⟨r, rfl, hr, rfl⟩
 have HR : Hid _ := hr
 clear hr
 go_wp2_with fail
 go_ret
 exact ⟨ret_blL (by have := HR.out; rw [<- this]), rfl⟩
def pa14 (rg : Int) (L : List Int) : Bool := decide (L.length <= 8) && (L.all (rgP rg) && decide L.Nodup)
theorem nodup_next14 {L : List Int} {k : Nat} (hk : k < L.length) (h : (L.take k).Nodup) (hx : ¬ L[k] ∈ L.take k) : (L.take (k + 1)).Nodup := by
 rw [List.take_succ_eq_append_getElem hk, List.nodup_append]
 exact ⟨h, by simp, fun a ha b hb => by simp at hb; subst hb; intro q; subst q; exact hx ha⟩
theorem nodup_not14 {L : List Int} {k : Nat} (hk : k < L.length) (hx : L[k] ∈ L.take k) : ¬ L.Nodup := by
 intro h
 have h2 := List.Sublist.nodup (List.take_sublist (k + 1) L) h
 rw [List.take_succ_eq_append_getElem hk, List.nodup_append] at h2
 exact h2.2.2 _ hx L[k] (by simp) rfl
structure One14 (w : World) (A : Obj) (w' : World) : Prop where
 one : w'.heap[w.heap.size]? = some A
 low : Below w.heap.size w w'
theorem One14.start (w : World) (A : Obj) : One14 w A (w.alloc A) := ⟨heap_alloc_new _ _, below_newL _ _⟩
theorem One14.next {w A w' w''} (h : One14 w A w') (hb : Below w'.heap.size w' w'') : One14 w A w'' :=
 ⟨(hb.block _ (gl h.one)).trans h.one, h.low.trans (hb.mono h.low.size)⟩
set_option maxRecDepth 10000 in
set_option maxHeartbeats 2000000 in
theorem paramsFit_any (w : World) {s : ByteArray} {pa : Option Addr} {pn pc : Nat} {rg rs : Int} {ba : Option Addr} {bn bc : Nat} {P : List Int} (hP : Ints w pa pc P) (hn : pn = P.length) : Calls Tryz.prog 78 #[.agg #[.string s, .slice pa pn pc, .int .i64 rg, .int .i64 rs, .slice ba bn bc]] w fun e w' => e = .returned (.bool (pa14 rg P)) /\ Below w.heap.size w w' := by
 obtain ⟨W, hW⟩ : ∃ W, W = w.alloc (.cells #[.string s, .slice pa pn pc, .int .i64 rg, .int .i64 rs, .slice ba bn bc] 125) := ⟨_, rfl⟩
 have hT : One14 w (.cells #[.string s, .slice pa pn pc, .int .i64 rg, .int .i64 rs, .slice ba bn bc] 125) W := by rw [hW]; exact One14.start _ _
 have HT : Hid (One14 w (.cells #[.string s, .slice pa pn pc, .int .i64 rg, .int .i64 rs, .slice ba bn bc] 125) W) := hT
 have hkc : pn <= pc /\ pc <= 9223372036854775807 := by have := hP.le; have := hP.mx; omega
 obtain ⟨hk1, hk2⟩ := hkc
 have HN : Hid (pn = P.length) := hn
 have HL : Hid (Ints w pa pc P) := hP
 obtain ⟨T2, h2⟩ : ∃ T, T = P.all (rgP rg) := ⟨_, rfl⟩
 have H2 : Hid (∀ w', Below w.heap.size w w' -> Calls Tryz.prog 95 #[.agg #[.string s, .slice pa pn pc, .int .i64 rg, .int .i64 rs, .slice ba bn bc], .slice pa pn pc] w' fun e w'' => e = .returned (.bool T2) /\ Below w'.heap.size w' w'') := fun w' hb => by rw [h2]; exact areReg_any w' (hP.below hb (Nat.le_refl _)) hn
 have H3 : Hid (∀ w' k x, Below w.heap.size w w' -> k <= pn -> Calls Tryz.prog 96 #[.slice pa k pc, .int .i64 x] w' fun e w'' => e = .returned (.bool (decide (x ∈ P.take k))) /\ w'' = w') := fun w' k x hb hk => contains14_any w' pa pc k (P.take k) (by simp; omega) ((hP.below hb (Nat.le_refl _)).cut14 k) x
 have e0 : pa14 rg P = (decide (pn <= 8) && (T2 && decide P.Nodup)) := by rw [h2, hn]; rfl
 rw [e0]
 have f0 : W.cell? ⟨w.heap.size, 0, none⟩ = some (.string s) := cell_arr hT.one rfl
 have f1 : W.cell? ⟨w.heap.size, 1, none⟩ = some (.slice pa pn pc) := cell_arr hT.one rfl
 have f2 : W.cell? ⟨w.heap.size, 2, none⟩ = some (.int .i64 rg) := cell_arr hT.one rfl
 have f3 : W.cell? ⟨w.heap.size, 3, none⟩ = some (.int .i64 rs) := cell_arr hT.one rfl
 have f4 : W.cell? ⟨w.heap.size, 4, none⟩ = some (.slice ba bn bc) := cell_arr hT.one rfl
 clear h2 hn e0 hP hT
 by_cases h8 : pn <= 8
 ·have e8 : decide (pn <= 8) = true := by simp [h8]
  rw [e8]
  go_enter Tryz.func78, Tryz.ntmps78
  go_wp2_with fail
  rw [<- hW]
  clear hW
  refine Calls.mono (H2.out W HT.out.low) ?_
  rintro e w1 ⟨rfl, hb1⟩
  have HT1 : Hid _ := HT.out.next hb1
  clear hb1 f0 f1 f2 f3 f4
  have f0 : w1.cell? ⟨w.heap.size, 0, none⟩ = some (.string s) := cell_arr HT1.out.one rfl
  have f1 : w1.cell? ⟨w.heap.size, 1, none⟩ = some (.slice pa pn pc) := cell_arr HT1.out.one rfl
  have f2 : w1.cell? ⟨w.heap.size, 2, none⟩ = some (.int .i64 rg) := cell_arr HT1.out.one rfl
  have f3 : w1.cell? ⟨w.heap.size, 3, none⟩ = some (.int .i64 rs) := cell_arr HT1.out.one rfl
  have f4 : w1.cell? ⟨w.heap.size, 4, none⟩ = some (.slice ba bn bc) := cell_arr HT1.out.one rfl
  cases T2 with
  | false =>
    go_wp2_with fail
    go_ret
    exact ⟨rfl, HT1.out.low⟩
  | true =>
    go_wp2_with fail
    go_loopw [19] (fun v wr => ∃ k : Nat, k <= pn /\ v = .int .i64 k /\ Hid ((P.take k).Nodup) /\ wr = w1) (fun v _ => pn - (intOf v).toNat)
    case atStart => exact ⟨0, by omega, rfl, (by simp : (P.take 0).Nodup), rfl⟩
    case round =>
     obtain ⟨k, hk, rfl, HE, hwr⟩ := hrel
     subst hwr
     by_cases hlt : k < pn
     ·have hk3 : k < P.length := by have := HN.out; omega
      obtain ⟨b, o, rfl, hc⟩ := (HL.out.below HT1.out.low (Nat.le_refl _)).at hk3
      have hcall : Hid _ := H3.out wr k P[k] HT1.out.low (by omega)
      have HA : Hid (P[k] ∈ P.take k -> decide P.Nodup = false) := fun h => by simp [nodup_not14 hk3 h]
      have HB : Hid (¬ P[k] ∈ P.take k -> (P.take (k + 1)).Nodup) := fun h => nodup_next14 hk3 HE.out h
      clear HE H3 H2
      generalize P[k] = y at hc hcall HA HB
      go_wp2_with fail
      refine Calls.mono hcall.out ?_
      rintro e w2 ⟨rfl, rfl⟩
      cases hq : decide (y ∈ P.take k) with
      | true =>
        have HA2 : Hid (decide P.Nodup = false) := HA.out (of_decide_eq_true hq)
        clear hq HA HB
        go_wp2_with fail
        go_ret
        exact ⟨ret_blL (by rw [HA2.out]; rfl), HT1.out.low⟩
      | false =>
        have HB2 : Hid _ := HB.out (of_decide_eq_false hq)
        clear hq HA HB
        go_wp2_with fail
        go_roundw
        case rel => exact ⟨k + 1, by omega, by go_num, HB2.out, by first | trivial | rfl⟩
        case measure => simp [intOf]; omega
     ·have HA : Hid (decide P.Nodup = true) := by
       show _ = _
       have h1 := HE.out
       rw [List.take_of_length_le (by have := HN.out; omega)] at h1
       simp [h1]
      go_wp2_with fail
      go_ret
      exact ⟨ret_blL (by rw [HA.out]; rfl), HT1.out.low⟩
 ·have e8 : decide (pn <= 8) = false := by simp; omega
  rw [e8]
  go_enter Tryz.func78, Tryz.ntmps78
  go_wp2_with fail
  rw [<- hW]
  go_ret
  exact ⟨rfl, HT.out.low⟩
end Go.Proofs.YtegoemeefmjnoaaGreatDoor
