import Derived.Test.YteplldbhfjfbpaaGreatDoorVcK
import Derived.Test.YteplldbhfjfbpaaGreatDoorJbb
set_option linter.unusedVariables false
set_option linter.unusedSimpArgs false
namespace Go.Proofs.YteplldbhfjfbpaaGreatDoor
open Go.ChangeShapes Go.WideShapes Go.ChangeAt Go.RowKit Go.Maps

theorem toIntR_wrap (x : BitVec 64) : IntKind.i64.wrap (x.toNat : Int) = x.toInt := by
  have h := x.isLt
  rw [IntKind.wrap_i64, BitVec.toInt_eq_toNat_cond]
  split <;> omega
theorem andR_bv (a b : Int) : bits .and .i64 a b = (BitVec.ofInt 64 a &&& BitVec.ofInt 64 b).toInt := toIntR_wrap _
theorem andR_small (a : Int) (m : Nat) (hm : m < 9223372036854775808) : ∃ i : Nat, i ≤ m ∧ bits .and .i64 a (m : Int) = (i : Int) := by
  have h1 : (BitVec.ofInt 64 a &&& BitVec.ofInt 64 (m : Int)).toNat ≤ m := by
    rw [BitVec.toNat_and]
    refine Nat.le_trans Nat.and_le_right ?_
    rw [BitVec.toNat_ofInt]
    omega
  refine ⟨_, h1, ?_⟩
  rw [andR_bv, BitVec.toInt_eq_toNat_cond, if_pos (by omega)]
/-- The program of R16Words as it lies. -/
def wdX (op a b to c : Int) : Obj := .cells #[.int .i64 1, .int .i64 3, .int .i64 0, .int .i64 0, .int .i64 a, .int .i64 1, .int .i64 4, .int .i64 0, .int .i64 0, .int .i64 b, .int .i64 op, .int .i64 to, .int .i64 3, .int .i64 c, .int .i64 0, .int .i64 37, .int .i64 to, .int .i64 0, .int .i64 0, .int .i64 0, .int .i64 27, .int .i64 0, .int .i64 0, .int .i64 0, .int .i64 0] 23
/-- Its outcome. -/
def wdO (ao : Option Addr) (c : Nat) (op a b : Int) : Value := if wdS op a b = 0 then .agg #[.slice ao 1 c, .int .i64 1, .int .i64 0, .int .i64 0, .int .i64 5, .int .i64 0, .int .i64 1] else .agg #[.slice ao 0 c, .int .i64 3, .int .i64 (wdS op a b), .int .i64 0, .int .i64 3, .int .i64 0, .int .i64 1]
def wdE (op a b : Int) : List (Int × Int) := if wdS op a b = 0 then [(1, wdV op a b)] else []
theorem wd_one (w W : World) (hTab : Tab W) (op a b to : Int) (ho : (3 ≤ op ∧ op ≤ 17) ∨ op = 20) (ht : 0 ≤ to ∧ to ≤ 15) (ha : Fits a) (hb : Fits b) (g : Nat) (hg : W.heap[g]? = some (.cells #[.int .i64 1, .int .i64 3, .int .i64 0, .int .i64 0, .int .i64 a, .int .i64 1, .int .i64 4, .int .i64 0, .int .i64 0, .int .i64 b, .int .i64 op, .int .i64 to, .int .i64 3, .int .i64 (if op = 20 then 0 else 4), .int .i64 0, .int .i64 37, .int .i64 to, .int .i64 0, .int .i64 0, .int .i64 0, .int .i64 27, .int .i64 0, .int .i64 0, .int .i64 0, .int .i64 0] 23 (0, 0))) :
    Calls Tryz.prog 13 #[.slice (some ⟨g, 0, none⟩) 5 5, .int .i64 2, .agg #[.int .i64 2, .int .i64 0], .slice none 0 0, .int .i64 9] W fun e w' => ∃ ao c, e = .returned (.tuple #[wdO ao c op a b, .bool true]) ∧ Evs w' ao c (wdE op a b) ∧ Below W.heap.size W w' := by
  have hC : StsG W (some ⟨g, 0, none⟩) 5 5 ((wdC op a b to).map riv) := stsG_exact (xs := (wdC op a b to).map riv) hg rfl rfl rfl (by show 5 ≤ _; omega)
  have hnum : ∀ x ∈ wdC op a b to, Fits x.n := by
    intro x hx
    unfold wdC at hx
    simp only [List.mem_cons, List.not_mem_nil, or_false] at hx
    have hz : Fits 0 := by unfold Fits; omega
    rcases hx with rfl | rfl | rfl | rfl | rfl
    · exact ha
    · exact hb
    · exact hz
    · exact hz
    · exact hz
  have hk := newErr_one (S := 2) (r := 0) (wd_form op a b to ho ht ha hb) (by omega) (by omega)
  by_cases hs : wdS op a b = 0
  · obtain ⟨R, hR, e1, e2, e3, e4, e5, e6, e7⟩ := wd_done op a b to ho ht hs
    refine (one_any W hTab _ 5 5 (wdC op a b to) rfl hC (by omega) hnum 2 2 0 hk 9 (by omega) R hR).mono ?_
    rintro e w' ⟨ao, c, rfl, hE, hB⟩
    rw [e1] at hE
    rw [e1, e2, e3, e4, e5, e6, e7]
    refine ⟨ao, c, ?_, ?_, hB⟩
    · unfold wdO
      rw [if_pos hs]
      rfl
    · unfold wdE
      rw [if_pos hs]
      exact hE
  · refine (one_any W hTab _ 5 5 (wdC op a b to) rfl hC (by omega) hnum 2 2 0 hk 9 (by omega) _ (wd_stuck op a b to ho hs)).mono ?_
    rintro e w' ⟨ao, c, rfl, hE, hB⟩
    refine ⟨ao, c, ?_, ?_, hB⟩
    · unfold wdO
      rw [if_neg hs]
      rfl
    · unfold wdE
      rw [if_neg hs]
      exact hE
set_option maxRecDepth 100000 in
set_option maxHeartbeats 4000000 in
theorem words_6a (w : World) (hTab : Tab w) (o a b t to : Int) (ht : 0 ≤ to ∧ to ≤ 15) (ha : Fits a) (hb : Fits b) (h2 : bits BinOp.and IntKind.i64 t 15 = to) (h1 : bits BinOp.and IntKind.i64 o 15 = 3) (q0 : (b == 0) = true) : Calls Tryz.prog 4 #[.int .i64 o, .int .i64 a, .int .i64 b, .int .i64 t] w fun e w' => e = .returned (.bool true) ∧ Below w.heap.size w w' := by
  have hs : wdS (6 : Int) a b = 3 := by unfold wdS; rw [if_pos (by simp at q0; omega)]
  have hop : (3 ≤ (6 : Int) ∧ (6 : Int) ≤ 17) ∨ (6 : Int) = 20 := by omega
  obtain ⟨V, hV⟩ : ∃ V, V = wdV (6 : Int) a b := ⟨_, rfl⟩
  have HON : Hid (∀ W g, Below w.heap.size w W → W.heap[g]? = some (.cells #[.int .i64 1, .int .i64 3, .int .i64 0, .int .i64 0, .int .i64 a, .int .i64 1, .int .i64 4, .int .i64 0, .int .i64 0, .int .i64 b, .int .i64 6, .int .i64 to, .int .i64 3, .int .i64 4, .int .i64 0, .int .i64 37, .int .i64 to, .int .i64 0, .int .i64 0, .int .i64 0, .int .i64 27, .int .i64 0, .int .i64 0, .int .i64 0, .int .i64 0] 23 (0, 0)) →
    Calls Tryz.prog 13 #[.slice (some ⟨g, 0, none⟩) 5 5, .int .i64 2, .agg #[.int .i64 2, .int .i64 0], .slice none 0 0, .int .i64 9] W fun e w' => ∃ ao c, e = .returned (.tuple #[.agg #[.slice ao 0 c, .int .i64 3, .int .i64 3, .int .i64 0, .int .i64 3, .int .i64 0, .int .i64 1], .bool true]) ∧ Evs w' ao c [] ∧ Below W.heap.size W w') := fun W g bW hg => by
    refine (wd_one w W (hTab.below bW hTab.1) (6 : Int) a b to hop ht ha hb g (by rw [if_neg (by omega)]; exact hg)).mono ?_
    rintro e w' ⟨ao, c, rfl, hE, hB⟩
    unfold wdE at hE
    unfold wdO
    rw [hs] at hE ⊢
    rw [if_neg (by decide)] at hE ⊢

    exact ⟨ao, c, rfl, hE, hB⟩
  have HDO : Hid (∀ W, Calls Tryz.prog 14 #[.int .i64 ((6 : Int) - 1), .int .i64 a, .int .i64 b] W fun e w' => e = .returned (.tuple #[.int .i64 V, .bool true]) ∧ Below W.heap.size W w') := fun W => by
    have h := do_anyW ((6 : Int) - 1) a b W
    rw [show isOpW ((6 : Int) - 1) = true by first | rfl | (unfold isOpW; exact decide_eq_true (by omega)), show doIW ((6 : Int) - 1) a b = V by rw [hV]; unfold wdV; first | rw [if_neg (by omega)] | (rw [if_pos (by omega)]; unfold doIW; simp)] at h
    exact h
  have HAL : Hid (∀ W, Below w.heap.size w W → Calls Tryz.prog 10 #[] W fun e w' => e = .returned (.bool true) ∧ Below W.heap.size W w') := fun W bW => alive21_any W (hTab.below bW hTab.1)
  clear hTab ha hb hs hV hop ht
  go_enter Tryz.func4, Tryz.ntmps4
  go_upto_region 8 with fail
  obtain ⟨W5, hW5⟩ : ∃ W5, W5 = w.alloc (wdX 6 a b to 4) := ⟨_, rfl⟩
  obtain ⟨g, hg⟩ : ∃ g, g = w.heap.size := ⟨_, rfl⟩
  have k5 := by
    have h := heap_alloc_new w (wdX 6 a b to 4)
    rw [← hW5, ← hg] at h
    exact h
  unfold wdX at k5
  have b5 : Below w.heap.size w W5 := by rw [hW5]; exact below_newR w _
  unfold wdX at hW5
  rw [← hW5, ← hg]
  have H1 : Hid _ := HON.out W5 g b5 k5
  have HB5 : Hid _ := b5
  clear hW5 k5 b5 hg HON
  go_wp2_with fail
  refine Calls.mono H1.out ?_
  rintro e w6 ⟨ao, c, rfl, hE, b6⟩
  go_upto_region 9 with fail
  obtain ⟨p, hp⟩ : ∃ p, p = w6.heap.size := ⟨_, rfl⟩
  obtain ⟨w7, hw7⟩ : ∃ w7, w7 = w6.alloc (.cells #[.slice ao 0 c, .int .i64 3, .int .i64 3, .int .i64 0, .int .i64 3, .int .i64 0, .int .i64 1] 40) := ⟨_, rfl⟩
  rw [← hw7, ← hp]
  have b7 : Below w6.heap.size w6 w7 := by rw [hw7]; exact below_newR w6 _
  have k7 : w7.heap[p]? = some (.cells #[.slice ao 0 c, .int .i64 3, .int .i64 3, .int .i64 0, .int .i64 3, .int .i64 0, .int .i64 1] 40 (0, 0)) := by rw [hw7, hp]; exact heap_alloc_new _ _
  have E7 : Evs w7 ao c [] := hE.belowR b7
  have HB7 : Hid (Below w.heap.size w w7) := HB5.out.trans ((b6.mono HB5.out.size).trans (b7.mono (Nat.le_trans HB5.out.size b6.size)))
  have HK7 : Hid _ := k7
  have HE7 : Hid _ := E7
  clear hw7 hp b7 k7 E7 hE b6 HB5 H1
  go_wp2_with fail
  refine Calls.mono (HDO.out _) ?_
  rintro e w8 ⟨rfl, b8⟩
  have HB8 : Hid (Below w.heap.size w w8) := HB7.out.trans (b8.mono HB7.out.size)
  have HB78 : Hid _ := b8
  clear b8
  have HA8 : Hid _ := HAL.out w8 HB8.out
  go_wp2_with fail
  refine Calls.mono HA8.out ?_
  rintro e w9 ⟨rfl, b9⟩
  have HB9 : Hid (Below w.heap.size w w9) := HB8.out.trans (b9.mono HB8.out.size)
  have b79 : Below w7.heap.size w7 w9 := HB78.out.trans (b9.mono HB78.out.size)
  have k9 := (b79.block _ (Array.getElem?_eq_some_iff.1 HK7.out).1).trans HK7.out
  have l9 := (Array.getElem?_eq_some_iff.1 k9).1
  have x0 : w9.cell? ⟨p, 0, none⟩ = some (.slice ao 0 c) := cell_arr k9 rfl
  have x1 : w9.cell? ⟨p, 1, none⟩ = some (.int .i64 3) := cell_arr k9 rfl
  have x2 : w9.cell? ⟨p, 2, none⟩ = some (.int .i64 3) := cell_arr k9 rfl
  have x3 : w9.cell? ⟨p, 3, none⟩ = some (.int .i64 0) := cell_arr k9 rfl
  have x4 : w9.cell? ⟨p, 4, none⟩ = some (.int .i64 3) := cell_arr k9 rfl
  clear b9 b79 k9 HK7 HE7 HB7 HB8 HB78 HA8 HAL HDO
  go_wp2_with fail
  go_ret
  exact ⟨rfl, HB9.out⟩
set_option maxRecDepth 100000 in
set_option maxHeartbeats 4000000 in
theorem words_6b (w : World) (hTab : Tab w) (o a b t to : Int) (ht : 0 ≤ to ∧ to ≤ 15) (ha : Fits a) (hb : Fits b) (h2 : bits BinOp.and IntKind.i64 t 15 = to) (h1 : bits BinOp.and IntKind.i64 o 15 = 3) (q0 : (b == 0) = false) : Calls Tryz.prog 4 #[.int .i64 o, .int .i64 a, .int .i64 b, .int .i64 t] w fun e w' => e = .returned (.bool true) ∧ Below w.heap.size w w' := by
  have hs : wdS (6 : Int) a b = 0 := by unfold wdS; rw [if_neg (by simp at * <;> omega), if_neg (by simp at * <;> omega), if_neg (by simp at * <;> omega)]
  have hop : (3 ≤ (6 : Int) ∧ (6 : Int) ≤ 17) ∨ (6 : Int) = 20 := by omega
  obtain ⟨V, hV⟩ : ∃ V, V = wdV (6 : Int) a b := ⟨_, rfl⟩
  have HON : Hid (∀ W g, Below w.heap.size w W → W.heap[g]? = some (.cells #[.int .i64 1, .int .i64 3, .int .i64 0, .int .i64 0, .int .i64 a, .int .i64 1, .int .i64 4, .int .i64 0, .int .i64 0, .int .i64 b, .int .i64 6, .int .i64 to, .int .i64 3, .int .i64 4, .int .i64 0, .int .i64 37, .int .i64 to, .int .i64 0, .int .i64 0, .int .i64 0, .int .i64 27, .int .i64 0, .int .i64 0, .int .i64 0, .int .i64 0] 23 (0, 0)) →
    Calls Tryz.prog 13 #[.slice (some ⟨g, 0, none⟩) 5 5, .int .i64 2, .agg #[.int .i64 2, .int .i64 0], .slice none 0 0, .int .i64 9] W fun e w' => ∃ ao c, e = .returned (.tuple #[.agg #[.slice ao 1 c, .int .i64 1, .int .i64 0, .int .i64 0, .int .i64 5, .int .i64 0, .int .i64 1], .bool true]) ∧ Evs w' ao c [(1, V)] ∧ Below W.heap.size W w') := fun W g bW hg => by
    refine (wd_one w W (hTab.below bW hTab.1) (6 : Int) a b to hop ht ha hb g (by rw [if_neg (by omega)]; exact hg)).mono ?_
    rintro e w' ⟨ao, c, rfl, hE, hB⟩
    unfold wdE at hE
    unfold wdO
    rw [hs] at hE ⊢
    rw [if_pos rfl] at hE ⊢
    rw [← hV] at hE
    exact ⟨ao, c, rfl, hE, hB⟩
  have HDO : Hid (∀ W, Calls Tryz.prog 14 #[.int .i64 ((6 : Int) - 1), .int .i64 a, .int .i64 b] W fun e w' => e = .returned (.tuple #[.int .i64 V, .bool true]) ∧ Below W.heap.size W w') := fun W => by
    have h := do_anyW ((6 : Int) - 1) a b W
    rw [show isOpW ((6 : Int) - 1) = true by first | rfl | (unfold isOpW; exact decide_eq_true (by omega)), show doIW ((6 : Int) - 1) a b = V by rw [hV]; unfold wdV; first | rw [if_neg (by omega)] | (rw [if_pos (by omega)]; unfold doIW; simp)] at h
    exact h
  have HAL : Hid (∀ W, Below w.heap.size w W → Calls Tryz.prog 10 #[] W fun e w' => e = .returned (.bool true) ∧ Below W.heap.size W w') := fun W bW => alive21_any W (hTab.below bW hTab.1)
  clear hTab ha hb hs hV hop ht
  go_enter Tryz.func4, Tryz.ntmps4
  go_upto_region 8 with fail
  obtain ⟨W5, hW5⟩ : ∃ W5, W5 = w.alloc (wdX 6 a b to 4) := ⟨_, rfl⟩
  obtain ⟨g, hg⟩ : ∃ g, g = w.heap.size := ⟨_, rfl⟩
  have k5 := by
    have h := heap_alloc_new w (wdX 6 a b to 4)
    rw [← hW5, ← hg] at h
    exact h
  unfold wdX at k5
  have b5 : Below w.heap.size w W5 := by rw [hW5]; exact below_newR w _
  unfold wdX at hW5
  rw [← hW5, ← hg]
  have H1 : Hid _ := HON.out W5 g b5 k5
  have HB5 : Hid _ := b5
  clear hW5 k5 b5 hg HON
  go_wp2_with fail
  refine Calls.mono H1.out ?_
  rintro e w6 ⟨ao, c, rfl, hE, b6⟩
  go_upto_region 9 with fail
  obtain ⟨p, hp⟩ : ∃ p, p = w6.heap.size := ⟨_, rfl⟩
  obtain ⟨w7, hw7⟩ : ∃ w7, w7 = w6.alloc (.cells #[.slice ao 1 c, .int .i64 1, .int .i64 0, .int .i64 0, .int .i64 5, .int .i64 0, .int .i64 1] 40) := ⟨_, rfl⟩
  rw [← hw7, ← hp]
  have b7 : Below w6.heap.size w6 w7 := by rw [hw7]; exact below_newR w6 _
  have k7 : w7.heap[p]? = some (.cells #[.slice ao 1 c, .int .i64 1, .int .i64 0, .int .i64 0, .int .i64 5, .int .i64 0, .int .i64 1] 40 (0, 0)) := by rw [hw7, hp]; exact heap_alloc_new _ _
  have E7 : Evs w7 ao c [(1, V)] := hE.belowR b7
  have HB7 : Hid (Below w.heap.size w w7) := HB5.out.trans ((b6.mono HB5.out.size).trans (b7.mono (Nat.le_trans HB5.out.size b6.size)))
  have HK7 : Hid _ := k7
  have HE7 : Hid _ := E7
  clear hw7 hp b7 k7 E7 hE b6 HB5 H1
  go_wp2_with fail
  refine Calls.mono (HDO.out _) ?_
  rintro e w8 ⟨rfl, b8⟩
  have HB8 : Hid (Below w.heap.size w w8) := HB7.out.trans (b8.mono HB7.out.size)
  have HB78 : Hid _ := b8
  clear b8
  have HA8 : Hid _ := HAL.out w8 HB8.out
  go_wp2_with fail
  refine Calls.mono HA8.out ?_
  rintro e w9 ⟨rfl, b9⟩
  have HB9 : Hid (Below w.heap.size w w9) := HB8.out.trans (b9.mono HB8.out.size)
  have b79 : Below w7.heap.size w7 w9 := HB78.out.trans (b9.mono HB78.out.size)
  have k9 := (b79.block _ (Array.getElem?_eq_some_iff.1 HK7.out).1).trans HK7.out
  have l9 := (Array.getElem?_eq_some_iff.1 k9).1
  have x0 : w9.cell? ⟨p, 0, none⟩ = some (.slice ao 1 c) := cell_arr k9 rfl
  have x1 : w9.cell? ⟨p, 1, none⟩ = some (.int .i64 1) := cell_arr k9 rfl
  have x2 : w9.cell? ⟨p, 2, none⟩ = some (.int .i64 0) := cell_arr k9 rfl
  have x3 : w9.cell? ⟨p, 3, none⟩ = some (.int .i64 0) := cell_arr k9 rfl
  have x4 : w9.cell? ⟨p, 4, none⟩ = some (.int .i64 5) := cell_arr k9 rfl
  obtain ⟨eb, eo, rfl, el, y0, y1⟩ := (HE7.out.belowR b79).atR (k := 0) (by simp)
  simp only [Nat.zero_mul, Nat.add_zero, List.getElem_cons_zero] at y0 y1
  clear b9 b79 k9 HK7 HE7 HB7 HB8 HB78 HA8 HAL HDO
  go_wp2_with fail
  go_ret
  exact ⟨rfl, HB9.out⟩
set_option maxRecDepth 100000 in
set_option maxHeartbeats 4000000 in
theorem words_7a (w : World) (hTab : Tab w) (o a b t to : Int) (ht : 0 ≤ to ∧ to ≤ 15) (ha : Fits a) (hb : Fits b) (h2 : bits BinOp.and IntKind.i64 t 15 = to) (h1 : bits BinOp.and IntKind.i64 o 15 = 4) (q0 : (b == 0) = true) : Calls Tryz.prog 4 #[.int .i64 o, .int .i64 a, .int .i64 b, .int .i64 t] w fun e w' => e = .returned (.bool true) ∧ Below w.heap.size w w' := by
  have hs : wdS (7 : Int) a b = 3 := by unfold wdS; rw [if_pos (by simp at q0; omega)]
  have hop : (3 ≤ (7 : Int) ∧ (7 : Int) ≤ 17) ∨ (7 : Int) = 20 := by omega
  obtain ⟨V, hV⟩ : ∃ V, V = wdV (7 : Int) a b := ⟨_, rfl⟩
  have HON : Hid (∀ W g, Below w.heap.size w W → W.heap[g]? = some (.cells #[.int .i64 1, .int .i64 3, .int .i64 0, .int .i64 0, .int .i64 a, .int .i64 1, .int .i64 4, .int .i64 0, .int .i64 0, .int .i64 b, .int .i64 7, .int .i64 to, .int .i64 3, .int .i64 4, .int .i64 0, .int .i64 37, .int .i64 to, .int .i64 0, .int .i64 0, .int .i64 0, .int .i64 27, .int .i64 0, .int .i64 0, .int .i64 0, .int .i64 0] 23 (0, 0)) →
    Calls Tryz.prog 13 #[.slice (some ⟨g, 0, none⟩) 5 5, .int .i64 2, .agg #[.int .i64 2, .int .i64 0], .slice none 0 0, .int .i64 9] W fun e w' => ∃ ao c, e = .returned (.tuple #[.agg #[.slice ao 0 c, .int .i64 3, .int .i64 3, .int .i64 0, .int .i64 3, .int .i64 0, .int .i64 1], .bool true]) ∧ Evs w' ao c [] ∧ Below W.heap.size W w') := fun W g bW hg => by
    refine (wd_one w W (hTab.below bW hTab.1) (7 : Int) a b to hop ht ha hb g (by rw [if_neg (by omega)]; exact hg)).mono ?_
    rintro e w' ⟨ao, c, rfl, hE, hB⟩
    unfold wdE at hE
    unfold wdO
    rw [hs] at hE ⊢
    rw [if_neg (by decide)] at hE ⊢

    exact ⟨ao, c, rfl, hE, hB⟩
  have HDO : Hid (∀ W, Calls Tryz.prog 14 #[.int .i64 ((7 : Int) - 1), .int .i64 a, .int .i64 b] W fun e w' => e = .returned (.tuple #[.int .i64 V, .bool true]) ∧ Below W.heap.size W w') := fun W => by
    have h := do_anyW ((7 : Int) - 1) a b W
    rw [show isOpW ((7 : Int) - 1) = true by first | rfl | (unfold isOpW; exact decide_eq_true (by omega)), show doIW ((7 : Int) - 1) a b = V by rw [hV]; unfold wdV; first | rw [if_neg (by omega)] | (rw [if_pos (by omega)]; unfold doIW; simp)] at h
    exact h
  have HAL : Hid (∀ W, Below w.heap.size w W → Calls Tryz.prog 10 #[] W fun e w' => e = .returned (.bool true) ∧ Below W.heap.size W w') := fun W bW => alive21_any W (hTab.below bW hTab.1)
  clear hTab ha hb hs hV hop ht
  go_enter Tryz.func4, Tryz.ntmps4
  go_upto_region 8 with fail
  obtain ⟨W5, hW5⟩ : ∃ W5, W5 = w.alloc (wdX 7 a b to 4) := ⟨_, rfl⟩
  obtain ⟨g, hg⟩ : ∃ g, g = w.heap.size := ⟨_, rfl⟩
  have k5 := by
    have h := heap_alloc_new w (wdX 7 a b to 4)
    rw [← hW5, ← hg] at h
    exact h
  unfold wdX at k5
  have b5 : Below w.heap.size w W5 := by rw [hW5]; exact below_newR w _
  unfold wdX at hW5
  rw [← hW5, ← hg]
  have H1 : Hid _ := HON.out W5 g b5 k5
  have HB5 : Hid _ := b5
  clear hW5 k5 b5 hg HON
  go_wp2_with fail
  refine Calls.mono H1.out ?_
  rintro e w6 ⟨ao, c, rfl, hE, b6⟩
  go_upto_region 9 with fail
  obtain ⟨p, hp⟩ : ∃ p, p = w6.heap.size := ⟨_, rfl⟩
  obtain ⟨w7, hw7⟩ : ∃ w7, w7 = w6.alloc (.cells #[.slice ao 0 c, .int .i64 3, .int .i64 3, .int .i64 0, .int .i64 3, .int .i64 0, .int .i64 1] 40) := ⟨_, rfl⟩
  rw [← hw7, ← hp]
  have b7 : Below w6.heap.size w6 w7 := by rw [hw7]; exact below_newR w6 _
  have k7 : w7.heap[p]? = some (.cells #[.slice ao 0 c, .int .i64 3, .int .i64 3, .int .i64 0, .int .i64 3, .int .i64 0, .int .i64 1] 40 (0, 0)) := by rw [hw7, hp]; exact heap_alloc_new _ _
  have E7 : Evs w7 ao c [] := hE.belowR b7
  have HB7 : Hid (Below w.heap.size w w7) := HB5.out.trans ((b6.mono HB5.out.size).trans (b7.mono (Nat.le_trans HB5.out.size b6.size)))
  have HK7 : Hid _ := k7
  have HE7 : Hid _ := E7
  clear hw7 hp b7 k7 E7 hE b6 HB5 H1
  go_wp2_with fail
  refine Calls.mono (HDO.out _) ?_
  rintro e w8 ⟨rfl, b8⟩
  have HB8 : Hid (Below w.heap.size w w8) := HB7.out.trans (b8.mono HB7.out.size)
  have HB78 : Hid _ := b8
  clear b8
  have HA8 : Hid _ := HAL.out w8 HB8.out
  go_wp2_with fail
  refine Calls.mono HA8.out ?_
  rintro e w9 ⟨rfl, b9⟩
  have HB9 : Hid (Below w.heap.size w w9) := HB8.out.trans (b9.mono HB8.out.size)
  have b79 : Below w7.heap.size w7 w9 := HB78.out.trans (b9.mono HB78.out.size)
  have k9 := (b79.block _ (Array.getElem?_eq_some_iff.1 HK7.out).1).trans HK7.out
  have l9 := (Array.getElem?_eq_some_iff.1 k9).1
  have x0 : w9.cell? ⟨p, 0, none⟩ = some (.slice ao 0 c) := cell_arr k9 rfl
  have x1 : w9.cell? ⟨p, 1, none⟩ = some (.int .i64 3) := cell_arr k9 rfl
  have x2 : w9.cell? ⟨p, 2, none⟩ = some (.int .i64 3) := cell_arr k9 rfl
  have x3 : w9.cell? ⟨p, 3, none⟩ = some (.int .i64 0) := cell_arr k9 rfl
  have x4 : w9.cell? ⟨p, 4, none⟩ = some (.int .i64 3) := cell_arr k9 rfl
  clear b9 b79 k9 HK7 HE7 HB7 HB8 HB78 HA8 HAL HDO
  go_wp2_with fail
  go_ret
  exact ⟨rfl, HB9.out⟩
set_option maxRecDepth 100000 in
set_option maxHeartbeats 4000000 in
theorem words_7b (w : World) (hTab : Tab w) (o a b t to : Int) (ht : 0 ≤ to ∧ to ≤ 15) (ha : Fits a) (hb : Fits b) (h2 : bits BinOp.and IntKind.i64 t 15 = to) (h1 : bits BinOp.and IntKind.i64 o 15 = 4) (q0 : (b == 0) = false) : Calls Tryz.prog 4 #[.int .i64 o, .int .i64 a, .int .i64 b, .int .i64 t] w fun e w' => e = .returned (.bool true) ∧ Below w.heap.size w w' := by
  have hs : wdS (7 : Int) a b = 0 := by unfold wdS; rw [if_neg (by simp at * <;> omega), if_neg (by simp at * <;> omega), if_neg (by simp at * <;> omega)]
  have hop : (3 ≤ (7 : Int) ∧ (7 : Int) ≤ 17) ∨ (7 : Int) = 20 := by omega
  obtain ⟨V, hV⟩ : ∃ V, V = wdV (7 : Int) a b := ⟨_, rfl⟩
  have HON : Hid (∀ W g, Below w.heap.size w W → W.heap[g]? = some (.cells #[.int .i64 1, .int .i64 3, .int .i64 0, .int .i64 0, .int .i64 a, .int .i64 1, .int .i64 4, .int .i64 0, .int .i64 0, .int .i64 b, .int .i64 7, .int .i64 to, .int .i64 3, .int .i64 4, .int .i64 0, .int .i64 37, .int .i64 to, .int .i64 0, .int .i64 0, .int .i64 0, .int .i64 27, .int .i64 0, .int .i64 0, .int .i64 0, .int .i64 0] 23 (0, 0)) →
    Calls Tryz.prog 13 #[.slice (some ⟨g, 0, none⟩) 5 5, .int .i64 2, .agg #[.int .i64 2, .int .i64 0], .slice none 0 0, .int .i64 9] W fun e w' => ∃ ao c, e = .returned (.tuple #[.agg #[.slice ao 1 c, .int .i64 1, .int .i64 0, .int .i64 0, .int .i64 5, .int .i64 0, .int .i64 1], .bool true]) ∧ Evs w' ao c [(1, V)] ∧ Below W.heap.size W w') := fun W g bW hg => by
    refine (wd_one w W (hTab.below bW hTab.1) (7 : Int) a b to hop ht ha hb g (by rw [if_neg (by omega)]; exact hg)).mono ?_
    rintro e w' ⟨ao, c, rfl, hE, hB⟩
    unfold wdE at hE
    unfold wdO
    rw [hs] at hE ⊢
    rw [if_pos rfl] at hE ⊢
    rw [← hV] at hE
    exact ⟨ao, c, rfl, hE, hB⟩
  have HDO : Hid (∀ W, Calls Tryz.prog 14 #[.int .i64 ((7 : Int) - 1), .int .i64 a, .int .i64 b] W fun e w' => e = .returned (.tuple #[.int .i64 V, .bool true]) ∧ Below W.heap.size W w') := fun W => by
    have h := do_anyW ((7 : Int) - 1) a b W
    rw [show isOpW ((7 : Int) - 1) = true by first | rfl | (unfold isOpW; exact decide_eq_true (by omega)), show doIW ((7 : Int) - 1) a b = V by rw [hV]; unfold wdV; first | rw [if_neg (by omega)] | (rw [if_pos (by omega)]; unfold doIW; simp)] at h
    exact h
  have HAL : Hid (∀ W, Below w.heap.size w W → Calls Tryz.prog 10 #[] W fun e w' => e = .returned (.bool true) ∧ Below W.heap.size W w') := fun W bW => alive21_any W (hTab.below bW hTab.1)
  clear hTab ha hb hs hV hop ht
  go_enter Tryz.func4, Tryz.ntmps4
  go_upto_region 8 with fail
  obtain ⟨W5, hW5⟩ : ∃ W5, W5 = w.alloc (wdX 7 a b to 4) := ⟨_, rfl⟩
  obtain ⟨g, hg⟩ : ∃ g, g = w.heap.size := ⟨_, rfl⟩
  have k5 := by
    have h := heap_alloc_new w (wdX 7 a b to 4)
    rw [← hW5, ← hg] at h
    exact h
  unfold wdX at k5
  have b5 : Below w.heap.size w W5 := by rw [hW5]; exact below_newR w _
  unfold wdX at hW5
  rw [← hW5, ← hg]
  have H1 : Hid _ := HON.out W5 g b5 k5
  have HB5 : Hid _ := b5
  clear hW5 k5 b5 hg HON
  go_wp2_with fail
  refine Calls.mono H1.out ?_
  rintro e w6 ⟨ao, c, rfl, hE, b6⟩
  go_upto_region 9 with fail
  obtain ⟨p, hp⟩ : ∃ p, p = w6.heap.size := ⟨_, rfl⟩
  obtain ⟨w7, hw7⟩ : ∃ w7, w7 = w6.alloc (.cells #[.slice ao 1 c, .int .i64 1, .int .i64 0, .int .i64 0, .int .i64 5, .int .i64 0, .int .i64 1] 40) := ⟨_, rfl⟩
  rw [← hw7, ← hp]
  have b7 : Below w6.heap.size w6 w7 := by rw [hw7]; exact below_newR w6 _
  have k7 : w7.heap[p]? = some (.cells #[.slice ao 1 c, .int .i64 1, .int .i64 0, .int .i64 0, .int .i64 5, .int .i64 0, .int .i64 1] 40 (0, 0)) := by rw [hw7, hp]; exact heap_alloc_new _ _
  have E7 : Evs w7 ao c [(1, V)] := hE.belowR b7
  have HB7 : Hid (Below w.heap.size w w7) := HB5.out.trans ((b6.mono HB5.out.size).trans (b7.mono (Nat.le_trans HB5.out.size b6.size)))
  have HK7 : Hid _ := k7
  have HE7 : Hid _ := E7
  clear hw7 hp b7 k7 E7 hE b6 HB5 H1
  go_wp2_with fail
  refine Calls.mono (HDO.out _) ?_
  rintro e w8 ⟨rfl, b8⟩
  have HB8 : Hid (Below w.heap.size w w8) := HB7.out.trans (b8.mono HB7.out.size)
  have HB78 : Hid _ := b8
  clear b8
  have HA8 : Hid _ := HAL.out w8 HB8.out
  go_wp2_with fail
  refine Calls.mono HA8.out ?_
  rintro e w9 ⟨rfl, b9⟩
  have HB9 : Hid (Below w.heap.size w w9) := HB8.out.trans (b9.mono HB8.out.size)
  have b79 : Below w7.heap.size w7 w9 := HB78.out.trans (b9.mono HB78.out.size)
  have k9 := (b79.block _ (Array.getElem?_eq_some_iff.1 HK7.out).1).trans HK7.out
  have l9 := (Array.getElem?_eq_some_iff.1 k9).1
  have x0 : w9.cell? ⟨p, 0, none⟩ = some (.slice ao 1 c) := cell_arr k9 rfl
  have x1 : w9.cell? ⟨p, 1, none⟩ = some (.int .i64 1) := cell_arr k9 rfl
  have x2 : w9.cell? ⟨p, 2, none⟩ = some (.int .i64 0) := cell_arr k9 rfl
  have x3 : w9.cell? ⟨p, 3, none⟩ = some (.int .i64 0) := cell_arr k9 rfl
  have x4 : w9.cell? ⟨p, 4, none⟩ = some (.int .i64 5) := cell_arr k9 rfl
  obtain ⟨eb, eo, rfl, el, y0, y1⟩ := (HE7.out.belowR b79).atR (k := 0) (by simp)
  simp only [Nat.zero_mul, Nat.add_zero, List.getElem_cons_zero] at y0 y1
  clear b9 b79 k9 HK7 HE7 HB7 HB8 HB78 HA8 HAL HDO
  go_wp2_with fail
  go_ret
  exact ⟨rfl, HB9.out⟩
set_option maxRecDepth 100000 in
set_option maxHeartbeats 4000000 in
theorem words_12a (w : World) (hTab : Tab w) (o a b t to : Int) (ht : 0 ≤ to ∧ to ≤ 15) (ha : Fits a) (hb : Fits b) (h2 : bits BinOp.and IntKind.i64 t 15 = to) (h1 : bits BinOp.and IntKind.i64 o 15 = 9) (q0 : decide (b < 0) = true) : Calls Tryz.prog 4 #[.int .i64 o, .int .i64 a, .int .i64 b, .int .i64 t] w fun e w' => e = .returned (.bool true) ∧ Below w.heap.size w w' := by
  have hs : wdS (12 : Int) a b = 4 := by unfold wdS; rw [if_neg (by omega), if_pos (by simp at q0; omega)]
  have hop : (3 ≤ (12 : Int) ∧ (12 : Int) ≤ 17) ∨ (12 : Int) = 20 := by omega
  obtain ⟨V, hV⟩ : ∃ V, V = wdV (12 : Int) a b := ⟨_, rfl⟩
  have HON : Hid (∀ W g, Below w.heap.size w W → W.heap[g]? = some (.cells #[.int .i64 1, .int .i64 3, .int .i64 0, .int .i64 0, .int .i64 a, .int .i64 1, .int .i64 4, .int .i64 0, .int .i64 0, .int .i64 b, .int .i64 12, .int .i64 to, .int .i64 3, .int .i64 4, .int .i64 0, .int .i64 37, .int .i64 to, .int .i64 0, .int .i64 0, .int .i64 0, .int .i64 27, .int .i64 0, .int .i64 0, .int .i64 0, .int .i64 0] 23 (0, 0)) →
    Calls Tryz.prog 13 #[.slice (some ⟨g, 0, none⟩) 5 5, .int .i64 2, .agg #[.int .i64 2, .int .i64 0], .slice none 0 0, .int .i64 9] W fun e w' => ∃ ao c, e = .returned (.tuple #[.agg #[.slice ao 0 c, .int .i64 3, .int .i64 4, .int .i64 0, .int .i64 3, .int .i64 0, .int .i64 1], .bool true]) ∧ Evs w' ao c [] ∧ Below W.heap.size W w') := fun W g bW hg => by
    refine (wd_one w W (hTab.below bW hTab.1) (12 : Int) a b to hop ht ha hb g (by rw [if_neg (by omega)]; exact hg)).mono ?_
    rintro e w' ⟨ao, c, rfl, hE, hB⟩
    unfold wdE at hE
    unfold wdO
    rw [hs] at hE ⊢
    rw [if_neg (by decide)] at hE ⊢

    exact ⟨ao, c, rfl, hE, hB⟩
  have HDO : Hid (∀ W, Calls Tryz.prog 14 #[.int .i64 ((12 : Int) - 1), .int .i64 a, .int .i64 b] W fun e w' => e = .returned (.tuple #[.int .i64 V, .bool true]) ∧ Below W.heap.size W w') := fun W => by
    have h := do_anyW ((12 : Int) - 1) a b W
    rw [show isOpW ((12 : Int) - 1) = true by first | rfl | (unfold isOpW; exact decide_eq_true (by omega)), show doIW ((12 : Int) - 1) a b = V by rw [hV]; unfold wdV; first | rw [if_neg (by omega)] | (rw [if_pos (by omega)]; unfold doIW; simp)] at h
    exact h
  have HAL : Hid (∀ W, Below w.heap.size w W → Calls Tryz.prog 10 #[] W fun e w' => e = .returned (.bool true) ∧ Below W.heap.size W w') := fun W bW => alive21_any W (hTab.below bW hTab.1)
  clear hTab ha hb hs hV hop ht
  go_enter Tryz.func4, Tryz.ntmps4
  go_upto_region 8 with fail
  obtain ⟨W5, hW5⟩ : ∃ W5, W5 = w.alloc (wdX 12 a b to 4) := ⟨_, rfl⟩
  obtain ⟨g, hg⟩ : ∃ g, g = w.heap.size := ⟨_, rfl⟩
  have k5 := by
    have h := heap_alloc_new w (wdX 12 a b to 4)
    rw [← hW5, ← hg] at h
    exact h
  unfold wdX at k5
  have b5 : Below w.heap.size w W5 := by rw [hW5]; exact below_newR w _
  unfold wdX at hW5
  rw [← hW5, ← hg]
  have H1 : Hid _ := HON.out W5 g b5 k5
  have HB5 : Hid _ := b5
  clear hW5 k5 b5 hg HON
  go_wp2_with fail
  refine Calls.mono H1.out ?_
  rintro e w6 ⟨ao, c, rfl, hE, b6⟩
  go_upto_region 9 with fail
  obtain ⟨p, hp⟩ : ∃ p, p = w6.heap.size := ⟨_, rfl⟩
  obtain ⟨w7, hw7⟩ : ∃ w7, w7 = w6.alloc (.cells #[.slice ao 0 c, .int .i64 3, .int .i64 4, .int .i64 0, .int .i64 3, .int .i64 0, .int .i64 1] 40) := ⟨_, rfl⟩
  rw [← hw7, ← hp]
  have b7 : Below w6.heap.size w6 w7 := by rw [hw7]; exact below_newR w6 _
  have k7 : w7.heap[p]? = some (.cells #[.slice ao 0 c, .int .i64 3, .int .i64 4, .int .i64 0, .int .i64 3, .int .i64 0, .int .i64 1] 40 (0, 0)) := by rw [hw7, hp]; exact heap_alloc_new _ _
  have E7 : Evs w7 ao c [] := hE.belowR b7
  have HB7 : Hid (Below w.heap.size w w7) := HB5.out.trans ((b6.mono HB5.out.size).trans (b7.mono (Nat.le_trans HB5.out.size b6.size)))
  have HK7 : Hid _ := k7
  have HE7 : Hid _ := E7
  clear hw7 hp b7 k7 E7 hE b6 HB5 H1
  go_wp2_with fail
  refine Calls.mono (HDO.out _) ?_
  rintro e w8 ⟨rfl, b8⟩
  have HB8 : Hid (Below w.heap.size w w8) := HB7.out.trans (b8.mono HB7.out.size)
  have HB78 : Hid _ := b8
  clear b8
  have HA8 : Hid _ := HAL.out w8 HB8.out
  go_wp2_with fail
  refine Calls.mono HA8.out ?_
  rintro e w9 ⟨rfl, b9⟩
  have HB9 : Hid (Below w.heap.size w w9) := HB8.out.trans (b9.mono HB8.out.size)
  have b79 : Below w7.heap.size w7 w9 := HB78.out.trans (b9.mono HB78.out.size)
  have k9 := (b79.block _ (Array.getElem?_eq_some_iff.1 HK7.out).1).trans HK7.out
  have l9 := (Array.getElem?_eq_some_iff.1 k9).1
  have x0 : w9.cell? ⟨p, 0, none⟩ = some (.slice ao 0 c) := cell_arr k9 rfl
  have x1 : w9.cell? ⟨p, 1, none⟩ = some (.int .i64 3) := cell_arr k9 rfl
  have x2 : w9.cell? ⟨p, 2, none⟩ = some (.int .i64 4) := cell_arr k9 rfl
  have x3 : w9.cell? ⟨p, 3, none⟩ = some (.int .i64 0) := cell_arr k9 rfl
  have x4 : w9.cell? ⟨p, 4, none⟩ = some (.int .i64 3) := cell_arr k9 rfl
  clear b9 b79 k9 HK7 HE7 HB7 HB8 HB78 HA8 HAL HDO
  go_wp2_with fail
  go_ret
  exact ⟨rfl, HB9.out⟩
set_option maxRecDepth 100000 in
set_option maxHeartbeats 4000000 in
theorem words_12b (w : World) (hTab : Tab w) (o a b t to : Int) (ht : 0 ≤ to ∧ to ≤ 15) (ha : Fits a) (hb : Fits b) (h2 : bits BinOp.and IntKind.i64 t 15 = to) (h1 : bits BinOp.and IntKind.i64 o 15 = 9) (q0 : decide (b < 0) = false) : Calls Tryz.prog 4 #[.int .i64 o, .int .i64 a, .int .i64 b, .int .i64 t] w fun e w' => e = .returned (.bool true) ∧ Below w.heap.size w w' := by
  have hs : wdS (12 : Int) a b = 0 := by unfold wdS; rw [if_neg (by simp at * <;> omega), if_neg (by simp at * <;> omega), if_neg (by simp at * <;> omega)]
  have hop : (3 ≤ (12 : Int) ∧ (12 : Int) ≤ 17) ∨ (12 : Int) = 20 := by omega
  obtain ⟨V, hV⟩ : ∃ V, V = wdV (12 : Int) a b := ⟨_, rfl⟩
  have HON : Hid (∀ W g, Below w.heap.size w W → W.heap[g]? = some (.cells #[.int .i64 1, .int .i64 3, .int .i64 0, .int .i64 0, .int .i64 a, .int .i64 1, .int .i64 4, .int .i64 0, .int .i64 0, .int .i64 b, .int .i64 12, .int .i64 to, .int .i64 3, .int .i64 4, .int .i64 0, .int .i64 37, .int .i64 to, .int .i64 0, .int .i64 0, .int .i64 0, .int .i64 27, .int .i64 0, .int .i64 0, .int .i64 0, .int .i64 0] 23 (0, 0)) →
    Calls Tryz.prog 13 #[.slice (some ⟨g, 0, none⟩) 5 5, .int .i64 2, .agg #[.int .i64 2, .int .i64 0], .slice none 0 0, .int .i64 9] W fun e w' => ∃ ao c, e = .returned (.tuple #[.agg #[.slice ao 1 c, .int .i64 1, .int .i64 0, .int .i64 0, .int .i64 5, .int .i64 0, .int .i64 1], .bool true]) ∧ Evs w' ao c [(1, V)] ∧ Below W.heap.size W w') := fun W g bW hg => by
    refine (wd_one w W (hTab.below bW hTab.1) (12 : Int) a b to hop ht ha hb g (by rw [if_neg (by omega)]; exact hg)).mono ?_
    rintro e w' ⟨ao, c, rfl, hE, hB⟩
    unfold wdE at hE
    unfold wdO
    rw [hs] at hE ⊢
    rw [if_pos rfl] at hE ⊢
    rw [← hV] at hE
    exact ⟨ao, c, rfl, hE, hB⟩
  have HDO : Hid (∀ W, Calls Tryz.prog 14 #[.int .i64 ((12 : Int) - 1), .int .i64 a, .int .i64 b] W fun e w' => e = .returned (.tuple #[.int .i64 V, .bool true]) ∧ Below W.heap.size W w') := fun W => by
    have h := do_anyW ((12 : Int) - 1) a b W
    rw [show isOpW ((12 : Int) - 1) = true by first | rfl | (unfold isOpW; exact decide_eq_true (by omega)), show doIW ((12 : Int) - 1) a b = V by rw [hV]; unfold wdV; first | rw [if_neg (by omega)] | (rw [if_pos (by omega)]; unfold doIW; simp)] at h
    exact h
  have HAL : Hid (∀ W, Below w.heap.size w W → Calls Tryz.prog 10 #[] W fun e w' => e = .returned (.bool true) ∧ Below W.heap.size W w') := fun W bW => alive21_any W (hTab.below bW hTab.1)
  clear hTab ha hb hs hV hop ht
  go_enter Tryz.func4, Tryz.ntmps4
  go_upto_region 8 with fail
  obtain ⟨W5, hW5⟩ : ∃ W5, W5 = w.alloc (wdX 12 a b to 4) := ⟨_, rfl⟩
  obtain ⟨g, hg⟩ : ∃ g, g = w.heap.size := ⟨_, rfl⟩
  have k5 := by
    have h := heap_alloc_new w (wdX 12 a b to 4)
    rw [← hW5, ← hg] at h
    exact h
  unfold wdX at k5
  have b5 : Below w.heap.size w W5 := by rw [hW5]; exact below_newR w _
  unfold wdX at hW5
  rw [← hW5, ← hg]
  have H1 : Hid _ := HON.out W5 g b5 k5
  have HB5 : Hid _ := b5
  clear hW5 k5 b5 hg HON
  go_wp2_with fail
  refine Calls.mono H1.out ?_
  rintro e w6 ⟨ao, c, rfl, hE, b6⟩
  go_upto_region 9 with fail
  obtain ⟨p, hp⟩ : ∃ p, p = w6.heap.size := ⟨_, rfl⟩
  obtain ⟨w7, hw7⟩ : ∃ w7, w7 = w6.alloc (.cells #[.slice ao 1 c, .int .i64 1, .int .i64 0, .int .i64 0, .int .i64 5, .int .i64 0, .int .i64 1] 40) := ⟨_, rfl⟩
  rw [← hw7, ← hp]
  have b7 : Below w6.heap.size w6 w7 := by rw [hw7]; exact below_newR w6 _
  have k7 : w7.heap[p]? = some (.cells #[.slice ao 1 c, .int .i64 1, .int .i64 0, .int .i64 0, .int .i64 5, .int .i64 0, .int .i64 1] 40 (0, 0)) := by rw [hw7, hp]; exact heap_alloc_new _ _
  have E7 : Evs w7 ao c [(1, V)] := hE.belowR b7
  have HB7 : Hid (Below w.heap.size w w7) := HB5.out.trans ((b6.mono HB5.out.size).trans (b7.mono (Nat.le_trans HB5.out.size b6.size)))
  have HK7 : Hid _ := k7
  have HE7 : Hid _ := E7
  clear hw7 hp b7 k7 E7 hE b6 HB5 H1
  go_wp2_with fail
  refine Calls.mono (HDO.out _) ?_
  rintro e w8 ⟨rfl, b8⟩
  have HB8 : Hid (Below w.heap.size w w8) := HB7.out.trans (b8.mono HB7.out.size)
  have HB78 : Hid _ := b8
  clear b8
  have HA8 : Hid _ := HAL.out w8 HB8.out
  go_wp2_with fail
  refine Calls.mono HA8.out ?_
  rintro e w9 ⟨rfl, b9⟩
  have HB9 : Hid (Below w.heap.size w w9) := HB8.out.trans (b9.mono HB8.out.size)
  have b79 : Below w7.heap.size w7 w9 := HB78.out.trans (b9.mono HB78.out.size)
  have k9 := (b79.block _ (Array.getElem?_eq_some_iff.1 HK7.out).1).trans HK7.out
  have l9 := (Array.getElem?_eq_some_iff.1 k9).1
  have x0 : w9.cell? ⟨p, 0, none⟩ = some (.slice ao 1 c) := cell_arr k9 rfl
  have x1 : w9.cell? ⟨p, 1, none⟩ = some (.int .i64 1) := cell_arr k9 rfl
  have x2 : w9.cell? ⟨p, 2, none⟩ = some (.int .i64 0) := cell_arr k9 rfl
  have x3 : w9.cell? ⟨p, 3, none⟩ = some (.int .i64 0) := cell_arr k9 rfl
  have x4 : w9.cell? ⟨p, 4, none⟩ = some (.int .i64 5) := cell_arr k9 rfl
  obtain ⟨eb, eo, rfl, el, y0, y1⟩ := (HE7.out.belowR b79).atR (k := 0) (by simp)
  simp only [Nat.zero_mul, Nat.add_zero, List.getElem_cons_zero] at y0 y1
  clear b9 b79 k9 HK7 HE7 HB7 HB8 HB78 HA8 HAL HDO
  go_wp2_with fail
  go_ret
  exact ⟨rfl, HB9.out⟩
set_option maxRecDepth 100000 in
set_option maxHeartbeats 4000000 in
theorem words_13a (w : World) (hTab : Tab w) (o a b t to : Int) (ht : 0 ≤ to ∧ to ≤ 15) (ha : Fits a) (hb : Fits b) (h2 : bits BinOp.and IntKind.i64 t 15 = to) (h1 : bits BinOp.and IntKind.i64 o 15 = 10) (q0 : decide (b < 0) = true) : Calls Tryz.prog 4 #[.int .i64 o, .int .i64 a, .int .i64 b, .int .i64 t] w fun e w' => e = .returned (.bool true) ∧ Below w.heap.size w w' := by
  have hs : wdS (13 : Int) a b = 4 := by unfold wdS; rw [if_neg (by omega), if_pos (by simp at q0; omega)]
  have hop : (3 ≤ (13 : Int) ∧ (13 : Int) ≤ 17) ∨ (13 : Int) = 20 := by omega
  obtain ⟨V, hV⟩ : ∃ V, V = wdV (13 : Int) a b := ⟨_, rfl⟩
  have HON : Hid (∀ W g, Below w.heap.size w W → W.heap[g]? = some (.cells #[.int .i64 1, .int .i64 3, .int .i64 0, .int .i64 0, .int .i64 a, .int .i64 1, .int .i64 4, .int .i64 0, .int .i64 0, .int .i64 b, .int .i64 13, .int .i64 to, .int .i64 3, .int .i64 4, .int .i64 0, .int .i64 37, .int .i64 to, .int .i64 0, .int .i64 0, .int .i64 0, .int .i64 27, .int .i64 0, .int .i64 0, .int .i64 0, .int .i64 0] 23 (0, 0)) →
    Calls Tryz.prog 13 #[.slice (some ⟨g, 0, none⟩) 5 5, .int .i64 2, .agg #[.int .i64 2, .int .i64 0], .slice none 0 0, .int .i64 9] W fun e w' => ∃ ao c, e = .returned (.tuple #[.agg #[.slice ao 0 c, .int .i64 3, .int .i64 4, .int .i64 0, .int .i64 3, .int .i64 0, .int .i64 1], .bool true]) ∧ Evs w' ao c [] ∧ Below W.heap.size W w') := fun W g bW hg => by
    refine (wd_one w W (hTab.below bW hTab.1) (13 : Int) a b to hop ht ha hb g (by rw [if_neg (by omega)]; exact hg)).mono ?_
    rintro e w' ⟨ao, c, rfl, hE, hB⟩
    unfold wdE at hE
    unfold wdO
    rw [hs] at hE ⊢
    rw [if_neg (by decide)] at hE ⊢

    exact ⟨ao, c, rfl, hE, hB⟩
  have HDO : Hid (∀ W, Calls Tryz.prog 14 #[.int .i64 ((13 : Int) - 1), .int .i64 a, .int .i64 b] W fun e w' => e = .returned (.tuple #[.int .i64 V, .bool true]) ∧ Below W.heap.size W w') := fun W => by
    have h := do_anyW ((13 : Int) - 1) a b W
    rw [show isOpW ((13 : Int) - 1) = true by first | rfl | (unfold isOpW; exact decide_eq_true (by omega)), show doIW ((13 : Int) - 1) a b = V by rw [hV]; unfold wdV; first | rw [if_neg (by omega)] | (rw [if_pos (by omega)]; unfold doIW; simp)] at h
    exact h
  have HAL : Hid (∀ W, Below w.heap.size w W → Calls Tryz.prog 10 #[] W fun e w' => e = .returned (.bool true) ∧ Below W.heap.size W w') := fun W bW => alive21_any W (hTab.below bW hTab.1)
  clear hTab ha hb hs hV hop ht
  go_enter Tryz.func4, Tryz.ntmps4
  go_upto_region 8 with fail
  obtain ⟨W5, hW5⟩ : ∃ W5, W5 = w.alloc (wdX 13 a b to 4) := ⟨_, rfl⟩
  obtain ⟨g, hg⟩ : ∃ g, g = w.heap.size := ⟨_, rfl⟩
  have k5 := by
    have h := heap_alloc_new w (wdX 13 a b to 4)
    rw [← hW5, ← hg] at h
    exact h
  unfold wdX at k5
  have b5 : Below w.heap.size w W5 := by rw [hW5]; exact below_newR w _
  unfold wdX at hW5
  rw [← hW5, ← hg]
  have H1 : Hid _ := HON.out W5 g b5 k5
  have HB5 : Hid _ := b5
  clear hW5 k5 b5 hg HON
  go_wp2_with fail
  refine Calls.mono H1.out ?_
  rintro e w6 ⟨ao, c, rfl, hE, b6⟩
  go_upto_region 9 with fail
  obtain ⟨p, hp⟩ : ∃ p, p = w6.heap.size := ⟨_, rfl⟩
  obtain ⟨w7, hw7⟩ : ∃ w7, w7 = w6.alloc (.cells #[.slice ao 0 c, .int .i64 3, .int .i64 4, .int .i64 0, .int .i64 3, .int .i64 0, .int .i64 1] 40) := ⟨_, rfl⟩
  rw [← hw7, ← hp]
  have b7 : Below w6.heap.size w6 w7 := by rw [hw7]; exact below_newR w6 _
  have k7 : w7.heap[p]? = some (.cells #[.slice ao 0 c, .int .i64 3, .int .i64 4, .int .i64 0, .int .i64 3, .int .i64 0, .int .i64 1] 40 (0, 0)) := by rw [hw7, hp]; exact heap_alloc_new _ _
  have E7 : Evs w7 ao c [] := hE.belowR b7
  have HB7 : Hid (Below w.heap.size w w7) := HB5.out.trans ((b6.mono HB5.out.size).trans (b7.mono (Nat.le_trans HB5.out.size b6.size)))
  have HK7 : Hid _ := k7
  have HE7 : Hid _ := E7
  clear hw7 hp b7 k7 E7 hE b6 HB5 H1
  go_wp2_with fail
  refine Calls.mono (HDO.out _) ?_
  rintro e w8 ⟨rfl, b8⟩
  have HB8 : Hid (Below w.heap.size w w8) := HB7.out.trans (b8.mono HB7.out.size)
  have HB78 : Hid _ := b8
  clear b8
  have HA8 : Hid _ := HAL.out w8 HB8.out
  go_wp2_with fail
  refine Calls.mono HA8.out ?_
  rintro e w9 ⟨rfl, b9⟩
  have HB9 : Hid (Below w.heap.size w w9) := HB8.out.trans (b9.mono HB8.out.size)
  have b79 : Below w7.heap.size w7 w9 := HB78.out.trans (b9.mono HB78.out.size)
  have k9 := (b79.block _ (Array.getElem?_eq_some_iff.1 HK7.out).1).trans HK7.out
  have l9 := (Array.getElem?_eq_some_iff.1 k9).1
  have x0 : w9.cell? ⟨p, 0, none⟩ = some (.slice ao 0 c) := cell_arr k9 rfl
  have x1 : w9.cell? ⟨p, 1, none⟩ = some (.int .i64 3) := cell_arr k9 rfl
  have x2 : w9.cell? ⟨p, 2, none⟩ = some (.int .i64 4) := cell_arr k9 rfl
  have x3 : w9.cell? ⟨p, 3, none⟩ = some (.int .i64 0) := cell_arr k9 rfl
  have x4 : w9.cell? ⟨p, 4, none⟩ = some (.int .i64 3) := cell_arr k9 rfl
  clear b9 b79 k9 HK7 HE7 HB7 HB8 HB78 HA8 HAL HDO
  go_wp2_with fail
  go_ret
  exact ⟨rfl, HB9.out⟩
set_option maxRecDepth 100000 in
set_option maxHeartbeats 4000000 in
theorem words_13b (w : World) (hTab : Tab w) (o a b t to : Int) (ht : 0 ≤ to ∧ to ≤ 15) (ha : Fits a) (hb : Fits b) (h2 : bits BinOp.and IntKind.i64 t 15 = to) (h1 : bits BinOp.and IntKind.i64 o 15 = 10) (q0 : decide (b < 0) = false) : Calls Tryz.prog 4 #[.int .i64 o, .int .i64 a, .int .i64 b, .int .i64 t] w fun e w' => e = .returned (.bool true) ∧ Below w.heap.size w w' := by
  have hs : wdS (13 : Int) a b = 0 := by unfold wdS; rw [if_neg (by simp at * <;> omega), if_neg (by simp at * <;> omega), if_neg (by simp at * <;> omega)]
  have hop : (3 ≤ (13 : Int) ∧ (13 : Int) ≤ 17) ∨ (13 : Int) = 20 := by omega
  obtain ⟨V, hV⟩ : ∃ V, V = wdV (13 : Int) a b := ⟨_, rfl⟩
  have HON : Hid (∀ W g, Below w.heap.size w W → W.heap[g]? = some (.cells #[.int .i64 1, .int .i64 3, .int .i64 0, .int .i64 0, .int .i64 a, .int .i64 1, .int .i64 4, .int .i64 0, .int .i64 0, .int .i64 b, .int .i64 13, .int .i64 to, .int .i64 3, .int .i64 4, .int .i64 0, .int .i64 37, .int .i64 to, .int .i64 0, .int .i64 0, .int .i64 0, .int .i64 27, .int .i64 0, .int .i64 0, .int .i64 0, .int .i64 0] 23 (0, 0)) →
    Calls Tryz.prog 13 #[.slice (some ⟨g, 0, none⟩) 5 5, .int .i64 2, .agg #[.int .i64 2, .int .i64 0], .slice none 0 0, .int .i64 9] W fun e w' => ∃ ao c, e = .returned (.tuple #[.agg #[.slice ao 1 c, .int .i64 1, .int .i64 0, .int .i64 0, .int .i64 5, .int .i64 0, .int .i64 1], .bool true]) ∧ Evs w' ao c [(1, V)] ∧ Below W.heap.size W w') := fun W g bW hg => by
    refine (wd_one w W (hTab.below bW hTab.1) (13 : Int) a b to hop ht ha hb g (by rw [if_neg (by omega)]; exact hg)).mono ?_
    rintro e w' ⟨ao, c, rfl, hE, hB⟩
    unfold wdE at hE
    unfold wdO
    rw [hs] at hE ⊢
    rw [if_pos rfl] at hE ⊢
    rw [← hV] at hE
    exact ⟨ao, c, rfl, hE, hB⟩
  have HDO : Hid (∀ W, Calls Tryz.prog 14 #[.int .i64 ((13 : Int) - 1), .int .i64 a, .int .i64 b] W fun e w' => e = .returned (.tuple #[.int .i64 V, .bool true]) ∧ Below W.heap.size W w') := fun W => by
    have h := do_anyW ((13 : Int) - 1) a b W
    rw [show isOpW ((13 : Int) - 1) = true by first | rfl | (unfold isOpW; exact decide_eq_true (by omega)), show doIW ((13 : Int) - 1) a b = V by rw [hV]; unfold wdV; first | rw [if_neg (by omega)] | (rw [if_pos (by omega)]; unfold doIW; simp)] at h
    exact h
  have HAL : Hid (∀ W, Below w.heap.size w W → Calls Tryz.prog 10 #[] W fun e w' => e = .returned (.bool true) ∧ Below W.heap.size W w') := fun W bW => alive21_any W (hTab.below bW hTab.1)
  clear hTab ha hb hs hV hop ht
  go_enter Tryz.func4, Tryz.ntmps4
  go_upto_region 8 with fail
  obtain ⟨W5, hW5⟩ : ∃ W5, W5 = w.alloc (wdX 13 a b to 4) := ⟨_, rfl⟩
  obtain ⟨g, hg⟩ : ∃ g, g = w.heap.size := ⟨_, rfl⟩
  have k5 := by
    have h := heap_alloc_new w (wdX 13 a b to 4)
    rw [← hW5, ← hg] at h
    exact h
  unfold wdX at k5
  have b5 : Below w.heap.size w W5 := by rw [hW5]; exact below_newR w _
  unfold wdX at hW5
  rw [← hW5, ← hg]
  have H1 : Hid _ := HON.out W5 g b5 k5
  have HB5 : Hid _ := b5
  clear hW5 k5 b5 hg HON
  go_wp2_with fail
  refine Calls.mono H1.out ?_
  rintro e w6 ⟨ao, c, rfl, hE, b6⟩
  go_upto_region 9 with fail
  obtain ⟨p, hp⟩ : ∃ p, p = w6.heap.size := ⟨_, rfl⟩
  obtain ⟨w7, hw7⟩ : ∃ w7, w7 = w6.alloc (.cells #[.slice ao 1 c, .int .i64 1, .int .i64 0, .int .i64 0, .int .i64 5, .int .i64 0, .int .i64 1] 40) := ⟨_, rfl⟩
  rw [← hw7, ← hp]
  have b7 : Below w6.heap.size w6 w7 := by rw [hw7]; exact below_newR w6 _
  have k7 : w7.heap[p]? = some (.cells #[.slice ao 1 c, .int .i64 1, .int .i64 0, .int .i64 0, .int .i64 5, .int .i64 0, .int .i64 1] 40 (0, 0)) := by rw [hw7, hp]; exact heap_alloc_new _ _
  have E7 : Evs w7 ao c [(1, V)] := hE.belowR b7
  have HB7 : Hid (Below w.heap.size w w7) := HB5.out.trans ((b6.mono HB5.out.size).trans (b7.mono (Nat.le_trans HB5.out.size b6.size)))
  have HK7 : Hid _ := k7
  have HE7 : Hid _ := E7
  clear hw7 hp b7 k7 E7 hE b6 HB5 H1
  go_wp2_with fail
  refine Calls.mono (HDO.out _) ?_
  rintro e w8 ⟨rfl, b8⟩
  have HB8 : Hid (Below w.heap.size w w8) := HB7.out.trans (b8.mono HB7.out.size)
  have HB78 : Hid _ := b8
  clear b8
  have HA8 : Hid _ := HAL.out w8 HB8.out
  go_wp2_with fail
  refine Calls.mono HA8.out ?_
  rintro e w9 ⟨rfl, b9⟩
  have HB9 : Hid (Below w.heap.size w w9) := HB8.out.trans (b9.mono HB8.out.size)
  have b79 : Below w7.heap.size w7 w9 := HB78.out.trans (b9.mono HB78.out.size)
  have k9 := (b79.block _ (Array.getElem?_eq_some_iff.1 HK7.out).1).trans HK7.out
  have l9 := (Array.getElem?_eq_some_iff.1 k9).1
  have x0 : w9.cell? ⟨p, 0, none⟩ = some (.slice ao 1 c) := cell_arr k9 rfl
  have x1 : w9.cell? ⟨p, 1, none⟩ = some (.int .i64 1) := cell_arr k9 rfl
  have x2 : w9.cell? ⟨p, 2, none⟩ = some (.int .i64 0) := cell_arr k9 rfl
  have x3 : w9.cell? ⟨p, 3, none⟩ = some (.int .i64 0) := cell_arr k9 rfl
  have x4 : w9.cell? ⟨p, 4, none⟩ = some (.int .i64 5) := cell_arr k9 rfl
  obtain ⟨eb, eo, rfl, el, y0, y1⟩ := (HE7.out.belowR b79).atR (k := 0) (by simp)
  simp only [Nat.zero_mul, Nat.add_zero, List.getElem_cons_zero] at y0 y1
  clear b9 b79 k9 HK7 HE7 HB7 HB8 HB78 HA8 HAL HDO
  go_wp2_with fail
  go_ret
  exact ⟨rfl, HB9.out⟩
set_option maxRecDepth 100000 in
set_option maxHeartbeats 4000000 in
theorem words_20a (w : World) (hTab : Tab w) (o a b t to : Int) (ht : 0 ≤ to ∧ to ≤ 15) (ha : Fits a) (hb : Fits b) (h2 : bits BinOp.and IntKind.i64 t 15 = to) (h1 : bits BinOp.and IntKind.i64 o 15 = 15) (q0 : (a != 0) = false) : Calls Tryz.prog 4 #[.int .i64 o, .int .i64 a, .int .i64 b, .int .i64 t] w fun e w' => e = .returned (.bool true) ∧ Below w.heap.size w w' := by
  have hs : wdS (20 : Int) a b = 0 := by unfold wdS; rw [if_neg (by simp at * <;> omega), if_neg (by simp at * <;> omega), if_neg (by simp at * <;> omega)]
  have hop : (3 ≤ (20 : Int) ∧ (20 : Int) ≤ 17) ∨ (20 : Int) = 20 := by omega
  obtain ⟨V, hV⟩ : ∃ V, V = wdV (20 : Int) a b := ⟨_, rfl⟩
  have HON : Hid (∀ W g, Below w.heap.size w W → W.heap[g]? = some (.cells #[.int .i64 1, .int .i64 3, .int .i64 0, .int .i64 0, .int .i64 a, .int .i64 1, .int .i64 4, .int .i64 0, .int .i64 0, .int .i64 b, .int .i64 20, .int .i64 to, .int .i64 3, .int .i64 0, .int .i64 0, .int .i64 37, .int .i64 to, .int .i64 0, .int .i64 0, .int .i64 0, .int .i64 27, .int .i64 0, .int .i64 0, .int .i64 0, .int .i64 0] 23 (0, 0)) →
    Calls Tryz.prog 13 #[.slice (some ⟨g, 0, none⟩) 5 5, .int .i64 2, .agg #[.int .i64 2, .int .i64 0], .slice none 0 0, .int .i64 9] W fun e w' => ∃ ao c, e = .returned (.tuple #[.agg #[.slice ao 1 c, .int .i64 1, .int .i64 0, .int .i64 0, .int .i64 5, .int .i64 0, .int .i64 1], .bool true]) ∧ Evs w' ao c [(1, V)] ∧ Below W.heap.size W w') := fun W g bW hg => by
    refine (wd_one w W (hTab.below bW hTab.1) (20 : Int) a b to hop ht ha hb g (by rw [if_pos (by omega)]; exact hg)).mono ?_
    rintro e w' ⟨ao, c, rfl, hE, hB⟩
    unfold wdE at hE
    unfold wdO
    rw [hs] at hE ⊢
    rw [if_pos rfl] at hE ⊢
    rw [← hV] at hE
    exact ⟨ao, c, rfl, hE, hB⟩
  have HDO : Hid (∀ W, Calls Tryz.prog 14 #[.int .i64 ((20 : Int) - 1), .int .i64 a, .int .i64 b] W fun e w' => e = .returned (.tuple #[.int .i64 V, .bool true]) ∧ Below W.heap.size W w') := fun W => by
    have h := do_anyW ((20 : Int) - 1) a b W
    rw [show isOpW ((20 : Int) - 1) = true by first | rfl | (unfold isOpW; exact decide_eq_true (by omega)), show doIW ((20 : Int) - 1) a b = V by rw [hV]; unfold wdV; first | rw [if_neg (by omega)] | (rw [if_pos (by omega)]; unfold doIW; simp)] at h
    exact h
  have HAL : Hid (∀ W, Below w.heap.size w W → Calls Tryz.prog 10 #[] W fun e w' => e = .returned (.bool true) ∧ Below W.heap.size W w') := fun W bW => alive21_any W (hTab.below bW hTab.1)
  clear hTab ha hb hs hV hop ht
  go_enter Tryz.func4, Tryz.ntmps4
  go_upto_region 8 with fail
  obtain ⟨W5, hW5⟩ : ∃ W5, W5 = w.alloc (wdX 20 a b to 0) := ⟨_, rfl⟩
  obtain ⟨g, hg⟩ : ∃ g, g = w.heap.size := ⟨_, rfl⟩
  have k5 := by
    have h := heap_alloc_new w (wdX 20 a b to 0)
    rw [← hW5, ← hg] at h
    exact h
  unfold wdX at k5
  have b5 : Below w.heap.size w W5 := by rw [hW5]; exact below_newR w _
  unfold wdX at hW5
  rw [← hW5, ← hg]
  have H1 : Hid _ := HON.out W5 g b5 k5
  have HB5 : Hid _ := b5
  clear hW5 k5 b5 hg HON
  go_wp2_with fail
  refine Calls.mono H1.out ?_
  rintro e w6 ⟨ao, c, rfl, hE, b6⟩
  go_upto_region 9 with fail
  obtain ⟨p, hp⟩ : ∃ p, p = w6.heap.size := ⟨_, rfl⟩
  obtain ⟨w7, hw7⟩ : ∃ w7, w7 = w6.alloc (.cells #[.slice ao 1 c, .int .i64 1, .int .i64 0, .int .i64 0, .int .i64 5, .int .i64 0, .int .i64 1] 40) := ⟨_, rfl⟩
  rw [← hw7, ← hp]
  have b7 : Below w6.heap.size w6 w7 := by rw [hw7]; exact below_newR w6 _
  have k7 : w7.heap[p]? = some (.cells #[.slice ao 1 c, .int .i64 1, .int .i64 0, .int .i64 0, .int .i64 5, .int .i64 0, .int .i64 1] 40 (0, 0)) := by rw [hw7, hp]; exact heap_alloc_new _ _
  have E7 : Evs w7 ao c [(1, V)] := hE.belowR b7
  have HB7 : Hid (Below w.heap.size w w7) := HB5.out.trans ((b6.mono HB5.out.size).trans (b7.mono (Nat.le_trans HB5.out.size b6.size)))
  have HK7 : Hid _ := k7
  have HE7 : Hid _ := E7
  clear hw7 hp b7 k7 E7 hE b6 HB5 H1
  go_wp2_with fail
  refine Calls.mono (HDO.out _) ?_
  rintro e w8 ⟨rfl, b8⟩
  have HB8 : Hid (Below w.heap.size w w8) := HB7.out.trans (b8.mono HB7.out.size)
  have HB78 : Hid _ := b8
  clear b8
  have HA8 : Hid _ := HAL.out w8 HB8.out
  go_wp2_with fail
  refine Calls.mono HA8.out ?_
  rintro e w9 ⟨rfl, b9⟩
  have HB9 : Hid (Below w.heap.size w w9) := HB8.out.trans (b9.mono HB8.out.size)
  have b79 : Below w7.heap.size w7 w9 := HB78.out.trans (b9.mono HB78.out.size)
  have k9 := (b79.block _ (Array.getElem?_eq_some_iff.1 HK7.out).1).trans HK7.out
  have l9 := (Array.getElem?_eq_some_iff.1 k9).1
  have x0 : w9.cell? ⟨p, 0, none⟩ = some (.slice ao 1 c) := cell_arr k9 rfl
  have x1 : w9.cell? ⟨p, 1, none⟩ = some (.int .i64 1) := cell_arr k9 rfl
  have x2 : w9.cell? ⟨p, 2, none⟩ = some (.int .i64 0) := cell_arr k9 rfl
  have x3 : w9.cell? ⟨p, 3, none⟩ = some (.int .i64 0) := cell_arr k9 rfl
  have x4 : w9.cell? ⟨p, 4, none⟩ = some (.int .i64 5) := cell_arr k9 rfl
  obtain ⟨eb, eo, rfl, el, y0, y1⟩ := (HE7.out.belowR b79).atR (k := 0) (by simp)
  simp only [Nat.zero_mul, Nat.add_zero, List.getElem_cons_zero] at y0 y1
  clear b9 b79 k9 HK7 HE7 HB7 HB8 HB78 HA8 HAL HDO
  go_wp2_with fail
  go_ret
  exact ⟨rfl, HB9.out⟩
set_option maxRecDepth 100000 in
set_option maxHeartbeats 4000000 in
theorem words_20b (w : World) (hTab : Tab w) (o a b t to : Int) (ht : 0 ≤ to ∧ to ≤ 15) (ha : Fits a) (hb : Fits b) (h2 : bits BinOp.and IntKind.i64 t 15 = to) (h1 : bits BinOp.and IntKind.i64 o 15 = 15) (q0 : (a != 0) = true) (q1 : (a != 1) = false) : Calls Tryz.prog 4 #[.int .i64 o, .int .i64 a, .int .i64 b, .int .i64 t] w fun e w' => e = .returned (.bool true) ∧ Below w.heap.size w w' := by
  have hs : wdS (20 : Int) a b = 0 := by unfold wdS; rw [if_neg (by simp at * <;> omega), if_neg (by simp at * <;> omega), if_neg (by simp at * <;> omega)]
  have hop : (3 ≤ (20 : Int) ∧ (20 : Int) ≤ 17) ∨ (20 : Int) = 20 := by omega
  obtain ⟨V, hV⟩ : ∃ V, V = wdV (20 : Int) a b := ⟨_, rfl⟩
  have HON : Hid (∀ W g, Below w.heap.size w W → W.heap[g]? = some (.cells #[.int .i64 1, .int .i64 3, .int .i64 0, .int .i64 0, .int .i64 a, .int .i64 1, .int .i64 4, .int .i64 0, .int .i64 0, .int .i64 b, .int .i64 20, .int .i64 to, .int .i64 3, .int .i64 0, .int .i64 0, .int .i64 37, .int .i64 to, .int .i64 0, .int .i64 0, .int .i64 0, .int .i64 27, .int .i64 0, .int .i64 0, .int .i64 0, .int .i64 0] 23 (0, 0)) →
    Calls Tryz.prog 13 #[.slice (some ⟨g, 0, none⟩) 5 5, .int .i64 2, .agg #[.int .i64 2, .int .i64 0], .slice none 0 0, .int .i64 9] W fun e w' => ∃ ao c, e = .returned (.tuple #[.agg #[.slice ao 1 c, .int .i64 1, .int .i64 0, .int .i64 0, .int .i64 5, .int .i64 0, .int .i64 1], .bool true]) ∧ Evs w' ao c [(1, V)] ∧ Below W.heap.size W w') := fun W g bW hg => by
    refine (wd_one w W (hTab.below bW hTab.1) (20 : Int) a b to hop ht ha hb g (by rw [if_pos (by omega)]; exact hg)).mono ?_
    rintro e w' ⟨ao, c, rfl, hE, hB⟩
    unfold wdE at hE
    unfold wdO
    rw [hs] at hE ⊢
    rw [if_pos rfl] at hE ⊢
    rw [← hV] at hE
    exact ⟨ao, c, rfl, hE, hB⟩
  have HDO : Hid (∀ W, Calls Tryz.prog 14 #[.int .i64 ((20 : Int) - 1), .int .i64 a, .int .i64 b] W fun e w' => e = .returned (.tuple #[.int .i64 V, .bool true]) ∧ Below W.heap.size W w') := fun W => by
    have h := do_anyW ((20 : Int) - 1) a b W
    rw [show isOpW ((20 : Int) - 1) = true by first | rfl | (unfold isOpW; exact decide_eq_true (by omega)), show doIW ((20 : Int) - 1) a b = V by rw [hV]; unfold wdV; first | rw [if_neg (by omega)] | (rw [if_pos (by omega)]; unfold doIW; simp)] at h
    exact h
  have HAL : Hid (∀ W, Below w.heap.size w W → Calls Tryz.prog 10 #[] W fun e w' => e = .returned (.bool true) ∧ Below W.heap.size W w') := fun W bW => alive21_any W (hTab.below bW hTab.1)
  clear hTab ha hb hs hV hop ht
  go_enter Tryz.func4, Tryz.ntmps4
  go_upto_region 8 with fail
  obtain ⟨W5, hW5⟩ : ∃ W5, W5 = w.alloc (wdX 20 a b to 0) := ⟨_, rfl⟩
  obtain ⟨g, hg⟩ : ∃ g, g = w.heap.size := ⟨_, rfl⟩
  have k5 := by
    have h := heap_alloc_new w (wdX 20 a b to 0)
    rw [← hW5, ← hg] at h
    exact h
  unfold wdX at k5
  have b5 : Below w.heap.size w W5 := by rw [hW5]; exact below_newR w _
  unfold wdX at hW5
  rw [← hW5, ← hg]
  have H1 : Hid _ := HON.out W5 g b5 k5
  have HB5 : Hid _ := b5
  clear hW5 k5 b5 hg HON
  go_wp2_with fail
  refine Calls.mono H1.out ?_
  rintro e w6 ⟨ao, c, rfl, hE, b6⟩
  go_upto_region 9 with fail
  obtain ⟨p, hp⟩ : ∃ p, p = w6.heap.size := ⟨_, rfl⟩
  obtain ⟨w7, hw7⟩ : ∃ w7, w7 = w6.alloc (.cells #[.slice ao 1 c, .int .i64 1, .int .i64 0, .int .i64 0, .int .i64 5, .int .i64 0, .int .i64 1] 40) := ⟨_, rfl⟩
  rw [← hw7, ← hp]
  have b7 : Below w6.heap.size w6 w7 := by rw [hw7]; exact below_newR w6 _
  have k7 : w7.heap[p]? = some (.cells #[.slice ao 1 c, .int .i64 1, .int .i64 0, .int .i64 0, .int .i64 5, .int .i64 0, .int .i64 1] 40 (0, 0)) := by rw [hw7, hp]; exact heap_alloc_new _ _
  have E7 : Evs w7 ao c [(1, V)] := hE.belowR b7
  have HB7 : Hid (Below w.heap.size w w7) := HB5.out.trans ((b6.mono HB5.out.size).trans (b7.mono (Nat.le_trans HB5.out.size b6.size)))
  have HK7 : Hid _ := k7
  have HE7 : Hid _ := E7
  clear hw7 hp b7 k7 E7 hE b6 HB5 H1
  go_wp2_with fail
  refine Calls.mono (HDO.out _) ?_
  rintro e w8 ⟨rfl, b8⟩
  have HB8 : Hid (Below w.heap.size w w8) := HB7.out.trans (b8.mono HB7.out.size)
  have HB78 : Hid _ := b8
  clear b8
  have HA8 : Hid _ := HAL.out w8 HB8.out
  go_wp2_with fail
  refine Calls.mono HA8.out ?_
  rintro e w9 ⟨rfl, b9⟩
  have HB9 : Hid (Below w.heap.size w w9) := HB8.out.trans (b9.mono HB8.out.size)
  have b79 : Below w7.heap.size w7 w9 := HB78.out.trans (b9.mono HB78.out.size)
  have k9 := (b79.block _ (Array.getElem?_eq_some_iff.1 HK7.out).1).trans HK7.out
  have l9 := (Array.getElem?_eq_some_iff.1 k9).1
  have x0 : w9.cell? ⟨p, 0, none⟩ = some (.slice ao 1 c) := cell_arr k9 rfl
  have x1 : w9.cell? ⟨p, 1, none⟩ = some (.int .i64 1) := cell_arr k9 rfl
  have x2 : w9.cell? ⟨p, 2, none⟩ = some (.int .i64 0) := cell_arr k9 rfl
  have x3 : w9.cell? ⟨p, 3, none⟩ = some (.int .i64 0) := cell_arr k9 rfl
  have x4 : w9.cell? ⟨p, 4, none⟩ = some (.int .i64 5) := cell_arr k9 rfl
  obtain ⟨eb, eo, rfl, el, y0, y1⟩ := (HE7.out.belowR b79).atR (k := 0) (by simp)
  simp only [Nat.zero_mul, Nat.add_zero, List.getElem_cons_zero] at y0 y1
  clear b9 b79 k9 HK7 HE7 HB7 HB8 HB78 HA8 HAL HDO
  go_wp2_with fail
  go_ret
  exact ⟨rfl, HB9.out⟩
set_option maxRecDepth 100000 in
set_option maxHeartbeats 4000000 in
theorem words_20c (w : World) (hTab : Tab w) (o a b t to : Int) (ht : 0 ≤ to ∧ to ≤ 15) (ha : Fits a) (hb : Fits b) (h2 : bits BinOp.and IntKind.i64 t 15 = to) (h1 : bits BinOp.and IntKind.i64 o 15 = 15) (q0 : (a != 0) = true) (q1 : (a != 1) = true) : Calls Tryz.prog 4 #[.int .i64 o, .int .i64 a, .int .i64 b, .int .i64 t] w fun e w' => e = .returned (.bool true) ∧ Below w.heap.size w w' := by
  have hs : wdS (20 : Int) a b = 5 := by unfold wdS; rw [if_neg (by omega), if_neg (by omega), if_pos (by simp at q0 q1; omega)]
  have hop : (3 ≤ (20 : Int) ∧ (20 : Int) ≤ 17) ∨ (20 : Int) = 20 := by omega
  obtain ⟨V, hV⟩ : ∃ V, V = wdV (20 : Int) a b := ⟨_, rfl⟩
  have HON : Hid (∀ W g, Below w.heap.size w W → W.heap[g]? = some (.cells #[.int .i64 1, .int .i64 3, .int .i64 0, .int .i64 0, .int .i64 a, .int .i64 1, .int .i64 4, .int .i64 0, .int .i64 0, .int .i64 b, .int .i64 20, .int .i64 to, .int .i64 3, .int .i64 0, .int .i64 0, .int .i64 37, .int .i64 to, .int .i64 0, .int .i64 0, .int .i64 0, .int .i64 27, .int .i64 0, .int .i64 0, .int .i64 0, .int .i64 0] 23 (0, 0)) →
    Calls Tryz.prog 13 #[.slice (some ⟨g, 0, none⟩) 5 5, .int .i64 2, .agg #[.int .i64 2, .int .i64 0], .slice none 0 0, .int .i64 9] W fun e w' => ∃ ao c, e = .returned (.tuple #[.agg #[.slice ao 0 c, .int .i64 3, .int .i64 5, .int .i64 0, .int .i64 3, .int .i64 0, .int .i64 1], .bool true]) ∧ Evs w' ao c [] ∧ Below W.heap.size W w') := fun W g bW hg => by
    refine (wd_one w W (hTab.below bW hTab.1) (20 : Int) a b to hop ht ha hb g (by rw [if_pos (by omega)]; exact hg)).mono ?_
    rintro e w' ⟨ao, c, rfl, hE, hB⟩
    unfold wdE at hE
    unfold wdO
    rw [hs] at hE ⊢
    rw [if_neg (by decide)] at hE ⊢

    exact ⟨ao, c, rfl, hE, hB⟩
  have HDO : Hid (∀ W, Calls Tryz.prog 14 #[.int .i64 ((20 : Int) - 1), .int .i64 a, .int .i64 b] W fun e w' => e = .returned (.tuple #[.int .i64 V, .bool true]) ∧ Below W.heap.size W w') := fun W => by
    have h := do_anyW ((20 : Int) - 1) a b W
    rw [show isOpW ((20 : Int) - 1) = true by first | rfl | (unfold isOpW; exact decide_eq_true (by omega)), show doIW ((20 : Int) - 1) a b = V by rw [hV]; unfold wdV; first | rw [if_neg (by omega)] | (rw [if_pos (by omega)]; unfold doIW; simp)] at h
    exact h
  have HAL : Hid (∀ W, Below w.heap.size w W → Calls Tryz.prog 10 #[] W fun e w' => e = .returned (.bool true) ∧ Below W.heap.size W w') := fun W bW => alive21_any W (hTab.below bW hTab.1)
  clear hTab ha hb hs hV hop ht
  go_enter Tryz.func4, Tryz.ntmps4
  go_upto_region 8 with fail
  obtain ⟨W5, hW5⟩ : ∃ W5, W5 = w.alloc (wdX 20 a b to 0) := ⟨_, rfl⟩
  obtain ⟨g, hg⟩ : ∃ g, g = w.heap.size := ⟨_, rfl⟩
  have k5 := by
    have h := heap_alloc_new w (wdX 20 a b to 0)
    rw [← hW5, ← hg] at h
    exact h
  unfold wdX at k5
  have b5 : Below w.heap.size w W5 := by rw [hW5]; exact below_newR w _
  unfold wdX at hW5
  rw [← hW5, ← hg]
  have H1 : Hid _ := HON.out W5 g b5 k5
  have HB5 : Hid _ := b5
  clear hW5 k5 b5 hg HON
  go_wp2_with fail
  refine Calls.mono H1.out ?_
  rintro e w6 ⟨ao, c, rfl, hE, b6⟩
  go_upto_region 9 with fail
  obtain ⟨p, hp⟩ : ∃ p, p = w6.heap.size := ⟨_, rfl⟩
  obtain ⟨w7, hw7⟩ : ∃ w7, w7 = w6.alloc (.cells #[.slice ao 0 c, .int .i64 3, .int .i64 5, .int .i64 0, .int .i64 3, .int .i64 0, .int .i64 1] 40) := ⟨_, rfl⟩
  rw [← hw7, ← hp]
  have b7 : Below w6.heap.size w6 w7 := by rw [hw7]; exact below_newR w6 _
  have k7 : w7.heap[p]? = some (.cells #[.slice ao 0 c, .int .i64 3, .int .i64 5, .int .i64 0, .int .i64 3, .int .i64 0, .int .i64 1] 40 (0, 0)) := by rw [hw7, hp]; exact heap_alloc_new _ _
  have E7 : Evs w7 ao c [] := hE.belowR b7
  have HB7 : Hid (Below w.heap.size w w7) := HB5.out.trans ((b6.mono HB5.out.size).trans (b7.mono (Nat.le_trans HB5.out.size b6.size)))
  have HK7 : Hid _ := k7
  have HE7 : Hid _ := E7
  clear hw7 hp b7 k7 E7 hE b6 HB5 H1
  go_wp2_with fail
  refine Calls.mono (HDO.out _) ?_
  rintro e w8 ⟨rfl, b8⟩
  have HB8 : Hid (Below w.heap.size w w8) := HB7.out.trans (b8.mono HB7.out.size)
  have HB78 : Hid _ := b8
  clear b8
  have HA8 : Hid _ := HAL.out w8 HB8.out
  go_wp2_with fail
  refine Calls.mono HA8.out ?_
  rintro e w9 ⟨rfl, b9⟩
  have HB9 : Hid (Below w.heap.size w w9) := HB8.out.trans (b9.mono HB8.out.size)
  have b79 : Below w7.heap.size w7 w9 := HB78.out.trans (b9.mono HB78.out.size)
  have k9 := (b79.block _ (Array.getElem?_eq_some_iff.1 HK7.out).1).trans HK7.out
  have l9 := (Array.getElem?_eq_some_iff.1 k9).1
  have x0 : w9.cell? ⟨p, 0, none⟩ = some (.slice ao 0 c) := cell_arr k9 rfl
  have x1 : w9.cell? ⟨p, 1, none⟩ = some (.int .i64 3) := cell_arr k9 rfl
  have x2 : w9.cell? ⟨p, 2, none⟩ = some (.int .i64 5) := cell_arr k9 rfl
  have x3 : w9.cell? ⟨p, 3, none⟩ = some (.int .i64 0) := cell_arr k9 rfl
  have x4 : w9.cell? ⟨p, 4, none⟩ = some (.int .i64 3) := cell_arr k9 rfl
  clear b9 b79 k9 HK7 HE7 HB7 HB8 HB78 HA8 HAL HDO
  go_wp2_with fail
  go_ret
  exact ⟨rfl, HB9.out⟩
set_option maxRecDepth 100000 in
set_option maxHeartbeats 4000000 in
theorem words_other (w : World) (hTab : Tab w) (o a b t to : Int) (op : Int) (ht : 0 ≤ to ∧ to ≤ 15) (ha : Fits a) (hb : Fits b) (h2 : bits BinOp.and IntKind.i64 t 15 = to) (h1 : IntKind.i64.wrap (3 + bits BinOp.and IntKind.i64 o 15) = op) (h3 : IntKind.i64.wrap (op - 1) = op - 1) (hr : (3 ≤ op ∧ op ≤ 17) ∧ op ≠ 6 ∧ op ≠ 7 ∧ op ≠ 12 ∧ op ≠ 13) (t18 : (op == 18) = false) (t20 : (op == 20) = false) (t6 : (op == 6) = false) (t7 : (op == 7) = false) (t12 : (op == 12) = false) (t13 : (op == 13) = false) : Calls Tryz.prog 4 #[.int .i64 o, .int .i64 a, .int .i64 b, .int .i64 t] w fun e w' => e = .returned (.bool true) ∧ Below w.heap.size w w' := by
  have hs : wdS op a b = 0 := by unfold wdS; rw [if_neg (by omega), if_neg (by omega), if_neg (by omega)]
  have hop : (3 ≤ op ∧ op ≤ 17) ∨ op = 20 := by omega
  obtain ⟨V, hV⟩ : ∃ V, V = wdV op a b := ⟨_, rfl⟩
  have HON : Hid (∀ W g, Below w.heap.size w W → W.heap[g]? = some (.cells #[.int .i64 1, .int .i64 3, .int .i64 0, .int .i64 0, .int .i64 a, .int .i64 1, .int .i64 4, .int .i64 0, .int .i64 0, .int .i64 b, .int .i64 op, .int .i64 to, .int .i64 3, .int .i64 4, .int .i64 0, .int .i64 37, .int .i64 to, .int .i64 0, .int .i64 0, .int .i64 0, .int .i64 27, .int .i64 0, .int .i64 0, .int .i64 0, .int .i64 0] 23 (0, 0)) →
    Calls Tryz.prog 13 #[.slice (some ⟨g, 0, none⟩) 5 5, .int .i64 2, .agg #[.int .i64 2, .int .i64 0], .slice none 0 0, .int .i64 9] W fun e w' => ∃ ao c, e = .returned (.tuple #[.agg #[.slice ao 1 c, .int .i64 1, .int .i64 0, .int .i64 0, .int .i64 5, .int .i64 0, .int .i64 1], .bool true]) ∧ Evs w' ao c [(1, V)] ∧ Below W.heap.size W w') := fun W g bW hg => by
    refine (wd_one w W (hTab.below bW hTab.1) op a b to hop ht ha hb g (by rw [if_neg (by omega)]; exact hg)).mono ?_
    rintro e w' ⟨ao, c, rfl, hE, hB⟩
    unfold wdE at hE
    unfold wdO
    rw [hs] at hE ⊢
    rw [if_pos rfl] at hE ⊢
    rw [← hV] at hE
    exact ⟨ao, c, rfl, hE, hB⟩
  have HDO : Hid (∀ W, Calls Tryz.prog 14 #[.int .i64 (op - 1), .int .i64 a, .int .i64 b] W fun e w' => e = .returned (.tuple #[.int .i64 V, .bool true]) ∧ Below W.heap.size W w') := fun W => by
    have h := do_anyW (op - 1) a b W
    rw [show isOpW (op - 1) = true by first | rfl | (unfold isOpW; exact decide_eq_true (by omega)), show doIW (op - 1) a b = V by rw [hV]; unfold wdV; first | rw [if_neg (by omega)] | (rw [if_pos (by omega)]; unfold doIW; simp)] at h
    exact h
  have HAL : Hid (∀ W, Below w.heap.size w W → Calls Tryz.prog 10 #[] W fun e w' => e = .returned (.bool true) ∧ Below W.heap.size W w') := fun W bW => alive21_any W (hTab.below bW hTab.1)
  clear hTab ha hb hs hV hop ht hr
  go_enter Tryz.func4, Tryz.ntmps4
  go_upto_region 8 with fail
  obtain ⟨W5, hW5⟩ : ∃ W5, W5 = w.alloc (wdX op a b to 4) := ⟨_, rfl⟩
  obtain ⟨g, hg⟩ : ∃ g, g = w.heap.size := ⟨_, rfl⟩
  have k5 := by
    have h := heap_alloc_new w (wdX op a b to 4)
    rw [← hW5, ← hg] at h
    exact h
  unfold wdX at k5
  have b5 : Below w.heap.size w W5 := by rw [hW5]; exact below_newR w _
  unfold wdX at hW5
  rw [← hW5, ← hg]
  have H1 : Hid _ := HON.out W5 g b5 k5
  have HB5 : Hid _ := b5
  clear hW5 k5 b5 hg HON
  go_wp2_with fail
  refine Calls.mono H1.out ?_
  rintro e w6 ⟨ao, c, rfl, hE, b6⟩
  go_upto_region 9 with fail
  obtain ⟨p, hp⟩ : ∃ p, p = w6.heap.size := ⟨_, rfl⟩
  obtain ⟨w7, hw7⟩ : ∃ w7, w7 = w6.alloc (.cells #[.slice ao 1 c, .int .i64 1, .int .i64 0, .int .i64 0, .int .i64 5, .int .i64 0, .int .i64 1] 40) := ⟨_, rfl⟩
  rw [← hw7, ← hp]
  have b7 : Below w6.heap.size w6 w7 := by rw [hw7]; exact below_newR w6 _
  have k7 : w7.heap[p]? = some (.cells #[.slice ao 1 c, .int .i64 1, .int .i64 0, .int .i64 0, .int .i64 5, .int .i64 0, .int .i64 1] 40 (0, 0)) := by rw [hw7, hp]; exact heap_alloc_new _ _
  have E7 : Evs w7 ao c [(1, V)] := hE.belowR b7
  have HB7 : Hid (Below w.heap.size w w7) := HB5.out.trans ((b6.mono HB5.out.size).trans (b7.mono (Nat.le_trans HB5.out.size b6.size)))
  have HK7 : Hid _ := k7
  have HE7 : Hid _ := E7
  clear hw7 hp b7 k7 E7 hE b6 HB5 H1
  go_wp2_with fail
  refine Calls.mono (HDO.out _) ?_
  rintro e w8 ⟨rfl, b8⟩
  have HB8 : Hid (Below w.heap.size w w8) := HB7.out.trans (b8.mono HB7.out.size)
  have HB78 : Hid _ := b8
  clear b8
  have HA8 : Hid _ := HAL.out w8 HB8.out
  go_wp2_with fail
  refine Calls.mono HA8.out ?_
  rintro e w9 ⟨rfl, b9⟩
  have HB9 : Hid (Below w.heap.size w w9) := HB8.out.trans (b9.mono HB8.out.size)
  have b79 : Below w7.heap.size w7 w9 := HB78.out.trans (b9.mono HB78.out.size)
  have k9 := (b79.block _ (Array.getElem?_eq_some_iff.1 HK7.out).1).trans HK7.out
  have l9 := (Array.getElem?_eq_some_iff.1 k9).1
  have x0 : w9.cell? ⟨p, 0, none⟩ = some (.slice ao 1 c) := cell_arr k9 rfl
  have x1 : w9.cell? ⟨p, 1, none⟩ = some (.int .i64 1) := cell_arr k9 rfl
  have x2 : w9.cell? ⟨p, 2, none⟩ = some (.int .i64 0) := cell_arr k9 rfl
  have x3 : w9.cell? ⟨p, 3, none⟩ = some (.int .i64 0) := cell_arr k9 rfl
  have x4 : w9.cell? ⟨p, 4, none⟩ = some (.int .i64 5) := cell_arr k9 rfl
  obtain ⟨eb, eo, rfl, el, y0, y1⟩ := (HE7.out.belowR b79).atR (k := 0) (by simp)
  simp only [Nat.zero_mul, Nat.add_zero, List.getElem_cons_zero] at y0 y1
  clear b9 b79 k9 HK7 HE7 HB7 HB8 HB78 HA8 HAL HDO
  go_wp2_with fail
  go_ret
  exact ⟨rfl, HB9.out⟩
theorem r16Words_any (w : World) (hTab : Tab w) (o a b t : Int) (ha : Fits a) (hb : Fits b) : Calls Tryz.prog 4 #[.int .i64 o, .int .i64 a, .int .i64 b, .int .i64 t] w fun e w' => e = .returned (.bool true) ∧ Below w.heap.size w w' := by
  obtain ⟨i, hi, h1⟩ := andR_small o 15 (by omega)
  obtain ⟨j, hj, h2⟩ := andR_small t 15 (by omega)
  have ht : 0 ≤ (j : Int) ∧ (j : Int) ≤ 15 := by omega
  have h1' : bits BinOp.and IntKind.i64 o 15 = (i : Int) := h1
  have h2' : bits BinOp.and IntKind.i64 t 15 = (j : Int) := h2
  rcases (show i = 3 ∨ i = 4 ∨ i = 9 ∨ i = 10 ∨ i = 15 ∨ ¬ (i = 3 ∨ i = 4 ∨ i = 9 ∨ i = 10 ∨ i = 15) by omega) with rfl | rfl | rfl | rfl | rfl | hn
  · cases q : (b == 0) with
    | true => exact words_6a w hTab o a b t j ht ha hb h2' h1' q
    | false => exact words_6b w hTab o a b t j ht ha hb h2' h1' q
  · cases q : (b == 0) with
    | true => exact words_7a w hTab o a b t j ht ha hb h2' h1' q
    | false => exact words_7b w hTab o a b t j ht ha hb h2' h1' q
  · cases q : decide (b < 0) with
    | true => exact words_12a w hTab o a b t j ht ha hb h2' h1' q
    | false => exact words_12b w hTab o a b t j ht ha hb h2' h1' q
  · cases q : decide (b < 0) with
    | true => exact words_13a w hTab o a b t j ht ha hb h2' h1' q
    | false => exact words_13b w hTab o a b t j ht ha hb h2' h1' q
  · cases q : (a != 0) with
    | false => exact words_20a w hTab o a b t j ht ha hb h2' h1' q
    | true =>
      cases q1 : (a != 1) with
      | false => exact words_20b w hTab o a b t j ht ha hb h2' h1' q q1
      | true => exact words_20c w hTab o a b t j ht ha hb h2' h1' q q1
  · have hf : ∀ k : Int, ¬ (3 + (i : Int)) = k → ((3 + (i : Int)) == k) = false := fun k h => beq_eq_false_iff_ne.2 h
    exact words_other w hTab o a b t j (3 + (i : Int)) ht ha hb h2' (by rw [h1', IntKind.wrap_i64]; omega) (by rw [IntKind.wrap_i64]; omega) (by omega) (hf _ (by omega)) (hf _ (by omega)) (hf _ (by omega)) (hf _ (by omega)) (hf _ (by omega)) (hf _ (by omega))
end Go.Proofs.YteplldbhfjfbpaaGreatDoor
