import Derived.Test.YtdoiblknbpbhaaaMvS
set_option linter.unusedVariables false
set_option linter.unusedSimpArgs false
namespace Go.Proofs.Ytdoiblknbpbhaaa
open Go.ChangeShapes Go.WideShapes Go.ChangeAt Go.RowKit Go.Maps

/-- What was lent, as it is handed on. -/
theorem lent_mvs {w : World} {B : Nat} {xa : Option Addr} {n xc : Nat} {l : List Mv} (h : OwnM w B (.slice xa (n + 2) xc) (n + 2) (l ++ [mk71, mk71])) (hn : n = l.length) : Mvs w xa xc l := by
  have h1 := (h.cut (k := n) (by omega)).mvsS
  rwa [hn, List.take_left] at h1
set_option maxRecDepth 100000 in
set_option maxHeartbeats 8000000 in
theorem movesOrder_of (w : World) {la : Option Addr} {ln lc : Nat} {l : List Mv} (hL : Mvs w la lc l) (hn : ln = l.length) (t : Lc) (hft : FitL t)
    (hro : ∀ w', Below w.heap.size w w' → ln ≤ 1000000 → Calls Try.prog 12 #[.slice la ln lc, .agg #[.int .i64 t.1, .int .i64 t.2]] w' fun e w'' => ∃ v, e = .returned (.tuple #[v, .int .i64 (errP t l)]) ∧ OwnM w'' w'.heap.size v (ansP t l).length (ansP t l) ∧ Below w'.heap.size w' w'') :
    Calls Try.prog 3 #[.slice la ln lc, .agg #[.int .i64 t.1, .int .i64 t.2]] w fun e w' => e = .returned (.bool true) ∧ Below w.heap.size w w' := by
  obtain ⟨t1, t2⟩ := t
  simp only at hro ⊢
  have hmx : ln ≤ 9223372036854775807 := by have := hL.le; have := hL.mx; omega
  obtain ⟨wt, hwt⟩ : ∃ W, W = w.alloc (.cells #[.int .i64 t1, .int .i64 t2] 24) := ⟨_, rfl⟩
  have HB0 : Hid (Below w.heap.size w wt) := by rw [hwt]; exact below_new _ _
  have HLT : Hid (w.heap.size < wt.heap.size) := by rw [hwt]; show _ < _; simp
  have HT0 : Hid (wt.heap[w.heap.size]? = some (.cells #[.int .i64 t1, .int .i64 t2] 24 (0, 0))) := by rw [hwt]; exact heap_alloc_new _ _
  have HAL : Hid (Calls Try.prog 8 #[] wt fun e w' => e = .returned (.bool true) ∧ Below wt.heap.size wt w') := alive_any wt
  have HL : Hid (Mvs w la lc l) := hL
  have HN : Hid (ln = l.length) := hn
  have HFT : Hid (FitL (t1, t2)) := hft
  have HRO : Hid _ := hro
  clear hL hn hft hro
  by_cases h300 : ln ≤ 300
  · have hd : decide ((300 : Int) < (ln : Int)) = false := by simp; omega
    have HLE : Hid (∀ w', Below wt.heap.size wt w' → Calls Try.prog 9 #[.slice la ln lc] w' fun e w'' => ∃ xa xc, e = .returned (.slice xa (ln + 2) xc) ∧ OwnM w'' w'.heap.size (.slice xa (ln + 2) xc) (ln + 2) (l ++ [mk71, mk71]) ∧ ln + 2 ≤ xc ∧ xc ≤ 9223372036854775807 ∧ Below w'.heap.size w' w'') := fun w' hb => by
      refine (lent_any w' ((HL.out.below HB0.out (Nat.le_refl _)).below hb (Nat.le_refl _)) HN.out (by omega)).mono ?_
      rintro e w'' ⟨v, rfl, h1, h2⟩
      obtain ⟨xa, xc, rfl, h3, h4⟩ := own_slice h1.out
      exact ⟨xa, xc, rfl, h1, h3, h4, h2⟩
    go_enter Try.func3, Try.ntmps3
    subst hwt
    go_wp2_with (first
      | (go_at_call 8; refine HAL.out.mono ?_; rintro e w1 ⟨rfl, hb1⟩; have HB1 : Hid _ := hb1; clear hb1)
      | (go_at_call 9; refine (HLE.out _ HB1.out).mono ?_; rintro e w2 ⟨xa, xc, rfl, h2, hxc1, hxc2, hb2⟩; have HX2 : Hid _ := h2; have HB2 : Hid _ := hb2; clear h2 hb2))
    have HBW : Hid (Below w.heap.size w w2) := HB0.out.trans ((HB1.out.trans (HB2.out.mono HB1.out.size)).mono (Nat.le_of_lt HLT.out))
    have HBT : Hid (Below (w.alloc (.cells #[.int .i64 t1, .int .i64 t2] 24)).heap.size (w.alloc (.cells #[.int .i64 t1, .int .i64 t2] 24)) w2) := HB1.out.trans (HB2.out.mono HB1.out.size)
    have HT2 : Hid (w2.heap[w.heap.size]? = some (.cells #[.int .i64 t1, .int .i64 t2] 24 (0, 0))) := (HBT.out.block _ HLT.out).trans HT0.out
    have HXW : Hid (w.heap.size < w1.heap.size) := by have := HB1.out.size; have := HLT.out; show _ < _; omega
    have S0 : (fun w' : World => w'.cell? ⟨w.heap.size, 0, none⟩ = some (.int .i64 t1) ∧ w'.cell? ⟨w.heap.size, 1, none⟩ = some (.int .i64 t2)) w2.drew := ⟨cell_arr HT2.out rfl, cell_arr HT2.out rfl⟩
    have HOR : Hid (Calls Try.prog 10 #[.slice xa ln xc, .agg #[.int .i64 t1, .int .i64 t2]] w2.drew fun e w' => ∃ va vc, e = .returned (.tuple #[.slice va (ansP (t1, t2) l).length vc, .int .i64 (errP (t1, t2) l)]) ∧ Hid (OwnM w' w2.heap.size (.slice va (ansP (t1, t2) l).length vc) (ansP (t1, t2) l).length (ansP (t1, t2) l)) ∧ Hid (Below w2.heap.size w2 w') ∧ (fun w' : World => w'.cell? ⟨w.heap.size, 0, none⟩ = some (.int .i64 t1) ∧ w'.cell? ⟨w.heap.size, 1, none⟩ = some (.int .i64 t2)) w') := by
      refine (order_any w2.drew (lent_mvs (HX2.out.keep (below_drewN0 w2 1)) HN.out) HN.out (by omega) (t1, t2) HFT.out).mono ?_
      rintro e w' ⟨v, rfl, h1, h2⟩
      obtain ⟨va, vc, rfl, _, _⟩ := own_slice h1.out
      have hb : Below w2.heap.size w2 w' := (below_drewN0 w2 1).trans h2
      have ht := (hb.block _ (Array.getElem?_eq_some_iff.1 HT2.out).1).trans HT2.out
      exact ⟨va, vc, rfl, h1, hb, cell_arr ht rfl, cell_arr ht rfl⟩
    have hxl : ln ≤ xc := by omega
    have hxi : (ln : Int) ≤ (xc : Int) := by omega
    clear HLE HAL hd HB1 HB2
    go_region_held (fun w' : World => w'.cell? ⟨w.heap.size, 0, none⟩ = some (.int .i64 t1) ∧ w'.cell? ⟨w.heap.size, 1, none⟩ = some (.int .i64 t2)) (first | exact S0 | exact S1) (first | (go_at_call 10; refine HOR.out.mono ?_; rintro e w3 ⟨va, vc, rfl, HA3, HB3, S1⟩))
    have HST : Hid (Calls Try.prog 11 #[.slice xa (ln + 2) xc, .slice la ln lc] w3 fun e w' => e = .returned (.bool true) ∧ Only (fun k => (Value.slice xa (ln + 2) xc).ownBlock = some k) w3 w') := stays_any w3 (HX2.out.keep HB3.out) (HL.out.below (HBW.out.trans (HB3.out.mono HBW.out.size)) (Nat.le_refl _)) HN.out (by omega)
    clear S0 HOR
    go_wp2_with (first
      | (go_at_call 11; refine HST.out.mono ?_; rintro e w4 ⟨rfl, ho4⟩
         have hB34 : Below w.heap.size w3 w4 := ho4.below (by have := HBW.out.size; have := HB3.out.size; omega) (fun k hk => by have := (own_block HX2.out.out hk).1; have := HXW.out; omega)
         have HB4 : Hid (Below w.heap.size w w4) := (HBW.out.trans (HB3.out.mono HBW.out.size)).trans hB34
         have ht4 : w4.heap[w.heap.size]? = some (.cells #[.int .i64 t1, .int .i64 t2] 24 (0, 0)) := (ho4.block _ (by have := HBW.out.size; have := HB3.out.size; have := (Array.getElem?_eq_some_iff.1 HT2.out).1; omega) (fun hk => by have := (own_block HX2.out.out hk).1; have := HXW.out; omega)).trans ((HB3.out.block _ (Array.getElem?_eq_some_iff.1 HT2.out).1).trans HT2.out)
         have x0 : w4.cell? ⟨w.heap.size, 0, none⟩ = some (.int .i64 t1) := cell_arr ht4 rfl
         have x1 : w4.cell? ⟨w.heap.size, 1, none⟩ = some (.int .i64 t2) := cell_arr ht4 rfl
         have HA4 : Hid (OwnM w4 w2.heap.size (.slice va (ansP (t1, t2) l).length vc) (ansP (t1, t2) l).length (ansP (t1, t2) l)) := HA3.out.move fun g hg => ho4.block g (own_block HA3.out.out hg).2 (fun hk => by have h1 := (own_block HA3.out.out hg).1; have h2 := (own_block HX2.out.out hk).2; omega)
         clear ho4 hB34 ht4)
      | (go_at_call 12; refine (HRO.out _ HB4.out (by omega)).mono ?_; rintro e w5 ⟨v5, rfl, h5, hb5⟩
         obtain ⟨ra, rc, rfl, _, _⟩ := own_slice h5.out
         have HM5 : Hid (Mvs w5 ra rc (ansP (t1, t2) l)) := h5.mvsS
         have HM6 : Hid (Mvs w5 va vc (ansP (t1, t2) l)) := (HA4.out.keep hb5).mvsS
         have HB5 : Hid (Below w.heap.size w w5) := HB4.out.trans (hb5.mono HB4.out.size)
         clear h5 hb5)
      | (go_at_call 13; refine (sameM_any _ HM6.out HM5.out rfl).mono ?_; rintro e w6 ⟨rfl, hb6⟩; have HB6 : Hid _ := hb6; clear hb6))
    go_ret
    exact ⟨rfl, HB5.out.trans (HB6.out.mono HB5.out.size)⟩
  · have hd : decide ((300 : Int) < (ln : Int)) = true := by simp; omega
    go_enter Try.func3, Try.ntmps3
    subst hwt
    go_wp2_with (first
      | (go_at_call 8; refine HAL.out.mono ?_; rintro e w1 ⟨rfl, hb1⟩; have HB1 : Hid _ := hb1; clear hb1))
    go_ret
    exact ⟨rfl, HB0.out.trans (HB1.out.mono (Nat.le_of_lt HLT.out))⟩
end Go.Proofs.Ytdoiblknbpbhaaa
