import Derived.Test.YtfofmmkihhnfmaaGreatDoorJbb
set_option linter.unusedVariables false
set_option linter.unusedSimpArgs false
namespace Go.Proofs.YtfofmmkihhnfmaaGreatDoor
open Go.ChangeShapes Go.WideShapes Go.ChangeAt Go.RowKit Go.Maps

def outZ : Value := .agg #[.slice none 0 0, .int .i64 0, .int .i64 0, .int .i64 0, .int .i64 0, .int .i64 0, .int .i64 0]
set_option maxRecDepth 100000 in
/-- A wrong fuel. -/
theorem told_run_bad (w : World) {mb o g : Nat} (fs : Array Value) (fuel : Int) (hf : fuel < 0 ∨ 1099511627776 < fuel) :
    Calls Tryz.prog 31 #[.pointer (some ⟨mb, o, none⟩), .int .i64 fuel, .func (.func g) fs #[]] w fun e w' => e = .returned (.tuple #[.agg #[.slice none 0 0, .int .i64 0, .int .i64 0, .int .i64 0, .int .i64 0, .int .i64 0, .int .i64 0], .int .i64 3]) ∧ Below w.heap.size w w' := by
  have q0 := heap_alloc_new w (.cells #[.slice none 0 0, .int .i64 0, .int .i64 0, .int .i64 0, .int .i64 0, .int .i64 0, .int .i64 0] 38)
  have HQ : Hid _ := q0
  have HB : Hid _ := below_newR w (.cells #[.slice none 0 0, .int .i64 0, .int .i64 0, .int .i64 0, .int .i64 0, .int .i64 0, .int .i64 0] 38)
  clear q0
  by_cases h : fuel < 0
  · have d0 : decide (fuel < 0) = true := decide_eq_true h
    clear h hf
    go_enter Tryz.func31, Tryz.ntmps31
    go_wp2_with fail
    refine bodyPost_ret (v := .tuple #[.agg #[.slice none 0 0, .int .i64 0, .int .i64 0, .int .i64 0, .int .i64 0, .int .i64 0, .int .i64 0], .int .i64 3]) ?_ rfl ⟨rfl, HB.out⟩
    exact results_row_tmp Tryz.results31 _ _ w.heap.size 38 _ (0, 0) _ rfl HQ.out Tryz.underlying38 rfl (by kernel_rfl)
  · have d0 : decide (fuel < 0) = false := decide_eq_false h
    have d1 : decide (1099511627776 < fuel) = true := decide_eq_true (by omega)
    clear h hf
    go_enter Tryz.func31, Tryz.ntmps31
    go_wp2_with fail
    refine bodyPost_ret (v := .tuple #[.agg #[.slice none 0 0, .int .i64 0, .int .i64 0, .int .i64 0, .int .i64 0, .int .i64 0, .int .i64 0], .int .i64 3]) ?_ rfl ⟨rfl, HB.out⟩
    exact results_row_tmp Tryz.results31 _ _ w.heap.size 38 _ (0, 0) _ rfl HQ.out Tryz.underlying38 rfl (by kernel_rfl)
set_option maxRecDepth 100000 in
theorem mRunR_bad (w : World) {mb : Nat} (hlt : mb < w.heap.size) (fuel : Int) (hf : fuel < 0 ∨ 1099511627776 < fuel) :
    Calls Tryz.prog 11 #[.pointer (some ⟨mb, 0, none⟩), .int .i64 fuel] w fun e w' => e = .returned (.tuple #[.agg #[.slice none 0 0, .int .i64 0, .int .i64 0, .int .i64 0, .int .i64 0, .int .i64 0, .int .i64 0], .int .i64 3]) ∧ Below w.heap.size w w' := by
  obtain ⟨wq, hwq⟩ : ∃ wq, wq = w.alloc (.cells #[.slice none 0 0, .int .i64 0, .int .i64 0, .int .i64 0, .int .i64 0, .int .i64 0, .int .i64 0] 38) := ⟨_, rfl⟩
  have HR : Hid _ := told_run_bad wq (mb := mb) (o := 66) (g := 32) #[.pointer (some ⟨mb, 0, none⟩)] fuel hf
  have HKQ : Hid (wq.heap[w.heap.size]? = some (.cells #[.slice none 0 0, .int .i64 0, .int .i64 0, .int .i64 0, .int .i64 0, .int .i64 0, .int .i64 0] 38 (0, 0))) := by rw [hwq]; exact heap_alloc_new _ _
  have HBQ : Hid (Below w.heap.size w wq) := by rw [hwq]; exact below_newR w _
  clear hf
  go_enter Tryz.func11, Tryz.ntmps11
  go_upto_region 1 with fail
  rw [← hwq]
  clear hwq
  go_wp2_with fail
  refine Calls.mono HR.out ?_
  rintro e w2 ⟨rfl, b2⟩
  have hwf : w.heap.size < wq.heap.size := (Array.getElem?_eq_some_iff.1 HKQ.out).1
  have q0 := (b2.block w.heap.size hwf).trans HKQ.out
  obtain ⟨W4, hW4⟩ : ∃ W, W = (((((((w2.setCell ⟨w.heap.size, 0, none⟩ (.slice none 0 0)).setCell ⟨w.heap.size, 1, none⟩ (.int .i64 0)).setCell ⟨w.heap.size, 2, none⟩ (.int .i64 0)).setCell ⟨w.heap.size, 3, none⟩ (.int .i64 0)).setCell ⟨w.heap.size, 4, none⟩ (.int .i64 0)).setCell ⟨w.heap.size, 5, none⟩ (.int .i64 0)).setCell ⟨w.heap.size, 6, none⟩ (.int .i64 0)) := ⟨_, rfl⟩
  have HRX : Hid (W4.heap[w.heap.size]? = some (.cells #[.slice none 0 0, .int .i64 0, .int .i64 0, .int .i64 0, .int .i64 0, .int .i64 0, .int .i64 0] 38 (0, 0))) := by rw [hW4]; exact box_seven q0 _ _ _ _ _ _ _
  have HB4 : Hid (Below w.heap.size w W4) := by
    have b3 : Below w.heap.size w w2 := HBQ.out.trans (b2.mono HBQ.out.size)
    rw [hW4]
    exact ((((((b3.setCell (Nat.le_refl _) _).setCell (Nat.le_refl _) _).setCell (Nat.le_refl _) _).setCell (Nat.le_refl _) _).setCell (Nat.le_refl _) _).setCell (Nat.le_refl _) _).setCell (Nat.le_refl _) _
  have t0 : w2.cell? ⟨w.heap.size, 0, none⟩ = some (.slice none 0 0) := cell_arr q0 rfl
  have t1 : w2.cell? ⟨w.heap.size, 1, none⟩ = some (.int .i64 0) := cell_arr q0 rfl
  have t2 : w2.cell? ⟨w.heap.size, 2, none⟩ = some (.int .i64 0) := cell_arr q0 rfl
  have t3 : w2.cell? ⟨w.heap.size, 3, none⟩ = some (.int .i64 0) := cell_arr q0 rfl
  have t4 : w2.cell? ⟨w.heap.size, 4, none⟩ = some (.int .i64 0) := cell_arr q0 rfl
  have t5 : w2.cell? ⟨w.heap.size, 5, none⟩ = some (.int .i64 0) := cell_arr q0 rfl
  have t6 : w2.cell? ⟨w.heap.size, 6, none⟩ = some (.int .i64 0) := cell_arr q0 rfl
  have u0 : w2.frozen? ⟨w.heap.size, 0, none⟩ = false := fz_of q0
  have u1 : w2.frozen? ⟨w.heap.size, 1, none⟩ = false := fz_of q0
  have u2 : w2.frozen? ⟨w.heap.size, 2, none⟩ = false := fz_of q0
  have u3 : w2.frozen? ⟨w.heap.size, 3, none⟩ = false := fz_of q0
  have u4 : w2.frozen? ⟨w.heap.size, 4, none⟩ = false := fz_of q0
  have u5 : w2.frozen? ⟨w.heap.size, 5, none⟩ = false := fz_of q0
  have u6 : w2.frozen? ⟨w.heap.size, 6, none⟩ = false := fz_of q0
  have HW4 : Hid _ := hW4
  clear b2 q0 hW4
  go_wp2_with fail
  rw [← HW4.out]
  refine bodyPost_ret (v := .tuple #[.agg #[.slice none 0 0, .int .i64 0, .int .i64 0, .int .i64 0, .int .i64 0, .int .i64 0, .int .i64 0], .int .i64 3]) ?_ rfl ⟨rfl, HB4.out⟩
  exact results_row_tmp Tryz.results11 _ _ w.heap.size 38 _ (0, 0) _ rfl HRX.out Tryz.underlying38 rfl (by kernel_rfl)
/-- Run of what has the form, and the machine behind it. -/
theorem mRunR_st {s d w0 w R} {n K : Nat} (h : StR s d w0 w R) (hP : PgR s) (hR : RI s n R) {fuel : Nat} (hn : n + K ≤ 100000000) (hf : fuel ≤ 1099511627776) (hK : K = fuel ∨ K ≤ fuel ∧ (smG s.C s.FS s.S s.room K R).over = true) {RF : Rv} (hRF : smG s.C s.FS s.S s.room K R = RF) :
    Calls Tryz.prog 11 #[.pointer (some ⟨s.mb, 0, none⟩), .int .i64 fuel] w fun e w' => ∃ ao c B, e = .returned (.tuple #[.agg #[.slice ao RF.ev.length c, .int .i64 RF.fin, .int .i64 RF.kd, .int .i64 RF.vl, .int .i64 RF.steps, .int .i64 RF.words, .int .i64 RF.deep], .int .i64 0]) ∧ StR s d w0 w' RF ∧ RI s (n + K) RF ∧ w.heap.size ≤ B ∧ Row w' B 62 2 (.slice ao RF.ev.length c) (RF.ev.map evc) := by
  subst hRF
  obtain ⟨q1, q2, q3, q4⟩ := runR_path hP K n R hR hn
  have hm : (if Rv.cnt s K R < fuel then (Rv.its s (Rv.cnt s K R) R).nxt s else Rv.its s fuel R) = Rv.runN s K R := by
    rw [q3]
    by_cases hc : Rv.cnt s K R < K
    · rw [if_pos hc, if_pos (by omega)]
    · have hle := cntR_le s K R
      have ec : Rv.cnt s K R = K := by omega
      rw [if_neg hc, ec]
      rcases hK with rfl | ⟨hk, ho⟩
      · rw [if_neg (Nat.lt_irrefl _)]
      · rw [← runN_smG, q3, if_neg hc] at ho
        by_cases hkf : K < fuel
        · rw [if_pos hkf]
          unfold Rv.nxt
          rw [stpR_over ho]
        · rw [if_neg hkf, show fuel = K by omega]
  have T := mRunR_any h hf (fun i => Rv.its s i R) rfl q1 (MJ := (Rv.its s (Rv.cnt s K R) R).nxt s) (fun hl => by
    by_cases hc : Rv.cnt s K R < K
    · exact q2 hc
    · have hle := cntR_le s K R
      have ec : Rv.cnt s K R = K := by omega
      rw [ec] at hl ⊢
      rcases hK with rfl | ⟨hk, ho⟩
      · exact absurd hl (Nat.lt_irrefl _)
      · rw [← runN_smG, q3, if_neg hc] at ho
        exact Or.inl ⟨ho, rfl, by unfold Rv.nxt; rw [stpR_over ho]⟩) hm.symm
  rw [runN_smG] at T q4
  refine T.mono ?_
  rintro e w' ⟨v, d', B, rfl, k1, k2, k3, hB, hRow⟩
  obtain ⟨ao, c, rfl, hE⟩ := evs_of hRow
  exact ⟨ao, c, B, rfl, ⟨d', fun ho => (k1 ho).1, k2, k3⟩, q4, hB, hRow⟩
/-- Run of what is over. -/
theorem mRunR_over {s ve w} {V : Rv} (h : OvR s ve w V) (ho : V.over = true) {fuel : Nat} (hf : fuel ≤ 1099511627776) :
    Calls Tryz.prog 11 #[.pointer (some ⟨s.mb, 0, none⟩), .int .i64 fuel] w fun e w' => ∃ v B, e = .returned (.tuple #[otvR v V, .int .i64 0]) ∧ Row w' B 62 2 v (V.ev.map evc) ∧ w.heap.size ≤ B ∧ Below w.heap.size w w' := by
  obtain ⟨wq, hwq⟩ : ∃ wq, wq = w.alloc (.cells #[.slice none 0 0, .int .i64 0, .int .i64 0, .int .i64 0, .int .i64 0, .int .i64 0, .int .i64 0] 38) := ⟨_, rfl⟩
  obtain ⟨wb, hwb⟩ : ∃ wb, wb = wq.alloc (.cells #[.slice none 0 0, .int .i64 0, .int .i64 0, .int .i64 0, .int .i64 0, .int .i64 0, .int .i64 0] 38) := ⟨_, rfl⟩
  have bq : Below w.heap.size w wq := by rw [hwq]; exact below_newR w _
  have bb : Below wq.heap.size wq wb := by rw [hwb]; exact below_newR wq _
  have bwb : Below w.heap.size w wb := bq.trans (bb.mono bq.size)
  have k0 : wq.heap[w.heap.size]? = some (.cells #[.slice none 0 0, .int .i64 0, .int .i64 0, .int .i64 0, .int .i64 0, .int .i64 0, .int .i64 0] 38 (0, 0)) := by rw [hwq]; exact heap_alloc_new _ _
  have k1 : wb.heap[w.heap.size]? = some (.cells #[.slice none 0 0, .int .i64 0, .int .i64 0, .int .i64 0, .int .i64 0, .int .i64 0, .int .i64 0] 38 (0, 0)) := (bb.block _ (Array.getElem?_eq_some_iff.1 k0).1).trans k0
  have k2 : wb.heap[wq.heap.size]? = some (.cells #[.slice none 0 0, .int .i64 0, .int .i64 0, .int .i64 0, .int .i64 0, .int .i64 0, .int .i64 0] 38 (0, 0)) := by rw [hwb]; exact heap_alloc_new _ _
  have hfin : ∀ W, FinR 0 fuel (fun k W => k = 0 ∧ W = wb) (fun W => W = wb) W → W = wb := fun W hW => by
    unfold FinR at hW
    split at hW
    · exact hW
    · exact hW.2
  have T := told_runL wq (mb := s.mb) (o := 66) (B := s.hi) (fuel := fuel) (N := 0) #[.pointer (some ⟨s.mb, 0, none⟩)] opens_stepR hf (fun k W => k = 0 ∧ W = wb) (fun W => W = wb) (E := V.ev) (x1 := V.fin) (x2 := V.kd) (x3 := V.vl) (x4 := V.steps) (x5 := V.words) (x6 := V.deep) ⟨rfl, by rw [hwb]⟩ (fun k W hk => absurd hk (Nat.not_lt_zero _)) (fun _ W hi => by
      obtain ⟨_, rfl⟩ := hi
      exact (mStepR_no (h.below bwb) ho).mono fun e w' q => ⟨q.1, q.2⟩) (fun W hW => by
    rw [hfin W hW]
    exact ⟨(h.below bwb).toldAt, k2⟩)
  refine (mRunR_of w wq h.lt hf _ hwq T fun wF hW => by rw [hfin wF hW]; exact k1).mono ?_
  rintro e w' ⟨v, wF, rfl, hW, hR, hO⟩
  have e1 := hfin wF hW
  subst e1
  refine ⟨v, _, rfl, hR, bwb.size, ?_⟩
  have sz0 := bq.size
  exact bwb.trans (hO.below bwb.size fun k hk => by rcases hk with rfl | rfl <;> omega)
/-- R16Errors: the sample's run. -/
theorem er_small (S : Int) (I : List Int) (h : S < 3) : (fun R : Rv => (R.over, R.ev, R.fin, R.kd, R.vl, R.steps, R.words, R.deep)) ((Rv.zero I).call S ⟨⟨#[109, 97, 105, 110]⟩, 3, 0, 8, 0⟩ (-1)) = (true, [], 2, 7, 0, 0, 0, 0) := by
  have e : (Rv.zero I).call S ⟨⟨#[109, 97, 105, 110]⟩, 3, 0, 8, 0⟩ (-1) = (Rv.zero I).panic 7 0 := by
    unfold Rv.call
    exact if_pos (by show S - 0 < 3; omega)
  rw [e]
  rfl
theorem er_push (S : Int) (I : List Int) (h : ¬ S < 3) : (Rv.zero I).call S ⟨⟨#[109, 97, 105, 110]⟩, 3, 0, 8, 0⟩ (-1) = (Rv.zero I).push ⟨⟨#[109, 97, 105, 110]⟩, 3, 0, 8, 0⟩ (-1) := by
  unfold Rv.call
  exact if_neg (by show ¬ S - 0 < 3; omega)
theorem er_first (S : Int) (I : List Int) (h : ¬ S < 3) : (fun R : Rv => (R.over, R.ev, R.fin, R.kd, R.vl, R.steps, R.words, R.deep)) ((Rv.zero I).call S ⟨⟨#[109, 97, 105, 110]⟩, 3, 0, 8, 0⟩ (-1)) = (false, [], 0, 0, 0, 0, 0, 1) := by
  rw [er_push S I h]
  rfl
theorem er_ends (S r : Int) (I : List Int) (h : ¬ S < 3) : (fun R : Rv => (R.over, R.ev, R.fin, R.kd, R.vl, R.steps, R.words, R.deep)) (smG smC smF S r 2 ((Rv.zero (0 :: I)).call S ⟨⟨#[109, 97, 105, 110]⟩, 3, 0, 8, 0⟩ (-1))) = (true, [], 2, 1, 0, 2, 0, 1) := by
  rw [er_push S _ h]
  kernel_rfl
end Go.Proofs.YtfofmmkihhnfmaaGreatDoor
