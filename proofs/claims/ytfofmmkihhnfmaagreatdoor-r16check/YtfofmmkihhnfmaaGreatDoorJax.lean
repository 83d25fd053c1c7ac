import Derived.Test.YtfofmmkihhnfmaaGreatDoorJaw
set_option linter.unusedVariables false
set_option linter.unusedSimpArgs false
namespace Go.Proofs.YtfofmmkihhnfmaaGreatDoor
open Go.ChangeShapes Go.WideShapes Go.ChangeAt Go.RowKit Go.Maps
theorem tell_steps (R : Rv) (k x : Int) : (R.tell k x).steps = R.steps := by
 unfold Rv.tell
 split <;> rfl
theorem take_steps (R : Rv) (a : Int) : (R.take a).steps = R.steps := by
 unfold Rv.take
 split <;> rfl
theorem alloc_steps (room : Int) (R : Rv) (a k : Int) : (R.alloc room a k).steps = R.steps := by
 unfold Rv.alloc
 split <;> rfl
theorem call_steps (S : Int) (f : Rf) (R : Rv) (b : Int) : (R.call S f b).steps = R.steps := by
 unfold Rv.call
 split <;> rfl
theorem ite_steps {c : Prop} [Decidable c] {A B : Rv} {x : Int} (hA : A.steps = x) (hB : B.steps = x) : (if c then A else B).steps = x := by
 split
 ·exact hA
 ·exact hB
theorem does_steps (FS : List Rf) (S room : Int) (R : Rv) (x : Ri) : (R.does FS S room x).steps = R.steps := by
 unfold Rv.does
 refine ite_steps rfl (ite_steps rfl (ite_steps rfl (ite_steps rfl (ite_steps rfl (ite_steps (ite_steps rfl rfl) (ite_steps (ite_steps rfl rfl) (ite_steps rfl (ite_steps rfl (ite_steps ?_ (ite_steps rfl (ite_steps (alloc_steps _ _ _ _) (ite_steps rfl (ite_steps rfl (ite_steps rfl (ite_steps (ite_steps rfl rfl) (ite_steps (ite_steps rfl rfl) (ite_steps (ite_steps rfl rfl) (ite_steps rfl (ite_steps (take_steps _ _) (ite_steps (tell_steps _ _ _) (tell_steps _ _ _)))))))))))))))))))))
 split
 ·rfl
 ·exact call_steps _ _ _ _
theorem ins_steps (FS : List Rf) (S room : Int) (R : Rv) (x : Ri) : (R.ins FS S room x).steps = R.steps := by
 unfold Rv.ins
 split
 ·rfl
 ·exact does_steps FS S room R x
structure StepPre (s : Rst) (R : Rv) : Prop where
 at_ : ∃ j, R.nx = ((j : Nat) : Int) /\ ∃ hj : j < s.C.length, Pre s R.on s.C[j]
 len : s.C.length <= 1000000000
 steps : 0 <= R.steps /\ R.steps <= 4611686018427387904
def Rstp (s : Rst) (R : Rv) (T : Bool) (R' : Rv) : Prop := (R.over = true /\ T = false /\ R' = R) \/ (R.over = false /\ StepPre s R /\ R.stp s.C s.FS s.S s.room = (T, R'))
theorem Rstp.over {s R T R'} (h : Rstp s R T R') (ho : R.over = true) : T = false /\ R' = R := by
 rcases h with h | h
 ·exact h.2
 ·rw [ho] at h; cases h.1
theorem mAdvR {s d w R} (h : Rm s d w R) (p : StepPre s R) :
 Calls Tryz.prog 72 #[.pointer (some ⟨s.mb, 0, none⟩)] w fun e w' => e = .returned (.tuple #[]) /\ ∃ d', Rm s d' w' (R.adv s.C s.FS s.S s.room) /\ FooR s d d' w w' := by
 obtain ⟨j, hj1, hj, hp⟩ := p.at_
 have ea : R.at s.C = s.C[j] := by
  unfold Rv.at
  rw [hj1]
  simp [List.getD, hj]
 cases hw : R.on.why s.C[j] with
 | none =>
   have e : R.adv s.C s.FS s.S s.room = R.on.does s.FS s.S s.room s.C[j] := by
    unfold Rv.adv Rv.ins
    rw [ea, hw]
   rw [e]
   exact mAdv_ok h j hj1 hj p.len hp.op hp hw _ fun w' q => ⟨rfl, q⟩
 | some k =>
   have e : R.adv s.C s.FS s.S s.room = R.on.stuck k := by
    unfold Rv.adv Rv.ins
    rw [ea, hw]
   rw [e]
   exact mAdv_st h j hj1 hj p.len hp.op hp k hw _ fun w' q => ⟨rfl, q⟩
theorem StR.step {s d w W R T R'} (h : StR s d w W R) (hs : Rstp s R T R') :
 Calls Tryz.prog 32 #[.pointer (some ⟨s.mb, 0, none⟩)] W fun e w' => e = .returned (.bool T) /\ StR s d w w' R' := by
 obtain ⟨d1, h1, h2, h3⟩ := h.out
 rcases hs with ⟨ho, rfl, rfl⟩ | ⟨ho, p, e⟩
 ·refine (mStepR_no h2 ho).mono ?_
  rintro e w' ⟨rfl, rfl⟩
  exact ⟨rfl, h⟩
 ·have hst : (R.adv s.C s.FS s.S s.room).steps = R.steps := by
   unfold Rv.adv
   rw [ins_steps]
   rfl
  refine (mStepR_any (h1 ho) ho p.steps _ hst (mAdvR (h1 ho) p)).mono ?_
  rintro e' w' ⟨rfl, q⟩
  have e2 : R.done (R.adv s.C s.FS s.S s.room) = (T, R') := by
   rw [<- e]
   unfold Rv.stp
   rw [if_neg (by rw [ho]; simp)]
   rfl
  rw [e2] at q ⊢
  obtain ⟨d2, k1, k2, k3⟩ := q.out
  exact ⟨rfl, d2, k1, k2, h3.trans k3⟩
def otvR (v : Value) (V : Rv) : Value := .agg #[v, .int .i64 V.fin, .int .i64 V.kd, .int .i64 V.vl, .int .i64 V.steps, .int .i64 V.words, .int .i64 V.deep]
set_option maxRecDepth 100000 in
theorem mOutcomeR_any {s ve w} {V : Rv} (h : OvR s ve w V) :
 Calls Tryz.prog 40 #[.pointer (some ⟨s.mb, 0, none⟩)] w fun e w' => ∃ v, e = .returned (otvR v V) /\ Row w' w.heap.size 62 2 v (V.ev.map evc) /\ Below w.heap.size w w' := by
 obtain ⟨wq, hwq⟩ : ∃ wq, wq = w.alloc (.cells #[.slice none 0 0, .int .i64 0, .int .i64 0, .int .i64 0, .int .i64 0, .int .i64 0, .int .i64 0] 38) := ⟨_, rfl⟩
 have bq : Below w.heap.size w wq := by rw [hwq]; exact below_newR w _
 have HKR : Hid (wq.heap[w.heap.size]? = some (.cells #[.slice none 0 0, .int .i64 0, .int .i64 0, .int .i64 0, .int .i64 0, .int .i64 0, .int .i64 0] 38 (0, 0))) := by rw [hwq]; exact heap_alloc_new _ _
 have HO : Hid _ := (h.below bq).toldAt.outcome
 have hlt := h.lt
 unfold otvR
 generalize s.mb = mb at *
 have HBQ : Hid _ := bq
 clear h bq
 generalize V.fin = x1 at *
 generalize V.kd = x2 at *
 generalize V.vl = x3 at *
 generalize V.steps = x4 at *
 generalize V.words = x5 at *
 generalize V.deep = x6 at *
 go_enter Tryz.func40, Tryz.ntmps40
 go_upto_region 1 with fail
 rw [<- hwq]
 clear hwq
 go_wp2_with fail
 refine Calls.mono HO.out ?_
 rintro e w2 ⟨v2, rfl, hR2, b2⟩
 obtain ⟨ao2, cc2, rfl, _⟩ := evs_of hR2
 have hwf : w.heap.size < wq.heap.size := (gl HKR.out)
 have q0 := (b2.block w.heap.size hwf).trans HKR.out
 obtain ⟨W4, hW4⟩ : ∃ W, W = (((((((w2.setCell ⟨w.heap.size, 0, none⟩ (.slice ao2 V.ev.length cc2)).setCell ⟨w.heap.size, 1, none⟩ (.int .i64 x1)).setCell ⟨w.heap.size, 2, none⟩ (.int .i64 x2)).setCell ⟨w.heap.size, 3, none⟩ (.int .i64 x3)).setCell ⟨w.heap.size, 4, none⟩ (.int .i64 x4)).setCell ⟨w.heap.size, 5, none⟩ (.int .i64 x5)).setCell ⟨w.heap.size, 6, none⟩ (.int .i64 x6)) := ⟨_, rfl⟩
 have HRX : Hid (W4.heap[w.heap.size]? = some (.cells #[.slice ao2 V.ev.length cc2, .int .i64 x1, .int .i64 x2, .int .i64 x3, .int .i64 x4, .int .i64 x5, .int .i64 x6] 38 (0, 0))) := by rw [hW4]; exact box_seven q0 _ _ _ _ _ _ _
 have hsame : ∀ g, g ≠ w.heap.size -> W4.heap[g]? = w2.heap[g]? := fun g n0 => by
  rw [hW4, heap_set_other n0, heap_set_other n0, heap_set_other n0, heap_set_other n0, heap_set_other n0, heap_set_other n0, heap_set_other n0]
 have HR4 : Hid (Row W4 w.heap.size 62 2 (.slice ao2 V.ev.length cc2) (V.ev.map evc)) := by
  have hr : Row w2 w.heap.size 62 2 (.slice ao2 V.ev.length cc2) (V.ev.map evc) := by
   refine ⟨⟨hR2.out.1, ?_⟩, hR2.len⟩
   rcases hR2.out.2 with q | ⟨g, cap, cur, e1, e2, e3⟩
   ·exact .inl q
   ·exact .inr ⟨g, cap, cur, e1, by omega, e3⟩
  exact hr.move fun g hg => hsame g fun q => own_not hr.out q0 (by decide) (q ▸ hg)
 have HB4 : Hid (Below w.heap.size w W4) := by
  have b3 : Below w.heap.size w w2 := HBQ.out.trans (b2.mono HBQ.out.size)
  rw [hW4]
  exact ((((((b3.setCell (Nat.le_refl _) _).setCell (Nat.le_refl _) _).setCell (Nat.le_refl _) _).setCell (Nat.le_refl _) _).setCell (Nat.le_refl _) _).setCell (Nat.le_refl _) _).setCell (Nat.le_refl _) _
 have t0 : w2.cell? ⟨w.heap.size, 0, none⟩ = some (.slice none 0 0) := cell_arr q0 rfl
 have t1 : w2.cell? ⟨w.heap.size, 1, none⟩ = some (.int .i64 0) := cell_arr q0 rfl
 have t2 : w2.cell? ⟨w.heap.size, 2, none⟩ = some (.int .i64 0) := cell_arr q0 rfl
 have t3 : w2.cell? ⟨w.heap.size, 3, none⟩ = some (.int .i64 0) := cell_arr q0 rfl
 have t4 : w2.cell? ⟨w.heap.size, 4, none⟩ = some (.int .i64 0) := cell_arr q0 rfl
 have t5 : w2.cell? ⟨w.heap.size, 5, none⟩ = some (.int .i64 0) := cell_arr q0 rfl
 have t6 : w2.cell? ⟨w.heap.size, 6, none⟩ = some (.int .i64 0) := cell_arr q0 rfl
 have u0 : w2.frozen? ⟨w.heap.size, 0, none⟩ = false := fz_of q0
 have u1 : w2.frozen? ⟨w.heap.size, 1, none⟩ = false := fz_of q0
 have u2 : w2.frozen? ⟨w.heap.size, 2, none⟩ = false := fz_of q0
 have u3 : w2.frozen? ⟨w.heap.size, 3, none⟩ = false := fz_of q0
 have u4 : w2.frozen? ⟨w.heap.size, 4, none⟩ = false := fz_of q0
 have u5 : w2.frozen? ⟨w.heap.size, 5, none⟩ = false := fz_of q0
 have u6 : w2.frozen? ⟨w.heap.size, 6, none⟩ = false := fz_of q0
 have HW4 : Hid _ := hW4
 clear hR2 b2 q0 hW4 hsame
 go_wp2_with fail
 rw [<- HW4.out]
 refine bodyPost_ret (v := .agg #[.slice ao2 V.ev.length cc2, .int .i64 x1, .int .i64 x2, .int .i64 x3, .int .i64 x4, .int .i64 x5, .int .i64 x6]) ?_ rfl ⟨_, rfl, HR4.out, HB4.out⟩
 exact results_cell_row Tryz.results40 _ _ w.heap.size 38 _ (0, 0) _ rfl HRX.out Tryz.underlying38 rfl (by kernel_rfl)
set_option maxRecDepth 100000 in
theorem mRunR_of (w wq : World) {mb fuel : Nat} (hlt : mb < w.heap.size) (hf : fuel <= 1099511627776) {E : List (Int × Int)} {x1 x2 x3 x4 x5 x6 : Int} (P : World -> Prop) (hwq : wq = w.alloc (.cells #[.slice none 0 0, .int .i64 0, .int .i64 0, .int .i64 0, .int .i64 0, .int .i64 0, .int .i64 0] 38))
 (hR : Calls Tryz.prog 31 #[.pointer (some ⟨mb, 66, none⟩), .int .i64 fuel, .func (.func 32) #[.pointer (some ⟨mb, 0, none⟩)] #[]] wq fun e w' => ∃ v' wF, e = .returned (.tuple #[.agg #[v', .int .i64 x1, .int .i64 x2, .int .i64 x3, .int .i64 x4, .int .i64 x5, .int .i64 x6], .int .i64 0]) /\ P wF /\ Row w' wF.heap.size 62 2 v' (E.map evc) /\ Only (fun k => k = wq.heap.size) wF w')
 (hP : ∀ wF, P wF -> wF.heap[w.heap.size]? = some (.cells #[.slice none 0 0, .int .i64 0, .int .i64 0, .int .i64 0, .int .i64 0, .int .i64 0, .int .i64 0] 38 (0, 0)) ) :
 Calls Tryz.prog 11 #[.pointer (some ⟨mb, 0, none⟩), .int .i64 fuel] w fun e w' => ∃ v' wF, e = .returned (.tuple #[.agg #[v', .int .i64 x1, .int .i64 x2, .int .i64 x3, .int .i64 x4, .int .i64 x5, .int .i64 x6], .int .i64 0]) /\ P wF /\ Row w' wF.heap.size 62 2 v' (E.map evc) /\ Only (fun k => k = w.heap.size \/ k = wq.heap.size) wF w' := by
 have HR : Hid _ := hR
 have HP : Hid _ := hP
 have hs : wq.heap.size = w.heap.size + 1 := by rw [hwq]; simp
 have HS : Hid _ := hs
 clear hR hP hs
 go_enter Tryz.func11, Tryz.ntmps11
 go_upto_region 1 with fail
 rw [<- hwq]
 clear hwq
 go_wp2_with fail
 refine Calls.mono HR.out ?_
 rintro e w2 ⟨v2, wF, rfl, hp, hR2, o2⟩
 obtain ⟨ao2, cc2, rfl, _⟩ := evs_of hR2
 have hkr := HP.out wF hp
 have hwf : w.heap.size < wF.heap.size := (gl hkr)
 have q0 := (o2.block w.heap.size hwf (by show ¬ w.heap.size = wq.heap.size; rw [HS.out]; omega)).trans hkr
 obtain ⟨W4, hW4⟩ : ∃ W, W = (((((((w2.setCell ⟨w.heap.size, 0, none⟩ (.slice ao2 E.length cc2)).setCell ⟨w.heap.size, 1, none⟩ (.int .i64 x1)).setCell ⟨w.heap.size, 2, none⟩ (.int .i64 x2)).setCell ⟨w.heap.size, 3, none⟩ (.int .i64 x3)).setCell ⟨w.heap.size, 4, none⟩ (.int .i64 x4)).setCell ⟨w.heap.size, 5, none⟩ (.int .i64 x5)).setCell ⟨w.heap.size, 6, none⟩ (.int .i64 x6)) := ⟨_, rfl⟩
 have HRX : Hid (W4.heap[w.heap.size]? = some (.cells #[.slice ao2 E.length cc2, .int .i64 x1, .int .i64 x2, .int .i64 x3, .int .i64 x4, .int .i64 x5, .int .i64 x6] 38 (0, 0))) := by rw [hW4]; exact box_seven q0 _ _ _ _ _ _ _
 have hsame : ∀ g, g ≠ w.heap.size -> W4.heap[g]? = w2.heap[g]? := fun g n0 => by
  rw [hW4, heap_set_other n0, heap_set_other n0, heap_set_other n0, heap_set_other n0, heap_set_other n0, heap_set_other n0, heap_set_other n0]
 have HR4 : Hid (Row W4 wF.heap.size 62 2 (.slice ao2 E.length cc2) (E.map evc)) := hR2.move fun g hg => hsame g fun q => own_not hR2.out q0 (by decide) (q ▸ hg)
 have HO4 : Hid (Only (fun k => k = w.heap.size \/ k = wq.heap.size) wF W4) := by
  rw [hW4]
  have z := only_sevenR (w := w2) (w1 := w2) (gb := w.heap.size) (Only.refl _ _) (.slice ao2 E.length cc2) (.int .i64 x1) (.int .i64 x2) (.int .i64 x3) (.int .i64 x4) (.int .i64 x5) (.int .i64 x6)
  exact (o2.mono fun i _ h => .inr h).trans z fun i _ h => .inl h
 have t0 : w2.cell? ⟨w.heap.size, 0, none⟩ = some (.slice none 0 0) := cell_arr q0 rfl
 have t1 : w2.cell? ⟨w.heap.size, 1, none⟩ = some (.int .i64 0) := cell_arr q0 rfl
 have t2 : w2.cell? ⟨w.heap.size, 2, none⟩ = some (.int .i64 0) := cell_arr q0 rfl
 have t3 : w2.cell? ⟨w.heap.size, 3, none⟩ = some (.int .i64 0) := cell_arr q0 rfl
 have t4 : w2.cell? ⟨w.heap.size, 4, none⟩ = some (.int .i64 0) := cell_arr q0 rfl
 have t5 : w2.cell? ⟨w.heap.size, 5, none⟩ = some (.int .i64 0) := cell_arr q0 rfl
 have t6 : w2.cell? ⟨w.heap.size, 6, none⟩ = some (.int .i64 0) := cell_arr q0 rfl
 have u0 : w2.frozen? ⟨w.heap.size, 0, none⟩ = false := fz_of q0
 have u1 : w2.frozen? ⟨w.heap.size, 1, none⟩ = false := fz_of q0
 have u2 : w2.frozen? ⟨w.heap.size, 2, none⟩ = false := fz_of q0
 have u3 : w2.frozen? ⟨w.heap.size, 3, none⟩ = false := fz_of q0
 have u4 : w2.frozen? ⟨w.heap.size, 4, none⟩ = false := fz_of q0
 have u5 : w2.frozen? ⟨w.heap.size, 5, none⟩ = false := fz_of q0
 have u6 : w2.frozen? ⟨w.heap.size, 6, none⟩ = false := fz_of q0
 have HW4 : Hid _ := hW4
 have HPF : Hid (P wF) := hp
 clear hR2 o2 q0 hW4 hsame hp hkr
 go_wp2_with fail
 rw [<- HW4.out]
 refine bodyPost_ret (v := .tuple #[.agg #[.slice ao2 E.length cc2, .int .i64 x1, .int .i64 x2, .int .i64 x3, .int .i64 x4, .int .i64 x5, .int .i64 x6], .int .i64 0]) ?_ rfl ⟨_, wF, rfl, HPF.out, HR4.out, HO4.out⟩
 exact results_row_tmp Tryz.results11 _ _ w.heap.size 38 _ (0, 0) _ rfl HRX.out Tryz.underlying38 rfl (by kernel_rfl)
theorem opens_stepR : OpensR 32 := OpensR.of Tryz.func32 (by kernel_rfl) rfl
theorem Rm.not_foot {s d w R} (h : Rm s d w R) {k : Nat} {A : Array Value} {f : Nat × Nat} (hk : w.heap[k]? = some (.cells A 38 f)) : ¬ footR s d k := by
 obtain ⟨D, ⟨es, cl, d1, _⟩, _⟩ := h.rest.ch.o1
 obtain ⟨E, ⟨es2, cl2, e1, _⟩, _⟩ := h.rest.ch.o2
 have hb := h.box
 rintro (rfl | (rfl | rfl | rfl) | rfl | q)
 ·rw [hk] at hb; injection (Option.some.inj hb) with _ q; exact absurd q (by decide)
 ·have := h.rest.ch.box; rw [hk] at this; injection (Option.some.inj this) with _ q; exact absurd q (by decide)
 ·rw [hk] at d1; cases d1
 ·rw [hk] at e1; cases e1
 ·exact h.rest.sm.lt.2 _ _ _ hk
 ·exact own_not h.rest.ev.out hk (by decide) q
theorem Rm.foot_lt {s d w R} (h : Rm s d w R) (k : Nat) (hk : footR s d k) : k < w.heap.size := by
 rcases hk with q | q | q | q
 ·rw [q]; exact h.lt
 ·exact h.rest.ch.lt k q
 ·rw [q]; exact h.rest.sm.lt.1
 ·exact (own_block h.rest.ev.out q).2
theorem Rm.apart {s d w w' R} (h : Rm s d w R) {F : Nat -> Prop} (ho : Only F w w') (hf : ∀ k, F k -> ¬ footR s d k /\ ¬ s.st k) : Rm s d w' R := by
 have up : ∀ k, footR s d k -> w'.heap[k]? = w.heap[k]? := fun k hk => ho.block k (h.foot_lt k hk) fun q => (hf k q).1 hk
 exact ⟨(up s.mb (.inl rfl)).trans h.box, h.rg, h.rest.move ho.size (fun k q => ho.block k (Nat.lt_of_lt_of_le (h.rest.hi.2.2.2.2 k q) h.rest.hi.1) fun r => (hf k r).2 q) (fun k q => up k (.inr (.inl q))) (fun k q => up k (.inr (.inr (.inr q)))) (up s.sb (.inr (.inr (.inl rfl)))) ⟨_, (up s.mb (.inl rfl)).trans h.box⟩⟩
theorem runR_core {s d w wb} {M : Rv} (hb : Below w.heap.size w wb) (h1 : M.over = false -> Rm s d w M) (h2 : OvR s d.ve w M) {fuel N : Nat} (Q : Nat -> Rv) (h0 : Q 0 = M) (hQ : ∀ k, k < N -> Rstp s (Q k) true (Q (k + 1))) {MJ : Rv} (hN : N < fuel -> Rstp s (Q N) false MJ) {MF : Rv} (hMF : MF = if N < fuel then MJ else Q fuel) {g1 g2 : Nat} (k1 : wb.heap[g1]? = some (.cells #[.slice none 0 0, .int .i64 0, .int .i64 0, .int .i64 0, .int .i64 0, .int .i64 0, .int .i64 0] 38 (0, 0))) (k2 : wb.heap[g2]? = some (.cells #[.slice none 0 0, .int .i64 0, .int .i64 0, .int .i64 0, .int .i64 0, .int .i64 0, .int .i64 0] 38 (0, 0))) :
 ∃ (I : Nat -> World -> Prop) (J : World -> Prop), I 0 wb /\ (∀ k W, k < N -> I k W -> Calls Tryz.prog 32 #[.pointer (some ⟨s.mb, 0, none⟩)] W fun e w' => e = .returned (.bool true) /\ I (k + 1) w') /\ (N < fuel -> ∀ W, I N W -> Calls Tryz.prog 32 #[.pointer (some ⟨s.mb, 0, none⟩)] W fun e w' => e = .returned (.bool false) /\ J w') /\ ∀ W, FinR N fuel I J W -> StR s d wb W MF /\ W.heap[g1]? = some (.cells #[.slice none 0 0, .int .i64 0, .int .i64 0, .int .i64 0, .int .i64 0, .int .i64 0, .int .i64 0] 38 (0, 0)) /\ W.heap[g2]? = some (.cells #[.slice none 0 0, .int .i64 0, .int .i64 0, .int .i64 0, .int .i64 0, .int .i64 0, .int .i64 0] 38 (0, 0)) /\ (MF.over = false -> M.over = false) := by
 cases hov : M.over with
 | false =>
   have hm := (h1 hov).below hb
   have n1 := hm.not_foot k1
   have n2 := hm.not_foot k2
   refine ⟨fun k W => StR s d wb W (Q k), fun W => StR s d wb W MJ, by show StR s d wb wb (Q 0); rw [h0]; exact hm.stR, fun k W hk hi => hi.step (hQ k hk), fun hl W hi => hi.step (hN hl), fun W hW => ?_⟩
   have hS : StR s d wb W MF := by
    unfold FinR at hW
    rw [hMF]
    split at hW
    ·rename_i c; rw [if_pos c]; exact hW
    ·rename_i c; rw [if_neg c]; exact hW
   obtain ⟨d2, _, _, f⟩ := hS.out
   exact ⟨hS, (f.only.block _ (gl k1) n1).trans k1, (f.only.block _ (gl k2) n2).trans k2, fun _ => rfl⟩
 | true =>
   have hN0 : N = 0 := by
    rcases Nat.eq_zero_or_pos N with q | q
    ·exact q
    ·have z := hQ 0 q
     rw [h0] at z
     cases (z.over hov).1
   subst hN0
   have hMJ : 0 < fuel -> MJ = M := fun hl => by
    have hN := hN hl
    rw [h0] at hN
    exact (hN.over hov).2
   have hS : StR s d wb wb M := ⟨d, fun q => (by rw [hov] at q; cases q), h2.below hb, FooR.refl _ _ _⟩
   refine ⟨fun k W => k = 0 /\ W = wb, fun W => W = wb, ⟨rfl, rfl⟩, fun k W hk => absurd hk (Nat.not_lt_zero _), fun _ W hi => ?_, fun W hW => ?_⟩
   ·obtain ⟨_, rfl⟩ := hi
    exact (mStepR_no (h2.below hb) hov).mono fun e w' q => ⟨q.1, q.2⟩
   ·unfold FinR at hW
    have e : W = wb /\ MF = M := by
     rw [hMF]
     split at hW
     ·rename_i c; rw [if_pos c]; exact ⟨hW, hMJ c⟩
     ·rename_i c; rw [if_neg c]; obtain ⟨q1, q2⟩ := hW; exact ⟨q2, by rw [q1]; exact h0⟩
    obtain ⟨rfl, rfl⟩ := e
    exact ⟨hS, k1, k2, fun q => (by rw [hov] at q; cases q)⟩
theorem mRunR_any {s d w0 w} {M : Rv} (h : StR s d w0 w M) {fuel N : Nat} (hf : fuel <= 1099511627776) (Q : Nat -> Rv) (h0 : Q 0 = M) (hQ : ∀ k, k < N -> Rstp s (Q k) true (Q (k + 1))) {MJ : Rv} (hN : N < fuel -> Rstp s (Q N) false MJ) {MF : Rv} (hMF : MF = if N < fuel then MJ else Q fuel) :
 Calls Tryz.prog 11 #[.pointer (some ⟨s.mb, 0, none⟩), .int .i64 fuel] w fun e w' => ∃ v d' B, e = .returned (.tuple #[otvR v MF, .int .i64 0]) /\ (MF.over = false -> Rm s d' w' MF /\ ∀ k, footR s d' k -> k < B) /\ OvR s d'.ve w' MF /\ FooR s d d' w0 w' /\ w.heap.size <= B /\ Row w' B 62 2 v (MF.ev.map evc) := by
 obtain ⟨d1, h1, h2, h3⟩ := h.out
 obtain ⟨wq, hwq⟩ : ∃ wq, wq = w.alloc (.cells #[.slice none 0 0, .int .i64 0, .int .i64 0, .int .i64 0, .int .i64 0, .int .i64 0, .int .i64 0] 38) := ⟨_, rfl⟩
 obtain ⟨wb, hwb⟩ : ∃ wb, wb = wq.alloc (.cells #[.slice none 0 0, .int .i64 0, .int .i64 0, .int .i64 0, .int .i64 0, .int .i64 0, .int .i64 0] 38) := ⟨_, rfl⟩
 have bq : Below w.heap.size w wq := by rw [hwq]; exact below_newR w _
 have bb : Below wq.heap.size wq wb := by rw [hwb]; exact below_newR wq _
 have bwb : Below w.heap.size w wb := bq.trans (bb.mono bq.size)
 have k0 : wq.heap[w.heap.size]? = some (.cells #[.slice none 0 0, .int .i64 0, .int .i64 0, .int .i64 0, .int .i64 0, .int .i64 0, .int .i64 0] 38 (0, 0)) := by rw [hwq]; exact heap_alloc_new _ _
 have k1 : wb.heap[w.heap.size]? = some (.cells #[.slice none 0 0, .int .i64 0, .int .i64 0, .int .i64 0, .int .i64 0, .int .i64 0, .int .i64 0] 38 (0, 0)) := (bb.block _ (gl k0)).trans k0
 have k2 : wb.heap[wq.heap.size]? = some (.cells #[.slice none 0 0, .int .i64 0, .int .i64 0, .int .i64 0, .int .i64 0, .int .i64 0, .int .i64 0] 38 (0, 0)) := by rw [hwb]; exact heap_alloc_new _ _
 obtain ⟨I, J, c1, c2, c3, c4⟩ := runR_core bwb h1 h2 Q h0 hQ hN hMF k1 k2
 have T := told_runL wq (mb := s.mb) (o := 66) (B := s.hi) (fuel := fuel) (N := N) #[.pointer (some ⟨s.mb, 0, none⟩)] opens_stepR hf I J (E := MF.ev) (x1 := MF.fin) (x2 := MF.kd) (x3 := MF.vl) (x4 := MF.steps) (x5 := MF.words) (x6 := MF.deep) (by rw [<- hwb]; exact c1) c2 c3 (fun W hW => by
  obtain ⟨q1, q2, q3, _⟩ := c4 W hW
  obtain ⟨d2, _, o2, _⟩ := q1.out
  exact ⟨o2.toldAt, q3⟩)
 refine (mRunR_of w wq h2.lt hf _ hwq T fun wF hW => (c4 wF hW).2.1).mono ?_
 rintro e w' ⟨v, wF, rfl, hW, hR, hO⟩
 obtain ⟨q1, q2, q3, q4⟩ := c4 wF hW
 obtain ⟨d2, m2, o2, f2⟩ := q1.out
 obtain ⟨A, hA⟩ := o2.box
 have nb : ∀ k, k = w.heap.size \/ k = wq.heap.size -> wF.heap[k]? = some (.cells #[.slice none 0 0, .int .i64 0, .int .i64 0, .int .i64 0, .int .i64 0, .int .i64 0, .int .i64 0] 38 (0, 0)) := fun k hk => by rcases hk with rfl | rfl <;> assumption
 have a1 : ¬ (s.mb = w.heap.size \/ s.mb = wq.heap.size) := fun hk => by
  have := nb _ hk; rw [hA] at this; cases this
 have a2 : ∀ k, d2.ve.ownBlock = some k -> ¬ (k = w.heap.size \/ k = wq.heap.size) := fun k q hk => own_not o2.ev.out (nb _ hk) (by decide) q
 have sz := bwb.size
 have sz0 := bq.size
 have sz2 := f2.only.size
 have sz3 := h3.only.size
 have g2 : FooR s d d2 w0 wF := (h3.trans (FooR.of_below bwb)).trans f2
 refine ⟨v, d2, wF.heap.size, rfl, fun ho => ⟨(m2 ho).apart hO fun k hk => ⟨(m2 ho).not_foot (nb k hk), fun q => ?_⟩, (m2 ho).foot_lt⟩, o2.apart hO a1 a2, ⟨g2.only.trans hO fun i hi hF => ?_, g2.new⟩, by omega, hR⟩
 ·have z := (h1 (q4 ho)).rest.hi
  have z2 := z.2.2.2.2 k q
  rcases hk with e | e <;> omega
 ·have : i = w.heap.size \/ i = wq.heap.size := hF
  rcases this with e | e <;> omega
end Go.Proofs.YtfofmmkihhnfmaaGreatDoor
