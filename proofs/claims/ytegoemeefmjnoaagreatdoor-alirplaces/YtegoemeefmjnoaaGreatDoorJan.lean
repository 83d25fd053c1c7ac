import Derived.Test.YtegoemeefmjnoaaGreatDoorJal
import Derived.Test.YtegoemeefmjnoaaGreatDoorJam
set_option linter.unusedVariables false
set_option linter.unusedSimpArgs false
namespace Go.Proofs.YtegoemeefmjnoaaGreatDoor
open Go.ChangeShapes Go.WideShapes Go.ChangeAt Go.RowKit Go.Maps
set_option maxRecDepth 100000 in
set_option maxHeartbeats 8000000 in
theorem mDoW {s P Q d w V} (h : Wm s P Q d w V) (op imm a b c : Int) (V' : Wv) (n : Int) (hr : V.opr op imm a b c = some (V', n)) :
 Calls Tryz.prog 56 #[.pointer (some ⟨s.mb, s.o, none⟩), .int .i64 op, .int .i64 imm, .agg #[.int .i64 a, .int .i64 b, .int .i64 c]] w fun e w' => e = .returned (.int .i64 n) /\ ∃ d', Wm s P Q d' w' V' /\ FooW s d d' w w' := by
 obtain ⟨W, hW⟩ : ∃ W, W = w.alloc (.cells #[.int .i64 a, .int .i64 b, .int .i64 c] 118) := ⟨_, rfl⟩
 have hb1 : Below w.heap.size w W := by rw [hW]; exact (Below.refl _ _).alloc (Nat.le_refl _) _
 have hx : W.heap[w.heap.size]? = some (.cells #[.int .i64 a, .int .i64 b, .int .i64 c] 118 (0, 0)) := by rw [hW]; exact heap_alloc_new _ _
 have y0 : W.cell? ⟨w.heap.size, 0, none⟩ = some (.int .i64 a) := cell_arr hx rfl
 have y1 : W.cell? ⟨w.heap.size, 1, none⟩ = some (.int .i64 b) := cell_arr hx rfl
 have y2 : W.cell? ⟨w.heap.size, 2, none⟩ = some (.int .i64 c) := cell_arr hx rfl
 have l1 : w.heap.size < W.heap.size := (gl hx)
 have H := h.below hb1
 have hlt := H.cells.lt
 have HF : Hid (∀ w2 V2, (∃ d', Wm s P Q d' w2 V2 /\ FooW s d d' W w2) -> ∃ d', Wm s P Q d' w2 V2 /\ FooW s d d' w w2) := fun w2 V2 ⟨d', q1, q2⟩ => ⟨d', q1, (FooW.of_below hb1).trans q2⟩
 have HM : Hid (∃ d', Wm s P Q d' W V /\ FooW s d d' W W) := ⟨d, H, FooW.refl _ _ _⟩
 have HWM : Hid _ := H
 clear hx hb1 h H
 unfold Wv.opr at hr
 by_cases o1 : op = 1
 ·subst o1
  rw [if_pos rfl] at hr
  cases hr
  generalize hmb : s.mb = mb at *
  generalize hso : s.o = so at *
  clear hmb hso HWM
  go_enter Tryz.func56, Tryz.ntmps56
  go_upto_region 1 with fail
  rw [<- hW]
  clear hW
  go_wp2_with fail
  go_ret
  exact ⟨rfl, HF.out _ _ HM.out⟩
 by_cases o31 : op = 31
 ·subst o31
  rw [if_neg (by decide), if_pos rfl] at hr
  cases hr
  generalize hmb : s.mb = mb at *
  generalize hso : s.o = so at *
  clear hmb hso HWM
  go_enter Tryz.func56, Tryz.ntmps56
  go_upto_region 1 with fail
  rw [<- hW]
  clear hW
  go_wp2_with fail
  go_ret
  exact ⟨rfl, HF.out _ _ HM.out⟩
 by_cases o20 : op = 20
 ·subst o20
  rw [if_neg (by decide), if_neg (by decide), if_pos (by decide)] at hr
  split at hr
  ·next hq =>
   simp only [Bool.and_eq_true, fitsB_iff, decide_eq_true_eq] at hq
   obtain ⟨fa, fb, fc, fh⟩ := hq
   have hm : V.mem 20 a b c = V.mem 20 a 0 0 := rfl
   rw [hm] at hr
   have HC : Hid _ := mLengthW HWM.out a fa
   generalize V.mem 20 a 0 0 = R at HC hr
   cases hr
   clear hm
   generalize hmb : s.mb = mb at *
   generalize hso : s.o = so at *
   clear hmb hso HWM
   go_enter Tryz.func56, Tryz.ntmps56
   go_upto_region 1 with fail
   rw [<- hW]
   clear hW
   go_wp2_with (go_at_call 67; refine Calls.mono HC.out ?_; rintro e w2 ⟨rfl, h2⟩; have H2 := show Hid _ from h2; clear h2)
   go_ret
   exact ⟨rfl, HF.out _ _ H2.out⟩
  ·cases hr
 by_cases o21 : op = 21
 ·subst o21
  rw [if_neg (by decide), if_neg (by decide), if_pos (by decide)] at hr
  split at hr
  ·next hq =>
   simp only [Bool.and_eq_true, fitsB_iff, decide_eq_true_eq] at hq
   obtain ⟨fa, fb, fc, fh⟩ := hq
   have hm : V.mem 21 a b c = V.mem 21 a b 0 := rfl
   rw [hm] at hr
   have HC : Hid _ := mLoadW HWM.out a b fa fb
   generalize V.mem 21 a b 0 = R at HC hr
   cases hr
   clear hm
   generalize hmb : s.mb = mb at *
   generalize hso : s.o = so at *
   clear hmb hso HWM
   go_enter Tryz.func56, Tryz.ntmps56
   go_upto_region 1 with fail
   rw [<- hW]
   clear hW
   go_wp2_with (go_at_call 68; refine Calls.mono HC.out ?_; rintro e w2 ⟨rfl, h2⟩; have H2 := show Hid _ from h2; clear h2)
   go_ret
   exact ⟨rfl, HF.out _ _ H2.out⟩
  ·cases hr
 by_cases o22 : op = 22
 ·subst o22
  rw [if_neg (by decide), if_neg (by decide), if_pos (by decide)] at hr
  split at hr
  ·next hq =>
   simp only [Bool.and_eq_true, fitsB_iff, decide_eq_true_eq] at hq
   obtain ⟨fa, fb, fc, fh⟩ := hq
   have HC : Hid _ := mStoreW HWM.out a b c fa fb fc fh
   have hn : (V.mem 22 a b c).2 = 0 := by
    unfold Wv.mem
    rw [if_neg (by decide), if_neg (by decide), if_pos rfl]
    split <;> rfl
   generalize V.mem 22 a b c = R at HC hr hn
   cases hr
   simp only at hn HC
   subst hn
   generalize hmb : s.mb = mb at *
   generalize hso : s.o = so at *
   clear hmb hso HWM
   go_enter Tryz.func56, Tryz.ntmps56
   go_upto_region 1 with fail
   rw [<- hW]
   clear hW
   go_wp2_with (go_at_call 69; refine Calls.mono HC.out ?_; rintro e w2 ⟨rfl, h2⟩; have H2 := show Hid _ from h2; clear h2)
   go_ret
   exact ⟨rfl, HF.out _ _ H2.out⟩
  ·cases hr
 by_cases o23 : op = 23
 ·subst o23
  rw [if_neg (by decide), if_neg (by decide), if_pos (by decide)] at hr
  split at hr
  ·next hq =>
   simp only [Bool.and_eq_true, fitsB_iff, decide_eq_true_eq] at hq
   obtain ⟨fa, fb, fc, fh⟩ := hq
   have hm : V.mem 23 a b c = V.mem 23 a 0 0 := rfl
   rw [hm] at hr
   have HC : Hid _ := mAllocW HWM.out a fa fh
   generalize V.mem 23 a 0 0 = R at HC hr
   cases hr
   clear hm
   generalize hmb : s.mb = mb at *
   generalize hso : s.o = so at *
   clear hmb hso HWM
   go_enter Tryz.func56, Tryz.ntmps56
   go_upto_region 1 with fail
   rw [<- hW]
   clear hW
   go_wp2_with (go_at_call 70; refine Calls.mono HC.out ?_; rintro e w2 ⟨rfl, h2⟩; have H2 := show Hid _ from h2; clear h2)
   go_ret
   exact ⟨rfl, HF.out _ _ H2.out⟩
  ·cases hr
 by_cases o24 : op = 24
 ·subst o24
  rw [if_neg (by decide), if_neg (by decide), if_neg (by decide), if_pos rfl] at hr
  cases hin : V.inp with
  | nil =>
    rw [hin] at hr
    cases hr
    have HC : Hid _ := mTakeW_no HWM.out hin
    clear hin
    generalize hmb : s.mb = mb at *
    generalize hso : s.o = so at *
    clear hmb hso HWM
    go_enter Tryz.func56, Tryz.ntmps56
    go_upto_region 1 with fail
    rw [<- hW]
    clear hW
    go_wp2_with (go_at_call 71; refine Calls.mono HC.out ?_; rintro e w2 ⟨rfl, h2⟩; have H2 := show Hid _ from h2; clear h2)
    go_ret
    exact ⟨rfl, HF.out _ _ H2.out⟩
  | cons y I =>
    rw [hin] at hr
    cases hr
    have HC : Hid _ := mTakeW_yes HWM.out hin
    clear hin
    generalize hmb : s.mb = mb at *
    generalize hso : s.o = so at *
    clear hmb hso HWM
    go_enter Tryz.func56, Tryz.ntmps56
    go_upto_region 1 with fail
    rw [<- hW]
    clear hW
    go_wp2_with (go_at_call 71; refine Calls.mono HC.out ?_; rintro e w2 ⟨rfl, h2⟩; have H2 := show Hid _ from h2; clear h2)
    go_ret
    exact ⟨rfl, HF.out _ _ H2.out⟩
 by_cases o26 : op = 26
 ·subst o26
  rw [if_neg (by decide), if_neg (by decide), if_neg (by decide), if_neg (by decide), if_pos rfl] at hr
  cases hr
  have HE2 : Hid (Calls Tryz.prog 72 #[.pointer (some ⟨s.mb, s.o + 1, none⟩), .int .i64 1, .int .i64 a] W.drew fun e w' => (∃ b, e = .returned (.bool b)) /\ ∃ d', Wm s P Q d' w' (V.tell 1 a) /\ FooW s d d' W w') := (mEventW (HWM.out.below (Below.refl _ _).drew) 1 a).mono fun e w' ⟨q0, d', q1, q2⟩ => ⟨q0, d', q1, (FooW.of_below (Below.refl _ _).drew).trans q2⟩
  generalize hmb : s.mb = mb at *
  generalize hso : s.o = so at *
  clear hmb hso HWM
  go_enter Tryz.func56, Tryz.ntmps56
  go_upto_region 1 with fail
  rw [<- hW]
  clear hW
  go_upto_region 18 with fail
  have S8 : (fun w' : World => w'.cell? ⟨w.heap.size, 0, none⟩ = some (.int .i64 a) /\ w.heap.size < w'.heap.size) W.drew := ⟨y0, l1⟩
  refine lec_start (S := fun w' : World => w'.cell? ⟨w.heap.size, 0, none⟩ = some (.int .i64 a) /\ w.heap.size < w'.heap.size) (z := 5) (by kernel_rfl) ?_
  show lec _ _ _ _ _ 6 _ _ _
  try simp only [List.size_toArray, List.length_cons, List.length_nil, Array.replicate]
  refine lec_takeP (i := 0) (v := ?v0z) rfl (by kernel_rfl) (by kernel_rfl) (by kernel_rfl) (by kernel_rfl) (fun _ _ _ h => h) (.inl ⟨by rfl, ?hy0z⟩) S8 ?rest0z
  case hy0z =>
   rintro w' _
   go_simp
   all_goals with_reducible rfl
  try simp only [Act.put, List.getElem_toArray, List.getElem_cons_succ, List.getElem_cons_zero, List.setIfInBounds_toArray, List.set_cons_zero, List.set_cons_succ]
  refine lec_takeP (i := 1) (v := ?v1z) rfl (by kernel_rfl) (by kernel_rfl) (by kernel_rfl) (by kernel_rfl) (fun _ _ _ h => h) (.inl ⟨by rfl, ?hy1z⟩) S8 ?rest1z
  case hy1z =>
   rintro w' _
   go_simp
   all_goals with_reducible rfl
  try simp only [Act.put, List.getElem_toArray, List.getElem_cons_succ, List.getElem_cons_zero, List.setIfInBounds_toArray, List.set_cons_zero, List.set_cons_succ]
  refine lec_takeP (i := 2) (v := ?v2z) rfl (by kernel_rfl) (by kernel_rfl) (by kernel_rfl) (by kernel_rfl) (fun _ _ _ h => h) (.inl ⟨by rfl, ?hy2z⟩) S8 ?rest2z
  case hy2z =>
   rintro w' _
   go_simp
   all_goals with_reducible rfl
  try simp only [Act.put, List.getElem_toArray, List.getElem_cons_succ, List.getElem_cons_zero, List.setIfInBounds_toArray, List.set_cons_zero, List.set_cons_succ]
  refine lec_takeP (i := 3) (v := ?v3z) rfl (by kernel_rfl) (by kernel_rfl) (by kernel_rfl) (by kernel_rfl) (fun _ _ _ h => h) (.inl ⟨by rfl, ?hy3z⟩) S8 ?rest3z
  case hy3z =>
   rintro w' _
   go_simp
   all_goals with_reducible rfl
  try simp only [Act.put, List.getElem_toArray, List.getElem_cons_succ, List.getElem_cons_zero, List.setIfInBounds_toArray, List.set_cons_zero, List.set_cons_succ]
  refine lec_takeT [5] (i := 4) (v := ?v4z) rfl (by kernel_rfl) (by kernel_rfl) (by kernel_rfl) (by kernel_rfl) (fun _ _ _ h => h) (.inl ⟨by rfl, ?hy4z⟩) S8 ?rest4z
  case hy4z =>
   rintro w' ⟨h1, h2⟩
   go_simp
   all_goals with_reducible rfl
  try simp only [Act.put, List.getElem_toArray, List.getElem_cons_succ, List.getElem_cons_zero, List.setIfInBounds_toArray, List.set_cons_zero, List.set_cons_succ]
  refine lec_one (i := 5) rfl (by kernel_rfl) ?_
  intro K5 hK5
  rw [if_pos (by rfl)]
  go_simp
  refine Calls.mono HE2.out ?_
  rintro e w2 ⟨⟨b2, rfl⟩, h2⟩
  have H2 := show Hid _ from h2
  clear h2
  go_simp
  refine hK5 _ _ (fun h => by cases h) ?_
  clear hK5
  try simp only [Act.put, List.getElem_toArray, List.getElem_cons_succ, List.getElem_cons_zero, List.setIfInBounds_toArray, List.set_cons_zero, List.set_cons_succ]
  refine lec_done (by kernel_rfl) ?_
  clear S8 HE2
  go_wp2_with fail
  go_ret
  exact ⟨rfl, HF.out _ _ H2.out⟩
 by_cases o27 : op = 27
 ·subst o27
  rw [if_neg (by decide), if_neg (by decide), if_neg (by decide), if_neg (by decide), if_neg (by decide), if_pos rfl] at hr
  have HC : Hid _ := mPrintBW HWM.out a
  have hn : n = 0 /\ V' = (if a = 0 \/ a = 1 then V.tell 2 a else V.stuck 5) := by
   split at hr
   ·next q => cases hr; rw [if_pos q]; exact ⟨rfl, rfl⟩
   ·next q => cases hr; rw [if_neg q]; exact ⟨rfl, rfl⟩
  rw [<- hn.2] at HC
  obtain ⟨hn, -⟩ := hn
  subst hn
  clear hr
  generalize hmb : s.mb = mb at *
  generalize hso : s.o = so at *
  clear hmb hso HWM
  go_enter Tryz.func56, Tryz.ntmps56
  go_upto_region 1 with fail
  rw [<- hW]
  clear hW
  go_wp2_with (go_at_call 73; refine Calls.mono HC.out ?_; rintro e w2 ⟨rfl, h2⟩; have H2 := show Hid _ from h2; clear h2)
  go_ret
  exact ⟨rfl, HF.out _ _ H2.out⟩
 by_cases o28 : op = 28
 ·subst o28
  rw [if_neg (by decide), if_neg (by decide), if_neg (by decide), if_neg (by decide), if_neg (by decide), if_neg (by decide), if_pos rfl] at hr
  have HC : Hid _ := mTrapW HWM.out imm (a == 0)
  have hn : n = 0 /\ V' = (if (a == 0) = true then V.panic imm 0 else V) := by
   split at hr
   ·next q => cases hr; rw [if_pos (by simp [q])]; exact ⟨rfl, rfl⟩
   ·next q => cases hr; rw [if_neg (by simp [q])]; exact ⟨rfl, rfl⟩
  rw [<- hn.2] at HC
  obtain ⟨hn, -⟩ := hn
  subst hn
  clear hr
  generalize hmb : s.mb = mb at *
  generalize hso : s.o = so at *
  clear hmb hso HWM
  go_enter Tryz.func56, Tryz.ntmps56
  go_upto_region 1 with fail
  rw [<- hW]
  clear hW
  go_wp2_with (go_at_call 74; refine Calls.mono HC.out ?_; rintro e w2 ⟨rfl, h2⟩; have H2 := show Hid _ from h2; clear h2)
  go_ret
  exact ⟨rfl, HF.out _ _ H2.out⟩
 by_cases o29 : op = 29
 ·subst o29
  rw [if_neg (by decide), if_neg (by decide), if_neg (by decide), if_neg (by decide), if_neg (by decide), if_neg (by decide), if_neg (by decide), if_pos rfl] at hr
  have HC : Hid _ := mTrapW HWM.out imm (decide (a < 0))
  have hn : n = 0 /\ V' = (if decide (a < 0) = true then V.panic imm 0 else V) := by
   split at hr
   ·next q => cases hr; rw [if_pos (by simp [q])]; exact ⟨rfl, rfl⟩
   ·next q => cases hr; rw [if_neg (by simp [q])]; exact ⟨rfl, rfl⟩
  rw [<- hn.2] at HC
  obtain ⟨hn, -⟩ := hn
  subst hn
  clear hr
  generalize hmb : s.mb = mb at *
  generalize hso : s.o = so at *
  clear hmb hso HWM
  go_enter Tryz.func56, Tryz.ntmps56
  go_upto_region 1 with fail
  rw [<- hW]
  clear hW
  go_wp2_with (go_at_call 74; refine Calls.mono HC.out ?_; rintro e w2 ⟨rfl, h2⟩; have H2 := show Hid _ from h2; clear h2)
  go_ret
  exact ⟨rfl, HF.out _ _ H2.out⟩
 by_cases o30 : op = 30
 ·subst o30
  rw [if_neg (by decide), if_neg (by decide), if_neg (by decide), if_neg (by decide), if_neg (by decide), if_neg (by decide), if_neg (by decide), if_neg (by decide), if_pos rfl] at hr
  by_cases ha : a < 0
  ·have ta : decide (a < 0) = true := by simp [ha]
   have HC : Hid _ := mTrapW HWM.out imm true
   rw [if_pos (.inl ha)] at hr
   cases hr
   simp only [if_true] at HC
   clear ha
   generalize hmb : s.mb = mb at *
   generalize hso : s.o = so at *
   clear hmb hso HWM
   go_enter Tryz.func56, Tryz.ntmps56
   go_upto_region 1 with fail
   rw [<- hW]
   clear hW
   go_wp2_with (go_at_call 74; refine Calls.mono HC.out ?_; rintro e w2 ⟨rfl, h2⟩; have H2 := show Hid _ from h2; clear h2)
   go_ret
   exact ⟨rfl, HF.out _ _ H2.out⟩
  ·have ta : decide (a < 0) = false := by simp [ha]
   obtain ⟨t, ht⟩ : ∃ t, t = decide (b <= a) := ⟨_, rfl⟩
   have HC : Hid _ := mTrapW HWM.out imm t
   have hn : n = 0 /\ V' = (if t = true then V.panic imm 0 else V) := by
    split at hr
    ·next q => cases hr; rw [if_pos (by rw [ht]; simp; omega)]; exact ⟨rfl, rfl⟩
    ·next q => cases hr; rw [if_neg (by rw [ht]; simp; omega)]; exact ⟨rfl, rfl⟩
   rw [<- hn.2] at HC
   obtain ⟨hn, -⟩ := hn
   subst hn
   have tg : decide (b <= a) = t := ht.symm
   clear hr ha ht
   generalize hmb : s.mb = mb at *
   generalize hso : s.o = so at *
   clear hmb hso HWM
   go_enter Tryz.func56, Tryz.ntmps56
   go_upto_region 1 with fail
   rw [<- hW]
   clear hW
   go_wp2_with (go_at_call 74; refine Calls.mono HC.out ?_; rintro e w2 ⟨rfl, h2⟩; have H2 := show Hid _ from h2; clear h2)
   go_ret
   exact ⟨rfl, HF.out _ _ H2.out⟩
 rw [if_neg o1, if_neg o31, if_neg (by omega), if_neg o24, if_neg o26, if_neg o27, if_neg o28, if_neg o29, if_neg o30] at hr
 cases hr
 have t1 : (op == 1) = false := by simp [o1]
 have t31 : (op == 31) = false := by simp [o31]
 have t20 : (op == 20) = false := by simp [o20]
 have t21 : (op == 21) = false := by simp [o21]
 have t22 : (op == 22) = false := by simp [o22]
 have t23 : (op == 23) = false := by simp [o23]
 have t24 : (op == 24) = false := by simp [o24]
 have t26 : (op == 26) = false := by simp [o26]
 have t27 : (op == 27) = false := by simp [o27]
 have t28 : (op == 28) = false := by simp [o28]
 have t29 : (op == 29) = false := by simp [o29]
 have t30 : (op == 30) = false := by simp [o30]
 have HC : Hid _ := mCalcW HWM.out op a b
 clear o1 o31 o20 o21 o22 o23 o24 o26 o27 o28 o29 o30
 generalize hmb : s.mb = mb at *
 generalize hso : s.o = so at *
 clear hmb hso HWM
 go_enter Tryz.func56, Tryz.ntmps56
 go_upto_region 1 with fail
 rw [<- hW]
 clear hW
 go_wp2_with (go_at_call 75; refine Calls.mono HC.out ?_; rintro e w2 ⟨rfl, h2⟩; have H2 := show Hid _ from h2; clear h2)
 go_ret
 exact ⟨rfl, HF.out _ _ H2.out⟩
def fnv (s : Ast) : Value := .slice (some ⟨s.fb, s.fo, none⟩) s.fn s.fc
structure Wai (s : Ast) (w : World) (vw : Value) (W : List Fa) (mw : List (Option Nat)) : Prop where
 row : Row w s.ws.hi 80 12 vw (List.zipWith (fav s) W mw)
 len : mw.length = W.length
 rg : ∀ F ∈ W, F.rg.length = 8
 sm : ∀ i (h : i < W.length), SlM w (mw.getD i none) W[i].c W[i].sl
 nd : ∀ (i j g : Nat), mw[i]? = some (some g) -> mw[j]? = some (some g) -> i = j
 hi : ∀ g : Nat, some g ∈ mw -> s.ws.hi <= g
structure Mrs (FS : List Af) (s : Ast) (X : List Value) (wd : Wdy) (vw : Value) (mw : List (Option Nat)) (w : World) (W : List Fa) (V : Wv) : Prop where
 fns : Fns FS s
 ty : s.ws.t = 83 /\ s.ws.o = 14
 wm : Wm s.ws (X ++ [vw, fnv s]) [] wd w V
 wai : Wai s w vw W mw
structure Mca (FS : List Af) (s : Ast) (d : Ady) (w : World) (M : Ma) : Prop where
 rs : Mrs FS s (fav s M.here d.mh) d.wd d.vw d.mw w M.wait M.wv
 rg : M.here.rg.length = 8
 sm : SlM w d.mh M.here.c M.here.sl
 nd : ∀ g, d.mh = some g -> some g ∉ d.mw
 hi : ∀ g, d.mh = some g -> s.ws.hi <= g
def footA (s : Ast) (d : Ady) (k : Nat) : Prop := footW s.ws d.wd k \/ d.vw.ownBlock = some k \/ d.mh = some k \/ some k ∈ d.mw
structure FooA (s : Ast) (d d' : Ady) (w w' : World) : Prop where
 only : Only (footA s d) w w'
 new : ∀ k, footA s d' k -> footA s d k \/ w.heap.size <= k
theorem FooA.refl (s : Ast) (d : Ady) (w : World) : FooA s d d w w := ⟨Only.refl _ _, fun k h => .inl h⟩
theorem FooA.trans {s d d' d'' w w' w''} (h : FooA s d d' w w') (k : FooA s d' d'' w' w'') : FooA s d d'' w w'' :=
 ⟨h.only.trans k.only fun i hi hf => (h.new i hf).elim id (fun q => by omega), fun i hf => (k.new i hf).elim (fun q => h.new i q) (fun q => .inr (Nat.le_trans h.only.size q))⟩
theorem FooA.of_below {s d w w'} (h : Below w.heap.size w w') : FooA s d d w w' := ⟨Only.of_below h _, fun k q => .inl q⟩
theorem mem_at {mw : List (Option Nat)} {g : Nat} (h : some g ∈ mw) : ∃ i, i < mw.length /\ mw[i]? = some (some g) /\ mw.getD i none = some g := by
 obtain ⟨i, hi, e⟩ := List.mem_iff_getElem.1 h
 exact ⟨i, hi, by rw [List.getElem?_eq_getElem hi, e], by simp [List.getD, hi, e]⟩
theorem Wai.map {s w vw W mw} (h : Wai s w vw W mw) {g : Nat} (hg : some g ∈ mw) : g < w.heap.size /\ ∀ A t f, w.heap[g]? ≠ some (.cells A t f) := by
 obtain ⟨i, hi, _, e⟩ := mem_at hg
 exact (h.sm i (by rw [<- h.len]; exact hi)).lt e
theorem Wai.move {s w w' vw W mw} (h : Wai s w vw W mw) (h1 : ∀ g, vw.ownBlock = some g -> w'.heap[g]? = w.heap[g]?) (h2 : ∀ g, some g ∈ mw -> w'.heap[g]? = w.heap[g]?) : Wai s w' vw W mw :=
 ⟨h.row.move h1, h.len, h.rg, fun i hi => (h.sm i hi).move fun b hb => h2 b (by
  have hl : i < mw.length := by rw [h.len]; exact hi
  rw [<- hb]
  simp [List.getD, hl]), h.nd, h.hi⟩
theorem row_cells {w : World} {B e z : Nat} {v : Value} {xs : List (List Value)} (h : Row w B e z v xs) {g : Nat} (hg : v.ownBlock = some g) : B <= g /\ g < w.heap.size /\ ∃ A, w.heap[g]? = some (.cells A e (0, 0)) := by
 have hb := own_block h.out hg
 refine ⟨hb.1, hb.2, ?_⟩
 rcases h.out.2 with ⟨q, _⟩ | ⟨g', cap, cur, q1, q2, q3, _⟩
 ·rw [q] at hg; cases hg
 ·rw [q1] at hg
  cases hg
  exact ⟨_, q3⟩
theorem Mrs.move {FS s X wd vw mw w W V} (h : Mrs FS s X wd vw mw w W V) {w' : World} {X' : List Value} (hb : w'.heap[s.ws.mb]? = some (.cells (X' ++ ([vw, fnv s] ++ wcs s.ws wd V)).toArray s.ws.t (0, 0))) (hX : X'.length = 12) (hs : w.heap.size <= w'.heap.size) (hk : ∀ k, k < w.heap.size -> k ≠ s.ws.mb -> (k < s.ws.hi \/ (∃ A t f, w.heap[k]? = some (.cells A t f)) \/ some k ∈ mw) -> w'.heap[k]? = w.heap[k]?) : Mrs FS s X' wd vw mw w' W V := by
 have R := h.wm.rest
 refine ⟨h.fns, h.ty, h.wm.around (by rw [hb]; simp) (by simp [hX, h.ty.2]) hs (fun k h1 h2 h3 => hk k h1 h2 ?_), h.wai.move (fun g hg => ?_) (fun g hg => ?_)⟩
 ·rcases h3 with q | q | q
  ·exact .inl (R.hi.2.2.2 k q)
  ·exact .inl (R.hi.2.2.1 k q)
  ·obtain ⟨_, _, A, hA⟩ := row_cells R.ev q
   exact .inr (.inl ⟨_, _, _, hA⟩)
 ·obtain ⟨q1, q2, A, hA⟩ := row_cells h.wai.row hg
  exact hk g q2 (by have := R.hi.2.1; omega) (.inr (.inl ⟨_, _, _, hA⟩))
 ·have q := h.wai.map hg
  exact hk g q.1 (fun e => q.2 _ _ _ (e ▸ h.wm.box)) (.inr (.inr hg))
theorem Mca.boxQ {FS s d w M} (h : Mca FS s d w M) : w.heap[s.ws.mb]? = some (.cells (fav s M.here d.mh ++ ([d.vw, fnv s] ++ wcs s.ws d.wd M.wv)).toArray s.ws.t (0, 0)) := by
 have := h.rs.wm.box
 simpa using this
theorem Mca.fb {FS s d w M} (h : Mca FS s d w M) : FB s ([d.vw, fnv s] ++ wcs s.ws d.wd M.wv) s.ws.t w s.ws.mb M.here d.mh := ⟨h.boxQ, h.rg, h.sm⟩
theorem Mca.agr {FS s d w M} (h : Mca FS s d w M) : AgrW s.ws w := h.rs.wm.rest.agr
theorem Mca.below {FS s d w w' M} (h : Mca FS s d w M) (hb : Below w.heap.size w w') : Mca FS s d w' M :=
 ⟨h.rs.move ((hb.block _ h.rs.wm.cells.lt).trans h.boxQ) (fav_len h.rg) hb.size (fun k hk _ _ => hb.block k hk), h.rg, h.sm.move fun b hb2 => hb.block b (h.sm.lt hb2).1, h.nd, h.hi⟩
theorem Mca.here {FS s d w M} (h : Mca FS s d w M) {w' : World} {F' : Fa} {m' : Option Nat} (hb : FB s ([d.vw, fnv s] ++ wcs s.ws d.wd M.wv) s.ws.t w' s.ws.mb F' m') (ho : Only (fun k => k = s.ws.mb \/ d.mh = some k) w w') (hm : m' = d.mh \/ (d.mh = none /\ ∃ g, m' = some g /\ w.heap.size <= g)) : Mca FS s { d with mh := m' } w' { M with here := F' } /\ FooA s d { d with mh := m' } w w' := by
 have hhi := h.rs.wm.rest.hi
 refine ⟨⟨h.rs.move hb.box (fav_len hb.rg) ho.size (fun k h1 h2 h3 => ho.block k h1 ?_), hb.rg, hb.sm, fun g hg => ?_, fun g hg => ?_⟩, ⟨ho.mono fun k _ q => q.elim (fun e => .inl (.inl e)) (fun e => .inr (.inr (.inl e))), fun k hk => ?_⟩⟩
 ·rintro (q | q)
  ·exact h2 q
  ·rcases h3 with r | ⟨A, t, f, r⟩ | r
   ·have := h.hi k q; omega
   ·exact (h.sm.lt q).2 _ _ _ r
   ·exact h.nd k q r
 ·rcases hm with q | ⟨q, g', q1, q2⟩
  ·exact h.nd g (by rw [<- q]; exact hg)
  ·intro hmem
   have := (h.rs.wai.map hmem).1
   simp only at hg
   rw [q1] at hg
   cases hg
   omega
 ·rcases hm with q | ⟨q, g', q1, q2⟩
  ·exact h.hi g (by rw [<- q]; exact hg)
  ·simp only at hg
   rw [q1] at hg
   cases hg
   omega
 ·rcases hk with q | q | q | q
  ·exact .inl (.inl q)
  ·exact .inl (.inr (.inl q))
  ·rcases hm with r | ⟨r, g', r1, r2⟩
   ·simp only at q; rw [r] at q; exact .inl (.inr (.inr (.inl q)))
   ·simp only at q
    rw [r1] at q
    cases q
    exact .inr r2
  ·exact .inl (.inr (.inr (.inr q)))
theorem Mca.wv {FS s d w M} (h : Mca FS s d w M) {w' : World} {d' : Wdy} {V' : Wv} (hw : Wm s.ws (fav s M.here d.mh ++ [d.vw, fnv s]) [] d' w' V') (hf : FooW s.ws d.wd d' w w') : Mca FS s { d with wd := d' } w' { M with wv := V' } /\ FooA s d { d with wd := d' } w w' := by
 have R := h.rs.wm.rest
 have hmap : ∀ g, s.ws.hi <= g -> (∀ A t f, w.heap[g]? ≠ some (.cells A t f)) -> ¬ footW s.ws d.wd g := fun g h1 h2 => by
  rintro (q | q | q)
  ·have := R.hi.2.1; omega
  ·have := R.hi.2.2.1 g q; omega
  ·obtain ⟨_, _, A, hA⟩ := row_cells R.ev q
   exact h2 _ _ _ hA
 refine ⟨⟨⟨h.rs.fns, h.rs.ty, hw, h.rs.wai.move (fun g hg => ?_) (fun g hg => ?_)⟩, h.rg, h.sm.move fun g hg => ?_, h.nd, h.hi⟩, ⟨hf.only.mono fun k _ q => .inl q, fun k hk => ?_⟩⟩
 ·obtain ⟨q1, q2, A, hA⟩ := row_cells h.rs.wai.row hg
  refine hf.only.block g q2 ?_
  rintro (q | q | q)
  ·have := R.hi.2.1; omega
  ·have := R.hi.2.2.1 g q; omega
  ·exact own_apart R.ev.out h.rs.wai.row.out (by decide) g q hg
 ·have q := h.rs.wai.map hg
  exact hf.only.block g q.1 (hmap g (h.rs.wai.hi g hg) q.2)
 ·have q := h.sm.lt hg
  exact hf.only.block g q.1 (hmap g (h.hi g hg) q.2)
 ·rcases hk with q | q | q | q
  ·exact (hf.new k q).elim (fun r => .inl (.inl r)) .inr
  ·exact .inl (.inr (.inl q))
  ·exact .inl (.inr (.inr (.inl q)))
  ·exact .inl (.inr (.inr (.inr q)))
structure CMa (s : Ast) (d : Ady) (w : World) (M : Ma) : Prop where
 c0 : w.cell? ⟨s.ws.mb, 0, none⟩ = some (.pointer (some ⟨s.fb, s.fo + M.here.fi * 5, none⟩))
 c1 : w.cell? ⟨s.ws.mb, 1, none⟩ = some (.pointer (some ⟨s.bb M.here.fi, s.bo M.here.fi + M.here.bk * 5, none⟩))
 c2 : w.cell? ⟨s.ws.mb, 2, none⟩ = some (.int .i64 (M.here.bh : Int))
 c12 : w.cell? ⟨s.ws.mb, 12, none⟩ = some d.vw
 c13 : w.cell? ⟨s.ws.mb, 13, none⟩ = some (.slice (some ⟨s.fb, s.fo, none⟩) s.fn s.fc)
 lt : s.ws.mb < w.heap.size
 fz : ∀ i, w.frozen? ⟨s.ws.mb, i, none⟩ = false
theorem fav_vw {s : Ast} {F : Fa} {m : Option Nat} {a b : Value} {Q : List Value} (h : F.rg.length = 8) : (fav s F m ++ ([a, b] ++ Q))[12]? = some a /\ (fav s F m ++ ([a, b] ++ Q))[13]? = some b := by
 have hl := fav_len (s := s) (m := m) h
 constructor
 ·rw [List.getElem?_append_right (by omega), hl]; rfl
 ·rw [List.getElem?_append_right (by omega), hl]; rfl
theorem Mca.cells {FS s d w M} (h : Mca FS s d w M) : CMa s d w M :=
 have e := fav_vw (s := s) (m := d.mh) (a := d.vw) (b := fnv s) (Q := wcs s.ws d.wd M.wv) h.rg
 ⟨cell_arr h.boxQ rfl, cell_arr h.boxQ rfl, cell_arr h.boxQ rfl, cell_arr h.boxQ (by rw [List.getElem?_toArray]; exact e.1), cell_arr h.boxQ (by rw [List.getElem?_toArray]; exact e.2), h.rs.wm.cells.lt, fun i => fz_of h.boxQ⟩
end Go.Proofs.YtegoemeefmjnoaaGreatDoor
