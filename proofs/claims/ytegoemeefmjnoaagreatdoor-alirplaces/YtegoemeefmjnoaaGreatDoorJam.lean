import Derived.Test.YtegoemeefmjnoaaGreatDoorJah
import Derived.Test.YtegoemeefmjnoaaGreatDoorJal
set_option linter.unusedVariables false
set_option linter.unusedSimpArgs false
namespace Go.Proofs.YtegoemeefmjnoaaGreatDoor
open Go.ChangeShapes Go.WideShapes Go.ChangeAt Go.RowKit Go.Maps
theorem Wm.setCh {s P Q d w w' V} (h : Wm s P Q d w V) {hp' : Hpw} (hc : CH w' s.hb s.hm s.hn hp'.tk hp'.ln hp'.mm hp'.c) (o : Only (CF s.hb s.hm s.hn) w w') : Wm s P Q d w' { V with hp := hp' } /\ FooW s d d w w' := by
 have hm := h.rest.mb_ne
 have hb : w'.heap[s.mb]? = w.heap[s.mb]? := o.block _ h.cells.lt hm
 have lt := fun k (q : k < s.hi) => Nat.lt_of_lt_of_le q h.rest.hi.1
 have R := h.rest
 refine ⟨⟨hb.trans h.box, h.ol, ⟨fun k hk => (o.block k (lt k (R.hi.2.2.2 k hk)) (R.out k hk).2).trans (R.agr k hk), R.inp, hc, R.ev.move fun k hk => o.block k (own_block R.ev.out hk).2 (fun q => not_ownW R.ev.out (R.hi.2.2.1 k q) hk), R.evs, ⟨Nat.le_trans R.hi.1 o.size, R.hi.2⟩, R.out, R.ne, ⟨_, hb.trans h.box⟩⟩⟩, ⟨o.mono fun k _ hk => .inr (.inl hk), fun k hk => .inl hk⟩⟩
theorem place_inB {h : Hpw} {a i : Int} : h.place a i = true ↔ inB h.ln a i := by
 unfold Hpw.place inB
 simp
set_option maxRecDepth 100000 in
theorem mLengthW {s P Q d w V} (h : Wm s P Q d w V) (a : Int) (ha : Fits a) :
 Calls Tryz.prog 67 #[.pointer (some ⟨s.mb, s.o, none⟩), .int .i64 a] w fun e w' => e = .returned (.int .i64 (V.mem 20 a 0 0).2) /\ ∃ d', Wm s P Q d' w' (V.mem 20 a 0 0).1 /\ FooW s d d' w w' := by
 have c0 := h.cells.c0
 have hlt := h.cells.lt
 have hhb := h.rest.ch.lt s.hb (.inl rfl)
 have HST : Hid _ := mStuckW h 1
 have HM0 : Hid (∃ d', Wm s P Q d' w V /\ FooW s d d' w w) := ⟨d, h, FooW.refl _ _ _⟩
 by_cases a0 : a = 0
 ·subst a0
  have e : V.mem 20 0 0 0 = (V, 0) := by unfold Wv.mem; rw [if_pos rfl, if_pos rfl]
  rw [e]
  have HL : Hid _ := len_zero w s.hb
  clear e HST h
  generalize s.mb = mb at *
  generalize s.o = so at *
  generalize s.hb = hb at *
  go_enter Tryz.func67, Tryz.ntmps67
  go_wp2_with (go_at_call 84; refine Calls.mono HL.out ?_; rintro e w1 ⟨rfl, rfl⟩)
  go_ret
  exact ⟨rfl, HM0.out⟩
 ·have HL : Hid _ := len_any w h.rest.ch a ha a0
  cases hn : V.hp.ln a with
  | none =>
    have e : V.mem 20 a 0 0 = (V.stuck 1, 0) := by unfold Wv.mem; rw [if_pos rfl, if_neg a0, hn]
    rw [e]
    rw [hn] at HL
    clear e h hn HM0
    generalize s.mb = mb at *
    generalize s.o = so at *
    generalize s.hb = hb at *
    go_enter Tryz.func67, Tryz.ntmps67
    go_wp2_with (first
     | (go_at_call 85; refine Calls.mono HST.out ?_; rintro e w2 ⟨rfl, h2⟩; have H2 := show Hid _ from h2; clear h2)
     | (go_at_call 84; refine Calls.mono HL.out ?_; rintro e w1 ⟨rfl, rfl⟩))
    go_ret
    exact ⟨rfl, H2.out⟩
  | some n =>
    have e : V.mem 20 a 0 0 = (V, n) := by unfold Wv.mem; rw [if_pos rfl, if_neg a0, hn]
    rw [e]
    rw [hn] at HL
    clear e h hn HST
    generalize s.mb = mb at *
    generalize s.o = so at *
    generalize s.hb = hb at *
    go_enter Tryz.func67, Tryz.ntmps67
    go_wp2_with (go_at_call 84; refine Calls.mono HL.out ?_; rintro e w1 ⟨rfl, rfl⟩)
    go_ret
    exact ⟨rfl, HM0.out⟩
set_option maxRecDepth 100000 in
theorem mNoElW {s P Q d w V} (h : Wm s P Q d w V) (a : Int) (ha : Fits a) :
 Calls Tryz.prog 87 #[.pointer (some ⟨s.mb, s.o, none⟩), .int .i64 a] w fun e w' => e = .returned (.tuple #[]) /\ ∃ d', Wm s P Q d' w' (V.noEl a) /\ FooW s d d' w w' := by
 have c0 := h.cells.c0
 have hlt := h.cells.lt
 have hhb := h.rest.ch.lt s.hb (.inl rfl)
 have HS1 : Hid _ := mStuckW h 1
 have HS2 : Hid _ := mStuckW h 2
 by_cases a0 : a = 0
 ·subst a0
  have e : V.noEl 0 = V.stuck 1 := by unfold Wv.noEl; rw [if_neg (by simp)]
  rw [e]
  have HL : Hid _ := len_zero w s.hb
  clear e HS2 h
  generalize s.mb = mb at *
  generalize s.o = so at *
  generalize s.hb = hb at *
  go_enter Tryz.func87, Tryz.ntmps87
  go_wp2_with (first
   | (go_at_call 85; refine Calls.mono HS1.out ?_; rintro e w2 ⟨rfl, h2⟩; have H2 := show Hid _ from h2; clear h2)
   | (go_at_call 84; refine Calls.mono HL.out ?_; rintro e w1 ⟨rfl, rfl⟩))
  exact bodyPost_end (v := .tuple #[]) (by simp [results, Tryz.results87, go_sem]) rfl ⟨rfl, H2.out⟩
 ·have HL : Hid _ := len_any w h.rest.ch a ha a0
  have b0 : (a != 0) = true := by simp [a0]
  cases hn : V.hp.ln a with
  | none =>
    have e : V.noEl a = V.stuck 1 := by unfold Wv.noEl; rw [hn, if_neg (by simp)]
    rw [e]
    rw [hn] at HL
    clear e h hn HS2 a0
    generalize s.mb = mb at *
    generalize s.o = so at *
    generalize s.hb = hb at *
    go_enter Tryz.func87, Tryz.ntmps87
    go_wp2_with (first
     | (go_at_call 85; refine Calls.mono HS1.out ?_; rintro e w2 ⟨rfl, h2⟩; have H2 := show Hid _ from h2; clear h2)
     | (go_at_call 84; refine Calls.mono HL.out ?_; rintro e w1 ⟨rfl, rfl⟩))
    exact bodyPost_end (v := .tuple #[]) (by simp [results, Tryz.results87, go_sem]) rfl ⟨rfl, H2.out⟩
  | some n =>
    have e : V.noEl a = V.stuck 2 := by unfold Wv.noEl; rw [hn, if_pos ⟨rfl, a0⟩]
    rw [e]
    rw [hn] at HL
    clear e h hn HS1 a0
    generalize s.mb = mb at *
    generalize s.o = so at *
    generalize s.hb = hb at *
    go_enter Tryz.func87, Tryz.ntmps87
    go_wp2_with (first
     | (go_at_call 85; refine Calls.mono HS2.out ?_; rintro e w2 ⟨rfl, h2⟩; have H2 := show Hid _ from h2; clear h2)
     | (go_at_call 84; refine Calls.mono HL.out ?_; rintro e w1 ⟨rfl, rfl⟩))
    exact bodyPost_end (v := .tuple #[]) (by simp [results, Tryz.results87, go_sem]) rfl ⟨rfl, H2.out⟩
set_option maxRecDepth 100000 in
theorem mLoadW {s P Q d w V} (h : Wm s P Q d w V) (a i : Int) (ha : Fits a) (hi : Fits i) :
 Calls Tryz.prog 68 #[.pointer (some ⟨s.mb, s.o, none⟩), .int .i64 a, .int .i64 i] w fun e w' => e = .returned (.int .i64 (V.mem 21 a i 0).2) /\ ∃ d', Wm s P Q d' w' (V.mem 21 a i 0).1 /\ FooW s d d' w w' := by
 have c0 := h.cells.c0
 have hlt := h.cells.lt
 have hhb := h.rest.ch.lt s.hb (.inl rfl)
 by_cases hp : V.hp.place a i = true
 ·have e : V.mem 21 a i 0 = (V, V.hp.mm (a + 1 + i)) := by unfold Wv.mem; rw [if_neg (by decide), if_pos rfl, if_pos hp]
  rw [e]
  have HG : Hid _ := get_yes w h.rest.ch a i ha hi (place_inB.1 hp)
  have HM0 : Hid (∃ d', Wm s P Q d' w V /\ FooW s d d' w w) := ⟨d, h, FooW.refl _ _ _⟩
  generalize V.hp.mm (a + 1 + i) = x at *
  clear e h hp
  generalize s.mb = mb at *
  generalize s.o = so at *
  generalize s.hb = hb at *
  go_enter Tryz.func68, Tryz.ntmps68
  go_wp2_with (go_at_call 86; refine Calls.mono HG.out ?_; rintro e w1 ⟨rfl, rfl⟩)
  go_ret
  exact ⟨rfl, HM0.out⟩
 ·have e : V.mem 21 a i 0 = (V.noEl a, 0) := by unfold Wv.mem; rw [if_neg (by decide), if_pos rfl, if_neg hp]
  rw [e]
  have HG : Hid _ := get_no w h.rest.ch a i ha hi (fun q => hp (place_inB.2 q))
  have HN : Hid _ := mNoElW h a ha
  clear e h hp
  generalize s.mb = mb at *
  generalize s.o = so at *
  generalize s.hb = hb at *
  go_enter Tryz.func68, Tryz.ntmps68
  go_wp2_with (first
   | (go_at_call 87; refine Calls.mono HN.out ?_; rintro e w2 ⟨rfl, h2⟩; have H2 := show Hid _ from h2; clear h2)
   | (go_at_call 86; refine Calls.mono HG.out ?_; rintro e w1 ⟨rfl, rfl⟩))
  go_ret
  exact ⟨rfl, H2.out⟩
set_option maxRecDepth 100000 in
theorem mStoreW {s P Q d w V} (h : Wm s P Q d w V) (a i x : Int) (ha : Fits a) (hi : Fits i) (hx : Fits x) (hc : V.hp.c < 1000000000) :
 Calls Tryz.prog 69 #[.pointer (some ⟨s.mb, s.o, none⟩), .int .i64 a, .int .i64 i, .int .i64 x] w fun e w' => e = .returned (.tuple #[]) /\ ∃ d', Wm s P Q d' w' (V.mem 22 a i x).1 /\ FooW s d d' w w' := by
 have c0 := h.cells.c0
 have hlt := h.cells.lt
 have hhb := h.rest.ch.lt s.hb (.inl rfl)
 by_cases hp : V.hp.place a i = true
 ·have e : V.mem 22 a i x = ({ V with hp := ⟨V.hp.tk, V.hp.ln, upd V.hp.mm (a + 1 + i) x, V.hp.c + 1⟩ }, 0) := by unfold Wv.mem; rw [if_neg (by decide), if_neg (by decide), if_pos rfl, if_pos hp]
  rw [e]
  have HG : Hid (Calls Tryz.prog 88 #[.pointer (some ⟨s.hb, 0, none⟩), .int .i64 a, .int .i64 i, .int .i64 x] w fun e w' => e = .returned (.bool true) /\ ∃ d', Wm s P Q d' w' { V with hp := ⟨V.hp.tk, V.hp.ln, upd V.hp.mm (a + 1 + i) x, V.hp.c + 1⟩ } /\ FooW s d d' w w') := (set_yes w h.rest.ch hc a i x ha hi hx (place_inB.1 hp)).mono fun e w' ⟨q1, q2, q3⟩ => ⟨q1, d, h.setCh (hp' := ⟨V.hp.tk, V.hp.ln, upd V.hp.mm (a + 1 + i) x, V.hp.c + 1⟩) q2 q3⟩
  generalize ({ V with hp := ⟨V.hp.tk, V.hp.ln, upd V.hp.mm (a + 1 + i) x, V.hp.c + 1⟩ } : Wv) = V2 at *
  clear e h hp
  generalize s.mb = mb at *
  generalize s.o = so at *
  generalize s.hb = hb at *
  go_enter Tryz.func69, Tryz.ntmps69
  go_wp2_with (go_at_call 88; refine Calls.mono HG.out ?_; rintro e w1 ⟨rfl, h2⟩; have H2 := show Hid _ from h2; clear h2)
  exact bodyPost_end (v := .tuple #[]) (by simp [results, Tryz.results69, go_sem]) rfl ⟨rfl, H2.out⟩
 ·have e : V.mem 22 a i x = (V.noEl a, 0) := by unfold Wv.mem; rw [if_neg (by decide), if_neg (by decide), if_pos rfl, if_neg hp]
  rw [e]
  have HG : Hid _ := set_no w h.rest.ch a i x ha hi (fun q => hp (place_inB.2 q))
  have HN : Hid _ := mNoElW h a ha
  clear e h hp
  generalize s.mb = mb at *
  generalize s.o = so at *
  generalize s.hb = hb at *
  go_enter Tryz.func69, Tryz.ntmps69
  go_wp2_with (first
   | (go_at_call 87; refine Calls.mono HN.out ?_; rintro e w2 ⟨rfl, h2⟩; have H2 := show Hid _ from h2; clear h2)
   | (go_at_call 88; refine Calls.mono HG.out ?_; rintro e w1 ⟨rfl, rfl⟩))
  exact bodyPost_end (v := .tuple #[]) (by simp [results, Tryz.results69, go_sem]) rfl ⟨rfl, H2.out⟩
theorem mWordsW {s P Q d w V} (h : Wm s P Q d w V) (k : Int) :
 Calls Tryz.prog 90 #[.pointer (some ⟨s.mb, s.o + 1, none⟩), .int .i64 k] w fun e w' => e = .returned (.tuple #[]) /\ ∃ d', Wm s P Q d' w' { V with words := k } /\ FooW s d d' w w' := by
 have T := h.cells
 refine (told_words w (o := s.o + 1) (k := k) T.c6 (T.fz _)).mono ?_
 rintro e w' ⟨rfl, rfl⟩
 exact ⟨rfl, d, h.worded k⟩
set_option maxRecDepth 100000 in
theorem mAllocW {s P Q d w V} (h : Wm s P Q d w V) (a : Int) (ha : Fits a) (hc : V.hp.c < 1000000000) :
 Calls Tryz.prog 70 #[.pointer (some ⟨s.mb, s.o, none⟩), .int .i64 a] w fun e w' => e = .returned (.int .i64 (V.mem 23 a 0 0).2) /\ ∃ d', Wm s P Q d' w' (V.mem 23 a 0 0).1 /\ FooW s d d' w w' := by
 have c0 := h.cells.c0
 have hlt := h.cells.lt
 have hhb := h.rest.ch.lt s.hb (.inl rfl)
 have hcl := h.rest.ch.lim
 by_cases hn : a < 0
 ·have e : V.mem 23 a 0 0 = (V.stuck 1, 0) := by unfold Wv.mem; rw [if_neg (by decide), if_neg (by decide), if_neg (by decide), if_pos hn]
  rw [e]
  have HS : Hid _ := mStuckW h 1
  have hd : decide (a < 0) = true := by simp [hn]
  clear e h hn hcl
  generalize s.mb = mb at *
  generalize s.o = so at *
  generalize s.hb = hb at *
  go_enter Tryz.func70, Tryz.ntmps70
  go_wp2_with (go_at_call 85; refine Calls.mono HS.out ?_; rintro e w2 ⟨rfl, h2⟩; have H2 := show Hid _ from h2; clear h2)
  go_ret
  exact ⟨rfl, H2.out⟩
 ·have hd : decide (a < 0) = false := by simp [hn]
  by_cases hm : V.hp.tk + a < 4611686018427387904
  ·have e : V.mem 23 a 0 0 = ({ V with words := V.hp.tk + a + 1, hp := ⟨V.hp.tk + a + 1, upd V.hp.ln (V.hp.tk + 1) (some a), V.hp.mm, V.hp.c + 1⟩ }, V.hp.tk + 1) := by unfold Wv.mem; rw [if_neg (by decide), if_neg (by decide), if_neg (by decide), if_neg hn, if_pos hm]
   rw [e]
   obtain ⟨V1, hV1⟩ : ∃ V1 : Wv, V1 = { V with hp := ⟨V.hp.tk + a + 1, upd V.hp.ln (V.hp.tk + 1) (some a), V.hp.mm, V.hp.c + 1⟩ } := ⟨_, rfl⟩
   have HG : Hid (Calls Tryz.prog 89 #[.pointer (some ⟨s.hb, 0, none⟩), .int .i64 a] w fun e w' => e = .returned (.tuple #[.int .i64 (V.hp.tk + 1), .bool true]) /\ Wm s P Q d w' V1 /\ FooW s d d w w') := (make_yes w h.rest.ch hc a (by omega) hm).mono fun e w' ⟨q1, q2, q3⟩ => ⟨q1, by rw [hV1]; exact h.setCh (hp' := ⟨V.hp.tk + a + 1, upd V.hp.ln (V.hp.tk + 1) (some a), V.hp.mm, V.hp.c + 1⟩) q2 q3⟩
   have HW : Hid (∀ w1, Wm s P Q d w1 V1 -> Calls Tryz.prog 91 #[.pointer (some ⟨s.hb, 0, none⟩)] w1 fun e w' => e = .returned (.int .i64 (V.hp.tk + a + 1)) /\ w' = w1) := fun w1 q => by
    have := words_any w1 q.rest.ch
    rw [hV1] at this
    exact this
   have HT : Hid (∀ w1, Wm s P Q d w1 V1 /\ FooW s d d w w1 -> Calls Tryz.prog 90 #[.pointer (some ⟨s.mb, s.o + 1, none⟩), .int .i64 (V.hp.tk + a + 1)] w1 fun e w' => e = .returned (.tuple #[]) /\ ∃ d', Wm s P Q d' w' { V with words := V.hp.tk + a + 1, hp := ⟨V.hp.tk + a + 1, upd V.hp.ln (V.hp.tk + 1) (some a), V.hp.mm, V.hp.c + 1⟩ } /\ FooW s d d' w w') := fun w1 ⟨q1, q2⟩ => (mWordsW q1 (V.hp.tk + a + 1)).mono fun e w' ⟨r1, d', r2, r3⟩ => ⟨r1, d', by rw [hV1] at r2; exact r2, q2.trans r3⟩
   have HCL : Hid (∀ w1, Wm s P Q d w1 V1 -> w1.cell? ⟨s.mb, s.o, none⟩ = some (.pointer (some ⟨s.hb, 0, none⟩)) /\ s.mb < w1.heap.size) := fun w1 q => ⟨q.cells.c0, q.cells.lt⟩
   generalize ({ V with words := V.hp.tk + a + 1, hp := ⟨V.hp.tk + a + 1, upd V.hp.ln (V.hp.tk + 1) (some a), V.hp.mm, V.hp.c + 1⟩ } : Wv) = V2 at *
   generalize V.hp.tk = tk at *
   clear e h hV1 hn hm
   generalize s.mb = mb at *
   generalize s.o = so at *
   generalize s.hb = hb at *
   go_enter Tryz.func70, Tryz.ntmps70
   go_upto_region 7 with (go_at_call 89; refine Calls.mono HG.out ?_; rintro e w1 ⟨rfl, h1⟩; have H1 := show Hid _ from h1; clear h1; obtain ⟨z1, z2⟩ := HCL.out _ H1.out.1)
   have S8 : (fun w' : World => w'.cell? ⟨mb, so, none⟩ = some (.pointer (some ⟨hb, 0, none⟩)) /\ mb < w'.heap.size) w1.drew := ⟨z1, z2⟩
   have HW2 : Hid _ := HW.out w1.drew (H1.out.1.below (Below.refl _ _).drew)
   have HT2 : Hid _ := HT.out w1.drew ⟨H1.out.1.below (Below.refl _ _).drew, H1.out.2.trans (FooW.of_below (Below.refl _ _).drew)⟩
   refine lec_start (S := fun w' : World => w'.cell? ⟨mb, so, none⟩ = some (.pointer (some ⟨hb, 0, none⟩)) /\ mb < w'.heap.size) (z := 8) (by kernel_rfl) ?_
   show lec _ _ _ _ _ 9 _ _ _
   try simp only [List.size_toArray, List.length_cons, List.length_nil, Array.replicate]
   refine lec_takeP (i := 0) (v := ?v0z) rfl (by kernel_rfl) (by kernel_rfl) (by kernel_rfl) (by kernel_rfl) (fun _ _ _ h => h) (.inl ⟨by rfl, ?hy0z⟩) S8 ?rest0z
   case hy0z =>
    rintro w' _
    go_simp
    all_goals with_reducible rfl
   try simp only [Act.put, List.getElem_toArray, List.getElem_cons_succ, List.getElem_cons_zero, List.setIfInBounds_toArray, List.set_cons_zero, List.set_cons_succ]
   refine lec_takeP (i := 1) (v := ?v1z) rfl (by kernel_rfl) (by kernel_rfl) (by kernel_rfl) (by kernel_rfl) (fun _ _ _ h => h) (.inl ⟨by rfl, ?hy1z⟩) S8 ?rest1z
   case hy1z =>
    rintro w' _
    go_simp
    all_goals with_reducible rfl
   try simp only [Act.put, List.getElem_toArray, List.getElem_cons_succ, List.getElem_cons_zero, List.setIfInBounds_toArray, List.set_cons_zero, List.set_cons_succ]
   refine lec_takeP (i := 2) (v := ?v2z) rfl (by kernel_rfl) (by kernel_rfl) (by kernel_rfl) (by kernel_rfl) (fun _ _ _ h => h) (.inl ⟨by rfl, ?hy2z⟩) S8 ?rest2z
   case hy2z =>
    rintro w' _
    go_simp
    all_goals with_reducible rfl
   try simp only [Act.put, List.getElem_toArray, List.getElem_cons_succ, List.getElem_cons_zero, List.setIfInBounds_toArray, List.set_cons_zero, List.set_cons_succ]
   refine lec_takeP (i := 3) (v := ?v3z) rfl (by kernel_rfl) (by kernel_rfl) (by kernel_rfl) (by kernel_rfl) (fun _ _ _ h => h) (.inl ⟨by rfl, ?hy3z⟩) S8 ?rest3z
   case hy3z =>
    rintro w' _
    go_simp
    all_goals with_reducible rfl
   try simp only [Act.put, List.getElem_toArray, List.getElem_cons_succ, List.getElem_cons_zero, List.setIfInBounds_toArray, List.set_cons_zero, List.set_cons_succ]
   refine lec_takeP (i := 4) (v := ?v4z) rfl (by kernel_rfl) (by kernel_rfl) (by kernel_rfl) (by kernel_rfl) (fun _ _ _ h => h) (.inl ⟨by rfl, ?hy4z⟩) S8 ?rest4z
   case hy4z =>
    rintro w' _
    go_simp
    all_goals with_reducible rfl
   try simp only [Act.put, List.getElem_toArray, List.getElem_cons_succ, List.getElem_cons_zero, List.setIfInBounds_toArray, List.set_cons_zero, List.set_cons_succ]
   refine lec_takeP (i := 5) (v := ?v5z) rfl (by kernel_rfl) (by kernel_rfl) (by kernel_rfl) (by kernel_rfl) (fun _ _ _ h => h) (.inl ⟨by rfl, ?hy5z⟩) S8 ?rest5z
   case hy5z =>
    rintro w' _
    go_simp
    all_goals with_reducible rfl
   try simp only [Act.put, List.getElem_toArray, List.getElem_cons_succ, List.getElem_cons_zero, List.setIfInBounds_toArray, List.set_cons_zero, List.set_cons_succ]
   refine lec_takeT [7, 8] (i := 6) (v := ?v6z) rfl (by kernel_rfl) (by kernel_rfl) (by kernel_rfl) (by kernel_rfl) (fun _ _ _ h => h) (.inl ⟨by rfl, ?hy6z⟩) S8 ?rest6z
   case hy6z =>
    rintro w' ⟨h1, h2⟩
    go_simp
    all_goals with_reducible rfl
   try simp only [Act.put, List.getElem_toArray, List.getElem_cons_succ, List.getElem_cons_zero, List.setIfInBounds_toArray, List.set_cons_zero, List.set_cons_succ]
   refine lec_one (i := 7) rfl (by kernel_rfl) ?_
   intro K7 hK7
   rw [if_pos (by rfl)]
   go_simp
   refine Calls.mono HW2.out ?_
   rintro e w2 ⟨rfl, rfl⟩
   go_simp
   refine hK7 _ _ (fun _ => S8) ?_
   clear hK7
   try simp only [Act.put, List.getElem_toArray, List.getElem_cons_succ, List.getElem_cons_zero, List.setIfInBounds_toArray, List.set_cons_zero, List.set_cons_succ]
   refine lec_one (i := 8) rfl (by kernel_rfl) ?_
   intro K8 hK8
   rw [if_pos (by rfl)]
   go_simp
   refine Calls.mono HT2.out ?_
   rintro e w3 ⟨rfl, h2⟩
   have H2 := show Hid _ from h2
   clear h2
   go_simp
   refine hK8 _ _ (fun h => by cases h) ?_
   clear hK8
   try simp only [Act.put, List.getElem_toArray, List.getElem_cons_succ, List.getElem_cons_zero, List.setIfInBounds_toArray, List.set_cons_zero, List.set_cons_succ]
   refine lec_done (by kernel_rfl) ?_
   clear S8 HW2 HT2 HW HT HCL
   go_wp2_with fail
   go_ret
   exact ⟨rfl, H2.out⟩
  ·have e : V.mem 23 a 0 0 = ({ V.panic 8 0 with words := V.hp.tk }, 0) := by unfold Wv.mem; rw [if_neg (by decide), if_neg (by decide), if_neg (by decide), if_neg hn, if_neg hm]
   rw [e]
   have HG : Hid _ := make_no w h.rest.ch a ha (.inr (by omega))
   have HP : Hid _ := mPanicW h 8 0
   have HW : Hid (∀ w1 d1, Wm s P Q d1 w1 (V.panic 8 0) -> Calls Tryz.prog 91 #[.pointer (some ⟨s.hb, 0, none⟩)] w1 fun e w' => e = .returned (.int .i64 V.hp.tk) /\ w' = w1) := fun w1 d1 q => words_any w1 q.rest.ch
   have HT : Hid (∀ w1, (∃ d1, Wm s P Q d1 w1 (V.panic 8 0) /\ FooW s d d1 w w1) -> Calls Tryz.prog 90 #[.pointer (some ⟨s.mb, s.o + 1, none⟩), .int .i64 V.hp.tk] w1 fun e w' => e = .returned (.tuple #[]) /\ ∃ d', Wm s P Q d' w' { V.panic 8 0 with words := V.hp.tk } /\ FooW s d d' w w') := fun w1 ⟨d1, q1, q2⟩ => (mWordsW q1 V.hp.tk).mono fun e w' ⟨r1, d', r2, r3⟩ => ⟨r1, d', r2, q2.trans r3⟩
   have HCL : Hid (∀ w1 d1, Wm s P Q d1 w1 (V.panic 8 0) -> w1.cell? ⟨s.mb, s.o, none⟩ = some (.pointer (some ⟨s.hb, 0, none⟩)) /\ s.mb < w1.heap.size) := fun w1 d1 q => ⟨q.cells.c0, q.cells.lt⟩
   generalize ({ V.panic 8 0 with words := V.hp.tk } : Wv) = V2 at *
   generalize V.panic 8 0 = V3 at *
   generalize V.hp.tk = tk at *
   clear e h hn hm
   generalize s.mb = mb at *
   generalize s.o = so at *
   generalize s.hb = hb at *
   go_enter Tryz.func70, Tryz.ntmps70
   go_upto_region 7 with (first
    | (go_at_call 54; refine Calls.mono HP.out ?_; rintro e w1 ⟨rfl, h1⟩; obtain ⟨d1, hx⟩ := h1; have HX := show Hid _ from hx; clear hx; obtain ⟨z1, z2⟩ := HCL.out _ _ HX.out.1)
    | (go_at_call 89; refine Calls.mono HG.out ?_; rintro e w0 ⟨rfl, rfl⟩))
   have S8 : (fun w' : World => w'.cell? ⟨mb, so, none⟩ = some (.pointer (some ⟨hb, 0, none⟩)) /\ mb < w'.heap.size) w1.drew := ⟨z1, z2⟩
   have HW2 : Hid _ := HW.out w1.drew d1 (HX.out.1.below (Below.refl _ _).drew)
   have HT2 : Hid _ := HT.out w1.drew ⟨d1, HX.out.1.below (Below.refl _ _).drew, HX.out.2.trans (FooW.of_below (Below.refl _ _).drew)⟩
   refine lec_start (S := fun w' : World => w'.cell? ⟨mb, so, none⟩ = some (.pointer (some ⟨hb, 0, none⟩)) /\ mb < w'.heap.size) (z := 8) (by kernel_rfl) ?_
   show lec _ _ _ _ _ 9 _ _ _
   try simp only [List.size_toArray, List.length_cons, List.length_nil, Array.replicate]
   refine lec_takeP (i := 0) (v := ?v0y) rfl (by kernel_rfl) (by kernel_rfl) (by kernel_rfl) (by kernel_rfl) (fun _ _ _ h => h) (.inl ⟨by rfl, ?hy0y⟩) S8 ?rest0y
   case hy0y =>
    rintro w' _
    go_simp
    all_goals with_reducible rfl
   try simp only [Act.put, List.getElem_toArray, List.getElem_cons_succ, List.getElem_cons_zero, List.setIfInBounds_toArray, List.set_cons_zero, List.set_cons_succ]
   refine lec_takeP (i := 1) (v := ?v1y) rfl (by kernel_rfl) (by kernel_rfl) (by kernel_rfl) (by kernel_rfl) (fun _ _ _ h => h) (.inl ⟨by rfl, ?hy1y⟩) S8 ?rest1y
   case hy1y =>
    rintro w' _
    go_simp
    all_goals with_reducible rfl
   try simp only [Act.put, List.getElem_toArray, List.getElem_cons_succ, List.getElem_cons_zero, List.setIfInBounds_toArray, List.set_cons_zero, List.set_cons_succ]
   refine lec_takeP (i := 2) (v := ?v2y) rfl (by kernel_rfl) (by kernel_rfl) (by kernel_rfl) (by kernel_rfl) (fun _ _ _ h => h) (.inl ⟨by rfl, ?hy2y⟩) S8 ?rest2y
   case hy2y =>
    rintro w' _
    go_simp
    all_goals with_reducible rfl
   try simp only [Act.put, List.getElem_toArray, List.getElem_cons_succ, List.getElem_cons_zero, List.setIfInBounds_toArray, List.set_cons_zero, List.set_cons_succ]
   refine lec_takeP (i := 3) (v := ?v3y) rfl (by kernel_rfl) (by kernel_rfl) (by kernel_rfl) (by kernel_rfl) (fun _ _ _ h => h) (.inl ⟨by rfl, ?hy3y⟩) S8 ?rest3y
   case hy3y =>
    rintro w' _
    go_simp
    all_goals with_reducible rfl
   try simp only [Act.put, List.getElem_toArray, List.getElem_cons_succ, List.getElem_cons_zero, List.setIfInBounds_toArray, List.set_cons_zero, List.set_cons_succ]
   refine lec_takeP (i := 4) (v := ?v4y) rfl (by kernel_rfl) (by kernel_rfl) (by kernel_rfl) (by kernel_rfl) (fun _ _ _ h => h) (.inl ⟨by rfl, ?hy4y⟩) S8 ?rest4y
   case hy4y =>
    rintro w' _
    go_simp
    all_goals with_reducible rfl
   try simp only [Act.put, List.getElem_toArray, List.getElem_cons_succ, List.getElem_cons_zero, List.setIfInBounds_toArray, List.set_cons_zero, List.set_cons_succ]
   refine lec_takeP (i := 5) (v := ?v5y) rfl (by kernel_rfl) (by kernel_rfl) (by kernel_rfl) (by kernel_rfl) (fun _ _ _ h => h) (.inl ⟨by rfl, ?hy5y⟩) S8 ?rest5y
   case hy5y =>
    rintro w' _
    go_simp
    all_goals with_reducible rfl
   try simp only [Act.put, List.getElem_toArray, List.getElem_cons_succ, List.getElem_cons_zero, List.setIfInBounds_toArray, List.set_cons_zero, List.set_cons_succ]
   refine lec_takeT [7, 8] (i := 6) (v := ?v6y) rfl (by kernel_rfl) (by kernel_rfl) (by kernel_rfl) (by kernel_rfl) (fun _ _ _ h => h) (.inl ⟨by rfl, ?hy6y⟩) S8 ?rest6y
   case hy6y =>
    rintro w' ⟨h1, h2⟩
    go_simp
    all_goals with_reducible rfl
   try simp only [Act.put, List.getElem_toArray, List.getElem_cons_succ, List.getElem_cons_zero, List.setIfInBounds_toArray, List.set_cons_zero, List.set_cons_succ]
   refine lec_one (i := 7) rfl (by kernel_rfl) ?_
   intro K7 hK7
   rw [if_pos (by rfl)]
   go_simp
   refine Calls.mono HW2.out ?_
   rintro e w2 ⟨rfl, rfl⟩
   go_simp
   refine hK7 _ _ (fun _ => S8) ?_
   clear hK7
   try simp only [Act.put, List.getElem_toArray, List.getElem_cons_succ, List.getElem_cons_zero, List.setIfInBounds_toArray, List.set_cons_zero, List.set_cons_succ]
   refine lec_one (i := 8) rfl (by kernel_rfl) ?_
   intro K8 hK8
   rw [if_pos (by rfl)]
   go_simp
   refine Calls.mono HT2.out ?_
   rintro e w3 ⟨rfl, h2⟩
   have H2 := show Hid _ from h2
   clear h2
   go_simp
   refine hK8 _ _ (fun h => by cases h) ?_
   clear hK8
   try simp only [Act.put, List.getElem_toArray, List.getElem_cons_succ, List.getElem_cons_zero, List.setIfInBounds_toArray, List.set_cons_zero, List.set_cons_succ]
   refine lec_done (by kernel_rfl) ?_
   clear S8 HW2 HT2 HW HT HCL
   go_wp2_with fail
   go_ret
   exact ⟨rfl, H2.out⟩
end Go.Proofs.YtegoemeefmjnoaaGreatDoor
